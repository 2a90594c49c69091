import PyProof.Rows.All
import Wide.All
import OpenK.AllK
import Wide.FinOn
import Lean
import PyProof.EqAt
import PyProof.EqKinds
import PyProof.TupleCall
import PySem.Challenge.RW_plait_k87_sums_of_the_basis
set_option Elab.async false
set_option linter.all false
set_option maxRecDepth 100000
set_option maxHeartbeats 4000000
namespace L2
open PySem PySem.Spec PyProof.Rows
noncomputable abbrev Key:=Sum Int Str
noncomputable def V5 : Key -> Value -> Bool
  | .inl k, v=>Value.isInt k v
  | .inr x, v=>Value.isStrOf x v
noncomputable def IZ (w : World) : Key -> Int
  | .inl k=>hashInt k
  | .inr x=>hashStr w x
theorem Yr : ∀ {k : Key} {v : Value}, V5 k v = true -> (∃ i t, k = Sum.inl i /\ v = Value.int i t) ∨ (∃ x t, k = Sum.inr x /\ v = Value.str x t)
  | .inl i, v, h=>by
    obtain ⟨t, e⟩:=Value.isInt_shape (k:=i) (v:=v) h
    exact .inl ⟨i, t, rfl, e⟩
  | .inr x, v, h=>by
    obtain ⟨t, e⟩:=Value.isStrOf_shape (x:=x) (v:=v) h
    exact .inr ⟨x, t, rfl, e⟩
theorem Dk (i : Int) (t : Tok) : V5 (.inl i) (.int i t) = true:=by simp [V5, Value.isInt]
theorem Dp (x : Str) (t : Tok) : V5 (.inr x) (.str x t) = true:=by simp [V5, Value.isStrOf]
theorem EZ (a b : Int) : decide ((Sum.inl a : Key) = Sum.inl b) = (a == b):=by
  by_cases e : a = b
  . subst e; simp
  . have h : ¬ (Sum.inl a : Key) = Sum.inl b := fun q => e (Sum.inl.inj q)
    rw [decide_eq_false h]
    exact (beq_eq_false_iff_ne.mpr e).symm
theorem Hs (a b : Str) : decide ((Sum.inr a : Key) = Sum.inr b) = decide (a = b):=by
  by_cases e : a = b
  . subst e; simp
  . have h : ¬ (Sum.inr a : Key) = Sum.inr b := fun q => e (Sum.inr.inj q)
    rw [decide_eq_false h, decide_eq_false e]
theorem Ha (a : Int) (b : Str) : decide ((Sum.inl a : Key) = Sum.inr b) = false:=decide_eq_false (fun q=>nomatch q)
theorem Hm (a : Str) (b : Int) : decide ((Sum.inr a : Key) = Sum.inl b) = false:=decide_eq_false (fun q=>nomatch q)
noncomputable def Yu (prog : Program) (w : World) : PySem.KeyKind prog w Key where
  is:=V5
  hash:=IZ w
  inj:=fun v a b ha hb=>by
    rcases Yr ha with ⟨i, t, rfl, rfl⟩ | ⟨x, t, rfl, rfl⟩
    . rcases Yr hb with ⟨j, u, rfl, e⟩ | ⟨y, u, rfl, e⟩
      . injection e with e1 _; rw [e1]
      . exact nomatch e
    . rcases Yr hb with ⟨j, u, rfl, e⟩ | ⟨y, u, rfl, e⟩
      . exact nomatch e
      . injection e with e1 _; rw [e1]
  byValue := fun k v h => by
    rcases Yr h with ⟨i, t, rfl, rfl⟩ | ⟨x, t, rfl, rfl⟩ <;> rfl
  pyHash:=fun hv h=>by
    rcases Yr hv with ⟨i, t, rfl, rfl⟩ | ⟨x, t, rfl, rfl⟩
    . exact wpAny_pyHash_int h
    . exact wpAny_pyHash_str h
  eqBool:=fun hu hv h=>by
    rcases Yr hu with ⟨i, t, rfl, rfl⟩ | ⟨x, t, rfl, rfl⟩
    . rcases Yr hv with ⟨j, u, rfl, rfl⟩ | ⟨y, u, rfl, rfl⟩
      . rw [EZ] at h; exact wpAny_eqBool_int h
      . rw [Ha] at h; exact SeqAt.EqAt.int_str i t y u _ _ _ _ h
    . rcases Yr hv with ⟨j, u, rfl, rfl⟩ | ⟨y, u, rfl, rfl⟩
      . rw [Hm] at h; exact SeqAt.EqAt.str_int x t j u _ _ _ _ h
      . rw [Hs] at h; exact wpAny_eqBool_str h
  «strs»:=fun k x t v h=>by
    rcases Yr h with ⟨i, u, rfl, e⟩ | ⟨y, u, rfl, e⟩
    . exact nomatch e
    . injection e with e1 _
      subst e1
      cases v <;> rfl
theorem Kv (prog : Program) (w : World) (i : Int) (t : Tok) : (Yu prog w).is (.inl i) (.int i t) = true:=Dk i t
theorem U4 (prog : Program) (w : World) (x : Str) (t : Tok) : (Yu prog w).is (.inr x) (.str x t) = true:=Dp x t
end L2
namespace L2
open PySem PySem.Spec PyProof.Rows
inductive V where
  | non | bl (b : Bool) | int (i : Int) | str (x : Str) | byt (b : Array UInt8) | flt (b : UInt64) | ref (a : Addr) | ty (n : String)
  deriving DecidableEq
noncomputable def Yi : V -> Value -> Prop
  | .non, u=>u = Value.none
  | .bl b, u=>u = Value.bool b
  | .int i, u=>∃ t, u = Value.int i t
  | .str x, u=>∃ t, u = Value.str x t
  | .byt b, u=>∃ t, u = Value.bytes b t
  | .flt b, u=>∃ t, u = Value.float b t
  | .ref a, u=>u = Value.ref a
  | .ty n, u=>u = Value.type n
noncomputable abbrev Yq : List V -> List Value -> Prop:=Paired Yi
theorem Yq.length {xs : List V} {us : List Value} (r : Yq xs us) : xs.length = us.length:=Paired.length r
theorem Yq.get : ∀ {xs : List V} {us : List Value} {i : Nat} {x : V}, Yq xs us -> xs[i]? = some x -> ∃ u, us[i]? = some u /\ Yi x u
  | _, _, _, _, .nil, e=>by simp at e
  | _, _, 0, _, .cons r _, e=>by simp at e; subst e; exact ⟨_, rfl, r⟩
  | _, _, i + 1, x, .cons _ t, e=>by
    obtain ⟨u, h1, h2⟩:=Yq.get (i:=i) (x:=x) t (by simpa using e)
    exact ⟨u, by simpa using h1, h2⟩
theorem Yq.set {x : V} {u : Value} (r : Yi x u) : ∀ {xs : List V} {us : List Value} (i : Nat), Yq xs us -> Yq (xs.set i x) (us.set i u)
  | _, _, _, .nil=>.nil
  | _, _, 0, .cons _ t=>.cons r t
  | _, _, i + 1, .cons q t=>.cons q (Yq.set r i t)
theorem Yq.append : ∀ {xs ys : List V} {us ws : List Value}, Yq xs us -> Yq ys ws -> Yq (xs ++ ys) (us ++ ws):=fun p s=>by
  induction p with
  | nil=>exact s
  | cons r _ ih=>exact .cons r ih
theorem Yq.take : ∀ {xs : List V} {us : List Value} (n : Nat), Yq xs us -> Yq (xs.take n) (us.take n)
  | _, _, 0, _=>.nil
  | _, _, _ + 1, .nil=>.nil
  | _, _, n + 1, .cons r t=>.cons r (Yq.take n t)
theorem Yq.drop : ∀ {xs : List V} {us : List Value} (n : Nat), Yq xs us -> Yq (xs.drop n) (us.drop n)
  | _, _, 0, r=>r
  | _, _, _ + 1, .nil=>.nil
  | _, _, n + 1, .cons _ t=>Yq.drop n t
noncomputable def GQ : Option V -> Option Value -> Prop
  | some v, some u=>Yi v u
  | none, none=>True
  | _, _=>False
noncomputable def KV {κ : Type} : List (κ × V) -> List (κ × Value) -> Prop:=Paired fun (p : κ × V) (q : κ × Value)=>p.1 = q.1 /\ Yi p.2 q.2
noncomputable def kV : Key -> V
  | .inl i=>.int i
  | .inr x=>.str x
inductive HO where
  /-- a list -/
  | lst (xs : List V)
  /-- a tuple (never changes) -/
  | tup (xs : List V)
  /-- a dict whose keys are ints and texts; one whose keys are tuples of ints and texts (the empty one is both) -/
  | dK (kvs : List (Key × V)) | dT (kvs : List (List Key × V))
  /-- a set of ints: its members, its size -/
  | set (S : Int -> Bool) (n : Nat)
  /-- an instance of the class at C, its dict at dx, its attributes -/
  | ins (C dx : Addr) (fs : List (Str × V))
  /-- the dict of the instance at x -/
  | own (x : Addr)
  /-- the dict of an exception -/
  | xd (fs : List (Str × V))
  /-- a bound method, f of x -/
  | met (f x : Addr)
  /-- a range object lo, lo + 1, .. below hi -/
  | rng (lo hi : Int)
  /-- a thing that is known to the object (the script; a dict while a loop walks it): read, never written while it is so -/
  | frz (o : Obj) (u : HO)
  /-- a code object's table -/
  | tbl (ps : Array Value)
  /-- any other thing, by what is true of its one object (a def of one's own: SetO a S n:=HO.ext fun h=>..) -/
  | ext (φ : Heap -> Prop)
noncomputable abbrev Hp:=Addr -> Option HO
noncomputable def upd (H : Hp) (a : Addr) (o : HO) : Hp:=fun b=>if b = a then some o else H b
theorem Yj {H : Hp} {a : Addr} {o : HO} : upd H a o a = some o:=by unfold upd; rw [if_pos rfl]
theorem Xq {H : Hp} {a b : Addr} {o : HO} (h : b ≠ a) : upd H a o b = H b:=by unfold upd; rw [if_neg h]
theorem GZ {H : Hp} {a b : Addr} {o u : HO} (h : H a = some o) (h' : H b = some u) (d : o ≠ u) : a ≠ b:=by
  intro e; subst e; rw [h] at h'; exact d (Option.some.inj h')
theorem XI {H : Hp} {a b : Addr} {o : HO} (h : H a = some o) (h' : H b = none) : a ≠ b:=by
  intro e; subst e; rw [h] at h'; cases h'
section
variable (P : Program) (w : World)
noncomputable def Y5 (H : Hp) (h : Heap) (a : Addr) : HO -> Prop
  | .lst xs=>xs.length <= sizeLine /\ ∃ (its : List Value) (n : Nat), Yq xs its /\ h.get? a = some { cls:=.type "list", data:=.seq its.toArray n }
  | .tup xs=>xs.length <= sizeLine /\ ∃ its : List Value, Yq xs its /\ IsTup h a its.toArray
  | .dK kvs=>kvs.length <= sizeLine /\ (a == sysModules) = false /\ ∃ vs, KV kvs vs /\ h.DictOf (Yu P w) a vs
  | .dT kvs=>kvs.length <= sizeLine /\ (a == sysModules) = false /\ ∃ xs : List (List Key × Addr × Value),
      Paired (fun (p : List Key × V) (q : List Key × Addr × Value)=>p.1 = q.1 /\ H q.2.1 = some (.tup (p.1.map kV)) /\ Yi p.2 q.2.2) kvs xs /\
      ∃ o es ep, h.get? a = some o /\ o.ExactDict /\ o.data = .dict es ep /\ es.toList = xs.map (entryOfKey (tupleKind (Yu P w))) /\ (xs.map (·.1)).Nodup
  | .set S n=>h.SetOf (intKind P w) a S n
  | .ins C dx fs=>H dx = some (.own a) /\ fs.length <= 1000 /\ dx ≠ a /\ h.get? a = some (PySem.W.instObj C dx) /\
      ∃ mA, h.Ns1 dx mA /\ (∀ f, GQ (fs.lookup f) (mA f)) /\ PySem.Within mA (fs.map (·.1))
  | .own _=>∃ o, h.get? a = some o
  | .xd fs=>∃ mA, h.Ns1 a mA /\ ∀ f, GQ (fs.lookup f) (mA f)
  | .rng lo hi=>∃ t u v, h.get? a = some { cls:=.type "range", data:=.fields #[.int lo t, .int hi u, .int 1 v] }
  | .frz o u=>h.get? a = some o /\ Y5 H h a u
  | .tbl ps=>h.get? a = some { cls:=.none, data:=.fields ps }
  | .met f x=>h.get? a = some (PySem.W.methodObj (.ref f) (.ref x))
  | .ext φ=>φ h /\ (∃ o, h.get? a = some o) /\ ∀ h1 h2 : Heap, φ h1 -> (∀ o, h1.get? a = some o -> h2.get? a = some o) -> φ h2
noncomputable def HOk (H : Hp) (h : Heap) : Prop:=∀ a o, H a = some o -> Y5 P w H h a o
end
section
variable {P : Program} {w : World} {H H' : Hp} {h h' : Heap} {a : Addr} {o : HO}
theorem Y5.lt (x : Y5 P w H h a o) : a < h.objs.size:=by
  cases o with
  | lst xs=>obtain ⟨_, _, _, _, e⟩:=x; exact Heap.lt_size e
  | tup xs=>obtain ⟨_, _, _, p⟩:=x; exact p.lt
  | dK kvs=>obtain ⟨_, _, _, _, o, _, _, e, _⟩:=x; exact Heap.lt_size e
  | dT kvs=>obtain ⟨_, _, _, _, o, _, _, e, _⟩:=x; exact Heap.lt_size e
  | set S n=>obtain ⟨o, _, _, _, e, _⟩:=x; exact Heap.lt_size e
  | ins C dx fs=>obtain ⟨_, _, _, e, _⟩:=x; exact Heap.lt_size e
  | own y=>obtain ⟨_, e⟩:=x; exact Heap.lt_size e
  | xd fs=>obtain ⟨_, ⟨_, _, _, e, _⟩, _⟩:=x; exact Heap.lt_size e
  | rng lo hi=>obtain ⟨_, _, _, e⟩:=x; exact Heap.lt_size e
  | frz ob u=>obtain ⟨e, _⟩:=x; exact Heap.lt_size e
  | tbl ps=>exact Heap.lt_size (show h.get? a = some _ from x)
  | met f y=>exact Heap.lt_size (show h.get? a = some _ from x)
  | ext φ=>obtain ⟨_, ⟨_, e⟩, _⟩:=x; exact Heap.lt_size e
theorem Paired.mapP {α β : Type} {F G : α -> β -> Prop} : ∀ {l₁ : List α} {l₂ : List β}, Paired F l₁ l₂ -> (∀ a b, F a b -> G a b) -> Paired G l₁ l₂:=fun p f=>by
  induction p with
  | nil=>exact .nil
  | cons r _ ih=>exact .cons (f _ _ r) ih
theorem Y5.stay (x : Y5 P w H h a o) (k : ∀ b u, (b = a ∨ H b = some (.own a)) -> h.get? b = some u -> h'.get? b = some u)
    (ho : ∀ b, H b = some (.own a) -> H' b = some (.own a)) (ht : ∀ b xs, H b = some (.tup xs) -> H' b = some (.tup xs)) : Y5 P w H' h' a o:=by
  induction o with
  | lst xs=>obtain ⟨z, its, n, r, e⟩:=x; exact ⟨z, its, n, r, k _ _ (.inl rfl) e⟩
  | tup xs=>obtain ⟨z, its, r, ob, e, c⟩:=x; exact ⟨z, its, r, ob, k _ _ (.inl rfl) e, c⟩
  | dK kvs=>obtain ⟨z, y, vs, r, ob, es, ep, e, c⟩:=x; exact ⟨z, y, vs, r, ob, es, ep, k _ _ (.inl rfl) e, c⟩
  | dT kvs=>
    obtain ⟨z, y, xs, r, ob, es, ep, e, c⟩:=x
    exact ⟨z, y, xs, Paired.mapP r fun p q z=>⟨z.1, ht _ _ z.2.1, z.2.2⟩, ob, es, ep, k _ _ (.inl rfl) e, c⟩
  | set S n=>obtain ⟨ob, es, ep, t, e, c⟩:=x; exact ⟨ob, es, ep, t, k _ _ (.inl rfl) e, c⟩
  | ins C dx fs=>
    obtain ⟨d, z, ne, e, mA, ⟨od, es, ep, e2, c⟩, r⟩:=x
    exact ⟨ho _ d, z, ne, k _ _ (.inl rfl) e, mA, ⟨od, es, ep, k _ _ (.inr d) e2, c⟩, r⟩
  | own y=>obtain ⟨ob, e⟩:=x; exact ⟨ob, k _ _ (.inl rfl) e⟩
  | xd fs=>obtain ⟨mA, ⟨od, es, ep, e, c⟩, r⟩:=x; exact ⟨mA, ⟨od, es, ep, k _ _ (.inl rfl) e, c⟩, r⟩
  | rng lo hi=>obtain ⟨t, u, v, e⟩:=x; exact ⟨t, u, v, k _ _ (.inl rfl) e⟩
  | frz ob u ih=>obtain ⟨e, q⟩:=x; exact ⟨k _ _ (.inl rfl) e, ih q⟩
  | tbl ps=>
    have e : h.get? a = some { cls:=.none, data:=.fields ps }:=x
    show h'.get? a = some { cls:=.none, data:=.fields ps }
    exact k a _ (.inl rfl) e
  | met f y=>
    have e : h.get? a = some (PySem.W.methodObj (.ref f) (.ref y)):=x
    show h'.get? a = some (PySem.W.methodObj (.ref f) (.ref y))
    exact k a _ (.inl rfl) e
  | ext φ=>obtain ⟨p, ⟨o, e⟩, st⟩:=x; exact ⟨st _ _ p fun o q=>k _ _ (.inl rfl) q, ⟨o, k _ _ (.inl rfl) e⟩, st⟩
theorem HOk.lt (x : HOk P w H h) (e : H a = some o) : a < h.objs.size:=(x a o e).lt
theorem HOk.fresh (x : HOk P w H h) (e : h.objs.size <= a) : H a = none:=by
  cases q : H a with
  | none=>rfl
  | some u=>exact absurd (Nat.lt_of_lt_of_le (x.lt q) e) (Nat.lt_irrefl _)
theorem HOk.kept (x : HOk P w H h) (k : ∀ b u, h.get? b = some u -> h'.get? b = some u) : HOk P w H h':=fun a o e=>
  (x a o e).stay (fun b u _ q=>k b u q) (fun _ q=>q) fun _ _ q=>q
theorem HOk.laid (x : HOk P w H h) (k : ∀ b u, h.get? b = some u -> h'.get? b = some u) (hp : h.objs.size <= a) (new : Y5 P w (upd H a o) h' a o) : HOk P w (upd H a o) h':=fun b u e=>by
  have hn:=x.fresh hp
  by_cases hb : b = a
  . subst hb; rw [Yj] at e; cases e; exact new
  . rw [Xq hb] at e
    exact (x b u e).stay (fun c v _ q=>k c v q) (fun c q=>by rw [Xq (XI q hn)]; exact q) fun c xs q=>by rw [Xq (XI q hn)]; exact q
end
noncomputable def Rd (H : Hp) (a : Addr) (u : HO) : Prop:=H a = some u ∨ ∃ o, H a = some (.frz o u)
theorem Rd.of {H : Hp} {a : Addr} {u : HO} (h : H a = some u) : Rd H a u:=.inl h
theorem Rd.ok {P : Program} {w : World} {H : Hp} {h : Heap} {a : Addr} {u : HO} (r : Rd H a u) (x : HOk P w H h) : Y5 P w H h a u:=by
  rcases r with r | ⟨o, r⟩
  . exact x a u r
  . obtain ⟨_, q⟩ := x a _ r
    exact q
noncomputable def Mut : Option HO -> Prop
  | some (.lst _)=>True
  | some (.dK _)=>True
  | some (.dT _)=>True
  | some (.set _ _)=>True
  | some (.ins _ _ _)=>True
  | some (.ext _)=>True
  | _=>False
section
variable {P : Program} {w : World} {H : Hp} {h h' : Heap} {x e : Addr} {o' : HO}
theorem HOk.write (ok : HOk P w H h) (mu : Mut (H x)) (he : e = x ∨ H e = some (.own x)) (k : ∀ b u, b ≠ e -> h.get? b = some u -> h'.get? b = some u) (heo : ∃ u, h'.get? e = some u)
    (new : Y5 P w (upd H x o') h' x o') : HOk P w (upd H x o') h':=fun b u q=>by
  have nown : ∀ c y, H c = some (.own y) -> c ≠ x:=fun c y r z=>by subst z; rw [r] at mu; exact mu
  have ntup : ∀ c xs, H c = some (.tup xs) -> c ≠ x:=fun c xs r z=>by subst z; rw [r] at mu; exact mu
  by_cases hb : b = x
  . subst hb; rw [Yj] at q; cases q; exact new
  . rw [Xq hb] at q
    by_cases hbe : b = e
    . have q' : H b = some (.own x):=by
        rcases he with z | z
        . exact absurd (hbe.trans z) hb
        . rw [hbe]; exact z
      rw [q] at q'; cases q'
      obtain ⟨v, hv⟩:=heo
      exact ⟨v, by rw [hbe]; exact hv⟩
    . refine (ok b u q).stay (fun c v hc r => k c v ?_ r) (fun c r => by rw [Xq (nown c b r)]; exact r) fun c xs r => by rw [Xq (ntup c xs r)]; exact r
      rcases hc with rfl | hc
      . exact hbe
      . rintro rfl
        rcases he with z | z
        . exact nown c b hc z
        . rw [hc] at z; cases z; exact hb rfl
end
structure Un (fs ex : List Addr) (H H' : Hp) (h h' : Heap) : Prop where
  keep : ∀ b o, h.get? b = some o -> H b = none -> b ∉ fs -> b ∉ ex -> h'.get? b = some o
  slot : ∀ b o, h.get? b = some o -> H b = none -> b ∈ fs -> b ∉ ex -> ∃ sl, h'.get? b = some { o with slots:=sl }
  free : ∀ b o, h.get? b = some o -> H b = none -> b ∉ ex -> H' b = none
  there : ∀ b o, h.get? b = some o -> b ∉ ex -> ∃ o', h'.get? b = some o'
  tups : ∀ b xs, H b = some (.tup xs) -> H' b = some (.tup xs)
  frzs : ∀ b o u, H b = some (.frz o u) -> H' b = some (.frz o u)
  tbls : ∀ b ps, H b = some (.tbl ps) -> ∃ more, H' b = some (.tbl (ps ++ more))
section
variable {fs fs' ex ex' : List Addr} {H H1 H2 : Hp} {h h1 h2 h' : Heap} {a x e : Addr} {o : HO}
theorem Un.any (u : Un fs ex H H1 h h1) {b : Addr} {ob : Obj} (q : h.get? b = some ob) (n : H b = none) (hx : b ∉ ex) : ∃ sl, h1.get? b = some { ob with slots:=sl }:=by
  by_cases hb : b ∈ fs
  . exact u.slot b ob q n hb hx
  . exact ⟨ob.slots, u.keep b ob q n hb hx⟩
theorem Un.trans (a : Un fs ex H H1 h h1) (b : Un fs ex H1 H2 h1 h2) : Un fs ex H H2 h h2 where
  keep:=fun c ob q n hc hx=>b.keep c ob (a.keep c ob q n hc hx) (a.free c ob q n hx) hc hx
  slot:=fun c ob q n hc hx=>by
    obtain ⟨sl, e1⟩:=a.slot c ob q n hc hx
    obtain ⟨sl', e2⟩:=b.slot c _ e1 (a.free c ob q n hx) hc hx
    exact ⟨sl', e2⟩
  free:=fun c ob q n hx=>by
    obtain ⟨o', e1⟩:=a.there c ob q hx
    exact b.free c o' e1 (a.free c ob q n hx) hx
  there:=fun c ob q hx=>by
    obtain ⟨o', e1⟩:=a.there c ob q hx
    exact b.there c o' e1 hx
  tups:=fun c xs q=>b.tups c xs (a.tups c xs q)
  frzs:=fun c ob xs q=>b.frzs c ob xs (a.frzs c ob xs q)
  tbls:=fun c ps q=>by
    obtain ⟨m1, e1⟩:=a.tbls c ps q
    obtain ⟨m2, e2⟩:=b.tbls c _ e1
    exact ⟨m1 ++ m2, by rw [e2, Array.append_assoc]⟩
theorem Un.kept (k : ∀ b u, h.get? b = some u -> h'.get? b = some u) : Un fs ex H H h h':=
  ⟨fun b ob q _ _ _=>k b ob q, fun b ob q _ _ _=>⟨ob.slots, k b ob q⟩, fun _ _ _ n _=>n, fun b ob q _=>⟨ob, k b ob q⟩, fun _ _ q=>q, fun _ _ _ q=>q, fun _ ps q=>⟨#[], by rw [q]; simp⟩⟩
theorem Un.refl : Un fs ex H H h h:=Un.kept fun _ _ q=>q
theorem Un.laid (k : ∀ b u, h.get? b = some u -> h'.get? b = some u) (hp : h.objs.size <= a) (hn : H a = none) : Un fs ex H (upd H a o) h h' where
  keep:=fun b u q _ _ _=>k b u q
  slot:=fun b u q _ _ _=>⟨u.slots, k b u q⟩
  free:=fun b u q n _=>by rw [Xq (Nat.ne_of_lt (Nat.lt_of_lt_of_le (Heap.lt_size q) hp))]; exact n
  there:=fun b u q _=>⟨u, k b u q⟩
  tups:=fun b xs q=>by rw [Xq (XI q hn)]; exact q
  frzs:=fun b u xs q=>by rw [Xq (XI q hn)]; exact q
  tbls:=fun b ps q=>⟨#[], by rw [Xq (XI q hn), q]; simp⟩
theorem Un.write (mu : Mut (H x)) (he : e = x ∨ H e = some (.own x)) (k : ∀ b u, b ≠ e -> h.get? b = some u -> h'.get? b = some u) (heo : ∃ u, h'.get? e = some u) : Un fs ex H (upd H x o) h h':=by
  have hx : ∀ b, H b = none -> b ≠ x:=fun b n z=>by subst z; rw [n] at mu; exact mu
  have hb : ∀ b, H b = none -> b ≠ e:=fun b n z=>by
    subst z
    rcases he with r | r
    . exact hx b n r
    . rw [n] at r; cases r
  have hm : ∀ b u, H b = some u -> ¬ Mut (some u) -> b ≠ x:=fun b u q nm z=>by subst z; rw [q] at mu; exact nm mu
  refine ⟨fun b u q n _ _=>k b u (hb b n) q, fun b u q n _ _=>⟨u.slots, k b u (hb b n) q⟩, fun b u q n _=>by rw [Xq (hx b n)]; exact n, fun b u q _=>?_,
    fun b xs q=>by rw [Xq (hm b _ q fun z=>z)]; exact q, fun b u xs q=>by rw [Xq (hm b _ q fun z=>z)]; exact q, fun b ps q=>⟨#[], by rw [Xq (hm b _ q fun z=>z), q]; simp⟩⟩
  by_cases hbe : b = e
  . subst hbe; exact heo
  . exact ⟨u, k b u hbe q⟩
theorem Un.mono (u : Un fs ex H H1 h h1) (hs : ∀ b ∈ fs, b ∈ fs') (hx : ∀ b ∈ ex, b ∈ ex') : Un fs' ex' H H1 h h1:=
  ⟨fun b ob q n hb he=>u.keep b ob q n (fun z=>hb (hs b z)) fun z=>he (hx b z), fun _ _ q n _ he=>u.any q n fun z=>he (hx _ z), fun b ob q n he=>u.free b ob q n fun z=>he (hx b z), fun b ob q he=>u.there b ob q fun z=>he (hx b z), u.tups, u.frzs, u.tbls⟩
end
noncomputable def trk (h : Heap) (H : Hp) : List Addr:=(List.range h.objs.size).filter fun a=>(H a).isSome
noncomputable def DP (h : Heap) (H : Hp) : Heap:=PySem.W.hideAll h (trk h H)
theorem Dz (h : Heap) (H : Hp) : (DP h H).objs.size = h.objs.size:=PySem.W.hideAll_size _ _
theorem KN {h : Heap} {H : Hp} {b : Addr} {o : Obj} (e : h.get? b = some o) (n : H b = none) : (DP h H).get? b = some o:=
  PySem.W.hideAll_get _ e fun hm=>by
    have q : (H b).isSome = true:=(List.mem_filter.mp hm).2
    rw [n] at q; simp at q
theorem Et {h : Heap} {H : Hp} {b : Addr} {o : Obj} (e : (DP h H).get? b = some o) : h.get? b = some o /\ H b = none:=by
  have e' : h.get? b = some o:=PySem.W.of_hideAll (trk h H) e
  refine ⟨e', ?_⟩
  cases q : H b with
  | none=>rfl
  | some x=>
    have hm : b ∈ trk h H:=List.mem_filter.mpr ⟨List.mem_range.mpr (Heap.lt_size e'), by simp [q]⟩
    have z : (DP h H).get? b = none:=PySem.W.hideAll_none (trk h H) hm
    rw [z] at e; cases e
noncomputable def Ek (g h : Heap) (L : Addr) : List (Addr × Obj):=(List.range h.objs.size).filterMap fun a=>if a = L ∨ (g.get? a).isSome = true then none else (h.get? a).map fun o=>(a, o)
noncomputable def rest (g h : Heap) (L d : Addr) : List (Addr × Obj):=(Ek g h L).filter fun p=>decide (p.1 ≠ d)
end L2
namespace L2
open PySem PySem.Spec PyProof.Rows
structure Mod (K : PySem.W.Frag) (mg : Str -> Option Value) (base : Heap) : Prop where
  kin : K.In base
  glob : base.Ns mainGlobals mg
  blt : ∃ mb, base.Ns builtinsNs mb /\ ∀ x : Str, x ≠ "__name__" -> mb x = bootBuiltins x
  nolimit : base.NoLimit
structure Cx where
  prog : Program
  w : World
  K : PySem.W.Frag
  mg : Str -> Option Value
  base : Heap
  A : Around
  N : List Str
  s₀ : Shared
  H₀ : Hp
  env : Env
  outer : List Env
  stack : List Env
  ex : List Addr
  fn : Str -> Bool
  calm : Bool
  pn : List (Addr × Obj)
  xe : Value -> Shared -> Prop
noncomputable def frs (l : List Env) : List Addr:=l.filterMap (·.frame)
noncomputable abbrev Cx.fs (X : Cx) : List Addr:=frs X.outer
noncomputable def Vis (sc : Scope) (x : Str) : Prop:=sc.names.lookup x = some .local ∨ sc.names.lookup x = some .cell ∨ sc.names.lookup x = some .free
noncomputable def Loc (sc : Scope) (x : Str) : Prop:=sc.names.lookup x = some .local ∨ sc.names.lookup x = some .cell
noncomputable def IU (env : Env) (h : Heap) (m : Str -> Option Value) (x : Str) (u : Value) : Prop:=
  (env.kindOf x = some .local /\ m x = some u) ∨ ((env.kindOf x = some .cell ∨ env.kindOf x = some .free) /\ ∃ c, env.cells.lookup x = some c /\ h.IsCell c (some u))
structure Cx.Ok (X : Cx) : Prop where
  mod : Mod X.K X.mg X.base
  kind : X.env.scope.kind = .function
  glob : X.env.globals = mainGlobals
  blt : X.env.builtins = builtinsNs
  above : X.s₀.heap.objs.size <= X.env.locals
  inj : ∀ x y c, X.env.cells.lookup x = some c -> X.env.cells.lookup y = some c -> x = y
  has : ∀ x, (X.env.kindOf x = some .cell ∨ X.env.kindOf x = some .free) -> ∃ c, X.env.cells.lookup x = some c
  cab : ∀ x c, X.fn x = true -> X.env.cells.lookup x = some c -> X.s₀.heap.objs.size <= c
  hd : X.calm = true -> X.A.handled = none
  frames : X.A.frames = some X.stack
  stk : X.stack = X.outer ∨ (X.stack = X.env :: X.outer /\ X.env.frame = some X.env.locals)
  exf : ∀ b ∈ X.ex, b ≠ X.env.locals /\ ∀ x c, X.env.cells.lookup x = some c -> c ≠ b
  bs : ∀ b o, X.base.get? b = some o -> X.s₀.heap.get? b = some o /\ X.H₀ b = none
  bsz : X.base.objs.size <= X.s₀.heap.objs.size
  noex : ∀ b o, X.base.get? b = some o -> b ∉ X.ex
  exfs : ∀ b ∈ X.ex, b ∉ X.fs
  funs : X.s₀.heap.FunFrames X.base X.outer
  frf : ∀ b ∈ X.fs, X.H₀ b = none
structure Inv (X : Cx) (pins : List (Addr × Obj)) (σ : List (Option V)) (H : Hp) (s : Shared) : Prop where
  ok : X.Ok
  os : s.os = X.s₀.os
  bare : AllBare s.gens
  base : Un X.fs X.ex X.H₀ H X.s₀.heap s.heap
  loc : ∃ m, s.heap.Ns X.env.locals m /\ ∀ (i : Nat) (x : Str) (v : V), X.N[i]? = some x -> σ[i]? = some (some v) -> Vis X.env.scope x -> ∃ u, Yi v u /\ IU X.env s.heap m x u
  cell : ∀ x c, X.env.cells.lookup x = some c -> ∃ v, s.heap.IsCell c v
  free : H X.env.locals = none
  freeC : ∀ x c, X.env.cells.lookup x = some c -> H c = none
  pin : ∀ p ∈ X.pn ++ pins, s.heap.get? p.1 = some p.2 /\ H p.1 = none /\ p.1 ≠ X.env.locals /\ p.1 ∉ X.fs /\ ∀ v, p.2.data ≠ .cell v
  hok : HOk X.prog X.w H s.heap
  len : σ.length = X.N.length
section
variable {X : Cx} {pins : List (Addr × Obj)} {σ : List (Option V)} {H H' : Hp} {s : Shared} {h' : Heap}
theorem Cx.Ok.nofr (ok : X.Ok) {b : Addr} {o : Obj} (e : X.base.get? b = some o) : b ∉ X.fs:=fun hb=>by
  have:=(ok.funs.mem hb).1
  rw [e] at this; cases this
theorem Inv.bs (I : Inv X pins σ H s) : ∀ b o, X.base.get? b = some o -> s.heap.get? b = some o /\ H b = none:=fun b o e=>
  ⟨I.base.keep b o (I.ok.bs b o e).1 (I.ok.bs b o e).2 (I.ok.nofr e) (I.ok.noex b o e), I.base.free b o (I.ok.bs b o e).1 (I.ok.bs b o e).2 (I.ok.noex b o e)⟩
theorem Inv.bk (I : Inv X pins σ H s) : ∀ b o, X.base.get? b = some o -> s.heap.get? b = some o:=fun b o e=>(I.bs b o e).1
theorem Inv.mod (I : Inv X pins σ H s) : Mod X.K X.mg X.base:=I.ok.mod
theorem Inv.kIn (I : Inv X pins σ H s) : X.K.In s.heap:=I.ok.mod.kin.keeps I.bk
theorem Inv.nolimit (I : Inv X pins σ H s) : s.heap.NoLimit:=I.ok.mod.nolimit.keeps I.bk
theorem Inv.lt (I : Inv X pins σ H s) : X.env.locals < s.heap.objs.size:=let ⟨_, hn, _⟩:=I.loc; hn.lt
theorem Inv.sz (I : Inv X pins σ H s) : X.s₀.heap.objs.size <= s.heap.objs.size:=Nat.le_trans I.ok.above (Nat.le_of_lt I.lt)
theorem Inv.nofs (I : Inv X pins σ H s) {a : Addr} (h : s.heap.objs.size <= a) : a ∉ X.fs:=fun hb=>by
  obtain ⟨_, o, ho, _⟩:=I.ok.funs.mem hb
  exact absurd (Nat.lt_of_lt_of_le (Heap.lt_size ho) (Nat.le_trans I.sz h)) (Nat.lt_irrefl _)
theorem Inv.cne (I : Inv X pins σ H s) : ∀ x c, X.env.cells.lookup x = some c -> c ≠ X.env.locals:=fun x c e z=>by
  obtain ⟨v, o, ho, hd⟩:=I.cell x c e
  obtain ⟨m, ⟨o', es, ep, ho', hd', _⟩, _⟩:=I.loc
  rw [z, ho'] at ho; cases ho; rw [hd'] at hd; cases hd
theorem Inv.funs (I : Inv X pins σ H s) : s.heap.FunFrames X.base X.outer:=by
  have all : ∀ (l : List Env), (∀ b ∈ frs l, b ∈ X.fs) -> X.s₀.heap.FunFrames X.base l -> s.heap.FunFrames X.base l:=by
    intro l
    induction l with
    | nil=>intro _ _; trivial
    | cons env r ih=>
      intro hs hl
      obtain ⟨hk, ⟨L, o, hf, hn, ho, hd⟩, hr⟩:=hl
      have hL : L ∈ X.fs:=hs L (by unfold frs; rw [List.filterMap_cons, hf]; exact List.mem_cons_self)
      obtain ⟨sl, e⟩:=I.base.slot L o ho (I.ok.frf L hL) hL fun z=>I.ok.exfs L z hL
      exact ⟨hk, ⟨L, _, hf, hn, e, hd⟩, ih (fun b hb=>hs b (by unfold frs; rw [List.filterMap_cons, hf]; exact List.mem_cons_of_mem _ hb)) hr⟩
  exact all X.outer (fun _ hb=>hb) I.ok.funs
theorem Inv.stack (I : Inv X pins σ H s) : s.heap.FunFrames X.base X.stack:=by
  rcases I.ok.stk with e | ⟨e, hf⟩
  . rw [e]; exact I.funs
  . rw [e]
    obtain ⟨m, hn, _⟩:=I.loc
    refine .cons (by rw [I.ok.kind]; decide) hf hn ?_ I.funs
    exact Heap.get?_none_of_le (Nat.le_trans I.ok.bsz I.ok.above)
theorem Inv.stkSub (I : Inv X pins σ H s) : ∀ b ∈ frs X.stack, b ∈ X.env.locals :: X.fs:=fun b hb=>by
  rcases I.ok.stk with e | ⟨e, hf⟩
  . rw [e] at hb; exact List.mem_cons_of_mem _ hb
  . rw [e] at hb
    unfold frs at hb
    rw [List.filterMap_cons, hf] at hb
    exact hb
theorem Inv.stkFree (I : Inv X pins σ H s) : ∀ b ∈ frs X.stack, H b = none:=fun b hb=>by
  rcases List.mem_cons.mp (I.stkSub b hb) with e | hb
  . rw [e]; exact I.free
  . obtain ⟨_, o, ho, _⟩ := I.ok.funs.mem hb
    exact I.base.free b o ho (I.ok.frf b hb) fun z=>I.ok.exfs b z hb
theorem Inv.step {g' : Array GenState} {t' : Nat} {d' : Drawn} {ch : List Addr} (I : Inv X pins σ H s)
    (hch : ∀ b ∈ ch, (b ∈ X.ex ∨ X.s₀.heap.objs.size <= b) /\ b ≠ X.env.locals /\ (∀ x c, X.env.cells.lookup x = some c -> c ≠ b) /\ ∀ p ∈ X.pn ++ pins, p.1 ≠ b)
    (keep : ∀ b o, b ≠ X.env.locals -> b ∉ X.fs -> b ∉ ch -> s.heap.get? b = some o -> H b = none -> h'.get? b = some o)
    (slot : ∀ b o, b ≠ X.env.locals -> b ∈ X.fs -> b ∉ ch -> s.heap.get? b = some o -> H b = none -> ∃ sl, h'.get? b = some { o with slots:=sl }) (free : ∀ b o, b ∉ ch -> s.heap.get? b = some o -> H b = none -> H' b = none)
    (there : ∀ b o, b ∉ ch -> s.heap.get? b = some o -> ∃ o', h'.get? b = some o')
    (tups : ∀ b xs, H b = some (.tup xs) -> H' b = some (.tup xs)) (frzs : ∀ b o u, H b = some (.frz o u) -> H' b = some (.frz o u)) (tbls : ∀ b ps, H b = some (.tbl ps) -> ∃ more, H' b = some (.tbl (ps ++ more)))
    (ns : ∀ m, s.heap.Ns X.env.locals m -> h'.Ns X.env.locals m) (hok : HOk X.prog X.w H' h') (hg : AllBare g') :
    Inv X pins σ H' { s with heap:=h', gens:=g', drawn:=d', toks:=t' }:=by
  have neL : ∀ b o, X.s₀.heap.get? b = some o -> b ≠ X.env.locals:=fun b o e=>Nat.ne_of_lt (Nat.lt_of_lt_of_le (Heap.lt_size e) I.ok.above)
  have neC : ∀ b o, X.s₀.heap.get? b = some o -> b ∉ X.ex -> b ∉ ch:=fun b o e hx hb=>by
    rcases (hch b hb).1 with z | z
    . exact hx z
    . exact absurd (Nat.lt_of_lt_of_le (Heap.lt_size e) z) (Nat.lt_irrefl _)
  have cellK : ∀ x c, X.env.cells.lookup x = some c -> ∀ v, s.heap.IsCell c v -> h'.IsCell c v:=fun x c e v ⟨o, ho, hd⟩=>by
    have nch : c ∉ ch:=fun z=>(hch c z).2.2.1 x c e rfl
    by_cases hc : c ∈ X.fs
    . obtain ⟨sl, q⟩ := slot c o (I.cne x c e) hc nch ho (I.freeC x c e)
      exact ⟨_, q, hd⟩
    . exact ⟨o, keep c o (I.cne x c e) hc nch ho (I.freeC x c e), hd⟩
  refine ⟨I.ok, I.os, hg, ⟨fun b o e n hb hx=>?_, fun b o e n hb hx=>?_, fun b o e n hx=>?_, fun b o e hx=>?_, fun b xs e=>tups b xs (I.base.tups b xs e), fun b o xs e=>frzs b o xs (I.base.frzs b o xs e), fun b ps e=>?_⟩, ?_, fun x c e=>?_, ?_, fun x c e=>?_, fun p hp=>?_, hok, I.len⟩
  . exact keep b o (neL b o e) hb (neC b o e hx) (I.base.keep b o e n hb hx) (I.base.free b o e n hx)
  . obtain ⟨sl, e1⟩ := I.base.slot b o e n hb hx
    obtain ⟨sl', e2⟩:=slot b _ (neL b o e) hb (neC b o e hx) e1 (I.base.free b o e n hx)
    exact ⟨sl', e2⟩
  . obtain ⟨o', e1⟩ := I.base.there b o e hx
    exact free b o' (neC b o e hx) e1 (I.base.free b o e n hx)
  . obtain ⟨o', e1⟩ := I.base.there b o e hx
    exact there b o' (neC b o e hx) e1
  . obtain ⟨m1, e1⟩ := I.base.tbls b ps e
    obtain ⟨m2, e2⟩:=tbls b _ e1
    exact ⟨m1 ++ m2, by rw [e2, Array.append_assoc]⟩
  . obtain ⟨m, hn, hl⟩ := I.loc
    refine ⟨m, ns m hn, fun i x v e1 e2 e3=>?_⟩
    obtain ⟨u, r, l⟩:=hl i x v e1 e2 e3
    refine ⟨u, r, ?_⟩
    rcases l with l | ⟨k, c, e, z⟩
    . exact .inl l
    . exact .inr ⟨k, c, e, cellK x c e _ z⟩
  . obtain ⟨v, z⟩ := I.cell x c e
    exact ⟨v, cellK x c e v z⟩
  . obtain ⟨m, ⟨o, _, _, ho, _⟩, _⟩ := I.loc
    exact free _ o (fun z=>(hch _ z).2.1 rfl) ho I.free
  . obtain ⟨v, o, ho, hd⟩ := I.cell x c e
    exact free c o (fun z=>(hch c z).2.2.1 x c e rfl) ho (I.freeC x c e)
  . obtain ⟨e, n, ne, nf, d⟩ := I.pin p hp
    have nch : p.1 ∉ ch:=fun z=>(hch p.1 z).2.2.2 p hp rfl
    exact ⟨keep p.1 p.2 ne nf nch e n, free p.1 p.2 nch e n, ne, nf, d⟩
theorem Inv.un {t' : Nat} (I : Inv X pins σ H s) (u : Un X.fs [] H H' s.heap h') (hok : HOk X.prog X.w H' h') : Inv X pins σ H' { s with heap:=h', toks:=t' }:=by
  obtain ⟨m, ⟨o, es, ep, ho, r⟩, _⟩:=id I.loc
  obtain ⟨sl, hL⟩:=u.any ho I.free (by simp)
  exact I.step (g':=s.gens) (d':=s.drawn) (ch:=[]) (fun _ z=>nomatch z) (fun b o _ hb _ e n=>u.keep b o e n hb (by simp)) (fun b o _ hb _ e n=>u.slot b o e n hb (by simp)) (fun b o _ e n=>u.free b o e n (by simp)) (fun b o _ e=>u.there b o e (by simp)) u.tups u.frzs u.tbls (fun m' hm=>by
    obtain ⟨o', es', ep', ho', r'⟩:=hm
    rw [ho] at ho'; cases ho'
    exact ⟨_, es', ep', hL, r'⟩) hok I.bare
theorem Inv.call {g' : Array GenState} {t' : Nat} {d' : Drawn} {ch : List Addr} (I : Inv X pins σ H s) (u : Un (frs X.stack) ch H H' s.heap h') (hok : HOk X.prog X.w H' h') (hg : AllBare g')
    (hch : ∀ b ∈ ch, (b ∈ X.ex ∨ X.s₀.heap.objs.size <= b) /\ b ≠ X.env.locals /\ (∀ x c, X.env.cells.lookup x = some c -> c ≠ b) /\ ∀ p ∈ X.pn ++ pins, p.1 ≠ b) :
    Inv X pins σ H' { s with heap:=h', gens:=g', drawn:=d', toks:=t' }:=by
  obtain ⟨m, ⟨o, es, ep, ho, r⟩, _⟩:=id I.loc
  obtain ⟨sl, hL⟩:=u.any ho I.free fun z=>(hch _ z).2.1 rfl
  exact I.step (ch:=ch) hch (fun b o hL hb hc e n=>u.keep b o e n (fun z=>(List.mem_cons.mp (I.stkSub b z)).elim hL hb) hc) (fun b o _ _ hc e n=>u.any e n hc) (fun b o hc e n=>u.free b o e n hc) (fun b o hc e=>u.there b o e hc) u.tups u.frzs u.tbls (fun m' hm=>by
    obtain ⟨o', es', ep', ho', r'⟩:=hm
    rw [ho] at ho'; cases ho'
    exact ⟨_, es', ep', hL, r'⟩) hok hg
theorem Inv.turned {t' : Nat} {it : Addr} (I : Inv X pins σ H s) (k : ∀ b o, b ≠ it -> s.heap.get? b = some o -> h'.get? b = some o) (hn : H it = none) (hL : it ≠ X.env.locals)
    (h1 : it ∈ X.ex ∨ X.s₀.heap.objs.size <= it) (h2 : ∀ x c, X.env.cells.lookup x = some c -> c ≠ it) (h3 : ∀ p ∈ X.pn ++ pins, p.1 ≠ it) : Inv X pins σ H { s with heap:=h', toks:=t' }:=by
  have nit : ∀ b u, H b = some u -> b ≠ it:=fun b u e z=>by rw [z, hn] at e; cases e
  refine I.step (g':=s.gens) (d':=s.drawn) (ch:=[it]) (fun b hb=>?_) (fun b o _ _ hc e _=>k b o (fun z=>hc (by simp [z])) e) (fun b o _ _ hc e _=>⟨o.slots, k b o (fun z=>hc (by simp [z])) e⟩) (fun _ _ _ _ n=>n)
    (fun b o hc e=>⟨o, k b o (fun z=>hc (by simp [z])) e⟩) (fun _ _ e=>e) (fun _ _ _ e=>e) (fun b ps e=>⟨#[], by rw [e]; simp⟩) (fun m hm=>?_) (fun b u e=>?_) I.bare
  . have e : b = it := by simpa using hb
    subst e
    exact ⟨h1, hL, h2, h3⟩
  . obtain ⟨o, es, ep, ho, r⟩ := hm
    exact ⟨o, es, ep, k _ o (Ne.symm hL) ho, r⟩
  . refine (I.hok b u e).stay (fun c v hc q => k c v ?_ q) (fun _ q => q) fun _ _ q => q
    rcases hc with z | z
    . rw [z]; exact nit b u e
    . exact nit c _ z
theorem Inv.tok (I : Inv X pins σ H s) (t : Nat) : Inv X pins σ H { s with toks:=t }:=I.un (h':=s.heap) (t':=t) Un.refl I.hok
theorem Inv.kept {t' : Nat} (I : Inv X pins σ H s) (k : ∀ b u, s.heap.get? b = some u -> h'.get? b = some u) : Inv X pins σ H { s with heap:=h', toks:=t' }:=I.un (Un.kept k) (I.hok.kept k)
theorem Inv.laid {a : Addr} {o : HO} {t' : Nat} (I : Inv X pins σ H s) (k : ∀ b u, s.heap.get? b = some u -> h'.get? b = some u) (hp : s.heap.objs.size <= a) (new : Y5 X.prog X.w (upd H a o) h' a o) :
    Inv X pins σ (upd H a o) { s with heap:=h', toks:=t' }:=I.un (Un.laid k hp (I.hok.fresh hp)) (I.hok.laid k hp new)
theorem Inv.write {x e : Addr} {o : HO} {t' : Nat} (I : Inv X pins σ H s) (mu : Mut (H x)) (he : e = x ∨ H e = some (.own x)) (k : ∀ b u, b ≠ e -> s.heap.get? b = some u -> h'.get? b = some u) (heo : ∃ u, h'.get? e = some u)
    (new : Y5 X.prog X.w (upd H x o) h' x o) : Inv X pins σ (upd H x o) { s with heap:=h', toks:=t' }:=I.un (Un.write mu he k heo) (I.hok.write mu he k heo new)
theorem Inv.weak {σ' : List (Option V)} (I : Inv X pins σ H s) (hl : σ'.length = σ.length) (w : ∀ (i : Nat) v, σ'[i]? = some (some v) -> σ[i]? = some (some v)) : Inv X pins σ' H s:=
  ⟨I.ok, I.os, I.bare, I.base, let ⟨m, hn, hl'⟩:=I.loc; ⟨m, hn, fun i x v e1 e2 e3=>hl' i x v e1 (w i v e2) e3⟩, I.cell, I.free, I.freeC, I.pin, I.hok, hl.trans I.len⟩
theorem Inv.pins_of {pins' : List (Addr × Obj)} (I : Inv X pins σ H s) (h : ∀ p ∈ pins', s.heap.get? p.1 = some p.2 /\ H p.1 = none /\ p.1 ≠ X.env.locals /\ p.1 ∉ X.fs /\ ∀ v, p.2.data ≠ .cell v) : Inv X pins' σ H s:=
  ⟨I.ok, I.os, I.bare, I.base, I.loc, I.cell, I.free, I.freeC, fun p hp=>(List.mem_append.mp hp).elim (fun z=>I.pin p (List.mem_append_left _ z)) (h p), I.hok, I.len⟩
theorem KS {N : List Str} (hN : N.Nodup) {i j : Nat} {x : Str} (a : N[i]? = some x) (b : N[j]? = some x) : i = j:=by
  obtain ⟨h1, e1⟩:=List.getElem?_eq_some_iff.mp a
  obtain ⟨h2, e2⟩:=List.getElem?_eq_some_iff.mp b
  exact (List.getElem_inj hN).mp (e1.trans e2.symm)
theorem UN {M : Model} {A : Around} {E : Value -> Shared -> Prop} {i : Nat} {x : Str} {v : V} {u : Value} {Q : Unit -> Shared -> Prop} (I : Inv X pins σ H s) (hN : X.N.Nodup) (hi : X.N[i]? = some x) (hx : Loc X.env.scope x) (r : Yi v u)
    (h : ∀ s', Inv X pins (σ.set i (some v)) H s' -> (∃ a, Heap.SameBut a s.heap s'.heap /\ (a = X.env.locals ∨ X.env.cells.lookup x = some a)) -> Q () s') (hf : X.fn x = true ∨ X.env.scope.names.lookup x = some .local:=by first | exact .inl rfl | exact .inr rfl | assumption) : wpAny M A (storeName X.env x u) Q E s:=by
  obtain ⟨m, hn, hl⟩:=id I.loc
  have hcls : (X.env.scope.kind == .class || (X.env.scope.kind == .module && X.env.locals != X.env.globals)) = false:=by rw [I.ok.kind]; rfl
  have hiσ : i < σ.length:=by rw [I.len]; exact (List.getElem?_eq_some_iff.mp hi).1
  have cne:=I.cne
  have tracked : ∀ {a : Addr} {h' : Heap}, (∃ o, s.heap.get? a = some o /\ H a = none) -> Heap.SameBut a s.heap h' -> HOk X.prog X.w H h':=fun {a h'} ha hs b ob e=>by
    obtain ⟨_, _, hfree⟩:=ha
    refine (I.hok b ob e).stay (fun c w' hc q=>(hs.2 c ?_).trans q) (fun _ q=>q) fun _ _ q=>q
    rintro rfl
    rcases hc with rfl | hc
    . rw [hfree] at e; cases e
    . rw [hfree] at hc; cases hc
  rcases hx with hk | hk
  . refine wpAny_storeName_local hk hn (fun h' hn' hs => ?_) hcls
    obtain ⟨oL, _, _, hoL, _⟩:=id hn
    refine h _ ⟨I.ok, I.os, I.bare, ⟨fun b o e n hb hx=>?_, fun b o e n hb hx=>?_, I.base.free, fun b o e hx=>?_, I.base.tups, I.base.frzs, I.base.tbls⟩, ⟨_, hn', fun j y v' e1 e2 e3=>?_⟩, fun y c e=>?_, I.free, I.freeC, fun p hp=>?_, tracked ⟨oL, hoL, I.free⟩ hs, by simpa using I.len⟩ ⟨_, hs, .inl rfl⟩
    . exact (hs.2 b (Nat.ne_of_lt (Nat.lt_of_lt_of_le (Heap.lt_size e) I.ok.above))).trans (I.base.keep b o e n hb hx)
    . obtain ⟨sl, e1⟩ := I.base.slot b o e n hb hx
      exact ⟨sl, (hs.2 b (Nat.ne_of_lt (Nat.lt_of_lt_of_le (Heap.lt_size e) I.ok.above))).trans e1⟩
    . obtain ⟨o', e1⟩ := I.base.there b o e hx
      exact ⟨o', (hs.2 b (Nat.ne_of_lt (Nat.lt_of_lt_of_le (Heap.lt_size e) I.ok.above))).trans e1⟩
    . by_cases hj : j = i
      . subst hj
        rw [hi] at e1; cases e1
        rw [List.getElem?_set_self hiσ] at e2
        cases e2
        exact ⟨u, r, .inl ⟨hk, by simp⟩⟩
      . rw [List.getElem?_set_ne (Ne.symm hj)] at e2
        obtain ⟨u', r', q⟩:=hl j y v' e1 e2 e3
        refine ⟨u', r', ?_⟩
        rcases q with ⟨k, e⟩ | ⟨k, c, e, z⟩
        . refine .inl ⟨k, ?_⟩
          have : y ≠ x:=fun e=>hj (KS hN e1 (e ▸ hi))
          simp [this, e]
        . exact .inr ⟨k, c, e, z.sameBut hs (cne y c e)⟩
    . obtain ⟨w', z⟩ := I.cell y c e
      exact ⟨w', z.sameBut hs (cne y c e)⟩
    . obtain ⟨e, n, ne, nf, d⟩ := I.pin p hp
      exact ⟨(hs.2 p.1 ne).trans e, n, ne, nf, d⟩
  . have hfn : X.fn x = true:=by
      rcases hf with z | z
      . exact z
      . rw [z] at hk; cases hk
    obtain ⟨c, hc⟩:=I.ok.has x (.inl hk)
    obtain ⟨w', z⟩:=I.cell x c hc
    refine wpAny_storeName_cell I.ok.kind hk hc z (fun h' hc' hs=>?_)
    obtain ⟨oc, hoc, hocd⟩:=id z
    refine h { s with heap:=h' } ⟨I.ok, I.os, I.bare, ⟨fun b o e n hb hx=>?_, fun b o e n hb hx=>?_, I.base.free, fun b o e hx=>?_, I.base.tups, I.base.frzs, I.base.tbls⟩, ⟨m, hn.sameBut hs (Ne.symm (cne x c hc)), fun j y v' e1 e2 e3=>?_⟩, fun y c' e=>?_, I.free, I.freeC, fun p hp=>?_, tracked ⟨oc, hoc, I.freeC x c hc⟩ hs, by simpa using I.len⟩ ⟨c, hs, .inr hc⟩
    . exact (hs.2 b (Nat.ne_of_lt (Nat.lt_of_lt_of_le (Heap.lt_size e) (I.ok.cab x c hfn hc)))).trans (I.base.keep b o e n hb hx)
    . obtain ⟨sl, e1⟩ := I.base.slot b o e n hb hx
      exact ⟨sl, (hs.2 b (Nat.ne_of_lt (Nat.lt_of_lt_of_le (Heap.lt_size e) (I.ok.cab x c hfn hc)))).trans e1⟩
    . obtain ⟨o', e1⟩ := I.base.there b o e hx
      exact ⟨o', (hs.2 b (Nat.ne_of_lt (Nat.lt_of_lt_of_le (Heap.lt_size e) (I.ok.cab x c hfn hc)))).trans e1⟩
    . by_cases hj : j = i
      . subst hj
        rw [hi] at e1; cases e1
        rw [List.getElem?_set_self hiσ] at e2
        cases e2
        exact ⟨u, r, .inr ⟨.inl hk, c, hc, hc'⟩⟩
      . rw [List.getElem?_set_ne (Ne.symm hj)] at e2
        obtain ⟨u', r', q⟩:=hl j y v' e1 e2 e3
        refine ⟨u', r', ?_⟩
        rcases q with q | ⟨k, c', e, z'⟩
        . exact .inl q
        . refine .inr ⟨k, c', e, z'.sameBut hs ?_⟩
          rintro rfl
          exact hj (KS hN e1 (I.ok.inj _ _ _ e hc ▸ hi))
    . by_cases hcc : c' = c
      . subst hcc; exact ⟨_, hc'⟩
      . obtain ⟨w2, z2⟩ := I.cell y c' e
        exact ⟨w2, z2.sameBut hs hcc⟩
    . obtain ⟨e, n, ne, nf, d⟩ := I.pin p hp
      refine ⟨(hs.2 p.1 ?_).trans e, n, ne, nf, d⟩
      intro q
      rw [q, hoc] at e
      have q' : oc = p.2:=Option.some.inj e
      exact d w' (by rw [← q']; exact hocd)
theorem VT {M : Model} {A : Around} {E : Value -> Shared -> Prop} {i : Nat} {x : Str} {v : V} {u : Value} {Q : Unit -> Shared -> Prop} (I : Inv X pins σ H s) (hN : X.N.Nodup) (hi : X.N[i]? = some x) (hx : Loc X.env.scope x) (r : Yi v u)
    (h : ∀ s', Inv X pins (σ.set i (some v)) H s' -> Q () s') (hf : X.fn x = true ∨ X.env.scope.names.lookup x = some .local:=by first | exact .inl rfl | exact .inr rfl | assumption) : wpAny M A (storeName X.env x u) Q E s:=
  UN I hN hi hx r (fun s' I' _=>h s' I') hf
theorem Inv.call' {s' : Shared} {ch : List Addr} (I : Inv X pins σ H s) (ho : s'.os = s.os) (u : Un (frs X.stack) ch H H' s.heap s'.heap) (hok : HOk X.prog X.w H' s'.heap) (hg : AllBare s'.gens)
    (hch : ∀ b ∈ ch, (b ∈ X.ex ∨ X.s₀.heap.objs.size <= b) /\ b ≠ X.env.locals /\ (∀ x c, X.env.cells.lookup x = some c -> c ≠ b) /\ ∀ p ∈ X.pn ++ pins, p.1 ≠ b) : Inv X pins σ H' s':=by
  obtain ⟨h', g', d', t', o'⟩:=s'
  have e : o' = s.os:=ho
  subst e
  exact I.call (g':=g') (t':=t') (d':=d') u hok hg hch
end
noncomputable abbrev XK:=Value -> Option Addr -> Hp -> Prop
noncomputable abbrev St:=List (Option V)
noncomputable abbrev VK:=V -> Hp -> Prop
noncomputable abbrev TE:=St -> Hp -> VK -> Prop
noncomputable abbrev TT:=St -> Hp -> (Bool -> Hp -> Prop) -> Prop
noncomputable abbrev TA:=St -> Hp -> (List V -> Hp -> Prop) -> Prop
structure Ends where
  nx : St -> Hp -> Prop
  rt : VK
  bk : St -> Hp -> Prop:=fun _ _=>False
  ct : St -> Hp -> Prop:=fun _ _=>False
noncomputable abbrev TS:=Ends -> St -> Hp -> Prop
noncomputable def EP (X : Cx) (pins : List (Addr × Obj)) (σ : St) (Q : VK) (u : Value) (s' : Shared) : Prop:=∃ v H', Inv X pins σ H' s' /\ Yi v u /\ Q v H'
noncomputable def TP (X : Cx) (pins : List (Addr × Obj)) (σ : St) (Q : Bool -> Hp -> Prop) (b : Bool) (s' : Shared) : Prop:=∃ H', Inv X pins σ H' s' /\ Q b H'
noncomputable def AP (X : Cx) (pins : List (Addr × Obj)) (σ : St) (Q : List V -> Hp -> Prop) (us : List Value) (s' : Shared) : Prop:=∃ vs H', Inv X pins σ H' s' /\ Yq vs us /\ Q vs H'
noncomputable def SP (X : Cx) (pins : List (Addr × Obj)) (D : Ends) (f : Flow) (s' : Shared) : Prop:=
  match f with
  | .next=>∃ σ' H', Inv X pins σ' H' s' /\ D.nx σ' H'
  | .brk=>∃ σ' H', Inv X pins σ' H' s' /\ D.bk σ' H'
  | .cont=>∃ σ' H', Inv X pins σ' H' s' /\ D.ct σ' H'
  | .ret u=>∃ v σ' H', Inv X pins σ' H' s' /\ Yi v u /\ D.rt v H'
noncomputable def PE (X : Cx) (e : Expr) (t : TE) : Prop:=
  ∀ (pins : List (Addr × Obj)) (s : Shared) (σ : St) (H : Hp) (Q : VK), Inv X pins σ H s -> t σ H Q -> wpAny (model X.prog X.w) X.A (eval e X.env) (EP X pins σ Q) X.xe s
noncomputable def PT (X : Cx) (e : Expr) (t : TT) : Prop:=
  ∀ (pins : List (Addr × Obj)) (s : Shared) (σ : St) (H : Hp) (Q : Bool -> Hp -> Prop), Inv X pins σ H s -> t σ H Q -> wpAny (model X.prog X.w) X.A (isTrue e X.env (eval e X.env)) (TP X pins σ Q) X.xe s
noncomputable def PW (X : Cx) (e : Expr) (t : TT) : Prop:=
  ∀ (whole : Sem Value) (pins : List (Addr × Obj)) (s : Shared) (σ : St) (H : Hp) (Q : Bool -> Hp -> Prop), Inv X pins σ H s -> t σ H Q -> wpAny (model X.prog X.w) X.A (isTrue e X.env whole) (TP X pins σ Q) X.xe s
theorem PW.pt {X : Cx} {e : Expr} {t : TT} (h : PW X e t) : PT X e t:=h _
noncomputable def PA (X : Cx) (es : List Expr) (t : TA) : Prop:=
  ∀ (pos : Pos) (pins : List (Addr × Obj)) (s : Shared) (σ : St) (H : Hp) (Q : List V -> Hp -> Prop), Inv X pins σ H s -> t σ H Q -> wpAny (model X.prog X.w) X.A (spliced (backTo pos (starEach es X.env))) (AP X pins σ Q) X.xe s
noncomputable def PS (X : Cx) (st : Stmt) (t : TS) : Prop:=
  ∀ (pins : List (Addr × Obj)) (s : Shared) (σ : St) (H : Hp) (D : Ends), Inv X pins σ H s -> t D σ H -> wpAny (model X.prog X.w) X.A (exec st X.env) (SP X pins D) X.xe s
noncomputable def PSs (X : Cx) (st : List Stmt) (t : TS) : Prop:=
  ∀ (pins : List (Addr × Obj)) (s : Shared) (σ : St) (H : Hp) (D : Ends), Inv X pins σ H s -> t D σ H -> wpAny (model X.prog X.w) X.A (execs st X.env) (SP X pins D) X.xe s
theorem thn {α : Type} {t : Sem α} {Q Q' : α -> Shared -> Prop} {M : Model} {A : Around} {E : Value -> Shared -> Prop} {s : Shared} (h : wpAny M A t Q E s) (hQ : ∀ a s, Q a s -> Q' a s) : wpAny M A t Q' E s:=wpAny_mono h hQ fun _ _ x=>x
end L2
namespace L2
open PySem PySem.Spec PyProof.Rows
section
variable {X : Cx}
noncomputable def U2 (i : Nat) : TE:=fun σ H Q=>∃ v, σ[i]? = some (some v) /\ Q v H
noncomputable def tC (v : V) : TE:=fun _ H Q=>Q v H
theorem Hr {i : Nat} {x : Str} {pos : Pos} (hN : X.N[i]? = some x) (hv : Vis X.env.scope x) (hd : (x == ("__debug__" : Str)) = false:=by decide) (hcd : (x == ("__classdict__" : Str)) = false:=by decide) : PE X (.Name x pos) (U2 i):=by
  intro pins s σ H Q I h
  obtain ⟨v, e, h⟩:=h
  obtain ⟨m, hn, hl⟩:=I.loc
  obtain ⟨u, r, l⟩:=hl i x v hN e hv
  have fin : EP X pins σ Q u s:=⟨v, H, I, r, h⟩
  rcases l with ⟨hk, hm⟩ | ⟨hk, c, hc, hcell⟩
  . exact wpAny_Name (wpAny_loadName_local I.ok.kind hk hn hm fin) hd
  . rcases hk with hk | hk
    . exact wpAny_Name (wpAny_loadName_cell I.ok.kind hk hc hcell fin) hd
    . exact wpAny_Name (wpAny_loadName_free I.ok.kind hk hc hcell fin hcd) hd
theorem Xf {i j pos} : PE X (.Constant (.int i) j pos) (tC (.int i)):=fun _ _ _ H _ I h=>wpAny_Constant_int ⟨.int i, H, I.tok _, ⟨_, rfl⟩, h⟩
theorem Jp {b j pos} : PE X (.Constant (.bool b) j pos) (tC (.bl b)):=fun _ _ _ H _ I h=>Constant_bool ⟨.bl b, H, I, rfl, h⟩
noncomputable def Gl (X : Cx) (x : Str) : Prop:=X.env.kindOf x = some .globalImplicit
theorem G1 {E : Value -> Shared -> Prop} {pins : List (Addr × Obj)} {s : Shared} {σ : St} {H : Hp} {x : Str} {u : Value} {pos : Pos} {Q : Value -> Shared -> Prop} (I : Inv X pins σ H s) (hg : Gl X x) (hm : X.mg x = some u) (h : Q u s)
    (hd : (x == ("__debug__" : Str)) = false:=by decide) : wpAny (model X.prog X.w) X.A (eval (.Name x pos) X.env) Q E s:=
  Calls.Name_function_global I.ok.kind hg (Calls.loadGlobal_global (by rw [I.ok.glob]; exact I.mod.glob.keeps I.bk) hm h) hd
theorem UQ {E : Value -> Shared -> Prop} {pins : List (Addr × Obj)} {s : Shared} {σ : St} {H : Hp} {x : Str} {u : Value} {pos : Pos} {Q : Value -> Shared -> Prop} (I : Inv X pins σ H s) (hg : Gl X x) (hm : X.mg x = none) (hv : bootBuiltins x = some u) (h : Q u s)
    (hn : x ≠ "__name__":=by decide) (hd : (x == ("__debug__" : Str)) = false:=by decide) : wpAny (model X.prog X.w) X.A (eval (.Name x pos) X.env) Q E s:=by
  obtain ⟨mb, h1, h2⟩:=I.mod.blt
  exact Calls.Name_function_global I.ok.kind hg (Calls.loadGlobal_builtin (by rw [I.ok.glob]; exact I.mod.glob.keeps I.bk) hm (by rw [I.ok.blt]; exact h1.keeps I.bk) ((h2 x hn).trans hv) h) hd
theorem B3 {x : Str} {v : V} {u : Value} {pos : Pos} (hg : Gl X x) (hm : X.mg x = some u) (r : Yi v u) (hd : (x == ("__debug__" : Str)) = false:=by decide) : PE X (.Name x pos) (tC v):=
  fun _ _ _ H _ I h=>G1 I hg hm ⟨v, H, I, r, h⟩ hd
variable {a b : Expr} {ta tb : TE} {pos : Pos}
noncomputable def PC (X : Cx) (op : CmpOp) (a b : Expr) (t : TE) : Prop:=
  ∀ (pins : List (Addr × Obj)) (s : Shared) (σ : St) (H : Hp) (Q : VK), Inv X pins σ H s -> t σ H Q ->
    wpAny (model X.prog X.w) X.A (eval a X.env) (fun v s₁=>wpAny (model X.prog X.w) X.A (eval b X.env) (fun u s₂=>wpAny (model X.prog X.w) X.A (compareOp op v u) (EP X pins σ Q) X.xe s₂) X.xe s₁) X.xe s
theorem Ce (b : Expr) {op : CmpOp} (h : op ≠ .In) (h2 : op ≠ .NotIn) : behindInMarks op b = false:=by
  have e1 : (op == CmpOp.In) = false:=by cases op <;> first | rfl | exact absurd rfl h
  have e2 : (op == CmpOp.NotIn) = false:=by cases op <;> first | rfl | exact absurd rfl h2
  cases b <;> simp [behindInMarks, e1, e2]
noncomputable def tB (t : TE) : TT:=fun σ H Q=>t σ H fun x H1=>∃ c, x = .bl c /\ Q c H1
theorem HG {op : CmpOp} {t : TE} (h : PC X op a b t) (h1 : behindInMarks op b = false:=by first | exact Ce _ (by decide) (by decide) | rfl) : PT X (.Compare a [op] [b] pos) (tB t):=by
  intro pins s σ H Q I hw
  refine wpAny_isTrue_Compare1 (thn (h pins s σ H _ I hw) fun v s1 h1=>thn h1 fun u s2 h2=>thn h2 fun c s3 r9=>?_) h1
  obtain ⟨x, H1, I1, r1, q1⟩:=r9
  obtain ⟨d, rfl, q⟩:=q1
  cases r1
  exact wpAny_truthy_bool ⟨H1, I1, q⟩
theorem F0 {e : Expr} {t : TE} (h : PE X e t) (he : ∀ whole, isTrue e X.env whole = (do let v ← whole; standAt e.pos; holding [v] (truthy v)):=by intro _; rfl) : PT X e (tB t):=by
  intro pins s σ H Q I hw
  refine isTrue_plain (thn (h pins s σ H _ I hw) fun v s1 r9=>?_) (he _)
  obtain ⟨x, H1, I1, r1, q1⟩:=r9
  obtain ⟨d, rfl, q⟩:=q1
  cases r1
  exact wpAny_truthy_bool ⟨H1, I1, q⟩
variable {tA tB' : TT} {rest : List Expr}
noncomputable def tOr (t u : TT) : TT:=fun σ H Q=>t σ H fun c H1=>if c = true then Q true H1 else u σ H1 Q
noncomputable def IQ (t : TT) : TT:=fun σ H Q=>t σ H fun c H1=>Q (!c) H1
theorem EO (ha : PT X a tA) : PW X (.BoolOp .Or [a] pos) tA:=by
  intro wh pins s σ H Q I h
  refine isTrue_or (thn (ha pins s σ H Q I h) fun c s1 e=>?_)
  cases c with
  | false=>exact isTrue_or_nil e
  | true=>exact e
theorem Ik (ha : PT X a tA) (hb : PW X (.BoolOp .Or (b :: rest) pos) tB') : PW X (.BoolOp .Or (a :: b :: rest) pos) (tOr tA tB'):=by
  intro wh pins s σ H Q I h
  refine isTrue_or (thn (ha pins s σ H _ I h) fun c s1 r9=>?_)
  obtain ⟨H1, I1, q1⟩:=r9
  cases c with
  | true=>exact ⟨H1, I1, q1⟩
  | false=>exact hb wh pins s1 σ H1 Q I1 q1
theorem G7 (ha : PT X a tA) : PT X (.UnaryOp .Not a pos) (IQ tA):=by
  intro pins s σ H Q I h
  exact isTrue_not (ha pins s σ H (fun c H1=>Q (!c) H1) I h)
noncomputable def tIf (t : TT) (ta tb : TE) : TE:=fun σ H Q=>t σ H fun c H1=>if c = true then ta σ H1 Q else tb σ H1 Q
theorem D0 {c : Expr} (hc : PT X c tA) (ha : PE X a ta) (hb : PE X b tb) : PE X (.IfExp c a b pos) (tIf tA ta tb):=by
  intro pins s σ H Q I h
  refine wpAny_IfExp (thn (hc pins s σ H _ I h) fun d s1 r9=>?_)
  obtain ⟨H1, I1, q1⟩:=r9
  cases d with
  | true=>exact ha pins s1 σ H1 Q I1 q1
  | false=>exact hb pins s1 σ H1 Q I1 q1
end
end L2
namespace L2
open PySem PySem.Spec PyProof.Rows
noncomputable def SqL (K : PySem.W.Frag) (H : Hp) (a : Addr) (xs : List V) : Prop:=
  Rd H a (.lst xs) ∨
    ∃ (o : Obj) (its : Array Value) (n : Nat), K.lookup a = some o /\ o.cls = .type "list" /\ o.dict = none /\ o.data = .seq its n /\ its.size <= sizeLine /\ Yq xs its.toList
noncomputable def SqT (K : PySem.W.Frag) (H : Hp) (a : Addr) (xs : List V) : Prop:=
  Rd H a (.tup xs) ∨
    ∃ (o : Obj) (its : Array Value) (n : Nat), K.lookup a = some o /\ o.cls = .type "tuple" /\ o.data = .seq its n /\ its.size <= sizeLine /\ Yq xs its.toList
noncomputable def IV : Value -> Option V
  | .none=>some .non
  | .bool b=>some (.bl b)
  | .int i _=>some (.int i)
  | .str x _=>some (.str x)
  | .bytes b _=>some (.byt b)
  | .float b _=>some (.flt b)
  | .ref a=>some (.ref a)
  | .type n=>some (.ty n)
  | _=>none
theorem Yi.abs {x : V} {u : Value} (r : Yi x u) : IV u = some x:=by
  cases x with
  | non=>cases r; rfl
  | bl _=>cases r; rfl
  | int _=>obtain ⟨t, rfl⟩:=r; rfl
  | str _=>obtain ⟨t, rfl⟩:=r; rfl
  | byt _=>obtain ⟨t, rfl⟩:=r; rfl
  | flt _=>obtain ⟨t, rfl⟩:=r; rfl
  | ref _=>cases r; rfl
  | ty _=>cases r; rfl
theorem Yi.inj {x y : V} {u : Value} (r : Yi x u) (q : Yi y u) : x = y:=Option.some.inj (r.abs.symm.trans q.abs)
theorem Yq.inj : ∀ {xs ys : List V} {us : List Value}, Yq xs us -> Yq ys us -> xs = ys:=fun {xs ys us} p=>by
  induction p generalizing ys with
  | nil=>intro q; cases q; rfl
  | cons r _ ih=>intro q; cases q with | cons r' t'=>rw [r.inj r', ih t']
section
variable {X : Cx} {pins : List (Addr × Obj)} {σ : St} {H : Hp} {s : Shared} {a : Addr} {xs ys : List V}
theorem SqL.of {K : PySem.W.Frag} (h : H a = some (.lst xs)) : SqL K H a xs:=.inl (.inl h)
theorem SqT.of {K : PySem.W.Frag} (h : H a = some (.tup xs)) : SqT K H a xs:=.inl (.inl h)
theorem Inv.list (I : Inv X pins σ H s) (h : SqL X.K H a xs) : ∃ its : List Value, Yq xs its /\ PlainL s.heap a its.toArray /\ xs.length <= sizeLine:=by
  rcases h with h | ⟨o, its, n, hk, hc, hd, hs, hz, r⟩
  . obtain ⟨z, its, n, r, e⟩ := h.ok I.hok
    exact ⟨its, r, ⟨_, n, e, rfl, rfl, rfl⟩, z⟩
  . refine ⟨its.toList, r, ⟨o, n, I.kIn a o hk, hc, hd, by simpa using hs⟩, ?_⟩
    have e:=r.length
    simp only [Array.length_toList] at e
    omega
theorem Inv.tuple (I : Inv X pins σ H s) (h : SqT X.K H a xs) : ∃ its : List Value, Yq xs its /\ IsTup s.heap a its.toArray /\ xs.length <= sizeLine:=by
  rcases h with h | ⟨o, its, n, hk, hc, hs, hz, r⟩
  . obtain ⟨z, its, r, p⟩ := h.ok I.hok
    exact ⟨its, r, p, z⟩
  . refine ⟨its.toList, r, ⟨o, I.kIn a o hk, hc, n, by simpa using hs⟩, ?_⟩
    have e:=r.length
    simp only [Array.length_toList] at e
    omega
theorem Inv.list_inj (I : Inv X pins σ H s) (h : SqL X.K H a xs) (h' : SqL X.K H a ys) : xs = ys:=by
  obtain ⟨its, r, ⟨o, n, e, _, _, d⟩, _⟩:=I.list h
  obtain ⟨its', r', ⟨o', n', e', _, _, d'⟩, _⟩:=I.list h'
  rw [e] at e'; cases e'
  rw [d] at d'
  injection d' with d1 _
  have : its = its':=by simpa using congrArg Array.toList d1
  subst this
  exact r.inj r'
theorem Inv.tuple_inj (I : Inv X pins σ H s) (h : SqT X.K H a xs) (h' : SqT X.K H a ys) : xs = ys:=by
  obtain ⟨its, r, ⟨o, e, _, n, d⟩, _⟩:=I.tuple h
  obtain ⟨its', r', ⟨o', e', _, n', d'⟩, _⟩:=I.tuple h'
  rw [e] at e'; cases e'
  rw [d] at d'
  injection d' with d1 _
  have : its = its':=by simpa using congrArg Array.toList d1
  subst this
  exact r.inj r'
end
noncomputable abbrev Cx.wish (X : Cx) (E : Value -> Shared -> Prop) : Cx:={ X with xe:=E }
noncomputable abbrev Cx.nox (X : Cx) : Cx:=X.wish fun _ _=>False
theorem Cx.Ok.wish {X : Cx} (ok : X.Ok) (E : Value -> Shared -> Prop) : (X.wish E).Ok:=
  ⟨ok.mod, ok.kind, ok.glob, ok.blt, ok.above, ok.inj, ok.has, ok.cab, ok.hd, ok.frames, ok.stk, ok.exf, ok.bs, ok.bsz, ok.noex, ok.exfs, ok.funs, ok.frf⟩
theorem Cx.Ok.unwish {X : Cx} {E : Value -> Shared -> Prop} (ok : (X.wish E).Ok) : X.Ok:=
  ⟨ok.mod, ok.kind, ok.glob, ok.blt, ok.above, ok.inj, ok.has, ok.cab, ok.hd, ok.frames, ok.stk, ok.exf, ok.bs, ok.bsz, ok.noex, ok.exfs, ok.funs, ok.frf⟩
section
variable {X : Cx} {pins : List (Addr × Obj)} {σ : St} {H : Hp} {s : Shared} {E : Value -> Shared -> Prop}
theorem Inv.wish (I : Inv X pins σ H s) (E : Value -> Shared -> Prop) : Inv (X.wish E) pins σ H s:=⟨I.ok.wish E, I.os, I.bare, I.base, I.loc, I.cell, I.free, I.freeC, I.pin, I.hok, I.len⟩
theorem Inv.unwish (I : Inv (X.wish E) pins σ H s) : Inv X pins σ H s:=⟨I.ok.unwish, I.os, I.bare, I.base, I.loc, I.cell, I.free, I.freeC, I.pin, I.hok, I.len⟩
theorem SP.unwish {D : Ends} {f : Flow} {s' : Shared} (h : SP (X.wish E) pins D f s') : SP X pins D f s':=by
  cases f with
  | next=>obtain ⟨σ', H', I, q⟩:=h; exact ⟨σ', H', I.unwish, q⟩
  | brk=>obtain ⟨σ', H', I, q⟩:=h; exact ⟨σ', H', I.unwish, q⟩
  | cont=>obtain ⟨σ', H', I, q⟩:=h; exact ⟨σ', H', I.unwish, q⟩
  | ret u=>obtain ⟨v, σ', H', I, r, q⟩:=h; exact ⟨v, σ', H', I.unwish, r, q⟩
theorem PE.nox {e : Expr} {t : TE} (h : PE X.nox e t) : PE X e t:=fun pins s σ H Q I hw=>
  wpAny_mono (h pins s σ H Q (I.wish _) hw) (fun _ _ r9=>by obtain ⟨v, H', I', r, q⟩:=r9; exact ⟨v, H', I'.unwish, r, q⟩) fun _ _ z=>False.elim z
theorem PT.nox {e : Expr} {t : TT} (h : PT X.nox e t) : PT X e t:=fun pins s σ H Q I hw=>
  wpAny_mono (h pins s σ H Q (I.wish _) hw) (fun _ _ r9=>by obtain ⟨H', I', q⟩:=r9; exact ⟨H', I'.unwish, q⟩) fun _ _ z=>False.elim z
theorem PSs.nox {st : List Stmt} {t : TS} (h : PSs X.nox st t) : PSs X st t:=fun pins s σ H D I hw=>
  wpAny_mono (h pins s σ H D (I.wish _) hw) (fun _ _ q=>q.unwish) fun _ _ z=>False.elim z
end
section
variable {X : Cx} {st : Stmt} {rest : List Stmt} {t u : TS} {e : Expr} {te : TE} {pos : Pos}
noncomputable def FQ : TS:=fun D σ H=>D.nx σ H
noncomputable def Je (t u : TS) : TS:=fun D σ H=>t { D with nx:=u D } σ H
theorem Xi : PSs X [] FQ:=fun _ _ σ H _ I h=>wpAny_execs_nil ⟨σ, H, I, h⟩
theorem Xc (h1 : PS X st t) (h2 : PSs X rest u) : PSs X (st :: rest) (Je t u):=by
  intro pins s σ H D I h
  refine wpAny_execs_cons (thn (h1 pins s σ H { D with nx:=u D } I h) fun f s1 q=>?_)
  cases f with
  | next=>
    obtain ⟨σ', H', I', q⟩:=q
    exact h2 pins s1 σ' H' D I' q
  | ret v=>exact q
  | brk=>exact q
  | cont=>exact q
theorem Inv.quiet {pins : List (Addr × Obj)} {σ : St} {H : Hp} {s : Shared} (I : Inv X pins σ H s) : interactive X.env = false:=by simp [interactive, I.ok.kind]
noncomputable def Gx (te : TE) : TS:=fun D σ H=>te σ H fun _ H1=>D.nx σ H1
theorem YL (he : PE X e te) (hs : swapsWith e none pos.line X.env = pure false:=by rfl) : PS X (.Expr e pos) (Gx te):=by
  intro pins s σ H D I h
  exact wpAny_Expr_any (thn (he pins s σ H _ I h) fun v s1 r9=>by obtain ⟨x, H1, I1, r1, q1⟩:=r9; exact ⟨σ, H1, I1, q1⟩) I.quiet hs
noncomputable def IR (te : TE) : TS:=fun D σ H=>te σ H D.rt
theorem XS (he : PE X e te) : PS X (.Return (some e) pos) (IR te):=by
  intro pins s σ H D I h
  exact wpAny_Return_some (thn (he pins s σ H _ I h) fun v s1 r9=>by obtain ⟨x, H1, I1, r1, q1⟩:=r9; exact ⟨x, σ, H1, I1, r1, q1⟩)
noncomputable def EV (c : TT) (t u : TS) : TS:=fun D σ H=>c σ H fun b H1=>if b = true then t D σ H1 else u D σ H1
theorem ZD {c : Expr} {a b : List Stmt} {tc : TT} (hc : PT X c tc) (ha : PSs X a t) (hb : PSs X b u) : PS X (.If c a b pos) (EV tc t u):=by
  intro pins s σ H D I h
  refine wpAny_If (thn (hc pins s σ H _ I h) fun d s1 r9=>?_)
  obtain ⟨H1, I1, q1⟩:=r9
  cases d with
  | true=>exact ha pins s1 σ H1 D I1 q1
  | false=>exact hb pins s1 σ H1 D I1 q1
noncomputable def Hw : TS:=fun _ _ _=>False
theorem VN : PS X st Hw:=fun _ _ _ _ _ _ h=>h.elim
end
noncomputable abbrev TG:=V -> St -> Hp -> (St -> Hp -> Prop) -> Prop
noncomputable abbrev TGs:=List V -> St -> Hp -> (St -> Hp -> Prop) -> Prop
noncomputable def PG (X : Cx) (target : Expr) (t : TG) : Prop:=
  ∀ (pins : List (Addr × Obj)) (s : Shared) (σ : St) (H : Hp) (v : V) (u : Value) (Q : St -> Hp -> Prop), Inv X pins σ H s -> Yi v u -> t v σ H Q ->
    wpAny (model X.prog X.w) X.A (assign target X.env u) (fun _ s'=>∃ σ' H', Inv X pins σ' H' s' /\ Q σ' H') X.xe s
noncomputable def PGs (X : Cx) (ts : List Expr) (t : TGs) : Prop:=
  ∀ (pins : List (Addr × Obj)) (s : Shared) (σ : St) (H : Hp) (vs : List V) (us : List Value) (Q : St -> Hp -> Prop), Inv X pins σ H s -> Yq vs us -> t vs σ H Q ->
    wpAny (model X.prog X.w) X.A (assignInOrder ((assignEach ts X.env).map (·.2)) us) (fun _ s'=>∃ σ' H', Inv X pins σ' H' s' /\ Q σ' H') X.xe s
noncomputable abbrev Hh:=V -> V -> V -> Hp -> (Hp -> Prop) -> Prop
noncomputable def IC (X : Cx) (t : Hh) : Prop:=
  ∀ (pins : List (Addr × Obj)) (s : Shared) (σ : St) (H : Hp) (o i v : V) (ov iv u : Value) (Q : Hp -> Prop), Inv X pins σ H s -> Yi o ov -> Yi i iv -> Yi v u -> t o i v H Q ->
    wpAny (model X.prog X.w) X.A (setItem ov iv u) (fun _ s'=>∃ H', Inv X pins σ H' s' /\ Q H') X.xe s
noncomputable abbrev TIp:=V -> V -> Hp -> VK -> Prop
noncomputable def PIp (X : Cx) (op : Operator) (t : TIp) : Prop:=
  ∀ (pins : List (Addr × Obj)) (s : Shared) (σ : St) (H : Hp) (x y : V) (v u : Value) (Q : VK), Inv X pins σ H s -> Yi x v -> Yi y u -> t x y H Q ->
    wpAny (model X.prog X.w) X.A (inplaceOp op v u) (EP X pins σ Q) X.xe s
section
variable {X : Cx} {pos : Pos}
noncomputable def Zl (i : Nat) : TG:=fun v σ H Q=>Q (σ.set i (some v)) H
theorem Xm {i : Nat} {x : Str} (hN : X.N.Nodup) (hi : X.N[i]? = some x) (hx : Loc X.env.scope x) (hf : X.fn x = true ∨ X.env.scope.names.lookup x = some .local:=by first | exact .inl rfl | exact .inr rfl | assumption) : PG X (.Name x pos) (Zl i):=by
  intro pins s σ H v u Q I r h
  exact wpAny_assign_Name (VT I hN hi hx r (fun s' I'=>⟨_, H, I', h⟩) hf)
noncomputable def El : TGs:=fun vs σ H Q=>vs = [] /\ Q σ H
noncomputable def Z0 (t : TG) (u : TGs) : TGs:=fun vs σ H Q=>∃ v r, vs = v :: r /\ t v σ H fun σ' H'=>u r σ' H' Q
theorem Zm : PGs X [] El:=by
  intro pins s σ H vs us Q I r h
  obtain ⟨e, h⟩:=h
  subst e
  cases r
  exact assignInOrder_nil ⟨σ, H, I, h⟩
theorem XA {e : Expr} {es : List Expr} {t : TG} {u : TGs} (h1 : PG X e t) (h2 : PGs X es u)
    (hs : (assignEach (e :: es) X.env).map (·.2) = assign e X.env :: (assignEach es X.env).map (·.2):=by rfl) : PGs X (e :: es) (Z0 t u):=by
  intro pins s σ H vs us Q I r h
  obtain ⟨v, vr, e1, h⟩:=h
  subst e1
  cases r with
  | cons r rr=>
    rw [hs]
    refine assignInOrder_cons (thn (h1 pins s σ H _ _ _ I r h) fun _ s1 r9=>?_)
    obtain ⟨σ1, H1, I1, q1⟩:=r9
    exact h2 pins s1 σ1 H1 _ _ Q I1 rr q1
noncomputable def Bv (K : PySem.W.Frag) (n : Nat) (t : TGs) : TG:=fun v σ H Q=>∃ a xs, v = .ref a /\ SqT K H a xs /\ xs.length = n /\ t xs σ H Q
theorem Q4 {es : List Expr} {k : Nat} {t : TGs} {n : Nat} (hc : X.calm = true) (h : PGs X es t)
    (hn : (assignEach es X.env).length = n:=by rfl) (hst : (assignEach es X.env).findIdx? (·.1) = none:=by rfl) : PG X (.Tuple es k pos) (Bv X.K n t):=by
  intro pins s σ H v u Q I r hw
  obtain ⟨a, xs, e1, hq, hl, hw⟩:=hw
  subst e1
  cases r
  obtain ⟨its, rv, ht, hz⟩:=I.tuple hq
  refine assign_Tuple_tuple (I.ok.hd hc) ht (by simp [hn, ← hl, rv.length]) hst fun h' hx=>?_
  have I1 : Inv X pins σ H { s with heap:=h' }:=I.kept (t':=s.toks) fun b o e=>hx b o (Nat.ne_of_lt (Heap.lt_size e)) e
  exact h pins _ σ H xs _ Q I1 (by simpa using rv) hw
noncomputable def IF (to ti : TE) (t : Hh) : TG:=fun v σ H Q=>to σ H fun o H1=>ti σ H1 fun i H2=>t o i v H2 fun H3=>Q σ H3
theorem UG {o i : Expr} {to ti : TE} {t : Hh} (ho : PE X o to) (hi : PE X i ti) (hs : IC X t)
    (ha : ∀ v, assign (.Subscript o i pos) X.env v = (do
      let ov ← holding [v] (eval o X.env)
      let iv ← holding [v, ov] (eval i X.env)
      standAt pos
      holding [v, ov, iv] (setItem ov iv v)
      release [v, ov, iv] []):=by intro _; rfl) : PG X (.Subscript o i pos) (IF to ti t):=by
  intro pins s σ H v u Q I r h
  rw [ha]
  refine wpAny_bind (wpAny_holding (thn (ho pins s σ H _ I h) fun ov s1 r9=>?_))
  obtain ⟨x, H1, I1, r1, q1⟩:=r9
  refine wpAny_bind (wpAny_holding (thn (hi pins s1 σ H1 _ I1 q1) fun iv s2 r9=>?_))
  obtain ⟨y, H2, I2, r2, q2⟩:=r9
  refine wpAny_bind (wpAny_standAt (wpAny_bind (wpAny_holding (thn (hs pins s2 σ H2 x y v ov iv u _ I2 r1 r2 r q2) fun _ s3 r9=>?_))))
  obtain ⟨H3, I3, q3⟩:=r9
  exact wpAny_release ⟨σ, H3, I3, q3⟩
noncomputable def Cy (te : TE) (g : TG) : TS:=fun D σ H=>te σ H fun x H1=>g x σ H1 D.nx
theorem JV {tg e : Expr} {te : TE} {g : TG} (he : PE X e te) (hg : PG X tg g) (hs : swapsWithSole [tg] e pos.line X.env = pure false:=by rfl) (hw : swappedStores [tg] e X.env = pure none:=by rfl)
    (h1 : (assignEach [tg] X.env).map (·.2) = [assign tg X.env]:=by rfl) : PS X (.Assign [tg] e pos) (Cy te g):=by
  intro pins s σ H D I h
  refine wpAny_Assign_stores (thn (he pins s σ H _ I h) fun v s1 r9=>?_) hs hw
  obtain ⟨x, H1, I1, r1, q1⟩:=r9
  rw [h1]
  exact thn (hg pins s1 σ H1 x v _ I1 r1 q1) fun _ s2 q=>q
theorem Xn {i : Nat} {x : Str} {e : Expr} {te : TE} {pos' : Pos} (hN : X.N.Nodup) (hi : X.N[i]? = some x) (hx : Loc X.env.scope x) (he : PE X e te) (hs : swapsWith e (some (.Name x pos')) pos.line X.env = pure false:=by rfl) (hf : X.fn x = true ∨ X.env.scope.names.lookup x = some .local:=by first | exact .inl rfl | exact .inr rfl | assumption) :
    PS X (.Assign [.Name x pos'] e pos) (Cy te (Zl i)):=by
  intro pins s σ H D I h
  refine wpAny_Assign_Name (thn (he pins s σ H _ I h) fun v s1 r9=>?_) hs
  obtain ⟨y, H1, I1, r1, q1⟩:=r9
  exact VT I1 hN hi hx r1 (fun s2 I2=>⟨_, H1, I2, q1⟩) hf
noncomputable def Iy (i : Nat) (te : TE) (ti : TIp) : TS:=fun D σ H=>∃ x, σ[i]? = some (some x) /\ te σ H fun y H1=>ti x y H1 fun z H2=>D.nx (σ.set i (some z)) H2
theorem K5 {i : Nat} {x : Str} {e : Expr} {te : TE} {op : Operator} {ti : TIp} {pos' : Pos} (hN : X.N.Nodup) (hi : X.N[i]? = some x) (hx : Loc X.env.scope x) (he : PE X e te) (ho : PIp X op ti) (hf : X.fn x = true ∨ X.env.scope.names.lookup x = some .local:=by first | exact .inl rfl | exact .inr rfl | assumption) :
    PS X (.AugAssign (.Name x pos') op e pos) (Iy i te ti):=by
  intro pins s σ H D I h
  obtain ⟨v, e1, h⟩:=h
  obtain ⟨m, hn, hl⟩:=I.loc
  have vis : Vis X.env.scope x:=by rcases hx with k | k; exact .inl k; exact .inr (.inl k)
  obtain ⟨u, r, l⟩:=hl i x v hi e1 vis
  refine wpAny_AugAssign_Name ?_
  have go : wpAny (model X.prog X.w) X.A (eval e X.env) (fun w s₂=>wpAny (model X.prog X.w) X.A (inplaceOp op u w) (fun r s₃=>wpAny (model X.prog X.w) X.A (storeName X.env x r) (fun _=>SP X pins D .next) X.xe s₃) X.xe s₂) X.xe s:=by
    refine thn (he pins s σ H _ I h) fun w s1 r9=>?_
    obtain ⟨y, H1, I1, r1, q1⟩:=r9
    refine thn (ho pins s1 σ H1 v y u w _ I1 r r1 q1) fun z s2 r9=>?_
    obtain ⟨zv, H2, I2, r2, q2⟩:=r9
    exact VT I2 hN hi hx r2 (fun s3 I3=>⟨_, H2, I3, q2⟩) hf
  rcases l with ⟨hk, hm⟩ | ⟨hk, c, hc, hcell⟩
  . exact wpAny_loadName_local I.ok.kind hk hn hm go
  . rcases hk with hk | hk
    . exact wpAny_loadName_cell I.ok.kind hk hc hcell go
    . rcases hx with k | k
      . have : X.env.scope.names.lookup x = some .free := hk
        rw [k] at this; cases this
      . have : X.env.scope.names.lookup x = some .free := hk
        rw [k] at this; cases this
noncomputable def EW (to ti te : TE) (tget : V -> V -> Hp -> VK -> Prop) (tip : TIp) (tset : Hh) : TS:=fun D σ H=>to σ H fun o H1=>ti σ H1 fun i H2=>tget o i H2 fun x H3=>te σ H3 fun y H4=>tip x y H4 fun z H5=>tset o i z H5 fun H6=>D.nx σ H6
noncomputable def IS (X : Cx) (t : V -> V -> Hp -> VK -> Prop) : Prop:=
  ∀ (pins : List (Addr × Obj)) (s : Shared) (σ : St) (H : Hp) (o i : V) (ov iv : Value) (Q : VK), Inv X pins σ H s -> Yi o ov -> Yi i iv -> t o i H Q ->
    wpAny (model X.prog X.w) X.A (getItem ov iv) (EP X pins σ Q) X.xe s
theorem U3 {o i e : Expr} {to ti te : TE} {tget : V -> V -> Hp -> VK -> Prop} {tip : TIp} {tset : Hh} {op : Operator} {tpos : Pos} (ho : PE X o to) (hi : PE X i ti) (hg : IS X tget) (he : PE X e te) (hp : PIp X op tip) (hs : IC X tset)
    (ha : ∀ ov iv new, augStore i ov iv new = (do holding [new, ov, iv] (setItem ov iv new); release [new, ov, iv] []; pure .next):=by intros; rfl) : PS X (.AugAssign (.Subscript o i tpos) op e pos) (EW to ti te tget tip tset):=by
  intro pins s σ H D I h
  refine wpAny_AugAssign_SubscriptAny (thn (ho pins s σ H _ I h) fun ov s1 r9=>?_) ha
  obtain ⟨x1, H1, I1, r1, q1⟩:=r9
  refine thn (hi pins s1 σ H1 _ I1 q1) fun iv s2 r9=>?_
  obtain ⟨x2, H2, I2, r2, q2⟩:=r9
  refine thn (hg pins s2 σ H2 x1 x2 ov iv _ I2 r1 r2 q2) fun old s3 r9=>?_
  obtain ⟨x3, H3, I3, r3, q3⟩:=r9
  refine thn (he pins s3 σ H3 _ I3 q3) fun v s4 r9=>?_
  obtain ⟨x4, H4, I4, r4, q4⟩:=r9
  refine thn (hp pins s4 σ H4 x3 x4 old v _ I4 r3 r4 q4) fun new s5 r9=>?_
  obtain ⟨x5, H5, I5, r5, q5⟩:=r9
  exact thn (hs pins s5 σ H5 x1 x2 x5 ov iv new _ I5 r1 r2 r5 q5) fun _ s6 r9=>by obtain ⟨H6, I6, q6⟩:=r9; exact ⟨σ, H6, I6, q6⟩
noncomputable def ipI (f : Int -> Int -> Int) : TIp:=fun x y H Q=>∃ i j, x = .int i /\ y = .int j /\ Q (.int (f i j)) H
theorem UR : PIp X .Add (ipI fun i j=>i + j):=by
  intro pins s σ H x y v u Q I r1 r2 h
  obtain ⟨i, j, e1, e2, q⟩:=h
  subst e1; subst e2
  obtain ⟨t, rfl⟩:=r1
  obtain ⟨t', rfl⟩:=r2
  exact iadd_int ⟨.int _, H, I.tok _, ⟨_, rfl⟩, q⟩
theorem Ho : PIp X .Sub (ipI fun i j=>i - j):=by
  intro pins s σ H x y v u Q I r1 r2 h
  obtain ⟨i, j, e1, e2, q⟩:=h
  subst e1; subst e2
  obtain ⟨t, rfl⟩:=r1
  obtain ⟨t', rfl⟩:=r2
  exact isub_int ⟨.int _, H, I.tok _, ⟨_, rfl⟩, q⟩
end
section
variable {X : Cx} {pos : Pos}
noncomputable def Fw (c : TT) (tb : TS) : TS:=fun D σ H=>∃ W : Nat -> St -> Hp -> Prop, (∃ m, W m σ H) /\ ∀ m σ H, W m σ H ->
  c σ H fun b H1=>if b = true then ∃ N : St -> Hp -> Prop, (∀ σ' H', N σ' H' -> ∃ m', m' < m /\ W m' σ' H') /\ tb { D with nx:=N, ct:=N, bk:=D.nx } σ H1 else D.nx σ H1
theorem V0 {c : Expr} {body : List Stmt} {tc : TT} {tb : TS} (hp : PassesOwn (model X.prog X.w) X.A X.env X.xe) (hc : PT X c tc) (hb : PSs X body tb) : PS X (.While c body [] pos) (Fw tc tb):=by
  intro pins s σ H D I h
  obtain ⟨W, ⟨m0, w0⟩, turn⟩:=h
  refine wpAny_While (codeAny_whileLoop (fun n s'=>∃ σ' H', Inv X pins σ' H' s' /\ W n σ' H') ?_ m0 ⟨σ, H, I, w0⟩)
  rintro n s1 ⟨σ1, H1, I1, w1⟩
  refine wpAny_passesOwn hp (thn (hc pins s1 σ1 H1 _ I1 (turn n σ1 H1 w1)) fun b s2 r9=>?_)
  obtain ⟨H2, I2, q2⟩:=r9
  cases b with
  | true=>
    obtain ⟨N, hN, q2⟩:=q2
    rw [if_pos rfl]
    refine wpAny_passesOwn hp (thn (hb pins s2 σ1 H2 _ I2 q2) fun f s3 q3=>?_)
    cases f with
    | next=>
      obtain ⟨σ3, H3, I3, n3⟩:=q3
      obtain ⟨m', hm, w3⟩:=hN σ3 H3 n3
      exact ⟨m', hm, σ3, H3, I3, w3⟩
    | cont=>
      obtain ⟨σ3, H3, I3, n3⟩:=q3
      obtain ⟨m', hm, w3⟩:=hN σ3 H3 n3
      exact ⟨m', hm, σ3, H3, I3, w3⟩
    | brk=>exact q3
    | ret v=>exact q3
  | false=>
    rw [if_neg Bool.false_ne_true]
    exact wpAny_execs_nil ⟨σ1, H2, I2, q2⟩
end
structure It where
  go : Nat -> Hp -> Prop
  yld : Nat -> Hp -> V -> Hp -> Prop
  stop : Nat -> Hp -> Prop
noncomputable def GR (X : Cx) (pins : List (Addr × Obj)) (H : Hp) (b : Addr) : Prop:=
  H b = none /\ b ≠ X.env.locals /\ b ∉ X.fs /\ (b ∈ X.ex ∨ X.s₀.heap.objs.size <= b) /\ (∀ x c, X.env.cells.lookup x = some c -> c ≠ b) /\ ∀ p ∈ X.pn ++ pins, p.1 ≠ b
theorem Inv.fpOk {X : Cx} {pins : List (Addr × Obj)} {σ : St} {H H' : Hp} {s : Shared} {b : Addr} (I : Inv X pins σ H s) (hb : s.heap.objs.size <= b) (hn : H' b = none) : GR X pins H' b:=by
  refine ⟨hn, Nat.ne_of_gt (Nat.lt_of_lt_of_le I.lt hb), I.nofs hb, .inr (Nat.le_trans I.sz hb), fun x c e z=>?_, fun p hp z=>?_⟩
  . obtain ⟨v, q⟩ := I.cell x c e
    exact absurd (Nat.lt_of_lt_of_le q.lt (by rw [z]; exact hb)) (Nat.lt_irrefl _)
  . exact absurd (Nat.lt_of_lt_of_le (Heap.lt_size (I.pin p hp).1) (by rw [z]; exact hb)) (Nat.lt_irrefl _)
structure Turn (P : Program) (w : World) (K : PySem.W.Frag) (tg : Expr) (J : It) (fp : List Addr) (it : Addr) (tn : Nat -> Heap -> Prop) : Prop where
  mem : it ∈ fp
  obj : ∀ i h, tn i h -> ∀ b ∈ fp, ∃ o, h.get? b = some o /\ ∀ v, o.data ≠ .cell v
  keep : ∀ i h h', tn i h -> (∀ b ∈ fp, ∀ o, h.get? b = some o -> h'.get? b = some o) -> tn i h'
  item : ∀ (X : Cx), X.prog = P -> X.w = w -> X.K = K -> X.calm = true -> ∀ (i : Nat) (pins : List (Addr × Obj)) (s : Shared) (σ : St) (H : Hp) (E : Value -> Shared -> Prop), Inv X pins σ H s -> (∀ b ∈ fp, GR X pins H b) -> tn i s.heap -> J.go i H ->
    wpAny (model P w) X.A (pyNext (.ref it)) (fun r s1=>∃ u, r = some u /\
      wpAny (model P w) X.A (letOwnedTupleGo tg (.ref it) u) (fun _ s2=>∃ x H', Inv X pins σ H' s2 /\ Yi x u /\ J.yld i H x H' /\ tn (i + 1) s2.heap /\ ∀ b ∈ fp, H' b = none) E s1) E s
  done : ∀ (X : Cx), X.prog = P -> X.w = w -> X.K = K -> X.calm = true -> ∀ (i : Nat) (pins : List (Addr × Obj)) (s : Shared) (σ : St) (H : Hp) (E : Value -> Shared -> Prop), Inv X pins σ H s -> (∀ b ∈ fp, GR X pins H b) -> tn i s.heap -> J.stop i H ->
    wpAny (model P w) X.A (pyNext (.ref it)) (fun r s1=>r = none /\ Inv X pins σ H s1) E s
  self : ∀ (A : Around) (i : Nat) (s : Shared) (Q : Value -> Shared -> Prop) (E : Value -> Shared -> Prop), tn i s.heap -> Q (.ref it) s -> wpAny (model P w) A (pyIter (.ref it)) Q E s
noncomputable abbrev TI:=St -> Hp -> (It -> Hp -> Prop) -> Prop
noncomputable def PIE (X : Cx) (pins : List (Addr × Obj)) (σ : St) (tg : Expr) (R : It -> Hp -> Prop) (itv : Value) (s2 : Shared) : Prop:=
  ∃ (it : Addr) (fp : List Addr) (tn : Nat -> Heap -> Prop) (J : It) (H' : Hp), itv = .ref it /\ Inv X pins σ H' s2 /\ Turn X.prog X.w X.K tg J fp it tn /\ tn 0 s2.heap /\ (∀ b ∈ fp, GR X pins H' b) /\ R J H'
noncomputable def PI (X : Cx) (tg iter : Expr) (wi : TI) : Prop:=
  ∀ (pins : List (Addr × Obj)) (s : Shared) (σ : St) (H : Hp) (R : It -> Hp -> Prop), Inv X pins σ H s -> wi σ H R ->
    wpAny (model X.prog X.w) X.A (eval iter X.env) (fun v s1=>wpAny (model X.prog X.w) X.A (pyIter v) (PIE X pins σ tg R) X.xe s1) X.xe s
theorem Hq {M : Model} {A : Around} {E : Value -> Shared -> Prop} {s : Shared} {tg : Expr} {it : Addr} {u : Value} {o : Obj} {n : String} {vs : Array Value} {Q : Unit -> Shared -> Prop} (ho : s.heap.get? it = some o) (hc : o.cls = .type n) (hd : o.data = .fields vs)
    (hn : ["enumerate", "zip", "dict_itemiterator", "dict_reverseitemiterator", "odict_iterator", "itertools.zip_longest", "itertools.pairwise"].contains n = false) (hQ : Q () s) : wpAny M A (letOwnedTupleGo tg (.ref it) u) Q E s:=by
  unfold letOwnedTupleGo
  cases tg <;> first
    | exact wpAny_pure hQ
    | (cases u <;> first
        | exact wpAny_pure hQ
        | (refine wpAny_bind (wpAny_load ho ?_)
           rw [hc, hd]
           show wpAny M A (if (["enumerate", "zip", "dict_itemiterator", "dict_reverseitemiterator", "odict_iterator", "itertools.zip_longest", "itertools.pairwise"].contains n && vs[0]? == some (rawInt _)) = true then _ else _) Q E s
           rw [if_neg (by intro h; rw [hn, Bool.false_and] at h; cases h)]
           exact wpAny_pure hQ))
noncomputable def Itl (K : PySem.W.Frag) (a : Addr) : It:=
  ⟨fun i H=>∃ xs x, SqL K H a xs /\ xs[i]? = some x, fun i H x H'=>H' = H /\ ∀ xs, SqL K H a xs -> xs[i]? = some x, fun i H=>∃ xs, SqL K H a xs /\ xs.length <= i⟩
noncomputable def Itr (lo : Int) (n : Nat) : It:=⟨fun i _=>i < n, fun i H x H'=>H' = H /\ x = .int (lo + i), fun i _=>n <= i⟩
theorem F6 {P : Program} {w : World} {K : PySem.W.Frag} {tg : Expr} (a it : Addr) : Turn P w K tg (Itl K a) [it] it (fun i h=>h.IsListIter it a i) where
  mem:=by simp
  obj:=fun i h st b hb=>by
    have e : b = it:=by simpa using hb
    subst e
    obtain ⟨o, e, c, d⟩:=st
    exact ⟨o, e, fun v z=>by rw [d] at z; cases z⟩
  keep:=fun i h h' st k=>st.at fun o e=>k it (by simp) o e
  item:=by
    intro X hP hw hK hc i pins s σ H E I hf st hg
    subst hP hw hK
    obtain ⟨xs, x, hq, hx⟩:=hg
    obtain ⟨its, rv, p, hz⟩:=I.list hq
    obtain ⟨u, hu, ru⟩:=rv.get hx
    obtain ⟨f0, f1, f2, f3, f4, f5⟩:=hf it (by simp)
    refine wpAny_pyNext_list_item st p.isList (x:=u) (by simpa using hu) fun h' st' sb=>?_
    have I1 : Inv X pins σ H { s with heap:=h' }:=I.turned (t':=s.toks) (fun b o hb e=>(sb.2 b hb).trans e) f0 f1 f3 f4 f5
    obtain ⟨o, e, c, d⟩:=id st'
    exact ⟨u, rfl, Hq (s:={ s with heap:=h' }) e c d (by decide) ⟨x, H, I1, ru, ⟨rfl, fun ys hy=>by rw [I.list_inj hy hq]; exact hx⟩, st', fun b hb=>(hf b hb).1⟩⟩
  done:=by
    intro X hP hw hK hc i pins s σ H E I hf st hg
    subst hP hw hK
    obtain ⟨xs, hq, hx⟩:=hg
    obtain ⟨its, rv, p, hz⟩:=I.list hq
    obtain ⟨f0, f1, f2, f3, f4, f5⟩:=hf it (by simp)
    have hl:=rv.length
    exact wpAny_pyNext_list_end (I.ok.hd hc) st p.isList (by simp; omega) fun h' eb=>⟨rfl, I.turned (t':=s.toks) (fun b o hb e=>eb b o hb e) f0 f1 f3 f4 f5⟩
  self:=fun _ _ _ _ _ st h=>wpAny_pyIter_listiter st h
theorem Gw {P : Program} {w : World} {K : PySem.W.Frag} {tg : Expr} (it : Addr) (lo : Int) (n : Nat) : Turn P w K tg (Itr lo n) [it] it (fun i h=>IsRangeIter h it (lo + (i : Nat) * 1) ((n : Int) - (i : Nat)) 1) where
  mem:=by simp
  obj:=fun i h st b hb=>by
    have e : b = it:=by simpa using hb
    subst e
    exact ⟨_, st, fun v z=>by
      have z' : Data.fields _ = Data.cell v:=z
      cases z'⟩
  keep:=fun i h h' st k=>k it (by simp) _ st
  item:=by
    intro X hP hw hK hc i pins s σ H E I hf st hg
    subst hP hw hK
    obtain ⟨f0, f1, f2, f3, f4, f5⟩:=hf it (by simp)
    have W:=Walks.range (prog:=X.prog) (w:=X.w) (I.ok.hd hc) it lo 1 n
    refine W.item i s _ _ hg st fun v h' tk hv st' kk=>?_
    obtain ⟨t, rfl⟩:=hv
    have I1 : Inv X pins σ H { s with heap:=h', toks:=tk }:=I.turned (fun b o hb e=>kk b o (by simpa using hb) e) f0 f1 f3 f4 f5
    refine ⟨_, rfl, Hq (s:={ s with heap:=h', toks:=tk }) (n:="range_iterator") st' rfl rfl (by decide) ⟨.int (lo + i), H, I1, ⟨t, ?_⟩, ⟨rfl, rfl⟩, st', fun b hb=>(hf b hb).1⟩⟩
    rw [Int.mul_one]
  done:=by
    intro X hP hw hK hc i pins s σ H E I hf st hg
    subst hP hw hK
    obtain ⟨f0, f1, f2, f3, f4, f5⟩:=hf it (by simp)
    exact wpAny_pyNext_range_end (I.ok.hd hc) st (by have : n <= i:=hg; omega) fun h' eb=>⟨rfl, I.turned (t':=s.toks) (fun b o hb e=>eb b o hb e) f0 f1 f3 f4 f5⟩
  self:=fun _ _ _ _ _ st h=>wpAny_pyIter_rangeiter st h
end L2
namespace L2
open PySem PySem.Spec PyProof.Rows
section
variable {X : Cx} {tg : Expr}
noncomputable def B8 (K : PySem.W.Frag) (tl : TE) : TI:=fun σ H R=>tl σ H fun x H1=>∃ a, x = .ref a /\ (∃ xs, SqL K H1 a xs) /\ R (Itl K a) H1
theorem BW {l : Expr} {tl : TE} (hl : PE X l tl) : PI X tg l (B8 X.K tl):=by
  intro pins s σ H R I h
  refine thn (hl pins s σ H _ I h) fun v s1 r9=>?_
  obtain ⟨x, H1, I1, r1, q1⟩:=r9
  obtain ⟨a, e, ⟨xs, hq⟩, q⟩:=q1
  subst e
  cases r1
  obtain ⟨its, rv, p, hz⟩:=I1.list hq
  refine wpAny_pyIter_list p.isList ?_
  refine ⟨s1.heap.objs.size, [s1.heap.objs.size], _, _, H1, rfl, I1.kept (t':=s1.toks) fun b o e=>Heap.get?_push_of_some _ e, F6 a _, ⟨_, Heap.get?_push_size _ rfl, rfl, rfl⟩, fun b hb=>?_, q⟩
  have e : b = s1.heap.objs.size:=by simpa using hb
  subst e
  exact I1.fpOk (Nat.le_refl _) (I1.hok.fresh (Nat.le_refl _))
theorem CH {pins : List (Addr × Obj)} {σ : St} {H : Hp} {s : Shared} {R : It -> Hp -> Prop} {E : Value -> Shared -> Prop} {lo hi : Int} {t u v : Tok} {tk : Nat} (I : Inv X pins σ H s) (h1 : -(2 ^ 62) <= lo) (h2 : lo < 2 ^ 62) (h3 : -(2 ^ 62) <= hi) (h4 : hi < 2 ^ 62)
    (q : R (Itr lo (hi - lo).toNat) H) : wpAny (model X.prog X.w) X.A (pyIter (.ref s.heap.objs.size)) (PIE X pins σ tg R) E { s with heap:=s.heap.push { cls:=.type "range", data:=.fields #[.int lo t, .int hi u, .int 1 v] }, toks:=tk }:=by
  refine wpAny_pyIter_range (IsRange.new ..) (small_one h1 h2 h3 h4) ?_
  have I1 : Inv X pins σ H { s with heap:=s.heap.push { cls:=.type "range", data:=.fields #[.int lo t, .int hi u, .int 1 v] }, toks:=tk }:=I.kept fun b o e=>Heap.get?_push_of_some _ e
  refine ⟨(s.heap.push { cls:=.type "range", data:=.fields #[.int lo t, .int hi u, .int 1 v] }).objs.size, [(s.heap.push { cls:=.type "range", data:=.fields #[.int lo t, .int hi u, .int 1 v] }).objs.size], _, _, H, rfl,
    I1.kept (t':=tk) fun b o e=>Heap.get?_push_of_some _ e, Gw _ lo (hi - lo).toNat, ?_, fun b hb=>?_, q⟩
  . have e1 : lo + ((0 : Nat) : Int) * 1 = lo := by simp
    have e2 : (((hi - lo).toNat : Nat) : Int) - ((0 : Nat) : Int) = Builtin.Range.rangeSize lo hi 1:=by rw [rangeSize_one]; split <;> omega
    show IsRangeIter _ _ (lo + ((0 : Nat) : Int) * 1) ((((hi - lo).toNat : Nat) : Int) - ((0 : Nat) : Int)) 1
    rw [e1, e2]
    exact Heap.get?_push_size _ rfl
  . have e : b = (s.heap.push { cls := .type "range", data := .fields #[.int lo t, .int hi u, .int 1 v] }).objs.size := by simpa using hb
    subst e
    exact I1.fpOk (Nat.le_refl _) (I1.hok.fresh (Nat.le_refl _))
noncomputable def ER (ta : TA) : TI:=fun σ H R=>ta σ H fun vs H1=>∃ j : Int, vs = [.int j] /\ -(2 ^ 62) <= j /\ j < 2 ^ 62 /\ R (Itr 0 j.toNat) H1
theorem Yv {a : Expr} {ta : TA} {p pos : Pos} (hg : Gl X "range") (hm : X.mg "range" = none) (ha : PA X [a] ta) (hs : starEach [a] X.env = [(false, eval a X.env)]:=by rfl) : PI X tg (.Call (.Name "range" p) [a] [] pos) (ER ta):=by
  intro pins s σ H R I h
  refine Call_ (UQ I hg hm boot_range (PyProof.Rows.callWith_type1 (thn (ha pos pins s σ H _ I h) fun us s1 r9=>?_) hs rfl))
  obtain ⟨vs, H1, I1, r1, q1⟩:=r9
  obtain ⟨j, e, q1, q2, q⟩:=q1
  subst e
  cases r1 with
  | cons r rr=>
    cases rr
    obtain ⟨t, rfl⟩:=r
    exact call_range_1 (CH I1 (by omega) (by omega) q1 q2 (by simpa using q))
noncomputable def Im (wi : TI) (g : TG) (tb : TS) : TS:=fun D σ H=>wi σ H fun J H1=>∃ W : Nat -> Nat -> St -> Hp -> Prop, (∃ m, W 0 m σ H1) /\ ∀ i m σ H, W i m σ H ->
  (J.stop i H /\ D.nx σ H) ∨ (J.go i H /\ ∃ N : St -> Hp -> Prop, (∀ σ' H', N σ' H' -> ∃ m', m' < m /\ W (i + 1) m' σ' H') /\ ∀ x H', J.yld i H x H' -> g x σ H' fun σ2 H2=>tb { D with nx:=N, ct:=N, bk:=D.nx } σ2 H2)
noncomputable def Vy (fp : List Addr) (h : Heap) : List (Addr × Obj):=fp.filterMap fun b=>(h.get? b).map fun o=>(b, o)
theorem Zs {fp : List Addr} {h : Heap} {b : Addr} {o : Obj} (hb : b ∈ fp) (e : h.get? b = some o) : (b, o) ∈ Vy fp h:=List.mem_filterMap.mpr ⟨b, hb, by rw [e]; rfl⟩
theorem UE {fp : List Addr} {h : Heap} {p : Addr × Obj} (hp : p ∈ Vy fp h) : p.1 ∈ fp /\ h.get? p.1 = some p.2:=by
  obtain ⟨b, hb, e⟩:=List.mem_filterMap.mp hp
  cases q : h.get? b with
  | none=>rw [q] at e; cases e
  | some o=>
    rw [q] at e
    have e' : (b, o) = p:=Option.some.inj e
    subst e'
    exact ⟨hb, q⟩
theorem Inv.pinned {pins : List (Addr × Obj)} {σ : St} {H : Hp} {s : Shared} {fp : List Addr} (I : Inv X pins σ H s) (hf : ∀ b ∈ fp, GR X pins H b) (ho : ∀ b ∈ fp, ∃ o, s.heap.get? b = some o /\ ∀ v, o.data ≠ .cell v) : Inv X (pins ++ Vy fp s.heap) σ H s:=
  I.pins_of fun p hp=>(List.mem_append.mp hp).elim (fun z=>I.pin p (List.mem_append_right _ z)) fun z=>by
    obtain ⟨hb, e⟩:=UE z
    obtain ⟨f0, f1, f2, _⟩:=hf p.1 hb
    obtain ⟨o, e', d⟩:=ho p.1 hb
    rw [e] at e'; cases e'
    exact ⟨e, f0, f1, f2, d⟩
theorem Inv.unpinned {pins pl : List (Addr × Obj)} {σ : St} {H : Hp} {s : Shared} (I : Inv X (pins ++ pl) σ H s) : Inv X pins σ H s:=I.pins_of fun p hp=>I.pin p (List.mem_append_right _ (List.mem_append_left _ hp))
theorem YR {iter : Expr} {body : List Stmt} {wi : TI} {g : TG} {tb : TS} {pos : Pos} (hp : PassesOwn (model X.prog X.w) X.A X.env X.xe) (hc : X.calm = true) (hi : PI X tg iter wi) (hg : PG X tg g) (hb : PSs X body tb)
    (hs : ∀ x, foldedSetIterable iter X.env x = pure x:=by intro _; rfl) : PS X (.For tg iter body [] pos) (Im wi g tb):=by
  intro pins s σ H D I h
  refine wpAny_For (thn (hi pins s σ H _ I h) fun v s1 h1=>thn h1 fun itv s2 h2=>?_) hs
  obtain ⟨it, fp, tn, J, H2, e, I2, T, st2, f2, W, ⟨m0, w0⟩, turn⟩:=h2
  subst e
  -- what stays true of the iterator's objects through the loop
  have stat : ∀ {H' : Hp}, (∀ b ∈ fp, H' b = none) -> ∀ b ∈ fp, GR X pins H' b:=fun hn b hb=>⟨hn b hb, (f2 b hb).2⟩
  refine codeAny_forLoop_any (fun n s'=>∃ i σ' H', Inv X pins σ' H' s' /\ tn i s'.heap /\ (∀ b ∈ fp, H' b = none) /\ W i n σ' H') ?_ m0 ⟨0, σ, H2, I2, st2, fun b hb=>(f2 b hb).1, w0⟩
  rintro n s3 ⟨i, σ3, H3, I3, st3, fr3, w3⟩
  rcases turn i n σ3 H3 w3 with ⟨stop, qn⟩ | ⟨go, N, hN, step⟩
  . refine wpAny_passesOwn hp (thn (T.done X rfl rfl rfl hc i pins s3 σ3 H3 X.xe I3 (stat fr3) st3 stop) fun r s4 r9 => ?_)
    obtain ⟨hr, I4⟩:=r9
    subst hr
    exact wpAny_execs_nil ⟨σ3, H3, I4, qn⟩
  . refine wpAny_passesOwn hp (thn (T.item X rfl rfl rfl hc i pins s3 σ3 H3 X.xe I3 (stat fr3) st3 go) fun r s4 r9 => ?_)
    obtain ⟨u, hr, h4⟩:=r9
    subst hr
    refine wpAny_passesOwn hp (thn h4 fun _ s5 r9=>?_)
    obtain ⟨x, H5, I5, r5, y5, st5, fr5⟩:=r9
    have I5':=I5.pinned (stat fr5) (T.obj _ _ st5)
    refine wpAny_passesOwn hp (thn (hg _ s5 σ3 H5 x u _ I5' r5 (step x H5 y5)) fun _ s6 r9=>?_)
    obtain ⟨σ6, H6, I6, q6⟩:=r9
    refine wpAny_passesOwn hp (thn (hb _ s6 σ6 H6 _ I6 q6) fun f s7 q7=>?_)
    have again : ∀ {σ7 : St} {H7 : Hp}, Inv X (pins ++ Vy fp s5.heap) σ7 H7 s7 -> N σ7 H7 -> ∃ m, m < n /\ ∃ i σ' H', Inv X pins σ' H' s7 /\ tn i s7.heap /\ (∀ b ∈ fp, H' b = none) /\ W i m σ' H':=fun {σ7 H7} I7 n7=>by
      obtain ⟨m', hm, w7⟩:=hN σ7 H7 n7
      refine ⟨m', hm, i + 1, σ7, H7, I7.unpinned, T.keep _ _ _ st5 fun b hb o e=>(I7.pin (b, o) (List.mem_append_right _ (List.mem_append_right _ (Zs hb e)))).1, fun b hb=>?_, w7⟩
      obtain ⟨o, e, d⟩:=T.obj _ _ st5 b hb
      exact (I7.pin (b, o) (List.mem_append_right _ (List.mem_append_right _ (Zs hb e)))).2.1
    cases f with
    | next=>obtain ⟨σ7, H7, I7, n7⟩:=q7; exact again I7 n7
    | cont=>obtain ⟨σ7, H7, I7, n7⟩:=q7; exact again I7 n7
    | brk=>obtain ⟨σ7, H7, I7, q7⟩:=q7; exact ⟨σ7, H7, I7.unpinned, q7⟩
    | ret v=>obtain ⟨x7, σ7, H7, I7, r7, q7⟩:=q7; exact ⟨x7, σ7, H7, I7.unpinned, r7, q7⟩
end
end L2
namespace L2
open PySem PySem.Spec PyProof.Rows
noncomputable abbrev R2:=V -> V -> Hp -> VK -> Prop
noncomputable def OpR (X : Cx) (f : Value -> Value -> Sem Value) (r : R2) : Prop:=
  ∀ (pins : List (Addr × Obj)) (s : Shared) (σ : St) (H : Hp) (x y : V) (v u : Value) (Q : VK), Inv X pins σ H s -> Yi x v -> Yi y u -> r x y H Q ->
    wpAny (model X.prog X.w) X.A (f v u) (EP X pins σ Q) X.xe s
noncomputable def UnR (X : Cx) (f : Value -> Sem Value) (r : V -> Hp -> VK -> Prop) : Prop:=
  ∀ (pins : List (Addr × Obj)) (s : Shared) (σ : St) (H : Hp) (x : V) (v : Value) (Q : VK), Inv X pins σ H s -> Yi x v -> r x H Q ->
    wpAny (model X.prog X.w) X.A (f v) (EP X pins σ Q) X.xe s
noncomputable def QD (X : Cx) (f : Value) (r : List V -> Hp -> VK -> Prop) : Prop:=
  ∀ (pins : List (Addr × Obj)) (s : Shared) (σ : St) (H : Hp) (xs : List V) (us : List Value) (Q : VK), Inv X pins σ H s -> Yq xs us -> r xs H Q ->
    wpAny (model X.prog X.w) X.A (call f us) (EP X pins σ Q) X.xe s
noncomputable def tOp (r : R2) (ta tb : TE) : TE:=fun σ H Q=>ta σ H fun x H1=>tb σ H1 fun y H2=>r x y H2 Q
noncomputable def tUn (r : V -> Hp -> VK -> Prop) (ta : TE) : TE:=fun σ H Q=>ta σ H fun x H1=>r x H1 Q
noncomputable def rI (C : Int -> Int -> Prop) (g : Int -> Int -> V) : R2:=fun x y H Q=>∃ i j, x = .int i /\ y = .int j /\ C i j /\ Q (g i j) H
noncomputable def rI0 (g : Int -> Int -> V) : R2:=fun x y H Q=>∃ i j, x = .int i /\ y = .int j /\ Q (g i j) H
noncomputable def rU (g : Int -> V) : V -> Hp -> VK -> Prop:=fun x H Q=>∃ i, x = .int i /\ Q (g i) H
section
variable {X : Cx} {a b c : Expr} {ta tb tc : TE} {pos : Pos}
theorem Il (ha : PE X a ta) (hb : PE X b tb) {pins : List (Addr × Obj)} {s : Shared} {σ : St} {H : Hp} {R : V -> V -> Hp -> Prop} (I : Inv X pins σ H s)
    (h : ta σ H fun x H1=>tb σ H1 fun y H2=>R x y H2) {Q : Value -> Shared -> Prop} {f : Value -> Value -> Sem Value}
    (hf : ∀ v u s2 x y H2, Inv X pins σ H2 s2 -> Yi x v -> Yi y u -> R x y H2 -> wpAny (model X.prog X.w) X.A (f v u) Q X.xe s2) :
    wpAny (model X.prog X.w) X.A (eval a X.env) (fun v s₁=>wpAny (model X.prog X.w) X.A (eval b X.env) (fun u s₂=>wpAny (model X.prog X.w) X.A (f v u) Q X.xe s₂) X.xe s₁) X.xe s:=by
  refine thn (ha pins s σ H _ I h) fun v s1 r9=>?_
  obtain ⟨x, H1, I1, r1, q1⟩:=r9
  refine thn (hb pins s1 σ H1 _ I1 q1) fun u s2 r9=>?_
  obtain ⟨y, H2, I2, r2, q2⟩:=r9
  exact hf v u s2 x y H2 I2 r1 r2 q2
theorem Xo {op : Operator} {r : R2} (ho : OpR X (binaryOp op) r) (ha : PE X a ta) (hb : PE X b tb) : PE X (.BinOp a op b pos) (tOp r ta tb):=by
  intro pins s σ H Q I h
  exact wpAny_BinOp (Il ha hb I h fun v u s2 x y H2 I2 rx ry q=>ho pins s2 σ H2 x y v u Q I2 rx ry q)
theorem GC {op : UnaryOp} {r : V -> Hp -> VK -> Prop} (ho : UnR X (unaryOp op) r) (ha : PE X a ta) : PE X (.UnaryOp op a pos) (tUn r ta):=by
  intro pins s σ H Q I h
  exact UnaryOp_ (thn (ha pins s σ H _ I h) fun v s1 r9=>by obtain ⟨x, H1, I1, r1, q1⟩:=r9; exact ho pins s1 σ H1 x v Q I1 r1 q1)
theorem opI {f : Value -> Value -> Sem Value} {C : Int -> Int -> Prop} {g : Int -> Int -> Int}
    (rule : ∀ (i j : Int) (t u : Tok) (s : Shared) (Q : Value -> Shared -> Prop) (E : Value -> Shared -> Prop), C i j -> Q (.int (g i j) s.toks) { s with toks:=s.toks + 1 } -> wpAny (model X.prog X.w) X.A (f (.int i t) (.int j u)) Q E s) :
    OpR X f (rI C fun i j=>.int (g i j)):=by
  intro pins s σ H x y v u Q I rx ry h
  obtain ⟨i, j, rfl, rfl, hc, q⟩:=h
  obtain ⟨t, rfl⟩:=rx
  obtain ⟨t', rfl⟩:=ry
  exact rule i j t t' s _ _ hc ⟨.int (g i j), H, I.tok _, ⟨_, rfl⟩, q⟩
theorem IL {f : Value -> Value -> Sem Value} {g : Int -> Int -> Int}
    (rule : ∀ (i j : Int) (t u : Tok) (s : Shared) (Q : Value -> Shared -> Prop) (E : Value -> Shared -> Prop), Q (.int (g i j) s.toks) { s with toks:=s.toks + 1 } -> wpAny (model X.prog X.w) X.A (f (.int i t) (.int j u)) Q E s) :
    OpR X f (rI0 fun i j=>.int (g i j)):=by
  intro pins s σ H x y v u Q I rx ry h
  obtain ⟨i, j, rfl, rfl, q⟩:=h
  obtain ⟨t, rfl⟩:=rx
  obtain ⟨t', rfl⟩:=ry
  exact rule i j t t' s _ _ ⟨.int (g i j), H, I.tok _, ⟨_, rfl⟩, q⟩
theorem Ii {f : Value -> Value -> Sem Value} {g : Int -> Int -> Bool}
    (rule : ∀ (i j : Int) (t u : Tok) (s : Shared) (Q : Value -> Shared -> Prop) (E : Value -> Shared -> Prop), Q (.bool (g i j)) s -> wpAny (model X.prog X.w) X.A (f (.int i t) (.int j u)) Q E s) :
    OpR X f (rI0 fun i j=>.bl (g i j)):=by
  intro pins s σ H x y v u Q I rx ry h
  obtain ⟨i, j, rfl, rfl, q⟩:=h
  obtain ⟨t, rfl⟩:=rx
  obtain ⟨t', rfl⟩:=ry
  exact rule i j t t' s _ _ ⟨.bl (g i j), H, I, rfl, q⟩
noncomputable def I0 (i j : Int) : Prop:=0 < j /\ j < 1073741824
noncomputable def IM (i j : Int) : Prop:=0 <= j /\ j <= 1000000 /\ i.natAbs < 2 ^ 64
noncomputable def HV (i j : Int) : Prop:=(-(2 ^ 64) < i /\ i < 2 ^ 64) ∨ (-(2 ^ 64) < j /\ j < 2 ^ 64)
theorem HV.ok {i j : Int} (h : HV i j) : IntMulOk i j:=by
  rcases h with ⟨h1, h2⟩ | ⟨h1, h2⟩
  . exact .of_left (intBits_le_64 h1 h2)
  . exact .of_right (intBits_le_64 h1 h2)
theorem X9 : OpR X (binaryOp .Add) (rI0 fun i j=>.int (i + j)):=IL fun _ _ _ _ _ _ _ q=>add_int q
theorem Q8 : OpR X (binaryOp .Sub) (rI0 fun i j=>.int (i - j)):=IL fun _ _ _ _ _ _ _ q=>sub_int q
theorem Yf : OpR X (binaryOp .Mult) (rI HV fun i j=>.int (i * j)):=opI fun _ _ _ _ _ _ _ hc q=>mul_int q hc.ok
theorem Yc : OpR X (binaryOp .Mod) (rI (fun _ j=>0 < j) fun i j=>.int (i % j)):=opI fun i j _ _ _ _ _ hc q=>by
  have h1 : (0 : Int) < j:=hc
  exact mod_int' (by omega) (by rw [Int.fmod_eq_emod_of_nonneg i (by omega)]; exact q)
theorem UF : OpR X (binaryOp .Pow) (rI IM fun i j=>.int (i ^ j.toNat)):=opI fun _ _ _ _ _ _ _ hc q=>pow_int_small hc.1 hc.2.1 hc.2.2 q
theorem unI {f : Value -> Sem Value} {g : Int -> Int}
    (rule : ∀ (i : Int) (t : Tok) (s : Shared) (Q : Value -> Shared -> Prop) (E : Value -> Shared -> Prop), Q (.int (g i) s.toks) { s with toks:=s.toks + 1 } -> wpAny (model X.prog X.w) X.A (f (.int i t)) Q E s) :
    UnR X f (rU fun i=>.int (g i)):=by
  intro pins s σ H x v Q I rx h
  obtain ⟨i, rfl, q⟩:=h
  obtain ⟨t, rfl⟩:=rx
  exact rule i t s _ _ ⟨.int (g i), H, I.tok _, ⟨_, rfl⟩, q⟩
theorem VD : UnR X (unaryOp .USub) (rU fun i=>.int (-i)):=unI fun _ _ _ _ _ q=>neg_int q
end
noncomputable def Io : V -> V -> Bool
  | .non, .non=>true | .non, .int _=>true | .int _, .non=>true | .non, .bl _=>true | .bl _, .non=>true | .non, .str _=>true | .str _, .non=>true
  | .int _, .int _=>true | .bl _, .bl _=>true | .str _, .str _=>true | .byt _, .byt _=>true
  | .int _, .str _=>true | .str _, .int _=>true | .bl _, .str _=>true | .str _, .bl _=>true
  | _, _=>false
noncomputable def rEq : R2:=fun x y H Q=>Io x y = true /\ Q (.bl (decide (x = y))) H
noncomputable def rNe : R2:=fun x y H Q=>Io x y = true /\ Q (.bl (!decide (x = y))) H
theorem FH {i j : Int} : decide (V.int i = V.int j) = (i == j):=by
  rw [Bool.eq_iff_iff]
  simp
theorem Bp {i j : Bool} : decide (V.bl i = V.bl j) = (i == j):=by
  rw [Bool.eq_iff_iff]
  simp
theorem G8 {i j : Str} : decide (V.str i = V.str j) = (i == j):=by
  rw [Bool.eq_iff_iff]
  simp
theorem FZ {i j : Array UInt8} : decide (V.byt i = V.byt j) = (i.toList == j.toList):=by
  rw [Bool.eq_iff_iff]
  cases i
  cases j
  simp
section
variable {X : Cx} {a b c : Expr} {ta tb tc : TE} {pos : Pos}
theorem Ye {pins : List (Addr × Obj)} {σ : St} {H : Hp} {s : Shared} {Q : VK} {k k' : Bool} (I : Inv X pins σ H s) (q : Q (.bl k) H) (e : k = k') : EP X pins σ Q (.bool k') s:=by
  subst e
  exact ⟨.bl k, H, I, rfl, q⟩
theorem Uk : OpR X (compareOp .Eq) rEq:=by
  intro pins s σ H x y v u Q I rx ry h
  obtain ⟨hs, q⟩:=h
  cases x with
  | non=>
    cases rx
    cases y with
    | non=>cases ry; exact PySem.EqNone.eq_none_none (Ye I q (by simp))
    | bl j=>cases ry; exact PySem.EqNone.eq_none_bool (Ye I q (by simp))
    | int j=>obtain ⟨t', rfl⟩:=ry; exact PySem.EqNone.eq_none_int (Ye I q (by simp))
    | str j=>obtain ⟨t', rfl⟩:=ry; exact PySem.EqNone.eq_none_str (Ye I q (by simp))
    | _=>exact absurd (show false = true from hs) Bool.false_ne_true
  | bl i=>
    cases rx
    cases y with
    | non=>cases ry; exact PySem.EqNone.eq_bool_none (Ye I q (by simp))
    | bl j=>cases ry; exact eq_bool (Ye I q Bp)
    | str j=>obtain ⟨t', rfl⟩:=ry; exact PySem.EqMixed.eq_bool_str (Ye I q (by simp))
    | _=>exact absurd (show false = true from hs) Bool.false_ne_true
  | int i=>
    obtain ⟨t, rfl⟩:=rx
    cases y with
    | non=>cases ry; exact PySem.EqNone.eq_int_none (Ye I q (by simp))
    | int j=>obtain ⟨t', rfl⟩:=ry; exact eq_int (Ye I q FH)
    | str j=>obtain ⟨t', rfl⟩:=ry; exact PySem.EqMixed.eq_int_str (Ye I q (by simp))
    | _=>exact absurd (show false = true from hs) Bool.false_ne_true
  | str i=>
    obtain ⟨t, rfl⟩:=rx
    cases y with
    | non=>cases ry; exact PySem.EqNone.eq_str_none (Ye I q (by simp))
    | bl j=>cases ry; exact PySem.EqMixed.eq_str_bool (Ye I q (by simp))
    | int j=>obtain ⟨t', rfl⟩:=ry; exact PySem.EqMixed.eq_str_int (Ye I q (by simp))
    | str j=>obtain ⟨t', rfl⟩:=ry; exact eq_str (Ye I q G8)
    | _=>exact absurd (show false = true from hs) Bool.false_ne_true
  | byt i=>
    obtain ⟨t, rfl⟩:=rx
    cases y with
    | byt j=>obtain ⟨t', rfl⟩:=ry; exact PySem.W.eq_bytes (Ye I q FZ)
    | _=>exact absurd (show false = true from hs) Bool.false_ne_true
  | _=>cases y <;> exact absurd (show false = true from hs) Bool.false_ne_true
theorem Hy : OpR X (compareOp .NotEq) rNe:=by
  intro pins s σ H x y v u Q I rx ry h
  obtain ⟨hs, q⟩:=h
  cases x with
  | non=>
    cases rx
    cases y with
    | non=>cases ry; exact PySem.EqNone.ne_none_none (Ye I q (by simp))
    | bl j=>cases ry; exact PySem.EqNone.ne_none_bool (Ye I q (by simp))
    | int j=>obtain ⟨t', rfl⟩:=ry; exact PySem.EqNone.ne_none_int (Ye I q (by simp))
    | str j=>obtain ⟨t', rfl⟩:=ry; exact PySem.EqNone.ne_none_str (Ye I q (by simp))
    | _=>exact absurd (show false = true from hs) Bool.false_ne_true
  | bl i=>
    cases rx
    cases y with
    | non=>cases ry; exact PySem.EqNone.ne_bool_none (Ye I q (by simp))
    | bl j=>cases ry; exact ne_bool (Ye I q (congrArg not Bp))
    | str j=>obtain ⟨t', rfl⟩:=ry; exact PySem.EqMixed.ne_bool_str (Ye I q (by simp))
    | _=>exact absurd (show false = true from hs) Bool.false_ne_true
  | int i=>
    obtain ⟨t, rfl⟩:=rx
    cases y with
    | non=>cases ry; exact PySem.EqNone.ne_int_none (Ye I q (by simp))
    | int j=>obtain ⟨t', rfl⟩:=ry; exact ne_int (Ye I q (congrArg not FH))
    | str j=>obtain ⟨t', rfl⟩:=ry; exact PySem.EqMixed.ne_int_str (Ye I q (by simp))
    | _=>exact absurd (show false = true from hs) Bool.false_ne_true
  | str i=>
    obtain ⟨t, rfl⟩:=rx
    cases y with
    | non=>cases ry; exact PySem.EqNone.ne_str_none (Ye I q (by simp))
    | bl j=>cases ry; exact PySem.EqMixed.ne_str_bool (Ye I q (by simp))
    | int j=>obtain ⟨t', rfl⟩:=ry; exact PySem.EqMixed.ne_str_int (Ye I q (by simp))
    | str j=>obtain ⟨t', rfl⟩:=ry; exact ne_str (Ye I q (congrArg not G8))
    | _=>exact absurd (show false = true from hs) Bool.false_ne_true
  | byt i=>
    obtain ⟨t, rfl⟩:=rx
    cases y with
    | byt j=>obtain ⟨t', rfl⟩:=ry; exact PySem.W.ne_bytes (Ye I q (congrArg not FZ))
    | _=>exact absurd (show false = true from hs) Bool.false_ne_true
  | _=>cases y <;> exact absurd (show false = true from hs) Bool.false_ne_true
theorem KB : OpR X (compareOp .Lt) (rI0 fun i j=>.bl (decide (i < j))):=Ii fun _ _ _ _ _ _ _ q=>lt_int q
theorem HY : OpR X (compareOp .LtE) (rI0 fun i j=>.bl (decide (i <= j))):=Ii fun _ _ _ _ _ _ _ q=>le_int q
theorem GX : OpR X (compareOp .Gt) (rI0 fun i j=>.bl (decide (j < i))):=Ii fun _ _ _ _ _ _ _ q=>gt_int q
theorem OpR.or {f : Value -> Value -> Sem Value} {r r' : R2} (h : OpR X f r) (h' : OpR X f r') : OpR X f (fun x y H Q=>r x y H Q ∨ r' x y H Q):=by
  intro pins s σ H x y v u Q I rx ry q
  rcases q with q | q
  . exact h pins s σ H x y v u Q I rx ry q
  . exact h' pins s σ H x y v u Q I rx ry q
theorem Yl (b : Expr) {op : CmpOp} (h : op ≠ .In:=by decide) (h2 : op ≠ .NotIn:=by decide) : behindInMarks op b = false:=by
  have e1 : (op == CmpOp.In) = false:=by cases op <;> first | rfl | exact absurd rfl h
  have e2 : (op == CmpOp.NotIn) = false:=by cases op <;> first | rfl | exact absurd rfl h2
  cases b <;> simp [behindInMarks, e1, e2]
theorem DO {op : CmpOp} {r : R2} (ho : OpR X (compareOp op) r) (ha : PE X a ta) (hb : PE X b tb) (hm : behindInMarks op b = false) : PE X (.Compare a [op] [b] pos) (tOp r ta tb):=by
  intro pins s σ H Q I h
  exact wpAny_Compare1 (Il ha hb I h fun v u s2 x y H2 I2 rx ry q=>ho pins s2 σ H2 x y v u Q I2 rx ry q) hm
noncomputable def E3 (t : TE) : TT:=fun σ H Q=>t σ H fun x H'=>∃ k, x = .bl k /\ Q k H'
theorem XW {op : CmpOp} {r : R2} (ho : OpR X (compareOp op) r) (ha : PE X a ta) (hb : PE X b tb) (hm : behindInMarks op b = false) : PT X (.Compare a [op] [b] pos) (E3 (tOp r ta tb)):=by
  intro pins s σ H Q I h
  refine wpAny_isTrue_Compare1 (thn (ha pins s σ H _ I h) fun v s1 ⟨x, H1, I1, r1, q1⟩=>thn (hb pins s1 σ H1 _ I1 q1) fun u s2 ⟨y, H2, I2, r2, q2⟩=>
    thn (ho pins s2 σ H2 x y v u _ I2 r1 r2 q2) fun c s3 ⟨z, H3, I3, r3, k, e, q3⟩=>?_) hm
  subst e
  cases r3
  exact wpAny_truthy_bool ⟨H3, I3, q3⟩
theorem Uz : (sizeLine : Nat) < 2 ^ 63:=by rw [sizeLine_eq]; decide
theorem Fi {x : V} {us : List Value} (r : Yq [x] us) : ∃ u, us = [u] /\ Yi x u:=by
  cases r with
  | cons r1 r2=>cases r2; exact ⟨_, rfl, r1⟩
theorem HC {x y : V} {us : List Value} (r : Yq [x, y] us) : ∃ u w', us = [u, w'] /\ Yi x u /\ Yi y w':=by
  cases r with
  | cons r1 r2=>
    cases r2 with
    | cons r3 r4=>cases r4; exact ⟨_, _, rfl, r1, r3⟩
theorem J7 (hc : X.calm = true) : QD X (.builtin "max") (fun xs H Q=>∃ i j, xs = [.int i, .int j] /\ Q (.int (if j > i then j else i)) H):=by
  intro pins s σ H xs us Q I r h
  obtain ⟨i, j, rfl, q⟩:=h
  obtain ⟨u, w', rfl, ⟨t, rfl⟩, ⟨t', rfl⟩⟩:=HC r
  refine max_two_ints (I.ok.hd hc) fun h' tk k=>⟨_, H, I.kept k, ?_, q⟩
  by_cases hj : j > i
  . rw [if_pos hj, if_pos hj]; exact ⟨_, rfl⟩
  . rw [if_neg hj, if_neg hj]; exact ⟨_, rfl⟩
theorem Do (hc : X.calm = true) : QD X (.builtin "min") (fun xs H Q=>∃ i j, xs = [.int i, .int j] /\ Q (.int (if j < i then j else i)) H):=by
  intro pins s σ H xs us Q I r h
  obtain ⟨i, j, rfl, q⟩:=h
  obtain ⟨u, w', rfl, ⟨t, rfl⟩, ⟨t', rfl⟩⟩:=HC r
  refine min_two_ints (I.ok.hd hc) fun h' tk k=>⟨_, H, I.kept k, ?_, q⟩
  by_cases hj : j < i
  . rw [if_pos hj, if_pos hj]; exact ⟨_, rfl⟩
  . rw [if_neg hj, if_neg hj]; exact ⟨_, rfl⟩
end
end L2
namespace L2
open PySem PySem.Spec PyProof.Rows
structure ObjM (h : Heap) (x dx C : Addr) (mA : Str -> Option Value) : Prop where
  obj : h.get? x = some (PySem.W.instObj C dx)
  ns : h.Ns1 dx mA
  ne : dx ≠ x
theorem Dg {h : Heap} {dx : Addr} {mA : Str -> Option Value} (n : h.Ns1 dx mA) : ∃ od, h.get? dx = some od /\ ∀ name, PySem.W.lookIn name od = some (mA name):=by
  obtain ⟨o, es, ep, ho, hd, hk, _, hm⟩:=n
  refine ⟨o, ho, fun name=>?_⟩
  have e:=hm name
  unfold nsFind findBy at e
  rw [← Array.find?_toList] at e
  unfold PySem.W.lookIn
  rw [hd]
  dsimp only
  split
  . rename_i y q
    rw [q] at e
    exact congrArg some e
  . rename_i q
    rw [q] at e
    have a : es.toList.any (·.refKey) = false:=by
      rw [List.any_eq_false]
      intro y hy
      obtain ⟨z, t, hkey⟩:=hk y (Array.mem_toList_iff.mp hy)
      simp [DictEntry.refKey, hkey]
    have a' : ¬ es.toList.any (·.refKey) = true:=by rw [a]; exact Bool.false_ne_true
    rw [if_neg a']
    exact congrArg some e
theorem ObjM.look {h : Heap} {x dx C : Addr} {mA : Str -> Option Value} (I : ObjM h x dx C mA) : ∃ od, PySem.W.InstAt h x (PySem.W.instObj C dx) C (some od) /\ ∀ name, PySem.W.lookIn name od = some (mA name):=
  let ⟨od, ho, hl⟩:=Dg I.ns
  ⟨od, ⟨I.obj, rfl, rfl, ho⟩, hl⟩
section
variable {prog : Program} {w : World} {A : Around} {E : Value -> Shared -> Prop} {s : Shared} {K : PySem.W.Frag} {x dx C f : Addr} {mA : Str -> Option Value} {name : Str} {v : Value}
end
theorem GQ.some_of {v : V} {o : Option Value} (r : GQ (some v) o) : ∃ u, o = some u /\ Yi v u:=by
  cases o with
  | none=>exact (show False from r).elim
  | some u=>exact ⟨u, rfl, r⟩
section
variable {P : Program} {w : World} {H H' : Hp} {h h' : Heap} {a C dx : Addr} {fs fs' : List (Str × V)}
end
structure Cls (K : PySem.W.Frag) (C : Addr) : Prop where
  pg : PySem.W.plainGet K C Str.empty = true
  hd : PySem.W.hasDictIn K C = true
  po : PySem.W.plainOver K C = true
  sa : PySem.W.findIn K (.ref C) "__setattr__" = some (some (.builtin "object.__setattr__"))
theorem Cls.get {K : PySem.W.Frag} {C : Addr} (c : Cls K C) (f : Str) : PySem.W.plainGet K C f = true:=c.pg
section
variable {X : Cx} {pins : List (Addr × Obj)} {σ : St} {H : Hp} {s : Shared} {a C dx : Addr} {fs : List (Str × V)} {f : Str} {v : V} {A : Around} {E : Value -> Shared -> Prop}
theorem Inv.made (I : Inv X pins σ H s) : Inv X pins σ (upd (upd H s.heap.objs.size (.own (s.heap.objs.size + 1))) (s.heap.objs.size + 1) (.ins C s.heap.objs.size []))
    { s with heap:=(s.heap.push PySem.W.emptyDict).push (PySem.W.instObj C s.heap.objs.size) }:=by
  have e1 : (s.heap.push PySem.W.emptyDict).get? s.heap.objs.size = some PySem.W.emptyDict:=Heap.get?_push_size s.heap rfl
  have e2 : ((s.heap.push PySem.W.emptyDict).push (PySem.W.instObj C s.heap.objs.size)).get? (s.heap.objs.size + 1) = some (PySem.W.instObj C s.heap.objs.size):=by
    have:=Heap.get?_push_size (s.heap.push PySem.W.emptyDict) (o:=PySem.W.instObj C s.heap.objs.size) rfl
    rwa [Heap.size_push] at this
  have e3 : (s.heap.push PySem.W.emptyDict).Ns s.heap.objs.size (fun _=>none):=⟨PySem.W.emptyDict, #[], _, e1, rfl, (fun e he=>absurd he (by simp)), fun _=>rfl⟩
  have I1:=I.laid (a:=s.heap.objs.size) (o:=.own (s.heap.objs.size + 1)) (h':=s.heap.push PySem.W.emptyDict) (t':=s.toks) (fun b u q=>Heap.get?_push_of_some _ q) (Nat.le_refl _) ⟨_, e1⟩
  refine I1.laid (a:=s.heap.objs.size + 1) (o:=.ins C s.heap.objs.size []) (t':=s.toks) (fun b u q=>Heap.get?_push_of_some _ q) (Nat.le_of_eq (Heap.size_push _ _)) ?_
  have ne : s.heap.objs.size ≠ s.heap.objs.size + 1:=Nat.ne_of_lt (Nat.lt_succ_self _)
  refine ⟨by rw [Xq ne, Yj], Nat.zero_le _, ne, e2, fun _=>none, (Heap.Ns1.of_empty e3).at fun o q=>Heap.get?_push_of_some _ q, fun _=>True.intro, fun y hy=>absurd rfl hy⟩
end
section
variable {X : Cx} {o e value : Expr} {f : Str} {pos pos' tpos : Pos} {ta tv : TE}
end
section
variable {X : Cx} {pins : List (Addr × Obj)} {σ : St} {H : Hp} {s : Shared} {A : Around} {E : Value -> Shared -> Prop} {Q : Value -> Shared -> Prop} {c : Value} {b : Bool}
end
end L2
namespace L2
open PySem PySem.Spec PyProof.Rows
structure Room (k : Nat) (A : Around) : Prop where
  hd : A.handled = none
  dp : A.depth + 3 * k + 5 < recursionLimit
  un : A.units + 16 * k + 200 < cLine
theorem Room.mono {j k : Nat} {A : Around} (r : Room k A) (h : j <= k) : Room j A:=⟨r.hd, by have:=r.dp; omega, by have:=r.un; omega⟩
theorem Room.deeper {k : Nat} {A : Around} (r : Room (k + 1) A) (env : Env) : Room k (A.deeper env):=
  ⟨r.hd, by have:=r.dp; show A.depth + 1 + 3 * k + 5 < _; omega, by have:=r.un; show A.units + 3 + 16 * k + 200 < _; omega⟩
theorem Room.in1 {k : Nat} {A : Around} (r : Room (k + 1) A) : Room k A.in1:=
  ⟨r.hd, by have:=r.dp; show A.depth + 3 * k + 5 < _; omega, by have:=r.un; show A.units + 1 + 16 * k + 200 < _; omega⟩
theorem Room.depth {k : Nat} {A : Around} (r : Room k A) : A.depth < recursionLimit:=by have:=r.dp; omega
theorem Room.units {k : Nat} {A : Around} (r : Room k A) : A.units + 64 < cLine:=by have:=r.un; omega
noncomputable def QF : TA:=fun _ H Q=>Q [] H
noncomputable def X1 (ta : TE) (tr : TA) : TA:=fun σ H Q=>ta σ H fun x H1=>tr σ H1 fun xs H2=>Q (x :: xs) H2
section
variable {X : Cx} {e : Expr} {es : List Expr} {te : TE} {t : TA} {pos : Pos}
theorem Xh : PA X [] QF:=fun _ _ _ _ H Q I h=>Calls.spliced_nil ⟨[], H, I, .nil, h⟩
theorem Xd (ha : PE X e te) (hr : PA X es t) (hs : starEach (e :: es) X.env = (false, eval e X.env) :: starEach es X.env:=by rfl) : PA X (e :: es) (X1 te t):=by
  intro pos pins s σ H Q I h
  rw [hs]
  show wpAny _ _ (spliced ((false, eval e X.env) :: backTo pos (starEach es X.env))) _ _ s
  refine Calls.spliced_cons (thn (ha pins s σ H _ I h) fun u s1 r9=>?_)
  obtain ⟨x, H1, I1, r1, q1⟩:=r9
  exact thn (hr pos pins s1 σ H1 _ I1 q1) fun us s2 r9=>by obtain ⟨xs, H2, I2, r2, q2⟩:=r9; exact ⟨x :: xs, H2, I2, .cons r1 r2, q2⟩
noncomputable def EM (t : TA) : TE:=fun σ H Q=>t σ H fun xs H1=>xs.length <= sizeLine /\ ∀ p, H1 p = none -> Q (.ref p) (upd H1 p (.tup xs))
noncomputable def HS (t : TA) : TE:=fun σ H Q=>t σ H fun xs H1=>xs.length <= sizeLine /\ ∀ p, H1 p = none -> Q (.ref p) (upd H1 p (.lst xs))
theorem ZY {x1} (h : PA X es t) : PE X (.Tuple es x1 pos) (EM t):=by
  intro pins s σ H Q I hq
  refine wpAny_Tuple_spliced (thn (h pos pins s σ H _ I hq) fun us s1 ⟨xs, H1, I1, r, z, q⟩=>⟨by rw [← r.length]; exact z, ?_⟩)
  have hf : H1 s1.heap.objs.size = none:=I1.hok.fresh (Nat.le_refl _)
  refine ⟨.ref s1.heap.objs.size, upd H1 s1.heap.objs.size (.tup xs), I1.laid (t':=s1.toks) (fun b u e=>Heap.get?_push_of_some _ e) (Nat.le_refl _) ?_, rfl, q _ hf⟩
  exact ⟨z, us, r, ⟨_, Heap.get?_push_size _ rfl, rfl, _, rfl⟩⟩
theorem Yh (h : PA X es t) : PE X (.List es pos) (HS t):=by
  intro pins s σ H Q I hq
  refine wpAny_List_spliced (thn (h pos pins s σ H _ I hq) fun us s1 ⟨xs, H1, I1, r, z, q⟩=>⟨by rw [← r.length]; exact z, ?_⟩)
  have hf : H1 s1.heap.objs.size = none:=I1.hok.fresh (Nat.le_refl _)
  refine ⟨.ref s1.heap.objs.size, upd H1 s1.heap.objs.size (.lst xs), I1.laid (t':=s1.toks) (fun b u e=>Heap.get?_push_of_some _ e) (Nat.le_refl _) ?_, rfl, q _ hf⟩
  exact ⟨z, us, 0, r, Heap.get?_push_size _ rfl⟩
end
noncomputable abbrev Sp:=List V -> Hp -> VK -> XK -> Prop
noncomputable abbrev CXT:=List Env -> Hp -> Shared -> XK -> Value -> Shared -> Prop
structure Env0 (P : Program) (w : World) (K : PySem.W.Frag) (mg : Str -> Option Value) (base : Heap) (A : Around) (outer : List Env) (s : Shared) (H : Hp) : Prop where
  frames : A.frames = some outer
  mod : Mod K mg base
  bs : ∀ b o, base.get? b = some o -> s.heap.get? b = some o /\ H b = none
  bsz : base.objs.size <= s.heap.objs.size
  funs : s.heap.FunFrames base outer
  frf : ∀ b ∈ frs outer, H b = none
  hok : HOk P w H s.heap
  bare : AllBare s.gens
noncomputable def CE (outer : List Env) (P : Program) (w : World) (H : Hp) (s : Shared) (Q : VK) (u : Value) (s' : Shared) : Prop:=
  ∃ v H', s'.os = s.os /\ AllBare s'.gens /\ Un (frs outer) [] H H' s.heap s'.heap /\ HOk P w H' s'.heap /\ Yi v u /\ Q v H'
noncomputable def CR (CX : CXT) (outer : List Env) (P : Program) (w : World) (H : Hp) (s : Shared) (Q : VK) (E : XK) (r : Result) (s' : Shared) : Prop:=
  match r with
  | .ok (.ret u)=>CE outer P w H s Q u s'
  | .ok _=>False
  | .error e=>CX outer H s E e s'
structure FnOk (P : Program) (w : World) (K : PySem.W.Frag) (mg : Str -> Option Value) (base : Heap) (CX : CXT) (k : Nat) (f : Addr) (fd : FuncData) (ps : List Str) (sp : Sp) : Prop where
  len : ∀ vs H Q E, sp vs H Q E -> vs.length = ps.length
  run : ∀ (A : Around) (outer : List Env) (s : Shared) (H : Hp) (args : Args) (us : List Value) (vs : List V) (Q : VK) (E : XK), Room k A -> Env0 P w K mg base A outer s H -> BindsTo s fd args (ps.zip us) -> Yq vs us -> sp vs H Q E ->
    codeAny (model P w) A (.call (.ref f) args) (CR CX outer P w H s Q E) s
theorem FnOk.mono {P : Program} {w : World} {K : PySem.W.Frag} {mg : Str -> Option Value} {base : Heap} {CX : CXT} {j k : Nat} {f : Addr} {fd : FuncData} {ps : List Str} {sp : Sp} (F : FnOk P w K mg base CX j f fd ps sp) (h : j <= k) :
    FnOk P w K mg base CX k f fd ps sp:=⟨F.len, fun A outer s H args us vs Q E hr=>F.run A outer s H args us vs Q E (hr.mono h)⟩
theorem FnOk.imp {P : Program} {w : World} {K : PySem.W.Frag} {mg : Str -> Option Value} {base : Heap} {CX : CXT} {k : Nat} {f : Addr} {fd : FuncData} {ps : List Str} {sp sp' : Sp} (F : FnOk P w K mg base CX k f fd ps sp)
    (h : ∀ vs H Q E, sp' vs H Q E -> sp vs H Q E) : FnOk P w K mg base CX k f fd ps sp':=
  ⟨fun vs H Q E q=>F.len vs H Q E (h _ _ _ _ q), fun A outer s H args us vs Q E hr he hb hv hs=>F.run A outer s H args us vs Q E hr he hb hv (h _ _ _ _ hs)⟩
theorem Env0.in1 {P : Program} {w : World} {K : PySem.W.Frag} {mg : Str -> Option Value} {base : Heap} {A : Around} {outer : List Env} {s : Shared} {H : Hp} (e : Env0 P w K mg base A outer s H) :
    Env0 P w K mg base A.in1 outer s H:=⟨e.frames, e.mod, e.bs, e.bsz, e.funs, e.frf, e.hok, e.bare⟩
section
variable {X : Cx} {pins : List (Addr × Obj)} {σ : St} {H : Hp} {s s' : Shared}
theorem Inv.env0 (I : Inv X pins σ H s) : Env0 X.prog X.w X.K X.mg X.base X.A X.stack s H:=
  ⟨I.ok.frames, I.ok.mod, I.bs, Nat.le_trans I.ok.bsz I.sz, I.stack, I.stkFree, I.hok, I.bare⟩
theorem Inv.after {Q : VK} {u : Value} (I : Inv X pins σ H s) (h : CE X.stack X.prog X.w H s Q u s') : EP X pins σ Q u s':=by
  obtain ⟨v, H', os, bare, un, hok, r, q⟩:=h
  obtain ⟨hh, g, d, t, os'⟩:=s'
  obtain rfl : os' = s.os:=os
  exact ⟨v, H', I.call (h':=hh) (g':=g) (d':=d) (t':=t) (ch:=[]) un hok bare (fun b z=>absurd z (by simp)), r, q⟩
end
noncomputable def GF (sp : Sp) (dvs : List V) (E : XK) (t : TA) : TE:=fun σ H Q=>t σ H fun vs H1=>sp (vs ++ dvs) H1 Q E
noncomputable def Kc (K : PySem.W.Frag) (fd : FuncData) (ps : List Str) (ds : List Value) : Prop:=
  ∀ (s : Shared) (us : List Value), K.In s.heap -> (us ++ ds).length = ps.length -> BindsTo s fd ⟨us, []⟩ (ps.zip (us ++ ds))
theorem Kc.all {K : PySem.W.Frag} {fd : FuncData} {ps : List Str} (h : ∀ us : List Value, us.length = ps.length -> bindArgs fd ⟨us, []⟩ = pure (ps.zip us)) : Kc K fd ps []:=fun s us _ hl=>by
  rw [List.append_nil] at hl ⊢
  exact .of_eq (h us hl)
noncomputable def DE (CX : CXT) (X : Cx) (E : XK) : Prop:=∀ (pins : List (Addr × Obj)) (σ : St) (H : Hp) (s : Shared) (e : Value) (s' : Shared), Inv X pins σ H s -> CX X.stack H s E e s' -> X.xe e s'
section
variable {X : Cx} {CX : CXT} {k : Nat} {f C : Addr} {fd : FuncData} {ps : List Str} {sp : Sp} {dvs : List V} {ds : List Value} {E : XK} {x m : Str} {p pos apos : Pos} {e o : Expr} {es : List Expr} {ta : TE} {t : TA}
theorem HA {pins : List (Addr × Obj)} {σ : St} {H : Hp} {s : Shared} {Q : VK} {us : List Value} {vs : List V} (F : FnOk X.prog X.w X.K X.mg X.base CX k f fd ps sp) (hr : Room k X.A) (hb : Kc X.K fd ps ds) (hd : Yq dvs ds) (hx : DE CX X E)
    (I : Inv X pins σ H s) (r : Yq vs us) (h : sp (vs ++ dvs) H Q E) : wpAny (model X.prog X.w) X.A (call (.ref f) us) (EP X pins σ Q) X.xe s:=by
  have r2 : Yq (vs ++ dvs) (us ++ ds):=r.append hd
  have hl : (us ++ ds).length = ps.length:=by rw [← r2.length]; exact F.len _ _ _ _ h
  refine wpAny_call (codeAny_mono (F.run X.A X.stack s H ⟨us, []⟩ (us ++ ds) (vs ++ dvs) Q E hr I.env0 (hb s us I.kIn hl) r2 h) fun r s' hq=>?_)
  cases r with
  | error e=>exact hx pins σ H s e s' I hq
  | ok fl=>
    cases fl with
    | ret u=>exact I.after hq
    | next=>exact False.elim hq
    | brk=>exact False.elim hq
    | cont=>exact False.elim hq
theorem BH (F : FnOk X.prog X.w X.K X.mg X.base CX k f fd ps sp) (hr : Room k X.A) (hg : Gl X x) (hm : X.mg x = some (.ref f)) (hk : PySem.W.keepIn X.K (.ref f) = true) (hb : Kc X.K fd ps ds) (hd : Yq dvs ds) (hx : DE CX X E)
    (ha : PA X (e :: es) t) (hdb : (x == ("__debug__" : Str)) = false:=by decide) (he : starEach (e :: es) X.env = (false, eval e X.env) :: starEach es X.env:=by rfl) (hpl : (backTo pos (starEach es X.env)).any (·.1) = false:=by rfl) :
    PE X (.Call (.Name x p) (e :: es) [] pos) (GF sp dvs E t):=by
  intro pins s σ H Q I h
  refine wpAny_Call_Name_kw (G1 I hg hm ?_ hdb)
  refine PySem.W.callWith_K (h₀:=X.base) I.ok.mod.kin hk (thn (ha pos pins s σ H _ I h) fun us s1 ⟨vs, H1, I1, r, q⟩=>⟨I1.kIn, ?_⟩) he hpl
  exact HA F hr hb hd hx I1 r q
end
section
variable {X : Cx} {CX : CXT} {k : Nat} {f C : Addr} {fd : FuncData} {ps ks : List Str} {sp : Sp} {E : XK} {x m : Str} {p pos apos kpos : Pos} {e o : Expr} {es : List Expr} {kws : List Keyword} {te ta : TE} {t tk : TA} {nm : Option Str}
variable {g : List Value -> List Value -> List Value} {gV : List V -> List V -> List V}
end
structure FnScope (N P : List Str) (sc : Scope) : Prop where
  kind : sc.kind = .function
  co : sc.isCoroutine = false
  gen : sc.isGenerator = false
  nd : N.Nodup
  pre : N.take P.length = P
  par : ∀ x ∈ P, sc.names.lookup x = some .local ∨ sc.names.lookup x = some .cell
  nofree : ∀ y ∈ sc.names, y.2 ≠ .free
theorem UY {kindOf : Str -> Option NameKind} {x : Str} : ∀ {binds : List (Str × Value)} {m : Str -> Option Value}, (∀ v, (x, v) ∉ binds) -> bindL kindOf binds m x = m x
  | [], _, _=>rfl
  | (n, v) :: r, m, h=>by
    unfold bindL
    rw [UY fun w hw=>h w (List.mem_cons_of_mem _ hw)]
    split
    . have : x ≠ n := by rintro rfl; exact h v List.mem_cons_self
      simp [this]
    . rfl
theorem UO {kindOf : Str -> Option NameKind} {x : Str} : ∀ {binds : List (Str × Value)} {m : Str -> Option Value}, (∀ v, (x, v) ∉ binds) -> bindC kindOf binds m x = m x
  | [], _, _=>rfl
  | (n, v) :: r, m, h=>by
    unfold bindC
    rw [UO fun w hw=>h w (List.mem_cons_of_mem _ hw)]
    split
    . rfl
    . have : x ≠ n := by rintro rfl; exact h v List.mem_cons_self
      simp [this]
theorem UJ {kindOf : Str -> Option NameKind} {x : Str} {v : Value} : ∀ {P : List Str} {vs : List Value} {i : Nat} {m : Str -> Option Value}, P.Nodup -> P[i]? = some x -> vs[i]? = some v -> kindOf x = some .local ->
    bindL kindOf (P.zip vs) m x = some v
  | [], _, _, _, _, h, _, _=>by simp at h
  | _ :: _, [], _, _, _, _, h, _=>by simp at h
  | p :: P, w :: vs, 0, m, nd, h1, h2, hk=>by
    simp at h1 h2; subst h1; subst h2
    show bindL kindOf ((p, w) :: P.zip vs) m p = _
    unfold bindL
    rw [UY fun v hv=>(List.nodup_cons.mp nd).1 (List.of_mem_zip hv).1, if_pos hk]
    simp
  | p :: P, w :: vs, i + 1, m, nd, h1, h2, hk=>by
    show bindL kindOf ((p, w) :: P.zip vs) m x = _
    unfold bindL
    exact UJ (i:=i) (List.nodup_cons.mp nd).2 (by simpa using h1) (by simpa using h2) hk
theorem Ur {kindOf : Str -> Option NameKind} {x : Str} {v : Value} : ∀ {P : List Str} {vs : List Value} {i : Nat} {m : Str -> Option Value}, P.Nodup -> P[i]? = some x -> vs[i]? = some v -> kindOf x ≠ some .local ->
    bindC kindOf (P.zip vs) m x = some v
  | [], _, _, _, _, h, _, _=>by simp at h
  | _ :: _, [], _, _, _, _, h, _=>by simp at h
  | p :: P, w :: vs, 0, m, nd, h1, h2, hk=>by
    simp at h1 h2; subst h1; subst h2
    show bindC kindOf ((p, w) :: P.zip vs) m p = _
    unfold bindC
    rw [UO fun v hv=>(List.nodup_cons.mp nd).1 (List.of_mem_zip hv).1, if_neg hk]
    simp
  | p :: P, w :: vs, i + 1, m, nd, h1, h2, hk=>by
    show bindC kindOf ((p, w) :: P.zip vs) m x = _
    unfold bindC
    exact Ur (i:=i) (List.nodup_cons.mp nd).2 (by simpa using h1) (by simpa using h2) hk
noncomputable def V1 (N : List Str) (vs : List V) : St:=vs.map some ++ List.replicate (N.length - vs.length) none
noncomputable def B1 (CX : CXT) (P : Program) (w : World) (K : PySem.W.Frag) (mg : Str -> Option Value) (base : Heap) (N : List Str) (qual : Str) (scope : Scope) (f : Addr) (cd : Value) (A : Around) (outer : List Env) (s : Shared) (H : Hp) (E : XK) : Cx where
  prog:=P
  w:=w
  K:=K
  mg:=mg
  base:=base
  A:=A.deeper (envOfC qual scope s.heap.objs.size f cd)
  N:=N
  s₀:=s
  H₀:=H
  env:=envOfC qual scope s.heap.objs.size f cd
  outer:=outer
  stack:=envOfC qual scope s.heap.objs.size f cd :: outer
  ex:=[]
  calm:=true
  fn:=fun _=>true
  pn:=[]
  xe:=fun e s'=>wpAny (model P w) (A.deeper (envOfC qual scope s.heap.objs.size f cd)) (leaving (envOfC qual scope s.heap.objs.size f cd) e) (fun _ s''=>CX outer H s E e s'') (fun e' s''=>CX outer H s E e' s'') s'
theorem KY {sc : Scope} {n : Nat} {x : Str} (h : sc.names.lookup x = some .cell) : ∃ c, (cellsFrom n sc.names []).lookup x = some c:=by
  have q:=PySem.W.cellsFrom_some sc.names n [] (.inl h)
  exact Option.isSome_iff_exists.mp q
theorem F7 {CX : CXT} {P : Program} {w : World} {K : PySem.W.Frag} {mg : Str -> Option Value} {base : Heap} {N ps : List Str} {qual : Str} {scope : Scope} {f : Addr} {cd : Value} {A : Around} {outer : List Env} {s s1 : Shared} {H : Hp} {E : XK} {us : List Value} {vs : List V}
    (S : FnScope N ps scope) (hd : A.handled = none) (e0 : Env0 P w K mg base A outer s H) (hl : vs.length = ps.length) (r : Yq vs us)
    (x : InCallC s s.heap.objs.size (bindL (envOfC qual scope s.heap.objs.size f cd).kindOf (ps.zip us) fun _=>none) (cellsFrom (s.heap.objs.size + 1) scope.names []) (bindC (envOfC qual scope s.heap.objs.size f cd).kindOf (ps.zip us) fun _=>none) s1) :
    Inv (B1 CX P w K mg base N qual scope f cd A outer s H E) [] (V1 N vs) H s1:=by
  have hpl : ps.length <= N.length:=by have:=congrArg List.length S.pre; rw [List.length_take] at this; omega
  obtain ⟨h1, tk, rfl, hk⟩:=x.done
  have noA : ∀ b : Addr, b ∉ (B1 CX P w K mg base N qual scope f cd A outer s H E).ex:=fun b z=>absurd (show b ∈ ([] : List Addr) from z) (by simp)
  refine ⟨⟨e0.mod, S.kind, rfl, rfl, Nat.le_refl _, fun y z c h1 h2=>?_, fun y hy=>?_, fun y c _ h=>?_, fun _=>hd, Around.frames_deeper e0.frames, .inr ⟨rfl, rfl⟩, fun b z=>absurd z (noA b), e0.bs, e0.bsz, fun b _ _=>noA b, fun b z=>absurd z (noA b), e0.funs, e0.frf⟩,
    rfl, e0.bare, Un.kept hk, ⟨_, x.toInCall.ns, fun i y v h1 h2 h3=>?_⟩, fun y c h=>⟨_, x.cell y c h⟩, e0.hok.fresh (Nat.le_refl _), fun y c h=>?_, fun p hp=>absurd (show p ∈ ([] : List (Addr × Obj)) from hp) (by simp), e0.hok.kept hk, ?_⟩
  . exact name_of_addr x.apart (PySem.mem_of_lookup h1) (PySem.mem_of_lookup h2)
  . have hy : scope.names.lookup y = some .cell ∨ scope.names.lookup y = some .free := hy
    rcases hy with hy | hy
    . exact KY hy
    . exact absurd rfl (S.nofree _ (PySem.mem_of_lookup hy))
  . exact Nat.le_of_lt (x.above y c (PySem.mem_of_lookup h))
  . have hi : i < vs.length:=by
      unfold V1 at h2
      by_cases hi : i < vs.length
      . exact hi
      . rw [List.getElem?_append_right (by simpa using hi)] at h2
        rw [List.getElem?_replicate] at h2
        split at h2 <;> cases h2
    have ha : vs[i]? = some v:=by
      unfold V1 at h2
      rw [List.getElem?_append_left (by simpa using hi), List.getElem?_map] at h2
      cases e : vs[i]? with
      | none=>rw [e] at h2; cases h2
      | some a=>rw [e] at h2; cases h2; rfl
    obtain ⟨u, hu, rv⟩:=r.get ha
    have hp : ps[i]? = some y:=by
      rw [← S.pre, List.getElem?_take_of_lt (by omega)]; exact h1
    have ndP : ps.Nodup:=by rw [← S.pre]; exact S.nd.sublist (List.take_sublist _ _)
    refine ⟨u, rv, ?_⟩
    rcases S.par y (List.mem_of_getElem? hp) with k | k
    . exact .inl ⟨k, UJ ndP hp hu k⟩
    . obtain ⟨c, e⟩ := KY (n := s.heap.objs.size + 1) k
      refine .inr ⟨.inl k, c, e, ?_⟩
      have q:=x.cell y c e
      rw [Ur ndP hp hu (by show scope.names.lookup y ≠ _; rw [k]; decide)] at q
      exact q
  . exact e0.hok.fresh (Nat.le_of_lt (x.above y c (PySem.mem_of_lookup h)))
  . unfold V1
    show _ = N.length
    rw [List.length_append, List.length_map, List.length_replicate]
    omega
theorem HZ {CX : CXT} {P : Program} {w : World} {K : PySem.W.Frag} {mg : Str -> Option Value} {base : Heap} {k : Nat} {f : Addr} {name qual : Str} {params : Arguments} {body : List Stmt} {scope : Scope} {dV kV doc pm cdv ct oc : Value} {an od : Option Addr}
    {osl : Array (Option Value)} {N ps : List Str} {sp : Sp} (lk : K.lookup f = some ⟨oc, od, .func (PySem.W.fnOf name qual params body scope dV kV doc pm an cdv ct), osl⟩) (hcd : PySem.W.codeIn K cdv qual = true) (S : FnScope N ps scope)
    (len : ∀ vs H Q E, sp vs H Q E -> vs.length = ps.length)
    (hbody : ∀ (A : Around) (outer : List Env) (s : Shared) (H : Hp) (vs : List V) (Q : VK) (E : XK), Room k (A.deeper (envOfC qual scope s.heap.objs.size f cdv)) -> sp vs H Q E ->
      ∃ t, PSs (B1 CX P w K mg base N qual scope f cdv A outer s H E) body t /\ t { nx:=fun _ H'=>Q .non H', rt:=Q } (V1 N vs) H) :
    FnOk P w K mg base CX (k + 1) f (PySem.W.fnOf name qual params body scope dV kV doc pm an cdv ct) ps sp:=by
  refine ⟨len, fun A outer s H args us vs Q E hr e0 hb r hsp=>?_⟩
  have hl:=len _ _ _ _ hsp
  have KX : K.In s.heap:=e0.mod.kin.keeps fun b o e=>(e0.bs b o e).1
  have lim : s.heap.NoLimit:=e0.mod.nolimit.keeps fun b o e=>(e0.bs b o e).1
  have hkind : ∀ y ∈ ps.zip us, scope.names.lookup y.1 = some .local ∨ (scope.names.lookup y.1 = some .cell /\ ((cellsFrom (s.heap.objs.size + 1) scope.names []).lookup y.1).isSome = true):=fun ⟨n, v⟩ hy=>by
    rcases S.par n (List.of_mem_zip hy).1 with q | q
    . exact .inl q
    . exact .inr ⟨q, PySem.W.cellsFrom_some _ _ _ (.inl q)⟩
  refine codeAny_call_function hr.depth (KX _ _ lk) rfl S.co S.gen rfl (PySem.W.codeRec_of KX hcd) (hb _ _ _ _ ?_)
  refine wpAny_newFunctionEnv_cells S.kind hkind fun env he s1 x=>?_
  subst he
  refine ⟨lim.keeps x.toInCall.keep, codeAny_func ?_⟩
  obtain ⟨t, ht, hq⟩:=hbody A outer s H vs Q E (hr.deeper _) hsp
  have I : Inv (B1 CX P w K mg base N qual scope f cdv A outer s H E) [] (V1 N vs) H s1:=F7 S hr.hd e0 hl r x
  refine wpAny_mono (ht [] s1 (V1 N vs) H _ I hq) (fun fl s' hs=>?_) fun e s' hs=>hs
  have fin : ∀ {σ' : St} {H' : Hp} {v : V} {u : Value}, Inv (B1 CX P w K mg base N qual scope f cdv A outer s H E) [] σ' H' s' -> Yi v u -> Q v H' -> CE outer P w H s Q u s':=
    fun {σ' H' v u} J rv q=>⟨v, H', J.os, J.bare, J.base, J.hok, rv, q⟩
  cases fl with
  | ret u=>
    obtain ⟨v, σ', H', J, rv, q⟩:=hs
    exact fin J rv q
  | next=>
    obtain ⟨σ', H', J, q⟩:=hs
    exact fin (v:=V.non) (u:=Value.none) J rfl q
  | brk=>
    obtain ⟨_, _, _, q⟩:=hs
    exact False.elim q
  | cont=>
    obtain ⟨_, _, _, q⟩:=hs
    exact False.elim q
end L2
namespace L2
open PySem PySem.Spec PyProof.Rows
section
variable {X : Cx} {x : Str} {p pos : Pos} {e : Expr} {es : List Expr} {t : TA} {id T : String} {r : List V -> Hp -> VK -> Prop}
noncomputable def tCB (r : List V -> Hp -> VK -> Prop) (t : TA) : TE:=fun σ H Q=>t σ H fun vs H1=>r vs H1 Q
theorem XH (hc : QD X (.builtin id) r) (hg : Gl X x) (hm : X.mg x = none) (hv : bootBuiltins x = some (.builtin id)) (ha : PA X (e :: es) t) (hn : x ≠ "__name__":=by decide) (hdb : (x == ("__debug__" : Str)) = false:=by decide)
    (he : starEach (e :: es) X.env = (false, eval e X.env) :: starEach es X.env:=by rfl) (hpl : (backTo pos (starEach es X.env)).any (·.1) = false:=by rfl) : PE X (.Call (.Name x p) (e :: es) [] pos) (tCB r t):=by
  intro pins s σ H Q I h
  refine wpAny_Call_Name_kw (UQ I hg hm hv ?_ hn hdb)
  exact PyProof.Rows.callWith_builtin1 (thn (ha pos pins s σ H _ I h) fun us s1 r9=>by obtain ⟨vs, H1, I1, r1, q1⟩:=r9; exact hc pins s1 σ H1 vs us Q I1 r1 q1) he hpl
theorem QG (hc : QD X (.type T) r) (hg : Gl X x) (hm : X.mg x = none) (hv : bootBuiltins x = some (.type T)) (ha : PA X (e :: es) t) (hn : x ≠ "__name__":=by decide) (hdb : (x == ("__debug__" : Str)) = false:=by decide)
    (he : starEach (e :: es) X.env = (false, eval e X.env) :: starEach es X.env:=by rfl) (hpl : (backTo pos (starEach es X.env)).any (·.1) = false:=by rfl) : PE X (.Call (.Name x p) (e :: es) [] pos) (tCB r t):=by
  intro pins s σ H Q I h
  refine wpAny_Call_Name_kw (UQ I hg hm hv ?_ hn hdb)
  exact PyProof.Rows.callWith_type1 (thn (ha pos pins s σ H _ I h) fun us s1 r9=>by obtain ⟨vs, H1, I1, r1, q1⟩:=r9; exact hc pins s1 σ H1 vs us Q I1 r1 q1) he hpl
end
end L2
namespace HT
open PySem PyProof.Rows
section
open PySem.SeqAt
open PySem.AutoSeq1 (wpAny_loadPart')
open PySem.MeetsSeq PySem.MeetsSeq2 PySem.MeetsSeq3
end
section
variable {prog : Program} {w : World} {A : Around} {E : Value -> Shared -> Prop} {s : Shared}
noncomputable def sIx (n d : Nat) : Option Int -> Nat
  | none=>d
  | some v=>if v < 0 then (v + (n : Int)).toNat else min v.toNat n
theorem sIx_none (n d : Nat) : sIx n d none = d:=rfl
theorem sIx_nat (n d k : Nat) : sIx n d (some (k : Int)) = min k n:=by
  show (if (k : Int) < 0 then ((k : Int) + (n : Int)).toNat else min (k : Int).toNat n) = min k n
  rw [if_neg (by omega), Int.toNat_natCast]
end
end HT
namespace L2
open PySem PySem.Spec PyProof.Rows
noncomputable abbrev TO:=St -> Hp -> (Option Int -> Hp -> Prop) -> Prop
noncomputable def PO (X : Cx) (e : Option Expr) (t : TO) : Prop:=
  ∀ (pins : List (Addr × Obj)) (s : Shared) (σ : St) (H : Hp) (Q : Option Int -> Hp -> Prop), Inv X pins σ H s -> t σ H Q ->
    wpAny (model X.prog X.w) X.A (evalPart e X.env) (fun u s'=>∃ o H', Inv X pins σ H' s' /\ IsPart u o /\ Q o H') X.xe s
noncomputable def Fs : TO:=fun _ H Q=>Q none H
noncomputable def Hc (t : TE) : TO:=fun σ H Q=>t σ H fun x H1=>∃ i, x = .int i /\ Q (some i) H1
theorem GJ {ns : List Int} : ∀ {us : List Value}, Yq (ns.map V.int) us -> IntsAre us ns:=by
  induction ns with
  | nil=>intro us r; rw [List.map_nil] at r; cases r; exact .nil
  | cons n ns ih=>
    intro us r
    rw [List.map_cons] at r
    cases r with
    | cons r1 r2=>
      obtain ⟨t, e⟩:=r1
      subst e
      exact .cons n t (ih r2)
section
variable {X : Cx} {e : Expr} {te : TE} {lo hi : Option Expr} {tl th : TO} {pos p2 : Pos}
theorem KC : PO X none Fs:=by
  intro pins s σ H Q I h
  rw [evalPart_none]
  exact wpAny_pure ⟨none, H, I, .none, h⟩
theorem Kk (h : PE X e te) : PO X (some e) (Hc te):=by
  intro pins s σ H Q I hw
  rw [evalPart_some]
  refine thn (h pins s σ H _ I hw) fun u s1 r9=>?_
  obtain ⟨x, H1, I1, r1, q1⟩:=r9
  obtain ⟨i, rfl, q⟩:=q1
  obtain ⟨t, rfl⟩:=r1
  exact ⟨some i, H1, I1, .int i t, q⟩
noncomputable def SlR (X : Cx) (r : V -> Option Int -> Option Int -> Hp -> VK -> Prop) : Prop:=
  ∀ (pins : List (Addr × Obj)) (s : Shared) (σ : St) (H : Hp) (x : V) (v vl vu : Value) (lo hi : Option Int) (sl : Addr) (Q : VK), Inv X pins σ H s -> Yi x v -> s.heap.IsSliceOf sl vl vu .none -> IsPart vl lo -> IsPart vu hi -> r x lo hi H Q ->
    ∃ T id, typeLookup (.type T) "__getitem__" = pure (some (.builtin id)) /\ s.TypeIs v T /\ wpAny (model X.prog X.w) X.A (getItem v (.ref sl)) (EP X pins σ Q) X.xe s
theorem SlR.or {r r' : V -> Option Int -> Option Int -> Hp -> VK -> Prop} (h : SlR X r) (h' : SlR X r') : SlR X (fun x lo hi H Q=>r x lo hi H Q ∨ r' x lo hi H Q):=by
  intro pins s σ H x v vl vu lo hi sl Q I rx hs pl pu q
  rcases q with q | q
  . exact h pins s σ H x v vl vu lo hi sl Q I rx hs pl pu q
  . exact h' pins s σ H x v vl vu lo hi sl Q I rx hs pl pu q
noncomputable def tSl (r : V -> Option Int -> Option Int -> Hp -> VK -> Prop) (te : TE) (tl th : TO) : TE:=fun σ H Q=>te σ H fun x H1=>tl σ H1 fun l H2=>th σ H2 fun u H3=>r x l u H3 Q
theorem VV {r : V -> Option Int -> Option Int -> Hp -> VK -> Prop} (hr : SlR X r) (he : PE X e te) (hl : PO X lo tl) (hu : PO X hi th) : PE X (.Subscript e (.Slice lo hi none p2) pos) (tSl r te tl th):=by
  intro pins s σ H Q I h
  refine Subscript_ (thn (he pins s σ H _ I h) fun v s1 r9=>?_)
  obtain ⟨x, H1, I1, r1, q1⟩:=r9
  refine wpAny_Slice (thn (hl pins s1 σ H1 _ I1 q1) fun vl s2 ⟨l, H2, I2, pl, q2⟩=>thn (hu pins s2 σ H2 _ I2 q2) fun vu s3 r9=>?_)
  obtain ⟨u, H3, I3, pu, q3⟩:=r9
  rw [evalPart_none]
  refine wpAny_pure ?_
  have I4 : Inv X pins σ H3 { s3 with heap:=s3.heap.push { cls:=.type "slice", data:=.fields #[vl, vu, .none] } }:=I3.kept (t':=s3.toks) fun b ob q=>Heap.get?_push_of_some _ q
  obtain ⟨T, id, hT, ht, hg⟩:=hr pins { s3 with heap:=s3.heap.push { cls:=.type "slice", data:=.fields #[vl, vu, .none] } } σ H3 x v vl vu l u s3.heap.objs.size Q I4 r1 (Heap.IsSliceOf.new ..) pl pu q3
  show wpAny (model X.prog X.w) X.A (subscriptTail e (.Slice lo hi none p2) v (.ref s3.heap.objs.size)) (EP X pins σ Q) X.xe { s3 with heap:=s3.heap.push { cls:=.type "slice", data:=.fields #[vl, vu, .none] } }
  exact tail_any (ops:=[.ref s3.heap.objs.size, v]) ht hT hg (by with_unfolding_all rfl)
noncomputable def EH (xs : List V) (lo hi : Option Int) : List V:=(xs.drop (HT.sIx xs.length 0 lo)).take (HT.sIx xs.length xs.length hi - HT.sIx xs.length 0 lo)
theorem Kz (xs : List V) (lo hi : Option Int) : (EH xs lo hi).length <= xs.length:=by
  unfold EH
  rw [List.length_take, List.length_drop]
  omega
end
end L2
namespace L2
open PySem PySem.Spec PyProof.Rows
noncomputable def ixN (n : Nat) (i : Int) : Option Nat:=if 0 <= i then (if i < n then some i.toNat else none) else if -(n : Int) <= i then some (i + n).toNat else none
noncomputable def atI {α : Type} (xs : List α) (i : Int) : Option α:=(ixN xs.length i).bind fun j=>xs[j]?
theorem FR {n : Nat} {i : Int} {j : Nat} (h : ixN n i = some j) : seqIndex? i n = some j /\ j < n /\ -(n : Int) <= i /\ i < n:=by
  unfold ixN at h
  by_cases h0 : 0 <= i
  . rw [if_pos h0] at h
    by_cases h1 : i < n
    . rw [if_pos h1] at h
      have e : i.toNat = j:=Option.some.inj h
      exact ⟨by rw [seqIndex_of h0 h1, e], by omega, by omega, h1⟩
    . rw [if_neg h1] at h; cases h
  . rw [if_neg h0] at h
    by_cases h1 : -(n : Int) <= i
    . rw [if_pos h1] at h
      have e : (i + n).toNat = j:=Option.some.inj h
      exact ⟨by rw [seqIndex_neg (by omega) h1, e], by omega, h1, by omega⟩
    . rw [if_neg h1] at h; cases h
theorem Kq {α : Type} {xs : List α} {i : Int} {v : α} (h : atI xs i = some v) : ∃ j, seqIndex? i xs.length = some j /\ xs[j]? = some v /\ j < xs.length /\ -(xs.length : Int) <= i /\ i < xs.length:=by
  unfold atI at h
  cases e : ixN xs.length i with
  | none=>rw [e] at h; cases h
  | some j=>
    rw [e] at h
    obtain ⟨h1, h2, h3, h4⟩:=FR e
    exact ⟨j, h1, h, h2, h3, h4⟩
noncomputable def BB (b : Expr) : Prop:=∀ o i, subscripted b false o i = operate [o, i] (getItem o i)
noncomputable def IxR (X : Cx) (r : R2) : Prop:=
  ∀ (value slice : Expr) (pins : List (Addr × Obj)) (s : Shared) (σ : St) (H : Hp) (x y : V) (v u : Value) (Q : VK), Inv X pins σ H s -> Yi x v -> Yi y u -> r x y H Q ->
    subscripted slice false v u = operate [v, u] (getItem v u) -> wpAny (model X.prog X.w) X.A (subscriptTail value slice v u) (EP X pins σ Q) X.xe s
noncomputable def MtR (X : Cx) (id : String) (r : V -> List V -> Hp -> VK -> Prop) : Prop:=
  ∀ (pins : List (Addr × Obj)) (s : Shared) (σ : St) (H : Hp) (x : V) (xs : List V) (v : Value) (us : List Value) (Q : VK), Inv X pins σ H s -> Yi x v -> Yq xs us -> r x xs H Q ->
    wpAny (model X.prog X.w) X.A (call (.builtin id) (v :: us)) (EP X pins σ Q) X.xe s
section
variable {X : Cx} {a b : Expr} {ta tb : TE} {pos : Pos}
theorem IxR.or {r r' : R2} (h : IxR X r) (h' : IxR X r') : IxR X (fun x y H Q=>r x y H Q ∨ r' x y H Q):=by
  intro value slice pins s σ H x y v u Q I rx ry q hs
  rcases q with q | q
  . exact h value slice pins s σ H x y v u Q I rx ry q hs
  . exact h' value slice pins s σ H x y v u Q I rx ry q hs
theorem MtR.or {id : String} {r r' : V -> List V -> Hp -> VK -> Prop} (h : MtR X id r) (h' : MtR X id r') : MtR X id (fun x xs H Q=>r x xs H Q ∨ r' x xs H Q):=by
  intro pins s σ H x xs v us Q I rx rs q
  rcases q with q | q
  . exact h pins s σ H x xs v us Q I rx rs q
  . exact h' pins s σ H x xs v us Q I rx rs q
theorem XL {r : R2} (hr : IxR X r) (ha : PE X a ta) (hb : PE X b tb) (hs : BB b) : PE X (.Subscript a b pos) (tOp r ta tb):=by
  intro pins s σ H Q I h
  exact Subscript_ (Il ha hb I h fun v u s2 x y H2 I2 rx ry q=>hr a b pins s2 σ H2 x y v u Q I2 rx ry q (hs _ _))
noncomputable def Br (K : PySem.W.Frag) : R2:=fun x y H Q=>∃ p xs i v, x = .ref p /\ y = .int i /\ SqL K H p xs /\ atI xs i = some v /\ Q v H
noncomputable def EJ (K : PySem.W.Frag) : R2:=fun x y H Q=>∃ p xs i v, x = .ref p /\ y = .int i /\ SqT K H p xs /\ atI xs i = some v /\ Q v H
theorem BP : IxR X (Br X.K):=by
  intro value slice pins s σ H x y v u Q I rx ry h hs
  obtain ⟨p, xs, i, z, rfl, rfl, hq, he, q⟩:=h
  cases rx
  obtain ⟨t, rfl⟩:=ry
  obtain ⟨its, r, pl, hz⟩:=I.list hq
  obtain ⟨j, h1, h2, h3, h4, h5⟩:=Kq he
  obtain ⟨w, ew, rw'⟩:=r.get h2
  have hl:=r.length
  have hn:=Uz
  have fin : EP X pins σ Q w s:=⟨z, H, I, rw', q⟩
  by_cases h0 : 0 <= i
  . have hj : i.toNat = j:=by
      rw [seqIndex_of h0 h5] at h1
      exact Option.some.inj h1
    exact item_listR pl.isList h0 (by omega) (by rw [hj]; simpa using ew) fin hs
  . have hj : (i + (its.toArray.size : Int)).toNat = j:=by
      rw [seqIndex_neg (by omega) h4] at h1
      rw [List.size_toArray, ← hl]
      exact Option.some.inj h1
    exact subscriptTail_builtinR (x:=w) pl.isList.typeIs slot_list_getitem.lookup
      (wpAny_getItem_list_neg (Q:=fun r s'=>r = w /\ EP X pins σ Q r s') pl.isList (by omega) (by rw [List.size_toArray] <;> omega) (by omega) (by rw [hj]; simpa using ew) ⟨rfl, fin⟩) hs
theorem Hz : IxR X (EJ X.K):=by
  intro value slice pins s σ H x y v u Q I rx ry h hs
  obtain ⟨p, xs, i, z, rfl, rfl, hq, he, q⟩:=h
  cases rx
  obtain ⟨t, rfl⟩:=ry
  obtain ⟨its, r, pl, hz⟩:=I.tuple hq
  obtain ⟨j, h1, h2, h3, h4, h5⟩:=Kq he
  obtain ⟨w, ew, rw'⟩:=r.get h2
  have hl:=r.length
  have hn:=Uz
  have fin : EP X pins σ Q w s:=⟨z, H, I, rw', q⟩
  exact subscriptTail_builtinR (x:=w) pl.typeIs slot_tuple_getitem.lookup
    (getItem_tuple (j:=j) (Q:=fun r s'=>r = w /\ EP X pins σ Q r s') pl (by omega) (by omega) (by rw [List.size_toArray, ← hl]; exact h1) (by simpa using ew) ⟨rfl, fin⟩) hs
theorem Gy (its : List Value) (n j : Nat) (u : Value) : Obj.mapSeq (·.setIfInBounds j u) { cls:=.type "list", data:=.seq its.toArray n } = { cls:=.type "list", data:=.seq (its.set j u).toArray n }:=by
  simp [Obj.mapSeq]
theorem Inv.lst {pins : List (Addr × Obj)} {σ : St} {H : Hp} {s : Shared} {p : Addr} {xs : List V} (I : Inv X pins σ H s) (h : H p = some (.lst xs)) :
    ∃ (its : List Value) (n : Nat), Yq xs its /\ s.heap.get? p = some { cls:=.type "list", data:=.seq its.toArray n } /\ xs.length <= sizeLine:=by
  obtain ⟨z, its, n, r, e⟩:=I.hok p _ h
  exact ⟨its, n, r, e, z⟩
theorem Inv.lstUpd {pins : List (Addr × Obj)} {σ : St} {H : Hp} {s : Shared} {p : Addr} {xs ys : List V} {its its' : List Value} {n n' : Nat} {f : Obj -> Obj} (I : Inv X pins σ H s) (h : H p = some (.lst xs))
    (ho : s.heap.get? p = some { cls:=.type "list", data:=.seq its.toArray n }) (hf : f { cls:=.type "list", data:=.seq its.toArray n } = { cls:=.type "list", data:=.seq its'.toArray n' }) (r : Yq ys its') (hz : ys.length <= sizeLine) (t : Nat) :
    Inv X pins σ (upd H p (.lst ys)) { s with heap:=s.heap.update p f, toks:=t }:=by
  have e : (s.heap.update p f).get? p = some { cls:=.type "list", data:=.seq its'.toArray n' }:=by
    rw [Heap.get?_update_self f ho (by rw [hf] <;> rfl), hf]
  refine I.write (x:=p) (e:=p) (by rw [h]; trivial) (.inl rfl) (fun b u hb q=>(Heap.get?_update_other _ _ (Ne.symm hb)).trans q) ⟨_, e⟩ ?_
  exact ⟨hz, its', n', r, e⟩
noncomputable def Eg : V -> V -> V -> Hp -> (Hp -> Prop) -> Prop:=fun o i v H Q=>∃ p xs k j, o = .ref p /\ i = .int k /\ H p = some (.lst xs) /\ ixN xs.length k = some j /\ Q (upd H p (.lst (xs.set j v)))
theorem ZB : IC X Eg:=by
  intro pins s σ H o i v ov iv u Q I ro ri rv h
  obtain ⟨p, xs, k, j, rfl, rfl, hp, hj, q⟩:=h
  cases ro
  obtain ⟨t, rfl⟩:=ri
  obtain ⟨its, n, r, ho, hz⟩:=I.lst hp
  obtain ⟨h1, h2, h3, h4⟩:=FR hj
  have hl:=r.length
  have hn:=Uz
  have I' : Inv X pins σ (upd H p (.lst (xs.set j v))) { s with heap:=s.heap.update p (Obj.mapSeq (·.setIfInBounds j u)) }:=
    I.lstUpd hp ho (Gy its n j u) (r.set rv j) (by rw [List.length_set]; exact hz) s.toks
  by_cases h0 : 0 <= k
  . have hk : k.toNat = j:=by
      rw [seqIndex_of h0 h4] at h1
      exact Option.some.inj h1
    exact PySem.W.ki_setAt ho h0 (by omega) (by rw [List.size_toArray, ← hl]; exact h4) (by rw [hk]; exact ⟨_, I', q⟩)
  . have hk : (k + (its.toArray.size : Int)).toNat = j:=by
      rw [seqIndex_neg (by omega) h3] at h1
      rw [List.size_toArray, ← hl]
      exact Option.some.inj h1
    exact PySem.W.ki_setBack ho (by omega) (by rw [List.size_toArray, ← hl]; exact h3) (by omega) (by rw [hk]; exact ⟨_, I', q⟩)
theorem Up (lo hi : Option Int) (n : Nat) : (sliceBounds lo hi none n).1 = ((HT.sIx n 0 lo : Nat) : Int) /\ (sliceBounds lo hi none n).2.1 = ((HT.sIx n n hi : Nat) : Int) /\ (sliceBounds lo hi none n).2.2 = 1:=by
  refine ⟨?_, ?_, rfl⟩
  . cases lo with
    | none=>simp [sliceBounds, HT.sIx]
    | some i=>
      simp only [sliceBounds, HT.sIx, Option.getD_none, show (1 : Int) > 0 by decide, if_true]
      by_cases h : i < 0
      . simp only [h, if_true] <;> omega
      . simp only [h, if_false] <;> omega
  . cases hi with
    | none=>simp [sliceBounds, HT.sIx]
    | some i=>
      simp only [sliceBounds, HT.sIx, Option.getD_none, show (1 : Int) > 0 by decide, if_true]
      by_cases h : i < 0
      . simp only [h, if_true] <;> omega
      . simp only [h, if_false] <;> omega
theorem V3 (its : List Value) (lo hi : Option Int) : slicePick its.toArray lo hi none = ((its.drop (HT.sIx its.length 0 lo)).take (HT.sIx its.length its.length hi - HT.sIx its.length 0 lo)).toArray:=by
  obtain ⟨h1, h2, h3⟩:=Up lo hi its.toArray.size
  unfold slicePick
  rw [h1, h2, h3]
  simp only [sliceRange_one, pick_run, List.size_toArray] <;> rfl
noncomputable def HU (K : PySem.W.Frag) : V -> Option Int -> Option Int -> Hp -> VK -> Prop:=fun x lo hi H Q=>∃ a xs, x = .ref a /\ SqL K H a xs /\ ∀ p, H p = none -> Q (.ref p) (upd H p (.lst (EH xs lo hi)))
theorem EF : SlR X (HU X.K):=by
  intro pins s σ H x v vl vu lo hi sl Q I rx hs pl pu h
  obtain ⟨a, xs, rfl, hx, q⟩:=h
  cases rx
  obtain ⟨its, r, ht, hz⟩:=I.list hx
  have hlen:=r.length
  refine ⟨"list", _, slot_list_getitem.lookup, ht.isList.typeIs, ?_⟩
  refine wpAny_getItem_list_slice ht.isList hs pl pu .none (by simp) ?_ (by rw [List.size_toArray] <;> omega)
  rw [V3, ← hlen]
  refine ⟨.ref s.heap.objs.size, _, I.laid (t':=s.toks) (o:=.lst (EH xs lo hi)) (fun b ob q=>Heap.get?_push_of_some _ q) (Nat.le_refl _) ?_, rfl, q _ (I.hok.fresh (Nat.le_refl _))⟩
  exact ⟨Nat.le_trans (Kz xs lo hi) hz, _, 0, (r.drop (HT.sIx xs.length 0 lo)).take (HT.sIx xs.length xs.length hi - HT.sIx xs.length 0 lo), Heap.get?_push_size _ rfl⟩
noncomputable def Jo : V -> Bool
  | .non=>true
  | .bl _=>true
  | .int _=>true
  | .str _=>true
  | _=>false
noncomputable def eqV : V -> V -> Bool
  | .non, .non=>true
  | .bl a, .bl b=>a == b
  | .bl a, .int b=>(if a then 1 else 0) == b
  | .int a, .bl b=>a == (if b then 1 else 0)
  | .int a, .int b=>a == b
  | .str a, .str b=>a == b
  | _, _=>false
theorem HM {A : Around} {s : Shared} {y x : V} {u v : Value} (ry : Yi y u) (rx : Yi x v) (fy : Jo y = true) (fx : Jo x = true) : SeqAt.EqAt A s u v (eqV y x):=by
  cases y with
  | non=>
    cases ry
    cases x with
    | non=>cases rx; exact SeqAt.EqAt.same _
    | bl b=>cases rx; exact SeqAt.EqAt.none_bool b
    | int b=>obtain ⟨t, rfl⟩:=rx; exact SeqAt.EqAt.none_int b t
    | str b=>obtain ⟨t, rfl⟩:=rx; exact SeqAt.EqAt.none_str b t
    | _=>exact absurd (show false = true from fx) Bool.false_ne_true
  | bl a=>
    cases ry
    cases x with
    | non=>cases rx; exact SeqAt.EqAt.bool_none a
    | bl b=>cases rx; exact SeqAt.EqAt.bool_bool a b
    | int b=>obtain ⟨t, rfl⟩:=rx; exact SeqAt.EqAt.bool_int a b t
    | str b=>obtain ⟨t, rfl⟩:=rx; exact SeqAt.EqAt.bool_str a b t
    | _=>exact absurd (show false = true from fx) Bool.false_ne_true
  | int a=>
    obtain ⟨t', rfl⟩:=ry
    cases x with
    | non=>cases rx; exact SeqAt.EqAt.int_none a t'
    | bl b=>cases rx; exact SeqAt.EqAt.int_bool a t' b
    | int b=>obtain ⟨t, rfl⟩:=rx; exact SeqAt.EqAt.int_int a t' b t
    | str b=>obtain ⟨t, rfl⟩:=rx; exact SeqAt.EqAt.int_str a t' b t
    | _=>exact absurd (show false = true from fx) Bool.false_ne_true
  | str a=>
    obtain ⟨t', rfl⟩:=ry
    cases x with
    | non=>cases rx; exact SeqAt.EqAt.str_none a t'
    | bl b=>cases rx; exact SeqAt.EqAt.str_bool a t' b
    | int b=>obtain ⟨t, rfl⟩:=rx; exact SeqAt.EqAt.str_int a t' b t
    | str b=>obtain ⟨t, rfl⟩:=rx; exact SeqAt.EqAt.str_str a t' b t
    | _=>exact absurd (show false = true from fx) Bool.false_ne_true
  | _=>exact absurd (show false = true from fy) Bool.false_ne_true
noncomputable def eqU (x : V) (u : Value) : Bool:=match u with
  | .none=>eqV .non x
  | .bool b=>eqV (.bl b) x
  | .int i _=>eqV (.int i) x
  | .str z _=>eqV (.str z) x
  | _=>false
theorem Fa {x y : V} {u : Value} (r : Yi y u) (f : Jo y = true) : eqU x u = eqV y x:=by
  cases y with
  | non=>cases r; rfl
  | bl b=>cases r; rfl
  | int i=>obtain ⟨t, rfl⟩:=r; rfl
  | str z=>obtain ⟨t, rfl⟩:=r; rfl
  | _=>exact absurd (show false = true from f) Bool.false_ne_true
theorem Ka {x : V} : ∀ {xs : List V} {us : List Value}, Yq xs us -> xs.all Jo = true -> us.any (eqU x) = xs.any fun y=>eqV y x
  | _, _, .nil, _=>rfl
  | y :: xs, u :: us, .cons r t, f=>by
    rw [List.all_cons, Bool.and_eq_true] at f
    rw [List.any_cons, List.any_cons, Fa r f.1, Ka t f.2]
theorem Jt {A : Around} {s : Shared} {x : V} {v : Value} (rx : Yi x v) (fx : Jo x = true) : ∀ {xs : List V} {us : List Value}, Yq xs us -> xs.all Jo = true -> ∀ u ∈ us, SeqAt.EqAt A s u v (eqU x u)
  | _, _, .nil, _=>fun u hu=>by cases hu
  | y :: xs, u :: us, .cons r t, f=>fun u' hu=>by
    rw [List.all_cons, Bool.and_eq_true] at f
    rcases List.mem_cons.mp hu with rfl | hu
    . rw [Fa r f.1]; exact HM r rx f.1 fx
    . exact Jt rx fx t f.2 u' hu
noncomputable def inV (x : V) (xs : List V) : Bool:=xs.any fun y=>eqV y x
noncomputable def rIn (K : PySem.W.Frag) (neg : Bool) : R2:=fun x y H Q=>∃ p xs, y = .ref p /\ (SqL K H p xs ∨ SqT K H p xs) /\ Jo x = true /\ xs.all Jo = true /\ Q (.bl (if neg then !inV x xs else inV x xs)) H
theorem DK : OpR X (compareOp .In) (rIn X.K false):=by
  intro pins s σ H x y v u Q I rx ry h
  obtain ⟨p, xs, rfl, hq, fx, fs, q⟩:=h
  cases ry
  rcases hq with hq | hq
  . obtain ⟨its, r, pl, hz⟩ := I.list hq
    refine SeqAt.in_listAt (eqU x) pl.isList (fun w hw=>Jt rx fx r fs w (by simpa using hw)) ⟨.bl _, H, I, rfl, ?_⟩
    rw [show its.toArray.any (eqU x) = its.any (eqU x) by simp, Ka r fs]
    exact q
  . obtain ⟨its, r, pl, hz⟩ := I.tuple hq
    refine SeqAt.in_tupleAt (eqU x) pl (fun w hw=>Jt rx fx r fs w (by simpa using hw)) ⟨.bl _, H, I, rfl, ?_⟩
    rw [show its.toArray.any (eqU x) = its.any (eqU x) by simp, Ka r fs]
    exact q
theorem UK : QD X (.builtin "len") (fun xs H Q=>∃ p ys, xs = [.ref p] /\ (SqL X.K H p ys ∨ SqT X.K H p ys) /\ Q (.int ys.length) H):=by
  intro pins s σ H xs us Q I r h
  obtain ⟨p, ys, rfl, hq, q⟩:=h
  obtain ⟨u, rfl, rx⟩:=Fi r
  cases rx
  have hn:=Uz
  rcases hq with hq | hq
  . obtain ⟨its, r', pl, hz⟩ := I.list hq
    have hlen:=r'.length
    exact Calls.call_len_list pl.isList (by simp only [List.size_toArray] <;> omega) ⟨.int ys.length, H, I.tok _, ⟨s.toks + 1, by rw [List.size_toArray, hlen]⟩, q⟩
  . obtain ⟨its, r', pl, hz⟩ := I.tuple hq
    have hlen:=r'.length
    exact len_tuple pl (by simp only [List.size_toArray] <;> omega) ⟨.int ys.length, H, I.tok _, ⟨s.toks + 1, by rw [List.size_toArray, hlen]⟩, q⟩
theorem QD.or {f : Value} {r r' : List V -> Hp -> VK -> Prop} (h : QD X f r) (h' : QD X f r') : QD X f (fun xs H Q=>r xs H Q ∨ r' xs H Q):=by
  intro pins s σ H xs us Q I rs q
  rcases q with q | q
  . exact h pins s σ H xs us Q I rs q
  . exact h' pins s σ H xs us Q I rs q
theorem UD : QD X (.type "list") (fun xs H Q=>∃ p ys, xs = [.ref p] /\ (SqL X.K H p ys ∨ SqT X.K H p ys) /\ ∀ l, H l = none -> Q (.ref l) (upd H l (.lst ys))):=by
  intro pins s σ H xs us Q I r h
  obtain ⟨p, ys, rfl, hq, q⟩:=h
  obtain ⟨u, rfl, rx⟩:=Fi r
  cases rx
  have fin : ∀ (its : List Value), Yq ys its -> ys.length <= sizeLine -> ∀ (h' : Heap) (c' : Nat), (∀ b o', s.heap.get? b = some o' -> h'.get? b = some o') ->
      h'.get? s.heap.objs.size = some { cls:=.type "list", dict:=none, data:=.seq its.toArray c', slots:=#[] } -> EP X pins σ Q (.ref s.heap.objs.size) { s with heap:=h' }:=fun its r' hz h' c' kp e=>
    ⟨.ref s.heap.objs.size, _, I.laid (t':=s.toks) kp (Nat.le_refl _) (show Y5 X.prog X.w _ h' _ (.lst ys) from ⟨hz, its, c', r', e⟩), rfl, q _ (I.hok.fresh (Nat.le_refl _))⟩
  rcases hq with hq | hq
  . obtain ⟨its, r', pl, hz⟩ := I.list hq
    have hlen:=r'.length
    obtain ⟨o, ho, hc, n, hd⟩:=pl.isList
    exact call_list_seq p (.inl rfl) ho hc hd (fun h' c' kp e=>fin its r' hz h' c' kp e) (by simp only [List.size_toArray] <;> omega)
  . obtain ⟨its, r', pl, hz⟩ := I.tuple hq
    have hlen:=r'.length
    obtain ⟨o, ho, hc, n, hd⟩:=pl
    exact call_list_seq p (.inr rfl) ho hc hd (fun h' c' kp e=>fin its r' hz h' c' kp e) (by simp only [List.size_toArray] <;> omega)
noncomputable def tyV (K : PySem.W.Frag) (T : String) (x : V) (H : Hp) : Prop:=match x with
  | .str _=>T = "str"
  | .int _=>T = "int"
  | .ref p=>(T = "list" /\ ∃ xs, SqL K H p xs) ∨ (T = "tuple" /\ ∃ o, K.lookup p = some o /\ o.cls = .type "tuple" /\ o.dict = none) ∨
      (T = "dict" /\ ((∃ kvs, H p = some (.dK kvs)) ∨ ∃ kvs, H p = some (.dT kvs))) ∨ (T = "set" /\ ∃ S n, H p = some (.set S n))
  | _=>False
theorem Hv {pins : List (Addr × Obj)} {σ : St} {H : Hp} {s : Shared} {T : String} {x : V} {v : Value} (I : Inv X pins σ H s) (r : Yi x v) (ty : tyV X.K T x H) :
    s.TypeIs v T /\ ∀ a, v = .ref a -> ∃ ob, s.heap.get? a = some ob /\ ob.dict = none:=by
  cases x with
  | str z=>
    obtain ⟨t, rfl⟩:=r
    cases (show T = "str" from ty)
    exact ⟨typeIs_str s z t, fun _ e=>nomatch e⟩
  | int i=>
    obtain ⟨t, rfl⟩:=r
    cases (show T = "int" from ty)
    exact ⟨typeIs_int s i t, fun _ e=>nomatch e⟩
  | ref p=>
    cases r
    rcases ty with ⟨rfl, xs, hq⟩ | ⟨rfl, o, hk, hc, hd⟩ | ⟨rfl, hk⟩ | ⟨rfl, S, n, hk⟩
    . obtain ⟨its, _, pl, _⟩ := I.list hq
      refine ⟨pl.isList.typeIs, fun a e=>?_⟩
      cases e
      obtain ⟨o, n, e, c, hd, _⟩:=pl
      exact ⟨o, e, hd⟩
    . refine ⟨⟨o, I.kIn p o hk, hc⟩, fun a e => ?_⟩
      cases e
      exact ⟨o, I.kIn _ o hk, hd⟩
    . have z : ∃ o, s.heap.get? p = some o /\ o.ExactDict:=by
        rcases hk with ⟨kvs, hk⟩ | ⟨kvs, hk⟩
        . obtain ⟨_, _, _, _, o, _, _, e, ex, _⟩ := I.hok p _ hk
          exact ⟨o, e, ex⟩
        . obtain ⟨_, _, _, _, o, _, _, e, ex, _⟩ := I.hok p _ hk
          exact ⟨o, e, ex⟩
      obtain ⟨o, e, ex⟩:=z
      refine ⟨⟨o, e, ex.1⟩, fun a e2=>?_⟩
      cases e2
      exact ⟨o, e, ex.2.1⟩
    . obtain ⟨o, _, _, _, e, ex, _⟩ := I.hok p _ hk
      refine ⟨⟨o, e, ex.1⟩, fun a e2=>?_⟩
      cases e2
      exact ⟨o, e, ex.2.1⟩
  | _=>exact False.elim ty
noncomputable def tBM (K : PySem.W.Frag) (T : String) (r : V -> List V -> Hp -> VK -> Prop) (to : TE) (t : TA) : TE:=fun σ H Q=>to σ H fun x H1=>tyV K T x H1 /\ t σ H1 fun xs H2=>r x xs H2 Q
variable {o e : Expr} {es : List Expr} {to : TE} {t : TA} {name : Str} {apos cpos : Pos} {T id : String} {r : V -> List V -> Hp -> VK -> Prop}
theorem ZR (pa : PlainAttrs T) (slot : Slot T name id) (hty : typeOf (.builtin id) = pure (.type "method_descriptor")) (hm : MtR X id r) (ho : PE X o to) (ha : PA X (e :: es) t)
    (hbase : attributeBase o name X.env (eval o X.env) = eval o X.env:=by rfl)
    (hfew : ((backTo cpos (starEach (e :: es) X.env)).all (fun x=>!x.1) && (backToKw cpos (keywordEach [] X.env)).all (fun x=>x.1.isSome)
      && decide ((e :: es).length + ([] : List Keyword).length + (if ([] : List Keyword).isEmpty then 0 else 1) < 30)) = true:=by rfl)
    (hline : (apos.endLine == cpos.line) = true:=by rfl) (hs : starEach (e :: es) X.env = (false, eval e X.env) :: starEach es X.env:=by rfl) (hplain : (backTo cpos (starEach es X.env)).any (·.1) = false:=by rfl) :
    PE X (.Call (.Attribute o name apos) (e :: es) [] cpos) (tBM X.K T r to t):=by
  intro pins s σ H Q I h
  refine wpAny_Call_method_late hbase hfew hline rfl (thn (ho pins s σ H _ I h) fun v s1 r9=>?_)
  obtain ⟨x, H1, I1, r1, ty, q1⟩:=r9
  obtain ⟨h1, h2⟩:=Hv I1 r1 ty
  refine ⟨T, id, pa, slot, hty, h1, h2, ?_⟩
  have hA:=ha cpos pins s1 σ H1 _ I1 q1
  rw [hs] at hA ⊢
  refine Calls.callWith_builtin (by show (false || (backTo cpos (starEach es X.env)).any (·.1)) = false; rw [hplain] <;> rfl) (Calls.evalArgs_plain ?_)
  exact thn hA fun us s2 r9=>by obtain ⟨vs, H2, I2, r2, q2⟩:=r9; exact hm pins s2 σ H2 x vs v us Q I2 r1 r2 q2
/- xs.append(e), list.index on a module's tuple .. are MtR facts of 06m -/
end
end L2
namespace L2
open PySem PySem.Spec PyProof.Rows
noncomputable def MtM (X : Cx) (id : String) (r : V -> List V -> Hp -> VK -> Prop) : Prop:=
  ∀ (pins : List (Addr × Obj)) (s : Shared) (σ : St) (H : Hp) (x : V) (xs : List V) (v : Value) (us : List Value) (Q : VK), Inv X pins σ H s -> Yi x v -> Yq xs us -> r x xs H Q ->
    wpAny (model X.prog X.w) X.A (call (.builtin id) (v :: us)) (EP X pins σ Q) X.xe s
theorem Yq.one : ∀ {x : V} {us : List Value}, Yq [x] us -> ∃ u, us = [u] /\ Yi x u:=fun {x us} h=>by
  cases h with
  | cons r t=>
    cases t
    exact ⟨_, rfl, r⟩
theorem Yq.two : ∀ {x y : V} {us : List Value}, Yq [x, y] us -> ∃ u v, us = [u, v] /\ Yi x u /\ Yi y v:=fun {x y us} h=>by
  cases h with
  | cons r t=>
    cases t with
    | cons q t=>
      cases t
      exact ⟨_, _, rfl, r, q⟩
theorem Yq.zero : ∀ {us : List Value}, Yq [] us -> us = []
  | _, .nil=>rfl
theorem Yq.eraseIdx : ∀ {xs : List V} {us : List Value} (i : Nat), Yq xs us -> Yq (xs.eraseIdx i) (us.eraseIdx i)
  | _, _, _, .nil=>.nil
  | _, _, 0, .cons _ t=>t
  | _, _, i + 1, .cons r t=>.cons r (Yq.eraseIdx i t)
theorem Yq.rep {xs : List V} {us : List Value} (h : Yq xs us) : ∀ k : Nat, Yq (List.replicate k xs).flatten (List.replicate k us).flatten
  | 0=>.nil
  | k + 1=>by
    rw [List.replicate_succ, List.replicate_succ, List.flatten_cons, List.flatten_cons]
    exact Yq.append h (Yq.rep h k)
theorem UU {α : Type} : ∀ (l : List α) (i : Nat), (l.eraseIdx i).length <= l.length
  | [], _=>Nat.le_refl _
  | _ :: _, 0=>Nat.le_succ _
  | _ :: r, i + 1=>Nat.succ_le_succ (UU r i)
theorem Uv (its : List Value) : ∀ (k : Nat) (acc : List Value),
    List.foldl (fun x1 x2=>x1 ++ x2) acc.toArray (List.replicate k its.toArray) = (acc ++ (List.replicate k its).flatten).toArray
  | 0, acc=>by simp
  | k + 1, acc=>by
    have e : acc.toArray ++ its.toArray = (acc ++ its).toArray:=by simp
    have e2 : (acc ++ its) ++ (List.replicate k its).flatten = acc ++ (List.replicate (k + 1) its).flatten:=by
      rw [List.replicate_succ, List.flatten_cons, List.append_assoc]
    rw [← e2, ← Uv its k (acc ++ its), ← e, List.replicate_succ, List.foldl_cons]
section
variable {X : Cx} {pins : List (Addr × Obj)} {σ : St} {H : Hp} {s : Shared} {l b : Addr} {xs ys zs : List V}
theorem Inv.lset {its its' : List Value} {n : Nat} {f : Array Value -> Array Value} {t' : Nat} (I : Inv X pins σ H s) (hH : H l = some (.lst xs))
    (e : s.heap.get? l = some { cls:=.type "list", data:=.seq its.toArray n }) (hf : f its.toArray = its'.toArray) (hv : Yq ys its') (hz : ys.length <= sizeLine) :
    Inv X pins σ (upd H l (.lst ys)) { s with heap:=s.heap.update l (Obj.mapSeq f), toks:=t' }:=by
  have q:=PySem.IsL.update e f
  rw [hf] at q
  refine I.write (x:=l) (e:=l) (by rw [hH]; exact trivial) (.inl rfl) (fun b' u hb hu=>(Heap.get?_update_other s.heap (Obj.mapSeq f) (Ne.symm hb)).trans hu) ⟨_, q⟩ ?_
  exact ⟨hz, its', _, hv, q⟩
theorem Inv.lnew {its : List Value} {t' : Nat} (I : Inv X pins σ H s) (hv : Yq ys its) (hz : ys.length <= sizeLine) :
    Inv X pins σ (upd H s.heap.objs.size (.lst ys)) { s with heap:=s.heap.push { cls:=.type "list", data:=.seq its.toArray }, toks:=t' }:=
  I.laid (fun _ _ q=>Heap.get?_push_of_some _ q) (Nat.le_refl _) ⟨hz, its, 0, hv, Heap.get?_push_size _ rfl⟩
theorem Inv.fresh (I : Inv X pins σ H s) : H s.heap.objs.size = none:=I.hok.fresh (Nat.le_refl _)
theorem Inv.lstM (I : Inv X pins σ H s) (hH : H l = some (.lst xs)) : xs.length <= sizeLine /\ ∃ (its : List Value) (n : Nat), Yq xs its /\ xs.length = its.length /\ s.heap.get? l = some { cls:=.type "list", data:=.seq its.toArray n }:=by
  obtain ⟨z, its, n, r, e⟩:=I.hok l _ hH
  exact ⟨z, its, n, r, r.length, e⟩
theorem Gg {n : Nat} (h : n <= sizeLine) : Builtin.List.listTooLong n = false:=by
  unfold Builtin.List.listTooLong
  exact decide_eq_false (by omega)
end
section
variable {X : Cx}
noncomputable def VI : V -> List V -> Hp -> VK -> Prop:=fun x vs H Q=>∃ l xs y, x = .ref l /\ vs = [y] /\ H l = some (.lst xs) /\ xs.length < sizeLine /\ Q .non (upd H l (.lst (xs ++ [y])))
theorem Yb : MtM X "list.append" VI:=by
  intro pins s σ H x vs v us Q I rx rv h
  obtain ⟨l, xs, y, rfl, rfl, hH, hz, q⟩:=h
  cases rx
  obtain ⟨u, rfl, ru⟩:=rv.one
  obtain ⟨z, its, n, r, hl, e⟩:=I.lstM hH
  refine call_meets F.slot_list_append ⟨_, e, rfl⟩ F.entry_list_append (F.args_list_append_2 _ _) (PySem.list_append l its.toArray n u (by rw [List.size_toArray]; omega)) ⟨e, ?_⟩
  refine ⟨.non, _, I.lset (its':=its ++ [u]) hH e (by simp) (r.append (.cons ru .nil)) ?_, rfl, q⟩
  rw [List.length_append, List.length_singleton]
  omega
noncomputable def GU : V -> List V -> Hp -> VK -> Prop:=fun x vs H Q=>∃ l b xs zs, x = .ref l /\ vs = [.ref b] /\ H l = some (.lst xs) /\ H b = some (.lst zs) /\ xs.length + zs.length <= sizeLine /\ Q .non (upd H l (.lst (xs ++ zs)))
theorem Dd : MtM X "list.extend" GU:=by
  intro pins s σ H x vs v us Q I rx rv h
  obtain ⟨l, b, xs, zs, rfl, rfl, hH, hB, hz, q⟩:=h
  cases rx
  obtain ⟨u, rfl, ru⟩:=rv.one
  cases ru
  obtain ⟨z, its, n, r, hl, e⟩:=I.lstM hH
  obtain ⟨z2, its2, n2, r2, hl2, e2⟩:=I.lstM hB
  have hsz : its.toArray.size + its2.toArray.size <= sizeLine:=by rw [List.size_toArray, List.size_toArray]; omega
  have hlong : ¬ (!its.toArray.isEmpty && Builtin.List.listTooLong (its.toArray.size + its2.toArray.size)) = true:=by
    rw [Gg hsz, Bool.and_false]
    exact Bool.false_ne_true
  refine call_meets F.slot_list_extend ⟨_, e, rfl⟩ F.entry_list_extend (F.args_list_extend_2 _ _)
    (AutoSeq1.list_extend_list_list_0 l its.toArray n b its2.toArray n2 hlong (by rw [List.size_toArray]; omega) (by omega)) ⟨e, e2, ?_⟩
  refine ⟨.non, _, I.lset (its':=its ++ its2) hH e (by simp) (r.append r2) ?_, rfl, q⟩
  rw [List.length_append]
  omega
noncomputable def K6 : V -> List V -> Hp -> VK -> Prop:=fun x vs H Q=>∃ l xs i k y, x = .ref l /\ vs = [.int i] /\ H l = some (.lst xs) /\ -(2 ^ 63) <= i /\ i < 2 ^ 63 /\ seqIndex? i xs.length = some k /\ xs[k]? = some y /\ Q y (upd H l (.lst (xs.eraseIdx k)))
theorem K4 : MtM X "list.pop" K6:=by
  intro pins s σ H x vs v us Q I rx rv h
  obtain ⟨l, xs, i, k, y, rfl, rfl, hH, h1, h2, hk, hy, q⟩:=h
  cases rx
  obtain ⟨u, rfl, ru⟩:=rv.one
  obtain ⟨t, rfl⟩:=ru
  obtain ⟨z, its, n, r, hl, e⟩:=I.lstM hH
  obtain ⟨w, hw, rw'⟩:=r.get hy
  refine call_meets F.slot_list_pop ⟨_, e, rfl⟩ F.entry_list_pop (F.args_list_pop_2 _ _)
    (MeetsSeq.list_pop_at l its.toArray n i t k w (fitsIndex_both h1 h2) (by rw [List.size_toArray, ← hl]; exact hk) (by rw [← Array.getElem?_toList]; exact hw) (by rw [List.size_toArray]; omega)) ⟨e, ?_⟩
  refine ⟨y, _, I.lset (its':=its.eraseIdx k) hH e ?_ (r.eraseIdx k) ?_, rw', q⟩
  . show its.toArray.eraseIdxIfInBounds k = (its.eraseIdx k).toArray
    rw [List.eraseIdxIfInBounds_toArray]
  . have := UU xs k
    omega
noncomputable def Ix : R2:=fun x y H Q=>∃ l b xs zs, x = .ref l /\ y = .ref b /\ H l = some (.lst xs) /\ H b = some (.lst zs) /\ xs.length + zs.length <= sizeLine /\ ∀ p, H p = none -> Q (.ref p) (upd H p (.lst (xs ++ zs)))
theorem Ge : OpR X (binaryOp .Add) Ix:=by
  intro pins s σ H x y v u Q I rx ry h
  obtain ⟨l, b, xs, zs, rfl, rfl, hH, hB, hz, q⟩:=h
  cases rx
  cases ry
  obtain ⟨z, its, n, r, hl, e⟩:=I.lstM hH
  obtain ⟨z2, its2, n2, r2, hl2, e2⟩:=I.lstM hB
  refine PySem.P.add_list e e2 ?_ (by rw [List.size_toArray, List.size_toArray]; omega)
  have ea : its.toArray ++ its2.toArray = (its ++ its2).toArray:=by simp
  rw [ea]
  exact ⟨.ref _, _, I.lnew (t':=s.toks) (r.append r2) (by rw [List.length_append]; omega), rfl, q _ I.fresh⟩
noncomputable def IG : R2:=fun x y H Q=>∃ l k xs, x = .ref l /\ y = .int k /\ H l = some (.lst xs) /\ -(2 ^ 63) <= k /\ k < 2 ^ 63 /\ xs.length * k.toNat <= sizeLine /\
  ∀ p, H p = none -> Q (.ref p) (upd H p (.lst (List.replicate k.toNat xs).flatten))
theorem Ey {α : Type} (xs : List α) (k : Nat) : (List.replicate k xs).flatten.length = k * xs.length:=by
  induction k with
  | zero=>simp
  | succ k ih=>rw [List.replicate_succ, List.flatten_cons, List.length_append, ih, Nat.succ_mul, Nat.add_comm]
theorem JH : OpR X (binaryOp .Mult) IG:=by
  intro pins s σ H x y v u Q I rx ry h
  obtain ⟨l, k, xs, rfl, rfl, hH, h1, h2, hz, q⟩:=h
  cases rx
  obtain ⟨t, rfl⟩:=ry
  obtain ⟨z, its, n, r, hl, e⟩:=I.lstM hH
  have hlen : its.toArray.size * k.toNat <= sizeLine:=by rw [List.size_toArray, ← hl]; exact hz
  have hcap : ¬ its.toArray.size * k.toNat > (2 ^ 63 - 1) / 8:=by
    have : (sizeLine : Nat) <= (2 ^ 63 - 1) / 8:=by decide
    omega
  have hfit : ¬ (!Builtin.List.listFitsIndex k) = true:=by
    rw [fitsIndex_both h1 h2]
    exact Bool.false_ne_true
  have hlong : ¬ Builtin.List.listTooLong (its.toArray.size * k.toNat) = true:=by
    rw [Gg hlen]
    exact Bool.false_ne_true
  have hnew : List.foldl (fun x1 x2=>x1 ++ x2) #[] (List.replicate (if its.toArray.isEmpty = true then 0 else k.toNat) its.toArray) = (List.replicate k.toNat its).flatten.toArray:=by
    have f0 : ∀ m : Nat, List.foldl (fun x1 x2=>x1 ++ x2) #[] (List.replicate m its.toArray) = (List.replicate m its).flatten.toArray:=fun m=>by
      have:=Uv its m []
      rw [List.nil_append] at this
      exact this
    rw [f0]
    cases its with
    | nil=>simp
    | cons a r'=>rw [if_neg (by simp)]
  refine wpAny_binaryOp_repeat_ref (T:="list") (U:="int") (by decide) ⟨_, e, rfl⟩ (fun s'=>typeIs_int s' k t) noFill_list_mul F.fills_int_mul F.slot_int_rmul repeat_list F.slot_int_index.lookup
    (call_meets F.slot_int_rmul (typeIs_int s k t) F.entry_int_rmul (F.args_int_rmul_2 _ _) (int___rmul___int_list k t l its.toArray n)
      ⟨e, rfl, ⟨_, e, rfl⟩, call_meets F.slot_list_mul ⟨_, e, rfl⟩ F.entry_list_mul (F.args_list_mul_2 _ _) (AutoListH.list___mul___list_int_3 l its.toArray n k t hfit hcap hlong) ⟨e, ?_⟩⟩)
  rw [hnew]
  exact ⟨.ref _, _, I.lnew (t':=s.toks) (r.rep k.toNat) (by rw [Ey, Nat.mul_comm]; exact hz), rfl, q _ I.fresh⟩
end
section
variable {prog : Program} {w : World} {A : Around} {E : Value -> Shared -> Prop} {s : Shared}
end
section
variable {X : Cx}
end
end L2
namespace Att
open PySem PySem.W PySem.Calls PyProof.Rows
theorem JD {P : Params} {h : Heap} : ∀ (ns : List Int) (vs : List Value), WellAll P h vs (ns.map WData.int) -> IntsAre vs ns:=by
  intro ns
  induction ns with
  | nil=>
    intro vs w
    rw [List.map_nil] at w
    cases w
    exact .nil
  | cons n ns ih=>
    intro vs w
    rw [List.map_cons] at w
    cases w with
    | cons a b=>
      cases a
      exact .cons _ _ (ih _ b)
theorem Fb {l : OpenLaw} {n : Nat} (hn : l.most = some n) {P : Params} {h : Heap} {args : List WData} {vals : List Value}
    (hpre : l.row.toRowW.claim.pre args = true) (hwl : WellAll P h vals args) :
    ∃ a vs ns, vals = [Value.ref a] /\ args = [WData.list (ns.map WData.int)] /\ h.get? a = some { cls:=.type "list", data:=.seq vs.toArray } /\ IntsAre vs ns /\ ns.length <= n:=by
  have hsh : WShape.hasAll [] args [.list .int] = true:=(pre_splitW hpre).1
  have hc : l.pre.holds [] { args:=args } = true:=(pre_splitW hpre).2
  obtain ⟨d, r, rfl, h1, h2⟩:=hasAllW_cons hsh
  obtain rfl:=hasAllW_nil h2
  obtain ⟨xs, rfl, h3⟩:=hasW_list h1
  obtain ⟨ns, rfl⟩:=items_int h3
  have hlen : ns.length <= n:=by
    unfold OpenLaw.pre at hc
    have h4 : (WTm.not (.lt (.lit (.int (n : Int))) (.len (.arg 0)))).holds [] { args:=[.list (ns.map .int)] } = true:=by
      have h4:=(holds_andW hc).1
      rw [hn] at h4
      exact h4
    have h5:=condW_of h4 (w_not (w_lt w_lit (w_len_list (w_arg rfl))))
    rw [List.length_map] at h5
    refine Nat.le_of_not_lt fun q=>?_
    have q' : (n : Int) < ((ns.length : Nat) : Int):=by omega
    first
      | (rw [decide_eq_true q'] at h5; exact absurd h5 (by decide))
      | (simp at h5; omega)
  cases hwl with
  | cons w1 w2=>
    cases w2
    cases w1 with
    | list ho hall=>exact ⟨_, _, ns, rfl, rfl, ho, JD ns _ hall, hlen⟩
theorem FG (l : OpenLaw) (args : List WData) : l.row.toRowW.claim.post args (.bool true) args = true:=
  postW_of (r:=l.row.toRowW) (X:=(true == true))
    (show WShape.has [] (.bool true) .bool = true by first | rfl | decide | simp [WShape.has, WShape.arms, WShape.armsAll])
    (show (WTm.eq .res (.lit (.bool true))).value [] { args:=args, res:=some (.bool true), after:=args } = some (.bool (true == true)) from w_eq_bool (w_res rfl) w_lit) rfl
theorem attach_call {l : OpenLaw} {n : Nat} {q : Program} {loose : List Str} {XP : (Str -> Option Value) -> Heap -> Prop} {YP : World -> Heap -> Prop} {d : DefRec}
    (hn : l.most = some n) (hdf : d.params.defaults = [])
    (call : ∀ (w : World) (s₀ s₁ : Shared) (mg mb : Str -> Option Value) (fa : Addr) (o : Obj) (pm cd doc : Value) (a : Addr) (vs : List Value) (ns : List Int),
      Ground q loose [] XP w s₀ mg mb s₁.heap -> YP w s₁.heap ->
      s₁.heap.get? fa = some o -> o.data = .func (docDef d.name d.params d.body d.scope pm cd doc) -> s₁.heap.CodeRec cd d.name -> mg d.name = some (.ref fa) ->
      s₁.heap.get? a = some { cls:=.type "list", data:=.seq vs.toArray } -> IntsAre vs ns -> ns.length <= n -> s₁.gens = #[] ->
      codeAny (model l.prog w) callerA (.call (.ref fa) ⟨[.ref a], []⟩) (fun r s'=>r = .ok (.ret (.bool true)) /\ OldK s₁.heap s'.heap /\ s'.os = s₁.os /\ AllBare s'.gens) s₁) :
    WalkO q loose XP YP l.row.toRowW d [] (fun f vs=>PySem.call f vs):=by
  intro w s₀ s₁ mg mb G Y fa o pm cd doc dV kV ho hd hcd hD hmg hg args vals as hpre hlay hrd hwl hlo
  obtain rfl : dV = .none:=Dflts.none hD hdf
  obtain rfl : kV = .none:=Dflts.noKw hD
  obtain ⟨a, vs, ns, rfl, rfl, hobj, hints, hlen⟩:=Fb hn hpre hwl
  refine enter_call (codeAny_mono (call w s₀ s₁ mg mb fa o pm cd doc a vs ns G Y ho (fd_plain hd) hcd hmg hobj hints hlen hg) fun r s' hq=>?_)
  obtain ⟨rfl, h2, h3, h4⟩:=hq
  exact ⟨.inl ⟨.bool true, .bool true, [], rfl, fun _=>rfl, .bool true, FG l _, fun _=>⟨List.Pairwise.nil, fun _ hm=>(nomatch hm)⟩⟩, h2, h3, h4⟩
section
variable {prog : Program} {w : World} {A : Around} {E : Value -> Shared -> Prop} {s : Shared} {K : Frag}
noncomputable def IJ (h : Heap) (L d : Addr) : List (Addr × Obj):=(List.range h.objs.size).filterMap fun a=>if a = L ∨ a = d then none else (h.get? a).map fun o=>(a, o)
end
end Att
namespace L2
open PySem PySem.Spec PyProof.Rows
theorem Dn : ∀ {vs : List Value} {ns : List Int}, IntsAre vs ns -> Yq (ns.map V.int) vs:=fun p=>by
  induction p with
  | nil=>exact .nil
  | cons n t _ ih=>exact .cons ⟨t, rfl⟩ ih
noncomputable def Is (H : Hp) : Prop:=∀ b, H b = none ∨ ∃ o xs, H b = some (.frz o (.lst xs))
theorem Cl {P : Program} {w : World} {K : PySem.W.Frag} {mg mb : Str -> Option Value} {CX : CXT} {k : Nat} {fa a : Addr} {fd : FuncData} {x : Str} {sp : Sp} {s₁ : Shared} {vs : List Value} {ns : List Int}
    (KX : K.In s₁.heap) (hns : s₁.heap.Ns mainGlobals mg) (hb : s₁.heap.Ns builtinsNs mb) (hbb : ∀ x : Str, x ≠ "__name__" -> mb x = bootBuiltins x) (hlim : s₁.heap.NoLimit) (hg : s₁.gens = #[])
    (ha : s₁.heap.get? a = some { cls:=.type "list", data:=.seq vs.toArray }) (hi : IntsAre vs ns) (hl : ns.length <= sizeLine) (hr : Room k callerA)
    (F : ∀ base : Heap, K.In base -> base.Ns mainGlobals mg -> FnOk P w K mg base CX k fa fd [x] sp) (hbind : ∀ (s : Shared) (u : Value), BindsTo s fd ⟨[u], []⟩ [(x, u)])
    (hsp : ∀ H : Hp, Is H -> SqL K H a (ns.map V.int) -> sp [.ref a] H (fun v _=>v = .bl true) fun _ _ _=>False)
    (hCX : ∀ H e s', CX [] H s₁ (fun _ _ _=>False) e s' -> False) :
    codeAny (model P w) callerA (.call (.ref fa) ⟨[.ref a], []⟩) (fun r s'=>r = .ok (.ret (.bool true)) /\ OldK s₁.heap s'.heap /\ s'.os = s₁.os /\ AllBare s'.gens) s₁:=by
  have rv:=Dn hi
  have lenV:=hi.length
  -- from an abstract heap in which nothing but the script may be tracked
  have core : ∀ H : Hp, Is H -> SqL K H a (ns.map V.int) -> HOk P w H s₁.heap -> (∀ b, H b ≠ none -> b = a) -> (H a ≠ none -> K.lookup a = none) ->
      codeAny (model P w) callerA (.call (.ref fa) ⟨[.ref a], []⟩) (fun r s'=>r = .ok (.ret (.bool true)) /\ OldK s₁.heap s'.heap /\ s'.os = s₁.os /\ AllBare s'.gens) s₁:=by
    intro H hO hS hok hA hK
    have base_of : ∀ {b : Addr} {o : Obj}, s₁.heap.get? b = some o -> H b = none -> (DP s₁.heap H).get? b = some o:=fun e n=>KN e n
    have noA : ∀ {b : Addr} {o : Obj} {es : Array DictEntry} {ep : Nat}, s₁.heap.get? b = some o -> o.data = .dict es ep -> H b = none:=fun {b o es ep} e d=>by
      cases q : H b with
      | none=>rfl
      | some u=>
        have e' : b = a:=hA b (by rw [q]; simp)
        subst e'
        rw [ha] at e; cases e
        have d' : Data.seq vs.toArray _ = Data.dict es ep:=d
        cases d'
    have nsK : ∀ {b : Addr} {m : Str -> Option Value}, s₁.heap.Ns b m -> (DP s₁.heap H).Ns b m:=fun {b m} ⟨o, es, ep, e, d, r⟩=>⟨o, es, ep, base_of e (noA e d), d, r⟩
    have hKb : K.In (DP s₁.heap H):=fun b o e=>base_of (KX b o e) (by
      cases q : H b with
      | none=>rfl
      | some u=>
        have e' : b = a:=hA b (by rw [q]; simp)
        subst e'
        rw [hK (by rw [q]; simp)] at e; cases e)
    have hM : Mod K mg (DP s₁.heap H):=⟨hKb, nsK hns, ⟨mb, nsK hb, hbb⟩, let ⟨mc, h1, h2⟩:=hlim; ⟨mc, nsK h1, h2⟩⟩
    have e0 : Env0 P w K mg (DP s₁.heap H) callerA [] s₁ H:=⟨rfl, hM, fun b o e=>Et e, Nat.le_of_eq (Dz _ _), trivial, fun b hb=>absurd (show b ∈ ([] : List Addr) from hb) (by simp), hok, .of_eq hg⟩
    refine codeAny_mono ((F _ hKb (nsK hns)).run callerA [] s₁ H ⟨[.ref a], []⟩ [.ref a] [.ref a] _ _ hr e0 (hbind s₁ (.ref a)) (.cons rfl .nil) (hsp H hO hS)) fun r s' h=>?_
    cases r with
    | error e=>exact (hCX H e s' h).elim
    | ok fl=>
      cases fl with
      | next=>exact False.elim h
      | brk=>exact False.elim h
      | cont=>exact False.elim h
      | ret u=>
        obtain ⟨v, H', os, bare, un, hok', r', q⟩:=h
        have q' : v = .bl true:=q
        subst q'
        obtain rfl : u = Value.bool true:=r'
        refine ⟨rfl, OldK.of_keep fun b o e=>?_, os, bare⟩
        cases q : H b with
        | none=>exact un.keep b o e q (by intro z; exact absurd (show b ∈ ([] : List Addr) from z) (by simp)) (by simp)
        | some u=>
          rcases hO b with z | ⟨ob, xs, z⟩
          . rw [q] at z; cases z
          . have z2 := un.frzs b ob _ z
            obtain ⟨e1, _⟩:=hok b _ z
            obtain ⟨e2, _⟩:=hok' b _ z2
            rw [e] at e1; cases e1
            exact e2
  cases hk : K.lookup a with
  | some o=>
    -- the script is one of the module's own objects
    have e:=KX a o hk
    rw [ha] at e
    cases e
    refine core (fun _=>none) (fun _=>.inl rfl) (.inr ⟨_, vs.toArray, _, hk, rfl, rfl, rfl, by rw [List.size_toArray, lenV]; exact hl, by simpa using rv⟩) (fun b u z=>by have z' : (none : Option HO) = some u:=z; cases z') (fun b z=>absurd rfl z) fun z=>absurd rfl z
  | none=>
    refine core (fun b=>if b = a then some (.frz { cls:=.type "list", data:=.seq vs.toArray } (.lst (ns.map V.int))) else none) (fun b=>?_) (.inl (.inr ⟨{ cls:=.type "list", data:=.seq vs.toArray }, if_pos rfl⟩)) (fun b u z=>?_) (fun b z=>?_) fun _=>hk
    . by_cases hb : b = a
      . exact .inr ⟨_, _, if_pos hb⟩
      . exact .inl (if_neg hb)
    . by_cases hb : b = a
      . have z' := (if_pos hb).symm.trans z
        cases z'
        subst hb
        exact ⟨ha, by rw [List.length_map]; exact hl, vs, _, rv, ha⟩
      . have z' := (if_neg hb).symm.trans z
        cases z'
    . by_cases hb : b = a
      . exact hb
      . exact absurd (if_neg hb) z
end L2
namespace L2
open PySem PySem.Spec PyProof.Rows
theorem BL {l : PySem.W.OpenLaw} {n k : Nat} {q : Program} {loose : List Str} {XP : (Str -> Option Value) -> Heap -> Prop} {YP : World -> Heap -> Prop} {d : DefRec} {K : Params -> PySem.W.Frag} {CX : World -> CXT} {sp : World -> Sp} {x : Str}
    (hn : l.most = some n) (hn2 : n <= sizeLine) (hdf : d.params.defaults = []) (hr : Room k callerA)
    (hY : ∀ (w : World) (h : Heap), YP w h -> (K w.params).In h)
    (F : ∀ (w : World) (mg : Str -> Option Value) (fa : Addr) (h : Heap), (K w.params).In h -> h.Ns mainGlobals mg -> mg d.name = some (.ref fa) ->
      ∃ fd : FuncData, (∀ (s : Shared) (u : Value), BindsTo s fd ⟨[u], []⟩ [(x, u)]) /\
        ∀ base : Heap, (K w.params).In base -> base.Ns mainGlobals mg -> FnOk l.prog w (K w.params) mg base (CX w) k fa fd [x] (sp w))
    (hsp : ∀ (w : World) (H : Hp) (a : Addr) (ns : List Int), ns.length <= n -> Is H -> SqL (K w.params) H a (ns.map V.int) -> sp w [.ref a] H (fun v _=>v = .bl true) fun _ _ _=>False)
    (hCX : ∀ (w : World) (H : Hp) (s : Shared) (e : Value) (s' : Shared), CX w [] H s (fun _ _ _=>False) e s' -> False) :
    PySem.W.WalkO q loose XP YP l.row.toRowW d [] (fun f vs=>PySem.call f vs):=by
  refine Att.attach_call hn hdf fun w s₀ s₁ mg mb fa o pm cd doc a vs ns G Y ho hd hcd hmg hobj hints hlen hg=>?_
  have KX:=hY w _ Y
  obtain ⟨fd, hb, hF⟩:=F w mg fa _ KX G.T.g hmg
  exact Cl KX G.T.g G.T.b G.T.builtins G.T.nolimit hg hobj hints (Nat.le_trans hlen hn2) hr hF hb (fun H hO hS=>hsp w H a ns hlen hO hS) fun H e s'=>hCX w H s₁ e s'
end L2
namespace L2
open PySem PySem.Spec PyProof.Rows
noncomputable def Xz (s : Stmt) : Arguments:=match s with
  | .FunctionDef _ a _ _ _ _ _ _ _ _=>a
  | _=>{ posonlyargs:=[], args:=[], vararg:=none, kwonlyargs:=[], kw_defaults:=[], kwarg:=none, defaults:=[] }
noncomputable def Xx (s : Stmt) : List Stmt:=match s with
  | .FunctionDef _ _ b _ _ _ _ _ _ _=>b
  | _=>[]
noncomputable def Xg (s : Stmt) : Scope:=match s with
  | .FunctionDef _ _ _ _ _ _ sc _ _ _=>sc
  | _=>{ kind:=.function, names:=[], isGenerator:=false, isCoroutine:=false }
noncomputable abbrev CX0 : CXT:=fun _ _ _ _ _ _=>False
noncomputable abbrev E0 : XK:=fun _ _ _=>False
theorem Ir {X : Cx} : DE CX0 X E0:=fun _ _ _ _ _ _ _ h=>h.elim
structure Fun (K : PySem.W.Frag) (x qual : Str) (st : Stmt) (f : Addr) (fd : FuncData) : Prop where
  ex : ∃ (oc : Value) (od : Option Addr) (kV doc pm : Value) (an : Option Addr) (cdv ct : Value) (osl : Array (Option Value)),
    fd = PySem.W.fnOf x qual (Xz st) (Xx st) (Xg st) .none kV doc pm an cdv ct /\ K.lookup f = some ⟨oc, od, .func fd, osl⟩ /\ PySem.W.codeIn K cdv qual = true
  kp : PySem.W.keepIn K (.ref f) = true
section
variable {P : Program} {w : World} {K : PySem.W.Frag} {mg : Str -> Option Value} {base : Heap}
theorem Fun.ok {x qual : Str} {st : Stmt} {f : Addr} {fd : FuncData} {N ps : List Str} {k : Nat} {sp : Sp} (F : Fun K x qual st f fd) (S : FnScope N ps (Xg st)) (len : ∀ vs H Q E, sp vs H Q E -> vs.length = ps.length)
    (hbody : ∀ (cdv : Value) (A : Around) (outer : List Env) (s : Shared) (H : Hp) (vs : List V) (Q : VK) (E : XK), Room k (A.deeper (envOfC qual (Xg st) s.heap.objs.size f cdv)) -> sp vs H Q E ->
      ∃ t, PSs (B1 CX0 P w K mg base N qual (Xg st) f cdv A outer s H E).nox (Xx st) t /\ t { nx:=fun _ H'=>Q .non H', rt:=Q } (V1 N vs) H) : FnOk P w K mg base CX0 (k + 1) f fd ps sp:=by
  obtain ⟨oc, od, kV, doc, pm, an, cdv, ct, osl, rfl, lk, hcd⟩:=F.ex
  refine HZ lk hcd S len fun A outer s H vs Q E hr hsp=>?_
  obtain ⟨t, h, q⟩:=hbody cdv A outer s H vs Q E hr hsp
  exact ⟨t, h.nox, q⟩
theorem Fun.binds {x qual : Str} {st : Stmt} {f : Addr} {fd : FuncData} {ps : List Str} (F : Fun K x qual st f fd)
    (h : ∀ (kV doc pm : Value) (an : Option Addr) (cdv ct : Value) (us : List Value), us.length = ps.length -> bindArgs (PySem.W.fnOf x qual (Xz st) (Xx st) (Xg st) .none kV doc pm an cdv ct) ⟨us, []⟩ = pure (ps.zip us)) : Kc K fd ps []:=by
  obtain ⟨oc, od, kV, doc, pm, an, cdv, ct, osl, rfl, lk, hcd⟩:=F.ex
  exact .all (h kV doc pm an cdv ct)
theorem Xs {x qual : Str} {st : Stmt} {f : Addr} {oc : Value} {od an : Option Addr} {osl : Array (Option Value)} {kV doc pm cdv ct : Value} (l : K.lookup f = some ⟨oc, od, .func (PySem.W.fnOf x qual (Xz st) (Xx st) (Xg st) .none kV doc pm an cdv ct), osl⟩)
    (c : PySem.W.codeIn K cdv qual = true) (k : PySem.W.keepIn K (.ref f) = true) : Fun K x qual st f (PySem.W.fnOf x qual (Xz st) (Xx st) (Xg st) .none kV doc pm an cdv ct):=⟨⟨oc, od, kV, doc, pm, an, cdv, ct, osl, rfl, l, c⟩, k⟩
end
theorem YQ {A : Around} {k : Nat} (hr : Room k A) : A.units + 1 < cLine:=Nat.lt_of_le_of_lt (Nat.add_le_add_left (by decide : 1 <= 64) _) hr.units
section
variable {X : Cx}
theorem pv (i : Nat) {x : Str} {pos : Pos} (hN : X.N[i]? = some x:=by rfl) (hv : Vis X.env.scope x:=by first | exact Or.inl rfl | exact Or.inr (Or.inl rfl) | exact Or.inr (Or.inr rfl)) (hd : (x == ("__debug__" : Str)) = false:=by decide)
    (hcd : (x == ("__classdict__" : Str)) = false:=by decide) : PE X (.Name x pos) (U2 i):=Hr hN hv hd hcd
end
noncomputable def Xu (H H' : Hp) : Prop:=∀ b o, H b = some o -> H' b = some o
theorem Xu.refl (H : Hp) : Xu H H:=fun _ _ h=>h
theorem Xu.trans {H H1 H2 : Hp} (a : Xu H H1) (b : Xu H1 H2) : Xu H H2:=fun c o h=>b c o (a c o h)
theorem Xu.free {H H' : Hp} (e : Xu H H') {l : Addr} (h : H' l = Option.none) : H l = Option.none:=by
  cases q : H l with
  | none=>rfl
  | some o=>
    rw [e l o q] at h
    cases h
theorem Xu.seq {K : PySem.W.Frag} {H H' : Hp} {a : Addr} {xs : List V} (e : Xu H H') (h : SqL K H a xs) : SqL K H' a xs:=by
  rcases h with (h | ⟨o, h⟩) | h
  . exact .inl (.inl (e _ _ h))
  . exact .inl (.inr ⟨o, e _ _ h⟩)
  . exact .inr h
end L2
namespace L2
open PySem PySem.Spec PyProof.Rows
section
variable {κ : Type} [DecidableEq κ]
noncomputable def Ke (kvs : List (κ × V)) (k : κ) : Option V:=(kvs.find? fun kv=>decide (kv.1 = k)).map (·.2)
noncomputable def Vg (kvs : List (κ × V)) (k : κ) (v : V) : List (κ × V):=
  if (kvs.any fun kv=>decide (kv.1 = k)) = true then kvs.map (fun kv=>if kv.1 = k then (kv.1, v) else kv) else kvs ++ [(k, v)]
noncomputable def HN (kvs : List (κ × V)) (k : κ) : List (κ × V):=kvs.filter fun kv=>decide (kv.1 ≠ k)
theorem Jz {p : κ × V} {r : List (κ × V)} {k : κ} (e : p.1 = k) : Ke (p :: r) k = some p.2:=by simp [Ke, List.find?_cons, e]
theorem Jy {p : κ × V} {r : List (κ × V)} {k : κ} (e : ¬ p.1 = k) : Ke (p :: r) k = Ke r k:=by simp [Ke, List.find?_cons, e]
theorem KW (k : κ) : ∀ kvs : List (κ × V), (kvs.any fun kv=>decide (kv.1 = k)) = (Ke kvs k).isSome
  | []=>rfl
  | p :: r=>by
    rw [List.any_cons]
    by_cases e : p.1 = k
    . simp only [Jz e, decide_eq_true e, Bool.true_or, Option.isSome_some]
    . rw [Jy e, decide_eq_false e, Bool.false_or]; exact KW k r
theorem Vd (kvs : List (κ × V)) (k : κ) (v : V) : (Vg kvs k v).length <= kvs.length + 1:=by
  unfold Vg
  split
  . rw [List.length_map]; omega
  . rw [List.length_append, List.length_cons, List.length_nil]; omega
theorem GQ.isSome_eq {o : Option V} {u : Option Value} (r : GQ o u) : o.isSome = u.isSome:=by
  cases o with
  | none=>cases u with
    | none=>rfl
    | some _=>exact (show False from r).elim
  | some _=>cases u with
    | none=>exact (show False from r).elim
    | some _=>rfl
theorem GQ.getD {o : Option V} {u : Option Value} {d : V} {d' : Value} (r : GQ o u) (rd : Yi d d') : Yi (o.getD d) (u.getD d'):=by
  cases o with
  | none=>cases u with
    | none=>exact rd
    | some _=>exact (show False from r).elim
  | some _=>cases u with
    | none=>exact (show False from r).elim
    | some _=>exact r
theorem KV.val {kvs : List (κ × V)} {vs : List (κ × Value)} (r : KV kvs vs) (k : κ) : GQ (Ke kvs k) (valueAt vs k):=by
  unfold KV at r
  induction r with
  | nil=>exact True.intro
  | @cons p q ps qs h t ih=>
    obtain ⟨h1, h2⟩:=h
    by_cases e : p.1 = k
    . have e' : q.1 = k := h1.symm.trans e
      have b : valueAt (q :: qs) k = some q.2:=by simp [valueAt, List.find?_cons, e']
      rw [Jz e, b]; exact h2
    . have e' : ¬ q.1 = k := fun z => e (h1.trans z)
      have b : valueAt (q :: qs) k = valueAt qs k:=by simp [valueAt, List.find?_cons, e']
      rw [Jy e, b]; exact ih
theorem KV.any {kvs : List (κ × V)} {vs : List (κ × Value)} (r : KV kvs vs) (k : κ) : (kvs.any fun kv=>decide (kv.1 = k)) = vs.any fun kv=>decide (kv.1 = k):=by
  unfold KV at r
  induction r with
  | nil=>rfl
  | cons h t ih=>rw [List.any_cons, List.any_cons, ih, h.1]
theorem KV.repl {kvs : List (κ × V)} {vs : List (κ × Value)} (r : KV kvs vs) (k : κ) {y : V} {u : Value} (ry : Yi y u) :
    KV (kvs.map fun kv=>if kv.1 = k then (kv.1, y) else kv) (vs.map fun kv=>if kv.1 = k then (kv.1, u) else kv):=by
  unfold KV at r ⊢
  induction r with
  | nil=>exact .nil
  | @cons p q ps qs h t ih=>
    rw [List.map_cons, List.map_cons]
    refine .cons ?_ ih
    obtain ⟨h1, h2⟩:=h
    by_cases e : p.1 = k
    . rw [if_pos e, if_pos (h1.symm.trans e)]; exact ⟨h1, ry⟩
    . rw [if_neg e, if_neg (fun z=>e (h1.trans z))]; exact ⟨h1, h2⟩
theorem KV.put {kvs : List (κ × V)} {vs : List (κ × Value)} (r : KV kvs vs) (k : κ) {y : V} {u : Value} (ry : Yi y u) : KV (Vg kvs k y) (stored vs k u):=by
  unfold Vg stored
  rw [r.any k]
  by_cases e : (vs.any fun kv=>decide (kv.1 = k)) = true
  . rw [if_pos e, if_pos e]; exact r.repl k ry
  . rw [if_neg e, if_neg e]; exact Paired.snoc r ⟨rfl, ry⟩
theorem KV.drop {kvs : List (κ × V)} {vs : List (κ × Value)} (r : KV kvs vs) (k : κ) : KV (HN kvs k) (without vs k):=by
  unfold KV at r ⊢
  unfold HN without
  induction r with
  | nil=>exact .nil
  | @cons p q ps qs h t ih=>
    obtain ⟨h1, h2⟩:=h
    rw [List.filter_cons, List.filter_cons]
    by_cases e : p.1 = k
    . have a : ¬ decide (p.1 ≠ k) = true := by simp [e]
      have b : ¬ decide (q.1 ≠ k) = true:=by simp [h1.symm.trans e]
      rw [if_neg a, if_neg b]; exact ih
    . have e' : ¬ q.1 = k := fun z => e (h1.trans z)
      have a : decide (p.1 ≠ k) = true:=by simp [e]
      have b : decide (q.1 ≠ k) = true:=by simp [e']
      rw [if_pos a, if_pos b]; exact .cons ⟨h1, h2⟩ ih
theorem KV.keys {kvs : List (κ × V)} {vs : List (κ × Value)} (r : KV kvs vs) : kvs.map (·.1) = vs.map (·.1):=by
  unfold KV at r
  induction r with
  | nil=>rfl
  | cons h t ih=>rw [List.map_cons, List.map_cons, ih, h.1]
theorem KV.length {kvs : List (κ × V)} {vs : List (κ × Value)} (r : KV kvs vs) : kvs.length = vs.length:=Paired.length r
end
theorem Dh {P : Program} {w : World} {k : Key} {u : Value} (r : Yi (kV k) u) : (Yu P w).is k u = true:=by
  cases k with
  | inl i=>obtain ⟨t, e⟩:=(show ∃ t, u = Value.int i t from r); subst e; exact Kv P w i t
  | inr x=>obtain ⟨t, e⟩:=(show ∃ t, u = Value.str x t from r); subst e; exact U4 P w x t
theorem UH {P : Program} {w : World} : ∀ {ks : List Key} {us : List Value}, Yq (ks.map kV) us -> ItemsAre (Yu P w) ks us
  | [], _, r=>by rw [List.map_nil] at r; cases r; exact .nil
  | k :: ks, _, r=>by
    rw [List.map_cons] at r
    cases r with
    | cons h t=>exact .cons (Dh h) (UH t)
noncomputable abbrev KT (H : Hp) : List (List Key × V) -> List (List Key × Addr × Value) -> Prop:=Paired fun p q=>p.1 = q.1 /\ H q.2.1 = some (.tup (p.1.map kV)) /\ Yi p.2 q.2.2
theorem KT.val {H : Hp} {kvs : List (List Key × V)} {xs : List (List Key × Addr × Value)} (r : KT H kvs xs) (k : List Key) : GQ (Ke kvs k) ((atKey xs k).map (·.2)):=by
  induction r with
  | nil=>exact True.intro
  | @cons p q ps qs h t ih=>
    obtain ⟨h1, _, h2⟩:=h
    by_cases e : p.1 = k
    . have e' : q.1 = k := h1.symm.trans e
      have b : atKey (q :: qs) k = some q.2:=by simp [atKey, List.find?_cons, e']
      rw [Jz e, b]; exact h2
    . have e' : ¬ q.1 = k := fun z => e (h1.trans z)
      have b : atKey (q :: qs) k = atKey qs k:=by simp [atKey, List.find?_cons, e']
      rw [Jy e, b]; exact ih
theorem KT.repl {H : Hp} {kvs : List (List Key × V)} {xs : List (List Key × Addr × Value)} (r : KT H kvs xs) (k : List Key) {y : V} {u : Value} (ry : Yi y u) :
    KT H (kvs.map fun kv=>if kv.1 = k then (kv.1, y) else kv) (xs.map (putAt k u)):=by
  induction r with
  | nil=>exact .nil
  | @cons p q ps qs h t ih=>
    rw [List.map_cons, List.map_cons]
    refine .cons ?_ ih
    obtain ⟨h1, h2, h3⟩:=h
    unfold putAt
    by_cases e : p.1 = k
    . rw [if_pos e, if_pos (h1.symm.trans e)]; exact ⟨h1, h2, ry⟩
    . rw [if_neg e, if_neg (fun z=>e (h1.trans z))]; exact ⟨h1, h2, h3⟩
theorem KT.put {H : Hp} {kvs : List (List Key × V)} {xs : List (List Key × Addr × Value)} (r : KT H kvs xs) (k : List Key) {b : Addr} {y : V} {u : Value} (hb : H b = some (.tup (k.map kV))) (ry : Yi y u) :
    KT H (Vg kvs k y) (storedH xs k b u):=by
  have e : (kvs.any fun kv=>decide (kv.1 = k)) = (atKey xs k).isSome:=by
    rw [KW, (r.val k).isSome_eq, Option.isSome_map]
  unfold Vg storedH
  rw [e]
  by_cases q : (atKey xs k).isSome = true
  . rw [if_pos q, if_pos q]; exact r.repl k ry
  . rw [if_neg q, if_neg q]; exact Paired.snoc r ⟨rfl, hb, ry⟩
theorem KT.keeps {H H' : Hp} {kvs : List (List Key × V)} {xs : List (List Key × Addr × Value)} (r : KT H kvs xs) (ht : ∀ b ys, H b = some (.tup ys) -> H' b = some (.tup ys)) : KT H' kvs xs:=
  Paired.mapP r fun _ _ z=>⟨z.1, ht _ _ z.2.1, z.2.2⟩
section
variable {P : Program} {w : World} {H : Hp} {h : Heap} {a : Addr}
theorem E5 {u : HO} (ok : HOk P w H h) (e : Rd H a u) : Y5 P w H h a u:=e.ok ok
theorem DW {kvs : List (Key × V)} (ok : HOk P w H h) (e : Rd H a (.dK kvs)) : kvs.length <= sizeLine /\ (a == sysModules) = false /\ ∃ vs, KV kvs vs /\ h.DictOf (Yu P w) a vs:=
  show Y5 P w H h a (.dK kvs) from E5 ok e
theorem IB {kvs : List (Key × V)} (ok : HOk P w H h) (e : H a = some (.dK kvs)) : kvs.length <= sizeLine /\ (a == sysModules) = false /\ ∃ vs, KV kvs vs /\ h.DictOf (Yu P w) a vs:=DW ok (.inl e)
theorem KQ {ks : List Key} (ok : HOk P w H h) (e : H a = some (.tup (ks.map kV))) : (tupleKind (Yu P w)).is h ks a:=by
  obtain ⟨_, its, r, o, h1, h2, n, h3⟩:=(show Y5 P w H h a (.tup (ks.map kV)) from ok a _ e)
  exact ⟨o, its.toArray, n, h1, h2, h3, by simpa using UH r⟩
theorem CM {kvs : List (List Key × V)} (ok : HOk P w H h) (e : Rd H a (.dT kvs)) : kvs.length <= sizeLine /\ (a == sysModules) = false /\
    ∃ xs, KT H kvs xs /\ h.DictOfH (tupleKind (Yu P w)) a xs:=by
  obtain ⟨z, y, xs, r, o, es, ep, h1, h2, h3, h4, h5⟩:=(show Y5 P w H h a (.dT kvs) from E5 ok e)
  refine ⟨z, y, xs, r, o, es, ep, h1, h2, h3, h4, fun x hx=>?_, h5⟩
  have all : ∀ {l : List (List Key × V)} {m : List (List Key × Addr × Value)}, KT H l m -> ∀ x ∈ m, (tupleKind (Yu P w)).is h x.1 x.2.1:=by
    intro l m q
    induction q with
    | nil=>intro x hx; exact nomatch hx
    | @cons p q ps qs hq t ih=>
      intro x hx
      rcases List.mem_cons.mp hx with e | hx
      . subst e
        exact KQ ok (by rw [← hq.1]; exact hq.2.1)
      . exact ih x hx
  exact all r x hx
theorem Iv {kvs : List (List Key × V)} (ok : HOk P w H h) (e : H a = some (.dT kvs)) : kvs.length <= sizeLine /\ (a == sysModules) = false /\
    ∃ xs, KT H kvs xs /\ h.DictOfH (tupleKind (Yu P w)) a xs:=CM ok (.inl e)
end
noncomputable def CJ (H : Hp) (a : Addr) (y : V) (r : Option V) : Prop:=
  (∃ kvs k, Rd H a (.dK kvs) /\ y = kV k /\ r = Ke kvs k) ∨ ∃ kvs k b, Rd H a (.dT kvs) /\ y = .ref b /\ H b = some (.tup (k.map kV)) /\ r = Ke kvs k
noncomputable def EL (H : Hp) (a : Addr) (y v : V) (H' : Hp) : Prop:=
  (∃ kvs k, H a = some (.dK kvs) /\ y = kV k /\ kvs.length < sizeLine /\ H' = upd H a (.dK (Vg kvs k v))) ∨
  ∃ kvs k b, H a = some (.dT kvs) /\ y = .ref b /\ H b = some (.tup (k.map kV)) /\ kvs.length < sizeLine /\ H' = upd H a (.dT (Vg kvs k v))
theorem CJ.k {H : Hp} {a : Addr} {kvs : List (Key × V)} {k : Key} (e : H a = some (.dK kvs)) : CJ H a (kV k) (Ke kvs k):=.inl ⟨kvs, k, .inl e, rfl, rfl⟩
theorem CJ.t {H : Hp} {a b : Addr} {kvs : List (List Key × V)} {k : List Key} (e : H a = some (.dT kvs)) (eb : H b = some (.tup (k.map kV))) : CJ H a (.ref b) (Ke kvs k):=.inr ⟨kvs, k, b, .inl e, rfl, eb, rfl⟩
theorem EL.k {H : Hp} {a : Addr} {kvs : List (Key × V)} {k : Key} {v : V} (e : H a = some (.dK kvs)) (hl : kvs.length < sizeLine) : EL H a (kV k) v (upd H a (.dK (Vg kvs k v))):=.inl ⟨kvs, k, e, rfl, hl, rfl⟩
theorem EL.t {H : Hp} {a b : Addr} {kvs : List (List Key × V)} {k : List Key} {v : V} (e : H a = some (.dT kvs)) (eb : H b = some (.tup (k.map kV))) (hl : kvs.length < sizeLine) :
    EL H a (.ref b) v (upd H a (.dT (Vg kvs k v))):=.inr ⟨kvs, k, b, e, rfl, eb, hl, rfl⟩
section
variable {X : Cx} {pins : List (Addr × Obj)} {σ : St} {H : Hp} {s : Shared} {a : Addr} {y v : V} {u r : Value} {o : Option V} {A : Around} {E : Value -> Shared -> Prop}
theorem Inv.big (I : Inv X pins σ H s) : sysModules < s.heap.objs.size:=by
  have h : mainGlobals < s.heap.objs.size:=(I.mod.glob.keeps I.bk).lt
  exact Nat.lt_trans (by decide) h
theorem FW {Q : Value -> Shared -> Prop} (hu : A.units + 1 < cLine) (I : Inv X pins σ H s) (g : CJ H a y (some v)) (ry : Yi y u) (h : ∀ w' s', Inv X pins σ H s' -> Yi v w' -> Q w' s') :
    wpAny (model X.prog X.w) A (getItem (.ref a) u) Q E s:=by
  rcases g with ⟨kvs, k, e, ey, l⟩ | ⟨kvs, k, b, e, ey, eb, l⟩
  . subst ey
    obtain ⟨z, hd, vs, rel, dd⟩:=DW I.hok e
    obtain ⟨w', hw, rw'⟩:=GQ.some_of (v:=v) (o:=valueAt vs k) (by rw [l]; exact rel.val k)
    exact wpAny_getItem_of (Dh ry) dd.mapOf hw (h w' _ (I.tok _) rw')
  . subst ey
    cases (show u = Value.ref b from ry)
    obtain ⟨z, hd, xs, rel, dd⟩:=CM I.hok e
    obtain ⟨w', hw, rw'⟩:=GQ.some_of (v:=v) (o:=(atKey xs k).map (·.2)) (by rw [l]; exact rel.val k)
    obtain ⟨p, hp, hp2⟩:=Option.map_eq_some_iff.mp hw
    refine wpAny_getItem_heap (tupleKind_room_in1 hu) (KQ I.hok eb) dd hp ?_
    rw [hp2]
    exact h w' _ (I.tok _) rw'
theorem BM {Q : Value -> Shared -> Prop} (hu : A.units + 1 < cLine) (I : Inv X pins σ H s) (g : CJ H a y o) (ry : Yi y u) (h : ∀ s', Inv X pins σ H s' -> Q (.bool (!o.isSome)) s') :
    wpAny (model X.prog X.w) A (compareOp .NotIn u (.ref a)) Q E s:=by
  rcases g with ⟨kvs, k, e, ey, l⟩ | ⟨kvs, k, b, e, ey, eb, l⟩
  . subst ey
    obtain ⟨z, hd, vs, rel, dd⟩:=DW I.hok e
    refine wpAny_notIn_of (Dh ry) hd dd.mapOf ?_
    rw [← (rel.val k).isSome_eq, ← l]
    exact h _ (I.tok _)
  . subst ey
    cases (show u = Value.ref b from ry)
    obtain ⟨z, hd, xs, rel, dd⟩:=CM I.hok e
    refine wpAny_notIn_heap (tupleKind_room_in1 hu) (KQ I.hok eb) hd dd ?_
    have q:=(rel.val k).isSome_eq
    rw [Option.isSome_map] at q
    rw [← q, ← l]
    exact h _ (I.tok _)
theorem Db {h' : Heap} {t' : Nat} {ob : HO} (I : Inv X pins σ H s) (mu : Mut (H a)) (hs : Heap.SameBut a s.heap h') (he : ∃ q, h'.get? a = some q) (new : Y5 X.prog X.w (upd H a ob) h' a ob) :
    Inv X pins σ (upd H a ob) { s with heap:=h', toks:=t' }:=
  I.write (x:=a) (e:=a) mu (.inl rfl) (fun b q hb z=>(hs.2 b hb).trans z) he new
theorem Hi {P : Program} {w : World} {H' : Hp} {h' : Heap} {kvs : List (Key × V)} {vs : List (Key × Value)} (z : kvs.length <= sizeLine) (hd : (a == sysModules) = false) (rel : KV kvs vs) (dd : h'.DictOf (Yu P w) a vs) :
    Y5 P w H' h' a (.dK kvs):=⟨z, hd, vs, rel, dd⟩
theorem FX {H' : Hp} {Q : Unit -> Shared -> Prop} (hu : A.units + 1 < cLine) (I : Inv X pins σ H s) (g : EL H a y v H') (ry : Yi y u) (rv : Yi v r) (h : ∀ s', Inv X pins σ H' s' -> Q () s') :
    wpAny (model X.prog X.w) A (setItem (.ref a) u r) Q E s:=by
  rcases g with ⟨kvs, k, e, ey, l, eH⟩ | ⟨kvs, k, b, e, ey, eb, l, eH⟩
  . subst ey eH
    obtain ⟨z, hd, vs, rel, dd⟩:=IB I.hok e
    have hz : vs.length <= sizeLine:=by rw [← rel.length]; exact z
    have hl : (Vg kvs k v).length <= sizeLine:=by have:=Vd kvs k v; omega
    refine wpAny_setItem_pairs (hsz:=hz) (Dh ry) dd fun h' dd' hs=>h _ ?_
    have he : ∃ q, h'.get? a = some q:=let ⟨q, _, _, hq, _⟩:=dd'; ⟨q, hq⟩
    exact Db I (by rw [e]; exact True.intro) hs he (Hi hl hd (rel.put k rv) dd')
  . subst ey eH
    cases (show u = Value.ref b from ry)
    obtain ⟨z, hd, xs, rel, dd⟩:=Iv I.hok e
    have hz : xs.length <= sizeLine:=by rw [← Paired.length rel]; exact z
    have hl : (Vg kvs k v).length <= sizeLine:=by have:=Vd kvs k v; omega
    refine wpAny_setItem_heap (hsz:=hz) (tupleKind_room_in1 hu) (KQ I.hok eb) dd fun h' dd' hs=>h _ ?_
    obtain ⟨q, es, ep, hq, h2, h3, h4, _, h5⟩:=dd'
    refine Db I (by rw [e]; exact True.intro) hs ⟨q, hq⟩ ⟨hl, hd, _, (rel.put k eb rv).keeps fun c ys ec=>?_, q, es, ep, hq, h2, h3, h4, h5⟩
    rw [Xq (GZ ec e (fun z=>nomatch z))]
    exact ec
end
section
variable {X : Cx} {pins : List (Addr × Obj)} {σ : St} {H : Hp} {s : Shared} {a : Addr} {kvs : List (Key × V)} {k : Key} {u : Value} {A : Around} {E : Value -> Shared -> Prop}
end
noncomputable def IN (i : Expr) : Prop:=∀ ov iv, subscripted i false ov iv = operate [ov, iv] (getItem ov iv)
theorem BD {prog : Program} {w : World} {A : Around} {E : Value -> Shared -> Prop} {s : Shared} {env : Env} {value slice : Expr} {pos : Pos} {T id : String} {Q : Value -> Shared -> Prop}
    (hl : typeLookup (.type T) "__getitem__" = pure (some (.builtin id))) (hs : IN slice)
    (h : wpAny (model prog w) A (eval value env) (fun o s₁=>wpAny (model prog w) A (eval slice env) (fun i s₂=>s₂.TypeIs o T /\ wpAny (model prog w) A (getItem o i) Q E s₂) E s₁) E s) :
    wpAny (model prog w) A (eval (.Subscript value slice pos) env) Q E s:=by
  refine Subscript_ (wpAny_mono h (fun o s₁ h₁=>wpAny_mono h₁ (fun i s₂ h₂=>?_) fun _ _ x=>x) fun _ _ x=>x)
  obtain ⟨hT, h₂⟩:=h₂
  unfold subscriptTail
  refine wpAny_bind ?_
  rw [getitemInPython_of_ne hT.not_modules]
  refine wpAny_bind (wpAny_specialOf hT hl ?_)
  have fin : wpAny (model prog w) A (subscripted slice false o i) (fun r s₃=>wpAny (model prog w) A (letTemporaryGo value o r >>= fun _=>pure r) Q E s₃) E s₂:=by
    rw [hs o i]
    exact wpAny_operating (wpAny_mono h₂ (fun r s₃ h₃=>wpAny_bind (wpAny_letTemporaryGo (wpAny_pure h₃))) fun _ _ x=>x)
  first
    | exact wpAny_pure (wpAny_bind fin)
    | exact wpAny_bind (wpAny_pure (wpAny_bind fin))
    | exact wpAny_bind fin
theorem Kl {X : Cx} {pins : List (Addr × Obj)} {σ : St} {H : Hp} {s : Shared} {a : Addr} {y : V} {o : Option V} (I : Inv X pins σ H s) (g : CJ H a y o) : s.TypeIs (.ref a) "dict":=by
  rcases g with ⟨kvs, k, e, _, _⟩ | ⟨kvs, k, b, e, _, _, _⟩
  . obtain ⟨_, _, vs, _, dd⟩ := DW I.hok e
    exact dd.typeIs
  . obtain ⟨_, _, xs, _, dd⟩ := CM I.hok e
    exact dd.typeIs
noncomputable def HI (td ty : TE) : TE:=fun σ H Q=>td σ H fun x H1=>ty σ H1 fun y H2=>∃ a v, x = .ref a /\ CJ H2 a y (some v) /\ Q v H2
noncomputable def Fz (ty td : TE) : TE:=fun σ H Q=>ty σ H fun y H1=>td σ H1 fun x H2=>∃ a o, x = .ref a /\ CJ H2 a y o /\ Q (.bl (!o.isSome)) H2
noncomputable def E4 (td ty tv : TE) : TS:=fun D σ H=>tv σ H fun v H1=>td σ H1 fun x H2=>ty σ H2 fun y H3=>∃ a H4, x = .ref a /\ EL H3 a y v H4 /\ D.nx σ H4
section
variable {X : Cx} {o i e value : Expr} {pos pos' tpos : Pos} {td ty tv : TE}
theorem Kx (hu : X.A.units + 1 < cLine) (ho : PE X o td) (hi : PE X i ty) (hs : IN i) : PE X (.Subscript o i pos) (HI td ty):=by
  intro pins s σ H Q I h
  refine BD PySem.F.slot_dict_getitem.lookup hs (thn (ho pins s σ H _ I h) fun u s1 ⟨x, H1, I1, rx, q1⟩=>thn (hi pins s1 σ H1 _ I1 q1) fun iv s2 r9=>?_)
  obtain ⟨y, H2, I2, ry, a, v, ex, g, q2⟩:=r9
  subst ex
  obtain rfl : u = Value.ref a:=rx
  exact ⟨Kl I2 g, FW hu I2 g ry fun w' s3 I3 rw'=>⟨v, H2, I3, rw', q2⟩⟩
theorem G6 (hu : X.A.units + 1 < cLine) (hi : PE X i ty) (ho : PE X o td) : PC X .NotIn i o (Fz ty td):=by
  intro pins s σ H Q I h
  refine thn (hi pins s σ H _ I h) fun iv s1 ⟨y, H1, I1, ry, q1⟩=>thn (ho pins s1 σ H1 _ I1 q1) fun u s2 r9=>?_
  obtain ⟨x, H2, I2, rx, a, ov, ex, g, q2⟩:=r9
  subst ex
  obtain rfl : u = Value.ref a:=rx
  exact BM hu I2 g ry fun s3 I3=>⟨.bl (!ov.isSome), H2, I3, rfl, q2⟩
theorem EB (hu : X.A.units + 1 < cLine) (ho : PE X o td) (hi : PE X i ty) (hv : PE X value tv) (hs : swapsWith value (some (.Subscript o i pos')) pos.line X.env = pure false) :
    PS X (.Assign [.Subscript o i pos'] value pos) (E4 td ty tv):=by
  intro pins s σ H D I h
  refine wpAny_Assign_Subscript (thn (hv pins s σ H _ I h) fun r s1 ⟨v, H1, I1, rv, q1⟩=>thn (ho pins s1 σ H1 _ I1 q1) fun u s2 ⟨x, H2, I2, rx, q2⟩=>thn (hi pins s2 σ H2 _ I2 q2) fun iv s3 r9=>?_) hs
  obtain ⟨y, H3, I3, ry, a, H4, ex, g, q3⟩:=r9
  subst ex
  obtain rfl : u = Value.ref a:=rx
  exact FX hu I3 g ry rv fun s4 I4=>⟨σ, H4, I4, q3⟩
end
theorem Cu {P : Program} {w : World} {H : Hp} (h : Heap) (hb : sysModules < h.objs.size) : Y5 P w H (h.push { cls:=.type "dict", data:=.dict #[] }) h.objs.size (.dK []):=
  ⟨Nat.zero_le _, beq_eq_false_iff_ne.mpr (Ne.symm (Nat.ne_of_lt hb)), [], .nil, Heap.DictOf.new h⟩
noncomputable def Bn : TE:=fun _ H Q=>∀ p, H p = none -> Q (.ref p) (upd H p (.dK []))
section
variable {X : Cx} {pos : Pos}
theorem Ca : PE X (.Dict [] [] pos) Bn:=fun pins s σ H Q I h=>
  wpAny_Dict_empty ⟨.ref s.heap.objs.size, _, I.laid (a:=s.heap.objs.size) (o:=.dK []) (t':=s.toks) (fun _ _ q=>Heap.get?_push_of_some _ q) (Nat.le_refl _) (Cu s.heap I.big), rfl, h _ (I.hok.fresh (Nat.le_refl _))⟩
end
section
variable {X : Cx} {pins : List (Addr × Obj)} {σ : St} {H : Hp} {s : Shared} {a : Addr} {y d : V} {u r : Value} {o : Option V} {A : Around} {E : Value -> Shared -> Prop}
end
section
variable {X : Cx} {o e f : Expr} {apos cpos : Pos} {td ty tx : TE}
end
section
variable {X : Cx} {pins : List (Addr × Obj)} {σ : St} {H : Hp} {s : Shared} {a : Addr} {kvs : List (Key × V)} {A : Around} {E : Value -> Shared -> Prop}
end
section
variable {X : Cx} {pins : List (Addr × Obj)} {σ : St} {H : Hp} {s : Shared} {a : Addr} {y : V} {u : Value} {A : Around} {E : Value -> Shared -> Prop}
end
end L2
namespace L2
open PySem PySem.Spec PyProof.Rows
section
variable {X : Cx}
end
section
variable {κ : Type} [DecidableEq κ]
end
end L2
namespace L2
open PySem PySem.Spec PyProof.Rows
theorem G2 {env : Env} : ∀ (names : List (Str × NameKind)), (∀ x ∈ names, x.2 = NameKind.free -> ∃ c, env.cells.lookup x.1 = some c) ->
    ∀ cs : List (Str × Addr), (∀ x c, cs.lookup x = some c -> env.cells.lookup x = some c) ->
    ∃ cl : List (Str × Addr), (forIn names cs (fun (x : Str × NameKind) (r : List (Str × Addr))=>(if (x.2 == NameKind.free) = true then do let a ← cellOf env x.1; pure (ForInStep.yield ((x.1, a) :: r)) else pure (ForInStep.yield r) : Sem (ForInStep (List (Str × Addr)))))) = (pure cl : Sem (List (Str × Addr))) /\
      (∀ x c, cl.lookup x = some c -> env.cells.lookup x = some c) /\ (∀ x, ((x, NameKind.free) ∈ names ∨ ∃ c, cs.lookup x = some c) -> ∃ c, cl.lookup x = some c)
  | [], _, cs, hs=>⟨cs, by rw [List.forIn_nil], hs, fun x h=>h.elim (fun z=>nomatch z) id⟩
  | (n, k) :: r, hf, cs, hs=>by
    have hr : ∀ x ∈ r, x.2 = NameKind.free -> ∃ c, env.cells.lookup x.1 = some c:=fun x hx=>hf x (List.mem_cons_of_mem _ hx)
    by_cases hk : k = NameKind.free
    . subst hk
      obtain ⟨a, ha⟩:=hf (n, NameKind.free) List.mem_cons_self rfl
      have hs' : ∀ x c, ((n, a) :: cs).lookup x = some c -> env.cells.lookup x = some c:=fun x c h=>by
        rw [List.lookup_cons] at h
        by_cases hx : x = n
        . subst hx
          simp only [beq_self_eq_true] at h
          rw [← h]; exact ha
        . have : (x == n) = false := beq_eq_false_iff_ne.mpr hx
          rw [this] at h
          exact hs x c h
      obtain ⟨cl, e, h1, h2⟩:=G2 r hr ((n, a) :: cs) hs'
      refine ⟨cl, ?_, h1, fun x h=>h2 x ?_⟩
      . rw [List.forIn_cons]
        have e1 : cellOf env n = pure a:=by unfold cellOf; rw [show env.cells.lookup n = some a from ha]
        simp only [beq_self_eq_true, if_true, e1]
        exact e
      . rcases h with h | ⟨c, h⟩
        . rcases List.mem_cons.mp h with h | h
          . have : x = n := congrArg Prod.fst h
            subst this
            exact .inr ⟨a, by rw [List.lookup_cons]; simp⟩
          . exact .inl h
        . by_cases hx : x = n
          . subst hx; exact .inr ⟨a, by rw [List.lookup_cons]; simp⟩
          . exact .inr ⟨c, by rw [List.lookup_cons, beq_eq_false_iff_ne.mpr hx]; exact h⟩
    . obtain ⟨cl, e, h1, h2⟩ := G2 r hr cs hs
      refine ⟨cl, ?_, h1, fun x h=>h2 x ?_⟩
      . rw [List.forIn_cons]
        have hb : (k == NameKind.free) = false:=by simpa using hk
        simp only [hb, Bool.false_eq_true, if_false]
        exact e
      . rcases h with h | h
        . rcases List.mem_cons.mp h with h | h
          . exact absurd (congrArg Prod.snd h).symm hk
          . exact .inl h
        . exact .inr h
theorem FI {scope : Scope} {env : Env} (hf : ∀ x ∈ scope.names, x.2 = NameKind.free -> ∃ c, env.cells.lookup x.1 = some c) :
    ∃ cl : List (Str × Addr), closureFor scope env = pure cl /\ (∀ x c, cl.lookup x = some c -> env.cells.lookup x = some c) /\ (∀ x, (x, NameKind.free) ∈ scope.names -> ∃ c, cl.lookup x = some c):=by
  obtain ⟨cl, e, h1, h2⟩:=G2 scope.names hf [] (fun x c h=>by simp at h)
  refine ⟨cl, ?_, h1, fun x h=>h2 x (.inl h)⟩
  unfold closureFor
  show ((forIn scope.names [] (fun (x : Str × NameKind) (r : List (Str × Addr))=>(if (x.2 == NameKind.free) = true then do let a ← cellOf env x.1; pure (ForInStep.yield ((x.1, a) :: r)) else pure (ForInStep.yield r) : Sem (ForInStep (List (Str × Addr)))))) >>= fun s=>pure s) = pure cl
  rw [e]
  rfl
theorem QA {env : Env} : ∀ {names : List (Str × NameKind)} {x : Str} {k : NameKind}, (∀ y ∈ names, y.2 ≠ NameKind.cell) ->
    (names.map fun (n, k)=>if (k == NameKind.free && env.scope.kind == .function && env.kindOf n == some .cell) then (n, NameKind.cell) else (n, k)).lookup x = some k -> (k = .cell ∨ k = .free) -> (x, NameKind.free) ∈ names
  | [], _, _, _, h, _=>by simp at h
  | (n, kk) :: r, x, k, hc, h, hk=>by
    have ih:=@QA env r x k (fun y hy=>hc y (List.mem_cons_of_mem _ hy))
    have hh:=hc (n, kk) List.mem_cons_self
    simp only [List.map_cons] at h
    by_cases hcond : (kk == NameKind.free && env.scope.kind == .function && env.kindOf n == some .cell) = true
    . rw [if_pos hcond, List.lookup_cons] at h
      have hfree : kk = NameKind.free:=by
        rw [Bool.and_eq_true, Bool.and_eq_true] at hcond
        simpa using hcond.1.1
      cases hx : x == n with
      | true=>
        have : x = n:=by simpa using hx
        subst this; subst hfree
        exact List.mem_cons_self
      | false=>rw [hx] at h; exact List.mem_cons_of_mem _ (ih h hk)
    . rw [if_neg hcond, List.lookup_cons] at h
      cases hx : x == n with
      | true=>
        rw [hx] at h
        have hkk : kk = k:=Option.some.inj h
        have : x = n:=by simpa using hx
        subst this; subst hkk
        rcases hk with z | z
        . exact absurd z hh
        . subst z; exact List.mem_cons_self
      | false=>rw [hx] at h; exact List.mem_cons_of_mem _ (ih h hk)
theorem Ja {env : Env} : ∀ {names : List (Str × NameKind)} {x : Str}, names.lookup x = some .free ->
    let l:=(names.map fun (n, k)=>if (k == NameKind.free && env.scope.kind == .function && env.kindOf n == some .cell) then (n, NameKind.cell) else (n, k))
    l.lookup x = some .cell ∨ l.lookup x = some .free
  | [], _, h=>by simp at h
  | (n, kk) :: r, x, h=>by
    have ih:=@Ja env r x
    simp only [List.map_cons]
    rw [List.lookup_cons] at h
    by_cases hcond : (kk == NameKind.free && env.scope.kind == .function && env.kindOf n == some .cell) = true
    . rw [if_pos hcond, List.lookup_cons]
      cases hx : x == n with
      | true=>exact .inl rfl
      | false=>rw [hx] at h; exact ih h
    . rw [if_neg hcond, List.lookup_cons]
      cases hx : x == n with
      | true=>rw [hx] at h; exact .inr h
      | false=>rw [hx] at h; exact ih h
noncomputable abbrev Cx.comp (X : Cx) (N : List Str) (scope : Scope) (cl : List (Str × Addr)) (C : Addr) (s : Shared) (H : Hp) (ex : List Addr) (E : Value -> Shared -> Prop) : Cx:=
  { X with N:=N, s₀:=s, H₀:=H, env:=compEnvC scope cl C X.env, outer:=X.stack, ex:=ex, fn:=fun _=>false, pn:=[], xe:=E }
noncomputable def PTs (X : Cx) (ifs : List Expr) (t : TT) : Prop:=
  ∀ (pins : List (Addr × Obj)) (s : Shared) (σ : St) (H : Hp) (Q : Bool -> Hp -> Prop), Inv X pins σ H s -> t σ H Q ->
    wpAny (model X.prog X.w) X.A (forIn ifs true fun c r=>if r = true then do let ok ← isTrue c X.env (eval c X.env); pure (ForInStep.yield ok) else pure (ForInStep.yield r)) (TP X pins σ Q) X.xe s
noncomputable def VL : TT:=fun _ H Q=>Q true H
theorem Ht {σ : St} {H : Hp} {A B : Hp -> Prop} (h : A H) : VL σ H fun c H5=>if c = true then A H5 else B H5:=by
  show if true = true then A H else B H
  rw [if_pos rfl]
  exact h
theorem YY {X : Cx} : PTs X [] VL:=fun _ _ _ H _ I h=>wpAny_tests_nil ⟨H, I, h⟩
theorem V2 {X : Cx} {c : Expr} {t : TT} (h : PT X c t) : PTs X [c] t:=fun pins s σ H Q I hw=>wpAny_tests_one (h pins s σ H Q I hw)
noncomputable def Gm (n : Nat) (g : TG) : Prop:=∀ x σ H Q, g x σ H Q -> g x σ H fun σ2 H2=>Q σ2 H2 /\ σ2.length = σ.length /\ ∀ i, n <= i -> σ2[i]? = σ[i]?
theorem Za {n i : Nat} (h : i < n) : Gm n (Zl i):=fun x σ H Q q=>⟨q, by simp, fun j hj=>by rw [List.getElem?_set_ne (by omega)]⟩
theorem JZ {K : PySem.W.Frag} {n i j : Nat} (hi : i < n) (hj : j < n) : Gm n (Bv K 2 (Z0 (Zl i) (Z0 (Zl j) El))):=fun x σ H Q q=>by
  obtain ⟨a, xs, e1, hq, hl, v, r, e2, w, r2, e3, e4, q⟩:=q
  exact ⟨a, xs, e1, hq, hl, v, r, e2, w, r2, e3, e4, q, by simp, fun k hk=>by rw [List.getElem?_set_ne (by omega), List.getElem?_set_ne (by omega)]⟩
noncomputable def Zo (n : Nat) (caps : List (Nat × Str)) (σ : St) : St:=List.replicate n none ++ caps.map fun p=>(σ[p.1]?).join
noncomputable def EQ (n : Nat) (caps : List (Nat × Str)) (g : TG) (tt : TT) (te : TE) (σ : St) (Q : VK) (J : It) (H1 : Hp) : Prop:=
  ∃ W : Nat -> Nat -> List V -> Hp -> Prop, (∃ m, W 0 m [] H1) /\ ∀ i m ys H2, W i m ys H2 -> ys.length <= sizeLine /\
    ((J.stop i H2 /\ ∀ p, H2 p = none -> Q (.ref p) (upd H2 p (.lst ys))) ∨
    (J.go i H2 /\ ∃ N : List V -> Hp -> Prop, (∀ ys' H', N ys' H' -> ∃ m', m' < m /\ W (i + 1) m' ys' H') /\ ∀ x H3, J.yld i H2 x H3 -> g x (Zo n caps σ) H3 fun σ4 H4=>tt σ4 H4 fun c H5=>
      if c = true then te σ4 H5 fun v H6=>N (ys ++ [v]) H6 else N ys H5))
noncomputable def Fe (n : Nat) (caps : List (Nat × Str)) (wi : TI) (g : TG) (tt : TT) (te : TE) : TE:=fun σ H Q=>wi σ H fun J H1=>EQ n caps g tt te σ Q J H1
noncomputable def JB (sc scope : Scope) (N0 tns : List Str) (caps : List (Nat × Str)) : Bool:=
  scope.kind == .function && scope.names.all (fun y=>!(y.2 == .cell)) && scope.names.all (fun y=>!(y.2 == .local) || scope.names.lookup y.1 == some .local) &&
  scope.names.all (fun y=>!(y.2 == .free) || sc.names.lookup y.1 == some .cell) && caps.all (fun p=>N0[p.1]? == some p.2 && sc.names.lookup p.2 == some .cell && scope.names.lookup p.2 == some .free)
section
variable {prog : Program} {w : World} {A : Around} {R : Result -> Shared -> Prop} {s : Shared}
theorem Uo {elt target iter : Expr} {ifs : List Expr} {scope : Scope} {pos : Pos} {it acc : Value} {env : Env} (I : Nat -> Shared -> Prop)
    (turn : ∀ n s, I n s -> wpAny (model prog w) A (pyNext it) (fun r s₁=>match r with
      | none=>R (.ok .next) s₁
      | some v=>wpAny (model prog w) A (letOwnedTupleGo target it v) (fun _ s₁=>wpAny (model prog w) A (assign target env v) (fun _ s₂=>
          wpAny (model prog w) A (forIn ifs true fun c r=>if r = true then do let ok ← isTrue c env (eval c env); pure (ForInStep.yield ok) else pure (ForInStep.yield r)) (fun ok s₃=>
            if ok = true then wpAny (model prog w) A (eval elt env) (fun x s₄=>
              wpAny (model prog w) A (call (.builtin "list.append") [acc, x]) (fun _ s₅=>∃ m, m < n /\ I m s₅) (notedBy (model prog w) A env fun e s'=>R (.error e) s') s₄) (notedBy (model prog w) A env fun e s'=>R (.error e) s') s₃
            else ∃ m, m < n /\ I m s₃) (notedBy (model prog w) A env fun e s'=>R (.error e) s') s₂) (notedBy (model prog w) A env fun e s'=>R (.error e) s') s₁)
            (notedBy (model prog w) A env fun e s'=>R (.error e) s') s₁) (notedBy (model prog w) A env fun e s'=>R (.error e) s') s)
    (n : Nat) (h : I n s) :
    codeAny (model prog w) A (.compLoop (.ListComp elt [⟨target, iter, ifs, 0⟩] scope pos) 0 it acc env) R s:=by
  refine codeAny_loop rfl I (fun n s hI=>?_) n h
  show wpAny _ A ((compTurn (.ListComp elt [⟨target, iter, ifs, 0⟩] scope pos) 0 it acc env).onRaise (fun x=>do noteFrame x env; theTreesLotGoes x)) _ _ s
  refine wpAny_noted ?_
  rw [compTurn_list]
  refine wpAny_bind (wpAny_standAt (wpAny_bind (wpAny_mono (turn n s hI) (fun r s₁ h₁=>?_) fun _ _ h'=>h')))
  cases r with
  | none=>exact wpAny_pure h₁
  | some v=>
    refine wpAny_bind (wpAny_mono h₁ (fun _ s₁' h₁'=>?_) fun _ _ h'=>h')
    refine wpAny_bind (wpAny_mono h₁' (fun _ s₂ h₂=>wpAny_bind (wpAny_mono h₂ (fun ok s₃ h₃=>?_) fun _ _ h'=>h')) fun _ _ h'=>h')
    cases ok with
    | false=>exact wpAny_pure ⟨rfl, h₃⟩
    | true=>
      exact wpAny_bind (wpAny_bind (wpAny_mono h₃ (fun x s₄ h₄=>wpAny_bind (wpAny_mono h₄ (fun _ s₅ h₅=>wpAny_pure (wpAny_pure ⟨rfl, h₅⟩)) fun _ _ h'=>h')) fun _ _ h'=>h'))
end
section
variable {X : Cx} {elt tg iter : Expr} {ifs : List Expr} {scope sc : Scope} {pos : Pos} {n : Nat} {tns : List Str} {caps : List (Nat × Str)} {wi : TI} {g : TG} {tt : TT} {te : TE}
structure CompEnd (X : Cx) (pins : List (Addr × Obj)) (σ : St) (H3 : Hp) (D C : Addr) (ys : List V) (s' : Shared) : Prop where
  inv : Inv X pins σ (upd H3 D (.lst ys)) s'
  fresh : H3 D = none
  fp : GR X pins (upd H3 D (.lst ys)) C
  ns : ∃ m, s'.heap.Ns C m
theorem VA {N0 : List Str} (hc : X.calm = true) (hsc : X.env.scope = sc) (hN0 : X.N = N0) (ok : JB sc scope N0 tns caps = true) (hn : tns.length = n) (hG : Gm n g)
    (hb : ∀ cl C s H ex E, PG (X.comp (tns ++ caps.map (·.2)) scope cl C s H ex E) tg g /\ PTs (X.comp (tns ++ caps.map (·.2)) scope cl C s H ex E) ifs tt /\ PE (X.comp (tns ++ caps.map (·.2)) scope cl C s H ex E) elt te)
    {pins : List (Addr × Obj)} {σ : St} {H : Hp} {s : Shared} {J : It} {fp : List Addr} {it : Addr} {tn : Nat -> Heap -> Prop} {cl : List (Str × Addr)} {Q : V -> Hp -> Prop} {RR : Value -> Addr -> Result -> Shared -> Prop}
    (I : Inv X pins σ H s) (T : Turn X.prog X.w X.K tg J fp it tn) (t0 : tn 0 s.heap) (hf : ∀ b ∈ fp, GR X pins H b)
    (hsub : ∀ x c, cl.lookup x = some c -> X.env.cells.lookup x = some c) (hall : ∀ x, (x, NameKind.free) ∈ scope.names -> ∃ c, cl.lookup x = some c)
    (W : Nat -> Nat -> List V -> Hp -> Prop) {m0 : Nat} (w0 : W 0 m0 [] H)
    (turn : ∀ i m ys H2, W i m ys H2 -> ys.length <= sizeLine /\
      ((J.stop i H2 /\ ∀ p, H2 p = none -> Q (.ref p) (upd H2 p (.lst ys))) ∨
      (J.go i H2 /\ ∃ N : List V -> Hp -> Prop, (∀ ys' H', N ys' H' -> ∃ m', m' < m /\ W (i + 1) m' ys' H') /\ ∀ x H3, J.yld i H2 x H3 -> g x (Zo n caps σ) H3 fun σ4 H4=>tt σ4 H4 fun c H5=>
        if c = true then te σ4 H5 fun v H6=>N (ys ++ [v]) H6 else N ys H5)))
    (hRR : ∀ D C ys H3 s', CompEnd X pins σ H3 D C ys s' -> Q (.ref D) (upd H3 D (.lst ys)) -> RR (.ref D) C (.ok .next) s') {E : Value -> Shared -> Prop} :
    wpAny (model X.prog X.w) X.A (newList []) (fun acc s₃=>wpAny (model X.prog X.w) X.A (newFunctionEnv scope X.env.globals cl [] X.env.qual none .none (some X.env)) (fun cenv s₄=>
      codeAny (model X.prog X.w) X.A (.compStart (.ListComp elt [⟨tg, iter, ifs, 0⟩] scope pos) 0 (.ref it) acc { cenv with scope:=relabel scope X.env }) (RR acc cenv.locals) s₄) E s₃) E s:=by
  subst hsc
  subst hN0
  unfold JB at ok
  simp only [Bool.and_eq_true, List.all_eq_true] at ok
  obtain ⟨⟨⟨⟨ok1, ok2⟩, ok3⟩, ok4⟩, ok5⟩:=ok
  have hkind : scope.kind = .function:=by simpa using ok1
  have hcell : ∀ y ∈ scope.names, y.2 ≠ NameKind.cell:=fun y hy=>by simpa using ok2 y hy
  refine wpAny_newObj_type (wpAny_newFunctionEnv hcell (by intro y hy; simp at hy) (fun h₁ hns₁ hsb₁=>?_) hkind)
  dsimp only at hns₁ hsb₁ ⊢
  generalize hH2 : s.heap.push { cls:=.type "list", dict:=none, data:=.seq ([] : List Value).toArray } = H2 at hns₁ hsb₁ ⊢
  have hC : H2.objs.size = s.heap.objs.size + 1:=by rw [← hH2, Heap.size_push]
  have hDC : s.heap.objs.size ≠ H2.objs.size:=by rw [hC]; exact Nat.ne_of_lt (Nat.lt_succ_self _)
  have hCle : s.heap.objs.size <= H2.objs.size:=by rw [hC]; exact Nat.le_succ _
  have below : ∀ b, b < s.heap.objs.size -> b ≠ H2.objs.size /\ b ≠ s.heap.objs.size:=fun b hb=>⟨by rw [hC]; exact Nat.ne_of_lt (Nat.lt_succ_of_lt hb), Nat.ne_of_lt hb⟩
  have old : ∀ b o, s.heap.get? b = some o -> h₁.get? b = some o:=fun b o e=>hsb₁.extBut b o (below b (Heap.lt_size e)).1 (Heap.get?_push_of_some _ (hH2 ▸ Heap.get?_push_of_some _ e))
  have hacc : h₁.get? s.heap.objs.size = some { cls:=.type "list", data:=.seq ([] : List Value).toArray 0 }:=hsb₁.extBut _ _ hDC (Heap.get?_push_of_some _ (hH2 ▸ Heap.get?_push_size _ rfl))
  have hst₁ : tn 0 h₁:=T.keep _ _ _ t0 fun b _ o e=>old b o e
  -- addresses
  generalize hD : s.heap.objs.size = D at *
  generalize hCe : H2.objs.size = C at *
  have fpLt : ∀ b ∈ fp, b < D:=fun b hb=>by
    obtain ⟨o, e, _⟩:=T.obj _ _ t0 b hb
    rw [← hD]; exact Heap.lt_size e
  have cellLt : ∀ x c, cl.lookup x = some c -> c < D:=fun x c e=>by
    obtain ⟨v, z⟩:=I.cell x c (hsub x c e)
    rw [← hD]; exact z.lt
  have hDlt : D < C:=by omega
  let X' : Cx:=X.comp (tns ++ caps.map (·.2)) scope cl C s H fp (notedBy (model X.prog X.w) X.A (compEnvC scope cl C X.env) fun e s'=>RR (.ref D) C (.error e) s')
  have okX : X'.Ok:=by
    refine ⟨I.ok.mod, hkind, I.ok.glob, I.ok.blt, by show s.heap.objs.size <= C; omega, fun x y c h1 h2=>I.ok.inj x y c (hsub x c h1) (hsub y c h2), fun x hx=>?_, fun x c hx=>(by cases hx), I.ok.hd, I.ok.frames, .inl rfl, fun b hb=>?_, I.bs, Nat.le_trans I.ok.bsz I.sz, fun b o e hb=>?_, fun b hb hz=>?_, I.stack, I.stkFree⟩
    . have hx' : (relabel scope X.env).names.lookup x = some .cell ∨ (relabel scope X.env).names.lookup x = some .free := hx
      rcases hx' with z | z
      . exact hall x (QA hcell z (.inl rfl))
      . exact hall x (QA hcell z (.inr rfl))
    . refine ⟨Nat.ne_of_lt (Nat.lt_trans (fpLt b hb) hDlt), fun x c e z => ?_⟩
      exact (hf b hb).2.2.2.2.1 x c (hsub x c e) z
    . rcases (hf b hb).2.2.2.1 with z | z
      . exact I.ok.noex b o e z
      . exact absurd (Nat.lt_of_lt_of_le (Heap.lt_size e) (Nat.le_trans I.ok.bsz z)) (Nat.lt_irrefl _)
    . rcases List.mem_cons.mp (I.stkSub b hz) with z | z
      . exact (hf b hb).2.1 z
      . exact (hf b hb).2.2.1 z
  have lenc : (Zo n caps σ).length = (tns ++ caps.map (·.2)).length:=by unfold Zo; simp [hn]
  have I1 : ∀ tk, Inv X' [] (Zo n caps σ) H { s with heap:=h₁, toks:=tk }:=fun tk=>by
    refine ⟨okX, rfl, I.bare, Un.kept old, ⟨_, hns₁, fun i x v e1 e2 e3=>?_⟩, fun x c e=>?_, I.hok.fresh (by rw [hD]; exact Nat.le_of_lt hDlt), fun x c e=>I.freeC x c (hsub x c e), fun p hp=>absurd (show p ∈ ([] : List (Addr × Obj)) from hp) (by simp), I.hok.kept old, lenc⟩
    . have hi : n <= i:=by
        by_cases h : n <= i
        . exact h
        . have e2' : (Zo n caps σ)[i]? = some (some v) := e2
          unfold Zo at e2'
          rw [List.getElem?_append_left (by simp; omega), List.getElem?_replicate] at e2'
          split at e2' <;> cases e2'
      have e2' : (Zo n caps σ)[i]? = some (some v):=e2
      unfold Zo at e2'
      rw [List.getElem?_append_right (by simpa using hi), List.length_replicate, List.getElem?_map] at e2'
      have e1' : (tns ++ caps.map (·.2))[i]? = some x:=e1
      rw [List.getElem?_append_right (by rw [hn]; exact hi), hn, List.getElem?_map] at e1'
      cases hcp : caps[i - n]? with
      | none=>rw [hcp] at e2'; cases e2'
      | some p=>
        rw [hcp] at e2' e1'
        simp only [Option.map_some, Option.some.injEq] at e2' e1'
        have hp5:=ok5 p (List.mem_of_getElem? hcp)
        simp only [beq_iff_eq] at hp5
        obtain ⟨⟨p1, p2⟩, p3⟩:=hp5
        have hσ : σ[p.1]? = some (some v):=by
          cases hq : σ[p.1]? with
          | none=>rw [hq] at e2'; cases e2'
          | some o=>rw [hq] at e2'; simp at e2'; rw [e2']
        subst e1'
        obtain ⟨m, hm, hl⟩:=I.loc
        obtain ⟨u, r, l⟩:=hl p.1 p.2 v p1 hσ (.inr (.inl p2))
        refine ⟨u, r, .inr ?_⟩
        rcases l with ⟨k, _⟩ | ⟨k, c, e, z⟩
        . have k' : X.env.scope.names.lookup p.2 = some .local := k
          rw [p2] at k'; cases k'
        . obtain ⟨c', e'⟩ := hall p.2 (PySem.mem_of_lookup p3)
          have:=hsub _ _ e'
          rw [e] at this; cases this
          obtain ⟨o, ho, hd⟩:=z
          exact ⟨Ja (env:=X.env) p3, c, e', ⟨o, old _ _ ho, hd⟩⟩
    . obtain ⟨v, o, ho, hd⟩ := I.cell x c (hsub x c e)
      exact ⟨v, o, old _ _ ho, hd⟩
  obtain ⟨hg, ht, he⟩:=hb cl C s H fp X'.xe
  have hg : PG X' tg g:=hg
  have ht : PTs X' ifs tt:=ht
  have he : PE X' elt te:=he
  have FD : ∀ (H' : Hp) (obj : Obj), H' D = none -> (∀ b ∈ fp, H' b = none) -> ∀ b ∈ fp, GR X' [(D, obj)] H' b:=fun H' obj hD' hn' b hb=>by
    refine ⟨hn' b hb, Nat.ne_of_lt (Nat.lt_trans (fpLt b hb) hDlt), fun hz=>?_, .inl hb, fun x c e z=>(hf b hb).2.2.2.2.1 x c (hsub x c e) z, fun p hp z=>?_⟩
    . exact okX.exfs b hb hz
    . have hp' : p = (D, obj) := by simpa using (show p ∈ [] ++ [(D, obj)] from hp)
      subst hp'
      have:=fpLt b hb
      exact Nat.lt_irrefl b (by rw [← z] at this; exact absurd this (Nat.lt_irrefl _))
  have fsLt : ∀ b ∈ X'.fs, b < D:=fun b hb=>by
    obtain ⟨_, o, ho, _⟩:=I.stack.mem hb
    rw [← hD]; exact Heap.lt_size ho
  have loop : ∀ s₃ : Shared, (∃ tk, s₃ = { s with heap:=h₁, toks:=tk }) ->
      codeAny (model X.prog X.w) X.A (.compLoop (.ListComp elt [⟨tg, iter, ifs, 0⟩] scope pos) 0 (.ref it) (.ref D) (compEnvC scope cl C X.env)) (RR (.ref D) C) s₃:=by
    rintro s₃ ⟨tk, rfl⟩
    refine Uo (env:=compEnvC scope cl C X.env)
      (fun m s'=>∃ i H' ys its k, Inv X' [] (Zo n caps σ) H' s' /\ tn i s'.heap /\ (∀ b ∈ fp, H' b = none) /\ s'.heap.get? D = some { cls:=.type "list", data:=.seq (List.toArray its) k } /\ H' D = none /\ Yq ys its /\ W i m ys H') ?_ m0
      ⟨0, H, [], [], 0, I1 tk, hst₁, fun b hb=>(hf b hb).1, hacc, I.hok.fresh (by rw [hD]; exact Nat.le_refl _), .nil, w0⟩
    rintro m s3 ⟨i, H3, ys, its, k, I3, st3, fr3, hL, hDn, rv, w3⟩
    have hne : D ≠ C:=Nat.ne_of_lt hDlt
    have I3' : Inv X' [(D, { cls:=.type "list", data:=.seq (List.toArray its) k })] (Zo n caps σ) H3 s3:=I3.pins_of fun p hp=>by
      have hp' : p = (D, { cls:=.type "list", data:=.seq (List.toArray its) k }):=by simpa using hp
      subst hp'
      exact ⟨hL, hDn, hne, fun hz=>absurd (fsLt _ hz) (Nat.lt_irrefl _), fun v z=>by cases z⟩
    obtain ⟨hz, cs⟩:=turn i m ys H3 w3
    rcases cs with ⟨stop, qn⟩ | ⟨go, NN, hNN, step⟩
    . refine thn (T.done X' rfl rfl rfl hc i _ s3 _ H3 X'.xe I3' (FD H3 _ hDn fr3) st3 stop) fun r s4 r9 => ?_
      obtain ⟨hr, I4⟩:=r9
      subst hr
      have hL4:=(I4.pin (D, { cls:=.type "list", data:=.seq (List.toArray its) k }) (List.mem_append_right _ List.mem_cons_self)).1
      obtain ⟨mm, hnsC, _⟩:=id I4.loc
      refine hRR D C ys H3 s4 ⟨?_, hDn, ?_, mm, hnsC⟩ (qn D hDn)
      . refine I.call' (ch := fp) I4.os ?_ ?_ I4.bare fun b hb => ⟨(hf b hb).2.2.2.1, (hf b hb).2.1, (hf b hb).2.2.2.2.1, (hf b hb).2.2.2.2.2⟩
        . have u : Un (frs X.stack) fp H H3 s.heap s4.heap := I4.base
          refine ⟨u.keep, u.slot, fun b o e nn hx=>?_, u.there, fun b xs e=>?_, fun b o xs e=>?_, fun b ps e=>?_⟩
          . rw [Xq (Nat.ne_of_lt (show b < D by rw [← hD]; exact Heap.lt_size e))]; exact u.free b o e nn hx
          . have := u.tups b xs e
            rw [Xq (XI this hDn)]; exact this
          . have := u.frzs b o xs e
            rw [Xq (XI this hDn)]; exact this
          . obtain ⟨more, this⟩ := u.tbls b ps e
            exact ⟨more, by rw [Xq (XI this hDn)]; exact this⟩
        . intro a o e
          by_cases ha : a = D
          . subst ha
            rw [Yj] at e; cases e
            exact ⟨hz, its, k, rv, hL4⟩
          . rw [Xq ha] at e
            exact (I4.hok a o e).stay (fun b u _ q=>q) (fun b q=>by rw [Xq (XI q hDn)]; exact q) fun b xs q=>by rw [Xq (XI q hDn)]; exact q
      . refine ⟨by rw [Xq (Ne.symm hne)]; exact I4.free, Nat.ne_of_gt (Nat.lt_trans (show X.env.locals < D by rw [← hD]; exact I.lt) hDlt), fun hz => ?_, .inr (Nat.le_trans I.sz (Nat.le_of_lt (by rw [hD]; exact hDlt))), fun x c e z => ?_, fun p hp z => ?_⟩
        . obtain ⟨_, o, ho, _⟩ := I.ok.funs.mem hz
          exact absurd (Nat.lt_trans hDlt (show C < D from Nat.lt_of_lt_of_le (Heap.lt_size ho) (by rw [← hD]; exact I.sz))) (Nat.lt_irrefl _)
        . obtain ⟨v, q⟩ := I.cell x c e
          exact absurd (Nat.lt_trans hDlt (show C < D by rw [← hD, ← z]; exact q.lt)) (Nat.lt_irrefl _)
        . exact absurd (Nat.lt_trans hDlt (show C < D by rw [← hD, ← z]; exact Heap.lt_size (I.pin p hp).1)) (Nat.lt_irrefl _)
    . refine thn (T.item X' rfl rfl rfl hc i _ s3 _ H3 X'.xe I3' (FD H3 _ hDn fr3) st3 go) fun r s4 r9 => ?_
      obtain ⟨u, hr, h4⟩:=r9
      subst hr
      refine thn h4 fun _ s5 r9=>?_
      obtain ⟨x, H5, I5, r5, y5, st5, fr5⟩:=r9
      have hD5 : H5 D = none:=(I5.pin (D, { cls:=.type "list", data:=.seq (List.toArray its) k }) (List.mem_append_right _ List.mem_cons_self)).2.1
      have I5':=I5.pinned (FD H5 _ hD5 fr5) (T.obj _ _ st5)
      refine thn (hg _ s5 _ H5 x u _ I5' r5 (hG _ _ _ _ (step x H5 y5))) fun _ s6 r9=>?_
      obtain ⟨σ6, H6, I6, q6, l6, k6⟩:=r9
      refine thn (ht _ s6 σ6 H6 _ I6 q6) fun c s7 r9=>?_
      obtain ⟨H7, I7, q7⟩:=r9
      have wk : ∀ (j : Nat) v, (Zo n caps σ)[j]? = some (some v) -> σ6[j]? = some (some v):=fun j v e=>by
        by_cases hj : n <= j
        . rw [k6 j hj]; exact e
        . unfold Zo at e
          rw [List.getElem?_append_left (by simp; omega), List.getElem?_replicate] at e
          split at e <;> cases e
      have keepT : ∀ {h' : Heap}, (∀ b ∈ fp, ∀ o, s5.heap.get? b = some o -> h'.get? b = some o) -> tn (i + 1) h':=fun kk=>T.keep _ _ _ st5 kk
      cases c with
      | false=>
        rw [if_neg Bool.false_ne_true] at q7
        rw [if_neg Bool.false_ne_true]
        obtain ⟨m', hm, w7⟩:=hNN _ _ q7
        refine ⟨m', hm, i + 1, H7, ys, its, k, ((I7.pins_of (pins':=[]) fun p hp=>by simp at hp).weak l6.symm wk), keepT fun b hb o e=>(I7.pin (b, o) (List.mem_append_right _ (List.mem_append_right _ (Zs hb e)))).1, fun b hb=>?_, (I7.pin (D, { cls:=.type "list", data:=.seq (List.toArray its) k }) (List.mem_append_right _ (List.mem_append_left _ List.mem_cons_self))).1, (I7.pin (D, { cls:=.type "list", data:=.seq (List.toArray its) k }) (List.mem_append_right _ (List.mem_append_left _ List.mem_cons_self))).2.1, rv, w7⟩
        obtain ⟨o, e, _⟩:=T.obj _ _ st5 b hb
        exact (I7.pin (b, o) (List.mem_append_right _ (List.mem_append_right _ (Zs hb e)))).2.1
      | true=>
        rw [if_pos rfl] at q7
        rw [if_pos rfl]
        refine thn (he _ s7 σ6 H7 _ I7 q7) fun v8 s8 r9=>?_
        obtain ⟨y8, H8, I8, r8, n8⟩:=r9
        obtain ⟨m', hm, w8⟩:=hNN _ _ n8
        have hL8:=(I8.pin (D, { cls:=.type "list", data:=.seq (List.toArray its) k }) (List.mem_append_right _ (List.mem_append_left _ List.mem_cons_self))).1
        have hD8:=(I8.pin (D, { cls:=.type "list", data:=.seq (List.toArray its) k }) (List.mem_append_right _ (List.mem_append_left _ List.mem_cons_self))).2.1
        refine call_meets F.slot_list_append ⟨_, hL8, rfl⟩ F.entry_list_append (F.args_list_append_2 _ _) (PySem.list_append D (List.toArray its) k v8 (by rw [List.size_toArray, ← rv.length]; exact hz)) ⟨hL8, ?_⟩
        have q:=PySem.IsL.update hL8 (·.push v8)
        have I9 : Inv X' (Vy fp s5.heap) σ6 H8 s8:=I8.pins_of fun p hp=>I8.pin p (List.mem_append_right _ (List.mem_append_right _ hp))
        have I10:=I9.turned (t':=s8.toks) (h':=s8.heap.update D (Obj.mapSeq (·.push v8))) (it:=D) (fun b o hb' e=>(Heap.get?_update_other s8.heap _ (Ne.symm hb')).trans e) hD8 hne (.inr (by show s.heap.objs.size <= D; omega))
          (fun x c e=>Nat.ne_of_lt (cellLt x c e)) (fun p hp z=>by
            have hp' : p ∈ Vy fp s5.heap:=(List.mem_append.mp hp).elim (fun q=>absurd (show p ∈ ([] : List (Addr × Obj)) from q) (by simp)) id
            have:=fpLt p.1 (UE hp').1
            rw [z] at this
            exact absurd this (Nat.lt_irrefl _))
        refine ⟨m', hm, i + 1, H8, ys ++ [y8], its ++ [v8], (if (its ++ [v8]).toArray.size == (List.toArray its).size then k else k + 1), ((I10.pins_of (pins':=[]) fun p hp=>by simp at hp).weak l6.symm wk), keepT fun b hb o e=>(I10.pin (b, o) (List.mem_append_right _ (Zs hb e))).1, fun b hb=>?_, ?_, hD8, rv.append (.cons r8 .nil), w8⟩
        . obtain ⟨o, e, _⟩ := T.obj _ _ st5 b hb
          exact (I10.pin (b, o) (List.mem_append_right _ (Zs hb e))).2.1
        . have e : (List.toArray its).push v8 = (its ++ [v8]).toArray := by simp
          have q' : (s8.heap.update D (Obj.mapSeq (·.push v8))).get? D = some { cls:=.type "list", data:=.seq ((List.toArray its).push v8) (if ((List.toArray its).push v8).size == (List.toArray its).size then k else k + 1) }:=q
          rw [e] at q'
          exact q'
  exact codeAny_compStart_list (loop _ ⟨_, rfl⟩) (T.self _ 0 _ _ _ hst₁ (loop _ ⟨_, rfl⟩))
theorem Es (sc : Scope) (N0 : List Str) (tns : List Str) (caps : List (Nat × Str)) (hc : X.calm = true) (hi : PI X tg iter wi) (hG : Gm tns.length g)
    (hb : ∀ cl C s H ex E, PG (X.comp (tns ++ caps.map (·.2)) scope cl C s H ex E) tg g /\ PTs (X.comp (tns ++ caps.map (·.2)) scope cl C s H ex E) ifs tt /\ PE (X.comp (tns ++ caps.map (·.2)) scope cl C s H ex E) elt te)
    (hsc : X.env.scope = sc:=by rfl) (hN0 : X.N = N0:=by rfl) (ok : JB sc scope N0 tns caps = true:=by decide +kernel)
    (hs : ∀ x, foldedSetIterable iter X.env x = pure x:=by intro _; rfl) :
    PE X (.ListComp elt [⟨tg, iter, ifs, 0⟩] scope pos) (Fe tns.length caps wi g tt te):=by
  intro pins s σ H Q I h
  have ok':=ok
  unfold JB at ok'
  simp only [Bool.and_eq_true, List.all_eq_true] at ok'
  obtain ⟨⟨⟨⟨ok1, ok2⟩, ok3⟩, ok4⟩, ok5⟩:=ok'
  obtain ⟨cl, ecl, hsub, hall⟩:=FI (scope:=scope) (env:=X.env) fun x hx hfr=>by
    have:=ok4 x hx
    rw [hfr] at this
    have z : sc.names.lookup x.1 = some .cell:=by simpa using this
    exact I.ok.has x.1 (.inl (by show X.env.scope.names.lookup x.1 = _; rw [hsc]; exact z))
  rw [eval_ListComp]
  refine wpAny_comprehension_free (use:=none) rfl hs ecl (by simpa using ok1) (fun x hx hl=>by have:=ok3 x hx; rw [hl] at this; simpa using this) (thn (hi pins s σ H _ I h) fun xv s₁ h₁=>thn h₁ fun itv s₂ h₂=>?_)
  obtain ⟨it, fp, tn, J, H', rfl, I2, T, st2, f2, W, ⟨m0, w0⟩, turn⟩:=h₂
  refine VA (RR:=fun acc C=>compPost (model X.prog X.w) X.A X.xe none (EP X pins σ Q) acc C) hc hsc hN0 ok rfl hG hb I2 T st2 f2 hsub hall W w0 turn ?_
  intro D C ys H3 s' ce q
  obtain ⟨mm, hns⟩:=ce.ns
  refine ⟨mm, hns, fun h' hs'=>⟨.ref D, _, ?_, rfl, q⟩⟩
  obtain ⟨c0, c1, c2, c3, c4, c5⟩:=ce.fp
  exact ce.inv.turned (t':=s'.toks) (fun b o hb' e=>(hs'.extBut b o hb' e)) c0 c1 c3 c4 c5
theorem Qu {x : Str} {px spos : Pos} (j : Nat) (sc : Scope) (N0 : List Str) (tns : List Str) (caps : List (Nat × Str)) (hc : X.calm = true) (hN : X.N.Nodup) (hj : X.N[j]? = some x) (hx : X.env.scope.names.lookup x = some .local) (hi : PI X tg iter wi) (hG : Gm tns.length g)
    (hb : ∀ cl C s H ex E, PG (X.comp (tns ++ caps.map (·.2)) scope cl C s H ex E) tg g /\ PTs (X.comp (tns ++ caps.map (·.2)) scope cl C s H ex E) ifs tt /\ PE (X.comp (tns ++ caps.map (·.2)) scope cl C s H ex E) elt te)
    (hsc : X.env.scope = sc:=by rfl) (hN0 : X.N = N0:=by rfl) (ok : JB sc scope N0 tns caps = true:=by decide +kernel)
    (hsw : swapsWith (.ListComp elt [⟨tg, iter, ifs, 0⟩] scope pos) (some (.Name x px)) spos.line X.env = pure true:=by rfl)
    (hs : ∀ x, foldedSetIterable iter X.env x = pure x:=by intro _; rfl) :
    PS X (.Assign [.Name x px] (.ListComp elt [⟨tg, iter, ifs, 0⟩] scope pos) spos) (Cy (Fe tns.length caps wi g tt te) (Zl j)):=by
  intro pins s σ H D I h
  have ok':=ok
  unfold JB at ok'
  simp only [Bool.and_eq_true, List.all_eq_true] at ok'
  obtain ⟨⟨⟨⟨ok1, ok2⟩, ok3⟩, ok4⟩, ok5⟩:=ok'
  obtain ⟨cl, ecl, hsub, hall⟩:=FI (scope:=scope) (env:=X.env) fun x hx hfr=>by
    have:=ok4 x hx
    rw [hfr] at this
    have z : sc.names.lookup x.1 = some .cell:=by simpa using this
    exact I.ok.has x.1 (.inl (by show X.env.scope.names.lookup x.1 = _; rw [hsc]; exact z))
  rw [exec_Assign_Name_used _ _ _ _ hsw]
  refine wpAny_bind (wpAny_standAt (wpAny_bind ?_))
  show wpAny _ _ (do let _ ← comprehension (.ListComp elt [⟨tg, iter, ifs, 0⟩] scope pos) scope X.env _ (newList []) false (eval iter X.env) (some (assign (.Name x px) X.env))) _ _ s
  refine wpAny_bind (thn (wpAny_comprehension_free (use:=some (assign (.Name x px) X.env)) (Q:=fun _ s'=>SP X pins D .next s') rfl hs ecl (by simpa using ok1) (fun x hx hl=>by have:=ok3 x hx; rw [hl] at this; simpa using this)
    (thn (hi pins s σ H _ I h) fun xv s₁ h₁=>thn h₁ fun itv s₂ h₂=>?_)) fun _ s' hq=>wpAny_pure (wpAny_pure hq))
  obtain ⟨it, fp, tn, J, H', rfl, I2, T, st2, f2, W, ⟨m0, w0⟩, turn⟩:=h₂
  refine VA (Q:=fun v H1=>Zl j v σ H1 D.nx) (RR:=fun acc C=>compPost (model X.prog X.w) X.A X.xe (some (assign (.Name x px) X.env)) (fun _ s'=>SP X pins D .next s') acc C) hc hsc hN0 ok rfl hG hb I2 T st2 f2 hsub hall W w0 turn ?_
  intro DD C ys H3 s' ce q
  obtain ⟨mm, hns⟩:=ce.ns
  obtain ⟨c0, c1, c2, c3, c4, c5⟩:=ce.fp
  show wpAny _ _ (assign (.Name x px) X.env (.ref DD)) _ _ _
  refine wpAny_assign_Name (UN ce.inv hN hj (.inl hx) (v:=.ref DD) rfl (fun s2 I2 chg=>?_) (.inr hx))
  obtain ⟨c, hsb, hcc⟩:=chg
  have hCc : C ≠ c:=by
    rcases hcc with z | z
    . rw [z]; exact c1
    . exact fun e=>c4 x c z e.symm
  refine ⟨mm, ?_, fun h' hs'=>?_⟩
  . obtain ⟨o, es, ep, ho, r⟩ := hns
    exact ⟨o, es, ep, (hsb.2 C hCc).trans ho, r⟩
  . exact ⟨_, _, I2.turned (t':=s2.toks) (fun b o hb' e=>(hs'.extBut b o hb' e)) c0 c1 c3 c4 c5, q⟩
end
section
variable {K : PySem.W.Frag} {a : Addr} {xs : List V} {n : Nat} {caps : List (Nat × Str)} {g : TG} {tt : TT} {te : TE} {σ : St} {H : Hp} {Q : V -> Hp -> Prop}
end
section
variable {X : Cx} {pos : Pos}
noncomputable def Dj (K : PySem.W.Frag) : List V -> Hp -> VK -> Prop:=fun xs H Q=>∃ p ys, xs = [.ref p] /\ (SqL K H p ys ∨ SqT K H p ys) /\ ∀ l, H l = none -> Q (.ref l) (upd H l (.lst ys))
noncomputable def FM (K : PySem.W.Frag) : List V -> Hp -> VK -> Prop:=fun xs H Q=>∃ p ys, xs = [.ref p] /\ (SqL K H p ys ∨ SqT K H p ys) /\ Q (.int ys.length) H
theorem ZS (K : PySem.W.Frag) (h : X.K = K) : QD X (.type "list") (Dj K):=by subst h; exact UD
theorem Xr (K : PySem.W.Frag) (h : X.K = K) : QD X (.builtin "len") (FM K):=by subst h; exact UK
theorem Xl (K : PySem.W.Frag) (h : X.K = K) : IxR X (Br K):=by subst h; exact BP
theorem Y4 (K : PySem.W.Frag) (h : X.K = K) : IxR X (EJ K):=by subst h; exact Hz
theorem V8 (K : PySem.W.Frag) (h : X.K = K) : SlR X (HU K):=by subst h; exact EF
theorem JP (K : PySem.W.Frag) (h : X.K = K) {es : List Expr} {k : Nat} {t : TGs} {n : Nat} (hc : X.calm = true) (hh : PGs X es t)
    (hn : (assignEach es X.env).length = n:=by rfl) (hst : (assignEach es X.env).findIdx? (·.1) = none:=by rfl) : PG X (.Tuple es k pos) (Bv K n t):=by subst h; exact Q4 hc hh hn hst
end
end L2
namespace L2
open PySem PySem.Spec PyProof.Rows
structure Fn (P : Program) (w : World) (K : PySem.W.Frag) (mg : Str -> Option Value) (base : Heap) (k : Nat) (x : Str) (ps : List Str) (sp : Sp) : Prop where
  ex : ∃ f fd, FnOk P w K mg base CX0 k f fd ps sp /\ Kc K fd ps [] /\ PySem.W.keepIn K (.ref f) = true /\ mg x = some (.ref f)
section
variable {X : Cx} {k j : Nat} {x : Str} {ps : List Str} {sp : Sp} {e : Expr} {es : List Expr} {t : TA} {p pos : Pos}
theorem Yg (G : Fn X.prog X.w X.K X.mg X.base k x ps sp) (hr : Room j X.A) (hj : k <= j) (ha : PA X (e :: es) t) (hg : Gl X x:=by rfl) (hdb : (x == ("__debug__" : Str)) = false:=by decide)
    (he : starEach (e :: es) X.env = (false, eval e X.env) :: starEach es X.env:=by rfl) (hpl : (backTo pos (starEach es X.env)).any (·.1) = false:=by rfl) :
    PE X (.Call (.Name x p) (e :: es) [] pos) (GF sp [] E0 t):=by
  obtain ⟨f, fd, F, b, kp, m⟩:=G.ex
  exact BH F (hr.mono hj) hg m kp b .nil Ir ha hdb he hpl
end
noncomputable def Def (K : PySem.W.Frag) (mg : Str -> Option Value) (x : Str) (st : Stmt) (ps : List Str) : Prop:=∃ f fd, Fun K x x st f fd /\ Kc K fd ps [] /\ mg x = some (.ref f)
theorem Y0 {P : Program} {w : World} {K : PySem.W.Frag} {mg : Str -> Option Value} {base : Heap} {x : Str} {st : Stmt} {N ps : List Str} {k : Nat} {sp : Sp} (D : Def K mg x st ps) (S : FnScope N ps (Xg st)) (len : ∀ vs H Q E, sp vs H Q E -> vs.length = ps.length)
    (hbody : ∀ (f : Addr) (cdv : Value) (A : Around) (outer : List Env) (s : Shared) (H : Hp) (vs : List V) (Q : VK) (E : XK), Room k (A.deeper (envOfC x (Xg st) s.heap.objs.size f cdv)) -> sp vs H Q E ->
      ∃ t, PSs (B1 CX0 P w K mg base N x (Xg st) f cdv A outer s H E).nox (Xx st) t /\ t { nx:=fun _ H'=>Q .non H', rt:=Q } (V1 N vs) H) : Fn P w K mg base (k + 1) x ps sp:=by
  obtain ⟨f, fd, F, b, m⟩:=D
  exact ⟨f, fd, F.ok S len (hbody f), b, F.kp, m⟩
theorem Ig {a d c : Nat} (h : d <= 8) (hu : a + 8 < c) : a + d < c:=by omega
theorem Xy {H : Hp} {p : Addr} (h : H p = none) (o : HO) : Xu H (upd H p o):=fun b u q=>by rw [Xq (XI q h)]; exact q
theorem Xu.own {H H2 : Hp} {p : Addr} (s : Xu H H2) (h : H p = none) (o : HO) : Xu H (upd H2 p o):=fun b u q=>by rw [Xq (XI q h)]; exact s b u q
theorem Xu.new {H H2 : Hp} {p : Addr} (s : Xu H H2) (h : H2 p = none) (o : HO) : Xu H (upd H2 p o):=s.trans (Xy h o)
theorem Xu.seqT {K : PySem.W.Frag} {H H' : Hp} {a : Addr} {xs : List V} (e : Xu H H') (h : SqT K H a xs) : SqT K H' a xs:=by
  rcases h with (h | ⟨o, h⟩) | h
  . exact .inl (.inl (e _ _ h))
  . exact .inl (.inr ⟨o, e _ _ h⟩)
  . exact .inr h
theorem hu8 {A : Around} {k : Nat} (hr : Room k A) : A.units + 8 < cLine:=Nat.lt_of_le_of_lt (Nat.add_le_add_left (by decide : 8 <= 64) _) hr.units
noncomputable abbrev Enc (α : Type):=PySem.W.Frag -> Hp -> V -> α -> Prop
noncomputable def Xa : Enc Int:=fun _ _ v i=>v = .int i
noncomputable def rL {α : Type} (r : Enc α) : Enc (List α):=fun K H v as=>∃ a xs, v = .ref a /\ SqL K H a xs /\ Paired (r K H) xs as
noncomputable def rT2 {α β : Type} (r : Enc α) (q : Enc β) : Enc (α × β):=fun K H v p=>∃ a x y, v = .ref a /\ SqT K H a [x, y] /\ r K H x p.1 /\ q K H y p.2
theorem Paired.getL {α β : Type} {F : α -> β -> Prop} : ∀ {l : List α} {m : List β} {i : Nat} {a : α}, Paired F l m -> l[i]? = some a -> ∃ b, m[i]? = some b /\ F a b
  | _, _, _, _, .nil, e=>by simp at e
  | _, _, 0, _, .cons r _, e=>by simp at e; subst e; exact ⟨_, rfl, r⟩
  | _, _, i + 1, a, .cons _ t, e=>by
    obtain ⟨b, h1, h2⟩:=Paired.getL (i:=i) (a:=a) t (by simpa using e)
    exact ⟨b, by simpa using h1, h2⟩
theorem Paired.getR {α β : Type} {F : α -> β -> Prop} : ∀ {l : List α} {m : List β} {i : Nat} {b : β}, Paired F l m -> m[i]? = some b -> ∃ a, l[i]? = some a /\ F a b
  | _, _, _, _, .nil, e=>by simp at e
  | _, _, 0, _, .cons r _, e=>by simp at e; subst e; exact ⟨_, rfl, r⟩
  | _, _, i + 1, b, .cons _ t, e=>by
    obtain ⟨a, h1, h2⟩:=Paired.getR (i:=i) (b:=b) t (by simpa using e)
    exact ⟨a, by simpa using h1, h2⟩
theorem Paired.len {α β : Type} {F : α -> β -> Prop} {l : List α} {m : List β} (h : Paired F l m) : l.length = m.length:=Paired.length h
theorem Paired.app {α β : Type} {F : α -> β -> Prop} : ∀ {l l' : List α} {m m' : List β}, Paired F l m -> Paired F l' m' -> Paired F (l ++ l') (m ++ m'):=fun p h=>by
  induction p with
  | nil=>exact h
  | cons r _ ih=>exact .cons r ih
theorem Kb (ns : List Int) : ∀ {K : PySem.W.Frag} {H : Hp}, Paired (Xa K H) (ns.map V.int) ns:=by
  intro K H
  induction ns with
  | nil=>exact .nil
  | cons n r ih=>exact .cons rfl ih
theorem Va : ∀ {xs : List V} {ns : List Int} {K : PySem.W.Frag} {H : Hp}, Paired (Xa K H) xs ns -> xs = ns.map V.int
  | _, _, _, _, .nil=>rfl
  | _, _, _, _, .cons r t=>by
    have r' : _ = V.int _:=r
    rw [r', Va t]; rfl
structure EqOk {α : Type} [DecidableEq α] (r : Enc α) (d : Nat) : Prop where
  uniq : ∀ {X : Cx} {pins : List (Addr × Obj)} {σ : St} {H : Hp} {s : Shared} {x : V} {a b : α}, Inv X pins σ H s -> r X.K H x a -> r X.K H x b -> a = b
  eq : ∀ {X : Cx} {pins : List (Addr × Obj)} {σ : St} {H : Hp} {s : Shared} {x y : V} {v u : Value} {a b : α} {A : Around}, Inv X pins σ H s -> Yi x v -> Yi y u -> r X.K H x a -> r X.K H y b -> A.units + d < cLine -> SeqAt.EqAt A s v u (decide (a = b))
  rc : ∀ {X : Cx} {pins : List (Addr × Obj)} {σ : St} {H : Hp} {s : Shared} {x y : V} {v u : Value} {a b : α} {A : Around}, Inv X pins σ H s -> Yi x v -> Yi y u -> r X.K H x a -> r X.K H y b -> A.units + d < cLine -> SeqAt.RcAt A s v u (decide (a = b))
  ne : ∀ {X : Cx} {pins : List (Addr × Obj)} {σ : St} {H : Hp} {s : Shared} {x y : V} {v u : Value} {a b : α} {A : Around}, Inv X pins σ H s -> Yi x v -> Yi y u -> r X.K H x a -> r X.K H y b -> A.units + d < cLine -> SeqAt.RcNeAt A s v u (!decide (a = b))
  keep : ∀ {K : PySem.W.Frag} {H H' : Hp} {x : V} {a : α}, Xu H H' -> r K H x a -> r K H' x a
theorem EqOk.up {α : Type} [DecidableEq α] {r : Enc α} {d e : Nat} (E : EqOk r d) (h : d <= e) : EqOk r e:=
  ⟨E.uniq, fun I rx ry h1 h2 hu=>E.eq I rx ry h1 h2 (by omega), fun I rx ry h1 h2 hu=>E.rc I rx ry h1 h2 (by omega), fun I rx ry h1 h2 hu=>E.ne I rx ry h1 h2 (by omega), E.keep⟩
theorem Vh (A : Around) : A.in1.units = A.units + 1:=rfl
theorem Cn {a b : Int} : (a == b) = decide (a = b):=by rw [Bool.eq_iff_iff]; simp
theorem eq_int : EqOk Xa 0 where
  uniq:=fun _ h1 h2=>by
    have h1' : _ = V.int _:=h1
    have h2' : _ = V.int _:=h2
    rw [h1'] at h2'; injection h2'
  eq:=fun {X pins σ H s x y v u a b A} I rx ry h1 h2 _=>by
    have h1' : x = V.int a:=h1
    have h2' : y = V.int b:=h2
    subst h1' h2'
    obtain ⟨t, rfl⟩:=rx
    obtain ⟨t', rfl⟩:=ry
    rw [← Cn]; exact SeqAt.EqAt.int_int a t b t'
  rc:=fun {X pins σ H s x y v u a b A} I rx ry h1 h2 _=>by
    have h1' : x = V.int a:=h1
    have h2' : y = V.int b:=h2
    subst h1' h2'
    obtain ⟨t, rfl⟩:=rx
    obtain ⟨t', rfl⟩:=ry
    rw [← Cn]; exact SeqAt.RcAt.int_int a t b t'
  ne:=fun {X pins σ H s x y v u a b A} I rx ry h1 h2 _=>by
    have h1' : x = V.int a:=h1
    have h2' : y = V.int b:=h2
    subst h1' h2'
    obtain ⟨t, rfl⟩:=rx
    obtain ⟨t', rfl⟩:=ry
    rw [← Cn]; exact SeqAt.RcNeAt.int_int a t b t'
  keep:=fun _ h=>h
theorem Dr {α : Type} [DecidableEq α] {as bs : List α} (h : as.length = bs.length) : (List.range as.length).all (fun j=>decide (as[j]? = bs[j]?)) = decide (as = bs):=by
  rw [Bool.eq_iff_iff]
  simp only [List.all_eq_true, List.mem_range, decide_eq_true_eq]
  constructor
  . intro hh
    apply List.ext_getElem?
    intro i
    by_cases hi : i < as.length
    . exact hh i hi
    . rw [List.getElem?_eq_none (by omega), List.getElem?_eq_none (by omega)]
  . rintro rfl; intros; rfl
theorem Paired.uniq {α β : Type} {F : α -> β -> Prop} (hu : ∀ a b c, F a b -> F a c -> b = c) : ∀ {l : List α} {m m' : List β}, Paired F l m -> Paired F l m' -> m = m':=fun {l m m'} p=>by
  induction p generalizing m' with
  | nil=>intro q; cases q; rfl
  | cons r _ ih=>intro q; cases q with | cons r' t'=>rw [hu _ _ _ r r', ih t']
theorem Paired.imp2 {α β : Type} {F G : α -> β -> Prop} (h : ∀ a b, F a b -> G a b) : ∀ {l : List α} {m : List β}, Paired F l m -> Paired G l m:=fun p=>by
  induction p with
  | nil=>exact .nil
  | cons r _ ih=>exact .cons (h _ _ r) ih
section
variable {α : Type} [DecidableEq α] {r : Enc α} {d : Nat}
theorem VE (E : EqOk r d) {X : Cx} {pins : List (Addr × Obj)} {σ : St} {H : Hp} {s : Shared} {A : Around} (I : Inv X pins σ H s) (hu : A.units + (d + 1) < cLine) {xs ys : List V} {as bs : List α} {its its2 : List Value}
    (r1 : Yq xs its) (r2 : Yq ys its2) (p1 : Paired (r X.K H) xs as) (p2 : Paired (r X.K H) ys bs) :
    ∀ j (h1 : j < its.toArray.size) (h2 : j < its2.toArray.size), SeqAt.EqAt A.in1 s its.toArray[j] its2.toArray[j] (decide (as[j]? = bs[j]?)):=by
  intro j h1 h2
  have h1' : j < its.length:=by simpa using h1
  have h2' : j < its2.length:=by simpa using h2
  obtain ⟨x, ex, rx⟩:=Paired.getR (i:=j) (b:=its[j]) r1 (by simp [h1'])
  obtain ⟨y, ey, ry⟩:=Paired.getR (i:=j) (b:=its2[j]) r2 (by simp [h2'])
  obtain ⟨a, ea, ra⟩:=Paired.getL p1 ex
  obtain ⟨b, eb, rb⟩:=Paired.getL p2 ey
  have:=E.eq (A:=A.in1) I rx ry ra rb (by rw [Vh]; omega)
  rw [ea, eb]
  simpa using this
theorem Ea (E : EqOk r d) : EqOk (rL r) (d + 1):=by
  have un : ∀ {X : Cx} {pins : List (Addr × Obj)} {σ : St} {H : Hp} {s : Shared} {x : V} {a b : List α}, Inv X pins σ H s -> rL r X.K H x a -> rL r X.K H x b -> a = b:=by
    intro X pins σ H s x as bs I h1 h2
    obtain ⟨a, xs, rfl, q1, p1⟩:=h1
    obtain ⟨b, ys, e, q2, p2⟩:=h2
    cases e
    cases I.list_inj q1 q2
    exact Paired.uniq (F:=r X.K H) (fun _ _ _ z z'=>E.uniq I z z') p1 p2
  have rc : ∀ {X : Cx} {pins : List (Addr × Obj)} {σ : St} {H : Hp} {s : Shared} {x y : V} {v u : Value} {a b : List α} {A : Around}, Inv X pins σ H s -> Yi x v -> Yi y u -> rL r X.K H x a -> rL r X.K H y b -> A.units + (d + 1) < cLine -> SeqAt.RcAt A s v u (decide (a = b)):=by
    intro X pins σ H s x y v u as bs A I rx ry h1 h2 hu
    obtain ⟨a, xs, rfl, q1, p1⟩:=h1
    obtain ⟨b, ys, rfl, q2, p2⟩:=h2
    cases rx; cases ry
    obtain ⟨its, r1, l1, _⟩:=I.list q1
    obtain ⟨its2, r2, l2, _⟩:=I.list q2
    have n1:=r1.length
    have n2:=r2.length
    have m1:=Paired.len p1
    have m2:=Paired.len p2
    by_cases hl : as.length = bs.length
    . have := SeqAt.RcAt.lists (A := A) (e := fun j => decide (as[j]? = bs[j]?)) l1.isList l2.isList (by simp only [List.size_toArray]; omega) (by omega) (VE E I hu r1 r2 p1 p2)
      rw [show its.toArray.size = as.length by simp only [List.size_toArray]; omega, Dr hl] at this
      exact this
    . rw [decide_eq_false (fun e => hl (congrArg List.length e))]
      exact SeqAt.RcAt.lists_lengths l1.isList l2.isList (by simp only [List.size_toArray, bne_iff_ne]; omega) (by omega)
  refine ⟨un, ?_, rc, ?_, ?_⟩
  . intro X pins σ H s x y v u as bs A I rx ry h1 h2 hu
    obtain ⟨a, xs, rfl, q1, p1⟩:=id h1
    obtain ⟨b, ys, rfl, q2, p2⟩:=id h2
    have R:=rc (A:=A) I rx ry h1 h2 hu
    cases rx; cases ry
    by_cases e : a = b
    . subst e
      rw [decide_eq_true (un I h1 h2)]
      exact SeqAt.EqAt.same _
    . exact SeqAt.EqAt.of_refs e R
  . intro X pins σ H s x y v u as bs A I rx ry h1 h2 hu
    obtain ⟨a, xs, rfl, q1, p1⟩:=h1
    obtain ⟨b, ys, rfl, q2, p2⟩:=h2
    cases rx; cases ry
    obtain ⟨its, r1, l1, _⟩:=I.list q1
    obtain ⟨its2, r2, l2, _⟩:=I.list q2
    have n1:=r1.length
    have n2:=r2.length
    have m1:=Paired.len p1
    have m2:=Paired.len p2
    by_cases hl : as.length = bs.length
    . have := SeqAt.RcNeAt.lists (A := A) (e := fun j => decide (as[j]? = bs[j]?)) l1.isList l2.isList (by simp only [List.size_toArray]; omega) (by omega) (VE E I hu r1 r2 p1 p2)
      rw [show its.toArray.size = as.length by simp only [List.size_toArray]; omega, Dr hl] at this
      exact this
    . rw [decide_eq_false (fun e => hl (congrArg List.length e))]
      exact SeqAt.RcNeAt.lists_lengths l1.isList l2.isList (by simp only [List.size_toArray, bne_iff_ne]; omega) (by omega)
  . intro K H H' x as e h
    obtain ⟨a, xs, rfl, q1, p1⟩:=h
    exact ⟨a, xs, rfl, e.seq q1, Paired.imp2 (fun _ _ z=>E.keep e z) p1⟩
end
section
variable {α β : Type} [DecidableEq α] [DecidableEq β] {r : Enc α} {q : Enc β} {d : Nat}
theorem KM {a1 a2 : α} {b1 b2 : β} : (decide (a1 = a2) && decide (b1 = b2)) = decide ((a1, b1) = (a2, b2)):=by
  rw [Bool.eq_iff_iff]; simp
theorem Bx (E : EqOk r d) (F : EqOk q d) : EqOk (rT2 r q) (d + 1):=by
  have un : ∀ {X : Cx} {pins : List (Addr × Obj)} {σ : St} {H : Hp} {s : Shared} {x : V} {a b : α × β}, Inv X pins σ H s -> rT2 r q X.K H x a -> rT2 r q X.K H x b -> a = b:=by
    rintro X pins σ H s x ⟨a1, a2⟩ ⟨b1, b2⟩ I h1 h2
    obtain ⟨a, x1, x2, rfl, q1, p1, p2⟩:=h1
    obtain ⟨b, y1, y2, e, q2, p3, p4⟩:=h2
    cases e
    cases I.tuple_inj q1 q2
    rw [show a1 = b1 from E.uniq I p1 p3, show a2 = b2 from F.uniq I p2 p4]
  have its : ∀ {X : Cx} {pins : List (Addr × Obj)} {σ : St} {H : Hp} {s : Shared} {x1 x2 y1 y2 : V} {u1 u2 w1 w2 : Value} {a b : α × β} {A : Around}, Inv X pins σ H s -> Yi x1 u1 -> Yi x2 u2 -> Yi y1 w1 -> Yi y2 w2 ->
      r X.K H x1 a.1 -> q X.K H x2 a.2 -> r X.K H y1 b.1 -> q X.K H y2 b.2 -> A.units + (d + 1) < cLine ->
      ∀ j (h1 : j < [u1, u2].toArray.size) (h2 : j < [w1, w2].toArray.size), SeqAt.EqAt A.in1 s [u1, u2].toArray[j] [w1, w2].toArray[j] ((fun j=>if j = 0 then decide (a.1 = b.1) else decide (a.2 = b.2)) j):=by
    intro X pins σ H s x1 x2 y1 y2 u1 u2 w1 w2 a b A I e1 e2 e3 e4 p1 p2 p3 p4 hu j h1 h2
    have hj : j = 0 ∨ j = 1:=by
      have h1' : j < 2:=h1
      omega
    rcases hj with rfl | rfl
    . exact E.eq (A:=A.in1) I e1 e3 p1 p3 (by rw [Vh]; omega)
    . exact F.eq (A:=A.in1) I e2 e4 p2 p4 (by rw [Vh]; omega)
  have rc : ∀ {X : Cx} {pins : List (Addr × Obj)} {σ : St} {H : Hp} {s : Shared} {x y : V} {v u : Value} {a b : α × β} {A : Around}, Inv X pins σ H s -> Yi x v -> Yi y u -> rT2 r q X.K H x a -> rT2 r q X.K H y b -> A.units + (d + 1) < cLine -> SeqAt.RcAt A s v u (decide (a = b)):=by
    rintro X pins σ H s x y v u ⟨a1, a2⟩ ⟨b1, b2⟩ A I rx ry h1 h2 hu
    obtain ⟨a, x1, x2, rfl, q1, p1, p2⟩:=h1
    obtain ⟨b, y1, y2, rfl, q2, p3, p4⟩:=h2
    cases rx; cases ry
    obtain ⟨i1, r1, l1, _⟩:=I.tuple q1
    obtain ⟨i2, r2, l2, _⟩:=I.tuple q2
    obtain ⟨u1, u2, rfl, e1, e2⟩:=Yq.two r1
    obtain ⟨w1, w2, rfl, e3, e4⟩:=Yq.two r2
    have:=SeqAt.RcAt.tuples (A:=A) l1 l2 (by omega) (its (a:=(a1, a2)) (b:=(b1, b2)) I e1 e2 e3 e4 p1 p2 p3 p4 hu)
    rw [← KM]
    simpa [List.range_succ] using this
  refine ⟨un, ?_, rc, ?_, ?_⟩
  . intro X pins σ H s x y v u as bs A I rx ry h1 h2 hu
    obtain ⟨a, x1, x2, rfl, q1, p1, p2⟩:=id h1
    obtain ⟨b, y1, y2, rfl, q2, p3, p4⟩:=id h2
    have R:=rc (A:=A) I rx ry h1 h2 hu
    cases rx; cases ry
    by_cases e : a = b
    . subst e
      rw [decide_eq_true (un I h1 h2)]
      exact SeqAt.EqAt.same _
    . exact SeqAt.EqAt.of_refs e R
  . rintro X pins σ H s x y v u ⟨a1, a2⟩ ⟨b1, b2⟩ A I rx ry h1 h2 hu
    obtain ⟨a, x1, x2, rfl, q1, p1, p2⟩:=h1
    obtain ⟨b, y1, y2, rfl, q2, p3, p4⟩:=h2
    cases rx; cases ry
    obtain ⟨i1, r1, l1, _⟩:=I.tuple q1
    obtain ⟨i2, r2, l2, _⟩:=I.tuple q2
    obtain ⟨u1, u2, rfl, e1, e2⟩:=Yq.two r1
    obtain ⟨w1, w2, rfl, e3, e4⟩:=Yq.two r2
    have:=SeqAt.RcNeAt.tuples (A:=A) l1 l2 (by omega) (its (a:=(a1, a2)) (b:=(b1, b2)) I e1 e2 e3 e4 p1 p2 p3 p4 hu)
    rw [← KM]
    simpa [List.range_succ] using this
  . intro K H H' x as e h
    obtain ⟨a, x1, x2, rfl, q1, p1, p2⟩:=h
    exact ⟨a, x1, x2, rfl, e.seqT q1, E.keep e p1, F.keep e p2⟩
end
section
variable {X : Cx} {α : Type} [DecidableEq α] {r : Enc α} {d : Nat}
noncomputable def IK (K : PySem.W.Frag) (r : Enc α) : R2:=fun x y H Q=>∃ a b, r K H x a /\ r K H y b /\ Q (.bl (decide (a = b))) H
theorem Hd (E : EqOk r d) (hu : X.A.units + d < cLine) : OpR X (compareOp .Eq) (IK X.K r):=by
  intro pins s σ H x y v u Q I rx ry h
  obtain ⟨a, b, h1, h2, q⟩:=h
  exact E.rc (A:=X.A) I rx ry h1 h2 hu _ _ _ _ ⟨.bl _, H, I, rfl, q⟩
theorem K3 : OpR X (binaryOp .FloorDiv) (rI (fun _ j=>0 < j /\ j.natAbs.log2 < 9000) fun i j=>.int (i / j)):=opI fun i j _ _ _ _ _ hc q=>by
  refine floordiv_int (by omega) ?_ (.inl (PyProof.noPylong_of_log2 hc.2))
  rw [Int.fdiv_eq_ediv_of_nonneg i (by omega)]
  exact q
end
end L2
namespace PySem
open Sem (wp)
section
variable {prog : Program} {w : World} {A : Around} {E : Value -> Shared -> Prop} {s : Shared}
end
end PySem
namespace L2
open PySem PySem.Spec PyProof.Rows
theorem U9 {α β : Type} {F : α -> β -> Prop} : ∀ {l : List α} {m : List β} {i : Nat} {b : β}, Paired F l m -> m[i]? = some b -> ∃ a, l[i]? = some a /\ F a b
  | _, _, _, _, .nil, e=>by simp at e
  | _, _, 0, _, .cons r _, e=>by simp at e; subst e; exact ⟨_, rfl, r⟩
  | _, _, i + 1, b, .cons _ t, e=>by
    obtain ⟨a, h1, h2⟩:=U9 (i:=i) (b:=b) t (by simpa using e)
    exact ⟨a, by simpa using h1, h2⟩
section
variable {X : Cx} {e : Expr} {te : TE}
noncomputable def IP (K : PySem.W.Frag) : List V -> Hp -> VK -> Prop:=fun xs H Q=>∃ (a : Addr) (ns : List Int), xs = [.ref a] /\ SqL K H a (ns.map V.int) /\ Q (.int ns.sum) H
theorem Uw (hc : X.calm = true) : QD X (.builtin "sum") (IP X.K):=by
  intro pins s σ H xs us Q I r h
  obtain ⟨a, ns, rfl, hq, q⟩:=h
  obtain ⟨u, rfl, ru⟩:=Fi r
  cases ru
  obtain ⟨its, rv, pl, hz⟩:=I.list hq
  have hi : IntsAre its ns:=GJ rv
  have hlen:=hi.length
  have hlt : a < s.heap.objs.size:=by obtain ⟨o, n, ho, _⟩:=pl; exact Heap.lt_size ho
  refine call_sum_walkG ?_
  refine wpAny_pyIter_list pl.isList ?_
  have W:=Walks.list (prog:=X.prog) (w:=X.w) (A:=X.A.in1) (I.ok.hd hc) s.heap.objs.size a (Nat.ne_of_lt hlt) its.toArray
  refine ⟨s.heap.objs.size, _, _, _, _, _, fun i=>ns.getD i 0, rfl, W, ⟨⟨_, Heap.get?_push_size _ rfl, rfl, rfl⟩, pl.isList.at fun o e=>Heap.get?_push_of_some _ e⟩, fun b hb=>?_, fun i v hv=>?_, fun h' tk t' hk=>?_⟩
  . rcases List.mem_cons.mp hb with e | hb
    . rw [e, Heap.size_push]; exact Nat.lt_succ_self _
    . rw [List.mem_singleton.mp hb, Heap.size_push]; exact Nat.lt_succ_of_lt hlt
  . have hv' : its[i]? = some v := by simpa using hv
    have hil : i < its.length:=(List.getElem?_eq_some_iff.mp hv').1
    obtain ⟨x, ex, rx⟩:=U9 rv hv'
    rw [List.getElem?_map] at ex
    cases e : ns[i]? with
    | none=>rw [e] at ex; cases ex
    | some z=>
      rw [e] at ex
      have ex' : V.int z = x:=Option.some.inj ex
      subst ex'
      obtain ⟨t, rfl⟩:=rx
      exact ⟨t, by simp [List.getD, e]⟩
  . have I2 : Inv X pins σ H { s with heap:=h', toks:=tk }:=I.kept (t':=tk) fun b o e=>hk b o (fun hm=>by
      rw [List.mem_singleton.mp hm] at e
      exact absurd (Heap.lt_size e) (Nat.lt_irrefl _)) (Heap.get?_push_of_some _ e)
    refine ⟨.int ns.sum, H, I2, ⟨t', ?_⟩, q⟩
    rw [List.size_toArray, hlen, preSum_getD, List.take_length]
end
end L2
namespace L2
open PySem PySem.Spec PyProof.Rows
section
variable {X : Cx} {pins : List (Addr × Obj)} {σ : St} {H : Hp} {s : Shared} {h' : Heap}
theorem Inv.turnLay {t' : Nat} {ch : List Addr} {T : Addr} {u : HO} (I : Inv X pins σ H s) (k : ∀ b o, b ∉ ch -> s.heap.get? b = some o -> h'.get? b = some o) (hf : ∀ b ∈ ch, GR X pins H b)
    (hp : s.heap.objs.size <= T) (new : Y5 X.prog X.w (upd H T u) h' T u) : Inv X pins σ (upd H T u) { s with heap:=h', toks:=t' }:=by
  have hn : H T = none:=I.hok.fresh hp
  have nit : ∀ b o, H b = some o -> b ∉ ch:=fun b o e z=>by rw [(hf b z).1] at e; cases e
  refine I.step (g':=s.gens) (d':=s.drawn) (ch:=ch) (fun b hb=>?_) (fun b o _ _ hc e _=>k b o hc e) (fun b o _ _ hc e _=>⟨o.slots, k b o hc e⟩)
    (fun b o _ e n=>by rw [Xq (Nat.ne_of_lt (Nat.lt_of_lt_of_le (Heap.lt_size e) hp))]; exact n)
    (fun b o hc e=>⟨o, k b o hc e⟩) (fun b xs e=>by rw [Xq (XI e hn)]; exact e) (fun b o xs e=>by rw [Xq (XI e hn)]; exact e) (fun b ps e=>⟨#[], by rw [Xq (XI e hn), e]; simp⟩) (fun m hm=>?_) (fun b v e=>?_) I.bare
  . obtain ⟨f0, f1, f2, f3, f4, f5⟩ := hf b hb
    exact ⟨f3, f1, f4, f5⟩
  . obtain ⟨o, es, ep, ho, r⟩ := hm
    exact ⟨o, es, ep, k _ o (fun z=>(hf _ z).2.1 rfl) ho, r⟩
  . by_cases hb : b = T
    . subst hb; rw [Yj] at e; cases e; exact new
    . rw [Xq hb] at e
      refine (I.hok b v e).stay (fun c o hc q=>k c o ?_ q) (fun c q=>by rw [Xq (XI q hn)]; exact q) fun c xs q=>by rw [Xq (XI q hn)]; exact q
      rcases hc with z | z
      . rw [z]; exact nit b v e
      . exact nit c _ z
end
noncomputable def Ite (K : PySem.W.Frag) (a : Addr) : It:=
  ⟨fun i H=>∃ xs x, SqL K H a xs /\ xs[i]? = some x, fun i H y H'=>∃ p x, y = .ref p /\ H p = none /\ H' = upd H p (.tup [.int (i : Int), x]) /\ ∀ xs, SqL K H a xs -> xs[i]? = some x, fun i H=>∃ xs, SqL K H a xs /\ xs.length <= i⟩
theorem FY {P : Program} {w : World} {K : PySem.W.Frag} {elts : List Expr} {k : Nat} {pos : Pos} (a e it : Addr) (h1 : e ≠ it) (h2 : a ≠ e) (h3 : a ≠ it) :
    Turn P w K (.Tuple elts k pos) (Ite K a) [e, it] e (fun i h=>(∃ old, IsEnum h e it (i : Int) old) /\ h.IsListIter it a i) where
  mem:=by simp
  obj:=fun i h st b hb=>by
    obtain ⟨⟨old, eo⟩, o, io, c, d⟩:=st
    rcases List.mem_cons.mp hb with z | z
    . subst z
      exact ⟨_, eo, fun v z=>by cases z⟩
    . have z := List.mem_singleton.mp z
      subst z
      exact ⟨o, io, fun v z=>by rw [d] at z; cases z⟩
  keep:=fun i h h' st k=>⟨let ⟨old, eo⟩:=st.1; ⟨old, k e (by simp) _ eo⟩, st.2.at fun o q=>k it (by simp) o q⟩
  item:=by
    intro X hP hw hK hc i pins s σ H E I hf st hg
    subst hP hw hK
    obtain ⟨xs, x, hq, hx⟩:=hg
    obtain ⟨its, rv, p, hz⟩:=I.list hq
    obtain ⟨u, hu, ru⟩:=rv.get hx
    obtain ⟨⟨old, eo⟩, io⟩:=id st
    have hu' : its.toArray[i]? = some u:=by simpa using hu
    have W:=WalksT.enumerate (prog:=X.prog) (w:=X.w) (A:=X.A) (I.ok.hd hc) e it a h1 h2 h3 its.toArray
    refine wpAny_pyNext_enum_item eo io p.isList hu' h1 fun h' eo' io' tup sz kk=>?_
    have hT : ∀ b o, s.heap.get? b = some o -> s.heap.objs.size ≠ b:=fun b o q z=>absurd (Heap.lt_size q) (by rw [← z]; exact Nat.lt_irrefl _)
    have hTe:=hT e _ eo
    have hTi : s.heap.objs.size ≠ it:=by obtain ⟨o, q, _⟩:=io; exact hT it o q
    have ha' : h'.IsList a its.toArray:=p.isList.at fun o q=>kk a o h2 h3 q
    refine ⟨_, rfl, W.go elts k pos i s.heap.objs.size _ _ _ ⟨⟨_, eo'⟩, io', ha', hTe, hTi⟩ fun h'' st' kk'=>?_⟩
    obtain ⟨st2, io2, _⟩:=st'
    have tup2:=kk' _ _ (by simp [hTe, hTi]) tup
    have k2 : ∀ b o, b ∉ [e, it] -> s.heap.get? b = some o -> h''.get? b = some o:=fun b o q1 q=>kk' b o q1 (kk b o (fun z=>q1 (by simp [z])) (fun z=>q1 (by simp [z])) q)
    refine ⟨.ref s.heap.objs.size, upd H s.heap.objs.size (.tup [.int (i : Int), x]), I.turnLay (h':=h'') (t':=s.toks + 1) k2 hf (Nat.le_refl _) ⟨by show 2 <= sizeLine; decide, [.int (i : Int) s.toks, u], .cons ⟨_, rfl⟩ (.cons ru .nil), ⟨_, tup2, rfl, _, rfl⟩⟩, rfl,
      ⟨_, x, rfl, I.hok.fresh (Nat.le_refl _), rfl, fun ys hy=>by rw [I.list_inj hy hq]; exact hx⟩, ⟨by simpa using st2, io2⟩, fun b hb=>?_⟩
    rcases List.mem_cons.mp hb with z | z
    . rw [z, Xq hTe.symm]; exact (hf e (by simp)).1
    . rw [List.mem_singleton.mp z, Xq hTi.symm]; exact (hf it (by simp)).1
  done:=by
    intro X hP hw hK hc i pins s σ H E I hf st hg
    subst hP hw hK
    obtain ⟨xs, hq, hx⟩:=hg
    obtain ⟨its, rv, p, hz⟩:=I.list hq
    obtain ⟨⟨old, eo⟩, io⟩:=id st
    obtain ⟨f0, f1, f2, f3, f4, f5⟩:=hf it (by simp)
    have hl:=rv.length
    exact wpAny_pyNext_enum_end (I.ok.hd hc) eo io p.isList (by simp; omega) fun h' eb=>⟨rfl, I.turned (t':=s.toks) (fun b o hb q=>eb b o hb q) f0 f1 f3 f4 f5⟩
  self:=by
    intro A i s Q E st h
    obtain ⟨⟨old, eo⟩, io⟩:=st
    exact wpAny_pyIter_enum eo h
section
variable {X : Cx} {elts : List Expr} {k : Nat} {pos0 : Pos}
noncomputable def He (K : PySem.W.Frag) (tl : TE) : TI:=fun σ H R=>tl σ H fun x H1=>∃ a, x = .ref a /\ (∃ xs, SqL K H1 a xs) /\ R (Ite K a) H1
theorem Df {l : Expr} {tl : TE} {p pos : Pos} (hg : Gl X "enumerate") (hm : X.mg "enumerate" = none) (hl : PE X l tl) (hs : starEach [l] X.env = [(false, eval l X.env)]:=by rfl) :
    PI X (.Tuple elts k pos0) (.Call (.Name "enumerate" p) [l] [] pos) (He X.K tl):=by
  intro pins s σ H R I h
  refine wpAny_Call_Name_kw (UQ I hg hm boot_enumerate ?_)
  refine PyProof.Rows.callWith_type1 ?_ hs rfl
  rw [hs]
  show wpAny _ _ (spliced ((false, eval l X.env) :: backTo pos [])) _ _ s
  refine Calls.spliced_cons (thn (hl pins s σ H _ I h) fun v s1 ⟨x, H1, I1, r1, a, ex, ⟨xs, hq⟩, q⟩=>?_)
  subst ex
  cases r1
  obtain ⟨its, rv, pl, hz⟩:=I1.list hq
  refine Calls.spliced_nil ?_
  have hlt : a < s1.heap.objs.size:=by obtain ⟨o, n, ho, _⟩:=pl; exact Heap.lt_size ho
  refine call_enumerate_list pl.isList fun h' en io sz kk=>?_
  refine wpAny_pyIter_enum en ?_
  refine ⟨_, [s1.heap.objs.size + 1, s1.heap.objs.size], _, _, H1, rfl, I1.kept (t':=s1.toks) kk, FY a _ _ (Nat.ne_of_gt (Nat.lt_succ_self _)) (Nat.ne_of_lt (Nat.lt_succ_of_lt hlt)) (Nat.ne_of_lt hlt), ⟨⟨_, en⟩, io⟩, fun b hb=>?_, q⟩
  have hb' : s1.heap.objs.size <= b:=by
    rcases List.mem_cons.mp hb with z | z
    . rw [z]; exact Nat.le_succ _
    . rw [List.mem_singleton.mp z]; exact Nat.le_refl _
  exact I1.fpOk hb' (I1.hok.fresh hb')
end
noncomputable def DH (K : PySem.W.Frag) : V -> List V -> Hp -> VK -> Prop:=fun x vs H Q=>∃ l xs y, ∃ j : Nat, x = .ref l /\ vs = [y] /\ SqL K H l xs /\ Jo y = true /\ xs.all Jo = true /\ (∃ z, xs[j]? = some z /\ eqV z y = true) /\ (∀ (m : Nat) z, m < j -> xs[m]? = some z -> eqV z y = false) /\ Q (.int (j : Int)) H
section
variable {X : Cx}
theorem Cb : MtR X "list.index" (DH X.K):=by
  intro pins s σ H x vs v us Q I rx rv h
  obtain ⟨l, xs, y, j, rfl, rfl, hq, fy, fs, ⟨z, hz, ez⟩, hm, q⟩:=h
  cases rx
  obtain ⟨u, rfl, ry⟩:=Yq.one rv
  obtain ⟨its, r, pl, hle⟩:=I.list hq
  have hl:=r.length
  have hjl:=(List.getElem?_eq_some_iff.mp hz).1
  have ge : ∀ (m : Nat) (w : V), xs[m]? = some w -> ∀ hm : m < its.toArray.size, eqU y its.toArray[m] = eqV w y:=fun m w hw hm=>by
    obtain ⟨u', hu', ru'⟩:=r.get hw
    have e : its.toArray[m] = u':=by
      have:=(List.getElem?_eq_some_iff.mp hu').2
      simpa using this
    rw [e]
    exact Fa ru' (List.all_eq_true.mp fs w (List.mem_of_getElem? hw))
  obtain ⟨o, n, ho, hc, hd, hs⟩:=id pl
  obtain ⟨cls, dict, data, slots⟩:=o
  cases hc; cases hd; cases hs
  refine call_meets F.slot_list_index ⟨_, ho, rfl⟩ F.entry_list_index (F.args_list_index_2 _ _) (SeqAt.list_indexAt l its.toArray n none slots u (eqU y) j (by rw [List.size_toArray]; omega) ?_ ?_ ?_) ⟨ho, fun w hw=>Jt ry fy r fs w (by simpa using hw), ?_⟩
  . have : sizeLine < 2 ^ 63 - 1 := by decide
    omega
  . rw [ge j z hz]; exact ez
  . intro m hm' hlt
    rw [ge m xs[m] (List.getElem?_eq_getElem (by omega))]
    exact hm m _ hlt (List.getElem?_eq_getElem (by omega))
  . exact ⟨.int (j : Int), H, I.tok _, ⟨_, rfl⟩, q⟩
end
section
variable {α : Type} [DecidableEq α] {r : Enc α} {d : Nat}
end
end L2
namespace L2
open PySem PySem.Spec PyProof.Rows
section
variable {X : Cx} {o e f : Expr} {td ty tx : TE} {apos cpos : Pos}
end
end L2
namespace L2
open PySem PySem.Spec PyProof.Rows
section
variable {X : Cx} {elt tg iter : Expr} {ifs : List Expr} {scope sc : Scope} {pos : Pos} {n : Nat} {tns : List Str} {caps : List (Nat × Str)} {wi : TI} {g : TG} {tt : TT} {te : TE}
end
end L2
namespace L2
open PySem PySem.Spec PyProof.Rows
variable {X : Cx}
end L2
namespace L2
open PySem PySem.Spec PyProof.Rows
theorem GT {l : List Expr} {p : Pos} {es : List Expr} {env : Env} : starEach (.List l p :: es) env = (false, eval (.List l p) env) :: starEach es env:=rfl
end L2
namespace L2
open PySem PySem.Spec PyProof.Rows
theorem DJ {X : Cx} (K : PySem.W.Frag) (h : X.K = K) : MtR X "list.index" (DH K):=by subst h; exact Cb
end L2
namespace L2
open PySem PySem.Spec PyProof.Rows
variable {X : Cx} {o e : Expr} {es : List Expr} {to : TE} {t : TA} {name : Str} {apos cpos : Pos} {T id : String} {r : V -> List V -> Hp -> VK -> Prop}
theorem HQ (K : PySem.W.Frag) (hK : X.K = K) (pa : PlainAttrs T) (slot : Slot T name id) (hty : typeOf (.builtin id) = pure (.type "method_descriptor")) (hm : MtR X id r) (ho : PE X o to) (ha : PA X (e :: es) t)
    (hbase : attributeBase o name X.env (eval o X.env) = eval o X.env:=by rfl)
    (hfew : ((backTo cpos (starEach (e :: es) X.env)).all (fun x=>!x.1) && (backToKw cpos (keywordEach [] X.env)).all (fun x=>x.1.isSome)
      && decide ((e :: es).length + ([] : List Keyword).length + (if ([] : List Keyword).isEmpty then 0 else 1) < 30)) = true:=by rfl)
    (hline : (apos.endLine == cpos.line) = true:=by rfl) (hs : starEach (e :: es) X.env = (false, eval e X.env) :: starEach es X.env:=by rfl) (hplain : (backTo cpos (starEach es X.env)).any (·.1) = false:=by rfl) :
    PE X (.Call (.Attribute o name apos) (e :: es) [] cpos) (tBM K T r to t):=by
  subst hK
  exact ZR pa slot hty hm ho ha hbase hfew hline hs hplain
end L2
namespace PySem
open PySem.Spec
namespace SeqAt
open MeetsSeq
end SeqAt
end PySem
namespace L2
open PySem PySem.Spec PyProof.Rows
section
variable {X : Cx}
end
end L2
namespace L2
open PySem PySem.Spec PyProof.Rows
noncomputable def IH (K : PySem.W.Frag) : List V -> Hp -> VK -> Prop:=fun xs H Q=>∃ (a : Addr) (bs : List Bool), xs = [.ref a] /\ SqL K H a (bs.map V.bl) /\ Q (.bl (bs.all id)) H
section
variable {X : Cx}
theorem ES : ∀ (bs : List Bool), ((List.range bs.length).all fun i=>(bs[i]?).getD true) = bs.all id:=fun bs=>by
  rw [Bool.eq_iff_iff, List.all_eq_true, List.all_eq_true]
  constructor
  . intro h b hb
    obtain ⟨i, hi, rfl⟩:=List.getElem_of_mem hb
    have:=h i (List.mem_range.mpr hi)
    simpa [List.getElem?_eq_getElem hi] using this
  . intro h i hi
    have hi':=List.mem_range.mp hi
    simpa [List.getElem?_eq_getElem hi'] using h _ (List.getElem_mem hi')
theorem DN (hc : X.calm = true) : QD X (.builtin "all") (IH X.K):=by
  intro pins s σ H xs us Q I r h
  obtain ⟨a, bs, rfl, hq, q⟩:=h
  obtain ⟨u, rfl, ru⟩:=Fi r
  cases ru
  obtain ⟨its, rv, pl, hz⟩:=I.list hq
  have hlen : bs.length = its.length:=by have:=rv.length; rwa [List.length_map] at this
  have hlt : a < s.heap.objs.size:=by obtain ⟨o, n, ho, _⟩:=pl; exact Heap.lt_size ho
  refine call_all_walk (wpAny_pyIter_list pl.isList ?_)
  refine ⟨s.heap.objs.size, [s.heap.objs.size, a], [s.heap.objs.size], its.toArray.size, _, _, fun i=>(bs[i]?).getD true, rfl, Walks.list (A:=X.A.in1) (I.ok.hd hc) _ a (Nat.ne_of_lt hlt) its.toArray,
    ⟨⟨_, Heap.get?_push_size _ rfl, rfl, rfl⟩, pl.isList.at fun o e=>Heap.get?_push_of_some _ e⟩, fun i v s' Q' E' hP hQ=>?_, fun h' tk hk=>?_⟩
  . have hv' : its[i]? = some v := by simpa using hP
    obtain ⟨x, ex, rx⟩:=U9 rv hv'
    rw [List.getElem?_map] at ex
    cases e : bs[i]? with
    | none=>rw [e] at ex; cases ex
    | some z=>
      rw [e] at ex
      have ex' : V.bl z = x:=Option.some.inj ex
      subst ex'
      cases rx
      simp only [e, Option.getD_some] at hQ
      exact wpAny_truthy_bool hQ
  . have e : ((List.range its.toArray.size).all fun i=>(bs[i]?).getD true) = bs.all id:=by
      rw [List.size_toArray, ← hlen]; exact ES bs
    rw [e]
    have I2 : Inv X pins σ H { s with heap:=h', toks:=tk }:=I.kept (t':=tk) fun b o e=>hk b o (fun hm=>by
      rw [List.mem_singleton.mp hm] at e
      exact absurd (Heap.lt_size e) (Nat.lt_irrefl _)) (Heap.get?_push_of_some _ e)
    exact ⟨.bl (bs.all id), H, I2, rfl, q⟩
end
end L2
namespace L2
open PySem PySem.Spec PyProof.Rows
section
variable {X : Cx} {α : Type} [DecidableEq α] {r : Enc α} {d : Nat}
end
section
variable {X : Cx}
end
section
variable {X : Cx}
variable {T : String} {name : Str} {id : String} {r : V -> List V -> Hp -> VK -> Prop} {o e : Expr} {es : List Expr} {to : TE} {t : TA} {apos cpos : Pos}
theorem EX {K : PySem.W.Frag} (hK : X.K = K) (pa : PlainAttrs T) (slot : Slot T name id) (hty : typeOf (.builtin id) = pure (.type "method_descriptor")) (hm : MtR X id r) (ho : PE X o to) (ha : PA X (e :: es) t)
    (hbase : attributeBase o name X.env (eval o X.env) = eval o X.env:=by rfl)
    (hfew : ((backTo cpos (starEach (e :: es) X.env)).all (fun x=>!x.1) && (backToKw cpos (keywordEach [] X.env)).all (fun x=>x.1.isSome)
      && decide ((e :: es).length + ([] : List Keyword).length + (if ([] : List Keyword).isEmpty then 0 else 1) < 30)) = true:=by rfl)
    (hline : (apos.endLine == cpos.line) = true:=by rfl) (hs : starEach (e :: es) X.env = (false, eval e X.env) :: starEach es X.env:=by rfl) (hplain : (backTo cpos (starEach es X.env)).any (·.1) = false:=by rfl) :
    PE X (.Call (.Attribute o name apos) (e :: es) [] cpos) (tBM K T r to t):=HQ K hK pa slot hty hm ho ha hbase hfew hline hs hplain
end
section
variable {X : Cx} {elt tg iter : Expr} {ifs : List Expr} {scope : Scope} {pos : Pos} {wi : TI} {g : TG} {tt : TT} {te : TE}
theorem YU {sc : Scope} {N0 : List Str} {tns : List Str} {caps : List (Nat × Str)} (hc : X.calm = true) (hi : PI X tg iter wi) (hG : Gm tns.length g)
    (hb : ∀ cl C s H ex E, PG (X.comp (tns ++ caps.map (·.2)) scope cl C s H ex E) tg g /\ PTs (X.comp (tns ++ caps.map (·.2)) scope cl C s H ex E) ifs tt /\ PE (X.comp (tns ++ caps.map (·.2)) scope cl C s H ex E) elt te)
    (hsc : X.env.scope = sc:=by rfl) (hN0 : X.N = N0:=by rfl) (ok : JB sc scope N0 tns caps = true:=by decide +kernel)
    (hs : ∀ x, foldedSetIterable iter X.env x = pure x:=by intro _; rfl) :
    PE X (.ListComp elt [⟨tg, iter, ifs, 0⟩] scope pos) (Fe tns.length caps wi g tt te):=Es sc N0 tns caps hc hi hG hb hsc hN0 ok hs
end
section
variable {X : Cx} {tg l : Expr} {tl : TE} {p pos : Pos} {K : PySem.W.Frag}
theorem XR (h : X.K = K) (hl : PE X l tl) : PI X tg l (B8 K tl):=by subst h; exact BW hl
end
end L2
namespace L2
open PySem PySem.Spec PyProof.Rows
section
variable {X : Cx}
end
end L2
namespace L2
open PySem PySem.Spec PyProof.Rows
inductive Pay where
  | non | int (i : Int) | tag (t : Str) (xs : List Int)
  deriving DecidableEq
structure Exc where
  cls : Str
  pay : Pay
inductive Rs (α : Type) where
  | bad | err (x : Exc) | ok (a : α)
noncomputable def Rs.bind {α β : Type} : Rs α -> (α -> Rs β) -> Rs β
  | .bad, _=>.bad
  | .err x, _=>.err x
  | .ok a, f=>f a
theorem Rs.ok_bind {α β : Type} (a : α) (f : α -> Rs β) : (Rs.ok a).bind f = f a:=rfl
noncomputable def chk {α : Type} (c : Prop) [Decidable c] (m : Rs α) : Rs α:=if c then m else .bad
theorem Xw {α : Type} {c : Prop} [Decidable c] {m : Rs α} (h : c) : chk c m = m:=if_pos h
noncomputable abbrev XF:=Addr × HO
noncomputable def EN : HO -> Bool
  | .lst _=>true
  | .dK _=>true
  | .dT _=>true
  | _=>false
noncomputable def fl (OO : List (List XF)) : List Addr:=OO.flatten.map (·.1)
open Classical in
noncomputable def hid (H : Hp) (OO : List (List XF)) : Hp:=fun b=>if b ∈ fl OO then none else H b
structure W (OO : List (List XF)) (H : Hp) : Prop where
  tr : ∀ c ∈ OO.flatten, H c.1 = some c.2
  nd : (fl OO).Nodup
  mu : ∀ c ∈ OO.flatten, EN c.2 = true
theorem XX {H : Hp} {OO} {b : Addr} {o : HO} (h : hid H OO b = some o) : H b = some o /\ b ∉ fl OO:=by
  unfold hid at h
  split at h
  . cases h
  . exact ⟨h, by assumption⟩
theorem Zp {H : Hp} {OO} {b : Addr} {o : HO} (h : H b = some o) (n : b ∉ fl OO) : hid H OO b = some o:=by
  unfold hid; rw [if_neg n]; exact h
theorem Xt {H : Hp} {OO} : Xu (hid H OO) H:=fun b o h=>(XX h).1
theorem Xj {H H' : Hp} {OO} (s : Xu H H') : Xu (hid H OO) (hid H' OO):=fun b o h=>Zp (s _ _ (XX h).1) (XX h).2
theorem Qs {H H' : Hp} {OO OO'} (s : Xu H H') (h : ∀ b, b ∈ fl OO' -> b ∈ fl OO) : Xu (hid H OO) (hid H' OO'):=fun b o q=>Zp (s _ _ (XX q).1) fun z=>(XX q).2 (h b z)
theorem X2 {C : List XF} {OO} : fl (C :: OO) = C.map (·.1) ++ fl OO:=by simp [fl]
theorem DL {OO} : fl ([] :: OO) = fl OO:=by simp [fl]
theorem Zh {H : Hp} {OO} : hid H ([] :: OO) = hid H OO:=by unfold hid; rw [DL]
theorem W.keep {OO} {H H' : Hp} (w : W OO H) (s : Xu H H') : W OO H':=⟨fun c hc=>s _ _ (w.tr c hc), w.nd, w.mu⟩
theorem W.of {OO OO' : List (List XF)} {H : Hp} (w : W OO H) (h : OO'.flatten.Perm OO.flatten) : W OO' H:=
  ⟨fun c hc=>w.tr c (h.mem_iff.mp hc), (h.map _).nodup_iff.mpr w.nd, fun c hc=>w.mu c (h.mem_iff.mp hc)⟩
theorem W.sub {OO OO' : List (List XF)} {H : Hp} (w : W OO H) (h : OO'.flatten.Sublist OO.flatten) : W OO' H:=
  ⟨fun c hc=>w.tr c (h.mem hc), (h.map _).nodup w.nd, fun c hc=>w.mu c (h.mem hc)⟩
theorem W.tail {C OO} {H : Hp} (w : W (C :: OO) H) : W OO H:=w.sub (by simp)
theorem W.nil {OO} {H : Hp} (w : W OO H) : W ([] :: OO) H:=w.of (by simp)
theorem W.cell {C OO} {H : Hp} (w : W (C :: OO) H) : ∀ c ∈ C, H c.1 = some c.2:=fun c hc=>w.tr c (by simp [hc])
theorem Q5 {OO : List (List XF)} {c : XF} (h : c ∈ OO.flatten) : c.1 ∈ fl OO:=List.mem_map.mpr ⟨c, h, rfl⟩
theorem Fo {OO : List (List XF)} {b : Addr} (h : b ∈ fl OO) : ∃ o, (b, o) ∈ OO.flatten:=by
  obtain ⟨⟨a, o⟩, hc, rfl⟩:=List.mem_map.mp h
  exact ⟨o, hc⟩
theorem W.fresh {OO} {H : Hp} (w : W OO H) {p : Addr} (h : H p = none) : p ∉ fl OO:=fun z=>by
  obtain ⟨o, ho⟩:=Fo z
  have:=w.tr _ ho
  rw [h] at this; cases this
theorem W.new {OO} {H : Hp} (w : W OO H) {p : Addr} (h : H p = none) {o : HO} (m : EN o = true) : W ([(p, o)] :: OO) (upd H p o):=by
  have hf:=w.fresh h
  refine ⟨fun c hc=>?_, ?_, fun c hc=>?_⟩
  . simp only [List.flatten_cons, List.cons_append, List.nil_append, List.mem_cons] at hc
    rcases hc with rfl | hc
    . exact Yj
    . rw [Xq (fun e=>hf (by rw [← e]; exact Q5 hc))]; exact w.tr c hc
  . rw [X2]; simpa using ⟨hf, w.nd⟩
  . simp only [List.flatten_cons, List.cons_append, List.nil_append, List.mem_cons] at hc
    rcases hc with rfl | hc
    . exact m
    . exact w.mu c hc
theorem QC {OO} {H : Hp} {p : Addr} (h : H p = none) {o : HO} : Xu (hid H OO) (hid (upd H p o) ([(p, o)] :: OO)):=fun b u q=>by
  obtain ⟨q1, q2⟩:=XX q
  have hb : b ≠ p:=XI q1 h
  refine Zp (by rw [Xq hb]; exact q1) ?_
  rw [X2]; simpa using ⟨hb, q2⟩
theorem ZA {OO} {H : Hp} (w : W OO H) {p : Addr} (h : H p = none) {o : HO} : hid (upd H p o) OO p = some o:=Zp Yj (w.fresh h)
class MonoE {α : Type} (r : Enc α) : Prop where
  mono : ∀ {K : PySem.W.Frag} {H H' : Hp} {v : V} {a : α}, Xu H H' -> r K H v a -> r K H' v a
noncomputable def ID : HO -> Bool
  | .tup _=>true
  | .frz _ _=>true
  | _=>false
noncomputable def Jl (H H' : Hp) : Prop:=∀ b o, H b = some o -> ID o = true -> H' b = some o
theorem Xu.i {H H' : Hp} (s : Xu H H') : Jl H H':=fun b o h _=>s b o h
theorem W.i {OO} {H : Hp} (w : W OO H) : Jl H (hid H OO):=fun b o h i=>Zp h fun z=>by
  obtain ⟨u, hu⟩:=Fo z
  have h1:=w.tr _ hu
  have h2:=w.mu _ hu
  rw [h] at h1
  have e : o = u:=Option.some.inj h1
  subst e
  revert i h2; cases o <;> simp [ID, EN]
theorem Jl.trans {H H1 H2 : Hp} (a : Jl H H1) (b : Jl H1 H2) : Jl H H2:=fun c o h i=>b c o (a c o h i) i
class FlatE {α : Type} (r : Enc α) : Prop where
  flat : ∀ {K : PySem.W.Frag} {H H' : Hp} {v : V} {a : α}, Jl H H' -> r K H v a -> r K H' v a
instance {α : Type} {r : Enc α} [f : FlatE r] : MonoE r:=⟨fun s h=>f.flat s.i h⟩
theorem Jl.seqT {K : PySem.W.Frag} {H H' : Hp} {a : Addr} {xs : List V} (e : Jl H H') (h : SqT K H a xs) : SqT K H' a xs:=by
  rcases h with (h | ⟨o, h⟩) | h
  . exact .inl (.inl (e _ _ h rfl))
  . exact .inl (.inr ⟨o, e _ _ h rfl⟩)
  . exact .inr h
noncomputable def Ym : Enc Bool:=fun _ _ v b=>v = .bl b
noncomputable def rV {α : Type} (r : Enc α) : Enc (List α):=fun K H v as=>∃ a xs, v = .ref a /\ H a = some (.lst xs) /\ Paired (r K H) xs as
noncomputable def rP2 {α β : Type} (r : Enc α) (q : Enc β) : Enc (α × β):=fun K H v p=>∃ a x y, v = .ref a /\ H a = some (.tup [x, y]) /\ r K H x p.1 /\ q K H y p.2
noncomputable def rP3 {α β γ : Type} (r : Enc α) (q : Enc β) (t : Enc γ) : Enc (α × β × γ):=fun K H v p=>∃ a x y z, v = .ref a /\ H a = some (.tup [x, y, z]) /\ r K H x p.1 /\ q K H y p.2.1 /\ t K H z p.2.2
instance {α : Type} {r : Enc α} [m : MonoE r] : MonoE (rV r):=⟨fun s r9=>by obtain ⟨a, xs, e, q, p⟩:=r9; exact ⟨a, xs, e, s _ _ q, Paired.imp2 (fun _ _ z=>m.mono s z) p⟩⟩
instance {α β : Type} {r : Enc α} {q : Enc β} [m : MonoE r] [n : MonoE q] : MonoE (rP2 r q):=⟨fun s r9=>by obtain ⟨a, x, y, e, h, p1, p2⟩:=r9; exact ⟨a, x, y, e, s _ _ h, m.mono s p1, n.mono s p2⟩⟩
instance {α β : Type} {r : Enc α} {q : Enc β} [m : FlatE r] [n : FlatE q] : FlatE (rP2 r q):=⟨fun s r9=>by obtain ⟨a, x, y, e, h, p1, p2⟩:=r9; exact ⟨a, x, y, e, s _ _ h rfl, m.flat s p1, n.flat s p2⟩⟩
instance {α β γ : Type} {r : Enc α} {q : Enc β} {t : Enc γ} [m : MonoE r] [n : MonoE q] [k : MonoE t] : MonoE (rP3 r q t):=⟨fun s r9=>by obtain ⟨a, x, y, z, e, h, p1, p2, p3⟩:=r9; exact ⟨a, x, y, z, e, s _ _ h, m.mono s p1, n.mono s p2, k.mono s p3⟩⟩
instance {α β γ : Type} {r : Enc α} {q : Enc β} {t : Enc γ} [m : FlatE r] [n : FlatE q] [k : FlatE t] : FlatE (rP3 r q t):=⟨fun s r9=>by obtain ⟨a, x, y, z, e, h, p1, p2, p3⟩:=r9; exact ⟨a, x, y, z, e, s _ _ h rfl, m.flat s p1, n.flat s p2, k.flat s p3⟩⟩
instance : FlatE Xa:=⟨fun _ h=>h⟩
instance : FlatE Ym:=⟨fun _ h=>h⟩
instance {α : Type} {r : Enc α} [m : MonoE r] : MonoE (rL r):=⟨fun s r9=>by obtain ⟨a, xs, e, q, p⟩:=r9; exact ⟨a, xs, e, s.seq q, Paired.imp2 (fun _ _ z=>m.mono s z) p⟩⟩
noncomputable abbrev OE (α : Type):=PySem.W.Frag -> Hp -> V -> α -> List XF -> Prop
inductive P3 {α β γ : Type} (F : α -> β -> γ -> Prop) : List α -> List β -> List γ -> Prop where
  | nil : P3 F [] [] []
  | cons {a b c l m n} : F a b c -> P3 F l m n -> P3 F (a :: l) (b :: m) (c :: n)
noncomputable def oF {α : Type} (r : Enc α) : OE α:=fun K h v a C=>C = [] /\ r K h v a
noncomputable def oL {α : Type} (o : OE α) : OE (List α):=fun K h v as C=>∃ p xs Cs, v = .ref p /\ P3 (o K h) xs as Cs /\ C = (p, .lst xs) :: Cs.flatten
noncomputable def oT2 {α β : Type} (o : OE α) (q : OE β) : OE (α × β):=fun K h v a C=>∃ p x y C1 C2, v = .ref p /\ h p = some (.tup [x, y]) /\ o K h x a.1 C1 /\ q K h y a.2 C2 /\ C = C1 ++ C2
section
variable {α β γ δ : Type}
theorem P3.imp {F G : α -> β -> γ -> Prop} (h : ∀ a b c, F a b c -> G a b c) : ∀ {l m n}, P3 F l m n -> P3 G l m n:=fun p=>by
  induction p with
  | nil=>exact .nil
  | cons r _ ih=>exact .cons (h _ _ _ r) ih
theorem P3.app {F : α -> β -> γ -> Prop} : ∀ {l m n l' m' n'}, P3 F l m n -> P3 F l' m' n' -> P3 F (l ++ l') (m ++ m') (n ++ n'):=fun p h=>by
  induction p with
  | nil=>exact h
  | cons r _ ih=>exact .cons r ih
theorem P3.snoc {F : α -> β -> γ -> Prop} {l m n a b c} (h : P3 F l m n) (r : F a b c) : P3 F (l ++ [a]) (m ++ [b]) (n ++ [c]):=h.app (.cons r .nil)
theorem P3.len {F : α -> β -> γ -> Prop} : ∀ {l m n}, P3 F l m n -> l.length = m.length /\ n.length = m.length:=fun p=>by
  induction p with
  | nil=>exact ⟨rfl, rfl⟩
  | cons _ _ ih=>exact ⟨congrArg Nat.succ ih.1, congrArg Nat.succ ih.2⟩
theorem P3.pair {F : α -> β -> γ -> Prop} {G : α -> β -> Prop} : ∀ {l m n}, P3 F l m n -> (∀ a b c, c ∈ n -> F a b c -> G a b) -> Paired G l m:=fun p h=>by
  induction p with
  | nil=>exact .nil
  | cons r _ ih=>exact .cons (h _ _ _ List.mem_cons_self r) (ih fun a b c hc=>h a b c (List.mem_cons_of_mem _ hc))
theorem P3.get {F : α -> β -> γ -> Prop} : ∀ {l m n} {i : Nat} {b : β}, P3 F l m n -> m[i]? = some b -> ∃ a c, l[i]? = some a /\ n[i]? = some c /\ F a b c
  | _, _, _, _, _, .nil, e=>by simp at e
  | _, _, _, 0, _, .cons r _, e=>by simp at e; subst e; exact ⟨_, _, rfl, rfl, r⟩
  | _, _, _, i + 1, b, .cons _ t, e=>by
    obtain ⟨a, c, h1, h2, h3⟩:=P3.get (i:=i) (b:=b) t (by simpa using e)
    exact ⟨a, c, by simpa using h1, by simpa using h2, h3⟩
theorem P3.set {F : α -> β -> γ -> Prop} {a : α} {b : β} {c : γ} (r : F a b c) : ∀ {l m n} (i : Nat), P3 F l m n -> P3 F (l.set i a) (m.set i b) (n.set i c)
  | _, _, _, _, .nil=>.nil
  | _, _, _, 0, .cons _ t=>.cons r t
  | _, _, _, i + 1, .cons q t=>.cons q (P3.set r i t)
theorem P3.flat {F : α -> β -> Prop} : ∀ {l : List α} {m : List β} {n : List (List XF)}, P3 (fun a b c=>c = [] /\ F a b) l m n -> Paired F l m /\ n.flatten = []:=fun p=>by
  induction p with
  | nil=>exact ⟨.nil, rfl⟩
  | cons r _ ih=>exact ⟨.cons r.2 ih.1, by rw [List.flatten_cons, r.1, ih.2]; rfl⟩
theorem P3.of {F : α -> β -> Prop} : ∀ {l : List α} {m : List β}, Paired F l m -> P3 (fun a b (c : List XF)=>c = [] /\ F a b) l m (List.replicate m.length [])
  | _, _, .nil=>.nil
  | _, _, .cons r t=>.cons ⟨rfl, r⟩ (P3.of t)
theorem YI : ∀ n : Nat, (List.replicate n ([] : List XF)).flatten = []
  | 0=>rfl
  | n + 1=>by simp [List.replicate_succ, YI n]
end
class MonoO {α : Type} (o : OE α) : Prop where
  mono : ∀ {K : PySem.W.Frag} {H H' : Hp} {v : V} {a : α} {C : List XF}, Xu H H' -> o K H v a C -> o K H' v a C
class FlatO {α : Type} (o : OE α) : Prop where
  flat : ∀ {K : PySem.W.Frag} {H H' : Hp} {v : V} {a : α} {C : List XF}, Jl H H' -> o K H v a C -> o K H' v a C
class FrzC {α : Type} (o : OE α) (r : outParam (Enc α)) : Prop where
  frz : ∀ {K : PySem.W.Frag} {H H' : Hp} {v : V} {a : α} {C : List XF}, o K H v a C -> Xu H H' -> (∀ c ∈ C, H' c.1 = some c.2) -> r K H' v a
instance {α : Type} {r : Enc α} [m : MonoE r] : MonoO (oF r):=⟨fun s h=>⟨h.1, m.mono s h.2⟩⟩
instance {α : Type} {r : Enc α} [m : FlatE r] : FlatO (oF r):=⟨fun s h=>⟨h.1, m.flat s h.2⟩⟩
instance {α : Type} {r : Enc α} [m : MonoE r] : FrzC (oF r) r:=⟨fun h s _=>m.mono s h.2⟩
instance {α : Type} {o : OE α} [m : MonoO o] : MonoO (oL o):=⟨fun s r9=>by obtain ⟨p, xs, Cs, e, q, c⟩:=r9; exact ⟨p, xs, Cs, e, q.imp fun _ _ _ z=>m.mono s z, c⟩⟩
instance {α : Type} {o : OE α} [m : FlatO o] : FlatO (oL o):=⟨fun s r9=>by obtain ⟨p, xs, Cs, e, q, c⟩:=r9; exact ⟨p, xs, Cs, e, q.imp fun _ _ _ z=>m.flat s z, c⟩⟩
instance {α : Type} {o : OE α} {r : Enc α} [m : FrzC o r] : FrzC (oL o) (rV r):=⟨fun ⟨p, xs, Cs, e, q, c⟩ s hc=>by
  subst c
  exact ⟨p, xs, e, hc _ List.mem_cons_self, q.pair fun a b c hm z=>m.frz z s fun x hx=>hc x (List.mem_cons_of_mem _ (List.mem_flatten.mpr ⟨c, hm, hx⟩))⟩⟩
instance {α β : Type} {o : OE α} {q : OE β} [m : MonoO o] [n : MonoO q] : MonoO (oT2 o q):=⟨fun s r9=>by obtain ⟨p, x, y, C1, C2, e, h, h1, h2, c⟩:=r9; exact ⟨p, x, y, C1, C2, e, s _ _ h, m.mono s h1, n.mono s h2, c⟩⟩
instance {α β : Type} {o : OE α} {q : OE β} [m : FlatO o] [n : FlatO q] : FlatO (oT2 o q):=⟨fun s r9=>by obtain ⟨p, x, y, C1, C2, e, h, h1, h2, c⟩:=r9; exact ⟨p, x, y, C1, C2, e, s _ _ h rfl, m.flat s h1, n.flat s h2, c⟩⟩
instance {α β : Type} {o : OE α} {q : OE β} {r : Enc α} {t : Enc β} [m : FrzC o r] [n : FrzC q t] : FrzC (oT2 o q) (rP2 r t):=⟨fun ⟨p, x, y, C1, C2, e, h, h1, h2, c⟩ s hc=>by
  subst c
  exact ⟨p, x, y, e, s _ _ h, m.frz h1 s fun c hm=>hc c (by simp [hm]), n.frz h2 s fun c hm=>hc c (by simp [hm])⟩⟩
structure SC where
  p : Hp -> Prop
  mono : ∀ h h', Xu h h' -> p h -> p h'
noncomputable def SC.nil : SC:=⟨fun _=>True, fun _ _ _ _=>True.intro⟩
noncomputable def SC.and (S T : SC) : SC:=⟨fun h=>S.p h /\ T.p h, fun _ _ s q=>⟨S.mono _ _ s q.1, T.mono _ _ s q.2⟩⟩
noncomputable def SC.one {α : Type} (K : PySem.W.Frag) (r : Enc α) [m : MonoE r] (v : V) (a : α) : SC:=⟨fun h=>r K h v a, fun _ _ s q=>m.mono s q⟩
noncomputable def SC.oneO {α : Type} (K : PySem.W.Frag) (o : OE α) [m : MonoO o] (v : V) (a : α) (C : List XF) : SC:=⟨fun h=>o K h v a C, fun _ _ s q=>m.mono s q⟩
noncomputable abbrev SC.add {α : Type} (S : SC) (K : PySem.W.Frag) (r : Enc α) [m : MonoE r] (v : V) (a : α) : SC:=S.and (SC.one K r v a)
noncomputable abbrev SC.addO {α : Type} (S : SC) (K : PySem.W.Frag) (o : OE α) [m : MonoO o] (v : V) (a : α) (C : List XF) : SC:=S.and (SC.oneO K o v a C)
theorem SC.l {S T : SC} {h : Hp} (q : (S.and T).p h) : S.p h:=q.1
theorem SC.r {S T : SC} {h : Hp} (q : (S.and T).p h) : T.p h:=q.2
theorem SC.i {S T : SC} {h : Hp} (q : S.p h) (p : T.p h) : (S.and T).p h:=⟨q, p⟩
theorem SC.t {h : Hp} : SC.nil.p h:=True.intro
theorem SC.p.l {S T : SC} {h : Hp} (q : (S.and T).p h) : S.p h:=q.1
theorem SC.p.r {S T : SC} {h : Hp} (q : (S.and T).p h) : T.p h:=q.2
noncomputable def PZ {β : Type} (Er : Exc -> Hp -> Prop) (F : β -> Hp -> Prop) (H : Hp) (m : Rs β) : Prop:=
  match m with
  | .bad=>False
  | .err x=>∀ H', Xu H H' -> Er x H'
  | .ok b=>F b H
section
variable (K : PySem.W.Frag) (Er : Exc -> Hp -> Prop) (S : SC) (OO OO' : List (List XF)) (σ : St)
noncomputable def FB {α : Type} (r : Enc α) (Q : VK) (a : α) (H : Hp) : Prop:=∀ v H', Xu H H' -> r K H' v a -> Q v H'
noncomputable def FO {α : Type} (o : OE α) (Q : VK) (a : α) (H : Hp) : Prop:=∀ v C H', Xu H H' -> W (C :: OO') H' -> Xu (hid H OO) (hid H' (C :: OO')) -> o K (hid H' (C :: OO')) v a C -> Q v H'
noncomputable def FT (Q : Bool -> Hp -> Prop) (b : Bool) (H : Hp) : Prop:=∀ H', Xu H H' -> Q b H'
noncomputable def EvB {α : Type} (te : TE) (r : Enc α) (m : Rs α) : Prop:=∀ H Q, W OO H -> S.p (hid H OO) -> PZ Er (FB K r Q) H m -> te σ H Q
noncomputable def Ev {α : Type} (te : TE) (o : OE α) (m : Rs α) : Prop:=∀ H Q, W OO H -> S.p (hid H OO) -> PZ Er (FO K OO OO' o Q) H m -> te σ H Q
noncomputable def EvT (tt : TT) (m : Rs Bool) : Prop:=∀ H Q, W OO H -> S.p (hid H OO) -> PZ Er (FT Q) H m -> tt σ H Q
end
section
variable {K : PySem.W.Frag} {Er : Exc -> Hp -> Prop} {S : SC} {OO OO' OO2 : List (List XF)} {σ : St} {α β γ : Type}
theorem FB.tr {r : Enc α} {Q : VK} : ∀ a H H', Xu H H' -> FB K r Q a H -> FB K r Q a H':=fun a H H' s h v H2 s2 q=>h v H2 (s.trans s2) q
theorem FO.tr {o : OE α} {Q : VK} : ∀ a H H', Xu H H' -> FO K OO OO' o Q a H -> FO K OO OO' o Q a H':=fun a H H' s h v C H2 s2 w m q=>h v C H2 (s.trans s2) w ((Xj s).trans m) q
theorem FT.tr {Q : Bool -> Hp -> Prop} : ∀ b H H', Xu H H' -> FT Q b H -> FT Q b H':=fun a H H' s h H2 s2=>h H2 (s.trans s2)
theorem EvB.run {te : TE} {r : Enc α} {m : Rs α} (he : EvB K Er S OO σ te r m) {H : Hp} {Q : VK} (w : W OO H) (s : S.p (hid H OO)) {f : α -> Rs β} {F : β -> Hp -> Prop} (hF : ∀ b H H', Xu H H' -> F b H -> F b H') (P : PZ Er F H (m.bind f))
    (hk : ∀ a v H', Xu H H' -> W OO H' -> S.p (hid H' OO) -> r K H' v a -> PZ Er F H' (f a) -> Q v H') : te σ H Q:=by
  refine he H Q w s ?_
  cases m with
  | bad=>exact P
  | err x=>exact P
  | ok a=>
    intro v H' s' hr
    refine hk a v H' s' (w.keep s') (S.mono _ _ (Xj s') s) hr ?_
    have P' : PZ Er F H (f a):=P
    revert P'
    cases f a with
    | bad=>exact fun z=>z
    | err x=>exact fun z H2 s2=>z H2 (s'.trans s2)
    | ok b=>exact fun z=>hF b H H' s' z
theorem Ev.run {te : TE} {o : OE α} {m : Rs α} (he : Ev K Er S OO OO' σ te o m) {H : Hp} {Q : VK} (w : W OO H) (s : S.p (hid H OO)) {f : α -> Rs β} {F : β -> Hp -> Prop} (hF : ∀ b H H', Xu H H' -> F b H -> F b H') (P : PZ Er F H (m.bind f))
    (hk : ∀ a v C H', Xu H H' -> W (C :: OO') H' -> Xu (hid H OO) (hid H' (C :: OO')) -> S.p (hid H' (C :: OO')) -> o K (hid H' (C :: OO')) v a C -> PZ Er F H' (f a) -> Q v H') : te σ H Q:=by
  refine he H Q w s ?_
  cases m with
  | bad=>exact P
  | err x=>exact P
  | ok a=>
    intro v C H' s' w' m' ho
    refine hk a v C H' s' w' m' (S.mono _ _ m' s) ho ?_
    have P' : PZ Er F H (f a):=P
    revert P'
    cases f a with
    | bad=>exact fun z=>z
    | err x=>exact fun z H2 s2=>z H2 (s'.trans s2)
    | ok b=>exact fun z=>hF b H H' s' z
theorem EvT.run {tt : TT} {m : Rs Bool} (he : EvT Er S OO σ tt m) {H : Hp} {Q : Bool -> Hp -> Prop} (w : W OO H) (s : S.p (hid H OO)) {f : Bool -> Rs β} {F : β -> Hp -> Prop} (hF : ∀ b H H', Xu H H' -> F b H -> F b H') (P : PZ Er F H (m.bind f))
    (hk : ∀ b H', Xu H H' -> W OO H' -> S.p (hid H' OO) -> PZ Er F H' (f b) -> Q b H') : tt σ H Q:=by
  refine he H Q w s ?_
  cases m with
  | bad=>exact P
  | err x=>exact P
  | ok a=>
    intro H' s'
    refine hk a H' s' (w.keep s') (S.mono _ _ (Xj s') s) ?_
    have P' : PZ Er F H (f a):=P
    revert P'
    cases f a with
    | bad=>exact fun z=>z
    | err x=>exact fun z H2 s2=>z H2 (s'.trans s2)
    | ok b=>exact fun z=>hF b H H' s' z
theorem Ev.toB {te : TE} {o : OE α} {r : Enc α} [z : FrzC o r] {m : Rs α} (he : Ev K Er S OO OO σ te o m) : EvB K Er S OO σ te r m:=fun H Q w s P=>by
  refine he H Q w s ?_
  cases m with
  | bad=>exact P
  | err x=>exact P
  | ok a=>exact fun v C H' s' w' m' ho=>P v H' s' (z.frz ho Xt w'.cell)
theorem Ev.frz {te : TE} {o : OE α} {r : Enc α} [z : FrzC o r] {m : Rs α} (he : Ev K Er S OO OO' σ te o m) : Ev K Er S OO OO' σ te (oF r) m:=fun H Q w s P=>by
  refine he H Q w s ?_
  cases m with
  | bad=>exact P
  | err x=>exact P
  | ok a=>
    intro v C H' s' w' m' ho
    have hs : Xu (hid H' (C :: OO')) (hid H' ([] :: OO')):=Qs (Xu.refl _) fun b hb=>by rw [DL] at hb; rw [X2]; simp [hb]
    refine P v [] H' s' w'.tail.nil (m'.trans hs) ⟨rfl, z.frz ho hs fun c hc=>Zp (w'.cell c hc) ?_⟩
    rw [DL]
    have:=w'.nd
    rw [X2] at this
    intro hb
    exact (List.nodup_append.mp this).2.2 c.1 (List.mem_map.mpr ⟨c, hc, rfl⟩) c.1 hb rfl
theorem EvB.flat {te : TE} {r : Enc α} [z : FlatE r] {m : Rs α} (he : EvB K Er S OO σ te r m) : Ev K Er S OO OO σ te (oF r) m:=fun H Q w s P=>by
  refine he H Q w s ?_
  cases m with
  | bad=>exact P
  | err x=>exact P
  | ok a=>
    intro v H' s' hr
    have w':=w.keep s'
    exact P v [] H' s' w'.nil (by rw [Zh]; exact Xj s') ⟨rfl, by rw [Zh]; exact z.flat w'.i hr⟩
theorem Xb {r : Enc α} [z : MonoE r] {v : V} {a : α} (i : Nat) (hσ : σ[i]? = some (some v)) (h : ∀ x, S.p x -> r K x v a) : EvB K Er S OO σ (U2 i) r (.ok a):=fun H Q w s P=>
  ⟨v, hσ, P v H (Xu.refl _) (z.mono Xt (h _ s))⟩
theorem YJ {o : OE α} {r : Enc α} [z : FrzC o r] {v : V} {a : α} {C : List XF} (i k : Nat) (hσ : σ[i]? = some (some v)) (hk : OO[k]? = some C) (h : ∀ x, S.p x -> o K x v a C) : EvB K Er S OO σ (U2 i) r (.ok a):=fun H Q w s P=>
  ⟨v, hσ, P v H (Xu.refl _) (z.frz (h _ s) Xt fun c hc=>w.tr c (List.mem_flatten.mpr ⟨C, List.mem_of_getElem? hk, hc⟩))⟩
theorem Yd : ∀ {OO : List (List XF)} {k : Nat} {C : List XF}, OO[k]? = some C -> (C :: OO.set k []).flatten.Perm OO.flatten
  | [], _, _, h=>by simp at h
  | D :: OO, 0, C, h=>by simp at h; subst h; simp
  | D :: OO, k + 1, C, h=>by
    have:=Yd (OO:=OO) (k:=k) (C:=C) (by simpa using h)
    simp only [List.set_cons_succ, List.flatten_cons] at this ⊢
    refine List.Perm.trans ?_ (this.append_left D)
    rw [← List.append_assoc, ← List.append_assoc]
    exact List.perm_append_comm.append_right _
theorem Qq {OO OO' : List (List XF)} (h : OO'.flatten.Perm OO.flatten) (b : Addr) : b ∈ fl OO' ↔ b ∈ fl OO:=(h.map (·.1)).mem_iff
theorem X0 {H : Hp} {OO OO' : List (List XF)} (h : OO'.flatten.Perm OO.flatten) : hid H OO' = hid H OO:=by
  funext b; unfold hid
  by_cases hb : b ∈ fl OO
  . rw [if_pos hb, if_pos ((Qq h b).mpr hb)]
  . rw [if_neg hb, if_neg fun z=>hb ((Qq h b).mp z)]
theorem YD {o : OE α} {v : V} {a : α} {C : List XF} (i k : Nat) (hσ : σ[i]? = some (some v)) (hk : OO[k]? = some C) (h : ∀ x, S.p x -> o K x v a C) : Ev K Er S OO (OO.set k []) σ (U2 i) o (.ok a):=fun H Q w s P=>by
  have hp:=Yd hk
  exact ⟨v, hσ, P v C H (Xu.refl _) (w.of hp) (by rw [X0 hp]; exact Xu.refl _) (by rw [X0 hp]; exact h _ s)⟩
theorem Xe (n : Int) : EvB K Er S OO σ (tC (.int n)) Xa (.ok n):=fun H Q w s P=>P _ H (Xu.refl _) rfl
theorem QM (b : Bool) : EvB K Er S OO σ (tC (.bl b)) Ym (.ok b):=fun H Q w s P=>P _ H (Xu.refl _) rfl
theorem Vl {ta tb : TE} {g : Int -> Int -> V} {r : Enc β} {f : Int -> Int -> β} {ma mb : Rs Int} (hg : ∀ K H i j, r K H (g i j) (f i j)) (ha : EvB K Er S OO σ ta Xa ma) (hb : EvB K Er S OO σ tb Xa mb) :
    EvB K Er S OO σ (tOp (rI0 g) ta tb) r (ma.bind fun a=>mb.bind fun b=>.ok (f a b)):=fun H Q w s P=>
  ha.run w s FB.tr P fun a x H1 s1 w1 q1 r1 P1=>hb.run w1 q1 FB.tr P1 fun b y H2 s2 w2 q2 r2 P2=>⟨a, b, r1, r2, P2 _ H2 (Xu.refl _) (hg K H2 a b)⟩
theorem V4 {ta tb : TE} {Cc : Int -> Int -> Prop} {g : Int -> Int -> V} {r : Enc β} {f : Int -> Int -> Rs β} {ma mb : Rs Int} (hg : ∀ K H i j c, f i j = .ok c -> Cc i j /\ r K H (g i j) c) (he : ∀ i j x, f i j ≠ .err x)
    (ha : EvB K Er S OO σ ta Xa ma) (hb : EvB K Er S OO σ tb Xa mb) :
    EvB K Er S OO σ (tOp (rI Cc g) ta tb) r (ma.bind fun a=>mb.bind fun b=>f a b):=fun H Q w s P=>
  ha.run w s FB.tr P fun a x H1 s1 w1 q1 r1 P1=>hb.run w1 q1 FB.tr P1 fun b y H2 s2 w2 q2 r2 P2=>by
    cases e : f a b with
    | bad=>rw [e] at P2; exact P2.elim
    | err x=>exact absurd e (he a b x)
    | ok c=>
      rw [e] at P2
      obtain ⟨h1, h2⟩:=hg K H2 a b c e
      exact ⟨a, b, r1, r2, h1, P2 _ H2 (Xu.refl _) h2⟩
noncomputable def Z1 (a b : Int) : Rs Int:=chk ((-(2 ^ 64) < a /\ a < 2 ^ 64) ∨ (-(2 ^ 64) < b /\ b < 2 ^ 64)) (.ok (a * b))
noncomputable def ZF (a b : Int) : Rs Int:=chk (0 < b) (.ok (a % b))
noncomputable def ET (a b : Int) : Rs Int:=chk (0 < b /\ b.natAbs.log2 < 9000) (.ok (a / b))
noncomputable def EE (a b : Int) : Rs Int:=chk (0 <= b /\ b <= 1000000 /\ a.natAbs < 2 ^ 64) (.ok (a ^ b.toNat))
theorem Zu {c : Prop} [Decidable c] {m : Rs α} {a : α} (h : chk c m = .ok a) : c /\ m = .ok a:=by
  unfold chk at h; split at h
  . exact ⟨by assumption, h⟩
  . cases h
theorem Qm {c : Prop} [Decidable c] {a : α} {x : Exc} : chk c (Rs.ok a) ≠ .err x:=by
  unfold chk; split <;> exact fun z=>nomatch z
theorem XO {ta tb : TE} {ma mb : Rs Int} (ha : EvB K Er S OO σ ta Xa ma) (hb : EvB K Er S OO σ tb Xa mb) : EvB K Er S OO σ (tOp (rI HV fun i j=>.int (i * j)) ta tb) Xa (ma.bind fun a=>mb.bind fun b=>Z1 a b):=
  V4 (fun K H i j c h=>by obtain ⟨h1, h2⟩:=Zu h; cases h2; exact ⟨h1, rfl⟩) (fun i j x=>Qm) ha hb
theorem XM {ta tb : TE} {ma mb : Rs Int} (ha : EvB K Er S OO σ ta Xa ma) (hb : EvB K Er S OO σ tb Xa mb) : EvB K Er S OO σ (tOp (rI (fun _ j=>0 < j) fun i j=>.int (i % j)) ta tb) Xa (ma.bind fun a=>mb.bind fun b=>ZF a b):=
  V4 (fun K H i j c h=>by obtain ⟨h1, h2⟩:=Zu h; cases h2; exact ⟨h1, rfl⟩) (fun i j x=>Qm) ha hb
theorem G4 {ta tb : TE} {ma mb : Rs Int} (ha : EvB K Er S OO σ ta Xa ma) (hb : EvB K Er S OO σ tb Xa mb) : EvB K Er S OO σ (tOp (rI (fun _ j=>0 < j /\ j.natAbs.log2 < 9000) fun i j=>.int (i / j)) ta tb) Xa (ma.bind fun a=>mb.bind fun b=>ET a b):=
  V4 (fun K H i j c h=>by obtain ⟨h1, h2⟩:=Zu h; cases h2; exact ⟨h1, rfl⟩) (fun i j x=>Qm) ha hb
theorem JU {ta tb : TE} {ma mb : Rs Int} (ha : EvB K Er S OO σ ta Xa ma) (hb : EvB K Er S OO σ tb Xa mb) : EvB K Er S OO σ (tOp (rI IM fun i j=>.int (i ^ j.toNat)) ta tb) Xa (ma.bind fun a=>mb.bind fun b=>EE a b):=
  V4 (fun K H i j c h=>by obtain ⟨h1, h2⟩:=Zu h; cases h2; exact ⟨h1, rfl⟩) (fun i j x=>Qm) ha hb
theorem XN {ta tb : TE} {ma mb : Rs Int} (ha : EvB K Er S OO σ ta Xa ma) (hb : EvB K Er S OO σ tb Xa mb) : EvB K Er S OO σ (tOp (rI0 fun i j=>.int (i + j)) ta tb) Xa (ma.bind fun a=>mb.bind fun b=>.ok (a + b)):=Vl (fun _ _ _ _=>rfl) ha hb
theorem Z2 {ta tb : TE} {ma mb : Rs Int} (ha : EvB K Er S OO σ ta Xa ma) (hb : EvB K Er S OO σ tb Xa mb) : EvB K Er S OO σ (tOp (rI0 fun i j=>.int (i - j)) ta tb) Xa (ma.bind fun a=>mb.bind fun b=>.ok (a - b)):=Vl (fun _ _ _ _=>rfl) ha hb
theorem JC {ta tb : TE} {ma mb : Rs Int} (ha : EvB K Er S OO σ ta Xa ma) (hb : EvB K Er S OO σ tb Xa mb) : EvB K Er S OO σ (tOp (rI0 fun i j=>.bl (decide (i < j))) ta tb) Ym (ma.bind fun a=>mb.bind fun b=>.ok (decide (a < b))):=Vl (fun _ _ _ _=>rfl) ha hb
theorem Hu {ta tb : TE} {ma mb : Rs Int} (ha : EvB K Er S OO σ ta Xa ma) (hb : EvB K Er S OO σ tb Xa mb) : EvB K Er S OO σ (tOp (rI0 fun i j=>.bl (decide (i <= j))) ta tb) Ym (ma.bind fun a=>mb.bind fun b=>.ok (decide (a <= b))):=Vl (fun _ _ _ _=>rfl) ha hb
theorem Ut {ta tb : TE} {ma mb : Rs Int} (ha : EvB K Er S OO σ ta Xa ma) (hb : EvB K Er S OO σ tb Xa mb) : EvB K Er S OO σ (tOp (rI0 fun i j=>.bl (decide (j < i))) ta tb) Ym (ma.bind fun a=>mb.bind fun b=>.ok (decide (b < a))):=Vl (fun _ _ _ _=>rfl) ha hb
theorem QY {ta : TE} {ma : Rs Int} (ha : EvB K Er S OO σ ta Xa ma) : EvB K Er S OO σ (tUn (rU fun i=>.int (-i)) ta) Xa (ma.bind fun a=>.ok (-a)):=fun H Q w s P=>
  ha.run w s FB.tr P fun a x H1 s1 w1 q1 r1 P1=>⟨a, r1, P1 _ H1 (Xu.refl _) rfl⟩
class Scal {α : Type} [DecidableEq α] (r : Enc α) : Prop where
  to : ∀ {K : PySem.W.Frag} {H H' : Hp} {x y : V} {a b : α}, r K H x a -> r K H' y b -> Io x y = true /\ decide (x = y) = decide (a = b)
instance : Scal Xa:=⟨fun {K H H' x y a b} h1 h2=>by cases (show x = .int a from h1); cases (show y = .int b from h2); exact ⟨rfl, by simp⟩⟩
instance : Scal Ym:=⟨fun {K H H' x y a b} h1 h2=>by cases (show x = .bl a from h1); cases (show y = .bl b from h2); exact ⟨rfl, by simp⟩⟩
theorem Ji [DecidableEq α] {r : Enc α} [z : Scal r] [MonoE r] {ta tb : TE} {ma mb : Rs α} (ha : EvB K Er S OO σ ta r ma) (hb : EvB K Er S OO σ tb r mb) : EvB K Er S OO σ (tOp rEq ta tb) Ym (ma.bind fun a=>mb.bind fun b=>.ok (decide (a = b))):=fun H Q w s P=>
  ha.run w s FB.tr P fun a x H1 s1 w1 q1 r1 P1=>hb.run w1 q1 FB.tr P1 fun b y H2 s2 w2 q2 r2 P2=>by
    obtain ⟨h1, h2⟩:=z.to r1 r2
    exact ⟨h1, P2 _ H2 (Xu.refl _) (by rw [h2]; rfl)⟩
theorem Bu [DecidableEq α] {r : Enc α} [z : Scal r] [MonoE r] {ta tb : TE} {ma mb : Rs α} (ha : EvB K Er S OO σ ta r ma) (hb : EvB K Er S OO σ tb r mb) : EvB K Er S OO σ (tOp rNe ta tb) Ym (ma.bind fun a=>mb.bind fun b=>.ok (!decide (a = b))):=fun H Q w s P=>
  ha.run w s FB.tr P fun a x H1 s1 w1 q1 r1 P1=>hb.run w1 q1 FB.tr P1 fun b y H2 s2 w2 q2 r2 P2=>by
    obtain ⟨h1, h2⟩:=z.to r1 r2
    exact ⟨h1, P2 _ H2 (Xu.refl _) (by rw [h2]; rfl)⟩
theorem BA [DecidableEq α] {r : Enc α} [z : MonoE r] {ta tb : TE} {ma mb : Rs α} (ha : EvB K Er S OO σ ta r ma) (hb : EvB K Er S OO σ tb r mb) : EvB K Er S OO σ (tOp (IK K r) ta tb) Ym (ma.bind fun a=>mb.bind fun b=>.ok (decide (a = b))):=fun H Q w s P=>
  ha.run w s FB.tr P fun a x H1 s1 w1 q1 r1 P1=>hb.run w1 q1 FB.tr P1 fun b y H2 s2 w2 q2 r2 P2=>⟨a, b, z.mono s2 r1, r2, P2 _ H2 (Xu.refl _) rfl⟩
theorem GW {te : TE} {m : Rs Bool} (h : EvB K Er S OO σ te Ym m) : EvT Er S OO σ (tB te) m:=fun H Q w s P=>h H _ w s (by
  cases m with
  | bad=>exact P
  | err x=>exact P
  | ok a=>exact fun v H' s' r=>⟨a, r, P H' s'⟩)
theorem XG {te : TE} {m : Rs Bool} (h : EvB K Er S OO σ te Ym m) : EvT Er S OO σ (E3 te) m:=GW h
theorem Kw {t : TT} {m : Rs Bool} (h : EvT Er S OO σ t m) : EvT Er S OO σ (IQ t) (m.bind fun b=>.ok (!b)):=fun H Q w s P=>h.run w s FT.tr P fun b H1 s1 w1 q1 P1=>P1 H1 (Xu.refl _)
noncomputable def orR (a b : Rs Bool) : Rs Bool:=a.bind fun x=>if x = true then .ok true else b
theorem HJ {t u : TT} {m n : Rs Bool} (h : EvT Er S OO σ t m) (k : EvT Er S OO σ u n) : EvT Er S OO σ (tOr t u) (orR m n):=fun H Q w s P=>h.run w s FT.tr P fun b H1 s1 w1 q1 P1=>by
  cases b with
  | true=>exact P1 H1 (Xu.refl _)
  | false=>exact k H1 Q w1 q1 P1
theorem H9 {c : TT} {ta tb : TE} {o : OE α} {mc : Rs Bool} {ma mb : Rs α} (hc : EvT Er S OO σ c mc) (ha : Ev K Er S OO OO' σ ta o ma) (hb : Ev K Er S OO OO' σ tb o mb) : Ev K Er S OO OO' σ (tIf c ta tb) o (mc.bind fun b=>if b = true then ma else mb):=fun H Q w s P=>
  hc.run w s FO.tr P fun b H1 s1 w1 q1 P1=>by
    cases b with
    | true=>rw [if_pos rfl] at P1 ⊢; exact ha H1 Q w1 q1 P1
    | false=>exact hb H1 Q w1 q1 P1
end
end L2
namespace L2
open PySem PySem.Spec PyProof.Rows
section
variable (K : PySem.W.Frag) (Er : Exc -> Hp -> Prop) (S : SC) (OO : List (List XF)) (σ : St)
noncomputable def FS {α : Type} (r : Enc α) (Q : VK) (a : α) (H : Hp) : Prop:=∀ v H', Xu H H' -> r K (hid H' OO) v a -> Q v H'
noncomputable def EvS {α : Type} (te : TE) (r : Enc α) (m : Rs α) : Prop:=∀ H Q, W OO H -> S.p (hid H OO) -> PZ Er (FS K OO r Q) H m -> te σ H Q
noncomputable def rE {α : Type} (r : Enc α) (H : Hp) (v : V) (as : List α) : Prop:=∃ p xs, v = .ref p /\ H p = some (.lst xs) /\ Paired (r K (hid H OO)) xs as
noncomputable def FL {α : Type} (r : Enc α) (Q : VK) (as : List α) (H : Hp) : Prop:=∀ v H', Xu H H' -> rE K OO r H' v as -> Q v H'
noncomputable def EvL {α : Type} (te : TE) (r : Enc α) (m : Rs (List α)) : Prop:=∀ H Q, W OO H -> S.p (hid H OO) -> PZ Er (FL K OO r Q) H m -> te σ H Q
end
section
variable {K : PySem.W.Frag} {Er : Exc -> Hp -> Prop} {S : SC} {OO OO' OO2 : List (List XF)} {σ : St} {α β γ : Type}
theorem FS.tr {r : Enc α} {Q : VK} : ∀ a H H', Xu H H' -> FS K OO r Q a H -> FS K OO r Q a H':=fun a H H' s h v H2 s2 q=>h v H2 (s.trans s2) q
theorem FL.tr {r : Enc α} {Q : VK} : ∀ a H H', Xu H H' -> FL K OO r Q a H -> FL K OO r Q a H':=fun a H H' s h v H2 s2 q=>h v H2 (s.trans s2) q
theorem PZ.run {F : β -> Hp -> Prop} {f : α -> Rs β} {H H' : Hp} {a : α} {m : Rs α} (hm : m = .ok a) (hF : ∀ b H H', Xu H H' -> F b H -> F b H') (s : Xu H H') (P : PZ Er F H (m.bind f)) : PZ Er F H' (f a):=by
  subst hm
  have P' : PZ Er F H (f a):=P
  revert P'
  cases f a with
  | bad=>exact fun z=>z
  | err x=>exact fun z H2 s2=>z H2 (s.trans s2)
  | ok b=>exact fun z=>hF b H H' s z
theorem EvS.run {te : TE} {r : Enc α} {m : Rs α} (he : EvS K Er S OO σ te r m) {H : Hp} {Q : VK} (w : W OO H) (s : S.p (hid H OO)) {f : α -> Rs β} {F : β -> Hp -> Prop} (hF : ∀ b H H', Xu H H' -> F b H -> F b H') (P : PZ Er F H (m.bind f))
    (hk : ∀ a v H', Xu H H' -> W OO H' -> S.p (hid H' OO) -> r K (hid H' OO) v a -> PZ Er F H' (f a) -> Q v H') : te σ H Q:=by
  refine he H Q w s ?_
  cases e : m with
  | bad=>rw [e] at P; exact P
  | err x=>rw [e] at P; exact P
  | ok a=>exact fun v H' s' hr=>hk a v H' s' (w.keep s') (S.mono _ _ (Xj s') s) hr (PZ.run e hF s' P)
theorem EvL.run {te : TE} {r : Enc α} {m : Rs (List α)} (he : EvL K Er S OO σ te r m) {H : Hp} {Q : VK} (w : W OO H) (s : S.p (hid H OO)) {f : List α -> Rs β} {F : β -> Hp -> Prop} (hF : ∀ b H H', Xu H H' -> F b H -> F b H') (P : PZ Er F H (m.bind f))
    (hk : ∀ a v H', Xu H H' -> W OO H' -> S.p (hid H' OO) -> rE K OO r H' v a -> PZ Er F H' (f a) -> Q v H') : te σ H Q:=by
  refine he H Q w s ?_
  cases e : m with
  | bad=>rw [e] at P; exact P
  | err x=>rw [e] at P; exact P
  | ok a=>exact fun v H' s' hr=>hk a v H' s' (w.keep s') (S.mono _ _ (Xj s') s) hr (PZ.run e hF s' P)
theorem PZ.imp {F G : β -> Hp -> Prop} {H : Hp} {m : Rs β} (P : PZ Er F H m) (h : ∀ b, m = .ok b -> F b H -> G b H) : PZ Er G H m:=by
  cases m with
  | bad=>exact P
  | err x=>exact P
  | ok b=>exact h b rfl P
theorem EvS.toB {te : TE} {r : Enc α} [z : MonoE r] {m : Rs α} (he : EvS K Er S OO σ te r m) : EvB K Er S OO σ te r m:=fun H Q w s P=>he H Q w s (P.imp fun b _ h v H' s' q=>h v H' s' (z.mono Xt q))
theorem EvS.ev {te : TE} {r : Enc α} {m : Rs α} (he : EvS K Er S OO σ te r m) : Ev K Er S OO OO σ te (oF r) m:=fun H Q w s P=>he H Q w s (P.imp fun b _ h v H' s' q=>
  h v [] H' s' (w.keep s').nil (by rw [Zh]; exact Xj s') ⟨rfl, by rw [Zh]; exact q⟩)
theorem EvB.sh {te : TE} {r : Enc α} [z : FlatE r] {m : Rs α} (he : EvB K Er S OO σ te r m) : EvS K Er S OO σ te r m:=fun H Q w s P=>he H Q w s (P.imp fun b _ h v H' s' q=>h v H' s' (z.flat (w.keep s').i q))
theorem Ev.sh {te : TE} {o : OE α} {r : Enc α} [z : FrzC o r] {m : Rs α} (he : Ev K Er S OO OO σ te o m) : EvS K Er S OO σ te r m:=fun H Q w s P=>he.frz H Q w s (P.imp fun b _ h v C H' s' w' m' q=>by
  obtain ⟨rfl, q⟩:=q
  rw [Zh] at q
  exact h v H' s' q)
theorem Xk {r : Enc α} {v : V} {a : α} (i : Nat) (hσ : σ[i]? = some (some v)) (h : ∀ x, S.p x -> r K x v a) : EvS K Er S OO σ (U2 i) r (.ok a):=fun H Q w s P=>⟨v, hσ, P v H (Xu.refl _) (h _ s)⟩
theorem EvS.ls {te : TE} {r : Enc α} {m : Rs (List α)} (he : EvS K Er S OO σ te (rV r) m) : EvL K Er S OO σ te r m:=fun H Q w s P=>he H Q w s (P.imp fun b _ h v H' s' r9=>by obtain ⟨p, xs, e, q, pr⟩:=r9; exact h v H' s' ⟨p, xs, e, Xt _ _ q, pr⟩)
theorem EvB.ls {te : TE} {r : Enc α} [z : FlatE r] {m : Rs (List α)} (he : EvB K Er S OO σ te (rV r) m) : EvL K Er S OO σ te r m:=fun H Q w s P=>he H Q w s (P.imp fun b _ h v H' s' r9=>by obtain ⟨p, xs, e, q, pr⟩:=r9; exact h v H' s' ⟨p, xs, e, q, Paired.imp2 (fun _ _ z'=>z.flat (w.keep s').i z') pr⟩)
theorem Ev.ls {te : TE} {r : Enc α} [z : MonoE r] {m : Rs (List α)} (he : Ev K Er S OO OO σ te (oL (oF r)) m) : EvL K Er S OO σ te r m:=he.sh.ls
noncomputable def atR (as : List α) (i : Int) : Rs α:=match atI as i with
  | some a=>.ok a
  | none=>.bad
theorem Gh {as : List α} {i : Int} {a : α} (h : atR as i = .ok a) : atI as i = some a:=by
  unfold atR at h; split at h
  . cases h; assumption
  . cases h
theorem US {as : List α} {i : Int} {x : Exc} : atR as i ≠ .err x:=by unfold atR; split <;> exact fun z=>nomatch z
theorem Q0 {F : V -> α -> Prop} {xs : List V} {as : List α} {i : Int} {a : α} (p : Paired F xs as) (h : atI as i = some a) : ∃ x, atI xs i = some x /\ F x a:=by
  unfold atI at h ⊢
  rw [Paired.len p]
  cases e : ixN as.length i with
  | none=>rw [e] at h; cases h
  | some j=>
    rw [e] at h
    obtain ⟨x, h1, h2⟩:=Paired.getR p h
    exact ⟨x, h1, h2⟩
theorem PZ.okOf {F : β -> Hp -> Prop} {H : Hp} {m : Rs β} (he : ∀ x, m ≠ .err x) (P : PZ Er F H m) : ∃ b, m = .ok b /\ F b H:=by
  cases m with
  | bad=>exact P.elim
  | err x=>exact absurd rfl (he x)
  | ok b=>exact ⟨b, rfl, P⟩
theorem XB {ta tb : TE} {r : Enc α} [z : MonoE r] {ma : Rs (List α)} {mb : Rs Int} (ha : EvB K Er S OO σ ta (rV r) ma) (hb : EvB K Er S OO σ tb Xa mb) : EvB K Er S OO σ (tOp (Br K) ta tb) r (ma.bind fun as=>mb.bind fun i=>atR as i):=fun H Q w s P=>
  ha.run w s FB.tr P fun a x H1 s1 w1 q1 ⟨p, xs, e, q, pr⟩ P1=>hb.run w1 q1 FB.tr P1 fun b y H2 s2 w2 q2 r2 P2=>by
    obtain ⟨c, hc, P3⟩:=P2.okOf fun x=>US
    obtain ⟨u, h1, h2⟩:=Q0 pr (Gh hc)
    exact ⟨p, xs, b, u, e, r2, SqL.of (s2 _ _ q), h1, P3 u H2 (Xu.refl _) (z.mono s2 h2)⟩
theorem Hj {ta tb : TE} {r : Enc α} [z : MonoE r] {ma : Rs (List α)} {mb : Rs Int} (ha : EvL K Er S OO σ ta r ma) (hb : EvB K Er S OO σ tb Xa mb) : EvS K Er S OO σ (tOp (Br K) ta tb) r (ma.bind fun as=>mb.bind fun i=>atR as i):=fun H Q w s P=>
  ha.run w s FS.tr P fun a x H1 s1 w1 q1 ⟨p, xs, e, q, pr⟩ P1=>hb.run w1 q1 FS.tr P1 fun b y H2 s2 w2 q2 r2 P2=>by
    obtain ⟨c, hc, P3⟩:=P2.okOf fun x=>US
    obtain ⟨u, h1, h2⟩:=Q0 pr (Gh hc)
    exact ⟨p, xs, b, u, e, r2, SqL.of (s2 _ _ q), h1, P3 u H2 (Xu.refl _) (z.mono (Xj s2) h2)⟩
theorem Kn {ta : TE} {r : Enc α} {q : Enc β} {m : Rs (α × β)} (ha : EvB K Er S OO σ ta (rP2 r q) m) : EvB K Er S OO σ (tOp (EJ K) ta (tC (.int 0))) r (m.bind fun p=>.ok p.1):=fun H Q w s P=>
  ha.run w s FB.tr P fun a x H1 s1 w1 q1 r9 P1=>by obtain ⟨p, x, y, e, q, h1, h2⟩:=r9; exact ⟨p, _, 0, x, e, rfl, SqT.of q, rfl, P1 _ H1 (Xu.refl _) h1⟩
theorem J2 {ta : TE} {r : Enc α} {q : Enc β} {m : Rs (α × β)} (ha : EvB K Er S OO σ ta (rP2 r q) m) : EvB K Er S OO σ (tOp (EJ K) ta (tC (.int 1))) q (m.bind fun p=>.ok p.2):=fun H Q w s P=>
  ha.run w s FB.tr P fun a x H1 s1 w1 q1 r9 P1=>by obtain ⟨p, x, y, e, q, h1, h2⟩:=r9; exact ⟨p, _, 1, y, e, rfl, SqT.of q, rfl, P1 _ H1 (Xu.refl _) h2⟩
theorem JW {ta : TE} {r : Enc α} {q : Enc β} {m : Rs (α × β)} (ha : EvS K Er S OO σ ta (rP2 r q) m) : EvS K Er S OO σ (tOp (EJ K) ta (tC (.int 0))) r (m.bind fun p=>.ok p.1):=fun H Q w s P=>
  ha.run w s FS.tr P fun a x H1 s1 w1 q1 r9 P1=>by obtain ⟨p, x, y, e, q, h1, h2⟩:=r9; exact ⟨p, _, 0, x, e, rfl, SqT.of (Xt _ _ q), rfl, P1 _ H1 (Xu.refl _) h1⟩
theorem Ei {ta : TE} {r : Enc α} {q : Enc β} {m : Rs (α × β)} (ha : EvS K Er S OO σ ta (rP2 r q) m) : EvS K Er S OO σ (tOp (EJ K) ta (tC (.int 1))) q (m.bind fun p=>.ok p.2):=fun H Q w s P=>
  ha.run w s FS.tr P fun a x H1 s1 w1 q1 r9 P1=>by obtain ⟨p, x, y, e, q, h1, h2⟩:=r9; exact ⟨p, _, 1, y, e, rfl, SqT.of (Xt _ _ q), rfl, P1 _ H1 (Xu.refl _) h2⟩
theorem YE {ta : TE} {r : Enc α} {m : Rs (List α)} (ha : EvB K Er S OO σ ta (rV r) m) : EvB K Er S OO σ (tCB (FM K) (X1 ta QF)) Xa (m.bind fun as=>.ok (as.length : Int)):=fun H Q w s P=>
  ha.run w s FB.tr P fun a x H1 s1 w1 q1 r9 P1=>by obtain ⟨p, xs, e, q, pr⟩:=r9; exact ⟨p, xs, by rw [e], .inl (SqL.of q), P1 _ H1 (Xu.refl _) (by rw [Paired.len pr]; rfl)⟩
theorem EI {r : Enc α} [z : MonoE r] {xs : List V} {as : List α} {H : Hp} {Q : VK} (w : W OO H) (pr : Paired (r K (hid H OO)) xs as) (P : FO K OO OO (oL (oF r)) Q as H) : ∀ p, H p = none -> Q (.ref p) (upd H p (.lst xs)):=fun p hp=>by
  have hn:=QC (OO:=OO) hp (o:=.lst xs)
  refine P (.ref p) [(p, .lst xs)] _ (Xy hp _) (w.new hp rfl) hn ?_
  refine ⟨p, xs, List.replicate as.length [], rfl, (P3.of (Paired.imp2 (fun _ _ h=>z.mono hn h) pr)).imp fun _ _ _ h=>h, by rw [YI]⟩
theorem Paired.take' {F : α -> β -> Prop} : ∀ {l : List α} {m : List β} (n : Nat), Paired F l m -> Paired F (l.take n) (m.take n)
  | _, _, 0, _=>.nil
  | _, _, _ + 1, .nil=>.nil
  | _, _, n + 1, .cons r t=>.cons r (Paired.take' n t)
theorem Paired.drop' {F : α -> β -> Prop} : ∀ {l : List α} {m : List β} (n : Nat), Paired F l m -> Paired F (l.drop n) (m.drop n)
  | _, _, 0, h=>h
  | _, _, _ + 1, .nil=>.nil
  | _, _, n + 1, .cons _ t=>Paired.drop' n t
theorem Paired.rep' {F : α -> β -> Prop} {l : List α} {m : List β} (h : Paired F l m) : ∀ n : Nat, Paired F (List.replicate n l).flatten (List.replicate n m).flatten
  | 0=>.nil
  | n + 1=>by simp only [List.replicate_succ, List.flatten_cons]; exact Paired.app h (Paired.rep' h n)
noncomputable def Gq (as : List α) (lo hi : Option Int) : List α:=(as.drop (HT.sIx as.length 0 lo)).take (HT.sIx as.length as.length hi - HT.sIx as.length 0 lo)
theorem Vs {F : V -> α -> Prop} {xs : List V} {as : List α} (p : Paired F xs as) (lo hi : Option Int) : Paired F (EH xs lo hi) (Gq as lo hi):=by
  unfold EH Gq; rw [Paired.len p]; exact Paired.take' _ (Paired.drop' _ p)
noncomputable def FP (Q : Option Int -> Hp -> Prop) (a : Option Int) (H : Hp) : Prop:=∀ H', Xu H H' -> Q a H'
noncomputable def EvP (Er : Exc -> Hp -> Prop) (S : SC) (OO : List (List XF)) (σ : St) (t : TO) (m : Rs (Option Int)) : Prop:=∀ H Q, W OO H -> S.p (hid H OO) -> PZ Er (FP Q) H m -> t σ H Q
theorem EvP.run {t : TO} {m : Rs (Option Int)} (he : EvP Er S OO σ t m) {H : Hp} {Q : Option Int -> Hp -> Prop} (w : W OO H) (s : S.p (hid H OO)) {f : Option Int -> Rs β} {F : β -> Hp -> Prop} (hF : ∀ b H H', Xu H H' -> F b H -> F b H') (P : PZ Er F H (m.bind f))
    (hk : ∀ a H', Xu H H' -> W OO H' -> S.p (hid H' OO) -> PZ Er F H' (f a) -> Q a H') : t σ H Q:=by
  refine he H Q w s ?_
  cases e : m with
  | bad=>rw [e] at P; exact P
  | err x=>rw [e] at P; exact P
  | ok a=>exact fun H' s'=>hk a H' s' (w.keep s') (S.mono _ _ (Xj s') s) (PZ.run e hF s' P)
theorem VP : EvP Er S OO σ Fs (.ok none):=fun H Q w s P=>P H (Xu.refl _)
theorem Ud {te : TE} {m : Rs Int} (h : EvB K Er S OO σ te Xa m) : EvP Er S OO σ (Hc te) (m.bind fun i=>.ok (some i)):=fun H Q w s P=>
  h.run w s (fun _ _ _ s h H2 s2=>h H2 (s.trans s2)) P fun a v H1 s1 w1 q1 r1 P1=>⟨a, r1, P1 H1 (Xu.refl _)⟩
theorem Ga {te : TE} {tl th : TO} {r : Enc α} [z : MonoE r] {m : Rs (List α)} {ml mh : Rs (Option Int)} (he : EvL K Er S OO σ te r m) (hl : EvP Er S OO σ tl ml) (hh : EvP Er S OO σ th mh) :
    Ev K Er S OO OO σ (tSl (HU K) te tl th) (oL (oF r)) (m.bind fun as=>ml.bind fun lo=>mh.bind fun hi=>.ok (Gq as lo hi)):=fun H Q w s P=>
  he.run w s FO.tr P fun as x H1 s1 w1 q1 ⟨p, xs, e, q, pr⟩ P1=>hl.run w1 q1 FO.tr P1 fun lo H2 s2 w2 q2 P2=>hh.run w2 q2 FO.tr P2 fun hi H3 s3 w3 q3 P3'=>
    ⟨p, xs, e, SqL.of (s3 _ _ (s2 _ _ q)), EI w3 (Vs (Paired.imp2 (fun _ _ h=>z.mono ((Xj s2).trans (Xj s3)) h) pr) lo hi) P3'⟩
theorem Ba {ta : TE} {r : Enc α} {m : Rs (List α)} (ha : EvB K Er S OO σ ta (rL r) m) : EvB K Er S OO σ (tCB (FM K) (X1 ta QF)) Xa (m.bind fun as=>.ok (as.length : Int)):=fun H Q w s P=>
  ha.run w s FB.tr P fun a x H1 s1 w1 q1 r9 P1=>by obtain ⟨p, xs, e, q, pr⟩:=r9; exact ⟨p, xs, by rw [e], .inl q, P1 _ H1 (Xu.refl _) (by rw [Paired.len pr]; rfl)⟩
theorem Ef {ta tb : TE} {ma : Rs (List Int)} {mb : Rs Int} (ha : EvB K Er S OO σ ta (rL Xa) ma) (hb : EvB K Er S OO σ tb Xa mb) : EvB K Er S OO σ (tOp (Br K) ta tb) Xa (ma.bind fun as=>mb.bind fun i=>atR as i):=fun H Q w s P=>
  ha.run w s FB.tr P fun a x H1 s1 w1 q1 ⟨p, xs, e, q, pr⟩ P1=>hb.run w1 q1 FB.tr P1 fun b y H2 s2 w2 q2 r2 P2=>by
    obtain ⟨c, hc, P3⟩:=P2.okOf fun x=>US
    obtain ⟨u, h1, h2⟩:=Q0 pr (Gh hc)
    exact ⟨p, xs, b, u, e, r2, s2.seq q, h1, P3 u H2 (Xu.refl _) h2⟩
theorem FU {te : TE} {tl th : TO} {m : Rs (List Int)} {ml mh : Rs (Option Int)} (he : EvB K Er S OO σ te (rL Xa) m) (hl : EvP Er S OO σ tl ml) (hh : EvP Er S OO σ th mh) :
    Ev K Er S OO OO σ (tSl (HU K) te tl th) (oL (oF Xa)) (m.bind fun as=>ml.bind fun lo=>mh.bind fun hi=>.ok (Gq as lo hi)):=fun H Q w s P=>
  he.run w s FO.tr P fun as x H1 s1 w1 q1 ⟨p, xs, e, q, pr⟩ P1=>hl.run w1 q1 FO.tr P1 fun lo H2 s2 w2 q2 P2=>hh.run w2 q2 FO.tr P2 fun hi H3 s3 w3 q3 P3'=>
    ⟨p, xs, e, s3.seq (s2.seq q), EI w3 (Vs (Paired.imp2 (fun _ _ h=>h) pr) lo hi) P3'⟩
noncomputable def Fx (as bs : List α) : Rs (List α):=chk (as.length + bs.length <= sizeLine) (.ok (as ++ bs))
theorem DB {ta tb : TE} {r : Enc α} [z : MonoE r] {ma mb : Rs (List α)} (ha : EvL K Er S OO σ ta r ma) (hb : EvL K Er S OO σ tb r mb) : Ev K Er S OO OO σ (tOp Ix ta tb) (oL (oF r)) (ma.bind fun as=>mb.bind fun bs=>Fx as bs):=fun H Q w s P=>
  ha.run w s FO.tr P fun as x H1 s1 w1 q1 ⟨p, xs, e, q, pr⟩ P1=>hb.run w1 q1 FO.tr P1 fun bs y H2 s2 w2 q2 ⟨p', ys, e', q', pr'⟩ P2=>by
    obtain ⟨c, hc, P3⟩:=P2.okOf fun x=>Qm
    obtain ⟨h1, h2⟩:=Zu hc
    cases h2
    exact ⟨p, p', xs, ys, e, e', s2 _ _ q, q', by rw [Paired.len pr, Paired.len pr']; exact h1, EI w2 (Paired.app (Paired.imp2 (fun _ _ h=>z.mono (Xj s2) h) pr) pr') P3⟩
noncomputable def Ui (as : List α) (n : Int) : Rs (List α):=chk (-(2 ^ 63) <= n /\ n < 2 ^ 63 /\ as.length * n.toNat <= sizeLine) (.ok (List.replicate n.toNat as).flatten)
theorem Vi {ta tb : TE} {r : Enc α} [z : MonoE r] {ma : Rs (List α)} {mb : Rs Int} (ha : EvL K Er S OO σ ta r ma) (hb : EvB K Er S OO σ tb Xa mb) : Ev K Er S OO OO σ (tOp IG ta tb) (oL (oF r)) (ma.bind fun as=>mb.bind fun n=>Ui as n):=fun H Q w s P=>
  ha.run w s FO.tr P fun as x H1 s1 w1 q1 ⟨p, xs, e, q, pr⟩ P1=>hb.run w1 q1 FO.tr P1 fun n y H2 s2 w2 q2 r2 P2=>by
    obtain ⟨c, hc, P3⟩:=P2.okOf fun x=>Qm
    obtain ⟨⟨h0, h1, h3⟩, h2⟩:=Zu hc
    cases h2
    exact ⟨p, n, xs, e, r2, s2 _ _ q, h0, h1, by rw [Paired.len pr]; exact h3, EI w2 (Paired.rep' (Paired.imp2 (fun _ _ h=>z.mono (Xj s2) h) pr) _) P3⟩
theorem KA {ta : TE} {r : Enc α} [z : MonoE r] {ma : Rs (List α)} (ha : EvL K Er S OO σ ta r ma) : Ev K Er S OO OO σ (tCB (Dj K) (X1 ta QF)) (oL (oF r)) (ma.bind fun as=>.ok as):=fun H Q w s P=>
  ha.run w s FO.tr P fun as x H1 s1 w1 q1 r9 P1=>by obtain ⟨p, xs, e, q, pr⟩:=r9; exact ⟨p, xs, by rw [e], .inl (SqL.of q), EI w1 pr P1⟩
noncomputable def QH (lo hi : Int) : List Int:=(List.range (hi - lo).toNat).map fun (i : Nat)=>lo + (i : Int)
theorem QW {o : OE α} : Ev K Er S OO OO σ (HS QF) (oL o) (.ok []):=fun H Q w s P=>⟨Nat.zero_le _, fun p hp=>P (.ref p) [(p, .lst [])] _ (Xy hp _) (w.new hp rfl) (QC hp) ⟨p, [], [], rfl, .nil, rfl⟩⟩
noncomputable def FA {α : Type} (K : PySem.W.Frag) (OO : List (List XF)) (r : Enc α) (Q : List V -> Hp -> Prop) (as : List α) (H : Hp) : Prop:=∀ vs H', Xu H H' -> Paired (r K (hid H' OO)) vs as -> Q vs H'
noncomputable def EvA {α : Type} (K : PySem.W.Frag) (Er : Exc -> Hp -> Prop) (S : SC) (OO : List (List XF)) (σ : St) (t : TA) (r : Enc α) (m : Rs (List α)) : Prop:=∀ H Q, W OO H -> S.p (hid H OO) -> PZ Er (FA K OO r Q) H m -> t σ H Q
theorem Zd {r : Enc α} : EvA K Er S OO σ QF r (.ok []):=fun H Q w s P=>P [] H (Xu.refl _) .nil
theorem Xp {te : TE} {t : TA} {r : Enc α} [z : MonoE r] {m : Rs α} {n : Rs (List α)} (he : EvS K Er S OO σ te r m) (ht : EvA K Er S OO σ t r n) : EvA K Er S OO σ (X1 te t) r (m.bind fun a=>n.bind fun as=>.ok (a :: as)):=fun H Q w s P=>
  he.run w s (fun b H H' s h vs H2 s2 p=>h vs H2 (s.trans s2) p) P fun a x H1 s1 w1 q1 r1 P1=>by
    refine ht H1 _ w1 q1 ?_
    cases e : n with
    | bad=>rw [e] at P1; exact P1
    | err x=>rw [e] at P1; exact P1
    | ok as=>rw [e] at P1; exact fun vs H2 s2 p=>P1 (x :: vs) H2 s2 (.cons (z.mono (Xj s2) r1) p)
theorem Zz {t : TA} {r : Enc α} [z : MonoE r] {m : Rs (List α)} (h : EvA K Er S OO σ t r m) : Ev K Er S OO OO σ (HS t) (oL (oF r)) (m.bind fun as=>chk (as.length <= sizeLine) (.ok as)):=fun H Q w s P=>by
  refine h H _ w s ?_
  cases e : m with
  | bad=>rw [e] at P; exact P
  | err x=>rw [e] at P; exact P
  | ok as=>
    rw [e] at P
    intro vs H1 s1 p
    obtain ⟨c, hc, P3⟩:=PZ.okOf (fun x=>Qm) (show PZ Er _ H (chk (as.length <= sizeLine) (.ok as)) from P)
    obtain ⟨h1, h2⟩:=Zu hc
    cases h2
    exact ⟨by rw [Paired.len p]; exact h1, EI (w.keep s1) p (FO.tr _ _ _ s1 P3)⟩
theorem VU {ta tb : TE} {r : Enc α} {q : Enc β} [z : MonoE r] [y : MonoE q] {ma : Rs α} {mb : Rs β} (ha : EvS K Er S OO σ ta r ma) (hb : EvS K Er S OO σ tb q mb) : EvS K Er S OO σ (EM (X1 ta (X1 tb QF))) (rP2 r q) (ma.bind fun a=>mb.bind fun b=>.ok (a, b)):=fun H Q w s P=>
  ha.run w s FS.tr P fun a x H1 s1 w1 q1 r1 P1=>hb.run w1 q1 FS.tr P1 fun b y' H2 s2 w2 q2 r2 P2=>
    ⟨by show 2 <= sizeLine; decide, fun p hp=>P2 _ _ (Xy hp _) ⟨p, x, y', rfl, ZA w2 hp, z.mono ((Xj s2).trans (Xj (Xy hp _))) r1, y.mono (Xj (Xy hp _)) r2⟩⟩
theorem Gf {ta tb tc : TE} {r : Enc α} {q : Enc β} {t : Enc γ} [z : MonoE r] [y : MonoE q] [x : MonoE t] {ma : Rs α} {mb : Rs β} {mc : Rs γ} (ha : EvS K Er S OO σ ta r ma) (hb : EvS K Er S OO σ tb q mb) (hc : EvS K Er S OO σ tc t mc) :
    EvS K Er S OO σ (EM (X1 ta (X1 tb (X1 tc QF)))) (rP3 r q t) (ma.bind fun a=>mb.bind fun b=>mc.bind fun c=>.ok (a, b, c)):=fun H Q w s P=>
  ha.run w s FS.tr P fun a x' H1 s1 w1 q1 r1 P1=>hb.run w1 q1 FS.tr P1 fun b y' H2 s2 w2 q2 r2 P2=>hc.run w2 q2 FS.tr P2 fun c z' H3 s3 w3 q3 r3 P3=>
    ⟨by show 3 <= sizeLine; decide, fun p hp=>P3 _ _ (Xy hp _) ⟨p, x', y', z', rfl, ZA w3 hp, z.mono (((Xj s2).trans (Xj s3)).trans (Xj (Xy hp _))) r1, y.mono ((Xj s3).trans (Xj (Xy hp _))) r2, x.mono (Xj (Xy hp _)) r3⟩⟩
end
end L2
namespace L2
open PySem PySem.Spec PyProof.Rows
section
variable {K : PySem.W.Frag} {Er : Exc -> Hp -> Prop} {S : SC} {OO OO' OO2 : List (List XF)} {σ : St} {α β γ ρ ι : Type} {α1 α2 α3 α4 α5 α6 : Type}
noncomputable def noE (m : Rs α) : Rs α:=match m with
  | .ok a=>.ok a
  | _=>.bad
theorem KJ {m : Rs α} {a : α} (h : noE m = .ok a) : m = .ok a:=by
  cases m with
  | ok b=>exact h
  | bad=>cases h
  | err x=>cases h
theorem UA {m : Rs α} {x : Exc} : noE m ≠ .err x:=by cases m <;> exact fun z=>nomatch z
noncomputable def FF (K : PySem.W.Frag) (o : OE α) (Q : VK) (a : α) (H : Hp) : Prop:=∀ v C H', W [C] H' -> Xu H (hid H' [C]) -> o K (hid H' [C]) v a C -> Q v H'
noncomputable def sp1 (r1 : Enc α1) (o : OE ρ) (f : α1 -> Rs ρ) (K : PySem.W.Frag) : Sp:=fun vs H Q _=>∃ v1 a1 b, vs = [v1] /\ r1 K H v1 a1 /\ f a1 = .ok b /\ FF K o Q b H
noncomputable def sp2 (r1 : Enc α1) (r2 : Enc α2) (o : OE ρ) (f : α1 -> α2 -> Rs ρ) (K : PySem.W.Frag) : Sp:=fun vs H Q _=>∃ v1 v2 a1 a2 b, vs = [v1, v2] /\ r1 K H v1 a1 /\ r2 K H v2 a2 /\ f a1 a2 = .ok b /\ FF K o Q b H
noncomputable def sp3 (r1 : Enc α1) (r2 : Enc α2) (r3 : Enc α3) (o : OE ρ) (f : α1 -> α2 -> α3 -> Rs ρ) (K : PySem.W.Frag) : Sp:=fun vs H Q _=>∃ v1 v2 v3 a1 a2 a3 b, vs = [v1, v2, v3] /\ r1 K H v1 a1 /\ r2 K H v2 a2 /\ r3 K H v3 a3 /\ f a1 a2 a3 = .ok b /\ FF K o Q b H
noncomputable def sp4 (r1 : Enc α1) (r2 : Enc α2) (r3 : Enc α3) (r4 : Enc α4) (o : OE ρ) (f : α1 -> α2 -> α3 -> α4 -> Rs ρ) (K : PySem.W.Frag) : Sp:=fun vs H Q _=>∃ v1 v2 v3 v4 a1 a2 a3 a4 b, vs = [v1, v2, v3, v4] /\ r1 K H v1 a1 /\ r2 K H v2 a2 /\ r3 K H v3 a3 /\ r4 K H v4 a4 /\ f a1 a2 a3 a4 = .ok b /\ FF K o Q b H
theorem Ib {C : List XF} {H H' : Hp} (w : W OO H) (w' : W [C] H') (m' : Xu H (hid H' [C])) : W (C :: OO) H' /\ Xu (hid H OO) (hid H' (C :: OO)) /\ Jl (hid H' [C]) (hid H' (C :: OO)):=by
  have s : Xu H H':=m'.trans Xt
  have f1 : fl [C] = C.map (·.1):=by simp [fl]
  have hd : ∀ b, b ∈ fl OO -> b ∉ C.map (·.1):=fun b hb hc=>by
    obtain ⟨u, hu⟩:=Fo hb
    exact (XX (m' _ _ (w.tr _ hu))).2 (by rw [f1]; exact hc)
  have w2 : W (C :: OO) H':=by
    refine ⟨fun c hc=>?_, ?_, fun c hc=>?_⟩
    . rw [List.flatten_cons, List.mem_append] at hc
      rcases hc with hc | hc
      . exact w'.tr c (by simp [hc])
      . exact s _ _ (w.tr c hc)
    . rw [X2]
      refine List.nodup_append.mpr ⟨by rw [← f1]; exact w'.nd, w.nd, fun a ha b hb e=>?_⟩
      subst e; exact hd a hb ha
    . rw [List.flatten_cons, List.mem_append] at hc
      rcases hc with hc | hc
      . exact w'.mu c (by simp [hc])
      . exact w.mu c hc
  refine ⟨w2, fun b u q=>?_, fun b u q i=>?_⟩
  . obtain ⟨q1, q2⟩ := XX q
    obtain ⟨q3, q4⟩:=XX (m' _ _ q1)
    refine Zp q3 ?_
    rw [X2, List.mem_append]
    exact fun z=>z.elim (fun z=>q4 (by rw [f1]; exact z)) q2
  . exact w2.i b u (XX q).1 i
theorem VW {o : OE α} [z : FlatO o] {Q : VK} {b : α} {H : Hp} (w : W OO H) (P : FO K OO OO o Q b H) : FF K o Q b H:=fun v C H' w' m' ho=>by
  obtain ⟨w2, h2, h3⟩:=Ib w w' m'
  exact P v C H' (m'.trans Xt) w2 h2 (z.flat h3 ho)
theorem YN {ta : TE} {r1 : Enc α1} {o : OE ρ} [FlatO o] {f : α1 -> Rs ρ} {ma : Rs α1} (ha : EvB K Er S OO σ ta r1 ma) : Ev K Er S OO OO σ (GF (sp1 r1 o f K) [] E0 (X1 ta QF)) o (ma.bind fun a=>noE (f a)):=fun H Q w s P=>
  ha.run w s FO.tr P fun a x H1 s1 w1 q1 r1 P1=>by
    obtain ⟨b, hb, P2⟩:=P1.okOf fun x=>UA
    exact ⟨x, a, b, rfl, r1, KJ hb, VW w1 P2⟩
theorem YM {ta tb : TE} {r1 : Enc α1} {r2 : Enc α2} [z1 : MonoE r1] {o : OE ρ} [FlatO o] {f : α1 -> α2 -> Rs ρ} {ma : Rs α1} {mb : Rs α2} (ha : EvB K Er S OO σ ta r1 ma) (hb : EvB K Er S OO σ tb r2 mb) :
    Ev K Er S OO OO σ (GF (sp2 r1 r2 o f K) [] E0 (X1 ta (X1 tb QF))) o (ma.bind fun a=>mb.bind fun b=>noE (f a b)):=fun H Q w s P=>
  ha.run w s FO.tr P fun a x H1 s1 w1 q1 r1 P1=>hb.run w1 q1 FO.tr P1 fun b y H2 s2 w2 q2 r2 P2=>by
    obtain ⟨c, hc, P3⟩:=P2.okOf fun x=>UA
    exact ⟨x, y, a, b, c, rfl, z1.mono s2 r1, r2, KJ hc, VW w2 P3⟩
theorem Zb {ta tb tc : TE} {r1 : Enc α1} {r2 : Enc α2} {r3 : Enc α3} [z1 : MonoE r1] [z2 : MonoE r2] {o : OE ρ} [FlatO o] {f : α1 -> α2 -> α3 -> Rs ρ} {ma : Rs α1} {mb : Rs α2} {mc : Rs α3} (ha : EvB K Er S OO σ ta r1 ma) (hb : EvB K Er S OO σ tb r2 mb) (hc : EvB K Er S OO σ tc r3 mc) :
    Ev K Er S OO OO σ (GF (sp3 r1 r2 r3 o f K) [] E0 (X1 ta (X1 tb (X1 tc QF)))) o (ma.bind fun a=>mb.bind fun b=>mc.bind fun c=>noE (f a b c)):=fun H Q w s P=>
  ha.run w s FO.tr P fun a x H1 s1 w1 q1 r1 P1=>hb.run w1 q1 FO.tr P1 fun b y H2 s2 w2 q2 r2 P2=>hc.run w2 q2 FO.tr P2 fun c z H3 s3 w3 q3 r3 P3=>by
    obtain ⟨d, hd, P4⟩:=P3.okOf fun x=>UA
    exact ⟨x, y, z, a, b, c, d, rfl, z1.mono (s2.trans s3) r1, z2.mono s3 r2, r3, KJ hd, VW w3 P4⟩
theorem ZM {ta tb tc td : TE} {r1 : Enc α1} {r2 : Enc α2} {r3 : Enc α3} {r4 : Enc α4} [z1 : MonoE r1] [z2 : MonoE r2] [z3 : MonoE r3] {o : OE ρ} [FlatO o] {f : α1 -> α2 -> α3 -> α4 -> Rs ρ} {ma : Rs α1} {mb : Rs α2} {mc : Rs α3} {md : Rs α4} (ha : EvB K Er S OO σ ta r1 ma) (hb : EvB K Er S OO σ tb r2 mb) (hc : EvB K Er S OO σ tc r3 mc) (hd : EvB K Er S OO σ td r4 md) :
    Ev K Er S OO OO σ (GF (sp4 r1 r2 r3 r4 o f K) [] E0 (X1 ta (X1 tb (X1 tc (X1 td QF))))) o (ma.bind fun a=>mb.bind fun b=>mc.bind fun c=>md.bind fun d=>noE (f a b c d)):=fun H Q w s P=>
  ha.run w s FO.tr P fun a x H1 s1 w1 q1 r1 P1=>hb.run w1 q1 FO.tr P1 fun b y H2 s2 w2 q2 r2 P2=>hc.run w2 q2 FO.tr P2 fun c z H3 s3 w3 q3 r3 P3=>hd.run w3 q3 FO.tr P3 fun d u H4 s4 w4 q4 r4 P4=>by
    obtain ⟨e, he, P5⟩:=P4.okOf fun x=>UA
    exact ⟨x, y, z, u, a, b, c, d, e, rfl, z1.mono (s2.trans (s3.trans s4)) r1, z2.mono (s3.trans s4) r2, z3.mono s4 r3, r4, KJ he, VW w4 P5⟩
structure Jn (γ ι : Type) where
  oo : ι -> List (List XF)
  ss : ι -> St
  sc : γ -> ι -> SC
inductive Ctl (ρ γ : Type) where
  | ret (r : ρ) | nx (g : γ)
noncomputable def FTd (K : PySem.W.Frag) (o : OE ρ) (D : Ends) (r : ρ) (h : Hp) : Prop:=∀ v C OO' H', W (C :: OO') H' -> Xu h (hid H' (C :: OO')) -> o K (hid H' (C :: OO')) v r C -> D.rt v H'
noncomputable def FNd (J : Jn γ ι) (D : Ends) (g : γ) (h : Hp) : Prop:=∀ x H', W (J.oo x) H' -> Xu h (hid H' (J.oo x)) -> (J.sc g x).p (hid H' (J.oo x)) -> D.nx (J.ss x) H'
noncomputable def FCd (K : PySem.W.Frag) (o : OE ρ) (J : Jn γ ι) (D : Ends) (c : Ctl ρ γ) (h : Hp) : Prop:=match c with
  | .ret r=>FTd K o D r h
  | .nx g=>FNd J D g h
class FdOk (Fd : Ends -> β -> Hp -> Prop) : Prop where
  tr : ∀ D b h h', Xu h h' -> Fd D b h -> Fd D b h'
instance {o : OE ρ} : FdOk (FTd K o):=⟨fun D b h h' s q v C O H' w m x=>q v C O H' w (s.trans m) x⟩
instance {J : Jn γ ι} : FdOk (FNd J):=⟨fun D b h h' s q x H' w m y=>q x H' w (s.trans m) y⟩
instance {o : OE ρ} {J : Jn γ ι} : FdOk (FCd K o J):=⟨fun D b h h' s q=>by
  cases b with
  | ret r=>exact fun v C O H' w m x=>q v C O H' w (s.trans m) x
  | nx g=>exact fun x H' w m y=>q x H' w (s.trans m) y⟩
theorem PZ.tr {F : β -> Hp -> Prop} (hF : ∀ b H H', Xu H H' -> F b H -> F b H') {H H' : Hp} {m : Rs β} (s : Xu H H') (P : PZ Er F H m) : PZ Er F H' m:=by
  cases m with
  | bad=>exact P
  | err x=>exact fun H2 s2=>P H2 (s.trans s2)
  | ok b=>exact hF b H H' s P
noncomputable def Sv (Er : Exc -> Hp -> Prop) (S : SC) (OO : List (List XF)) (σ : St) (t : TS) (Fd : Ends -> β -> Hp -> Prop) (m : Rs β) : Prop:=∀ H D, W OO H -> S.p (hid H OO) -> PZ Er (Fd D) (hid H OO) m -> t D σ H
variable {Fd : Ends -> β -> Hp -> Prop} [fd : FdOk Fd] {u : TS}
theorem Ev.st {te : TE} {o : OE α} {m : Rs α} (he : Ev K Er S OO OO' σ te o m) {H : Hp} {D : Ends} {Q : VK} (w : W OO H) (s : S.p (hid H OO)) {f : α -> Rs β} (P : PZ Er (Fd D) (hid H OO) (m.bind f))
    (hk : ∀ a v C H', W (C :: OO') H' -> S.p (hid H' (C :: OO')) -> o K (hid H' (C :: OO')) v a C -> PZ Er (Fd D) (hid H' (C :: OO')) (f a) -> Q v H') : te σ H Q:=by
  refine he H Q w s ?_
  cases m with
  | bad=>exact P
  | err x=>exact fun H' s'=>P H' (Xt.trans s')
  | ok a=>exact fun v C H' s' w' m' ho=>hk a v C H' w' (S.mono _ _ m' s) ho (PZ.tr (fd.tr D) m' P)
theorem EvB.st {te : TE} {r : Enc α} {m : Rs α} (he : EvB K Er S OO σ te r m) {H : Hp} {D : Ends} {Q : VK} (w : W OO H) (s : S.p (hid H OO)) {f : α -> Rs β} (P : PZ Er (Fd D) (hid H OO) (m.bind f))
    (hk : ∀ a v H', Xu H H' -> W OO H' -> S.p (hid H' OO) -> r K H' v a -> PZ Er (Fd D) (hid H' OO) (f a) -> Q v H') : te σ H Q:=by
  refine he H Q w s ?_
  cases m with
  | bad=>exact P
  | err x=>exact fun H' s'=>P H' (Xt.trans s')
  | ok a=>exact fun v H' s' hr=>hk a v H' s' (w.keep s') (S.mono _ _ (Xj s') s) hr (PZ.tr (fd.tr D) (Xj s') P)
theorem EvS.st {te : TE} {r : Enc α} {m : Rs α} (he : EvS K Er S OO σ te r m) {H : Hp} {D : Ends} {Q : VK} (w : W OO H) (s : S.p (hid H OO)) {f : α -> Rs β} (P : PZ Er (Fd D) (hid H OO) (m.bind f))
    (hk : ∀ a v H', Xu H H' -> W OO H' -> S.p (hid H' OO) -> r K (hid H' OO) v a -> PZ Er (Fd D) (hid H' OO) (f a) -> Q v H') : te σ H Q:=by
  refine he H Q w s ?_
  cases m with
  | bad=>exact P
  | err x=>exact fun H' s'=>P H' (Xt.trans s')
  | ok a=>exact fun v H' s' hr=>hk a v H' s' (w.keep s') (S.mono _ _ (Xj s') s) hr (PZ.tr (fd.tr D) (Xj s') P)
theorem EvT.st {tt : TT} {m : Rs Bool} (he : EvT Er S OO σ tt m) {H : Hp} {D : Ends} {Q : Bool -> Hp -> Prop} (w : W OO H) (s : S.p (hid H OO)) {f : Bool -> Rs β} (P : PZ Er (Fd D) (hid H OO) (m.bind f))
    (hk : ∀ b H', W OO H' -> S.p (hid H' OO) -> PZ Er (Fd D) (hid H' OO) (f b) -> Q b H') : tt σ H Q:=by
  refine he H Q w s ?_
  cases m with
  | bad=>exact P
  | err x=>exact fun H' s'=>P H' (Xt.trans s')
  | ok a=>exact fun H' s'=>hk a H' (w.keep s') (S.mono _ _ (Xj s') s) (PZ.tr (fd.tr D) (Xj s') P)
theorem VM {OO : List (List XF)} {k : Nat} {C : List XF} : (OO.set k C).set k [] = OO.set k []:=by simp
theorem IW {C : List XF} {H : Hp} {k : Nat} (w : W (C :: OO) H) (hk : k < OO.length) : W (OO.set k C) H /\ Xu (hid H (C :: OO)) (hid H (OO.set k C)):=by
  have h1:=Yd (OO:=OO) (k:=k) (C:=OO[k]) (by simp [hk])
  have h2:=Yd (OO:=OO.set k C) (k:=k) (C:=C) (by simp [hk])
  rw [VM] at h2
  have h3 : (OO.set k C).flatten.Perm (C ++ (OO.set k []).flatten):=by simpa using h2.symm
  have h4 : (C :: OO).flatten.Perm (C ++ (OO[k] ++ (OO.set k []).flatten)):=by
    rw [List.flatten_cons]; exact (by simpa using h1.symm : OO.flatten.Perm (OO[k] ++ (OO.set k []).flatten)).append_left C
  have h5 : (C ++ (OO.set k []).flatten).Sublist (C ++ (OO[k] ++ (OO.set k []).flatten)):=List.Sublist.append (List.Sublist.refl _) (List.sublist_append_right _ _)
  have w1 : W [C ++ (OO[k] ++ (OO.set k []).flatten)] H:=w.of (by simpa using h4.symm)
  have w2 : W [C ++ (OO.set k []).flatten] H:=w1.sub (by simpa using h5)
  refine ⟨w2.of (by simpa using h3), Qs (Xu.refl _) fun b hb=>?_⟩
  obtain ⟨o, ho⟩:=Fo hb
  exact Q5 (h4.mem_iff.mpr (h5.mem (h3.mem_iff.mp ho)))
theorem XQ {te : TE} {o : OE α} [MonoO o] {m : Rs α} {f : α -> Rs β} (i k : Nat) (he : Ev K Er S OO OO' σ te o m) (hk : k < OO'.length) (hr : ∀ a v C, Sv Er (S.addO K o v a C) (OO'.set k C) (σ.set i (some v)) u Fd (f a)) : Sv Er S OO σ (Je (Cy te (Zl i)) u) Fd (m.bind f):=fun H D w s P=>
  he.st w s P fun a v C H' w' s' ho P'=>by
    obtain ⟨w2, h2⟩:=IW w' hk
    exact hr a v C H' D w2 ⟨S.mono _ _ h2 s', MonoO.mono h2 ho⟩ (PZ.tr (fd.tr D) h2 P')
theorem Xv {te : TE} {r : Enc α} [MonoE r] {m : Rs α} {f : α -> Rs β} (i : Nat) (he : EvS K Er S OO σ te r m) (hr : ∀ a v, Sv Er (S.add K r v a) OO (σ.set i (some v)) u Fd (f a)) : Sv Er S OO σ (Je (Cy te (Zl i)) u) Fd (m.bind f):=fun H D w s P=>
  he.st w s P fun a v H' s1 w' s' ho P'=>hr a v H' D w' ⟨s', ho⟩ P'
theorem XT {te : TE} {o : OE ρ} {m : Rs ρ} (he : Ev K Er S OO OO' σ te o m) : Sv Er S OO σ (Je (IR te) u) (FTd K o) m:=fun H D w s P=>
  he H _ w s (by
    cases m with
    | bad=>exact P
    | err x=>exact fun H' s'=>P H' (Xt.trans s')
    | ok a=>exact fun v C H' s' w' m' ho=>P v C OO' H' w' m' ho)
theorem Ux {J : Jn γ ι} {t : TS} {o : OE ρ} {m : Rs γ} (h : Sv Er S OO σ t (FNd J) m) : Sv Er S OO σ t (FCd K o J) (m.bind fun r=>.ok (.nx r)):=fun H D w s P=>h H D w s (by
  cases m with
  | bad=>exact P
  | err x=>exact P
  | ok a=>exact P)
theorem XC {J : Jn γ ι} (x : ι) (g : γ) (h1 : OO = J.oo x) (h2 : σ = J.ss x) (h3 : ∀ h, S.p h -> (J.sc g x).p h) : Sv Er S OO σ FQ (FNd J) (.ok g):=fun H D w s P=>by
  subst h1 h2
  exact P x H w (Xu.refl _) (h3 _ s)
theorem HL {t : TS} : Sv Er S OO σ t Fd .bad:=fun H D w s P=>P.elim
theorem KL {o : OE ρ} {c : TT} {t1 : TS} {mc : Rs Bool} {m1 m2 : Rs ρ} (hc : EvT Er S OO σ c mc) (h1 : Sv Er S OO σ t1 (FTd K o) m1) (h2 : Sv Er S OO σ u (FTd K o) m2) : Sv Er S OO σ (Je (EV c t1 FQ) u) (FTd K o) (mc.bind fun b=>if b = true then m1 else m2):=fun H D w s P=>
  hc.st (Fd:=FTd K o) w s P fun b H' w' s' P'=>by
    cases b with
    | true=>rw [if_pos rfl] at P' ⊢; exact h1 H' _ w' s' P'
    | false=>exact h2 H' D w' s' P'
theorem Ug {o : OE ρ} {J : Jn γ ι} {c : TT} {t1 : TS} {mc : Rs Bool} {m1 : Rs ρ} {m2 : Rs (Ctl ρ γ)} (hc : EvT Er S OO σ c mc) (h1 : Sv Er S OO σ t1 (FTd K o) m1) (h2 : Sv Er S OO σ u (FCd K o J) m2) : Sv Er S OO σ (Je (EV c t1 FQ) u) (FCd K o J) (mc.bind fun b=>if b = true then m1.bind (fun r=>.ok (.ret r)) else m2):=fun H D w s P=>
  hc.st (Fd:=FCd K o J) w s P fun b H' w' s' P'=>by
    cases b with
    | true=>
      rw [if_pos rfl] at P' ⊢
      refine h1 H' _ w' s' ?_
      cases m1 with
      | bad=>exact P'
      | err x=>exact P'
      | ok a=>exact P'
    | false=>exact h2 H' D w' s' P'
theorem Z7 {c : TT} {t1 t2 : TS} {mc : Rs Bool} {m1 m2 : Rs β} (hc : EvT Er S OO σ c mc) (h1 : Sv Er S OO σ t1 Fd m1) (h2 : Sv Er S OO σ t2 Fd m2) : Sv Er S OO σ (EV c t1 t2) Fd (mc.bind fun b=>if b = true then m1 else m2):=fun H D w s P=>
  hc.st w s P fun b H' w' s' P'=>by
    cases b with
    | true=>rw [if_pos rfl] at P' ⊢; exact h1 H' _ w' s' P'
    | false=>exact h2 H' D w' s' P'
theorem ZC {J : Jn γ ι} {t : TS} {m : Rs γ} {f : γ -> Rs β} (hb : Sv Er S OO σ t (FNd J) m) (hr : ∀ g x, Sv Er (J.sc g x) (J.oo x) (J.ss x) u Fd (f g)) : Sv Er S OO σ (Je t u) Fd (m.bind f):=fun H D w s P=>
  hb H _ w s (by
    cases m with
    | bad=>exact P
    | err x=>exact P
    | ok g=>exact fun x H' w' m' q=>hr g x H' D w' q (PZ.tr (fd.tr D) m' P))
noncomputable def Ql (f : γ -> Rs ρ) : Ctl ρ γ -> Rs ρ
  | .ret r=>.ok r
  | .nx g=>f g
theorem Eh {o : OE ρ} {J : Jn γ ι} {t : TS} {m : Rs (Ctl ρ γ)} {f : γ -> Rs ρ} (hb : Sv Er S OO σ t (FCd K o J) m) (hr : ∀ g x, Sv Er (J.sc g x) (J.oo x) (J.ss x) u (FTd K o) (f g)) : Sv Er S OO σ (Je t u) (FTd K o) (m.bind (Ql f)):=fun H D w s P=>
  hb H _ w s (by
    cases m with
    | bad=>exact P
    | err x=>exact P
    | ok g=>
      cases g with
      | ret r=>exact P
      | nx g=>exact fun x H' w' m' q=>hr g x H' D w' q (PZ.tr (FdOk.tr D) m' P))
theorem Sv.weak {S2 : SC} {t : TS} {m : Rs β} (h : Sv Er S2 OO σ t Fd m) (hs : ∀ x, S.p x -> S2.p x) : Sv Er S OO σ t Fd m:=fun H D w s P=>h H D w (hs _ s) P
theorem IY {C D C' : List XF} {H : Hp} {k : Nat} {p : Addr} {o : HO} (w : W (D :: OO) H) (hk : OO[k]? = some C) (hp : p ∈ C.map (·.1)) (hC : (C'.map (·.1)).Perm ((C ++ D).map (·.1))) (ht : ∀ c ∈ C', upd H p o c.1 = some c.2) (hm : ∀ c ∈ C', EN c.2 = true) :
    W (OO.set k C') (upd H p o) /\ hid (upd H p o) (OO.set k C') = hid H (D :: OO):=by
  have hlt : k < OO.length:=by
    rcases Nat.lt_or_ge k OO.length with h | h
    . exact h
    . rw [List.getElem?_eq_none h] at hk; cases hk
  have h1:=Yd hk
  have h2:=Yd (OO:=OO.set k C') (k:=k) (C:=C') (by simp [hlt])
  rw [VM] at h2
  have h3 : (OO.set k C').flatten.Perm (C' ++ (OO.set k []).flatten):=by simpa using h2.symm
  have h4 : (D :: OO).flatten.Perm (D ++ (C ++ (OO.set k []).flatten)):=by
    rw [List.flatten_cons]; exact (by simpa using h1.symm : OO.flatten.Perm (C ++ (OO.set k []).flatten)).append_left D
  have hfl : (fl (OO.set k C')).Perm (fl (D :: OO)):=by
    unfold fl
    refine (h3.map _).trans (List.Perm.trans ?_ (h4.map _).symm)
    simp only [List.map_append]
    refine (hC.append_right _).trans ?_
    simp only [List.map_append]
    rw [← List.append_assoc]
    exact List.perm_append_comm.append_right _
  have nd:=w.nd
  refine ⟨⟨fun c hc=>?_, hfl.nodup_iff.mpr nd, fun c hc=>?_⟩, ?_⟩
  . rcases List.mem_append.mp (h3.mem_iff.mp hc) with hc | hc
    . exact ht c hc
    . have hne : c.1 ≠ p:=fun e=>by
        have nd2 : ((D ++ (C ++ (OO.set k []).flatten)).map (·.1)).Nodup:=(h4.map _).nodup_iff.mp nd
        simp only [List.map_append] at nd2
        have nd3:=(List.nodup_append.mp nd2).2.1
        exact (List.nodup_append.mp nd3).2.2 p hp c.1 (List.mem_map.mpr ⟨c, hc, rfl⟩) e.symm
      rw [Xq hne]
      exact w.tr c (h4.mem_iff.mpr (by simp [hc]))
  . rcases List.mem_append.mp (h3.mem_iff.mp hc) with hc | hc
    . exact hm c hc
    . exact w.mu c (h4.mem_iff.mpr (by simp [hc]))
  . funext b
    unfold hid
    by_cases hb : b ∈ fl (D :: OO)
    . rw [if_pos hb, if_pos (hfl.mem_iff.mpr hb)]
    . rw [if_neg hb, if_neg fun z => hb (hfl.mem_iff.mp z)]
      refine Xq fun e=>hb ?_
      rw [e]
      obtain ⟨c, hc, rfl⟩:=List.mem_map.mp hp
      exact Q5 (h4.mem_iff.mpr (by simp [hc]))
theorem ZG {Cs : List (List XF)} {D : List XF} : (Cs ++ [D]).flatten = Cs.flatten ++ D:=by simp
theorem ZH {ta : TE} {o : OE α} [MonoO o] {m : Rs α} {f : List α -> Rs β} {v : V} {as : List α} {C : List XF} (i k : Nat) (hσ : σ[i]? = some (some v)) (hk : OO[k]? = some C) (hk' : OO'[k]? = some C) (h : ∀ x, S.p x -> oL o K x v as C) (he : Ev K Er S OO OO' σ ta o m)
    (hr : ∀ a C', Sv Er (S.addO K (oL o) v (as ++ [a]) C') (OO'.set k C') σ u Fd (f (as ++ [a]))) : Sv Er S OO σ (Je (Gx (tBM K "list" VI (U2 i) (X1 ta QF))) u) Fd (m.bind fun a=>chk (as.length < sizeLine) (f (as ++ [a]))):=fun H D w s P=>by
  obtain ⟨p, xs, Cs, e, q, c⟩:=h _ s
  subst c
  have hH : H p = some (.lst xs):=w.tr (p, .lst xs) (List.mem_flatten.mpr ⟨_, List.mem_of_getElem? hk, List.mem_cons_self⟩)
  refine ⟨v, hσ, by rw [e]; exact .inl ⟨rfl, _, SqL.of hH⟩, he.st w s P fun a y D' H' w' s' ho P'=>?_⟩
  obtain ⟨p', xs', Cs', e2, q2, c2⟩:=h _ s'
  rw [e] at e2; cases e2
  have c3 : (p, HO.lst xs) = (p, HO.lst xs') /\ Cs.flatten = Cs'.flatten:=by
    injection c2 with h1 h2
    exact ⟨h1, h2⟩
  obtain ⟨c3, c4⟩:=c3
  cases c3
  have hH' : H' p = some (.lst xs):=w'.tr (p, .lst xs) (by rw [List.flatten_cons]; exact List.mem_append_right _ (List.mem_flatten.mpr ⟨_, List.mem_of_getElem? hk', List.mem_cons_self⟩))
  cases hlt : decide (as.length < sizeLine) with
  | false=>rw [chk, if_neg (by simpa using hlt)] at P'; exact P'.elim
  | true=>
    have hlt' : as.length < sizeLine:=by simpa using hlt
    rw [Xw hlt'] at P'
    have wnd:=w'.nd
    have hcell : ∀ c ∈ (p, HO.lst (xs ++ [y])) :: (Cs' ++ [D']).flatten, upd H' p (.lst (xs ++ [y])) c.1 = some c.2:=fun c hc=>by
      rcases List.mem_cons.mp hc with rfl | hc
      . exact Yj
      . have hp1 := Yd hk'
        have w3 : W [D' ++ (((p, HO.lst xs) :: Cs.flatten) ++ (OO'.set k []).flatten)] H':=w'.of (by
          simp only [List.flatten_cons, List.flatten_nil, List.append_nil]
          exact (by simpa using hp1 : (((p, HO.lst xs) :: Cs.flatten) ++ (OO'.set k []).flatten).Perm OO'.flatten).append_left D')
        have hin : c ∈ D' ++ (((p, HO.lst xs) :: Cs.flatten) ++ (OO'.set k []).flatten):=by
          rw [ZG, List.mem_append] at hc
          rcases hc with hc | hc
          . rw [← c4] at hc; simp [hc]
          . simp [hc]
        have hne : c.1 ≠ p:=fun ee=>by
          have nd3:=w3.nd
          rw [ZG, List.mem_append, ← c4] at hc
          simp only [fl, List.flatten_cons, List.flatten_nil, List.append_nil, List.map_append, List.cons_append, List.map_cons] at nd3
          rw [List.nodup_append] at nd3
          obtain ⟨_, n2, n3⟩:=nd3
          rcases hc with hc | hc
          . exact (List.nodup_cons.mp n2).1 (List.mem_append_left _ (List.mem_map.mpr ⟨c, hc, ee⟩))
          . exact n3 c.1 (List.mem_map.mpr ⟨c, hc, rfl⟩) p List.mem_cons_self ee
        rw [Xq hne]
        exact w3.tr c (by simpa using hin)
    obtain ⟨w4, h4⟩:=IY (C':=(p, .lst (xs ++ [y])) :: (Cs' ++ [D']).flatten) w' hk' List.mem_cons_self (by simp [ZG, c4]) hcell (fun c hc=>by
      rcases List.mem_cons.mp hc with rfl | hc
      . rfl
      . rw [ZG, List.mem_append, ← c4] at hc
        rcases hc with hc | hc
        . exact w'.mu c (by rw [List.flatten_cons]; exact List.mem_append_right _ (List.mem_flatten.mpr ⟨_, List.mem_of_getElem? hk', List.mem_cons_of_mem _ hc⟩))
        . exact w'.mu c (by rw [List.flatten_cons]; exact List.mem_append_left _ hc))
    refine ⟨p, xs, y, e, rfl, hH', by rw [(P3.len q).1]; exact hlt', ?_⟩
    refine hr a _ _ D w4 ?_ (by rw [h4]; exact P')
    rw [h4]
    exact ⟨s', ⟨p, xs ++ [y], Cs' ++ [D'], e, q2.snoc ho, rfl⟩⟩
end
end L2
namespace L2
open PySem PySem.Spec PyProof.Rows
section
variable {K : PySem.W.Frag} {Er : Exc -> Hp -> Prop} {S : SC} {OO OO' OO2 : List (List XF)} {σ : St} {α β γ ρ ι δ ε : Type}
variable {Fd : Ends -> β -> Hp -> Prop} [fd : FdOk Fd] {u : TS}
noncomputable def forN : List α -> γ -> (γ -> α -> Rs γ) -> Rs γ
  | [], g, _=>.ok g
  | a :: as, g, f=>(f g a).bind fun g'=>forN as g' f
noncomputable def forC : List α -> γ -> (γ -> α -> Rs (Ctl ρ γ)) -> Rs (Ctl ρ γ)
  | [], g, _=>.ok (.nx g)
  | a :: as, g, f=>(f g a).bind fun c=>match c with
    | .ret r=>.ok (.ret r)
    | .nx g'=>forC as g' f
theorem Yn {m : Rs α} {f : α -> Rs β} {g : β -> Rs γ} : (m.bind f).bind g = m.bind fun a=>(f a).bind g:=by cases m <;> rfl
structure Tgt (K : PySem.W.Frag) (OO : List (List XF)) (g : TG) (r : Enc α) (κ : Type) where
  set : κ -> St -> St
  sc : α -> κ -> SC -> SC
  ok : ∀ {H : Hp} {v : V} {a : α} {σ : St} {S : SC} {Q : St -> Hp -> Prop}, r K (hid H OO) v a -> S.p (hid H OO) -> (∀ x, (sc a x S).p (hid H OO) -> Q (set x σ) H) -> g v σ H Q
noncomputable def tg1 {r : Enc α} [MonoE r] (i : Nat) : Tgt K OO (Zl i) r V where
  set:=fun v σ=>σ.set i (some v)
  sc:=fun a v S=>S.add K r v a
  ok:=fun {H v a σ S Q} hr hs hq=>hq v ⟨hs, hr⟩
noncomputable def tg2 {r : Enc α} {q : Enc β} [MonoE r] [MonoE q] (i j : Nat) : Tgt K OO (Bv K 2 (Z0 (Zl i) (Z0 (Zl j) El))) (rP2 r q) (V × V) where
  set:=fun v σ=>(σ.set i (some v.1)).set j (some v.2)
  sc:=fun a v S=>(S.add K r v.1 a.1).add K q v.2 a.2
  ok:=fun {H v a σ S Q} r9 hs hq=>by obtain ⟨p, x, y, e, h, h1, h2⟩:=r9; exact ⟨p, _, e, SqT.of (Xt _ _ h), rfl, x, [y], rfl, y, [], rfl, rfl, hq (x, y) ⟨⟨hs, h1⟩, h2⟩⟩
noncomputable def tg3 {r : Enc α} {q : Enc β} {t : Enc γ} [MonoE r] [MonoE q] [MonoE t] (i j k : Nat) : Tgt K OO (Bv K 3 (Z0 (Zl i) (Z0 (Zl j) (Z0 (Zl k) El)))) (rP3 r q t) (V × V × V) where
  set:=fun v σ=>((σ.set i (some v.1)).set j (some v.2.1)).set k (some v.2.2)
  sc:=fun a v S=>((S.add K r v.1 a.1).add K q v.2.1 a.2.1).add K t v.2.2 a.2.2
  ok:=fun {H v a σ S Q} r9 hs hq=>by obtain ⟨p, x, y, z, e, h, h1, h2, h3⟩:=r9; exact ⟨p, _, e, SqT.of (Xt _ _ h), rfl, x, [y, z], rfl, y, [z], rfl, z, [], rfl, rfl, hq (x, y, z) ⟨⟨⟨hs, h1⟩, h2⟩, h3⟩⟩
structure Walk (K : PySem.W.Frag) (Er : Exc -> Hp -> Prop) (S : SC) (OO : List (List XF)) (σ : St) (wi : TI) (r : Enc α) (m : Rs (List α)) : Prop where
  ok : ∀ {H : Hp} {R : It -> Hp -> Prop}, W OO H -> S.p (hid H OO) -> PZ Er (fun as H=>∀ J H', Xu H H' ->
      (∀ (i : Nat) a, as[i]? = some a -> ∀ OO2 H2, W OO2 H2 -> Xu (hid H' OO) (hid H2 OO2) -> J.go i H2 /\ ∀ x H3, J.yld i H2 x H3 -> Xu H2 H3 /\ r K (hid H3 OO2) x a) ->
      (∀ OO2 H2, W OO2 H2 -> Xu (hid H' OO) (hid H2 OO2) -> J.stop as.length H2) -> R J H') H m -> wi σ H R
theorem XD {te : TE} {r : Enc α} [z : MonoE r] {m : Rs (List α)} (he : EvS K Er S OO σ te (rV r) m) : Walk K Er S OO σ (B8 K te) r m:=⟨fun {H R} w s P=>by
  refine he H _ w s (P.imp fun as _ h v H' s' ⟨p, xs, e, hp, pr⟩=>⟨p, e, ⟨xs, SqL.of (Xt _ _ hp)⟩, h _ H' s' ?_ ?_⟩)
  . intro i a ha OO2 H2 w2 m2
    obtain ⟨x, hx, rx⟩:=Paired.getR pr ha
    have hq : SqL K H2 p xs:=SqL.of (Xt _ _ (m2 _ _ hp))
    refine ⟨⟨xs, x, hq, hx⟩, fun y H3 r9=>?_⟩
    obtain ⟨e3, hy⟩:=r9
    subst e3
    refine ⟨Xu.refl _, ?_⟩
    have:=hy xs hq
    rw [hx] at this
    cases this
    exact z.mono m2 rx
  . intro OO2 H2 w2 m2
    exact ⟨xs, SqL.of (Xt _ _ (m2 _ _ hp)), by rw [Paired.len pr]; exact Nat.le_refl _⟩⟩
noncomputable def QU (as : List α) : List (Int × α):=(List.range as.length).map (fun (i : Nat)=>(i : Int)) |>.zip as
theorem JO {as : List α} {i : Nat} {p : Int × α} (h : (QU as)[i]? = some p) : p.1 = (i : Int) /\ as[i]? = some p.2:=by
  unfold QU at h
  rw [List.getElem?_zip_eq_some] at h
  obtain ⟨h1, h2⟩:=h
  rw [List.getElem?_map] at h1
  have hlt : i < as.length:=by
    rcases Nat.lt_or_ge i as.length with q | q
    . exact q
    . rw [List.getElem?_eq_none q] at h2; cases h2
  rw [List.getElem?_range hlt] at h1
  exact ⟨(Option.some.inj h1).symm, h2⟩
theorem F8 {as : List α} : (QU as).length = as.length:=by simp [QU]
theorem UT {te : TE} {r : Enc α} [z : MonoE r] {m : Rs (List α)} (he : EvS K Er S OO σ te (rV r) m) : Walk K Er S OO σ (He K te) (rP2 Xa r) (m.bind fun as=>.ok (QU as)):=⟨fun {H R} w s P=>by
  refine he H _ w s ?_
  cases em : m with
  | bad=>rw [em] at P; exact P
  | err x=>rw [em] at P; exact P
  | ok as=>
    rw [em] at P
    intro v H' s' ⟨p, xs, e, hp, pr⟩
    refine ⟨p, e, ⟨xs, SqL.of (Xt _ _ hp)⟩, P _ H' s' ?_ ?_⟩
    . intro i a ha OO2 H2 w2 m2
      obtain ⟨ha1, ha2⟩:=JO ha
      obtain ⟨x, hx, rx⟩:=Paired.getR pr ha2
      have hq : SqL K H2 p xs:=SqL.of (Xt _ _ (m2 _ _ hp))
      refine ⟨⟨xs, x, hq, hx⟩, fun y H3 h3=>?_⟩
      obtain ⟨b, x', rfl, hb, rfl, hy⟩:=h3
      have:=hy xs hq
      rw [hx] at this
      cases this
      refine ⟨Xy hb _, ⟨b, .int i, x, rfl, ZA w2 hb, by show V.int _ = V.int _; rw [ha1], z.mono (m2.trans (Xj (Xy hb _))) rx⟩⟩
    . intro OO2 H2 w2 m2
      exact ⟨xs, SqL.of (Xt _ _ (m2 _ _ hp)), by rw [F8, Paired.len pr]; exact Nat.le_refl _⟩⟩
theorem Gp {lo hi : Int} {i : Nat} {a : Int} (h : (QH lo hi)[i]? = some a) : a = lo + i /\ i < (hi - lo).toNat:=by
  unfold QH at h
  rw [List.getElem?_map] at h
  rcases Nat.lt_or_ge i (hi - lo).toNat with q | q
  . rw [List.getElem?_range q] at h; exact ⟨(Option.some.inj h).symm, q⟩
  . rw [List.getElem?_eq_none (by simpa using q)] at h; cases h
theorem Go {lo hi : Int} : (QH lo hi).length = (hi - lo).toNat:=by simp [QH]
noncomputable def KD (lo hi : Int) : Rs (List Int):=chk (-(2 ^ 62) <= lo /\ lo < 2 ^ 62 /\ -(2 ^ 62) <= hi /\ hi < 2 ^ 62) (.ok (QH lo hi))
theorem XY {te : TE} {m : Rs Int} (he : EvB K Er S OO σ te Xa m) : Walk K Er S OO σ (ER (X1 te QF)) Xa (m.bind fun n=>KD 0 n):=⟨fun {H R} w s P=>
  he.run w s (fun as H H' s' h J H2 s2=>h J H2 (s'.trans s2)) P fun n v H1 s1 w1 q1 r1 P1=>by
    obtain ⟨c, hc, P2⟩:=P1.okOf fun x=>Qm
    obtain ⟨⟨_, _, h1, h2⟩, h3⟩:=Zu hc
    cases h3
    refine ⟨n, by rw [show v = .int n from r1], h1, h2, P2 _ H1 (Xu.refl _) (fun i a ha OO2 H2 w2 m2=>?_) fun OO2 H2 w2 m2=>?_⟩
    . obtain ⟨e1, e2⟩ := Gp ha
      rw [Int.sub_zero] at e2
      refine ⟨e2, fun x H3 r9=>?_⟩
      obtain ⟨e3, e4⟩:=r9
      subst e3
      exact ⟨Xu.refl _, by rw [e4, e1]; rfl⟩
    . show n.toNat <= _
      rw [Go, Int.sub_zero]; exact Nat.le_refl _⟩
theorem Y7 {wi : TI} {g : TG} {tb : TS} {r : Enc α} {κ : Type} {m : Rs (List α)} {body : γ -> α -> Rs γ} {f : γ -> Rs β} (J : Jn γ ι) (T : ∀ OO, Tgt K OO g r κ) (x0 : ι) (g0 : γ) (he : Walk K Er S OO σ wi r m) (h1 : OO = J.oo x0) (h2 : σ = J.ss x0) (h3 : ∀ h, S.p h -> (J.sc g0 x0).p h)
    (hb : ∀ g x a v, Sv Er ((T (J.oo x)).sc a v (J.sc g x)) (J.oo x) ((T (J.oo x)).set v (J.ss x)) tb (FNd J) (body g a))
    (hr : ∀ g x, Sv Er (J.sc g x) (J.oo x) (J.ss x) u Fd (f g)) : Sv Er S OO σ (Je (Im wi g tb) u) Fd (m.bind fun as=>(forN as g0 body).bind f):=fun H D w s P=>by
  refine he.ok w s ?_
  cases em : m with
  | bad=>rw [em] at P; exact P
  | err x=>rw [em] at P; exact fun H' s'=>P H' (Xt.trans s')
  | ok as=>
    rw [em] at P
    have P : PZ Er (Fd D) (hid H OO) ((forN as g0 body).bind f):=P
    intro It H' s' hgo hstop
    refine ⟨fun i mm σ' H2=>mm = as.length - i /\ i <= as.length /\ ∃ x gg, σ' = J.ss x /\ W (J.oo x) H2 /\ Xu (hid H' OO) (hid H2 (J.oo x)) /\ (J.sc gg x).p (hid H2 (J.oo x)) /\ PZ Er (Fd D) (hid H2 (J.oo x)) ((forN (as.drop i) gg body).bind f), ⟨as.length, rfl, Nat.zero_le _, x0, g0, h2, ?_, ?_, ?_, ?_⟩, ?_⟩
    . rw [← h1]; exact w.keep s'
    . rw [← h1]; exact Xu.refl _
    . rw [← h1]; exact h3 _ (S.mono _ _ (Xj s') s)
    . rw [← h1, List.drop_zero]; exact PZ.tr (fd.tr D) (Xj s') P
    . rintro i mm σ' H2 ⟨rfl, hi, x, gg, rfl, w2, m2, sc2, P2⟩
      by_cases hlt : i < as.length
      . right
        have ha : as[i]? = some as[i]:=by simp [hlt]
        obtain ⟨h4, h5⟩:=hgo i _ ha (J.oo x) H2 w2 m2
        refine ⟨h4, fun σ3 H3=>∃ x gg, σ3 = J.ss x /\ W (J.oo x) H3 /\ Xu (hid H' OO) (hid H3 (J.oo x)) /\ (J.sc gg x).p (hid H3 (J.oo x)) /\ PZ Er (Fd D) (hid H3 (J.oo x)) ((forN (as.drop (i + 1)) gg body).bind f), fun σ3 H3 q=>⟨as.length - (i + 1), by omega, rfl, hlt, q⟩, fun y H3 hy=>?_⟩
        obtain ⟨s3, r3⟩:=h5 y H3 hy
        have w3:=w2.keep s3
        have m3:=Xj (OO:=J.oo x) s3
        refine (T (J.oo x)).ok r3 ((J.sc gg x).mono _ _ m3 sc2) fun v hv=>hb gg x as[i] v H3 _ w3 hv ?_
        rw [List.drop_eq_getElem_cons hlt] at P2
        have P3 : PZ Er (Fd D) (hid H2 (J.oo x)) ((body gg as[i]).bind fun g'=>(forN (as.drop (i + 1)) g' body).bind f):=by rw [← Yn]; exact P2
        cases eb : body gg as[i] with
        | bad=>rw [eb] at P3; exact P3
        | err x=>rw [eb] at P3; exact fun H4 s4=>P3 H4 (m3.trans s4)
        | ok g'=>
          rw [eb] at P3
          exact fun x' H4 w4 m4 sc4=>⟨x', g', rfl, w4, m2.trans (m3.trans m4), sc4, PZ.tr (fd.tr D) (m3.trans m4) P3⟩
      . left
        have e : i = as.length:=by omega
        subst e
        refine ⟨hstop (J.oo x) H2 w2 m2, hr gg x H2 D w2 sc2 ?_⟩
        rw [List.drop_length] at P2
        exact P2
theorem Fk {o : OE ρ} {wi : TI} {g : TG} {tb : TS} {r : Enc α} {κ : Type} {m : Rs (List α)} {body : γ -> α -> Rs (Ctl ρ γ)} {f : γ -> Rs ρ} (J : Jn γ ι) (T : ∀ OO, Tgt K OO g r κ) (x0 : ι) (g0 : γ) (he : Walk K Er S OO σ wi r m) (h1 : OO = J.oo x0) (h2 : σ = J.ss x0) (h3 : ∀ h, S.p h -> (J.sc g0 x0).p h)
    (hb : ∀ g x a v, Sv Er ((T (J.oo x)).sc a v (J.sc g x)) (J.oo x) ((T (J.oo x)).set v (J.ss x)) tb (FCd K o J) (body g a))
    (hr : ∀ g x, Sv Er (J.sc g x) (J.oo x) (J.ss x) u (FTd K o) (f g)) : Sv Er S OO σ (Je (Im wi g tb) u) (FTd K o) (m.bind fun as=>(forC as g0 body).bind (Ql f)):=fun H D w s P=>by
  refine he.ok w s ?_
  cases em : m with
  | bad=>rw [em] at P; exact P
  | err x=>rw [em] at P; exact fun H' s'=>P H' (Xt.trans s')
  | ok as=>
    rw [em] at P
    have P : PZ Er (FTd K o D) (hid H OO) ((forC as g0 body).bind (Ql f)):=P
    intro It H' s' hgo hstop
    refine ⟨fun i mm σ' H2=>mm = as.length - i /\ i <= as.length /\ ∃ x gg, σ' = J.ss x /\ W (J.oo x) H2 /\ Xu (hid H' OO) (hid H2 (J.oo x)) /\ (J.sc gg x).p (hid H2 (J.oo x)) /\ PZ Er (FTd K o D) (hid H2 (J.oo x)) ((forC (as.drop i) gg body).bind (Ql f)), ⟨as.length, rfl, Nat.zero_le _, x0, g0, h2, ?_, ?_, ?_, ?_⟩, ?_⟩
    . rw [← h1]; exact w.keep s'
    . rw [← h1]; exact Xu.refl _
    . rw [← h1]; exact h3 _ (S.mono _ _ (Xj s') s)
    . rw [← h1, List.drop_zero]; exact PZ.tr (FdOk.tr D) (Xj s') P
    . rintro i mm σ' H2 ⟨rfl, hi, x, gg, rfl, w2, m2, sc2, P2⟩
      by_cases hlt : i < as.length
      . right
        have ha : as[i]? = some as[i]:=by simp [hlt]
        obtain ⟨h4, h5⟩:=hgo i _ ha (J.oo x) H2 w2 m2
        refine ⟨h4, fun σ3 H3=>∃ x gg, σ3 = J.ss x /\ W (J.oo x) H3 /\ Xu (hid H' OO) (hid H3 (J.oo x)) /\ (J.sc gg x).p (hid H3 (J.oo x)) /\ PZ Er (FTd K o D) (hid H3 (J.oo x)) ((forC (as.drop (i + 1)) gg body).bind (Ql f)), fun σ3 H3 q=>⟨as.length - (i + 1), by omega, rfl, hlt, q⟩, fun y H3 hy=>?_⟩
        obtain ⟨s3, r3⟩:=h5 y H3 hy
        have w3:=w2.keep s3
        have m3:=Xj (OO:=J.oo x) s3
        refine (T (J.oo x)).ok r3 ((J.sc gg x).mono _ _ m3 sc2) fun v hv=>hb gg x as[i] v H3 _ w3 hv ?_
        rw [List.drop_eq_getElem_cons hlt] at P2
        have P3 : PZ Er (FTd K o D) (hid H2 (J.oo x)) ((body gg as[i]).bind fun c=>(match c with
          | .ret r=>Rs.ok (Ctl.ret r)
          | .nx g'=>forC (as.drop (i + 1)) g' body).bind (Ql f)):=by rw [← Yn]; exact P2
        cases eb : body gg as[i] with
        | bad=>rw [eb] at P3; exact P3
        | err x=>rw [eb] at P3; exact fun H4 s4=>P3 H4 (m3.trans s4)
        | ok c=>
          rw [eb] at P3
          cases c with
          | ret r=>exact FdOk.tr (Fd:=FTd K o) D r _ _ m3 P3
          | nx g'=>exact fun x' H4 w4 m4 sc4=>⟨x', g', rfl, w4, m2.trans (m3.trans m4), sc4, PZ.tr (FdOk.tr D) (m3.trans m4) P3⟩
      . left
        have e : i = as.length:=by omega
        subst e
        refine ⟨hstop (J.oo x) H2 w2 m2, hr gg x H2 D w2 sc2 ?_⟩
        rw [List.drop_length] at P2
        exact P2
noncomputable def Z5 : Nat -> γ -> (γ -> Rs Bool) -> (γ -> Rs γ) -> Rs γ
  | 0, _, _, _=>.bad
  | n + 1, g, c, f=>(c g).bind fun b=>if b = true then (f g).bind fun g'=>Z5 n g' c f else .ok g
theorem K8 {c : TT} {tb : TS} {mc : γ -> Rs Bool} {body : γ -> Rs γ} {f : γ -> Rs β} (J : Jn γ ι) (n : Nat) (x0 : ι) (g0 : γ) (h1 : OO = J.oo x0) (h2 : σ = J.ss x0) (h3 : ∀ h, S.p h -> (J.sc g0 x0).p h)
    (hc : ∀ g x, EvT Er (J.sc g x) (J.oo x) (J.ss x) c (mc g)) (hb : ∀ g x, Sv Er (J.sc g x) (J.oo x) (J.ss x) tb (FNd J) (body g))
    (hr : ∀ g x, Sv Er (J.sc g x) (J.oo x) (J.ss x) u Fd (f g)) : Sv Er S OO σ (Je (Fw c tb) u) Fd ((Z5 n g0 mc body).bind f):=fun H D w s P=>by
  refine ⟨fun mm σ' H2=>∃ x gg, σ' = J.ss x /\ W (J.oo x) H2 /\ (J.sc gg x).p (hid H2 (J.oo x)) /\ PZ Er (Fd D) (hid H2 (J.oo x)) ((Z5 mm gg mc body).bind f), ⟨n, x0, g0, h2, by rw [← h1]; exact w, by rw [← h1]; exact h3 _ s, by rw [← h1]; exact P⟩, ?_⟩
  rintro mm σ' H2 ⟨x, gg, rfl, w2, sc2, P2⟩
  cases mm with
  | zero=>exact P2.elim
  | succ mm=>
    have P3 : PZ Er (Fd D) (hid H2 (J.oo x)) ((mc gg).bind fun b=>(if b = true then (body gg).bind fun g'=>Z5 mm g' mc body else .ok gg).bind f):=by rw [← Yn]; exact P2
    refine (hc gg x).st w2 sc2 P3 fun b H3 w3 sc3 P4=>?_
    cases b with
    | false=>exact hr gg x H3 D w3 sc3 P4
    | true=>
      rw [if_pos rfl] at P4 ⊢
      refine ⟨fun σ3 H4=>∃ x gg, σ3 = J.ss x /\ W (J.oo x) H4 /\ (J.sc gg x).p (hid H4 (J.oo x)) /\ PZ Er (Fd D) (hid H4 (J.oo x)) ((Z5 mm gg mc body).bind f), fun σ3 H4 q=>⟨mm, Nat.lt_succ_self _, q⟩, hb gg x H3 _ w3 sc3 ?_⟩
      rw [Yn] at P4
      cases eb : body gg with
      | bad=>rw [eb] at P4; exact P4
      | err x=>rw [eb] at P4; exact P4
      | ok g'=>
        rw [eb] at P4
        exact fun x' H5 w5 m5 sc5=>⟨x', g', rfl, w5, sc5, PZ.tr (fd.tr D) m5 P4⟩
noncomputable def GP (as : List α) (f : α -> Rs β) : Rs (List β):=match as with
  | []=>.ok []
  | a :: as=>(f a).bind fun b=>(GP as f).bind fun bs=>.ok (b :: bs)
noncomputable def Ju (as : List α) (f : α -> Rs β) : Rs (List β):=chk (as.length <= sizeLine) (GP as f)
noncomputable def Gd (as : List α) (c : α -> Rs Bool) (f : α -> Rs β) : Rs (List β):=match as with
  | []=>.ok []
  | a :: as=>(c a).bind fun b=>if b = true then (f a).bind fun b=>(Gd as c f).bind fun bs=>.ok (b :: bs) else Gd as c f
noncomputable def Bs (as : List α) (c : α -> Rs Bool) (f : α -> Rs β) : Rs (List β):=chk (as.length <= sizeLine) (Gd as c f)
theorem PZ.chk {F : β -> Hp -> Prop} {H : Hp} {c : Prop} [Decidable c] {m : Rs β} (P : PZ Er F H (chk c m)) : c /\ PZ Er F H m:=by
  unfold L2.chk at P; split at P
  . exact ⟨by assumption, P⟩
  . exact P.elim
theorem E9 {o : OE α} [z : MonoO o] {xs : List V} {as : List α} {Cs : List (List XF)} {H H0 : Hp} {Q : VK} (w : W (Cs.flatten :: OO) H) (m0 : Xu (hid H0 OO) (hid H (Cs.flatten :: OO))) (s0 : Xu H0 H) (pr : P3 (o K (hid H (Cs.flatten :: OO))) xs as Cs) (P : FO K OO OO (oL o) Q as H0) : ∀ p, H p = none -> Q (.ref p) (upd H p (.lst xs)):=fun p hp=>by
  have hn:=QC (OO:=Cs.flatten :: OO) hp (o:=.lst xs)
  have wn:=w.new hp (o:=.lst xs) rfl
  have pe : (((p, HO.lst xs) :: Cs.flatten) :: OO).flatten.Perm ([(p, HO.lst xs)] :: Cs.flatten :: OO).flatten:=by simp
  refine P (.ref p) ((p, .lst xs) :: Cs.flatten) _ (s0.trans (Xy hp _)) (wn.of pe) ?_ ?_
  . rw [X0 pe]; exact m0.trans hn
  . rw [X0 pe]
    exact ⟨p, xs, Cs, rfl, pr.imp fun _ _ _ h=>z.mono hn h, rfl⟩
theorem YZ {o : OE β} [z : MonoO o] {wi : TI} {g : TG} {te : TE} {r : Enc α} {κ : Type} {m : Rs (List α)} {f : α -> Rs β} {n : Nat} {caps : List (Nat × Str)} (T : ∀ OO, Tgt K OO g r κ) (he : Walk K Er S OO σ wi r m)
    (hb : ∀ C a v, Ev K Er ((T (C :: OO)).sc a v S) (C :: OO) (C :: OO) ((T (C :: OO)).set v (Zo n caps σ)) te o (f a)) : Ev K Er S OO OO σ (Fe n caps wi g VL te) (oL o) (m.bind fun as=>Ju as f):=fun H Q w s P=>by
  refine he.ok w s ?_
  cases em : m with
  | bad=>rw [em] at P; exact P
  | err x=>rw [em] at P; exact P
  | ok as=>
    rw [em] at P
    obtain ⟨hsz, P⟩:=PZ.chk (show PZ Er _ H (chk (as.length <= sizeLine) (GP as f)) from P)
    intro It H' s' hgo hstop
    -- what is left: the rest of the items, then all
    refine ⟨fun i mm ys H2=>mm = as.length - i /\ i <= as.length /\ ∃ bs Cs, Xu H H2 /\ W (Cs.flatten :: OO) H2 /\ Xu (hid H' OO) (hid H2 (Cs.flatten :: OO)) /\ P3 (o K (hid H2 (Cs.flatten :: OO))) ys bs Cs /\ bs.length = i /\ PZ Er (FO K OO OO (oL o) Q) H ((GP (as.drop i) f).bind fun rest=>.ok (bs ++ rest)),
      ⟨as.length, rfl, Nat.zero_le _, [], [], s', (w.keep s').nil, by show Xu _ (hid H' ([] :: OO)); rw [Zh]; exact Xu.refl _, .nil, rfl, ?_⟩, ?_⟩
    . rw [List.drop_zero]
      revert P
      cases GP as f <;> exact fun z=>z
    . rintro i mm ys H2 ⟨rfl, hi, bs, Cs, s2, w2, m2, pr, hlen, P2⟩
      refine ⟨by rw [pr.len.1, hlen]; omega, ?_⟩
      by_cases hlt : i < as.length
      . right
        have ha : as[i]? = some as[i]:=by simp [hlt]
        obtain ⟨h4, h5⟩:=hgo i _ ha (Cs.flatten :: OO) H2 w2 m2
        refine ⟨h4, fun ys' H3=>∃ bs Cs, Xu H H3 /\ W (Cs.flatten :: OO) H3 /\ Xu (hid H' OO) (hid H3 (Cs.flatten :: OO)) /\ P3 (o K (hid H3 (Cs.flatten :: OO))) ys' bs Cs /\ bs.length = i + 1 /\ PZ Er (FO K OO OO (oL o) Q) H ((GP (as.drop (i + 1)) f).bind fun rest=>.ok (bs ++ rest)), fun ys' H3 q=>⟨as.length - (i + 1), by omega, rfl, hlt, q⟩, fun y H3 hy=>?_⟩
        obtain ⟨s3, r3⟩:=h5 y H3 hy
        have w3:=w2.keep s3
        have m3:=Xj (OO:=Cs.flatten :: OO) s3
        have sS : S.p (hid H3 (Cs.flatten :: OO)):=S.mono _ _ ((Xj s').trans (m2.trans m3)) s
        refine (T (Cs.flatten :: OO)).ok r3 sS fun v hv=>?_
        show VL _ _ _
        refine Ht ?_
        rw [List.drop_eq_getElem_cons hlt] at P2
        have P3' : PZ Er (FO K OO OO (oL o) Q) H ((f as[i]).bind fun b=>(GP (as.drop (i + 1)) f).bind fun rest=>.ok (bs ++ b :: rest)):=by
          have : ((f as[i]).bind fun b=>(GP (as.drop (i + 1)) f).bind fun rest=>Rs.ok (bs ++ b :: rest)) = (GP (as[i] :: as.drop (i + 1)) f).bind fun rest=>.ok (bs ++ rest):=by
            show _ = ((f as[i]).bind fun b=>(GP (as.drop (i + 1)) f).bind fun bs=>Rs.ok (b :: bs)).bind _
            rw [Yn]; congr 1; funext b; rw [Yn]; rfl
          rw [this]; exact P2
        refine hb Cs.flatten as[i] v H3 _ w3 hv ?_
        cases eb : f as[i] with
        | bad=>rw [eb] at P3'; exact P3'
        | err x=>rw [eb] at P3'; exact fun H4 s4=>P3' H4 (s2.trans (s3.trans s4))
        | ok b=>
          rw [eb] at P3'
          intro v' C' H4 s4 w4 m4 ho
          have pe : ((Cs ++ [C']).flatten :: OO).flatten.Perm (C' :: Cs.flatten :: OO).flatten:=by
            simp only [ZG, List.flatten_cons]
            rw [List.append_assoc, ← List.append_assoc, ← List.append_assoc]
            exact List.perm_append_comm.append_right _
          refine ⟨bs ++ [b], Cs ++ [C'], s2.trans (s3.trans s4), w4.of pe, ?_, ?_, by simp [hlen], ?_⟩
          . rw [X0 pe]; exact m2.trans (m3.trans m4)
          . rw [X0 pe]; exact P3.snoc (pr.imp fun _ _ _ h=>z.mono (m3.trans m4) h) ho
          . have P4 : PZ Er (FO K OO OO (oL o) Q) H ((GP (as.drop (i + 1)) f).bind fun rest => .ok (bs ++ b :: rest)) := P3'
            simpa using P4
      . left
        have e : i = as.length:=by omega
        subst e
        refine ⟨hstop (Cs.flatten :: OO) H2 w2 m2, ?_⟩
        rw [List.drop_length] at P2
        have P3' : FO K OO OO (oL o) Q (bs ++ []) H:=P2
        rw [List.append_nil] at P3'
        exact E9 (H0:=H) w2 ((Xj s').trans m2) s2 pr P3'
theorem Jq {o : OE β} [z : MonoO o] {wi : TI} {g : TG} {tt : TT} {te : TE} {r : Enc α} {κ : Type} {m : Rs (List α)} {c : α -> Rs Bool} {f : α -> Rs β} {n : Nat} {caps : List (Nat × Str)} (T : ∀ OO, Tgt K OO g r κ) (he : Walk K Er S OO σ wi r m)
    (hc : ∀ C a v, EvT Er ((T (C :: OO)).sc a v S) (C :: OO) ((T (C :: OO)).set v (Zo n caps σ)) tt (c a))
    (hb : ∀ C a v, Ev K Er ((T (C :: OO)).sc a v S) (C :: OO) (C :: OO) ((T (C :: OO)).set v (Zo n caps σ)) te o (f a)) : Ev K Er S OO OO σ (Fe n caps wi g tt te) (oL o) (m.bind fun as=>Bs as c f):=fun H Q w s P=>by
  refine he.ok w s ?_
  cases em : m with
  | bad=>rw [em] at P; exact P
  | err x=>rw [em] at P; exact P
  | ok as=>
    rw [em] at P
    obtain ⟨hsz, P⟩:=PZ.chk (show PZ Er _ H (chk (as.length <= sizeLine) (Gd as c f)) from P)
    intro It H' s' hgo hstop
    refine ⟨fun i mm ys H2=>mm = as.length - i /\ i <= as.length /\ ∃ bs Cs, Xu H H2 /\ W (Cs.flatten :: OO) H2 /\ Xu (hid H' OO) (hid H2 (Cs.flatten :: OO)) /\ P3 (o K (hid H2 (Cs.flatten :: OO))) ys bs Cs /\ bs.length <= i /\ PZ Er (FO K OO OO (oL o) Q) H ((Gd (as.drop i) c f).bind fun rest=>.ok (bs ++ rest)),
      ⟨as.length, rfl, Nat.zero_le _, [], [], s', (w.keep s').nil, by show Xu _ (hid H' ([] :: OO)); rw [Zh]; exact Xu.refl _, .nil, Nat.zero_le _, ?_⟩, ?_⟩
    . rw [List.drop_zero]
      revert P
      cases Gd as c f <;> exact fun z=>z
    . rintro i mm ys H2 ⟨rfl, hi, bs, Cs, s2, w2, m2, pr, hlen, P2⟩
      refine ⟨by rw [pr.len.1]; omega, ?_⟩
      by_cases hlt : i < as.length
      . right
        have ha : as[i]? = some as[i]:=by simp [hlt]
        obtain ⟨h4, h5⟩:=hgo i _ ha (Cs.flatten :: OO) H2 w2 m2
        refine ⟨h4, fun ys' H3=>∃ bs Cs, Xu H H3 /\ W (Cs.flatten :: OO) H3 /\ Xu (hid H' OO) (hid H3 (Cs.flatten :: OO)) /\ P3 (o K (hid H3 (Cs.flatten :: OO))) ys' bs Cs /\ bs.length <= i + 1 /\ PZ Er (FO K OO OO (oL o) Q) H ((Gd (as.drop (i + 1)) c f).bind fun rest=>.ok (bs ++ rest)), fun ys' H3 q=>⟨as.length - (i + 1), by omega, rfl, hlt, q⟩, fun y H3 hy=>?_⟩
        obtain ⟨s3, r3⟩:=h5 y H3 hy
        have w3:=w2.keep s3
        have m3:=Xj (OO:=Cs.flatten :: OO) s3
        have sS : S.p (hid H3 (Cs.flatten :: OO)):=S.mono _ _ ((Xj s').trans (m2.trans m3)) s
        refine (T (Cs.flatten :: OO)).ok r3 sS fun v hv=>?_
        rw [List.drop_eq_getElem_cons hlt] at P2
        have P3' : PZ Er (FO K OO OO (oL o) Q) H ((c as[i]).bind fun b=>(if b = true then (f as[i]).bind fun b=>(Gd (as.drop (i + 1)) c f).bind fun bs=>.ok (b :: bs) else Gd (as.drop (i + 1)) c f).bind fun rest=>.ok (bs ++ rest)):=by
          rw [← Yn]; exact P2
        refine hc Cs.flatten as[i] v H3 _ w3 hv ?_
        cases ec : c as[i] with
        | bad=>rw [ec] at P3'; exact P3'
        | err x=>rw [ec] at P3'; exact fun H4 s4=>P3' H4 (s2.trans (s3.trans s4))
        | ok b=>
          rw [ec] at P3'
          intro H4 s4
          have w4:=w3.keep s4
          have m4:=Xj (OO:=Cs.flatten :: OO) s4
          cases b with
          | false=>exact ⟨bs, Cs, s2.trans (s3.trans s4), w4, m2.trans (m3.trans m4), pr.imp fun _ _ _ h=>z.mono (m3.trans m4) h, Nat.le_succ_of_le hlen, P3'⟩
          | true=>
            rw [if_pos rfl]
            have P4 : PZ Er (FO K OO OO (oL o) Q) H ((f as[i]).bind fun b=>(Gd (as.drop (i + 1)) c f).bind fun rest=>.ok (bs ++ b :: rest)):=by
              have : ((f as[i]).bind fun b=>(Gd (as.drop (i + 1)) c f).bind fun rest=>Rs.ok (bs ++ b :: rest)) = ((f as[i]).bind fun b=>(Gd (as.drop (i + 1)) c f).bind fun bs=>Rs.ok (b :: bs)).bind fun rest=>.ok (bs ++ rest):=by
                rw [Yn]; congr 1; funext b; rw [Yn]; rfl
              rw [this]; exact P3'
            refine hb Cs.flatten as[i] v H4 _ w4 (((T (Cs.flatten :: OO)).sc as[i] v S).mono _ _ m4 hv) ?_
            cases eb : f as[i] with
            | bad=>rw [eb] at P4; exact P4
            | err x=>rw [eb] at P4; exact fun H5 s5=>P4 H5 (s2.trans (s3.trans (s4.trans s5)))
            | ok b=>
              rw [eb] at P4
              intro v' C' H5 s5 w5 m5 ho
              have pe : ((Cs ++ [C']).flatten :: OO).flatten.Perm (C' :: Cs.flatten :: OO).flatten:=by
                simp only [ZG, List.flatten_cons]
                rw [List.append_assoc, ← List.append_assoc, ← List.append_assoc]
                exact List.perm_append_comm.append_right _
              refine ⟨bs ++ [b], Cs ++ [C'], s2.trans (s3.trans (s4.trans s5)), w5.of pe, ?_, ?_, by simpa using hlen, ?_⟩
              . rw [X0 pe]; exact m2.trans (m3.trans (m4.trans m5))
              . rw [X0 pe]; exact P3.snoc (pr.imp fun _ _ _ h=>z.mono (m3.trans (m4.trans m5)) h) ho
              . have P5 : PZ Er (FO K OO OO (oL o) Q) H ((Gd (as.drop (i + 1)) c f).bind fun rest => .ok (bs ++ b :: rest)) := P4
                simpa using P5
      . left
        have e : i = as.length:=by omega
        subst e
        refine ⟨hstop (Cs.flatten :: OO) H2 w2 m2, ?_⟩
        rw [List.drop_length] at P2
        have P3' : FO K OO OO (oL o) Q (bs ++ []) H:=P2
        rw [List.append_nil] at P3'
        exact E9 (H0:=H) w2 ((Xj s').trans m2) s2 pr P3'
noncomputable def Qw (as : List α) (i : Int) (a : α) : Rs (List α):=match ixN as.length i with
  | some j=>.ok (as.set j a)
  | none=>.bad
end
end L2
namespace L2
open PySem PySem.Spec PyProof.Rows
section
variable {K : PySem.W.Frag} {Er : Exc -> Hp -> Prop} {S : SC} {OO OO' OO2 : List (List XF)} {σ : St} {α β γ ρ ι δ ε : Type}
variable {Fd : Ends -> β -> Hp -> Prop} [fd : FdOk Fd] {u : TS}
theorem By {C D C' : List XF} {H : Hp} {k : Nat} {p : Addr} {o : HO} (w : W (D :: OO) H) (hk : OO[k]? = some C) (hp : p ∈ C.map (·.1)) (hp' : p ∈ C'.map (·.1)) (hnd : (C'.map (·.1)).Nodup) (hin : ∀ b ∈ C'.map (·.1), b ∈ (C ++ D).map (·.1)) (ht : ∀ c ∈ C', upd H p o c.1 = some c.2) (hm : ∀ c ∈ C', EN c.2 = true) :
    W (OO.set k C') (upd H p o) /\ Xu (hid H (D :: OO)) (hid (upd H p o) (OO.set k C')):=by
  have hlt : k < OO.length:=by
    rcases Nat.lt_or_ge k OO.length with h | h
    . exact h
    . rw [List.getElem?_eq_none h] at hk; cases hk
  have h1:=Yd hk
  have h2:=Yd (OO:=OO.set k C') (k:=k) (C:=C') (by simp [hlt])
  rw [VM] at h2
  have h3 : (OO.set k C').flatten.Perm (C' ++ (OO.set k []).flatten):=by simpa using h2.symm
  have h4 : (D :: OO).flatten.Perm ((C ++ D) ++ (OO.set k []).flatten):=by
    rw [List.flatten_cons]
    refine ((by simpa using h1.symm : OO.flatten.Perm (C ++ (OO.set k []).flatten)).append_left D).trans ?_
    rw [← List.append_assoc]
    exact List.perm_append_comm.append_right _
  have nd2 : (((C ++ D) ++ (OO.set k []).flatten).map (·.1)).Nodup:=(h4.map _).nodup_iff.mp w.nd
  rw [List.map_append] at nd2
  obtain ⟨n1, n2, n3⟩:=List.nodup_append.mp nd2
  refine ⟨⟨fun c hc=>?_, ?_, fun c hc=>?_⟩, fun b v q=>?_⟩
  . rcases List.mem_append.mp (h3.mem_iff.mp hc) with hc | hc
    . exact ht c hc
    . have hne : c.1 ≠ p := fun e => n3 p (hin p hp') c.1 (List.mem_map.mpr ⟨c, hc, rfl⟩) e.symm
      rw [Xq hne]
      exact w.tr c (h4.mem_iff.mpr (by simp [hc]))
  . refine ((h3.map _).nodup_iff).mpr ?_
    rw [List.map_append]
    exact List.nodup_append.mpr ⟨hnd, n2, fun a ha b hb=>n3 a (hin a ha) b hb⟩
  . rcases List.mem_append.mp (h3.mem_iff.mp hc) with hc | hc
    . exact hm c hc
    . exact w.mu c (h4.mem_iff.mpr (by simp [hc]))
  . obtain ⟨q1, q2⟩ := XX q
    have hbp : b ≠ p:=fun e=>q2 (by
      rw [e]
      obtain ⟨c, hc, rfl⟩:=List.mem_map.mp hp
      exact Q5 (h4.mem_iff.mpr (by simp [hc])))
    refine Zp (by rw [Xq hbp]; exact q1) fun z=>q2 ?_
    obtain ⟨o', ho'⟩:=Fo z
    rcases List.mem_append.mp (h3.mem_iff.mp ho') with hc | hc
    . obtain ⟨c, hc2, e⟩ := List.mem_map.mp (hin b (List.mem_map.mpr ⟨_, hc, rfl⟩))
      rw [← e]
      exact Q5 (h4.mem_iff.mpr (List.mem_append_left _ hc2))
    . exact Q5 (c:=(b, o')) (h4.mem_iff.mpr (by simp [hc]))
theorem HK {D : List XF} {Cs Cs' : List (List XF)} {H : Hp} {k : Nat} {p : Addr} {xs xs' : List V} (w : W (D :: OO) H) (hk : OO[k]? = some ((p, .lst xs) :: Cs.flatten)) (hin : ∀ c ∈ Cs'.flatten, c ∈ Cs.flatten ++ D) (hnd : (Cs'.flatten.map (·.1)).Nodup) :
    W (OO.set k ((p, .lst xs') :: Cs'.flatten)) (upd H p (.lst xs')) /\ Xu (hid H (D :: OO)) (hid (upd H p (.lst xs')) (OO.set k ((p, .lst xs') :: Cs'.flatten))):=by
  have h1:=Yd hk
  have w3 : W [((p, HO.lst xs) :: (Cs.flatten ++ D)) ++ (OO.set k []).flatten] H:=w.of (by
    simp only [List.flatten_cons, List.flatten_nil, List.append_nil]
    refine List.Perm.trans ?_ ((by simpa using h1 : (((p, HO.lst xs) :: Cs.flatten) ++ (OO.set k []).flatten).Perm OO.flatten).append_left D)
    rw [← List.append_assoc]
    refine List.Perm.append_right _ ?_
    exact (List.perm_append_comm (l₁:=(p, HO.lst xs) :: Cs.flatten) (l₂:=D)))
  have nd:=w3.nd
  simp only [fl, List.flatten_cons, List.flatten_nil, List.append_nil, List.map_append, List.cons_append, List.map_cons] at nd
  have hne : ∀ c ∈ Cs'.flatten, c.1 ≠ p:=fun c hc e=>by
    refine (List.nodup_cons.mp nd).1 ?_
    rw [← e]
    refine List.mem_append_left _ ?_
    rw [← List.map_append]
    exact List.mem_map.mpr ⟨c, hin c hc, rfl⟩
  refine By w hk List.mem_cons_self List.mem_cons_self ?_ ?_ ?_ ?_
  . rw [List.map_cons, List.nodup_cons]
    refine ⟨fun z=>?_, hnd⟩
    obtain ⟨c, hc, e⟩:=List.mem_map.mp z
    exact hne c hc e
  . intro b hb
    rcases List.mem_cons.mp hb with rfl | hb
    . exact List.mem_cons_self
    . obtain ⟨c, hc, rfl⟩ := List.mem_map.mp hb
      rw [List.cons_append, List.map_cons]
      exact List.mem_cons_of_mem _ (List.mem_map.mpr ⟨c, hin c hc, rfl⟩)
  . intro c hc
    rcases List.mem_cons.mp hc with rfl | hc
    . exact Yj
    . rw [Xq (hne c hc)]
      exact w3.tr c (by
        rw [List.flatten_cons, List.flatten_nil, List.append_nil]
        exact List.mem_append_left _ (List.mem_cons_of_mem _ (hin c hc)))
  . intro c hc
    rcases List.mem_cons.mp hc with rfl | hc
    . rfl
    . exact w3.mu c (by
        rw [List.flatten_cons, List.flatten_nil, List.append_nil]
        exact List.mem_append_left _ (List.mem_cons_of_mem _ (hin c hc)))
theorem U5 {o : OE α} {h : Hp} {p : Addr} {xs : List V} {as : List α} {R : List XF} (q : oL o K h (.ref p) as ((p, .lst xs) :: R)) : ∃ Cs, P3 (o K h) xs as Cs /\ R = Cs.flatten:=by
  obtain ⟨p', xs', Cs, e, q, c⟩:=q
  injection c with c1 c2
  injection c1 with c3 c4
  injection c4 with c5
  subst c5
  exact ⟨Cs, q, c2⟩
theorem BY {as : List α} {i : Int} {a : α} {bs : List α} (h : Qw as i a = .ok bs) : ∃ j, ixN as.length i = some j /\ bs = as.set j a:=by
  unfold Qw at h; split at h
  . cases h; exact ⟨_, by assumption, rfl⟩
  . cases h
theorem Ej {as : List α} {i : Int} {a : α} {x : Exc} : Qw as i a ≠ .err x:=by unfold Qw; split <;> exact fun z=>nomatch z
theorem ZJ {l r m : List XF} (h : (l ++ r).Perm m) (n : (m.map (·.1)).Nodup) : (l.map (·.1)).Nodup:=by
  have : ((l ++ r).map (·.1)).Nodup:=(h.map _).nodup_iff.mpr n
  rw [List.map_append] at this
  exact (List.nodup_append.mp this).1
theorem VY {Cs : List (List XF)} {j : Nat} {D : List XF} (hj : j < Cs.length) : ((Cs.set j D).flatten ++ Cs[j]).Perm (Cs.flatten ++ D):=by
  have h1:=Yd (OO:=Cs) (k:=j) (C:=Cs[j]) (by simp [hj])
  have h2:=Yd (OO:=Cs.set j D) (k:=j) (C:=D) (by simp [hj])
  rw [VM] at h2
  have h3 : (Cs.set j D).flatten.Perm (D ++ (Cs.set j []).flatten):=by simpa using h2.symm
  have h4 : Cs.flatten.Perm (Cs[j] ++ (Cs.set j []).flatten):=by simpa using h1.symm
  refine (h3.append_right _).trans (List.Perm.trans ?_ (h4.append_right _).symm)
  refine List.perm_append_comm.trans ((List.perm_append_comm.append_left _).trans ?_)
  rw [List.append_assoc]
theorem ZQ {D : List XF} {Cs : List (List XF)} {H : Hp} {k : Nat} {p : Addr} {xs : List V} (w : W (D :: OO) H) (hk : OO[k]? = some ((p, .lst xs) :: Cs.flatten)) : ((Cs.flatten ++ D).map (·.1)).Nodup:=by
  have h1:=Yd hk
  have w3 : W [((p, HO.lst xs) :: (Cs.flatten ++ D)) ++ (OO.set k []).flatten] H:=w.of (by
    simp only [List.flatten_cons, List.flatten_nil, List.append_nil]
    refine List.Perm.trans ?_ ((by simpa using h1 : (((p, HO.lst xs) :: Cs.flatten) ++ (OO.set k []).flatten).Perm OO.flatten).append_left D)
    rw [← List.append_assoc]
    refine List.Perm.append_right _ ?_
    exact (List.perm_append_comm (l₁:=(p, HO.lst xs) :: Cs.flatten) (l₂:=D)))
  have nd:=w3.nd
  simp only [fl, List.flatten_cons, List.flatten_nil, List.append_nil, List.cons_append, List.map_cons] at nd
  have n2:=(List.nodup_cons.mp nd).2
  rw [List.map_append] at n2
  exact (List.nodup_append.mp n2).1
theorem QN {ta ti : TE} {o : OE α} [MonoO o] {m : Rs α} {mi : Rs Int} {f : List α -> Rs β} {v : V} {as : List α} {C : List XF} (i k : Nat) (hσ : σ[i]? = some (some v)) (hk' : OO'[k]? = some C) (h : ∀ x, S.p x -> oL o K x v as C) (he : Ev K Er S OO OO' σ ta o m)
    (hi : ∀ D, EvB K Er S (D :: OO') σ ti Xa mi)
    (hr : ∀ bs C', Sv Er (S.addO K (oL o) v bs C') (OO'.set k C') σ u Fd (f bs)) : Sv Er S OO σ (Je (Cy ta (IF (U2 i) ti Eg)) u) Fd (m.bind fun a=>mi.bind fun j=>(Qw as j a).bind f):=fun H D w s P=>
  he.st w s P fun a y D' H' w' s' ho P'=>⟨v, hσ, (hi D').st w' s' P' fun j z H2 s2 w2 q2 r2 P2=>by
    obtain ⟨p, xs, Cs, e, q, c⟩:=h _ q2
    subst c
    have hH : H2 p = some (.lst xs):=w2.tr (p, .lst xs) (by rw [List.flatten_cons]; exact List.mem_append_right _ (List.mem_flatten.mpr ⟨_, List.mem_of_getElem? hk', List.mem_cons_self⟩))
    cases es : Qw as j a with
    | bad=>rw [es] at P2; exact P2.elim
    | err x=>exact absurd es Ej
    | ok bs=>
      rw [es] at P2
      obtain ⟨jj, h1, rfl⟩:=BY es
      have hjl : jj < as.length:=by
        unfold ixN at h1
        split at h1
        . split at h1
          . cases h1; omega
          . cases h1
        . split at h1
          . cases h1; omega
          . cases h1
      have hjC : jj < Cs.length:=by rw [q.len.2]; exact hjl
      have hp:=VY (Cs:=Cs) (j:=jj) (D:=D') hjC
      obtain ⟨w3, m3⟩:=HK (xs':=xs.set jj y) (Cs':=Cs.set jj D') w2 hk' (fun c hc=>hp.mem_iff.mp (List.mem_append_left _ hc)) (ZJ hp (ZQ w2 hk'))
      refine ⟨p, xs, j, jj, e, r2, hH, by rw [q.len.1]; exact h1, hr _ _ _ D w3 ⟨S.mono _ _ m3 q2, ⟨p, _, _, e, P3.imp (fun _ _ _ z=>MonoO.mono m3 z) (P3.set (MonoO.mono (Xj s2) ho) jj q), rfl⟩⟩ (PZ.tr (fd.tr D) m3 P2)⟩⟩
theorem Hk {ta : TE} {o : OE α} [MonoO o] {m : Rs (List α)} {f : List α -> Rs β} {v : V} {as : List α} {C : List XF} (i k : Nat) (hσ : σ[i]? = some (some v)) (hk : OO[k]? = some C) (hk' : OO'[k]? = some C) (h : ∀ x, S.p x -> oL o K x v as C) (he : Ev K Er S OO OO' σ ta (oL o) m)
    (hr : ∀ bs C', Sv Er (S.addO K (oL o) v (as ++ bs) C') (OO'.set k C') σ u Fd (f (as ++ bs))) : Sv Er S OO σ (Je (Gx (tBM K "list" GU (U2 i) (X1 ta QF))) u) Fd (m.bind fun bs=>chk (as.length + bs.length <= sizeLine) (f (as ++ bs))):=fun H D w s P=>by
  obtain ⟨p, xs, Cs, e, q, c⟩:=h _ s
  subst c
  have hH : H p = some (.lst xs):=w.tr (p, .lst xs) (List.mem_flatten.mpr ⟨_, List.mem_of_getElem? hk, List.mem_cons_self⟩)
  refine ⟨v, hσ, by rw [e]; exact .inl ⟨rfl, _, SqL.of hH⟩, he.st w s P fun bs y D' H' w' s' ho P'=>?_⟩
  obtain ⟨hsz, P'⟩:=PZ.chk P'
  subst e
  obtain ⟨Cs2, q2, c2⟩:=U5 (h _ s')
  obtain ⟨p', zs, Ds, e3, q3, c3⟩:=ho
  subst c3
  have hH' : H' p = some (.lst xs):=w'.tr (p, .lst xs) (by rw [List.flatten_cons]; exact List.mem_append_right _ (List.mem_flatten.mpr ⟨_, List.mem_of_getElem? hk', List.mem_cons_self⟩))
  have hH2 : H' p' = some (.lst zs):=w'.tr (p', .lst zs) (by rw [List.flatten_cons]; exact List.mem_append_left _ List.mem_cons_self)
  have cn:=ZQ w' hk'
  obtain ⟨w3, m3⟩:=HK (xs':=xs ++ zs) (Cs':=Cs2 ++ Ds) w' hk' (fun c hc=>by
      rw [List.flatten_append, List.mem_append] at hc
      rcases hc with hc | hc
      . rw [c2]; exact List.mem_append_left _ hc
      . exact List.mem_append_right _ (List.mem_cons_of_mem _ hc)) (by
      rw [List.flatten_append, ← c2]
      refine List.Nodup.sublist (List.Sublist.map _ ?_) cn
      exact List.Sublist.append (List.Sublist.refl _) (List.sublist_cons_self _ _))
  refine ⟨p, p', xs, zs, rfl, by rw [e3], hH', hH2, by rw [q2.len.1, q3.len.1]; exact hsz, ?_⟩
  exact hr bs _ _ D w3 ⟨S.mono _ _ m3 s', ⟨p, _, _, rfl, P3.imp (fun _ _ _ z=>MonoO.mono m3 z) (q2.app q3), rfl⟩⟩ (PZ.tr (fd.tr D) m3 P')
noncomputable def Fm (as : List α) (i : Int) : Rs (α × List α):=chk (-(2 ^ 63) <= i /\ i < 2 ^ 63) (match seqIndex? i as.length with
  | none=>.bad
  | some k=>match as[k]? with
    | none=>.bad
    | some a=>.ok (a, as.eraseIdx k))
theorem BI {as : List α} {i : Int} {p : α × List α} (h : Fm as i = .ok p) : (-(2 ^ 63) <= i /\ i < 2 ^ 63) /\ ∃ k, seqIndex? i as.length = some k /\ as[k]? = some p.1 /\ p.2 = as.eraseIdx k:=by
  obtain ⟨h1, h2⟩:=Zu h
  refine ⟨h1, ?_⟩
  split at h2
  . cases h2
  . split at h2
    . cases h2
    . cases h2; exact ⟨_, by assumption, by assumption, rfl⟩
theorem BX {as : List α} {i : Int} {x : Exc} : Fm as i ≠ .err x:=by
  unfold Fm chk; split
  . split
    . exact fun z=>nomatch z
    . split <;> exact fun z=>nomatch z
  . exact fun z=>nomatch z
theorem Paired.erase' {F : α -> γ -> Prop} : ∀ {l : List α} {m : List γ} (n : Nat), Paired F l m -> Paired F (l.eraseIdx n) (m.eraseIdx n)
  | _, _, _, .nil=>.nil
  | _, _, 0, .cons _ t=>t
  | _, _, n + 1, .cons r t=>.cons r (Paired.erase' n t)
theorem Dy {te ti : TE} {r : Enc α} [MonoE r] {mi : Rs Int} {f : α × List α -> Rs β} {v : V} {as : List α} {C : List XF} {D : Ends} {H : Hp} {Q : VK} (i k : Nat) (hσ : σ[i]? = some (some v)) (hk : OO[k]? = some C) (h : ∀ x, S.p x -> oL (oF r) K x v as C) (hi : EvB K Er S OO σ ti Xa mi)
    (w : W OO H) (s : S.p (hid H OO)) (P : PZ Er (Fd D) (hid H OO) (mi.bind fun j=>(Fm as j).bind f))
    (hr : ∀ a bs y C' H', W (OO.set k C') H' -> ((S.add K r y a).addO K (oL (oF r)) v bs C').p (hid H' (OO.set k C')) -> PZ Er (Fd D) (hid H' (OO.set k C')) (f (a, bs)) -> Q y H') : tBM K "list" K6 (U2 i) (X1 ti QF) σ H Q:=by
  obtain ⟨p, xs, Cs, e, q, c⟩:=h _ s
  subst c
  have hH : H p = some (.lst xs):=w.tr (p, .lst xs) (List.mem_flatten.mpr ⟨_, List.mem_of_getElem? hk, List.mem_cons_self⟩)
  refine ⟨v, hσ, by rw [e]; exact .inl ⟨rfl, _, SqL.of hH⟩, hi.st w s P fun j z H' s1 w' s' ho P'=>?_⟩
  subst e
  obtain ⟨Cs2, q2, c2⟩:=U5 (h _ s')
  obtain ⟨pr, hfl⟩:=P3.flat q2
  cases es : Fm as j with
  | bad=>rw [es] at P'; exact P'.elim
  | err x=>exact absurd es BX
  | ok pp=>
    rw [es] at P'
    obtain ⟨a, bs⟩:=pp
    obtain ⟨h1, kk, h2, h3, h4⟩:=BI es
    obtain ⟨y, hy, ry⟩:=Paired.getR pr h3
    have w0 : W ([] :: OO) H':=w'.nil
    have hk0 : OO[k]? = some ((p, .lst xs) :: ([] : List (List XF)).flatten):=by rw [hk, c2, hfl]; rfl
    obtain ⟨w3, m3⟩:=HK (D:=[]) (Cs:=[]) (xs':=xs.eraseIdx kk) (Cs':=List.replicate bs.length []) w0 hk0 (fun c hc=>by rw [YI] at hc; cases hc) (by rw [YI]; exact List.nodup_nil)
    rw [Zh] at m3
    refine ⟨p, xs, j, kk, y, rfl, by rw [show z = .int j from ho], s1 _ _ hH, h1.1, h1.2, by rw [Paired.len pr]; exact h2, hy, ?_⟩
    have pr2 : Paired (r K (hid H' OO)) (xs.eraseIdx kk) bs:=by rw [show bs = as.eraseIdx kk from h4]; exact Paired.erase' kk pr
    exact hr a bs y _ _ w3 ⟨⟨S.mono _ _ m3 s', MonoE.mono m3 ry⟩, ⟨p, _, _, rfl, (P3.of (Paired.imp2 (fun _ _ z=>MonoE.mono m3 z) pr2)).imp fun _ _ _ z=>z, rfl⟩⟩ (PZ.tr (fd.tr D) m3 P')
theorem HD {ti : TE} {r : Enc α} [MonoE r] {mi : Rs Int} {f : α × List α -> Rs β} {v : V} {as : List α} {C : List XF} (x i k : Nat) (hσ : σ[i]? = some (some v)) (hk : OO[k]? = some C) (h : ∀ x, S.p x -> oL (oF r) K x v as C) (hi : EvB K Er S OO σ ti Xa mi)
    (hr : ∀ a bs y C', Sv Er ((S.add K r y a).addO K (oL (oF r)) v bs C') (OO.set k C') (σ.set x (some y)) u Fd (f (a, bs))) : Sv Er S OO σ (Je (Cy (tBM K "list" K6 (U2 i) (X1 ti QF)) (Zl x)) u) Fd (mi.bind fun j=>(Fm as j).bind f):=fun H D w s P=>
  Dy (te:=ti) i k hσ hk h hi w s P fun a bs y C' H' w' s' P'=>hr a bs y C' H' D w' s' P'
theorem Cp {ti : TE} {r : Enc α} [MonoE r] {mi : Rs Int} {f : List α -> List α -> Rs β} {v v2 : V} {as zs : List α} {C C2 : List XF} (i k i2 k2 : Nat) (hne : k2 ≠ k) (hσ : σ[i]? = some (some v)) (hk : OO[k]? = some C) (h : ∀ x, S.p x -> oL (oF r) K x v as C)
    (hσ2 : σ[i2]? = some (some v2)) (hk2 : OO[k2]? = some C2) (h2 : ∀ x, S.p x -> oL (oF r) K x v2 zs C2) (hi : EvB K Er S OO σ ti Xa mi)
    (hr : ∀ a bs C' C2', Sv Er ((S.addO K (oL (oF r)) v bs C').addO K (oL (oF r)) v2 (zs ++ [a]) C2') ((OO.set k C').set k2 C2') σ u Fd (f bs (zs ++ [a]))) :
    Sv Er S OO σ (Je (Gx (tBM K "list" VI (U2 i2) (X1 (tBM K "list" K6 (U2 i) (X1 ti QF)) QF))) u) Fd (mi.bind fun j=>(Fm as j).bind fun p=>chk (zs.length < sizeLine) (f p.2 (zs ++ [p.1]))):=fun H D w s P=>by
  obtain ⟨p2, xs2, Cs2, e2, q2, c2⟩:=h2 _ s
  subst c2
  have hH2 : H p2 = some (.lst xs2):=w.tr (p2, .lst xs2) (List.mem_flatten.mpr ⟨_, List.mem_of_getElem? hk2, List.mem_cons_self⟩)
  refine ⟨v2, hσ2, by rw [e2]; exact .inl ⟨rfl, _, SqL.of hH2⟩, Dy (te:=ti) i k hσ hk h hi w s P fun a bs y C' H' w' s' P'=>?_⟩
  obtain ⟨hsz, P'⟩:=PZ.chk P'
  subst e2
  obtain ⟨Cs3, q3, c3⟩:=U5 (h2 _ s'.1.1)
  obtain ⟨pr, hfl⟩:=P3.flat q3
  have hkk : (OO.set k C')[k2]? = some ((p2, HO.lst xs2) :: ([] : List (List XF)).flatten):=by
    rw [List.getElem?_set_ne (fun e=>hne e.symm), hk2, c3, hfl]; rfl
  have hH3 : H' p2 = some (.lst xs2):=w'.tr (p2, .lst xs2) (List.mem_flatten.mpr ⟨_, List.mem_of_getElem? hkk, List.mem_cons_self⟩)
  obtain ⟨w3, m3⟩:=HK (D:=[]) (Cs:=[]) (xs':=xs2 ++ [y]) (Cs':=List.replicate (zs ++ [a]).length []) w'.nil hkk (fun c hc=>by rw [YI] at hc; cases hc) (by rw [YI]; exact List.nodup_nil)
  rw [Zh] at m3
  refine ⟨p2, xs2, y, rfl, rfl, hH3, by rw [Paired.len pr]; exact hsz, ?_⟩
  refine hr a bs C' _ _ D w3 ⟨⟨S.mono _ _ m3 s'.1.1, (SC.oneO K (oL (oF r)) v bs C').mono _ _ m3 s'.2⟩, ⟨p2, _, _, rfl, (P3.of (Paired.app (Paired.imp2 (fun _ _ z=>MonoE.mono m3 z) pr) (.cons (MonoE.mono m3 (show r K _ y a from s'.1.2)) .nil))).imp fun _ _ _ z=>z, rfl⟩⟩ (PZ.tr (fd.tr D) m3 P')
theorem HF {te : TE} {r : Enc α} {q : Enc γ} [MonoE r] [MonoE q] {m : Rs (α × γ)} {f : α × γ -> Rs β} (i j : Nat) (he : EvS K Er S OO σ te (rP2 r q) m)
    (hr : ∀ a v w, Sv Er ((S.add K r v a.1).add K q w a.2) OO ((σ.set i (some v)).set j (some w)) u Fd (f a)) : Sv Er S OO σ (Je (Cy te (Bv K 2 (Z0 (Zl i) (Z0 (Zl j) El)))) u) Fd (m.bind f):=fun H D w s P=>
  he.st w s P fun a v H1 s1 w1 q1 r9 P1=>by obtain ⟨p, x, y, e, h, h1, h2⟩:=r9; exact ⟨p, _, e, SqT.of (Xt _ _ h), rfl, x, [y], rfl, y, [], rfl, rfl, hr a x y H1 D w1 ⟨⟨q1, h1⟩, h2⟩ P1⟩
theorem Ft {te : TE} {g : Int -> Int -> Int} {m : Rs Int} {f : Int -> Rs β} {v : V} {a : Int} (i : Nat) (hσ : σ[i]? = some (some v)) (h : ∀ x, S.p x -> Xa K x v a) (he : EvB K Er S OO σ te Xa m)
    (hr : ∀ b v, Sv Er (S.add K Xa v b) OO (σ.set i (some v)) u Fd (f b)) : Sv Er S OO σ (Je (Iy i te (ipI g)) u) Fd (m.bind fun b=>f (g a b)):=fun H D w s P=>
  ⟨v, hσ, he.st w s P fun b y H1 s1 w1 q1 r1 P1=>⟨a, b, h _ s, r1, hr _ _ H1 D w1 ⟨q1, rfl⟩ P1⟩⟩
theorem Ku {ta tb : TE} {ma mb : Rs Int} (ha : EvB K Er S OO σ ta Xa ma) (hb : EvB K Er S OO σ tb Xa mb) : EvB K Er S OO σ (tCB (fun xs H Q=>∃ i j : Int, xs = [.int i, .int j] /\ Q (.int (if j > i then j else i)) H) (X1 ta (X1 tb QF))) Xa (ma.bind fun a=>mb.bind fun b=>.ok (max a b)):=fun H Q w s P=>
  ha.run w s FB.tr P fun a x H1 s1 w1 q1 r1 P1=>hb.run w1 q1 FB.tr P1 fun b y H2 s2 w2 q2 r2 P2=>⟨a, b, by rw [show x = .int a from r1, show y = .int b from r2], P2 _ H2 (Xu.refl _) (by show V.int _ = V.int _; congr 1; omega)⟩
theorem BT {ta tb : TE} {ma mb : Rs Int} (ha : EvB K Er S OO σ ta Xa ma) (hb : EvB K Er S OO σ tb Xa mb) : EvB K Er S OO σ (tCB (fun xs H Q=>∃ i j : Int, xs = [.int i, .int j] /\ Q (.int (if j < i then j else i)) H) (X1 ta (X1 tb QF))) Xa (ma.bind fun a=>mb.bind fun b=>.ok (min a b)):=fun H Q w s P=>
  ha.run w s FB.tr P fun a x H1 s1 w1 q1 r1 P1=>hb.run w1 q1 FB.tr P1 fun b y H2 s2 w2 q2 r2 P2=>⟨a, b, by rw [show x = .int a from r1, show y = .int b from r2], P2 _ H2 (Xu.refl _) (by show V.int _ = V.int _; congr 1; omega)⟩
theorem Dw {ta : TE} {ma : Rs (List Int)} (ha : EvB K Er S OO σ ta (rV Xa) ma) : EvB K Er S OO σ (tCB (IP K) (X1 ta QF)) Xa (ma.bind fun a=>.ok a.sum):=fun H Q w s P=>
  ha.run w s FB.tr P fun a x H1 s1 w1 q1 r9 P1=>by obtain ⟨p, xs, e, q, pr⟩:=r9; exact ⟨p, a, by rw [e], by rw [← Va pr]; exact SqL.of q, P1 _ H1 (Xu.refl _) rfl⟩
theorem Q6 : ∀ {xs : List V} {bs : List Bool} {H : Hp}, Paired (Ym K H) xs bs -> xs = bs.map V.bl
  | _, _, _, .nil=>rfl
  | _, _, _, .cons r t=>by rw [show _ = V.bl _ from r, Q6 t]; rfl
theorem BS {ta : TE} {ma : Rs (List Bool)} (ha : EvB K Er S OO σ ta (rV Ym) ma) : EvB K Er S OO σ (tCB (IH K) (X1 ta QF)) Ym (ma.bind fun a=>.ok (a.all id)):=fun H Q w s P=>
  ha.run w s FB.tr P fun a x H1 s1 w1 q1 r9 P1=>by obtain ⟨p, xs, e, q, pr⟩:=r9; exact ⟨p, a, by rw [e], by rw [← Q6 pr]; exact SqL.of q, P1 _ H1 (Xu.refl _) rfl⟩
end
end L2
namespace L2
open PySem PySem.Spec PyProof.Rows
section
variable {K : PySem.W.Frag} {Er : Exc -> Hp -> Prop} {S : SC} {OO OO' OO1 OO2 : List (List XF)} {σ : St} {α β γ ρ ι δ ε : Type}
variable {Fd : Ends -> β -> Hp -> Prop} [fd : FdOk Fd] {u : TS}
theorem Hg (n : Nat) (H : Hp) : W (List.replicate n []) H:=⟨fun c hc=>(by rw [YI] at hc; cases hc), (by unfold fl; rw [YI]; exact List.nodup_nil), fun c hc=>(by rw [YI] at hc; cases hc)⟩
theorem CZ (n : Nat) (H : Hp) : hid H (List.replicate n []) = H:=by funext b; unfold hid fl; rw [YI]; simp
theorem E7 {o : OE ρ} [z : MonoO o] {Q : VK} {b : ρ} {H : Hp} (q : FF K o Q b H) : ∀ v C OO' H', W (C :: OO') H' -> Xu H (hid H' (C :: OO')) -> o K (hid H' (C :: OO')) v b C -> Q v H':=fun v C OO' H' w m ho=>by
  have hs : Xu (hid H' (C :: OO')) (hid H' [C]):=Qs (Xu.refl _) fun b hb=>by
    rw [X2]
    refine List.mem_append_left _ ?_
    simpa [fl] using hb
  exact q v C H' (w.sub (by simp)) (m.trans hs) (z.mono hs ho)
theorem YX {o : OE ρ} [MonoO o] {t : TS} {m : Rs ρ} {Q : VK} {b : ρ} {H : Hp} {D : Ends} (n : Nat) (h : Sv (fun _ _=>False) S (List.replicate n []) σ t (FTd K o) m) (hs : S.p H) (hm : m = .ok b) (q : FF K o Q b H) (hD : D.rt = Q) : t D σ H:=by
  refine h H D (Hg n H) (by rw [CZ]; exact hs) ?_
  subst hm
  rw [CZ]
  intro v C OO' H' w mm ho
  rw [hD]
  exact E7 q v C OO' H' w mm ho
noncomputable def oU : OE Unit:=fun _ _ v _ C=>v = .non /\ C = []
instance : MonoO oU:=⟨fun _ h=>h⟩
instance : FlatO oU:=⟨fun _ h=>h⟩
noncomputable def rU0 : Enc Unit:=fun _ _ v _=>v = .non
instance : FlatE rU0:=⟨fun _ h=>h⟩
instance : FrzC oU rU0:=⟨fun h _ _=>h.1⟩
theorem Iq {J : Jn Unit ι} {t : TS} {m : Rs Unit} {Q : VK} {b : Unit} {H : Hp} {D : Ends} (n : Nat) (h : Sv (fun _ _=>False) S (List.replicate n []) σ t (FNd J) m) (hs : S.p H) (hm : m = .ok b) (q : FF K oU Q b H) (hD : ∀ σ H, D.nx σ H = Q .non H) : t D σ H:=by
  refine h H D (Hg n H) (by rw [CZ]; exact hs) ?_
  subst hm
  rw [CZ]
  intro x H' w mm ho
  rw [hD]
  have hs : Xu (hid H' (J.oo x)) (hid H' [[]]):=Qs (Xu.refl _) fun b hb=>by simp [fl] at hb
  exact q .non [] H' ⟨fun c hc=>by simp at hc, by simp [fl], fun c hc=>by simp at hc⟩ (mm.trans hs) ⟨rfl, rfl⟩
theorem KG {t : TS} {m : Rs β} (k : Nat) (hr : Sv Er S (OO.set k []) σ t Fd m) : Sv Er S OO σ t Fd m:=fun H D w s P=>by
  cases hk : OO[k]? with
  | none=>
    rw [List.set_eq_of_length_le (List.getElem?_eq_none_iff.mp hk)] at hr
    exact hr H D w s P
  | some C=>
    have hp:=Yd hk
    have w1 : W (C :: OO.set k []) H:=w.of hp
    have hs : Xu (hid H OO) (hid H (OO.set k [])):=by
      rw [← X0 hp]
      exact Qs (Xu.refl _) fun b hb=>by rw [X2]; simp [hb]
    exact hr H D w1.tail (S.mono _ _ hs s) (PZ.tr (fd.tr D) hs P)
theorem Eu {te : TE} {r : Enc α} {m : Rs α} {f : Rs β} (he : EvB K Er S OO σ te r m) (hr : Sv Er S OO σ u Fd f) : Sv Er S OO σ (Je (Gx te) u) Fd (m.bind fun _=>f):=fun H D w s P=>
  he.st w s P fun a v H' s1 w' s' ho P'=>hr H' D w' s' P'
noncomputable def FAO {α : Type} (K : PySem.W.Frag) (OO OO' : List (List XF)) (o : OE α) (Q : List V -> Hp -> Prop) (as : List α) (H : Hp) : Prop:=∀ vs Cs H', Xu H H' -> W (Cs.flatten :: OO') H' -> Xu (hid H OO) (hid H' (Cs.flatten :: OO')) -> P3 (o K (hid H' (Cs.flatten :: OO'))) vs as Cs -> Q vs H'
noncomputable def HW {α : Type} (K : PySem.W.Frag) (Er : Exc -> Hp -> Prop) (S : SC) (OO OO' : List (List XF)) (σ : St) (t : TA) (o : OE α) (m : Rs (List α)) : Prop:=∀ H Q, W OO H -> S.p (hid H OO) -> PZ Er (FAO K OO OO' o Q) H m -> t σ H Q
theorem C6 {o : OE α} : HW K Er S OO OO σ QF o (.ok []):=fun H Q w s P=>P [] [] H (Xu.refl _) w.nil (by show Xu _ (hid H ([] :: OO)); rw [Zh]; exact Xu.refl _) .nil
theorem Fj {te : TE} {t : TA} {o : OE α} [z : MonoO o] {m : Rs α} {n : Rs (List α)} (he : Ev K Er S OO OO1 σ te o m) (ht : ∀ C, HW K Er S (C :: OO1) (C :: OO2) σ t o n) : HW K Er S OO OO2 σ (X1 te t) o (m.bind fun a=>n.bind fun as=>.ok (a :: as)):=fun H Q w s P=>by
  refine he H _ w s ?_
  cases em : m with
  | bad=>rw [em] at P; exact P
  | err x=>rw [em] at P; exact P
  | ok a=>
    rw [em] at P
    intro v C H1 s1 w1 m1 ho
    refine ht C H1 _ w1 (S.mono _ _ m1 s) ?_
    have P1 : PZ Er (FAO K OO OO2 o Q) H (n.bind fun as=>.ok (a :: as)):=P
    cases en : n with
    | bad=>rw [en] at P1; exact P1
    | err x=>rw [en] at P1; exact fun H2 s2=>P1 H2 (s1.trans s2)
    | ok as=>
      rw [en] at P1
      have P1 : FAO K OO OO2 o Q (a :: as) H:=P1
      intro vs Cs H2 s2 w2 m2 pr
      have pe : ((C :: Cs).flatten :: OO2).flatten.Perm (Cs.flatten :: C :: OO2).flatten:=by
        simp only [List.flatten_cons]
        rw [← List.append_assoc]
        exact List.perm_append_comm.append_right _
      refine P1 (v :: vs) (C :: Cs) H2 (s1.trans s2) (w2.of pe) ?_ ?_
      . rw [X0 pe]; exact m1.trans m2
      . rw [X0 pe]; exact .cons (z.mono m2 ho) pr
class InE {α : Type} [DecidableEq α] (r : Enc α) : Prop where
  fl : ∀ {K : PySem.W.Frag} {H : Hp} {x : V} {a : α}, r K H x a -> Jo x = true
  eq : ∀ {K : PySem.W.Frag} {H H' : Hp} {x y : V} {a b : α}, r K H x a -> r K H' y b -> eqV x y = decide (a = b)
instance : InE Xa:=⟨fun {K H x a} h=>by cases (show x = .int a from h); rfl, fun {K H H' x y a b} h h'=>by
  cases (show x = .int a from h); cases (show y = .int b from h'); show (a == b) = _; rw [Cn]⟩
theorem Vf [DecidableEq α] {r : Enc α} [z : InE r] {H H' : Hp} {x : V} {a : α} (hx : r K H x a) : ∀ {xs : List V} {as : List α}, Paired (r K H') xs as -> xs.all Jo = true /\ inV x xs = decide (a ∈ as)
  | _, _, .nil=>⟨rfl, by simp [inV]⟩
  | _, _, .cons h t=>by
    obtain ⟨h1, h2⟩:=Vf hx t
    refine ⟨by rw [List.all_cons, h1, z.fl h]; rfl, ?_⟩
    unfold inV at h2 ⊢
    rw [List.any_cons, h2, z.eq h hx, Bool.eq_iff_iff, Bool.or_eq_true, decide_eq_true_eq, decide_eq_true_eq, decide_eq_true_eq, List.mem_cons]
    exact or_congr ⟨Eq.symm, Eq.symm⟩ Iff.rfl
theorem E8 [DecidableEq α] {ta tb : TE} {r : Enc α} [z : InE r] {ma : Rs α} {mb : Rs (List α)} (ha : EvB K Er S OO σ ta r ma) (hb : EvB K Er S OO σ tb (rV r) mb) : EvB K Er S OO σ (tOp (rIn K false) ta tb) Ym (ma.bind fun a=>mb.bind fun as=>.ok (decide (a ∈ as))):=fun H Q w s P=>
  ha.run w s FB.tr P fun a x H1 s1 w1 q1 r1 P1=>hb.run w1 q1 FB.tr P1 fun b y H2 s2 w2 q2 ⟨p, xs, e, q, pr⟩ P2=>by
    obtain ⟨h1, h2⟩:=Vf r1 pr
    exact ⟨p, xs, e, .inl (SqL.of q), z.fl r1, h1, P2 _ H2 (Xu.refl _) (by rw [h2]; rfl)⟩
noncomputable def Bg [DecidableEq α] (as : List α) (a : α) : Rs Int:=match as.findIdx? (fun b=>decide (b = a)) with
  | some j=>.ok (j : Int)
  | none=>.bad
theorem GH [DecidableEq α] {r : Enc α} [z : InE r] {H H' : Hp} {x : V} {a : α} (hx : r K H x a) {xs : List V} {as : List α} (p : Paired (r K H') xs as) {j : Nat} (hj : as.findIdx? (fun b=>decide (b = a)) = some j) :
    (∃ y, xs[j]? = some y /\ eqV y x = true) /\ ∀ (m : Nat) y, m < j -> xs[m]? = some y -> eqV y x = false:=by
  rw [List.findIdx?_eq_some_iff_getElem] at hj
  obtain ⟨h1, h2, h3⟩:=hj
  constructor
  . obtain ⟨y, hy, ry⟩ := Paired.getR p (i := j) (b := as[j]) (by simp [h1])
    exact ⟨y, hy, by rw [z.eq ry hx]; exact h2⟩
  . intro m y hm hy
    obtain ⟨b, hb, rb⟩:=Paired.getL p hy
    have hml : m < as.length:=by omega
    have e : b = as[m]:=by rw [List.getElem?_eq_getElem hml] at hb; exact (Option.some.inj hb).symm
    rw [z.eq rb hx, e]
    have:=h3 m hm
    simpa using this
theorem Ew [DecidableEq α] {as : List α} {a : α} {x : Exc} : Bg as a ≠ .err x:=by unfold Bg; split <;> exact fun z=>nomatch z
theorem BK [DecidableEq α] {as : List α} {a : α} {n : Int} (h : Bg as a = .ok n) : ∃ j : Nat, as.findIdx? (fun b=>decide (b = a)) = some j /\ n = j:=by
  unfold Bg at h; split at h
  . cases h; exact ⟨_, by assumption, rfl⟩
  . cases h
theorem F5 [DecidableEq α] {ta tb : TE} {r : Enc α} [z : InE r] [y : MonoE r] {ma : Rs (List α)} {mb : Rs α} (ha : EvB K Er S OO σ ta (rV r) ma) (hb : EvB K Er S OO σ tb r mb) : EvB K Er S OO σ (tBM K "list" (DH K) ta (X1 tb QF)) Xa (ma.bind fun as=>mb.bind fun a=>Bg as a):=fun H Q w s P=>
  ha.run w s FB.tr P fun as x H1 s1 w1 q1 ⟨p, xs, e, q, pr⟩ P1=>⟨by rw [e]; exact .inl ⟨rfl, _, SqL.of q⟩, hb.run w1 q1 FB.tr P1 fun b v H2 s2 w2 q2 r2 P2=>by
    obtain ⟨c, hc, P3⟩:=P2.okOf fun x=>Ew
    obtain ⟨j, hj, rfl⟩:=BK hc
    have pr2:=Paired.imp2 (G:=r K H2) (fun _ _ h=>y.mono s2 h) pr
    obtain ⟨h1, h2⟩:=GH r2 pr2 hj
    exact ⟨p, xs, v, j, e, rfl, SqL.of (s2 _ _ q), z.fl r2, (Vf r2 pr2).1, h1, h2, P3 _ H2 (Xu.refl _) rfl⟩⟩
theorem Fu {α : Type} [DecidableEq α] {r r' : Enc α} {d : Nat} (E : EqOk r d) (h : ∀ {K : PySem.W.Frag} {H : Hp} {v : V} {a : α}, r' K H v a -> r K H v a) (m : MonoE r') : EqOk r' d where
  uniq:=fun I h1 h2=>E.uniq I (h h1) (h h2)
  eq:=fun I rx ry h1 h2 hu=>E.eq I rx ry (h h1) (h h2) hu
  rc:=fun I rx ry h1 h2 hu=>E.rc I rx ry (h h1) (h h2) hu
  ne:=fun I rx ry h1 h2 hu=>E.ne I rx ry (h h1) (h h2) hu
  keep:=fun s q=>m.mono s q
theorem Iz {α : Type} [DecidableEq α] {r : Enc α} {d : Nat} [m : MonoE r] (E : EqOk r d) : EqOk (rV r) (d + 1):=Fu (Ea E) (fun r9=>by obtain ⟨a, xs, e, q, p⟩:=r9; exact ⟨a, xs, e, SqL.of q, p⟩) inferInstance
theorem Hf {α β : Type} [DecidableEq α] [DecidableEq β] {r : Enc α} {q : Enc β} {d : Nat} [m : MonoE r] [n : MonoE q] (E : EqOk r d) (F : EqOk q d) : EqOk (rP2 r q) (d + 1):=Fu (Bx E F) (fun r9=>by obtain ⟨a, x, y, e, q, p⟩:=r9; exact ⟨a, x, y, e, SqT.of q, p⟩) inferInstance
end
end L2
namespace L2
open PySem PySem.Spec PyProof.Rows
section
variable {K : PySem.W.Frag} {Er : Exc -> Hp -> Prop} {S : SC} {OO OO' OO1 OO2 : List (List XF)} {σ : St} {α β γ ρ ι δ ε : Type}
variable {Fd : Ends -> β -> Hp -> Prop} [fd : FdOk Fd] {u : TS}
theorem QI {ta tb : TE} {o : OE α} {q : OE β} [z : MonoO o] [y : MonoO q] {ma : Rs α} {mb : Rs β} (ha : Ev K Er S OO OO1 σ ta o ma) (hb : ∀ C, Ev K Er S (C :: OO1) (C :: OO2) σ tb q mb) : Ev K Er S OO OO2 σ (EM (X1 ta (X1 tb QF))) (oT2 o q) (ma.bind fun a=>mb.bind fun b=>.ok (a, b)):=fun H Q w s P=>by
  refine ha H _ w s ?_
  cases em : ma with
  | bad=>rw [em] at P; exact P
  | err x=>rw [em] at P; exact P
  | ok a=>
    rw [em] at P
    intro v C H1 s1 w1 m1 ho
    refine hb C H1 _ w1 (S.mono _ _ m1 s) ?_
    have P1 : PZ Er (FO K OO OO2 (oT2 o q) Q) H (mb.bind fun b=>.ok (a, b)):=P
    cases en : mb with
    | bad=>rw [en] at P1; exact P1
    | err x=>rw [en] at P1; exact fun H2 s2=>P1 H2 (s1.trans s2)
    | ok b=>
      rw [en] at P1
      have P1 : FO K OO OO2 (oT2 o q) Q (a, b) H:=P1
      intro v2 C2 H2 s2 w2 m2 ho2
      refine ⟨by show 2 <= sizeLine; decide, fun p hp=>?_⟩
      have pe : ((C ++ C2) :: OO2).flatten.Perm (C2 :: C :: OO2).flatten:=by
        simp only [List.flatten_cons]
        rw [← List.append_assoc]
        exact List.perm_append_comm.append_right _
      have s3 : Xu H2 (upd H2 p (.tup [v, v2])):=Xy hp _
      have w3:=(w2.keep s3).of pe
      have m3 : Xu (hid H2 (C2 :: C :: OO2)) (hid (upd H2 p (.tup [v, v2])) ((C ++ C2) :: OO2)):=by rw [X0 pe]; exact Xj s3
      refine P1 (.ref p) (C ++ C2) _ (s1.trans (s2.trans s3)) w3 (m1.trans (m2.trans m3)) ⟨p, v, v2, C, C2, rfl, ?_, z.mono (m2.trans m3) ho, y.mono m3 ho2, rfl⟩
      rw [X0 pe]
      exact ZA w2 hp
theorem Bl {c : TT} {t1 : TS} {mc : Rs Bool} {m2 : Rs β} (hc : EvT Er S OO σ c mc) (h2 : Sv Er S OO σ u Fd m2) : Sv Er S OO σ (Je (EV c t1 FQ) u) Fd (mc.bind fun b=>if b = true then .bad else m2):=fun H D w s P=>
  hc.st w s P fun b H' w' s' P'=>by
    cases b with
    | true=>rw [if_pos rfl] at P'; exact P'.elim
    | false=>exact h2 H' D w' s' P'
theorem UL : ∀ {l : List XF} {a b : XF}, (l.map (·.1)).Nodup -> a ∈ l -> b ∈ l -> a.1 = b.1 -> a = b
  | [], _, _, _, h, _, _=>by cases h
  | c :: l, a, b, n, ha, hb, e=>by
    rw [List.map_cons, List.nodup_cons] at n
    cases ha with
    | head=>cases hb with
      | head=>rfl
      | tail _ hb=>exact absurd (List.mem_map.mpr ⟨b, hb, e.symm⟩) n.1
    | tail _ ha=>cases hb with
      | head=>exact absurd (List.mem_map.mpr ⟨a, ha, e⟩) n.1
      | tail _ hb=>exact UL n.2 ha hb e
theorem K2 {Cs : List (List XF)} {k : Nat} {C : List XF} (h : Cs[k]? = some C) : ∀ c ∈ C, c ∈ Cs.flatten:=fun c hc=>List.mem_flatten.mpr ⟨C, List.mem_of_getElem? h, hc⟩
theorem Bt {as : List α} {i : Int} {a : α} (h : atR as i = .ok a) : ∃ k, ixN as.length i = some k /\ as[k]? = some a:=by
  have:=Gh h
  unfold atI at this
  cases e : ixN as.length i with
  | none=>rw [e] at this; cases this
  | some k=>rw [e] at this; exact ⟨k, rfl, this⟩
theorem Ed {r : Enc α} [z : MonoE r] {v : V} {as : List (List α)} {row row' : List α} {H : Hp} {p q : Addr} {xs ys ys' : List V} {Cs : List (List XF)} {k kk : Nat} (w : W OO H) (hk : OO[k]? = some ((p, .lst xs) :: Cs.flatten)) (hP : P3 (oL (oF r) K (hid H OO)) xs as Cs) (hrow : as[kk]? = some row)
    (hx : xs[kk]? = some (.ref q)) (hq : H q = some (.lst ys)) (hcs : Cs[kk]? = some [(q, .lst ys)]) (pr : Paired (r K (hid H OO)) ys' row') :
    ∃ C', W (OO.set k C') (upd H q (.lst ys')) /\ Xu (hid H OO) (hid (upd H q (.lst ys')) (OO.set k C')) /\ oL (oL (oF r)) K (hid (upd H q (.lst ys')) (OO.set k C')) (.ref p) (as.set kk row') C':=by
  have hkl : kk < Cs.length:=by
    rcases Nat.lt_or_ge kk Cs.length with h | h
    . exact h
    . rw [List.getElem?_eq_none h] at hcs; cases hcs
  have hin : ∀ c ∈ (p, HO.lst xs) :: Cs.flatten, c ∈ OO.flatten:=fun c hc=>List.mem_flatten.mpr ⟨_, List.mem_of_getElem? hk, hc⟩
  have w0 : W ([] :: OO) H:=w.nil
  have cn0:=ZQ w0 hk
  rw [List.append_nil] at cn0
  have e0 : Cs[kk] = [(q, .lst ys)]:=by
    rw [List.getElem?_eq_getElem hkl] at hcs; exact Option.some.inj hcs
  have hp:=VY (Cs:=Cs) (j:=kk) (D:=[(q, HO.lst ys')]) hkl
  rw [e0] at hp
  have hpm : ((Cs.set kk [(q, HO.lst ys')]).flatten.map (·.1)).Perm (Cs.flatten.map (·.1)):=by
    have:=hp.map (·.1)
    simp only [List.map_append, List.map_cons, List.map_nil] at this
    exact (List.perm_append_right_iff _).mp this
  have hpne : p ∉ Cs.flatten.map (·.1):=by
    have h1:=Yd hk
    have:=(w.of (OO':=((p, HO.lst xs) :: Cs.flatten) :: OO.set k []) h1).nd
    rw [X2, List.map_cons, List.cons_append, List.nodup_cons] at this
    exact fun z=>this.1 (List.mem_append_left _ z)
  have hqC : q ∈ Cs.flatten.map (·.1):=List.mem_map.mpr ⟨(q, .lst ys), K2 hcs _ (by simp), rfl⟩
  have hpq : p ≠ q:=fun e=>hpne (e ▸ hqC)
  have hcells : ∀ c ∈ (p, HO.lst xs) :: (Cs.set kk [(q, HO.lst ys')]).flatten, upd H q (.lst ys') c.1 = some c.2 /\ EN c.2 = true:=fun c hc=>by
    rcases List.mem_cons.mp hc with rfl | hc
    . rw [Xq hpq]; exact ⟨w.tr _ (hin _ List.mem_cons_self), rfl⟩
    . obtain ⟨D, hD, hcD⟩ := List.mem_flatten.mp hc
      rcases List.mem_or_eq_of_mem_set hD with hD | hD
      . by_cases hcq : c.1 = q
        . -- a cell at q in another place: then it is this one
          have hc2 : c ∈ (Cs.set kk [(q, HO.lst ys')]).flatten:=hc
          have n1 : ((Cs.set kk [(q, HO.lst ys')]).flatten.map (·.1)).Nodup:=hpm.nodup_iff.mpr cn0
          have hm : (q, HO.lst ys') ∈ (Cs.set kk [(q, HO.lst ys')]).flatten:=List.mem_flatten.mpr ⟨[(q, .lst ys')], List.mem_set (by simpa using hkl) _, by simp⟩
          have e1 : c = (q, HO.lst ys'):=by
            have:=UL n1 hc2 hm hcq
            exact this
          rw [e1]; exact ⟨Yj, rfl⟩
        . rw [Xq hcq]
          have : c ∈ OO.flatten:=hin c (List.mem_cons_of_mem _ (List.mem_flatten.mpr ⟨D, hD, hcD⟩))
          exact ⟨w.tr c this, w.mu c this⟩
      . rw [hD] at hcD
        have e1 : c = (q, HO.lst ys'):=by simpa using hcD
        rw [e1]; exact ⟨Yj, rfl⟩
  have hq' : q ∈ (Cs.set kk [(q, HO.lst ys')]).flatten.map (·.1):=hpm.mem_iff.mpr hqC
  obtain ⟨w2, m2⟩:=By (C':=(p, .lst xs) :: (Cs.set kk [(q, HO.lst ys')]).flatten) (p:=q) (o:=.lst ys') w0 hk (List.mem_cons_of_mem _ hqC) (List.mem_cons_of_mem _ hq') (by
      rw [List.map_cons, List.nodup_cons]
      exact ⟨fun z=>hpne (hpm.mem_iff.mp z), hpm.nodup_iff.mpr cn0⟩) (fun b hb=>by
      rw [List.append_nil]
      rcases List.mem_cons.mp hb with rfl | hb
      . exact List.mem_cons_self
      . exact List.mem_cons_of_mem _ (hpm.mem_iff.mp hb)) (fun c hc=>(hcells c hc).1) fun c hc=>(hcells c hc).2
  rw [Zh] at m2
  have e3 : xs.set kk (.ref q) = xs:=by
    apply List.ext_getElem?
    intro n
    by_cases hn : n = kk
    . subst hn
      rw [hx, List.getElem?_set_self (by
        rcases Nat.lt_or_ge n xs.length with h | h
        . exact h
        . rw [List.getElem?_eq_none h] at hx; cases hx)]
    . rw [List.getElem?_set_ne (fun e=>hn e.symm)]
  refine ⟨_, w2, m2, ⟨p, xs, Cs.set kk [(q, HO.lst ys')], rfl, ?_, rfl⟩⟩
  have:=P3.set (F:=oL (oF r) K (hid (upd H q (.lst ys')) (OO.set k ((p, .lst xs) :: (Cs.set kk [(q, HO.lst ys')]).flatten)))) (a:=V.ref q) (b:=row') (c:=[(q, HO.lst ys')])
    ⟨q, ys', List.replicate row'.length [], rfl, (P3.of (Paired.imp2 (fun _ _ h=>z.mono m2 h) pr)).imp fun _ _ _ h=>h, by rw [YI]⟩ kk (P3.imp (fun _ _ _ h=>MonoO.mono m2 h) hP)
  rw [e3] at this
  exact this
theorem BV {r : Enc α} {h : Hp} {as : List (List α)} {xs : List V} {Cs : List (List XF)} {kk : Nat} {row : List α} (q : P3 (oL (oF r) K h) xs as Cs) (hrow : as[kk]? = some row) : ∃ q0 ys, xs[kk]? = some (.ref q0) /\ Cs[kk]? = some [(q0, .lst ys)] /\ Paired (r K h) ys row:=by
  obtain ⟨x, c, h1, h2, p, ys, Ds, e, h3, h4⟩:=q.get hrow
  obtain ⟨h5, h6⟩:=P3.flat h3
  rw [h6] at h4
  exact ⟨p, ys, by rw [h1, e], by rw [h2, h4], h5⟩
theorem DY {ta ti : TE} {r : Enc α} [z : MonoE r] {m : Rs α} {mi : Rs Int} {f : List (List α) -> Rs β} {v : V} {as : List (List α)} {C : List XF} (i k : Nat) (hσ : σ[i]? = some (some v)) (hk : OO[k]? = some C) (h : ∀ x, S.p x -> oL (oL (oF r)) K x v as C) (he : EvS K Er S OO σ ta r m)
    (hi : EvB K Er S OO σ ti Xa mi)
    (hr : ∀ bs C', Sv Er (S.addO K (oL (oL (oF r))) v bs C') (OO.set k C') σ u Fd (f bs)) :
    Sv Er S OO σ (Je (Gx (tBM K "list" VI (tOp (Br K) (U2 i) ti) (X1 ta QF))) u) Fd (mi.bind fun x=>(atR as x).bind fun row=>m.bind fun a=>chk (row.length < sizeLine) ((Qw as x (row ++ [a])).bind f)):=fun H D w s P=>
  ⟨v, hσ, hi.st w s P fun x vx H2 s2 w2 q2 r2 P2=>by
    cases ea : atR as x with
    | bad=>rw [ea] at P2; exact P2.elim
    | err ex=>exact absurd ea US
    | ok row=>
      rw [ea] at P2
      obtain ⟨kk, hkk, hrow⟩:=Bt ea
      obtain ⟨p, xs, Cs, e, q, c⟩:=h _ q2
      subst c e
      obtain ⟨q0, ys, g1, g2, g3⟩:=BV q hrow
      have hin : ∀ c ∈ (p, HO.lst xs) :: Cs.flatten, c ∈ OO.flatten:=fun c hc=>List.mem_flatten.mpr ⟨_, List.mem_of_getElem? hk, hc⟩
      have hH : H2 p = some (.lst xs):=w2.tr (p, .lst xs) (hin _ List.mem_cons_self)
      have hq0 : H2 q0 = some (.lst ys):=w2.tr (q0, .lst ys) (hin _ (List.mem_cons_of_mem _ (K2 g2 _ (by simp))))
      refine ⟨p, xs, x, .ref q0, rfl, r2, SqL.of hH, by unfold atI; rw [q.len.1, hkk]; exact g1, .inl ⟨rfl, _, SqL.of hq0⟩, he.st w2 q2 (f:=fun a=>chk (row.length < sizeLine) ((Qw as x (row ++ [a])).bind f)) P2 fun a va H3 s3 w3 q3 r3 P3'=>?_⟩
      obtain ⟨hsz, P3'⟩:=PZ.chk P3'
      have P4 : PZ Er (Fd D) (hid H3 OO) (f (as.set kk (row ++ [a]))):=by
        have e5 : Qw as x (row ++ [a]) = .ok (as.set kk (row ++ [a])):=by unfold Qw; rw [hkk]
        rw [e5] at P3'
        exact P3'
      have m3:=Xj (OO:=OO) s3
      obtain ⟨C', w4, m4, o4⟩:=Ed (ys':=ys ++ [va]) (row':=row ++ [a]) (v:=.ref p) w3 hk (P3.imp (fun _ _ _ h=>MonoO.mono m3 h) q) hrow g1 (s3 _ _ hq0) g2 (Paired.app (Paired.imp2 (fun _ _ h=>z.mono m3 h) g3) (.cons r3 .nil))
      exact ⟨q0, ys, va, rfl, rfl, s3 _ _ hq0, by rw [Paired.len g3]; exact hsz, hr _ C' _ D w4 ⟨S.mono _ _ m4 q3, o4⟩ (PZ.tr (fd.tr D) m4 P4)⟩⟩
theorem Ia {H H' : Hp} {C D : List XF} {k : Nat} (w : W OO H) (hk : OO[k]? = some C) (s : Xu H H') (w' : W (D :: OO.set k []) H') (m : Xu (hid H (OO.set k [])) (hid H' (D :: OO.set k []))) :
    W (D :: OO) H' /\ Xu (hid H OO) (hid H' (D :: OO)) /\ Jl (hid H' (D :: OO.set k [])) (hid H' (D :: OO)):=by
  have hp:=Yd hk
  have wk : W (C :: OO.set k []) H:=w.of hp
  have hC : ∀ c ∈ C, hid H (OO.set k []) c.1 = some c.2:=fun c hc=>Zp (wk.cell c hc) (by
    have:=wk.nd
    rw [X2] at this
    exact fun hb=>(List.nodup_append.mp this).2.2 c.1 (List.mem_map.mpr ⟨c, hc, rfl⟩) c.1 hb rfl)
  have hC' : ∀ c ∈ C, H' c.1 = some c.2 /\ c.1 ∉ fl (D :: OO.set k []):=fun c hc=>XX (m _ _ (hC c hc))
  have w2 : W (C :: D :: OO.set k []) H':=by
    refine ⟨fun c hc=>?_, ?_, fun c hc=>?_⟩
    . rw [List.flatten_cons, List.mem_append] at hc
      exact hc.elim (fun hc=>(hC' c hc).1) fun hc=>w'.tr c hc
    . rw [X2]
      refine List.nodup_append.mpr ⟨?_, w'.nd, fun a ha b hb e=>?_⟩
      . have := wk.nd
        rw [X2] at this
        exact (List.nodup_append.mp this).1
      . obtain ⟨c, hc, rfl⟩ := List.mem_map.mp ha
        subst e
        exact (hC' c hc).2 hb
    . rw [List.flatten_cons, List.mem_append] at hc
      exact hc.elim (fun hc=>wk.mu c (by simp [hc])) fun hc=>w'.mu c hc
  have pe : (D :: OO).flatten.Perm (C :: D :: OO.set k []).flatten:=by
    simp only [List.flatten_cons]
    refine List.Perm.trans (List.Perm.append_left D (by simpa using hp.symm : OO.flatten.Perm (C ++ (OO.set k []).flatten))) ?_
    rw [← List.append_assoc, ← List.append_assoc]
    exact List.perm_append_comm.append_right _
  have w3:=w2.of pe
  refine ⟨w3, fun b u q=>?_, fun b u q i=>w3.i b u (XX q).1 i⟩
  obtain ⟨q1, q2⟩:=XX q
  have q3 : hid H (OO.set k []) b = some u:=Zp q1 fun z=>q2 ((Qq hp b).mp (by rw [X2]; simp [z]))
  obtain ⟨q4, q5⟩:=XX (m _ _ q3)
  refine Zp q4 fun z=>?_
  have z2:=(Qq pe b).mp z
  rw [X2, List.mem_append] at z2
  rcases z2 with z2 | z2
  . exact q2 ((Qq hp b).mp (by rw [X2]; exact List.mem_append_left _ z2))
  . exact q5 z2
theorem Iu {r1 : Enc γ} {o1 : OE γ} [z : FrzC o1 r1] [MonoE r1] {H : Hp} {v : V} {a : γ} {C : List XF} {k : Nat} (w : W OO H) (hk : OO[k]? = some C) (s : S.p (hid H OO)) (h : ∀ x, S.p x -> o1 K x v a C) :
    W (OO.set k []) H /\ (S.add K r1 v a).p (hid H (OO.set k [])):=by
  have hp:=Yd hk
  have wk : W (C :: OO.set k []) H:=w.of hp
  have hs : Xu (hid H OO) (hid H (OO.set k [])):=by
    rw [← X0 hp]
    exact Qs (Xu.refl _) fun b hb=>by rw [X2]; simp [hb]
  refine ⟨wk.tail, S.mono _ _ hs s, z.frz (h _ s) hs fun c hc=>Zp (wk.cell c hc) ?_⟩
  have:=wk.nd
  rw [X2] at this
  exact fun hb=>(List.nodup_append.mp this).2.2 c.1 (List.mem_map.mpr ⟨c, hc, rfl⟩) c.1 hb rfl
theorem Uc {te : TE} {o : OE α} [y : FlatO o] {r1 : Enc γ} {o1 : OE γ} [FrzC o1 r1] [MonoE r1] {m : Rs α} {v : V} {a : γ} {C : List XF} (k : Nat) (hk : OO[k]? = some C) (h : ∀ x, S.p x -> o1 K x v a C) (he : Ev K Er (S.add K r1 v a) (OO.set k []) (OO.set k []) σ te o m) : Ev K Er S OO OO σ te o m:=fun H Q w s P=>by
  obtain ⟨w1, s1⟩:=Iu (r1:=r1) w hk s h
  refine he H Q w1 s1 (P.imp fun b _ hb v' D H' s' w' m' ho=>?_)
  obtain ⟨w3, m3, i3⟩:=Ia w hk s' w' m'
  exact hb v' D H' s' w3 m3 (y.flat i3 ho)
end
end L2
namespace L2
open PySem PySem.Spec PyProof.Rows
section
variable {K : PySem.W.Frag} {Er : Exc -> Hp -> Prop} {S : SC} {OO OO' OO1 OO2 : List (List XF)} {σ : St} {α β γ ρ ι δ ε : Type}
variable {Fd : Ends -> β -> Hp -> Prop} [fd : FdOk Fd] {u : TS}
noncomputable def IT : Option α -> Rs α
  | some a=>.ok a
  | none=>.bad
end
end L2
namespace L2
open PySem PySem.Spec PyProof.Rows
section
variable {K : PySem.W.Frag} {Er : Exc -> Hp -> Prop} {S : SC} {OO OO' OO1 OO2 : List (List XF)} {σ : St} {α β γ ρ ι δ ε : Type}
variable {α1 α2 α3 α4 α5 : Type}
noncomputable def rP5 (r1 : Enc α1) (r2 : Enc α2) (r3 : Enc α3) (r4 : Enc α4) (r5 : Enc α5) : Enc (α1 × α2 × α3 × α4 × α5):=fun K H v p=>∃ a x1 x2 x3 x4 x5, v = .ref a /\ H a = some (.tup [x1, x2, x3, x4, x5]) /\ r1 K H x1 p.1 /\ r2 K H x2 p.2.1 /\ r3 K H x3 p.2.2.1 /\ r4 K H x4 p.2.2.2.1 /\ r5 K H x5 p.2.2.2.2
instance {r1 : Enc α1} {r2 : Enc α2} {r3 : Enc α3} {r4 : Enc α4} {r5 : Enc α5} [m1 : MonoE r1] [m2 : MonoE r2] [m3 : MonoE r3] [m4 : MonoE r4] [m5 : MonoE r5] : MonoE (rP5 r1 r2 r3 r4 r5):=⟨fun s r9=>by obtain ⟨a, x1, x2, x3, x4, x5, e, h, p1, p2, p3, p4, p5⟩:=r9; exact ⟨a, x1, x2, x3, x4, x5, e, s _ _ h, m1.mono s p1, m2.mono s p2, m3.mono s p3, m4.mono s p4, m5.mono s p5⟩⟩
instance {r1 : Enc α1} {r2 : Enc α2} {r3 : Enc α3} {r4 : Enc α4} {r5 : Enc α5} [m1 : FlatE r1] [m2 : FlatE r2] [m3 : FlatE r3] [m4 : FlatE r4] [m5 : FlatE r5] : FlatE (rP5 r1 r2 r3 r4 r5):=⟨fun s r9=>by obtain ⟨a, x1, x2, x3, x4, x5, e, h, p1, p2, p3, p4, p5⟩:=r9; exact ⟨a, x1, x2, x3, x4, x5, e, s _ _ h rfl, m1.flat s p1, m2.flat s p2, m3.flat s p3, m4.flat s p4, m5.flat s p5⟩⟩
theorem Ck {t1 : TE} {t2 : TE} {t3 : TE} {t4 : TE} {t5 : TE} {r1 : Enc α1} {r2 : Enc α2} {r3 : Enc α3} {r4 : Enc α4} {r5 : Enc α5} [z1 : MonoE r1] [z2 : MonoE r2] [z3 : MonoE r3] [z4 : MonoE r4] [z5 : MonoE r5] {m1 : Rs α1} {m2 : Rs α2} {m3 : Rs α3} {m4 : Rs α4} {m5 : Rs α5} (h1 : EvS K Er S OO σ t1 r1 m1) (h2 : EvS K Er S OO σ t2 r2 m2) (h3 : EvS K Er S OO σ t3 r3 m3) (h4 : EvS K Er S OO σ t4 r4 m4) (h5 : EvS K Er S OO σ t5 r5 m5) : EvS K Er S OO σ (EM (X1 t1 (X1 t2 (X1 t3 (X1 t4 (X1 t5 QF)))))) (rP5 r1 r2 r3 r4 r5) (m1.bind fun a1=>m2.bind fun a2=>m3.bind fun a3=>m4.bind fun a4=>m5.bind fun a5=>.ok (a1, a2, a3, a4, a5)):=fun H Q w s P=>
  h1.run w s FS.tr P fun a1 y1 H1 s1 w1 u1 q1 P1=>h2.run w1 u1 FS.tr P1 fun a2 y2 H2 s2 w2 u2 q2 P2=>h3.run w2 u2 FS.tr P2 fun a3 y3 H3 s3 w3 u3 q3 P3=>h4.run w3 u3 FS.tr P3 fun a4 y4 H4 s4 w4 u4 q4 P4=>h5.run w4 u4 FS.tr P4 fun a5 y5 H5 s5 w5 u5 q5 P5=>⟨by show 5 <= sizeLine; decide, fun p hp=>P5 _ _ (Xy hp _) ⟨p, y1, y2, y3, y4, y5, rfl, ZA w5 hp, z1.mono ((Xj s2).trans ((Xj s3).trans ((Xj s4).trans ((Xj s5).trans (Xj (Xy hp _)))))) q1, z2.mono ((Xj s3).trans ((Xj s4).trans ((Xj s5).trans (Xj (Xy hp _))))) q2, z3.mono ((Xj s4).trans ((Xj s5).trans (Xj (Xy hp _)))) q3, z4.mono ((Xj s5).trans (Xj (Xy hp _))) q4, z5.mono (Xj (Xy hp _)) q5⟩⟩
noncomputable def tg5 {r1 : Enc α1} {r2 : Enc α2} {r3 : Enc α3} {r4 : Enc α4} {r5 : Enc α5} [MonoE r1] [MonoE r2] [MonoE r3] [MonoE r4] [MonoE r5] (i1 i2 i3 i4 i5 : Nat) : Tgt K OO (Bv K 5 (Z0 (Zl i1) (Z0 (Zl i2) (Z0 (Zl i3) (Z0 (Zl i4) (Z0 (Zl i5) El)))))) (rP5 r1 r2 r3 r4 r5) (V × V × V × V × V) where
  set:=fun v σ=>(((((σ.set i1 (some v.1)).set i2 (some v.2.1)).set i3 (some v.2.2.1)).set i4 (some v.2.2.2.1)).set i5 (some v.2.2.2.2))
  sc:=fun a v S=>(((((S.add K r1 v.1 a.1).add K r2 v.2.1 a.2.1).add K r3 v.2.2.1 a.2.2.1).add K r4 v.2.2.2.1 a.2.2.2.1).add K r5 v.2.2.2.2 a.2.2.2.2)
  ok:=fun {H v a σ S Q} r9 hs hq=>by obtain ⟨p, x1, x2, x3, x4, x5, e, h, h1, h2, h3, h4, h5⟩:=r9; exact ⟨p, _, e, SqT.of (Xt _ _ h), rfl, x1, [x2, x3, x4, x5], rfl, x2, [x3, x4, x5], rfl, x3, [x4, x5], rfl, x4, [x5], rfl, x5, [], rfl, rfl, hq (x1, x2, x3, x4, x5) ⟨⟨⟨⟨⟨hs, h1⟩, h2⟩, h3⟩, h4⟩, h5⟩⟩
noncomputable def rDP {α : Type} (r : Enc α) (K : PySem.W.Frag) (H : Hp) (kv : Key × V) (kx : Int × α) : Prop:=kv.1 = .inl kx.1 /\ r K H kv.2 kx.2
noncomputable def rD {α : Type} (r : Enc α) : Enc (List (Int × α)):=fun K H v d=>∃ p kvs, v = .ref p /\ H p = some (.dK kvs) /\ Paired (rDP r K H) kvs d
noncomputable def oD {α : Type} (r : Enc α) : OE (List (Int × α)):=fun K h v d C=>∃ p kvs, v = .ref p /\ Paired (rDP r K h) kvs d /\ C = [(p, .dK kvs)]
instance {r : Enc α} [m : MonoE r] : MonoE (rD r):=⟨fun s r9=>by obtain ⟨p, kvs, e, q, pr⟩:=r9; exact ⟨p, kvs, e, s _ _ q, Paired.imp2 (fun _ _ z=>⟨z.1, m.mono s z.2⟩) pr⟩⟩
instance {r : Enc α} [m : MonoE r] : MonoO (oD r):=⟨fun s r9=>by obtain ⟨p, kvs, e, pr, c⟩:=r9; exact ⟨p, kvs, e, Paired.imp2 (fun _ _ z=>⟨z.1, m.mono s z.2⟩) pr, c⟩⟩
instance {r : Enc α} [m : FlatE r] : FlatO (oD r):=⟨fun s r9=>by obtain ⟨p, kvs, e, pr, c⟩:=r9; exact ⟨p, kvs, e, Paired.imp2 (fun _ _ z=>⟨z.1, m.flat s z.2⟩) pr, c⟩⟩
instance {r : Enc α} [m : MonoE r] : FrzC (oD r) (rD r):=⟨fun r9 s hc=>by obtain ⟨p, kvs, e, pr, c⟩:=r9; exact ⟨p, kvs, e, hc (p, .dK kvs) (by rw [c]; simp), Paired.imp2 (fun _ _ z=>⟨z.1, m.mono s z.2⟩) pr⟩⟩
noncomputable def Zf (d : List (Int × α)) (k : Int) : Option α:=(d.find? fun kv=>decide (kv.1 = k)).map (·.2)
noncomputable def J6 (d : List (Int × α)) (k : Int) (v : α) : List (Int × α):=if (d.any fun kv=>decide (kv.1 = k)) = true then d.map (fun kv=>if kv.1 = k then (kv.1, v) else kv) else d ++ [(k, v)]
noncomputable def Vp (d : List (Int × α)) (k : Int) : Rs α:=IT (Zf d k)
theorem Qt {r : Enc α} {H : Hp} {k : Int} : ∀ {kvs : List (Key × V)} {d : List (Int × α)}, Paired (rDP r K H) kvs d -> (∀ a, Zf d k = some a -> ∃ v, Ke kvs (.inl k) = some v /\ r K H v a) /\ (Ke kvs (.inl k)).isSome = (Zf d k).isSome
  | _, _, .nil=>⟨fun a h=>(by cases h), rfl⟩
  | kv :: kvs, kx :: d, .cons h t=>by
    obtain ⟨h1, h2⟩:=Qt (k:=k) t
    by_cases e : kx.1 = k
    . have e2 : kv.1 = .inl k := by rw [h.1, e]
      rw [Jz e2]
      have e3 : Zf (kx :: d) k = some kx.2:=by simp [Zf, List.find?_cons, e]
      rw [e3]
      exact ⟨fun a ha=>by cases ha; exact ⟨_, rfl, h.2⟩, rfl⟩
    . have e2 : ¬ kv.1 = .inl k := by rw [h.1]; exact fun z => e (Sum.inl.inj z)
      rw [Jy e2]
      have e3 : Zf (kx :: d) k = Zf d k:=by simp [Zf, List.find?_cons, e]
      rw [e3]
      exact ⟨h1, h2⟩
theorem VF {r : Enc α} {H : Hp} {k : Int} : ∀ {kvs : List (Key × V)} {d : List (Int × α)}, Paired (rDP r K H) kvs d -> (kvs.any fun kv=>decide (kv.1 = .inl k)) = d.any fun kx=>decide (kx.1 = k)
  | _, _, .nil=>rfl
  | kv :: kvs, kx :: d, .cons h t=>by
    rw [List.any_cons, List.any_cons, VF t, h.1]
    congr 1
    rw [Bool.eq_iff_iff]; simp
theorem J1 {r : Enc α} {H : Hp} {k : Int} {v : V} {a : α} (hv : r K H v a) {kvs : List (Key × V)} {d : List (Int × α)} (h : Paired (rDP r K H) kvs d) : Paired (rDP r K H) (Vg kvs (.inl k) v) (J6 d k a):=by
  unfold Vg J6
  rw [VF h]
  by_cases e : (d.any fun kx=>decide (kx.1 = k)) = true
  . rw [if_pos e, if_pos e]
    clear e
    induction h with
    | nil=>exact .nil
    | @cons kv kx l m h t ih=>
      refine .cons ?_ ih
      show rDP r K H (if kv.1 = .inl k then (kv.1, v) else kv) (if kx.1 = k then (kx.1, a) else kx)
      by_cases e : kx.1 = k
      . rw [if_pos (show kv.1 = .inl k by rw [h.1, e]), if_pos e]; exact ⟨h.1, hv⟩
      . rw [if_neg (show ¬ kv.1 = .inl k by rw [h.1]; exact fun z=>e (Sum.inl.inj z)), if_neg e]; exact h
  . rw [if_neg e, if_neg e]
    exact Paired.app h (.cons ⟨rfl, hv⟩ .nil)
theorem BR {r : Enc α} : Ev K Er S OO OO σ Bn (oD r) (.ok []):=fun H Q w s P=>fun p hp=>P (.ref p) [(p, .dK [])] _ (Xy hp _) (w.new hp rfl) (QC hp) ⟨p, [], rfl, .nil, rfl⟩
theorem Uh {td ty : TE} {r : Enc α} [z : MonoE r] {md : Rs (List (Int × α))} {mk : Rs Int} (hd : EvB K Er S OO σ td (rD r) md) (hk : EvB K Er S OO σ ty Xa mk) : EvB K Er S OO σ (HI td ty) r (md.bind fun d=>mk.bind fun k=>Vp d k):=fun H Q w s P=>
  hd.run w s FB.tr P fun d x H1 s1 w1 q1 ⟨p, kvs, e, q, pr⟩ P1=>hk.run w1 q1 FB.tr P1 fun k y H2 s2 w2 q2 r2 P2=>by
    cases eg : Zf d k with
    | none=>rw [Vp, eg] at P2; exact P2.elim
    | some a=>
      rw [Vp, eg] at P2
      obtain ⟨v, hv, rv⟩:=(Qt (k:=k) pr).1 a eg
      exact ⟨p, v, e, .inl ⟨kvs, .inl k, .inl (s2 _ _ q), r2, hv.symm⟩, P2 _ H2 (Xu.refl _) (z.mono s2 rv)⟩
theorem CQ {td ty : TE} {r : Enc α} {md : Rs (List (Int × α))} {mk : Rs Int} (hk : EvB K Er S OO σ ty Xa mk) (hd : EvB K Er S OO σ td (rD r) md) : EvB K Er S OO σ (Fz ty td) Ym (mk.bind fun k=>md.bind fun d=>.ok (!(Zf d k).isSome)):=fun H Q w s P=>
  hk.run w s FB.tr P fun k y H1 s1 w1 q1 r1 P1=>hd.run w1 q1 FB.tr P1 fun d x H2 s2 w2 q2 r9 P2=>by obtain ⟨p, kvs, e, q, pr⟩:=r9; exact ⟨p, Ke kvs (.inl k), e, .inl ⟨kvs, .inl k, .inl q, r1, rfl⟩, P2 _ H2 (Xu.refl _) (by rw [(Qt (k:=k) pr).2]; rfl)⟩
variable {Fd : Ends -> β -> Hp -> Prop} [fd : FdOk Fd] {u : TS}
theorem Eb {tv ty : TE} {r : Enc α} [z : MonoE r] {mv : Rs α} {mk : Rs Int} {f : List (Int × α) -> Rs β} {v : V} {d : List (Int × α)} {C : List XF} (i k : Nat) (hσ : σ[i]? = some (some v)) (hk : OO[k]? = some C) (h : ∀ x, S.p x -> oD r K x v d C) (hv : EvS K Er S OO σ tv r mv) (hy : EvB K Er S OO σ ty Xa mk)
    (hr : ∀ d' C', Sv Er (S.addO K (oD r) v d' C') (OO.set k C') σ u Fd (f d')) : Sv Er S OO σ (Je (E4 (U2 i) ty tv) u) Fd (mv.bind fun a=>mk.bind fun n=>chk (d.length < sizeLine) (f (J6 d n a))):=fun H D w s P=>
  hv.st w s P fun a va H1 s1 w1 q1 r1 P1=>⟨v, hσ, hy.st w1 q1 P1 fun n vn H2 s2 w2 q2 r2 P2=>by
    obtain ⟨hsz, P2⟩:=PZ.chk P2
    obtain ⟨p, kvs, e, pr, c⟩:=h _ q2
    subst c e
    have hH : H2 p = some (.dK kvs):=w2.tr (p, .dK kvs) (List.mem_flatten.mpr ⟨_, List.mem_of_getElem? hk, by simp⟩)
    obtain ⟨w3, m3⟩:=By (D:=[]) (C':=[(p, .dK (Vg kvs (.inl n) va))]) (p:=p) (o:=.dK (Vg kvs (.inl n) va)) w2.nil hk (by simp) (by simp) (by simp) (fun b hb=>by simpa using hb) (fun c hc=>by
      have : c = (p, .dK (Vg kvs (.inl n) va)):=by simpa using hc
      rw [this]; exact Yj) (fun c hc=>by
      have : c = (p, .dK (Vg kvs (.inl n) va)):=by simpa using hc
      rw [this]; rfl)
    rw [Zh] at m3
    refine ⟨p, _, rfl, .inl ⟨kvs, .inl n, hH, r2, by rw [Paired.len pr]; exact hsz, rfl⟩, ?_⟩
    exact hr _ _ _ D w3 ⟨S.mono _ _ m3 q2, ⟨p, _, rfl, J1 (z.mono ((Xj s2).trans m3) r1) (Paired.imp2 (fun _ _ h=>⟨h.1, z.mono m3 h.2⟩) pr), rfl⟩⟩ (PZ.tr (fd.tr D) m3 P2)⟩
end
end L2
namespace L2
open PySem PySem.Spec PyProof.Rows
theorem Y5.ex {P : Program} {w : World} {H : Hp} {h : Heap} {a : Addr} {o : HO} (x : Y5 P w H h a o) : ∃ u, h.get? a = some u:=by
  cases o with
  | lst xs=>obtain ⟨_, _, _, _, e⟩:=x; exact ⟨_, e⟩
  | tup xs=>obtain ⟨_, _, _, p⟩:=x; obtain ⟨o, e, _⟩:=p; exact ⟨_, e⟩
  | dK kvs=>obtain ⟨_, _, _, _, o, _, _, e, _⟩:=x; exact ⟨_, e⟩
  | dT kvs=>obtain ⟨_, _, _, _, o, _, _, e, _⟩:=x; exact ⟨_, e⟩
  | set S n=>obtain ⟨o, _, _, _, e, _⟩:=x; exact ⟨_, e⟩
  | ins C dx fs=>obtain ⟨_, _, _, e, _⟩:=x; exact ⟨_, e⟩
  | own y=>exact x
  | xd fs=>obtain ⟨_, ⟨_, _, _, e, _⟩, _⟩:=x; exact ⟨_, e⟩
  | rng lo hi=>obtain ⟨_, _, _, e⟩:=x; exact ⟨_, e⟩
  | frz ob u=>exact ⟨_, x.1⟩
  | tbl ps=>exact ⟨_, x⟩
  | met f y=>exact ⟨_, x⟩
  | ext φ=>exact x.2.1
theorem HOk.un0 {P : Program} {w : World} {H : Hp} {h : Heap} {a : Addr} (x : HOk P w H h) (e : h.get? a = none) : H a = none:=by
  cases q : H a with
  | none=>rfl
  | some u=>obtain ⟨v, hv⟩:=(x a u q).ex; rw [e] at hv; cases hv
structure Fl (h0 h : Heap) (H : Hp) (a T : Addr) (cls : Value) : Prop where
  na : h0.get? a = none
  nT : h0.get? T = none
  fa : H a = none
  fT : H T = none
  ne : T ≠ a
  obj : ∃ oe vs oT ts a0, h.get? a = some oe /\ oe.cls = cls /\ vs[0]? = some a0 /\ oe.data = .fields vs /\ vs[1]? = some (.ref T) /\ h.get? T = some oT /\ oT.data = .fields ts /\ ts[3]? = some Value.none
noncomputable def IA (h : Heap) (fs : List Addr) (a T : Addr) : Heap:=DP h (fun b=>if b ∈ fs ∨ b = a ∨ b = T then some (.own 0) else none)
theorem Gk {h : Heap} {fs : List Addr} {a T b : Addr} {o : Obj} (e : h.get? b = some o) (n1 : b ∉ fs) (n2 : b ≠ a) (n3 : b ≠ T) : (IA h fs a T).get? b = some o:=
  KN e (if_neg fun z=>z.elim n1 fun z=>z.elim n2 n3)
section
variable {P : Program} {w : World} {h0 h h' base : Heap} {H : Hp} {a T : Addr} {cls a0 : Value} {l : List Env}
theorem Un.traced (hl : h.FunFrames base l) (keep : ∀ b o, b ∉ frs l -> b ≠ a -> b ≠ T -> h.get? b = some o -> h'.get? b = some o) (up : h.UpToSlots h') : Un (frs l) [a, T] H H h h' where
  keep:=fun b o e _ hb hx=>keep b o hb (fun z=>hx (by simp [z])) (fun z=>hx (by simp [z])) e
  slot:=fun b o e _ hb _=>by
    obtain ⟨_, o2, ho2, hd2⟩:=hl.mem hb
    rw [e] at ho2; cases ho2
    exact up b o e hd2
  free:=fun b o e n _=>n
  there:=fun b o e hx=>by
    by_cases hb : b ∈ frs l
    . obtain ⟨_, o2, ho2, hd2⟩ := hl.mem hb
      obtain ⟨sl, q⟩:=up b o2 ho2 hd2
      exact ⟨_, q⟩
    . exact ⟨o, keep b o hb (fun z=>hx (by simp [z])) (fun z=>hx (by simp [z])) e⟩
  tups:=fun _ _ q=>q
  frzs:=fun _ _ _ q=>q
  tbls:=fun _ ps q=>⟨#[], by simpa using q⟩
theorem HOk.traced (hok : HOk P w H h) (hfn : ∀ b ∈ frs l, H b = none) (fa : H a = none) (fT : H T = none) (keep : ∀ b o, b ∉ frs l -> b ≠ a -> b ≠ T -> h.get? b = some o -> h'.get? b = some o) : HOk P w H h':=fun b o e=>by
  refine (hok b o e).stay (fun c u hc q=>?_) (fun _ q=>q) fun _ _ q=>q
  have hn : H c ≠ none:=by
    rcases hc with z | z
    . rw [z, e]; exact fun y=>nomatch y
    . rw [z]; exact fun y=>nomatch y
  exact keep c u (fun z=>hn (hfn c z)) (fun z=>hn (z ▸ fa)) (fun z=>hn (z ▸ fT)) q
theorem Fl.after (x : Fl h0 h H a T cls) (hl : h.FunFrames base l) (hfn : ∀ b ∈ frs l, H b = none) (hok : HOk P w H h) (th : ∀ b o, h0.get? b = some o -> ∃ o', h.get? b = some o')
    (st : (IA h (frs l) a T).StaysIn h') (tr : h'.TracedW (IA h (frs l) a T) a cls a0) (up : h.UpToSlots h') : ∃ T', Fl h0 h' H a T' cls /\ HOk P w H h' /\ Un (frs l) [a, T] H H h h':=by
  obtain ⟨oe, vs, T', oT, ts, ha, ⟨hc, h0'⟩, hd, h1, hnT, hne, hT, hdT, h3⟩:=tr
  have key : T' = T ∨ h.get? T' = none:=by
    cases q : h.get? T' with
    | none=>exact .inr rfl
    | some o=>
      by_cases hf : T' ∈ frs l
      . obtain ⟨_, o2, ho2, hd2⟩ := hl.mem hf
        obtain ⟨sl, e2⟩:=up T' o2 ho2 hd2
        rw [hT] at e2; cases e2
        exact absurd hdT (hd2 ts)
      . by_cases hz : T' = T
        . exact .inl hz
        . rw [Gk q hf hne hz] at hnT; cases hnT
  have keep : ∀ b o, b ∉ frs l -> b ≠ a -> b ≠ T -> h.get? b = some o -> h'.get? b = some o:=fun b o n1 n2 n3 e=>st b o (Gk e n1 n2 n3)
  refine ⟨T', ⟨x.na, ?_, x.fa, ?_, hne, oe, vs, oT, ts, a0, ha, hc, h0', hd, h1, hT, hdT, h3⟩, hok.traced hfn x.fa x.fT keep, Un.traced hl keep up⟩
  . rcases key with e | e
    . rw [e]; exact x.nT
    . cases q : h0.get? T' with
      | none=>rfl
      | some o=>obtain ⟨o', e'⟩:=th _ _ q; rw [e] at e'; cases e'
  . rcases key with e | e
    . rw [e]; exact x.fT
    . exact hok.un0 e
end
section
variable {fs fs2 ex ex2 : List Addr} {H0 H H' : Hp} {h0 h h' : Heap}
end
section
variable {P : Program} {w : World} {K : PySem.W.Frag} {mg : Str -> Option Value} {base : Heap} {N : List Str} {qual : Str} {scope : Scope} {f : Addr} {cd : Value} {A : Around} {outer : List Env} {s0 : Shared} {H0 : Hp} {E : XK}
end
section
variable {X : Cx} {k j : Nat} {x : Str} {ps : List Str} {sp : Sp} {e : Expr} {es : List Expr} {t : TA} {p pos : Pos} {E : XK}
end
section
variable {X : Cx} {E : XK} {C : Addr} {x : Str} {e : Expr} {es : List Expr} {t : TA} {np cpos pos : Pos}
end
end L2
namespace L2
open PySem PySem.Spec PyProof.Rows
noncomputable abbrev TJ:=St -> Hp -> (Hp -> Prop) -> Prop
section
variable {X : Cx} {e : Expr} {es : List Expr} {te : TE} {t : TJ} {n : Nat} {pos p : Pos}
end
noncomputable abbrev Cx.held (X : Cx) (a : Addr) (pn : List (Addr × Obj)) : Cx:={ X with A:=X.A.mark (some (.ref a)), calm:=false, pn:=pn, xe:=fun _ _=>False }
theorem Cx.Ok.held {X : Cx} (ok : X.Ok) (a : Addr) (pn : List (Addr × Obj)) : (X.held a pn).Ok:=
  ⟨ok.mod, ok.kind, ok.glob, ok.blt, ok.above, ok.inj, ok.has, ok.cab, (fun z=>nomatch z), ok.frames, ok.stk, ok.exf, ok.bs, ok.bsz, ok.noex, ok.exfs, ok.funs, ok.frf⟩
section
variable {X : Cx} {pins : List (Addr × Obj)} {σ : St} {H : Hp} {s : Shared} {h' : Heap}
end
section
variable {X : Cx} {body suite : List Stmt} {b₀ : Stmt} {cn n : Str} {Ch : Addr} {i : Nat} {tb : XK -> TS} {ts : Addr -> Addr -> TS} {np hpos pos : Pos}
end
end L2
namespace L2
open PySem PySem.Spec PyProof.Rows
section
variable {K : PySem.W.Frag} {Er : Exc -> Hp -> Prop} {S : SC} {OO OO' OO2 : List (List XF)} {σ : St} {α β γ ρ ι : Type} {α1 α2 α3 α4 α5 α6 : Type} {mg : Str -> Option Value} {E : XK}
noncomputable def FJ (Q : Hp -> Prop) (_ : Unit) (H : Hp) : Prop:=∀ H', Xu H H' -> Q H'
theorem FJ.tr {Q : Hp -> Prop} : ∀ (b : Unit) (H H' : Hp), Xu H H' -> FJ Q b H -> FJ Q b H':=fun _ _ _ s h H2 s2=>h H2 (s.trans s2)
variable {Fd : Ends -> β -> Hp -> Prop} [fd : FdOk Fd] {u : TS}
section
variable {te : XK -> TE} {m : Rs α} {ts : Addr -> Addr -> TS} {N i : Nat} {Ch : Addr} {o : OE ρ} {g : Exc -> Rs ρ} {ns : List Str} {d : Str}
end
end
end L2
namespace L2
open PySem PySem.Spec PyProof.Rows PySem.W PySem.Builtin PySem.Builtin.ObjectAttr PySem.Builtin.Getset_descriptor
section
variable {prog : Program} {w : World} {A : Around} {E : Value -> Shared -> Prop} {K : Frag} {x D : Addr} {s : Shared}
end
theorem E2 {X : Cx} {x : Str} {v : V} {pos : Pos} (h : ∃ u, X.mg x = some u /\ Yi v u) (hg : Gl X x) (hd : (x == ("__debug__" : Str)) = false:=by decide) : PE X (.Name x pos) (tC v):=by
  obtain ⟨u, hm, r⟩:=h
  exact B3 hg hm r hd
theorem PS.nox {X : Cx} {st : Stmt} {t : TS} (h : PS X.nox st t) : PS X st t:=fun pins s σ H D I hw=>
  wpAny_mono (h pins s σ H D (I.wish _) hw) (fun _ _ q=>q.unwish) fun _ _ z=>False.elim z
section
variable {K : PySem.W.Frag} {C D : Addr} {b : Bool}
end
end L2
namespace L2
open PySem PySem.Spec PyProof.Rows
section
variable {α β : Type} {K : PySem.W.Frag} {Er : Exc -> Hp -> Prop} {S : SC} {OO : List (List XF)} {σ : St} {Fd : Ends -> β -> Hp -> Prop} [fd : FdOk Fd] {u : TS}
end
end L2
namespace L2
open PySem PySem.Spec PyProof.Rows
section
variable {α β γ δ ε : Type}
structure Crs (r : Enc α) (q : Enc β) (d : Nat) : Prop where
  no : ∀ {X : Cx} {pins : List (Addr × Obj)} {σ : St} {H : Hp} {s : Shared} {x : V} {a : α} {b : β}, Inv X pins σ H s -> r X.K H x a -> q X.K H x b -> False
  lr : ∀ {X : Cx} {pins : List (Addr × Obj)} {σ : St} {H : Hp} {s : Shared} {x y : V} {v u : Value} {a : α} {b : β} {A : Around}, Inv X pins σ H s -> Yi x v -> Yi y u -> r X.K H x a -> q X.K H y b -> A.units + d < cLine -> SeqAt.EqAt A s v u false /\ SeqAt.RcAt A s v u false /\ SeqAt.RcNeAt A s v u true
  rl : ∀ {X : Cx} {pins : List (Addr × Obj)} {σ : St} {H : Hp} {s : Shared} {x y : V} {v u : Value} {a : α} {b : β} {A : Around}, Inv X pins σ H s -> Yi x v -> Yi y u -> q X.K H x b -> r X.K H y a -> A.units + d < cLine -> SeqAt.EqAt A s v u false /\ SeqAt.RcAt A s v u false /\ SeqAt.RcNeAt A s v u true
theorem Crs.up {r : Enc α} {q : Enc β} {d e : Nat} (c : Crs r q d) (h : d <= e) : Crs r q e:=⟨c.no, fun I rx ry h1 h2 hu=>c.lr I rx ry h1 h2 (by omega), fun I rx ry h1 h2 hu=>c.rl I rx ry h1 h2 (by omega)⟩
end
end L2
namespace L2
open PySem PySem.Spec PyProof.Rows
section
variable {K : PySem.W.Frag} {Er : Exc -> Hp -> Prop} {S : SC} {OO OO' OO1 OO2 : List (List XF)} {σ : St} {α β γ ρ ι δ ε ζ : Type}
variable {Fd : Ends -> β -> Hp -> Prop} [fd : FdOk Fd] {u : TS}
noncomputable def getL : α ⊕ γ -> Rs α
  | .inl a=>.ok a
  | .inr _=>.bad
noncomputable def getR : α ⊕ γ -> Rs γ
  | .inl _=>.bad
  | .inr b=>.ok b
end
end L2
namespace L2
theorem JY {α : Type} {us : List α} (h : us.length = 1) : ∃ a, us = [a]:=List.length_eq_one_iff.mp h
theorem Vm {α : Type} {us : List α} (h : us.length = 2) : ∃ a0 a1, us = [a0, a1]:=by
  cases us with
  | nil=>cases h
  | cons a0 t=>
    obtain ⟨a1, rfl⟩:=JY (Nat.succ.inj h)
    exact ⟨a0, a1, rfl⟩
theorem VS {α : Type} {us : List α} (h : us.length = 3) : ∃ a0 a1 a2, us = [a0, a1, a2]:=by
  cases us with
  | nil=>cases h
  | cons a0 t=>
    obtain ⟨a1, a2, rfl⟩:=Vm (Nat.succ.inj h)
    exact ⟨a0, a1, a2, rfl⟩
theorem Cw {α : Type} {us : List α} (h : us.length = 4) : ∃ a0 a1 a2 a3, us = [a0, a1, a2, a3]:=by
  cases us with
  | nil=>cases h
  | cons a0 t=>
    obtain ⟨a1, a2, a3, rfl⟩:=VS (Nat.succ.inj h)
    exact ⟨a0, a1, a2, a3, rfl⟩
end L2
namespace L2
open PySem PySem.Spec PyProof.Rows
section
variable {prog : Program} {w : World} {A : Around} {E : Value -> Shared -> Prop}
end
section
variable {X : Cx} {pos : Pos}
end
section
variable {K : PySem.W.Frag} {Er : Exc -> Hp -> Prop} {S : SC} {OO OO' OO1 OO2 : List (List XF)} {σ : St} {α β γ ρ ι δ ε ζ : Type}
variable {Fd : Ends -> β -> Hp -> Prop} [fd : FdOk Fd] {u : TS}
end
end L2
namespace L2
open PySem PySem.Spec PyProof.Rows
section
variable {X : Cx}
end
section
variable {K : PySem.W.Frag} {Er : Exc -> Hp -> Prop} {S : SC} {OO OO' OO1 OO2 : List (List XF)} {σ : St} {α β γ ρ ι δ ε ζ : Type}
variable {Fd : Ends -> β -> Hp -> Prop} [fd : FdOk Fd] {u : TS}
end
end L2
namespace L2
open PySem PySem.Spec PyProof.Rows
set_option maxRecDepth 100000
section
variable {prog : Program} {w : World} {A : Around} {E : Value -> Shared -> Prop} {s : Shared}
theorem Ks : typeLookup (.type "list") "keys" = pure none:=by rw [typeLookup_type, builtinLookup_eq_fast]; kernel_rfl
theorem Co {a : Addr} {o : Obj} {xs : Array Value} {k : Nat} {R : Option Value -> Shared -> Prop} (hx : s.heap.get? a = some o) (hc : o.cls = .type "list") (hdat : o.data = .seq xs k) (hd : o.dict = none) (hA : A.handled = none)
    (h : ∀ g tk, (∀ b u, s.heap.get? b = some u -> g.get? b = some u) -> R none { s with heap:=g, toks:=tk }) : wpAny (model prog w) A (getAttr? (.ref a) "keys") R E s:=by
  obtain ⟨c, dct, dat, sl⟩:=o
  simp only at hc hdat hd
  subst hc hdat hd
  obtain ⟨hp, g, d, tk, os⟩:=s
  have hT : ∀ tk', (⟨hp, g, d, tk', os⟩ : Shared).TypeIs (.ref a) "list":=fun _=>⟨_, hx, rfl⟩
  have f1:=sub_AttributeError
  have f3:=F.slot_list_getattribute.lookup
  have f4:=F.slot_list_getattribute.bind (.ref a)
  have f5:=am_list_getattr_none
  unfold getAttr? getAttrBy? getAttrBy
  repeat (any_goals (first
    | assumption
    | exact hT _
    | ((with_reducible show wpAny _ _ (call (Value.builtin "list.__getattribute__") _ _) _ _ _)
       refine call_meets F.slot_list_getattribute (hT _) am_entry_list_getattribute (F.args_list_getattribute_2 _ _) (meets_getattribute_miss_list a xs k sl "keys" _ Ks (by decide +kernel)) ⟨hx, hA, fun h' tk' e hx'=>?_⟩)
    | wp_step))
  obtain ⟨t', u', he⟩:=hx'.there
  show wpAny _ _ (getattributeRaised _ _ _ _ _ _ _) _ _ _
  unfold getattributeRaised
  repeat (any_goals (first | wp_step | assumption))
  exact h _ _ hx'.keeps
theorem ZN : plainId "dict.update.loop" = true:=by decide +kernel
theorem Vc : entryFor table "dict.update.loop" = some Builtin.«dict.update.loop»:=entryFor_of_fast (by kernel_rfl)
end
section
variable {prog : Program} {w : World} {A : Around} {R : Result -> Shared -> Prop} {K : Type} [DecidableEq K] {knd : KeyKind prog w K}
noncomputable def Eo (knd : KeyKind prog w K) (h : Heap) (its : Array Value) (kv : List (K × Value)) : Prop:=its.size = kv.length /\ ∀ (j : Nat) (x : Value) (p : K × Value), its[j]? = some x -> kv[j]? = some p -> ∃ t key, x = .ref t /\ h.IsTuple t #[key, p.2] /\ knd.is p.1 key = true
noncomputable def Ua (acc kv : List (K × Value)) : List (K × Value):=kv.foldl (fun a p=>stored a p.1 p.2) acc
theorem GB (acc : List (K × Value)) (k : K) (v : Value) : (stored acc k v).length <= acc.length + 1:=by
  unfold stored
  split
  . simp
  . simp
theorem Uq {h : Heap} {t I l : Addr} {i : Nat} {xs : Array Value} (ht : h.IsTuple t xs) (it : h.IsListIter I l i) : t ≠ I:=fun e=>by
  subst e
  obtain ⟨o, ho, hc, _⟩:=ht
  obtain ⟨o', ho', hc', _⟩:=it
  rw [ho] at ho'
  cases ho'
  rw [hc] at hc'
  exact absurd hc' (by decide)
theorem Dx {h : Heap} {t d : Addr} {xs : Array Value} {acc : List (K × Value)} (ht : h.IsTuple t xs) (hd : h.DictOf knd d acc) : t ≠ d:=fun e=>by
  subst e
  obtain ⟨o, ho, hc, _⟩:=ht
  obtain ⟨o', _, _, ho', hc', _⟩:=hd
  rw [ho] at ho'
  cases ho'
  have:=hc'.1
  rw [hc] at this
  exact absurd this (by decide)
theorem Iw (hh : A.in1.handled = none) {d I l : Addr} (hdI : d ≠ I) (hlI : l ≠ I) (hld : l ≠ d) {its : Array Value} {kv : List (K × Value)} :
    ∀ (k i : Nat) (s : Shared) (acc : List (K × Value)), its.size - i = k -> i <= its.size -> s.heap.IsListIter I l i -> s.heap.IsList l its -> Eo knd s.heap its kv -> s.heap.DictOf knd d acc -> acc.length + its.size <= sizeLine + i ->
    (∀ g tk, g.DictOf knd d (Ua acc (kv.drop i)) -> (∀ b o, b ≠ I -> b ≠ d -> s.heap.get? b = some o -> g.get? b = some o) -> R (.ok (.ret .none)) { s with heap:=g, toks:=tk }) ->
    codeAny (model prog w) A (.builtin "dict.update.loop" ⟨[.ref d, .ref I, rawInt i, .none], []⟩) R s:=by
  intro k
  induction k with
  | zero=>
    intro i s acc hk hi it hl hp hd hz r
    refine codeAny_builtin Vc ?_
    rw [Around.under_plainId ZN _]
    show wpAny _ A.in1 (pyNext (.ref I) >>= _) _ _ s
    refine wpAny_bind (wpAny_pyNext_list_end hh it hl (by simp; omega) fun g hx=>?_)
    show wpAny _ _ (Builtin.Dict.addKeywords d [] >>= fun _=>ret Value.none) _ _ _
    refine wpAny_bind (wpAny_pure (wpAny_pure (r g s.toks ?_ fun b o hb _ e=>hx b o hb e)))
    have e : kv.drop i = []:=List.drop_eq_nil_of_le (by have:=hp.1; omega)
    rw [e]
    exact hd.extBut hx hdI
  | succ k ih=>
    intro i s acc hk hi it hl hp hd hz r
    have lt : i < its.size:=by omega
    refine codeAny_builtin Vc ?_
    rw [Around.under_plainId ZN _]
    show wpAny _ A.in1 (pyNext (.ref I) >>= _) _ _ s
    refine wpAny_bind (wpAny_pyNext_list_item it hl (x:=its[i]) (by simp [lt]) fun g it' hx=>?_)
    have lt2 : i < kv.length:=by have:=hp.1; omega
    obtain ⟨t, key, et, ht, hkey⟩:=hp.2 i its[i] kv[i] (by simp [lt]) (by simp [lt2])
    have htI : t ≠ I:=Uq ht it
    have ht1 : g.IsTuple t #[key, kv[i].2]:=ht.extBut hx.extBut htI
    obtain ⟨o, ho, hc, n, hdt⟩:=id ht1
    rw [et]
    show wpAny _ _ (holding [Value.ref t] _ >>= fun _=>again (.builtin "dict.update.loop" ⟨[.ref d, .ref I, rawInt ((i : Int) + 1), .none], []⟩)) _ _ _
    refine wpAny_bind (wpAny_holding ?_)
    refine wpAny_bind (wpAny_tryCatch ?_)
    unfold Builtin.Dict.pairItems
    refine wpAny_bind (wpAny_typeOf (s:={ s with heap:=g }) ⟨o, ho, hc⟩ ?_)
    rw [if_pos (by decide)]
    refine wpAny_bind (wpAny_seqItems (s:={ s with heap:=g }) ho hdt (wpAny_pure ?_))
    show wpAny _ _ (holding [key, kv[i].2] (dictSet d key kv[i].2)) _ _ _
    refine wpAny_holding (wpAny_dictSet_pairs (s:={ s with heap:=g }) hkey (hd.extBut hx.extBut hdI) (fun g2 hd2 hx2=>?_) (by omega))
    refine wpAny_pure ⟨plainId_quiet ZN _, ?_⟩
    have hne : ∀ {b : Addr} {u : Obj}, s.heap.get? b = some u -> b ≠ I -> b ≠ d -> g2.get? b = some u:=fun {b u} e h1 h2=>(hx2.2 b h2).trans (hx.extBut b u h1 e)
    refine ih (i + 1) { s with heap:=g2, toks:=s.toks + 1 } (stored acc kv[i].1 kv[i].2) (by omega) (by omega) ?_ ?_ ?_ hd2 ?_ ?_
    . exact it'.extBut hx2.extBut (fun e=>hdI e.symm)
    . exact (hl.extBut hx.extBut hlI).extBut hx2.extBut hld
    . refine ⟨hp.1, fun j x p h1 h2 => ?_⟩
      obtain ⟨t2, key2, e2, ht2, hk2⟩:=hp.2 j x p h1 h2
      exact ⟨t2, key2, e2, (ht2.extBut hx.extBut (Uq ht2 it)).extBut hx2.extBut (Dx ht2 hd), hk2⟩
    . have := GB acc kv[i].1 kv[i].2
      omega
    . intro g3 tk hd3 kp
      refine r g3 tk ?_ fun b o h1 h2 e=>kp b o h1 h2 (hne e h1 h2)
      rw [List.drop_eq_getElem_cons lt2]
      exact hd3
theorem GL (hh : A.handled = none) {E : Value -> Shared -> Prop} {s : Shared} {l : Addr} {o : Obj} {n : Nat} {its : Array Value} {kv : List (K × Value)} {Q : Value -> Shared -> Prop} (hx : s.heap.get? l = some o) (hc : o.cls = .type "list") (hdat : o.data = .seq its n) (hd : o.dict = none) (hp : Eo knd s.heap its kv) (hz : its.size <= sizeLine)
    (r : ∀ g tk, g.DictOf knd s.heap.objs.size (Ua [] kv) -> (∀ b u, s.heap.get? b = some u -> g.get? b = some u) -> Q (.ref s.heap.objs.size) { s with heap:=g, toks:=tk }) : wpAny (model prog w) A (call (.type "dict") [.ref l]) Q E s:=by
  refine callType_codes (Q₁:=fun obj s₁=>obj = .ref s.heap.objs.size /\ s₁ = { s with heap:=s.heap.push { cls:=.type "dict", data:=.dict #[] } }) F.kt_called_dict (F.kt_typeCall_dict_1 _) F.entry_dict_init (kt_code_dict_new _ ⟨rfl, rfl⟩) ?_
  rintro obj s₁ ⟨rfl, rfl⟩
  have hnew : (s.heap.push { cls:=.type "dict", data:=.dict #[] }).DictOf knd s.heap.objs.size []:=Heap.DictOf.new s.heap
  have hx1 : (s.heap.push { cls:=.type "dict", data:=.dict #[] }).get? l = some o:=Heap.get?_push_of_some _ hx
  refine ⟨hnew.typeIs, F.args_dict_init_2 _ _, ?_⟩
  unfold Builtin.«dict.__init__»
  refine wpAny_bind ?_
  unfold Builtin.Dict.selfAndRest
  refine wpAny_bind (wpAny_notOrdered_dict hnew.typeIs ?_)
  show wpAny _ _ (pure (s.heap.objs.size, [Value.ref l])) _ _ _
  refine wpAny_pure ?_
  show wpAny _ _ (Builtin.Dict.updateFrom "dict.__init__" s.heap.objs.size (.ref l) [] .none) _ _ _
  unfold Builtin.Dict.updateFrom
  refine wpAny_bind (wpAny_typeOf ⟨o, hx1, hc⟩ ?_)
  rw [if_pos (by decide)]
  refine wpAny_bind (Co hx1 hc hdat hd hh fun g tk kp=>?_)
  rw [if_pos (show (none : Option Value).isNone = true from rfl)]
  refine wpAny_bind (wpAny_rule ?_)
  have hlg : g.IsList l its:=⟨o, kp _ _ hx1, hc, n, hdat⟩
  have hdg : g.DictOf knd s.heap.objs.size []:=by
    obtain ⟨o', es, ep, ho, q⟩:=hnew
    exact ⟨o', es, ep, kp _ _ ho, q⟩
  have hdlt : s.heap.objs.size < g.objs.size:=by
    obtain ⟨o', es, ep, ho, q⟩:=hdg
    exact Heap.lt_size ho
  have hllt : l < s.heap.objs.size:=Heap.lt_size hx
  refine wpAny_bind (wpAny_pyIter_list (s:={ s with heap:=g, toks:=tk }) hlg ?_)
  refine wpAny_pure ⟨plainId_quiet ZN _, ?_⟩
  refine Iw (A:=A.in1) (show A.in1.in1.handled = none from hh) (d:=s.heap.objs.size) (I:=g.objs.size) (l:=l) (its:=its) (kv:=kv) (Nat.ne_of_lt hdlt) (Nat.ne_of_lt (Nat.lt_trans hllt hdlt)) (Nat.ne_of_lt hllt) its.size 0 _ [] rfl (Nat.zero_le _) ⟨_, Heap.get?_push_size _ rfl, rfl, rfl⟩ (hlg.push _) ?_ (hdg.push _) (by simpa using hz) ?_
  . refine ⟨hp.1, fun j x p h1 h2 => ?_⟩
    obtain ⟨t2, key2, e2, ⟨ot, hot, q⟩, hk2⟩:=hp.2 j x p h1 h2
    exact ⟨t2, key2, e2, ⟨ot, Heap.get?_push_of_some _ (kp _ _ (Heap.get?_push_of_some _ hot)), q⟩, hk2⟩
  . intro g2 tk2 hd2 kp2
    refine ⟨rfl, r g2 tk2 hd2 fun b u e=>?_⟩
    have hb:=Heap.lt_size e
    exact kp2 b u (Nat.ne_of_lt (Nat.lt_trans hb hdlt)) (Nat.ne_of_lt hb) (Heap.get?_push_of_some _ (kp _ _ (Heap.get?_push_of_some _ e)))
end
end L2
namespace L2
open PySem PySem.Spec PyProof.Rows
section
variable {X : Cx}
noncomputable def QK (acc kvs : List (Key × V)) : List (Key × V):=kvs.foldl (fun a p=>Vg a p.1 p.2) acc
theorem Cz (kvs : List (Key × V)) (k : Key) (v : V) : (Vg kvs k v).length <= kvs.length + 1:=by
  unfold Vg
  split <;> simp
theorem VB : ∀ (kvs acc : List (Key × V)), (QK acc kvs).length <= acc.length + kvs.length
  | [], acc=>by simp [QK]
  | p :: kvs, acc=>by
    have h1:=VB kvs (Vg acc p.1 p.2)
    have h2:=Cz acc p.1 p.2
    show (QK (Vg acc p.1 p.2) kvs).length <= _
    rw [List.length_cons]
    omega
theorem KV.all : ∀ {kvs : List (Key × V)} {vs : List (Key × Value)} {acc : List (Key × V)} {acc' : List (Key × Value)}, KV kvs vs -> KV acc acc' -> KV (QK acc kvs) (Ua acc' vs)
  | [], [], _, _, .nil, h=>h
  | p :: kvs, q :: vs, acc, acc', .cons r t, h=>by
    have h2:=h.put p.1 r.2
    have e : stored acc' p.1 q.2 = stored acc' q.1 q.2:=by rw [r.1]
    rw [e] at h2
    exact KV.all (kvs:=kvs) (vs:=vs) t h2
noncomputable def Bm (K : PySem.W.Frag) : List V -> Hp -> VK -> Prop:=fun xs H Q=>∃ l ps kvs, xs = [.ref l] /\ SqL K H l ps /\ Paired (fun p (kv : Key × V)=>∃ t, p = .ref t /\ SqT K H t [kV kv.1, kv.2]) ps kvs /\ ∀ d, H d = none -> Q (.ref d) (upd H d (.dK (QK [] kvs)))
theorem EU {pins : List (Addr × Obj)} {σ : St} {H : Hp} {s : Shared} (I : Inv X pins σ H s) : ∀ {ps : List V} {kvs : List (Key × V)} {its : List Value}, Paired (fun p (kv : Key × V)=>∃ t, p = .ref t /\ SqT X.K H t [kV kv.1, kv.2]) ps kvs -> Yq ps its -> ∃ kv, KV kvs kv /\ Eo (Yu X.prog X.w) s.heap its.toArray kv:=fun {ps kvs its} p=>by
  induction p generalizing its with
  | nil=>
    intro v
    cases v
    exact ⟨[], .nil, rfl, fun j x p h=>by simp at h⟩
  | @cons _ b _ _ r _ ih=>
    intro v
    cases v with
    | cons rv v=>
      obtain ⟨kv, h1, h2, h3⟩:=ih v
      obtain ⟨t, rfl, ht⟩:=r
      cases rv
      obtain ⟨i2, v2, tp, _⟩:=I.tuple ht
      obtain ⟨key, val, rfl, e1, e2⟩:=Yq.two v2
      refine ⟨(b.1, val) :: kv, .cons ⟨rfl, e2⟩ h1, by simpa using h2, fun j x p hj hp=>?_⟩
      cases j with
      | zero=>
        simp at hj hp
        subst hj hp
        exact ⟨t, key, rfl, tp, Dh e1⟩
      | succ j=>exact h3 j x p (by simpa using hj) (by simpa using hp)
theorem U1 (K : PySem.W.Frag) (hK : X.K = K) (hc : X.calm = true) : QD X (.type "dict") (Bm K):=by
  subst hK
  intro pins s σ H xs us Q I r h
  obtain ⟨l, ps, kvs, rfl, hq, hp, q⟩:=h
  obtain ⟨u, rfl, ru⟩:=Fi r
  cases ru
  obtain ⟨its, rv, ⟨o, n, ho, hcl, hdn, hdat⟩, hz⟩:=I.list hq
  obtain ⟨kv, h1, h2⟩:=EU I hp rv
  have hlen:=rv.length
  have hl2:=Paired.len hp
  refine GL (knd:=Yu X.prog X.w) (I.ok.hd hc) ho hcl hdat hdn h2 (by simpa [← hlen] using hz) fun g tk hd kp=>?_
  refine ⟨.ref s.heap.objs.size, _, I.laid (t':=tk) kp (Nat.le_refl _) (show Y5 X.prog X.w _ g _ (.dK (QK [] kvs)) from ⟨Nat.le_trans (VB kvs []) (by simp; omega), beq_eq_false_iff_ne.mpr (Ne.symm (Nat.ne_of_lt I.big)), _, KV.all h1 .nil, hd⟩), rfl, q _ (I.hok.fresh (Nat.le_refl _))⟩
end
end L2
namespace L2
open PySem PySem.Spec PyProof.Rows
section
variable {X : Cx} {pins : List (Addr × Obj)} {σ : St} {H : Hp} {s : Shared} {d : Addr} {o : Obj} {kvs : List (Key × V)}
theorem Fy {k : Key} {u : Value} (h : V5 k u = true) : Yi (kV k) u:=by
  cases k with
  | inl n=>
    cases u <;> simp [V5, Value.isInt] at h
    subst h
    exact ⟨_, rfl⟩
  | inr x=>
    cases u <;> simp [V5, Value.isStrOf] at h
    subst h
    exact ⟨_, rfl⟩
theorem Inv.freeze (I : Inv X pins σ H s) (e : H d = some (.dK kvs)) (ho : s.heap.get? d = some o) : Inv X pins σ (upd H d (.frz o (.dK kvs))) s:=by
  have x:=(show Y5 X.prog X.w H s.heap d (.dK kvs) from I.hok d _ e)
  exact I.write (t':=s.toks) (x:=d) (e:=d) (h':=s.heap) (by rw [e]; exact True.intro) (.inl rfl) (fun b u _ q=>q) ⟨o, ho⟩ ⟨ho, x⟩
theorem Inv.thaw (I : Inv X pins σ H s) (e : H d = some (.frz o (.dK kvs))) (n : ∀ o u, X.H₀ d ≠ some (.frz o u)) : Inv X pins σ (upd H d (.dK kvs)) s:=by
  have ne : ∀ {b : Addr}, H b = none -> b ≠ d:=fun {b} h z=>by rw [z, e] at h; cases h
  refine ⟨I.ok, I.os, I.bare, ⟨I.base.keep, I.base.slot, fun b ob q nn hx=>?_, I.base.there, fun b xs q=>?_, fun b ob u q=>?_, fun b ps q=>?_⟩, I.loc, I.cell, ?_, fun x c h=>?_, fun p hp=>?_, fun b u q=>?_, I.len⟩
  . have h := I.base.free b ob q nn hx
    rw [Xq (ne h)]; exact h
  . have h := I.base.tups b xs q
    rw [Xq (GZ h e (fun z=>nomatch z))]; exact h
  . have h := I.base.frzs b ob u q
    by_cases z : b = d
    . subst z; exact absurd q (n ob u)
    . rw [Xq z]; exact h
  . obtain ⟨more, h⟩ := I.base.tbls b ps q
    exact ⟨more, by rw [Xq (GZ h e (fun z=>nomatch z))]; exact h⟩
  . rw [Xq (ne I.free)]; exact I.free
  . rw [Xq (ne (I.freeC x c h))]; exact I.freeC x c h
  . obtain ⟨h1, h2, h3⟩ := I.pin p hp
    exact ⟨h1, by rw [Xq (ne h2)]; exact h2, h3⟩
  . by_cases z : b = d
    . subst z
      rw [Yj] at q
      cases q
      obtain ⟨_, h⟩:=(show Y5 X.prog X.w H s.heap b (.frz o (.dK kvs)) from I.hok b _ e)
      exact h
    . rw [Xq z] at q
      exact (I.hok b u q).stay (fun _ _ _ r=>r) (fun c r=>by rw [Xq (GZ r e (fun z=>nomatch z))]; exact r) fun c xs r=>by rw [Xq (GZ r e (fun z=>nomatch z))]; exact r
noncomputable def tFz (i : Nat) (t : TE) : TE:=fun σ H Q=>∃ d kvs, σ[i]? = some (some (.ref d)) /\ H d = some (.dK kvs) /\ ∀ o, t σ (upd H d (.frz o (.dK kvs))) fun v H'=>H' d = some (.frz o (.dK kvs)) /\ Q v (upd H' d (.dK kvs))
theorem Ij {x : Expr} {t : TE} (i : Nat) (h : PE X x t) : PE X x (tFz i t):=by
  intro pins s σ H Q I ⟨d, kvs, _, e, q⟩
  obtain ⟨_, _, vs, _, o, es, ep, ho, _⟩:=(show Y5 X.prog X.w H s.heap d (.dK kvs) from I.hok d _ e)
  refine thn (h pins s σ _ _ (I.freeze e ho) (q o)) fun v s1 ⟨y, H1, I1, r1, e1, q1⟩=>⟨y, _, I1.thaw e1 (fun o u z=>?_), r1, q1⟩
  have:=I.base.frzs d o u z
  rw [e] at this
  cases this
theorem Inv.dictAt (I : Inv X pins σ H s) (e : H d = some (.frz o (.dK kvs))) {es : Array DictEntry} {ep : Nat} (hd : o.data = .dict es ep) : (d == sysModules) = false /\ ∃ vs, KV kvs vs /\ Heap.DictAt (Yu X.prog X.w) s.heap d vs ep:=by
  obtain ⟨h1, _, hs, vs, rel, o', es', ep', g1, g2, g3, g4⟩:=(show Y5 X.prog X.w H s.heap d (.frz o (.dK kvs)) from I.hok d _ e)
  rw [h1] at g1
  cases g1
  rw [hd] at g3
  cases g3
  exact ⟨hs, vs, rel, o, es, h1, g2, hd, g4⟩
theorem KV.key {kvs : List (Key × V)} {vs : List (Key × Value)} (h : KV kvs vs) : ∀ {i : Nat} (h1 : i < kvs.length) (h2 : i < vs.length), (kvs[i]).1 = (vs[i]).1:=by
  induction h with
  | nil=>intro i h1; exact absurd h1 (Nat.not_lt_zero _)
  | cons r _ ih=>
    intro i h1 h2
    cases i with
    | zero=>exact r.1
    | succ i=>exact ih (Nat.lt_of_succ_lt_succ h1) (Nat.lt_of_succ_lt_succ h2)
end
section
variable {X : Cx}
end
end L2
namespace L2
open PySem PySem.Spec PyProof.Rows
section
variable {K : PySem.W.Frag} {Er : Exc -> Hp -> Prop} {S : SC} {OO OO' OO2 : List (List XF)} {σ : St} {α β γ ρ ι δ ε : Type}
variable {Fd : Ends -> β -> Hp -> Prop} [fd : FdOk Fd] {u : TS}
noncomputable def rDf {α : Type} (r : Enc α) : Enc (List (Int × α)):=fun K H v d=>∃ p o kvs, v = .ref p /\ H p = some (.frz o (.dK kvs)) /\ Paired (rDP r K H) kvs d
instance {r : Enc α} [m : MonoE r] : MonoE (rDf r):=⟨fun s r9=>by obtain ⟨p, o, kvs, e, q, pr⟩:=r9; exact ⟨p, o, kvs, e, s _ _ q, Paired.imp2 (fun _ _ z=>⟨z.1, m.mono s z.2⟩) pr⟩⟩
class FlatTE {α : Type} (r : Enc α) : Prop where
  flat : ∀ {K : PySem.W.Frag} {H H' : Hp} {v : V} {a : α}, (∀ b xs, H b = some (.tup xs) -> H' b = some (.tup xs)) -> r K H v a -> r K H' v a
class FlatT {α : Type} (o : OE α) : Prop where
  flat : ∀ {K : PySem.W.Frag} {H H' : Hp} {v : V} {a : α} {C : List XF}, (∀ b xs, H b = some (.tup xs) -> H' b = some (.tup xs)) -> o K H v a C -> o K H' v a C
instance : FlatTE Xa:=⟨fun _ h=>h⟩
instance : FlatTE Ym:=⟨fun _ h=>h⟩
instance {r : Enc α} {q : Enc β} {t : Enc γ} [m : FlatTE r] [n : FlatTE q] [k : FlatTE t] : FlatTE (rP3 r q t):=⟨fun s r9=>by obtain ⟨a, x, y, z, e, h, p1, p2, p3⟩:=r9; exact ⟨a, x, y, z, e, s _ _ h, m.flat s p1, n.flat s p2, k.flat s p3⟩⟩
instance {r : Enc α} {q : Enc β} [m : FlatTE r] [n : FlatTE q] : FlatTE (rP2 r q):=⟨fun s r9=>by obtain ⟨a, x, y, e, h, p1, p2⟩:=r9; exact ⟨a, x, y, e, s _ _ h, m.flat s p1, n.flat s p2⟩⟩
instance {r : Enc α} [m : FlatTE r] : FlatT (oF r):=⟨fun s h=>⟨h.1, m.flat s h.2⟩⟩
theorem CC {te : TE} {o : OE α} [y : FlatT o] {r : Enc γ} [z : MonoE r] {m : Rs α} {v : V} {a : List (Int × γ)} {C : List XF} (i k : Nat) (hσ : σ[i]? = some (some v)) (hk : OO[k]? = some C) (h : ∀ x, S.p x -> oD r K x v a C) (hm : ∀ x, m ≠ .err x)
    (he : Ev K Er (S.add K (rDf r) v a) (OO.set k []) (OO.set k []) σ te o m) : Ev K Er S OO OO σ (tFz i te) o m:=fun H Q w s P=>by
  obtain ⟨d, kvs, e, pr, c⟩:=h _ s
  subst c e
  have hp:=Yd hk
  have wk : W ([(d, .dK kvs)] :: OO.set k []) H:=w.of hp
  have hH : H d = some (.dK kvs):=wk.cell (d, .dK kvs) (by simp)
  have hnd : d ∉ fl (OO.set k []):=by
    have:=wk.nd
    rw [X2] at this
    exact fun hb=>(List.nodup_append.mp this).2.2 d (by simp) d hb rfl
  have hin : ∀ {b : Addr}, b ∈ fl OO ↔ b = d ∨ b ∈ fl (OO.set k []):=fun {b}=>by
    rw [← Qq hp b, X2]; simp
  refine ⟨d, kvs, hσ, hH, fun ob=>?_⟩
  have hne : ∀ {b : Addr} {x : HO}, b ∈ fl (OO.set k []) -> upd H d x b = H b:=fun {b x} hb=>Xq fun q=>hnd (q ▸ hb)
  have wf : W (OO.set k []) (upd H d (.frz ob (.dK kvs))):=⟨fun c hc=>by rw [hne (Q5 hc)]; exact wk.tail.tr c hc, wk.tail.nd, wk.tail.mu⟩
  have hs : Xu (hid H OO) (hid (upd H d (.frz ob (.dK kvs))) (OO.set k [])):=fun b x q=>by
    obtain ⟨q1, q2⟩:=XX q
    have hb : b ≠ d:=fun e=>q2 (hin.mpr (.inl e))
    exact Zp (by rw [Xq hb]; exact q1) fun e=>q2 (hin.mpr (.inr e))
  have hf : hid (upd H d (.frz ob (.dK kvs))) (OO.set k []) d = some (.frz ob (.dK kvs)):=Zp Yj hnd
  refine he _ _ wf ⟨S.mono _ _ hs s, d, ob, kvs, rfl, hf, Paired.imp2 (fun _ _ q=>⟨q.1, z.mono hs q.2⟩) pr⟩ ?_
  cases em : m with
  | bad=>rw [em] at P; exact P
  | err x=>exact absurd em (hm x)
  | ok b=>
    rw [em] at P
    intro v' D H' s' w' m' ho
    obtain ⟨hd1, hd2⟩:=XX (m' _ _ hf)
    have hne2 : ∀ {b : Addr} {x : HO}, b ∈ fl (D :: OO.set k []) -> upd H' d x b = H' b:=fun {b x} hb=>Xq fun q=>hd2 (q ▸ hb)
    have w2 : W ([(d, .dK kvs)] :: D :: OO.set k []) (upd H' d (.dK kvs)):=by
      refine ⟨fun c hc=>?_, ?_, fun c hc=>?_⟩
      . rw [List.flatten_cons, List.mem_append] at hc
        rcases hc with hc | hc
        . have : c = (d, .dK kvs) := by simpa using hc
          rw [this]; exact Yj
        . rw [hne2 (Q5 hc)]; exact w'.tr c hc
      . rw [X2]
        refine List.nodup_append.mpr ⟨by simp, w'.nd, fun a ha b hb e=>?_⟩
        have : a = d:=by simpa using ha
        exact hd2 (this ▸ e ▸ hb)
      . rw [List.flatten_cons, List.mem_append] at hc
        rcases hc with hc | hc
        . have : c = (d, .dK kvs) := by simpa using hc
          rw [this]; rfl
        . exact w'.mu c hc
    have pe : (D :: OO).flatten.Perm ([(d, .dK kvs)] :: D :: OO.set k []).flatten:=by
      simp only [List.flatten_cons]
      refine List.Perm.trans (List.Perm.append_left D (by simpa using hp.symm : OO.flatten.Perm ([(d, .dK kvs)] ++ (OO.set k []).flatten))) ?_
      rw [← List.append_assoc, ← List.append_assoc]
      exact List.perm_append_comm.append_right _
    have hin2 : ∀ {b : Addr}, b ∈ fl (D :: OO) ↔ b = d ∨ b ∈ fl (D :: OO.set k []):=fun {b}=>by
      rw [Qq pe b, X2]; simp
    refine ⟨hd1, P v' D _ (fun b x q=>?_) (w2.of pe) (fun b x q=>?_) (y.flat (fun b xs q=>?_) ho)⟩
    . by_cases hb : b = d
      . subst hb; rw [hH] at q; rw [Yj]; exact q
      . rw [Xq hb]; exact s' b x (by rw [Xq hb]; exact q)
    . obtain ⟨q1, q2⟩ := XX (m' _ _ (hs b x q))
      have hb : b ≠ d:=fun e=>(XX q).2 (hin.mpr (.inl e))
      exact Zp (by rw [Xq hb]; exact q1) fun e=>(hin2.mp e).elim hb q2
    . obtain ⟨q1, q2⟩ := XX q
      have hb : b ≠ d:=fun e=>by rw [e, hd1] at q1; cases q1
      exact Zp (by rw [Xq hb]; exact q1) fun e=>(hin2.mp e).elim hb q2
noncomputable def Gv (d ps : List (Int × α)) : List (Int × α):=ps.foldl (fun d p=>J6 d p.1 p.2) d
theorem U0 {r : Enc α} {H : Hp} {kvs : List (Key × V)} {ps : List (Int × α)} (h : Paired (rDP r K H) kvs ps) : ∀ {acc : List (Key × V)} {d : List (Int × α)}, Paired (rDP r K H) acc d -> Paired (rDP r K H) (QK acc kvs) (Gv d ps):=by
  induction h with
  | nil=>intro acc d h; exact h
  | @cons kv kx _ _ r _ ih=>
    intro acc d h
    have:=J1 (k:=kx.1) r.2 h
    rw [← r.1] at this
    exact ih this
theorem GS {r : Enc α} {h H : Hp} (hs : Xu h H) {xs : List V} {ps : List (Int × α)} (p : Paired (rP2 Xa r K h) xs ps) : ∃ kvs, Paired (fun p (kv : Key × V)=>∃ t, p = .ref t /\ SqT K H t [kV kv.1, kv.2]) xs kvs /\ Paired (rDP r K h) kvs ps:=by
  induction p with
  | nil=>exact ⟨[], .nil, .nil⟩
  | @cons x pr _ _ q _ ih=>
    obtain ⟨kvs, h1, h2⟩:=ih
    obtain ⟨t, a, b, e, ht, e1, e2⟩:=q
    have e1 : a = .int pr.1:=e1
    subst e1
    exact ⟨(.inl pr.1, b) :: kvs, .cons ⟨t, e, SqT.of (hs _ _ ht)⟩ h1, .cons ⟨rfl, e2⟩ h2⟩
theorem CT {ta : TE} {r : Enc α} [z : MonoE r] {ma : Rs (List (Int × α))} (ha : EvL K Er S OO σ ta (rP2 Xa r) ma) : Ev K Er S OO OO σ (tCB (Bm K) (X1 ta QF)) (oD r) (ma.bind fun ps=>.ok (Gv [] ps)):=fun H Q w s P=>
  ha.run w s FO.tr P fun ps x H1 s1 w1 q1 ⟨p, xs, e, q, pr⟩ P1=>by
    obtain ⟨kvs, h1, h2⟩:=GS (Xt (H:=H1) (OO:=OO)) pr
    refine ⟨p, xs, kvs, by rw [e], SqL.of q, h1, fun d hd=>?_⟩
    have hn:=QC (OO:=OO) hd (o:=.dK (QK [] kvs))
    exact P1 (.ref d) [(d, .dK (QK [] kvs))] _ (Xy hd _) (w1.new hd rfl) hn ⟨d, _, rfl, Paired.imp2 (fun _ _ h=>⟨h.1, z.mono hn h.2⟩) (U0 h2 .nil), rfl⟩
theorem BZ {te : TE} {r1 : Enc α} {r2 : Enc γ} {r3 : Enc δ} [MonoE r1] [MonoE r2] [MonoE r3] {m : Rs (α × γ × δ)} {f : α × γ × δ -> Rs β} (i j k : Nat) (he : EvS K Er S OO σ te (rP3 r1 r2 r3) m)
    (hr : ∀ a v w x, Sv Er (((S.add K r1 v a.1).add K r2 w a.2.1).add K r3 x a.2.2) OO (((σ.set i (some v)).set j (some w)).set k (some x)) u Fd (f a)) : Sv Er S OO σ (Je (Cy te (Bv K 3 (Z0 (Zl i) (Z0 (Zl j) (Z0 (Zl k) El))))) u) Fd (m.bind f):=fun H D w s P=>
  he.st w s P fun a v H1 s1 w1 q1 r1 P1=>(tg3 (K:=K) (OO:=OO) i j k).ok (S:=S) r1 q1 fun x hx=>hr a _ _ _ H1 D w1 hx P1
end
end L2
namespace L2
open PySem PySem.Spec PyProof.Rows
section
variable {prog : Program} {w : World} {A : Around}
end
section
variable {X : Cx}
end
end L2
namespace L2
open PySem PySem.Spec PyProof.Rows
section
variable {K : PySem.W.Frag} {Er : Exc -> Hp -> Prop} {S : SC} {OO OO' OO1 OO2 : List (List XF)} {σ : St} {α β γ ρ ι δ ε : Type}
variable {Fd : Ends -> β -> Hp -> Prop} [fd : FdOk Fd] {u : TS}
theorem Bz {ta tb : TE} {o : OE α} [z : MonoO o] {ma mb : Rs (List α)} (ha : Ev K Er S OO OO1 σ ta (oL o) ma) (hb : ∀ C, Ev K Er S (C :: OO1) (C :: OO2) σ tb (oL o) mb) : Ev K Er S OO OO2 σ (tOp Ix ta tb) (oL o) (ma.bind fun as=>mb.bind fun bs=>Fx as bs):=fun H Q w s P=>by
  refine ha H _ w s ?_
  cases em : ma with
  | bad=>rw [em] at P; exact P
  | err x=>rw [em] at P; exact P
  | ok as=>
    rw [em] at P
    intro v C H1 s1 w1 m1 ho
    refine hb C H1 _ w1 (S.mono _ _ m1 s) ?_
    have P1 : PZ Er (FO K OO OO2 (oL o) Q) H (mb.bind fun bs=>Fx as bs):=P
    cases en : mb with
    | bad=>rw [en] at P1; exact P1
    | err x=>rw [en] at P1; exact fun H2 s2=>P1 H2 (s1.trans s2)
    | ok bs=>
      rw [en] at P1
      intro v2 C2 H2 s2 w2 m2 ho2
      have P2 : PZ Er (FO K OO OO2 (oL o) Q) H (Fx as bs):=P1
      obtain ⟨c, hc, P3⟩:=P2.okOf fun x=>Qm
      obtain ⟨hsz, h2⟩:=Zu hc
      cases h2
      obtain ⟨p, xs, Cs, e, q, ec⟩:=ho
      obtain ⟨p2, ys, Cs2, e2, q2, ec2⟩:=ho2
      subst ec ec2 e e2
      have hp1 : H2 p = some (.lst xs):=w2.tr (p, .lst xs) (by simp)
      have hp2 : H2 p2 = some (.lst ys):=w2.tr (p2, .lst ys) (by simp)
      refine ⟨p, p2, xs, ys, rfl, rfl, hp1, hp2, by rw [q.len.1, q2.len.1]; exact hsz, fun a ha=>?_⟩
      have w3 : W ((Cs ++ Cs2).flatten :: OO2) H2:=by
        have pm : ((Cs2.flatten :: Cs.flatten :: OO2)).flatten.Perm (((Cs ++ Cs2).flatten :: OO2)).flatten:=by
          simp only [List.flatten_cons, List.flatten_append]
          rw [← List.append_assoc]
          exact List.perm_append_comm.append_right _
        refine (w2.sub (OO':=Cs2.flatten :: Cs.flatten :: OO2) ?_).of pm.symm
        simp only [List.flatten_cons, List.cons_append]
        exact (List.Sublist.append (List.Sublist.refl _) (List.sublist_cons_self _ _)).trans (List.sublist_cons_self _ _)
      have m3 : Xu (hid H2 (((p2, .lst ys) :: Cs2.flatten) :: ((p, .lst xs) :: Cs.flatten) :: OO2)) (hid H2 ((Cs ++ Cs2).flatten :: OO2)):=Qs (Xu.refl _) fun b hb=>by
        rw [X2, List.flatten_append, List.map_append, List.mem_append, List.mem_append] at hb
        rw [X2, X2, List.mem_append, List.mem_append]
        rcases hb with (hb | hb) | hb
        . exact .inr (.inl (List.mem_cons_of_mem _ hb))
        . exact .inl (List.mem_cons_of_mem _ hb)
        . exact .inr (.inr hb)
      have w4:=w3.new ha (o:=.lst (xs ++ ys)) rfl
      have m4:=QC (OO:=(Cs ++ Cs2).flatten :: OO2) ha (o:=.lst (xs ++ ys))
      have pf : ((((a, .lst (xs ++ ys)) :: (Cs ++ Cs2).flatten)) :: OO2).flatten.Perm ([(a, HO.lst (xs ++ ys))] :: (Cs ++ Cs2).flatten :: OO2).flatten:=by simp
      have m5 : Xu (hid H2 ((Cs ++ Cs2).flatten :: OO2)) (hid (upd H2 a (.lst (xs ++ ys))) (((a, .lst (xs ++ ys)) :: (Cs ++ Cs2).flatten) :: OO2)):=by
        rw [X0 pf]; exact m4
      refine P3 (.ref a) ((a, .lst (xs ++ ys)) :: (Cs ++ Cs2).flatten) _ ((s1.trans s2).trans (Xy ha _)) (w4.of pf) (((m1.trans m2).trans m3).trans m5) ⟨a, xs ++ ys, Cs ++ Cs2, rfl, ?_, rfl⟩
      exact L2.P3.app (q.imp fun _ _ _ h=>z.mono ((m2.trans m3).trans m5) h) (q2.imp fun _ _ _ h=>z.mono (m3.trans m5) h)
end
end L2
namespace L2
open PySem PySem.Spec PyProof.Rows
section
variable {X : Cx}
end
end L2
namespace L2
open PySem PySem.Spec PyProof.Rows
section
variable {K : PySem.W.Frag} {Er : Exc -> Hp -> Prop} {S : SC} {OO OO' OO1 OO2 : List (List XF)} {σ : St} {α β γ ρ ι δ ε : Type}
end
end L2
namespace L2
open PySem PySem.Spec PyProof.Rows
section
variable {K : PySem.W.Frag} {Er : Exc -> Hp -> Prop} {S : SC} {OO OO' OO1 OO2 : List (List XF)} {σ : St} {α β γ ρ ι δ ε : Type}
noncomputable def tk (k : List Int) : List Key:=k.map Sum.inl
variable {Fd : Ends -> β -> Hp -> Prop} [fd : FdOk Fd] {u : TS}
end
end L2
namespace L2
open PySem PySem.Spec PyProof.Rows
section
variable {X : Cx} {α : Type} [DecidableEq α] {r : Enc α} {d : Nat}
end
section
variable {K : PySem.W.Frag} {Er : Exc -> Hp -> Prop} {S : SC} {OO OO' OO1 OO2 : List (List XF)} {σ : St} {α β γ ρ ι δ ε : Type}
end
end L2
namespace L2
open PySem PySem.Spec PyProof.Rows
section
variable {X : Cx} {pins : List (Addr × Obj)} {σ : St} {H : Hp} {s : Shared} {h' : Heap}
theorem Inv.turns {t' : Nat} {ch : List Addr} (I : Inv X pins σ H s) (k : ∀ b o, b ∉ ch -> s.heap.get? b = some o -> h'.get? b = some o) (hf : ∀ b ∈ ch, GR X pins H b) : Inv X pins σ H { s with heap:=h', toks:=t' }:=by
  have nit : ∀ b o, H b = some o -> b ∉ ch:=fun b o e z=>by rw [(hf b z).1] at e; cases e
  refine I.step (g':=s.gens) (d':=s.drawn) (ch:=ch) (fun b hb=>?_) (fun b o _ _ hc e _=>k b o hc e) (fun b o _ _ hc e _=>⟨o.slots, k b o hc e⟩)
    (fun b o _ e n=>n) (fun b o hc e=>⟨o, k b o hc e⟩) (fun b xs e=>e) (fun b o xs e=>e) (fun b ps e=>⟨#[], by rw [e]; simp⟩) (fun m hm=>?_) (fun b v e=>?_) I.bare
  . obtain ⟨f0, f1, f2, f3, f4, f5⟩ := hf b hb
    exact ⟨f3, f1, f4, f5⟩
  . obtain ⟨o, es, ep, ho, r⟩ := hm
    exact ⟨o, es, ep, k _ o (fun z=>(hf _ z).2.1 rfl) ho, r⟩
  . refine (I.hok b v e).stay (fun c o hc q => k c o ?_ q) (fun c q => q) fun c xs q => q
    rcases hc with z | z
    . rw [z]; exact nit b v e
    . exact nit c _ z
end
noncomputable def Itz (K : PySem.W.Frag) (a b : Addr) : It:=
  ⟨fun i H=>∃ xs ys x y, SqL K H a xs /\ SqL K H b ys /\ xs[i]? = some x /\ ys[i]? = some y, fun i H v H'=>∃ p x y, v = .ref p /\ H p = none /\ H' = upd H p (.tup [x, y]) /\ (∀ xs, SqL K H a xs -> xs[i]? = some x) /\ ∀ ys, SqL K H b ys -> ys[i]? = some y,
    fun i H=>∃ xs ys, SqL K H a xs /\ SqL K H b ys /\ (xs.length <= i ∨ ys.length <= i)⟩
theorem CL {P : Program} {w : World} {K : PySem.W.Frag} {elts : List Expr} {k : Nat} {pos : Pos} {z TI TO i1 i2 l1 l2 : Addr} (ap : ZipApart z TI TO i1 i2 l1 l2) :
    Turn P w K (.Tuple elts k pos) (Itz K l1 l2) [z, TI, TO, i1, i2] z (fun i h=>IsZip h z TI TO .none /\ IsPair h TI (.ref i1) (.ref i2) /\ (∃ a b, IsPair h TO a b) /\ h.IsListIter i1 l1 i /\ h.IsListIter i2 l2 i) where
  mem:=by simp
  obj:=fun i h st b hb=>by
    obtain ⟨h1, h2, ⟨a, c, h3⟩, ⟨o4, h4, c4, d4⟩, ⟨o5, h5, c5, d5⟩⟩:=st
    simp only [List.mem_cons, List.not_mem_nil, or_false] at hb
    rcases hb with rfl | rfl | rfl | rfl | rfl
    . exact ⟨_, h1, fun v z=>by cases z⟩
    . exact ⟨_, h2, fun v z=>by cases z⟩
    . exact ⟨_, h3, fun v z=>by cases z⟩
    . exact ⟨o4, h4, fun v z=>by rw [d4] at z; cases z⟩
    . exact ⟨o5, h5, fun v z=>by rw [d5] at z; cases z⟩
  keep:=fun i h h' st k=>⟨k z (by simp) _ st.1, k TI (by simp) _ st.2.1, let ⟨a, b, q⟩:=st.2.2.1; ⟨a, b, k TO (by simp) _ q⟩, st.2.2.2.1.at fun o q=>k i1 (by simp) o q, st.2.2.2.2.at fun o q=>k i2 (by simp) o q⟩
  item:=by
    intro X hP hw hK hc i pins s σ H E I hf st hg
    subst hP hw hK
    obtain ⟨xs, ys, x, y, hq1, hq2, hx, hy⟩:=hg
    obtain ⟨its1, rv1, p1, _⟩:=I.list hq1
    obtain ⟨its2, rv2, p2, _⟩:=I.list hq2
    obtain ⟨u, hu, ru⟩:=rv1.get hx
    obtain ⟨v, hv, rv⟩:=rv2.get hy
    obtain ⟨h1, h2, ⟨a, c, h3⟩, h4, h5⟩:=id st
    refine wpAny_pyNext_zip_item ap h1 h2 h3 h4 h5 p1.isList p2.isList (x:=u) (y:=v) (by simpa using hu) (by simpa using hv) fun h' z' TO' i1' i2' tup sz kk=>?_
    have hT : ∀ b o, s.heap.get? b = some o -> s.heap.objs.size ≠ b:=fun b o q z=>absurd (Heap.lt_size q) (by rw [← z]; exact Nat.lt_irrefl _)
    have tz:=hT z _ h1
    have tTI:=hT TI _ h2
    have tTO:=hT TO _ h3
    have t1 : s.heap.objs.size ≠ i1:=by obtain ⟨o, q, _⟩:=h4; exact hT i1 o q
    have t2 : s.heap.objs.size ≠ i2:=by obtain ⟨o, q, _⟩:=h5; exact hT i2 o q
    refine ⟨_, rfl, wpAny_letOwnedTupleGo_zip z' fun h'' z'' sb=>?_⟩
    have k1 : ∀ b o, b ≠ z -> h'.get? b = some o -> h''.get? b = some o:=fun b o hb e=>(sb.2 b hb).trans e
    have k2 : ∀ b o, b ∉ [z, TI, TO, i1, i2] -> s.heap.get? b = some o -> h''.get? b = some o:=fun b o q1 q=>k1 b o (fun z=>q1 (by simp [z])) (kk b o (fun z=>q1 (by simp [z])) (fun z=>q1 (by simp [z])) (fun z=>q1 (by simp [z])) (fun z=>q1 (by simp [z])) q)
    refine ⟨.ref s.heap.objs.size, upd H s.heap.objs.size (.tup [x, y]), I.turnLay (h':=h'') (t':=s.toks) k2 hf (Nat.le_refl _) ⟨by show 2 <= sizeLine; decide, [u, v], .cons ru (.cons rv .nil), ⟨_, k1 _ _ tz tup, rfl, _, rfl⟩⟩, rfl,
      ⟨_, x, y, rfl, I.hok.fresh (Nat.le_refl _), rfl, fun zs hz=>by rw [I.list_inj hz hq1]; exact hx, fun zs hz=>by rw [I.list_inj hz hq2]; exact hy⟩, ⟨z'', k1 _ _ ap.TIz (kk _ _ ap.TIz ap.TITO ap.TIi1 ap.TIi2 h2), ⟨_, _, k1 _ _ ap.TOz TO'⟩, i1'.at fun o q=>k1 _ _ ap.i1z q, i2'.at fun o q=>k1 _ _ ap.i2z q⟩, fun b hb=>?_⟩
    have:=(hf b hb).1
    simp only [List.mem_cons, List.not_mem_nil, or_false] at hb
    rcases hb with rfl | rfl | rfl | rfl | rfl
    . rw [Xq tz.symm]; exact this
    . rw [Xq tTI.symm]; exact this
    . rw [Xq tTO.symm]; exact this
    . rw [Xq t1.symm]; exact this
    . rw [Xq t2.symm]; exact this
  done:=by
    intro X hP hw hK hc i pins s σ H E I hf st hg
    subst hP hw hK
    obtain ⟨xs, ys, hq1, hq2, hx⟩:=hg
    obtain ⟨its1, rv1, p1, _⟩:=I.list hq1
    obtain ⟨its2, rv2, p2, _⟩:=I.list hq2
    obtain ⟨h1, h2, ⟨a, c, h3⟩, h4, h5⟩:=id st
    have hl1:=rv1.length
    have hl2:=rv2.length
    refine wpAny_pyNext_zip_end (I.ok.hd hc) ap h1 h2 h3 h4 h5 p1.isList p2.isList (hx.elim (fun h=>.inl (by simp; omega)) fun h=>.inr (by simp; omega)) fun h' kk=>⟨rfl, I.turns (t':=s.toks) (ch:=[z, TI, TO, i1, i2]) (fun b o q1 q=>kk b o (fun z=>q1 (by simp [z])) (fun z=>q1 (by simp [z])) (fun z=>q1 (by simp [z])) (fun z=>q1 (by simp [z])) q) hf⟩
  self:=fun _ _ _ _ _ st h=>wpAny_pyIter_zip st.1 h
section
variable {X : Cx} {elts : List Expr} {k : Nat} {pos0 : Pos}
noncomputable def II (K : PySem.W.Frag) (t : TA) : TI:=fun σ H R=>t σ H fun vs H1=>∃ a b, vs = [.ref a, .ref b] /\ (∃ xs, SqL K H1 a xs) /\ (∃ ys, SqL K H1 b ys) /\ R (Itz K a b) H1
theorem Bk {e : Expr} {es : List Expr} {t : TA} {p pos : Pos} (K : PySem.W.Frag) (hK : X.K = K) (hg : Gl X "zip") (hm : X.mg "zip" = none) (ha : PA X (e :: es) t)
    (he : starEach (e :: es) X.env = (false, eval e X.env) :: starEach es X.env:=by rfl) (hpl : (backTo pos (starEach es X.env)).any (·.1) = false:=by rfl) : PI X (.Tuple elts k pos0) (.Call (.Name "zip" p) (e :: es) [] pos) (II K t):=by
  subst hK
  intro pins s σ H R I h
  refine wpAny_Call_Name_kw (UQ I hg hm boot_zip ?_)
  refine PyProof.Rows.callWith_type1 (thn (ha pos pins s σ H _ I h) fun us s1 r9=>?_) he hpl
  obtain ⟨vs, H1, I1, r1, q1⟩:=r9
  obtain ⟨a, b, rfl, ⟨xs, hq1⟩, ⟨ys, hq2⟩, q⟩:=q1
  obtain ⟨u, v, rfl, ru, rv⟩:=Yq.two r1
  cases ru
  cases rv
  obtain ⟨its1, _, pl1, _⟩:=I1.list hq1
  obtain ⟨its2, _, pl2, _⟩:=I1.list hq2
  have l1 : a < s1.heap.objs.size:=by obtain ⟨o, n, ho, _⟩:=pl1; exact Heap.lt_size ho
  have l2 : b < s1.heap.objs.size:=by obtain ⟨o, n, ho, _⟩:=pl2; exact Heap.lt_size ho
  refine call_zip_2 pl1.isList pl2.isList fun h' hz hTI hTO i1 i2 sz kk=>?_
  refine wpAny_pyIter_zip hz ?_
  have hge : ∀ c : Nat, s1.heap.objs.size <= c -> GR X pins H1 c:=fun c hc=>I1.fpOk hc (I1.hok.fresh hc)
  generalize s1.heap.objs.size = n0 at l1 l2 hz hTI hTO i1 i2 hge ⊢
  have l1' : @LT.lt Nat _ a n0:=l1
  have l2' : @LT.lt Nat _ b n0:=l2
  have ap : ZipApart (n0 + 4) (n0 + 2) (n0 + 3) n0 (n0 + 1) a b:=by
    constructor <;> (intro z; have z : @Eq Nat _ _:=z; omega)
  refine ⟨_, [n0 + 4, n0 + 2, n0 + 3, n0, n0 + 1], _, _, H1, rfl, I1.kept (t':=s1.toks) kk, CL ap, ⟨hz, hTI, ⟨_, _, hTO⟩, i1, i2⟩, fun c hb=>hge c ?_, q⟩
  simp only [List.mem_cons, List.not_mem_nil, or_false] at hb
  rcases hb with rfl | rfl | rfl | rfl | rfl
  . exact Nat.le_add_right _ _
  . exact Nat.le_add_right _ _
  . exact Nat.le_add_right _ _
  . exact Nat.le_refl _
  . exact Nat.le_add_right _ _
end
end L2
namespace L2
open PySem PySem.Spec PyProof.Rows
section
variable {K : PySem.W.Frag} {Er : Exc -> Hp -> Prop} {S : SC} {OO OO' OO1 OO2 : List (List XF)} {σ : St} {α β γ ρ ι δ ε : Type}
theorem KH {ta tb : TE} {r : Enc α} {q : Enc γ} [z : MonoE r] [y : MonoE q] {ma : Rs (List α)} {mb : Rs (List γ)} (ha : EvS K Er S OO σ ta (rV r) ma) (hb : EvS K Er S OO σ tb (rV q) mb) : Walk K Er S OO σ (II K (X1 ta (X1 tb QF))) (rP2 r q) (ma.bind fun as=>mb.bind fun bs=>.ok (as.zip bs)):=⟨fun {H R} w s P=>by
  refine ha H _ w s ?_
  cases em : ma with
  | bad=>rw [em] at P; exact P
  | err x=>rw [em] at P; exact P
  | ok as=>
    rw [em] at P
    intro v H1 s1 ⟨p, xs, e, hp, pr⟩
    refine hb H1 _ (w.keep s1) (S.mono _ _ (Xj s1) s) ?_
    have P1 : PZ Er _ H (mb.bind fun bs=>.ok (as.zip bs)):=P
    cases en : mb with
    | bad=>rw [en] at P1; exact P1
    | err x=>rw [en] at P1; exact fun H2 s2=>P1 H2 (s1.trans s2)
    | ok bs=>
      rw [en] at P1
      intro v2 H2 s2 ⟨p2, ys, e2, hp2, pr2⟩
      have hp':=Xj (OO:=OO) s2 _ _ hp
      refine ⟨p, p2, by rw [e, e2], ⟨xs, SqL.of (Xt _ _ hp')⟩, ⟨ys, SqL.of (Xt _ _ hp2)⟩, P1 _ H2 (s1.trans s2) ?_ ?_⟩
      . intro i c hc OO2 H3 w3 m3
        rw [List.getElem?_zip_eq_some] at hc
        obtain ⟨x, hx, rx⟩:=Paired.getR pr hc.1
        obtain ⟨x2, hx2, rx2⟩:=Paired.getR pr2 hc.2
        have q1 : SqL K H3 p xs:=SqL.of (Xt _ _ (m3 _ _ hp'))
        have q2 : SqL K H3 p2 ys:=SqL.of (Xt _ _ (m3 _ _ hp2))
        refine ⟨⟨xs, ys, x, x2, q1, q2, hx, hx2⟩, fun yv H4 h4=>?_⟩
        obtain ⟨b, x', y', rfl, hb, rfl, g1, g2⟩:=h4
        have e1:=g1 xs q1
        have e3:=g2 ys q2
        rw [hx] at e1
        rw [hx2] at e3
        cases e1
        cases e3
        refine ⟨Xy hb _, ⟨b, x, x2, rfl, ZA w3 hb, z.mono (((Xj s2).trans m3).trans (Xj (Xy hb _))) rx, y.mono (m3.trans (Xj (Xy hb _))) rx2⟩⟩
      . intro OO2 H3 w3 m3
        refine ⟨xs, ys, SqL.of (Xt _ _ (m3 _ _ hp')), SqL.of (Xt _ _ (m3 _ _ hp2)), ?_⟩
        rw [List.length_zip, Paired.len pr, Paired.len pr2]
        omega⟩
end
end L2
namespace L2
open PySem PySem.Spec PyProof.Rows
section
variable {X : Cx}
theorem Uf (K : PySem.W.Frag) (hK : X.K = K) : IS X (Br K):=by
  subst hK
  intro pins s σ H x y v u Q I rx ry h
  obtain ⟨p, xs, i, z, rfl, rfl, hq, he, q⟩:=h
  cases rx
  obtain ⟨t, rfl⟩:=ry
  obtain ⟨its, r, pl, hz⟩:=I.list hq
  obtain ⟨j, h1, h2, h3, h4, h5⟩:=Kq he
  obtain ⟨w, ew, rw'⟩:=r.get h2
  have hl:=r.length
  have hn:=Uz
  have fin : EP X pins σ Q w s:=⟨z, H, I, rw', q⟩
  by_cases h0 : 0 <= i
  . have hj : i.toNat = j:=by
      rw [seqIndex_of h0 h5] at h1
      exact Option.some.inj h1
    exact wpAny_getItem_list pl.isList h0 (by omega) (by rw [hj]; simpa using ew) fin
  . have hj : (i + (its.toArray.size : Int)).toNat = j:=by
      rw [seqIndex_neg (by omega) h4] at h1
      rw [List.size_toArray, ← hl]
      exact Option.some.inj h1
    exact wpAny_getItem_list_neg pl.isList (by omega) (by rw [List.size_toArray] <;> omega) (by omega) (by rw [hj]; simpa using ew) fin
end
section
variable {K : PySem.W.Frag} {Er : Exc -> Hp -> Prop} {S : SC} {OO OO' OO1 OO2 : List (List XF)} {σ : St} {α β γ ρ ι δ ε : Type}
variable {Fd : Ends -> β -> Hp -> Prop} [fd : FdOk Fd] {u : TS}
theorem V7 {ti te : TE} {g : Int -> Int -> Int} {mi m : Rs Int} {f : List Int -> Rs β} {v : V} {as : List Int} {C : List XF} (i k : Nat) (hσ : σ[i]? = some (some v)) (hk : OO[k]? = some C) (h : ∀ x, S.p x -> oL (oF Xa) K x v as C) (hi : EvB K Er S OO σ ti Xa mi) (he : EvB K Er S OO σ te Xa m)
    (hr : ∀ bs C', Sv Er (S.addO K (oL (oF Xa)) v bs C') (OO.set k C') σ u Fd (f bs)) : Sv Er S OO σ (Je (EW (U2 i) ti te (Br K) (ipI g) Eg) u) Fd (mi.bind fun j=>(atR as j).bind fun x=>m.bind fun b=>(Qw as j (g x b)).bind f):=fun H D w s P=>
  ⟨v, hσ, hi.st w s P fun j zj H1 s1 w1 q1 r1 P1=>by
    cases ea : atR as j with
    | bad=>rw [ea] at P1; exact P1.elim
    | err x=>exact absurd ea US
    | ok x=>
      rw [ea] at P1
      obtain ⟨kk, hkk, hrow⟩:=Bt ea
      obtain ⟨p, xs, Cs, e, q, c⟩:=h _ q1
      subst c
      have hH : H1 p = some (.lst xs):=w1.tr (p, .lst xs) (List.mem_flatten.mpr ⟨_, List.mem_of_getElem? hk, List.mem_cons_self⟩)
      obtain ⟨xv, Dv, g1, g2, g3⟩:=q.get hrow
      refine ⟨p, xs, j, xv, e, r1, SqL.of hH, by unfold atI; rw [q.len.1, hkk]; exact g1, he.st w1 q1 P1 fun b y H2 s2 w2 q2 r2 P2=>⟨x, b, g3.2, r2, ?_⟩⟩
      have hH2 : H2 p = some (.lst xs):=w2.tr (p, .lst xs) (List.mem_flatten.mpr ⟨_, List.mem_of_getElem? hk, List.mem_cons_self⟩)
      have es : Qw as j (g x b) = .ok (as.set kk (g x b)):=by unfold Qw; rw [hkk]
      rw [es] at P2
      have hjl : kk < as.length:=(List.getElem?_eq_some_iff.mp hrow).1
      have hjC : kk < Cs.length:=by rw [q.len.2]; exact hjl
      have hp:=VY (Cs:=Cs) (j:=kk) (D:=[]) hjC
      obtain ⟨w3, m3⟩:=HK (xs':=xs.set kk (.int (g x b))) (Cs':=Cs.set kk []) w2.nil hk (fun c hc=>hp.mem_iff.mp (List.mem_append_left _ hc)) (ZJ hp (ZQ w2.nil hk))
      rw [Zh] at m3
      refine ⟨p, xs, j, kk, e, r1, hH2, by rw [q.len.1]; exact hkk, hr _ _ _ D w3 ⟨S.mono _ _ m3 q2, ⟨p, _, _, e, P3.imp (fun _ _ _ z=>MonoO.mono m3 z) (P3.set (show oF Xa K _ (.int (g x b)) (g x b) [] from ⟨rfl, rfl⟩) kk (P3.imp (fun _ _ _ z=>MonoO.mono (Xj s2) z) q)), rfl⟩⟩ (PZ.tr (fd.tr D) m3 P2)⟩⟩
end
end L2
namespace L2
open PySem PySem.Spec PyProof.Rows
section
variable {K : PySem.W.Frag} {Er : Exc -> Hp -> Prop} {S : SC} {OO OO' OO1 OO2 : List (List XF)} {σ : St} {α β γ ρ ι δ ε : Type} {u : TS}
noncomputable def Q7 : Nat -> γ -> (γ -> Rs Bool) -> (γ -> Rs (Ctl ρ γ)) -> Rs (Ctl ρ γ)
  | 0, _, _, _=>.bad
  | n + 1, g, c, f=>(c g).bind fun b=>if b = true then (f g).bind fun r=>match r with
    | .ret r=>.ok (.ret r)
    | .nx g'=>Q7 n g' c f else .ok (.nx g)
theorem DC {o : OE ρ} {c : TT} {tb : TS} {mc : γ -> Rs Bool} {body : γ -> Rs (Ctl ρ γ)} {f : γ -> Rs ρ} (J : Jn γ ι) (n : Nat) (x0 : ι) (g0 : γ) (h1 : OO = J.oo x0) (h2 : σ = J.ss x0) (h3 : ∀ h, S.p h -> (J.sc g0 x0).p h)
    (hc : ∀ g x, EvT Er (J.sc g x) (J.oo x) (J.ss x) c (mc g)) (hb : ∀ g x, Sv Er (J.sc g x) (J.oo x) (J.ss x) tb (FCd K o J) (body g))
    (hr : ∀ g x, Sv Er (J.sc g x) (J.oo x) (J.ss x) u (FTd K o) (f g)) : Sv Er S OO σ (Je (Fw c tb) u) (FTd K o) ((Q7 n g0 mc body).bind (Ql f)):=fun H D w s P=>by
  refine ⟨fun mm σ' H2=>∃ x gg, σ' = J.ss x /\ W (J.oo x) H2 /\ (J.sc gg x).p (hid H2 (J.oo x)) /\ PZ Er (FTd K o D) (hid H2 (J.oo x)) ((Q7 mm gg mc body).bind (Ql f)), ⟨n, x0, g0, h2, by rw [← h1]; exact w, by rw [← h1]; exact h3 _ s, by rw [← h1]; exact P⟩, ?_⟩
  rintro mm σ' H2 ⟨x, gg, rfl, w2, sc2, P2⟩
  cases mm with
  | zero=>exact P2.elim
  | succ mm=>
    have P3 : PZ Er (FTd K o D) (hid H2 (J.oo x)) ((mc gg).bind fun b=>(if b = true then (body gg).bind fun r=>match r with
      | .ret r=>.ok (.ret r)
      | .nx g'=>Q7 mm g' mc body else .ok (.nx gg)).bind (Ql f)):=by rw [← Yn]; exact P2
    refine (hc gg x).st w2 sc2 P3 fun b H3 w3 sc3 P4=>?_
    cases b with
    | false=>exact hr gg x H3 D w3 sc3 P4
    | true=>
      rw [if_pos rfl] at P4 ⊢
      refine ⟨fun σ3 H4=>∃ x gg, σ3 = J.ss x /\ W (J.oo x) H4 /\ (J.sc gg x).p (hid H4 (J.oo x)) /\ PZ Er (FTd K o D) (hid H4 (J.oo x)) ((Q7 mm gg mc body).bind (Ql f)), fun σ3 H4 q=>⟨mm, Nat.lt_succ_self _, q⟩, hb gg x H3 _ w3 sc3 ?_⟩
      rw [Yn] at P4
      cases eb : body gg with
      | bad=>rw [eb] at P4; exact P4
      | err x=>rw [eb] at P4; exact P4
      | ok c=>
        rw [eb] at P4
        cases c with
        | ret r=>exact P4
        | nx g'=>exact fun x' H5 w5 m5 sc5=>⟨x', g', rfl, w5, sc5, PZ.tr (FdOk.tr D) m5 P4⟩
end
end L2
namespace L2
open PySem PySem.Spec PyProof.Rows
section
variable {X : Cx}
theorem JQ : OpR X (compareOp .IsNot) (fun x y H Q=>∃ a b : Bool, x = .bl a /\ y = .bl b /\ Q (.bl (!(a == b))) H):=by
  intro pins s σ H x y v u Q I rx ry h
  obtain ⟨a, b, rfl, rfl, q⟩:=h
  cases rx
  cases ry
  show wpAny _ _ (isSame (Value.bool a) (Value.bool b) >>= fun r=>pure (Value.bool !r)) _ _ _
  have e : isSame (Value.bool a) (Value.bool b) = pure (a == b):=by cases a <;> cases b <;> rfl
  rw [e]
  exact wpAny_bind (wpAny_pure (wpAny_pure ⟨.bl (!(a == b)), H, I, rfl, q⟩))
end
section
variable {K : PySem.W.Frag} {Er : Exc -> Hp -> Prop} {S : SC} {OO : List (List XF)} {σ : St}
theorem Ub {ta : TE} {b : Bool} {ma : Rs Bool} (ha : EvB K Er S OO σ ta Ym ma) : EvB K Er S OO σ (tOp (fun x y H Q=>∃ a b : Bool, x = .bl a /\ y = .bl b /\ Q (.bl (!(a == b))) H) ta (tC (.bl b))) Ym (ma.bind fun a=>.ok (!(a == b))):=fun H Q w s P=>
  ha.run w s FB.tr P fun a x H1 s1 w1 q1 r1 P1=>⟨a, b, r1, rfl, P1 _ H1 (Xu.refl _) rfl⟩
end
end L2
namespace L2
open PySem PySem.Spec PyProof.Rows
section
variable {X : Cx} {pins : List (Addr × Obj)} {σ : St} {H : Hp} {s : Shared} {d : Addr} {o : Obj} {kvs : List (Key × V)}
theorem Vq : entryFor table "dict_itemiterator.__iter__" = some Builtin.«dict_keyiterator.__iter__»:=
  entryFor_alias (id':="dict_keyiterator.__iter__") (by kernel_rfl) rfl (by decide +kernel) (by kernel_rfl)
theorem JI {prog : Program} {w : World} {A : Around} {E : Value -> Shared -> Prop} {it d : Addr} {i n ep : Nat} {ok ov : Value} {Q : Value -> Shared -> Prop} (hit : IsItemIter s.heap it d i n ep ok ov) (h : Q (.ref it) s) : wpAny (model prog w) A (pyIter (.ref it)) Q E s:=by
  have ht : s.TypeIs (.ref it) "dict_itemiterator":=⟨_, hit, rfl⟩
  refine wpAny_pyIter_slot ht F.slot_dict_itemiterator_iter (wpAny_call_entry F.slot_dict_itemiterator_iter ht Vq ?_ (F.args_dict_itemiterator_iter_1 _))
  show wpAny _ _ (ret (.ref it)) _ _ s
  exact wpAny_pure ⟨_, rfl, "dict_itemiterator", _, ht, F.slot_dict_itemiterator_next.lookup, h⟩
theorem KV.valAt {kvs : List (Key × V)} {vs : List (Key × Value)} (h : KV kvs vs) : ∀ {i : Nat} (h1 : i < kvs.length) (h2 : i < vs.length), Yi (kvs[i]).2 (vs[i]).2:=by
  induction h with
  | nil=>intro i h1; exact absurd h1 (Nat.not_lt_zero _)
  | cons r _ ih=>
    intro i h1 h2
    cases i with
    | zero=>exact r.2
    | succ i=>exact ih (Nat.lt_of_succ_lt_succ h1) (Nat.lt_of_succ_lt_succ h2)
noncomputable def Iti (d : Addr) (o : Obj) (kvs : List (Key × V)) : It:=
  ⟨fun i H=>H d = some (.frz o (.dK kvs)) /\ i < kvs.length, fun i H v H'=>∃ p kv, v = .ref p /\ H p = none /\ H' = upd H p (.tup [kV kv.1, kv.2]) /\ kvs[i]? = some kv, fun i H=>H d = some (.frz o (.dK kvs)) /\ kvs.length <= i⟩
theorem GE {P : Program} {w : World} {K : PySem.W.Frag} {elts : List Expr} {k : Nat} {pos : Pos} {es : Array DictEntry} {ep : Nat} (d it : Addr) (o : Obj) (kvs : List (Key × V)) (hd : o.data = .dict es ep) : Turn P w K (.Tuple elts k pos) (Iti d o kvs) [it] it (fun i h=>∃ ok ov, IsItemIter h it d i kvs.length ep ok ov) where
  mem:=by simp
  obj:=fun i h st b hb=>by
    have e : b = it:=by simpa using hb
    subst e
    obtain ⟨ok, ov, e⟩:=st
    exact ⟨_, e, fun v z=>by cases z⟩
  keep:=fun i h h' ⟨ok, ov, st⟩ k=>⟨ok, ov, k it (by simp) _ st⟩
  item:=by
    intro X hP hw hK hc i pins s σ H E I hf st hg
    subst hP hw hK
    obtain ⟨he, hlt⟩:=hg
    obtain ⟨_, vs, rel, da⟩:=I.dictAt he hd
    have hl:=rel.length
    obtain ⟨ok, ov, st⟩:=st
    rw [hl] at st
    have hlt' : i < kvs.length:=hlt
    have hv : vs[i]? = some (vs[i].1, vs[i].2):=by simp [show i < vs.length by omega]
    refine wpAny_pyNext_items_item st da hv fun key h' hk out tup sz kk=>?_
    have tz : s.heap.objs.size ≠ it:=fun z=>absurd (Heap.lt_size st) (by rw [← z]; exact Nat.lt_irrefl _)
    refine ⟨_, rfl, wpAny_letOwnedTupleGo_items out fun h'' st'' sb=>?_⟩
    have k1 : ∀ b o, b ≠ it -> h'.get? b = some o -> h''.get? b = some o:=fun b o hb e=>(sb.2 b hb).trans e
    have k2 : ∀ b o, b ∉ [it] -> s.heap.get? b = some o -> h''.get? b = some o:=fun b o q1 q=>k1 b o (by simpa using q1) (kk b o (by simpa using q1) q)
    have hkv : (kvs[i]).1 = (vs[i]).1:=KV.key rel hlt' (by omega)
    refine ⟨.ref s.heap.objs.size, upd H s.heap.objs.size (.tup [kV (kvs[i]).1, (kvs[i]).2]), I.turnLay (h':=h'') (t':=s.toks) k2 hf (Nat.le_refl _) ⟨by show 2 <= sizeLine; decide, [key, (vs[i]).2], .cons (by rw [hkv]; exact Fy hk) (.cons (KV.valAt rel hlt' (by omega)) .nil), ⟨_, k1 _ _ tz tup, rfl, _, rfl⟩⟩, rfl,
      ⟨_, kvs[i], rfl, I.hok.fresh (Nat.le_refl _), rfl, by simp [hlt']⟩, ⟨_, _, by rw [hl]; exact st''⟩, fun b hb=>?_⟩
    have h0:=(hf b hb).1
    have e : b = it:=by simpa using hb
    rw [Xq (by rw [e]; exact tz.symm)]; exact h0
  done:=by
    intro X hP hw hK hc i pins s σ H E I hf st hg
    subst hP hw hK
    obtain ⟨he, hlt⟩:=hg
    obtain ⟨_, vs, rel, da⟩:=I.dictAt he hd
    have hl:=rel.length
    obtain ⟨ok, ov, st⟩:=st
    rw [hl] at st
    obtain ⟨f0, f1, f2, f3, f4, f5⟩:=hf it (by simp)
    exact wpAny_pyNext_items_end (I.ok.hd hc) st da (List.getElem?_eq_none (by omega)) fun h' eb=>⟨rfl, I.turned (t':=s.toks) (fun b o hb e=>eb b o hb e) f0 f1 f3 f4 f5⟩
  self:=fun _ _ _ _ _ st h=>JI st.choose_spec.choose_spec h
noncomputable def Bf (tl : TE) : TI:=fun σ H R=>tl σ H fun x H1=>∃ a o kvs, x = .ref a /\ H1 a = some (.frz o (.dK kvs)) /\ R (Iti a o kvs) H1
theorem CD {elts : List Expr} {k : Nat} {pos0 : Pos} {l : Expr} {tl : TE} {apos cpos : Pos} (hl : PE X l tl)
    (hbase : attributeBase l "items" X.env (eval l X.env) = eval l X.env:=by rfl) (hline : (apos.endLine == cpos.line) = true:=by rfl) : PI X (.Tuple elts k pos0) (.Call (.Attribute l "items" apos) [] [] cpos) (Bf tl):=by
  intro pins s σ H R I h
  refine wpAny_Call_method0_late hbase hline (thn (hl pins s σ H _ I h) fun v s1 r9=>?_)
  obtain ⟨x, H1, I1, r1, q1⟩:=r9
  obtain ⟨a, o, kvs, e, he, q⟩:=q1
  subst e
  cases r1
  obtain ⟨h1, _, hs, vs, rel, o', es, ep, g1, g2, g3, g4⟩:=(show Y5 X.prog X.w H1 s1.heap a (.frz o (.dK kvs)) from I1.hok a _ he)
  rw [h1] at g1
  cases g1
  have hm : s1.heap.DictAt (Yu X.prog X.w) a vs ep:=⟨o, es, h1, g2, g3, g4⟩
  refine ⟨"dict", "dict.items", F.plainAttrs_dict, F.slot_dict_items, F.type_dict_items, hm.dictOf.typeIs, hm.dictOf.mapOf.noDict, ?_⟩
  refine method_meetsIn F.slot_dict_items F.entry_dict_items rfl (PySem.evalArgs_none ⟨rfl, hm.dictOf.typeIs, F.args_dict_items_1 _, _, meets_dict_items (Yu X.prog X.w) a hs, ⟨vs, hm.dictOf⟩, ?_⟩)
  refine wpAny_pyIter_items (knd:=Yu X.prog X.w) (d:=a) (kvs:=vs) (ep:=ep) ⟨_, Heap.get?_push_size _ rfl, rfl, rfl⟩ (hm.push _) ?_
  rw [← rel.length]
  refine ⟨_, [_], _, _, H1, rfl, I1.kept (t':=s1.toks) fun b o e=>Heap.get?_push_of_some _ (Heap.get?_push_of_some _ e), GE a _ o kvs g3, ⟨_, _, Heap.get?_push_size _ rfl⟩, fun b hb=>?_, q⟩
  have e:=List.mem_singleton.mp hb
  subst e
  have hge : s1.heap.objs.size <= (s1.heap.push { cls:=.type "dict_items", data:=.fields #[.ref a] }).objs.size:=by rw [Heap.size_push]; exact Nat.le_succ _
  exact I1.fpOk hge (I1.hok.fresh hge)
end
end L2
namespace L2
open PySem PySem.Spec PyProof.Rows
section
variable {X : Cx}
noncomputable def ipD : TIp:=fun x y H Q=>∃ i j, x = .int i /\ y = .int j /\ I0 i j /\ Q (.int (i / j)) H
theorem EG : PIp X .FloorDiv ipD:=by
  intro pins s σ H x y v u Q I r1 r2 h
  obtain ⟨i, j, e1, e2, hc, q⟩:=h
  subst e1; subst e2
  obtain ⟨t, rfl⟩:=r1
  obtain ⟨t', rfl⟩:=r2
  have h1 : (0 : Int) < j:=hc.1
  have h2 : j < 1073741824:=hc.2
  exact ifloordiv_int (by omega) (by rw [Int.fdiv_eq_ediv_of_nonneg i (by omega)]; exact ⟨.int _, H, I.tok _, ⟨_, rfl⟩, q⟩) (.inl (PyProof.noPylong_small (by omega)))
end
section
variable {K : PySem.W.Frag} {Er : Exc -> Hp -> Prop} {S : SC} {OO OO' OO1 OO2 OO3 : List (List XF)} {σ : St} {α β γ ρ ι δ ε ζ : Type}
variable {Fd : Ends -> β -> Hp -> Prop} [fd : FdOk Fd] {u : TS}
noncomputable def HX (a b : Int) : Rs Int:=chk (0 < b /\ b < 1073741824) (.ok (a / b))
theorem En {te : TE} {m : Rs Int} {f : Int -> Rs β} {v : V} {a : Int} (i : Nat) (hσ : σ[i]? = some (some v)) (h : ∀ x, S.p x -> Xa K x v a) (he : EvB K Er S OO σ te Xa m)
    (hr : ∀ b v, Sv Er (S.add K Xa v b) OO (σ.set i (some v)) u Fd (f b)) : Sv Er S OO σ (Je (Iy i te ipD) u) Fd (m.bind fun b=>(HX a b).bind f):=fun H D w s P=>
  ⟨v, hσ, he.st w s P fun b y H1 s1 w1 q1 r1 P1=>by
    cases e : HX a b with
    | bad=>rw [e] at P1; exact P1.elim
    | err x=>exact absurd e Qm
    | ok c=>
      rw [e] at P1
      obtain ⟨h1, h2⟩:=Zu e
      cases h2
      exact ⟨a, b, h _ s, r1, h1, hr _ _ H1 D w1 ⟨q1, rfl⟩ P1⟩⟩
instance {o : OE α} [m : FlatT o] : FlatT (oL o):=⟨fun s r9=>by obtain ⟨p, xs, Cs, e, q, c⟩:=r9; exact ⟨p, xs, Cs, e, q.imp fun _ _ _ z=>m.flat s z, c⟩⟩
theorem Kf {te : TE} {r : Enc α} [z : MonoE r] {m : Rs (List (Int × α))} (he : EvS K Er S OO σ te (rDf r) m) : Walk K Er S OO σ (Bf te) (rP2 Xa r) m:=⟨fun {H R} w s P=>by
  refine he H _ w s ?_
  cases em : m with
  | bad=>rw [em] at P; exact P
  | err x=>rw [em] at P; exact P
  | ok d=>
    rw [em] at P
    intro v H' s' ⟨p, o, kvs, e, hp, pr⟩
    refine ⟨p, o, kvs, e, Xt _ _ hp, P _ H' s' ?_ ?_⟩
    . intro i a ha OO2 H2 w2 m2
      obtain ⟨kv, hkv, rk⟩:=Paired.getR pr ha
      have hl : i < kvs.length:=(List.getElem?_eq_some_iff.mp hkv).1
      refine ⟨⟨Xt _ _ (m2 _ _ hp), hl⟩, fun y H3 h3=>?_⟩
      obtain ⟨b, kv', rfl, hb, rfl, hy⟩:=h3
      rw [hkv] at hy
      cases hy
      refine ⟨Xy hb _, ⟨b, _, _, rfl, ZA w2 hb, ?_, z.mono (m2.trans (Xj (Xy hb _))) rk.2⟩⟩
      show kV kv.1 = .int a.1
      rw [rk.1]
      rfl
    . intro OO2 H2 w2 m2
      exact ⟨Xt _ _ (m2 _ _ hp), by rw [Paired.len pr]; exact Nat.le_refl _⟩⟩
theorem Ie {o : OE α} [z : MonoO o] {xs : List V} {as : List α} {Cs : List (List XF)} {H H0 : Hp} {Q : VK} {OO0 : List (List XF)} (w : W (Cs.flatten :: OO) H) (m0 : Xu (hid H0 OO0) (hid H (Cs.flatten :: OO))) (s0 : Xu H0 H) (pr : P3 (o K (hid H (Cs.flatten :: OO))) xs as Cs) (P : FO K OO0 OO (oL o) Q as H0) : ∀ p, H p = none -> Q (.ref p) (upd H p (.lst xs)):=fun p hp=>by
  have hn:=QC (OO:=Cs.flatten :: OO) hp (o:=.lst xs)
  have wn:=w.new hp (o:=.lst xs) rfl
  have pe : (((p, HO.lst xs) :: Cs.flatten) :: OO).flatten.Perm ([(p, HO.lst xs)] :: Cs.flatten :: OO).flatten:=by simp
  refine P (.ref p) ((p, .lst xs) :: Cs.flatten) _ (s0.trans (Xy hp _)) (wn.of pe) ?_ ?_
  . rw [X0 pe]; exact m0.trans hn
  . rw [X0 pe]
    exact ⟨p, xs, Cs, rfl, pr.imp fun _ _ _ h=>z.mono hn h, rfl⟩
theorem BN {t : TA} {o : OE α} [z : MonoO o] {m : Rs (List α)} (h : HW K Er S OO OO' σ t o m) : Ev K Er S OO OO' σ (HS t) (oL o) (m.bind fun as=>chk (as.length <= sizeLine) (.ok as)):=fun H Q w s P=>by
  refine h H _ w s ?_
  cases e : m with
  | bad=>rw [e] at P; exact P
  | err x=>rw [e] at P; exact P
  | ok as=>
    rw [e] at P
    obtain ⟨hsz, P⟩:=PZ.chk (show PZ Er _ H (chk (as.length <= sizeLine) (.ok as)) from P)
    intro vs Cs H1 s1 w1 m1 p
    exact ⟨by rw [p.len.1]; exact hsz, Ie w1 m1 s1 p P⟩
noncomputable def oT3 (o : OE α) (q : OE β) (t : OE γ) : OE (α × β × γ):=fun K h v a C=>∃ p x y z C1 C2 C3, v = .ref p /\ h p = some (.tup [x, y, z]) /\ o K h x a.1 C1 /\ q K h y a.2.1 C2 /\ t K h z a.2.2 C3 /\ C = C1 ++ (C2 ++ C3)
instance {o : OE α} {q : OE β} {t : OE γ} [m : MonoO o] [n : MonoO q] [k : MonoO t] : MonoO (oT3 o q t):=⟨fun s r9=>by obtain ⟨p, x, y, z, C1, C2, C3, e, h, h1, h2, h3, c⟩:=r9; exact ⟨p, x, y, z, C1, C2, C3, e, s _ _ h, m.mono s h1, n.mono s h2, k.mono s h3, c⟩⟩
instance {o : OE α} {q : OE β} {t : OE γ} [m : FlatO o] [n : FlatO q] [k : FlatO t] : FlatO (oT3 o q t):=⟨fun s r9=>by obtain ⟨p, x, y, z, C1, C2, C3, e, h, h1, h2, h3, c⟩:=r9; exact ⟨p, x, y, z, C1, C2, C3, e, s _ _ h rfl, m.flat s h1, n.flat s h2, k.flat s h3, c⟩⟩
instance {o : OE α} {q : OE β} {t : OE γ} {ro : Enc α} {rq : Enc β} {rt : Enc γ} [m : FrzC o ro] [n : FrzC q rq] [k : FrzC t rt] : FrzC (oT3 o q t) (rP3 ro rq rt):=⟨fun ⟨p, x, y, z, C1, C2, C3, e, h, h1, h2, h3, c⟩ s hc=>by
  subst c
  exact ⟨p, x, y, z, e, s _ _ h, m.frz h1 s fun c hm=>hc c (by simp [hm]), n.frz h2 s fun c hm=>hc c (by simp [hm]), k.frz h3 s fun c hm=>hc c (by simp [hm])⟩⟩
theorem Cf {ta tb tc : TE} {o : OE α} {q : OE β} {t : OE γ} [zo : MonoO o] [zq : MonoO q] [zt : MonoO t] {ma : Rs α} {mb : Rs β} {mc : Rs γ} (ha : Ev K Er S OO OO1 σ ta o ma) (hb : ∀ C, Ev K Er S (C :: OO1) (C :: OO2) σ tb q mb) (hc : ∀ C C', Ev K Er S (C' :: C :: OO2) (C' :: C :: OO3) σ tc t mc) :
    Ev K Er S OO OO3 σ (EM (X1 ta (X1 tb (X1 tc QF)))) (oT3 o q t) (ma.bind fun a=>mb.bind fun b=>mc.bind fun c=>.ok (a, b, c)):=fun H Q w s P=>by
  refine ha H _ w s ?_
  cases em : ma with
  | bad=>rw [em] at P; exact P
  | err x=>rw [em] at P; exact P
  | ok a=>
    rw [em] at P
    intro v C H1 s1 w1 m1 ho
    refine hb C H1 _ w1 (S.mono _ _ m1 s) ?_
    have P1 : PZ Er (FO K OO OO3 (oT3 o q t) Q) H (mb.bind fun b=>mc.bind fun c=>.ok (a, b, c)):=P
    cases en : mb with
    | bad=>rw [en] at P1; exact P1
    | err x=>rw [en] at P1; exact fun H2 s2=>P1 H2 (s1.trans s2)
    | ok b=>
      rw [en] at P1
      have P2 : PZ Er (FO K OO OO3 (oT3 o q t) Q) H (mc.bind fun c=>.ok (a, b, c)):=P1
      intro v2 C2 H2 s2 w2 m2 ho2
      refine hc C C2 H2 _ w2 (S.mono _ _ (m1.trans m2) s) ?_
      cases ek : mc with
      | bad=>rw [ek] at P2; exact P2
      | err x=>rw [ek] at P2; exact fun H3 s3=>P2 H3 (s1.trans (s2.trans s3))
      | ok c=>
        rw [ek] at P2
        have P3 : FO K OO OO3 (oT3 o q t) Q (a, b, c) H:=P2
        intro v3 C3 H3 s3 w3 m3 ho3
        refine ⟨by show 3 <= sizeLine; decide, fun p hp=>?_⟩
        have pe : ((C ++ (C2 ++ C3)) :: OO3).flatten.Perm (C3 :: C2 :: C :: OO3).flatten:=by
          have q : (C ++ (C2 ++ C3)).Perm (C3 ++ (C2 ++ C)):=by
            rw [← List.append_assoc C3]
            exact List.perm_append_comm.trans ((List.perm_append_comm (l₁:=C2) (l₂:=C3)).append_right _)
          have:=q.append_right OO3.flatten
          simpa [List.append_assoc] using this
        have s4 : Xu H3 (upd H3 p (.tup [v, v2, v3])):=Xy hp _
        have w4:=(w3.keep s4).of pe
        have m4 : Xu (hid H3 (C3 :: C2 :: C :: OO3)) (hid (upd H3 p (.tup [v, v2, v3])) ((C ++ (C2 ++ C3)) :: OO3)):=by rw [X0 pe]; exact Xj s4
        refine P3 (.ref p) (C ++ (C2 ++ C3)) _ (s1.trans (s2.trans (s3.trans s4))) w4 (m1.trans (m2.trans (m3.trans m4))) ⟨p, v, v2, v3, C, C2, C3, rfl, ?_, zo.mono (m2.trans (m3.trans m4)) ho, zq.mono (m3.trans m4) ho2, zt.mono m4 ho3, rfl⟩
        rw [X0 pe]
        exact ZA w3 hp
end
end L2
namespace My
open PySem L2
noncomputable def JK (a_0 : ((List (List Int)) × (List (Int × Int)))) (a_1 : Int) : Rs (Int × Int):=(Rs.bind (Rs.bind (Rs.bind (Rs.ok a_0) fun x1=>(Rs.ok x1.1)) fun x2=>(Rs.ok (QU x2))) fun x20=>(Rs.bind (forC x20 () (fun g5 a7=>(Rs.bind (Rs.bind (Rs.ok a_1) fun x9=>(Rs.bind (Rs.ok a7.2) fun x10=>(Rs.ok (decide (x9 ∈ x10))))) fun x11=>(if x11 = true then (Rs.bind (Rs.bind (Rs.ok a7.1) fun x14=>(Rs.bind (Rs.bind (Rs.ok a7.2) fun x12=>(Rs.bind (Rs.ok a_1) fun x13=>(Bg x12 x13))) fun x15=>(Rs.ok (x14, x15)))) fun x17=>(Rs.ok (Ctl.ret x17))) else (Rs.bind (Rs.ok ()) fun x16=>(Rs.ok (Ctl.nx x16))))))) (Ql fun g18=>Rs.bad)))
noncomputable def XJ (a_0 : (List Int)) : Rs Int:=(Rs.bind (Rs.bind (Rs.ok a_0) fun x6=>(Bs x6 (fun a4=>(Rs.bind (Rs.ok a4) fun x7=>(Rs.bind (Rs.ok (0 : Int)) fun x8=>(Rs.ok (decide (x7 < x8)))))) (fun a4=>(Rs.ok a4)))) fun a1=>(Rs.bind (Rs.bind (Rs.ok a1) fun x10=>(Rs.ok (x10.length : Int))) fun x11=>(Rs.bind (Rs.ok (1 : Int)) fun x12=>(Rs.ok (max x11 x12)))))
noncomputable def Yx (a_0 : (List Int)) (a_1 : Int) : Rs (List Int):=(Rs.bind (Rs.bind (Rs.ok a_0) fun x4=>(noE (XJ x4))) fun a1=>(Rs.bind (Rs.ok (0 : Int)) fun a5=>(Rs.bind (Rs.bind (Rs.bind (Rs.ok a_1) fun x11=>(Rs.bind (Rs.ok []) fun x12=>(Rs.ok (x11 :: x12)))) fun x10=>(chk (x10.length <= sizeLine) (Rs.ok x10))) fun a7=>(Rs.bind (Rs.bind (Rs.ok a_0) fun x15=>(Rs.bind (Rs.ok none) fun x16=>(Rs.bind (Rs.bind (Rs.bind (Rs.ok (1 : Int)) fun x13=>(Rs.ok (-x13))) fun x14=>(Rs.ok (some x14))) fun x17=>(Rs.ok (Gq x15 x16 x17))))) fun x43=>(Rs.bind (forN x43 (a5, a7) (fun g20 a22=>(Rs.bind (Rs.bind (Rs.bind (Rs.ok a22) fun x24=>(Rs.bind (Rs.ok (0 : Int)) fun x25=>(Rs.ok (decide (x24 < x25))))) fun x26=>(if x26 = true then (Rs.bind (Rs.ok (1 : Int)) fun x29=>((fun (a31 : Int)=>(Rs.ok (a31))) (g20.1 + x29))) else (Rs.ok (g20.1)))) fun g33=>(Rs.bind (Rs.bind (Rs.ok a_1) fun x36=>(Rs.bind (Rs.bind (Rs.ok g33) fun x34=>(Rs.bind (Rs.ok a1) fun x35=>(ZF x34 x35))) fun x37=>(Rs.ok (x36 + x37)))) fun a38=>(chk (g20.2.length < sizeLine) ((fun a40=>(Rs.ok (g33, a40))) (g20.2 ++ [a38]))))))) fun g41=>(Rs.ok g41.2))))))
noncomputable def VG (a_0 : ((List (List Int)) × (List (Int × Int)))) : Rs (List (List Int)):=(Rs.bind (Rs.ok []) fun a1=>(Rs.bind (Rs.ok (0 : Int)) fun a4=>(Rs.bind (Rs.bind (Rs.ok a_0) fun x6=>(Rs.ok x6.1)) fun x26=>(Rs.bind (forN x26 (a4, a1) (fun g9 a11=>(Rs.bind (Rs.bind (Rs.ok a11) fun x14=>(Rs.bind (Rs.ok g9.1) fun x15=>(noE (Yx x14 x15)))) fun a16=>(chk (g9.2.length < sizeLine) ((fun a18=>(Rs.bind (Rs.bind (Rs.ok a11) fun x20=>(noE (XJ x20))) fun x21=>((fun (a23 : Int)=>(Rs.ok (a23, a18))) (g9.1 + x21)))) (g9.2 ++ [a16])))))) fun g24=>(Rs.ok g24.2)))))
noncomputable def YH (a_0 : ((List (List Int)) × (List (Int × Int)))) : Rs Int:=(Rs.bind (Rs.bind (Rs.bind (Rs.ok a_0) fun x2=>(Rs.ok x2.1)) fun x6=>(Ju x6 (fun a4=>(Rs.bind (Rs.ok a4) fun x8=>(noE (XJ x8)))))) fun x9=>(Rs.ok (x9.sum)))
noncomputable def ZE (a_0 : ((List (List Int)) × (List (Int × Int)))) : Rs (List (Int × Int × Int × Int × Int)):=(Rs.bind (Rs.bind (Rs.ok a_0) fun x4=>(noE (VG x4))) fun a1=>(Rs.bind (Rs.ok []) fun a5=>(Rs.bind (Rs.bind (Rs.ok a_0) fun x8=>(Rs.ok x8.2)) fun x64=>(Rs.bind (forN x64 (a5) (fun g11 a13=>(Rs.bind (Rs.bind (Rs.ok a_0) fun x18=>(Rs.bind (Rs.ok a13.1) fun x19=>(noE (JK x18 x19)))) fun a15=>(Rs.bind (Rs.bind (Rs.ok a_0) fun x24=>(Rs.bind (Rs.bind (Rs.ok a13.1) fun x23=>(Rs.ok (-x23))) fun x25=>(noE (JK x24 x25)))) fun a20=>(Rs.bind (Rs.bind (Rs.bind (Rs.ok a1) fun x29=>(Rs.bind (Rs.bind (Rs.ok a15) fun x28=>(Rs.ok x28.1)) fun x30=>(atR x29 x30))) fun x32=>(Rs.bind (Rs.bind (Rs.ok a15) fun x31=>(Rs.ok x31.2)) fun x33=>(atR x32 x33))) fun a26=>(Rs.bind (Rs.bind (Rs.ok a1) fun x37=>(Rs.bind (Rs.bind (Rs.ok a20) fun x36=>(Rs.ok x36.1)) fun x38=>(atR x37 x38))) fun a34=>(Rs.bind (Rs.bind (Rs.ok a34) fun x42=>(Rs.bind (Rs.bind (Rs.ok a20) fun x41=>(Rs.ok x41.2)) fun x43=>(atR x42 x43))) fun a39=>(Rs.bind (Rs.bind (Rs.ok a34) fun x52=>(Rs.bind (Rs.bind (Rs.bind (Rs.bind (Rs.ok a20) fun x46=>(Rs.ok x46.2)) fun x47=>(Rs.bind (Rs.ok (1 : Int)) fun x48=>(Rs.ok (x47 + x48)))) fun x50=>(Rs.bind (Rs.bind (Rs.ok a34) fun x49=>(Rs.ok (x49.length : Int))) fun x51=>(ZF x50 x51))) fun x53=>(atR x52 x53))) fun a44=>(Rs.bind (Rs.bind (Rs.ok a13.1) fun x54=>(Rs.bind (Rs.ok a13.2) fun x55=>(Rs.bind (Rs.ok a26) fun x56=>(Rs.bind (Rs.ok a39) fun x57=>(Rs.bind (Rs.ok a44) fun x58=>(Rs.ok (x54, x55, x56, x57, x58))))))) fun a59=>(chk (g11.length < sizeLine) ((fun a61=>(Rs.ok (a61))) (g11 ++ [a59])))))))))))) fun g62=>(Rs.ok g62)))))
noncomputable def Vu (a_0 : ((List (List Int)) × (List (Int × Int)))) : Rs (List (Int × Int × Int)):=(Rs.bind (Rs.ok []) fun a1=>(Rs.bind (Rs.bind (Rs.ok a_0) fun x5=>(noE (ZE x5))) fun x26=>(Rs.bind (forN x26 (a1) (fun g8 a10=>(Rs.bind (Rs.bind (Rs.bind (Rs.ok a10.2.1) fun x12=>(Rs.bind (Rs.ok (1 : Int)) fun x13=>(Rs.ok (decide (x12 = x13))))) fun x20=>(if x20 = true then (Rs.bind (Rs.ok a10.2.2.2.1) fun x14=>(Rs.bind (Rs.ok a10.2.2.1) fun x15=>(Rs.bind (Rs.ok a10.2.2.2.2) fun x16=>(Rs.ok (x14, x15, x16))))) else (Rs.bind (Rs.ok a10.2.2.2.2) fun x17=>(Rs.bind (Rs.ok a10.2.2.1) fun x18=>(Rs.bind (Rs.ok a10.2.2.2.1) fun x19=>(Rs.ok (x17, x18, x19))))))) fun a21=>(chk (g8.length < sizeLine) ((fun a23=>(Rs.ok (a23))) (g8 ++ [a21])))))) fun g24=>(Rs.ok g24))))
noncomputable def Zt (a_0 : Int) : Rs Bool:=(Rs.bind (orR (Rs.bind (Rs.ok a_0) fun x1=>(Rs.bind (Rs.ok (2 : Int)) fun x2=>(Rs.ok (decide (x1 < x2))))) (Rs.bind (Rs.ok a_0) fun x3=>(Rs.bind (Rs.ok (100000 : Int)) fun x4=>(Rs.ok (decide (x4 < x3)))))) fun x5=>(if x5 = true then (Rs.ok false) else (Rs.bind (Rs.ok (2 : Int)) fun a6=>(Rs.bind (Q7 (a_0.natAbs + 2) (a6) (fun g10=>(Rs.bind (Rs.bind (Rs.ok g10) fun x12=>(Rs.bind (Rs.ok g10) fun x13=>(Z1 x12 x13))) fun x14=>(Rs.bind (Rs.ok a_0) fun x15=>(Rs.ok (decide (x14 <= x15)))))) (fun g10=>(Rs.bind (Rs.bind (Rs.bind (Rs.ok a_0) fun x16=>(Rs.bind (Rs.ok g10) fun x17=>(ZF x16 x17))) fun x18=>(Rs.bind (Rs.ok (0 : Int)) fun x19=>(Rs.ok (decide (x18 = x19))))) fun x20=>(if x20 = true then (Rs.bind (Rs.ok false) fun x25=>(Rs.ok (Ctl.ret x25))) else (Rs.bind (Rs.ok (1 : Int)) fun x21=>((fun (a23 : Int)=>(Rs.bind (Rs.ok (a23)) fun x24=>(Rs.ok (Ctl.nx x24)))) (g10 + x21))))))) (Ql fun g26=>(Rs.ok true))))))
noncomputable def YC (a_0 : Int) (a_1 : Int) : Rs Unit:=(Rs.bind (Rs.bind (Rs.bind (Rs.ok a_0) fun x6=>(noE (Zt x6))) fun x7=>(Rs.ok (!x7))) fun x8=>(if x8 = true then Rs.bad else (Rs.bind (Rs.bind (Rs.bind (Rs.ok a_1) fun x9=>(Rs.bind (Rs.ok a_0) fun x10=>(ZF x9 x10))) fun x11=>(Rs.bind (Rs.ok (0 : Int)) fun x12=>(Rs.ok (decide (x11 = x12))))) fun x13=>(if x13 = true then Rs.bad else (Rs.ok ())))))
noncomputable def YF (a_0 : ((List (List Int)) × (List (Int × Int)))) (a_1 : Int) (a_2 : Int) : Rs (List (List Int)):=(Rs.bind (Rs.bind (Rs.ok a_1) fun x2=>(Rs.bind (Rs.ok a_2) fun x3=>(noE (YC x2 x3)))) fun x4=>(Rs.bind (Rs.bind (Rs.ok a_0) fun x8=>(noE (YH x8))) fun a5=>(Rs.bind (Rs.ok []) fun a9=>(Rs.bind (Rs.bind (Rs.ok a_0) fun x13=>(noE (Vu x13))) fun x56=>(Rs.bind (forN x56 (a9) (fun g16 a18=>(Rs.bind (Rs.bind (Rs.bind (Rs.bind (Rs.ok (0 : Int)) fun x26=>(Rs.bind (Rs.ok []) fun x27=>(Rs.ok (x26 :: x27)))) fun x25=>(chk (x25.length <= sizeLine) (Rs.ok x25))) fun x23=>(Rs.bind (Rs.ok a5) fun x24=>(Ui x23 x24))) fun a20=>(Rs.bind (Rs.ok a18.1) fun x30=>(Rs.bind (atR a20 x30) fun x31=>(Rs.bind (Rs.ok a_2) fun x32=>(Rs.bind (Qw a20 x30 (x31 + x32)) fun a28=>(Rs.bind (Rs.ok a18.2.1) fun x37=>(Rs.bind (atR a28 x37) fun x38=>(Rs.bind (Rs.bind (Rs.ok (1 : Int)) fun x33=>(Rs.bind (Rs.ok a_2) fun x34=>(Rs.ok (x33 - x34)))) fun x39=>(Rs.bind (Qw a28 x37 (x38 + x39)) fun a35=>(Rs.bind (Rs.ok a18.2.2) fun x42=>(Rs.bind (atR a35 x42) fun x43=>(Rs.bind (Rs.ok (1 : Int)) fun x44=>(Rs.bind (Qw a35 x42 (x43 - x44)) fun a40=>(Rs.bind (Rs.bind (Rs.ok a40) fun x48=>(Ju x48 (fun a46=>(Rs.bind (Rs.ok a46) fun x49=>(Rs.bind (Rs.ok a_1) fun x50=>(ZF x49 x50)))))) fun a51=>(chk (g16.length < sizeLine) ((fun a53=>(Rs.ok (a53))) (g16 ++ [a51]))))))))))))))))))) fun g54=>(Rs.ok g54))))))
noncomputable def Qi (a_0 : (List Int)) (a_1 : (List Int)) : Rs Int:=(Rs.bind (Rs.bind (Rs.bind (Rs.ok a_0) fun x2=>(Rs.bind (Rs.ok a_1) fun x3=>(Rs.ok (x2.zip x3)))) fun x7=>(Ju x7 (fun a5=>(Rs.bind (Rs.ok a5.1) fun x8=>(Rs.bind (Rs.ok a5.2) fun x9=>(Z1 x8 x9)))))) fun x10=>(Rs.ok (x10.sum)))
noncomputable def ZV (a_0 : ((List (List Int)) × (List (Int × Int)))) (a_1 : Int) (a_2 : Int) (a_3 : (List Int)) : Rs Bool:=(Rs.bind (Rs.bind (Rs.ok a_0) fun x4=>(Rs.bind (Rs.ok a_1) fun x5=>(Rs.bind (Rs.ok a_2) fun x6=>(noE (YF x4 x5 x6))))) fun a1=>(Rs.bind (Rs.bind (Rs.ok a1) fun x11=>(Ju x11 (fun a9=>(Rs.bind (Rs.bind (Rs.bind (Rs.ok a9) fun x13=>(Rs.bind (Rs.ok a_3) fun x14=>(noE (Qi x13 x14)))) fun x15=>(Rs.bind (Rs.ok a_1) fun x16=>(ZF x15 x16))) fun x17=>(Rs.bind (Rs.ok (0 : Int)) fun x18=>(Rs.ok (decide (x17 = x18)))))))) fun x19=>(Rs.ok (x19.all id))))
noncomputable def Q3 (a_0 : (List Int)) (a_1 : Int) (a_2 : Int) : Rs (List Int):=(Rs.bind (Rs.ok a_0) fun x4=>(Ju x4 (fun a2=>(Rs.bind (Rs.bind (Rs.ok a_1) fun x5=>(Rs.bind (Rs.ok a2) fun x6=>(Z1 x5 x6))) fun x7=>(Rs.bind (Rs.ok a_2) fun x8=>(ZF x7 x8))))))
noncomputable def Yz (a_0 : Int) (a_1 : Int) : Rs Int:=(Rs.bind (Rs.ok (1 : Int)) fun a1=>(Rs.bind (Rs.ok a_0) fun a3=>(Rs.bind (Rs.bind (Rs.ok a_1) fun x7=>(Rs.bind (Rs.ok (2 : Int)) fun x8=>(Rs.ok (x7 - x8)))) fun a5=>(Rs.bind (Z5 (100) (a3, a5, a1) (fun g11=>(Rs.bind (Rs.ok g11.2.1) fun x13=>(Rs.bind (Rs.ok (0 : Int)) fun x14=>(Rs.ok (decide (x14 < x13)))))) (fun g11=>(Rs.bind (Rs.bind (Rs.bind (Rs.bind (Rs.ok g11.2.1) fun x15=>(Rs.bind (Rs.ok (2 : Int)) fun x16=>(ZF x15 x16))) fun x17=>(Rs.bind (Rs.ok (1 : Int)) fun x18=>(Rs.ok (decide (x17 = x18))))) fun x19=>(if x19 = true then (Rs.bind (Rs.bind (Rs.bind (Rs.ok g11.2.2) fun x24=>(Rs.bind (Rs.ok g11.1) fun x25=>(Z1 x24 x25))) fun x26=>(Rs.bind (Rs.ok a_1) fun x27=>(ZF x26 x27))) fun a22=>(Rs.ok (a22))) else (Rs.ok (g11.2.2)))) fun g29=>(Rs.bind (Rs.bind (Rs.bind (Rs.ok g11.1) fun x32=>(Rs.bind (Rs.ok g11.1) fun x33=>(Z1 x32 x33))) fun x34=>(Rs.bind (Rs.ok a_1) fun x35=>(ZF x34 x35))) fun a30=>(Rs.bind (Rs.ok (2 : Int)) fun x36=>(Rs.bind (HX g11.2.1 x36) fun a38=>(Rs.ok (a30, a38, g29)))))))) fun g39=>(Rs.ok g39.2.2)))))
noncomputable def Zi (a_0 : (List Int)) (a_1 : (List Int)) (a_2 : Int) (a_3 : Int) : Rs (List Int):=(Rs.bind (Rs.bind (Rs.ok a_0) fun x1=>(Rs.bind (Rs.ok a_1) fun x2=>(Rs.ok (x1.zip x2)))) fun x6=>(Ju x6 (fun a4=>(Rs.bind (Rs.bind (Rs.ok a4.1) fun x11=>(Rs.bind (Rs.bind (Rs.bind (Rs.ok a_0) fun x7=>(Rs.bind (Rs.ok a_2) fun x8=>(atR x7 x8))) fun x9=>(Rs.bind (Rs.ok a4.2) fun x10=>(Z1 x9 x10))) fun x12=>(Rs.ok (x11 - x12)))) fun x13=>(Rs.bind (Rs.ok a_3) fun x14=>(ZF x13 x14))))))
noncomputable def Zr (a_0 : (List (List Int))) (a_1 : Int) (a_2 : Int) : Rs (List (Int × (List Int))):=(Rs.bind (Rs.ok []) fun a1=>(Rs.bind (Rs.ok a_0) fun a4=>(Rs.bind (Rs.bind (Rs.ok a_1) fun x6=>(KD 0 x6)) fun x81=>(Rs.bind (forN x81 (a4, a1) (fun g9 a11=>(Rs.bind (Rs.bind (Rs.ok g9.1) fun x18=>(Bs x18 (fun a16=>(Rs.bind (Rs.bind (Rs.ok a16) fun x19=>(Rs.bind (Rs.ok a11) fun x20=>(atR x19 x20))) fun x21=>(Rs.bind (Rs.ok (0 : Int)) fun x22=>(Rs.ok (!(decide (x21 = x22))))))) (fun a16=>(Rs.ok a16)))) fun a13=>(Rs.bind (Rs.bind (Rs.bind (Rs.bind (Rs.ok a13) fun x23=>(Rs.ok (x23.length : Int))) fun x24=>(Rs.bind (Rs.ok (0 : Int)) fun x25=>(Rs.ok (decide (x25 < x24))))) fun x26=>(if x26 = true then (Rs.bind (Rs.bind (Rs.bind (Rs.ok a13) fun x33=>(Rs.bind (Rs.ok (0 : Int)) fun x34=>(atR x33 x34))) fun x42=>(Rs.bind (Rs.bind (Rs.bind (Rs.bind (Rs.ok a13) fun x36=>(Rs.bind (Rs.ok (0 : Int)) fun x37=>(atR x36 x37))) fun x38=>(Rs.bind (Rs.ok a11) fun x39=>(atR x38 x39))) fun x40=>(Rs.bind (Rs.ok a_2) fun x41=>(noE (Yz x40 x41)))) fun x43=>(Rs.bind (Rs.ok a_2) fun x44=>(noE (Q3 x42 x43 x44))))) fun a29=>(Rs.bind (Rs.bind (Rs.ok g9.1) fun x50=>(Ju x50 (fun a48=>(Rs.bind (Rs.ok a48) fun x52=>(Rs.bind (Rs.ok a29) fun x53=>(Rs.bind (Rs.ok a11) fun x54=>(Rs.bind (Rs.ok a_2) fun x55=>(noE (Zi x52 x53 x54 x55))))))))) fun a45=>(Rs.bind (Rs.bind (Rs.bind (Rs.ok g9.2) fun x64=>(Ju x64 (fun a62=>(Rs.bind (Rs.ok a62.1) fun x70=>(Rs.bind (Rs.bind (Rs.ok a62.2) fun x66=>(Rs.bind (Rs.ok a29) fun x67=>(Rs.bind (Rs.ok a11) fun x68=>(Rs.bind (Rs.ok a_2) fun x69=>(noE (Zi x66 x67 x68 x69)))))) fun x71=>(Rs.ok (x70, x71))))))) fun x59=>(Rs.bind (Rs.bind (Rs.bind (Rs.bind (Rs.ok a11) fun x73=>(Rs.bind (Rs.ok a29) fun x74=>(Rs.ok (x73, x74)))) fun x75=>(Rs.bind (Rs.ok []) fun x76=>(Rs.ok (x75 :: x76)))) fun x72=>(chk (x72.length <= sizeLine) (Rs.ok x72))) fun x60=>(Fx x59 x60))) fun a56=>(Rs.ok (a45, a56))))) else (Rs.ok (g9.1, g9.2)))) fun g78=>(Rs.ok (g78.1, g78.2)))))) fun g79=>(Rs.ok g79.2)))))
noncomputable def Jb (a_0 : Int) (a_1 : Int) : Rs (List Int):=(Rs.bind (Rs.bind (Rs.bind (Rs.bind (Rs.ok (0 : Int)) fun x7=>(Rs.bind (Rs.ok []) fun x8=>(Rs.ok (x7 :: x8)))) fun x6=>(chk (x6.length <= sizeLine) (Rs.ok x6))) fun x4=>(Rs.bind (Rs.ok a_0) fun x5=>(Ui x4 x5))) fun a1=>(Rs.bind (Rs.ok (1 : Int)) fun x9=>(Rs.bind (Rs.ok a_1) fun x10=>(Rs.bind (Qw a1 x10 x9) fun a11=>(Rs.ok a11)))))
noncomputable def YB (a_0 : (List (List Int))) : Rs (List (List Int)):=(Rs.bind (Rs.bind (Rs.ok a_0) fun x1=>(Rs.ok (QU x1))) fun x5=>(Ju x5 (fun a3=>(Rs.bind (Rs.ok a3.2) fun x6=>(Rs.bind (Rs.bind (Rs.bind (Rs.ok a_0) fun x9=>(Rs.ok (x9.length : Int))) fun x10=>(Rs.bind (Rs.ok a3.1) fun x11=>(noE (Jb x10 x11)))) fun x7=>(Fx x6 x7))))))
noncomputable def Yy (a_0 : Int) (a_1 : (List (Int × (List Int)))) (a_2 : Int) (a_3 : Int) : Rs (List Int):=(Rs.bind (Rs.bind (Rs.ok a_2) fun x5=>(Rs.bind (Rs.ok a_0) fun x6=>(noE (Jb x5 x6)))) fun a1=>(Rs.bind (Rs.ok a_1) fun x24=>(Rs.bind (forN x24 (a1) (fun g9 a11=>(Rs.bind (Rs.bind (Rs.bind (Rs.bind (Rs.ok a11.2) fun x13=>(Rs.bind (Rs.ok a_0) fun x14=>(atR x13 x14))) fun x15=>(Rs.ok (-x15))) fun x16=>(Rs.bind (Rs.ok a_3) fun x17=>(ZF x16 x17))) fun x18=>(Rs.bind (Rs.ok a11.1) fun x19=>(Rs.bind (Qw g9 x19 x18) fun a20=>(Rs.ok (a20))))))) fun g22=>(Rs.ok g22))))
noncomputable def Qj (a_0 : ((List (List Int)) × (List (Int × Int)))) (a_1 : Int) (a_2 : Int) : Rs ((List Int) × (List (List Int)) × (List (Int × (List Int)))):=(Rs.bind (Rs.bind (Rs.ok a_0) fun x4=>(noE (YH x4))) fun a1=>(Rs.bind (Rs.bind (Rs.bind (Rs.bind (Rs.ok a_0) fun x10=>(Rs.bind (Rs.ok a_1) fun x11=>(Rs.bind (Rs.ok a_2) fun x12=>(noE (YF x10 x11 x12))))) fun x13=>(noE (YB x13))) fun x14=>(Rs.bind (Rs.ok a1) fun x15=>(Rs.bind (Rs.ok a_1) fun x16=>(noE (Zr x14 x15 x16))))) fun a5=>(Rs.bind (Rs.bind (Rs.ok a5) fun x20=>(Rs.ok (Gv [] x20))) fun a17=>(Rs.bind (Rs.bind (Rs.bind (Rs.ok a1) fun x24=>(KD 0 x24)) fun x28=>(Bs x28 (fun a26=>(Rs.bind (Rs.ok a26) fun x29=>(Rs.bind (Rs.ok a17) fun x30=>(Rs.ok (!(Zf x30 x29).isSome))))) (fun a26=>(Rs.ok a26)))) fun a21=>(Rs.bind (Rs.bind (Rs.ok a21) fun x37=>(Ju x37 (fun a35=>(Rs.bind (Rs.ok a35) fun x40=>(Rs.bind (Rs.ok a17) fun x41=>(Rs.bind (Rs.ok a1) fun x42=>(Rs.bind (Rs.ok a_1) fun x43=>(noE (Yy x40 x41 x42 x43))))))))) fun a31=>(Rs.bind (Rs.ok a21) fun x54=>(Rs.bind (Rs.ok a31) fun x55=>(Rs.bind (Rs.bind (Rs.ok a5) fun x47=>(Ju x47 (fun a45=>(Rs.bind (Rs.ok a45.1) fun x52=>(Rs.bind (Rs.bind (Rs.ok a45.2) fun x49=>(Rs.bind (Rs.bind (Rs.ok a1) fun x48=>(Rs.ok (some x48))) fun x50=>(Rs.bind (Rs.ok none) fun x51=>(Rs.ok (Gq x49 x50 x51))))) fun x53=>(Rs.ok (x52, x53))))))) fun x56=>(Rs.ok (x54, x55, x56))))))))))
noncomputable def J9 (a_0 : (List Int)) (a_1 : Int) : Rs Int:=(Rs.bind (Rs.bind (Rs.ok a_1) fun x2=>(Rs.bind (Rs.bind (Rs.ok a_0) fun x1=>(Rs.ok (x1.length : Int))) fun x3=>(Rs.ok (decide (x2 < x3))))) fun x4=>(if x4 = true then (Rs.bind (Rs.ok a_0) fun x5=>(Rs.bind (Rs.ok a_1) fun x6=>(atR x5 x6))) else (Rs.bind (Rs.ok (5 : Int)) fun a7=>(Rs.bind (Rs.bind (Rs.ok a_0) fun x10=>(Rs.bind (Rs.ok none) fun x11=>(Rs.bind (Rs.bind (Rs.ok (63 : Int)) fun x9=>(Rs.ok (some x9))) fun x12=>(Rs.ok (Gq x10 x11 x12))))) fun x39=>(Rs.bind (forN x39 (a7) (fun g15 a17=>(Rs.bind (Rs.bind (Rs.bind (Rs.bind (Rs.bind (Rs.ok g15) fun x21=>(Rs.bind (Rs.ok (48271 : Int)) fun x22=>(Z1 x21 x22))) fun x25=>(Rs.bind (Rs.bind (Rs.ok a17) fun x23=>(Rs.bind (Rs.ok (1000003 : Int)) fun x24=>(ZF x23 x24))) fun x26=>(Rs.ok (x25 + x26)))) fun x27=>(Rs.bind (Rs.ok (1 : Int)) fun x28=>(Rs.ok (x27 + x28)))) fun x29=>(Rs.bind (Rs.ok (2147483647 : Int)) fun x30=>(ZF x29 x30))) fun a19=>(Rs.ok (a19))))) fun g31=>(Rs.bind (Rs.bind (Rs.ok g31) fun x35=>(Rs.bind (Rs.bind (Rs.ok (7919 : Int)) fun x33=>(Rs.bind (Rs.ok a_1) fun x34=>(Z1 x33 x34))) fun x36=>(Rs.ok (x35 + x36)))) fun x37=>(Rs.bind (Rs.ok (1000003 : Int)) fun x38=>(ZF x37 x38))))))))
noncomputable def U6 (a_0 : Int) (a_1 : Int) : Rs Int:=(Rs.bind (Rs.bind (Rs.bind (Rs.bind (Rs.bind (Rs.bind (Rs.ok a_0) fun x3=>(Rs.bind (Rs.ok (2147483629 : Int)) fun x4=>(ZF x3 x4))) fun x7=>(Rs.bind (Rs.bind (Rs.ok (1013 : Int)) fun x5=>(Rs.bind (Rs.ok a_1) fun x6=>(Z1 x5 x6))) fun x8=>(Rs.ok (x7 + x8)))) fun x9=>(Rs.bind (Rs.ok (7919 : Int)) fun x10=>(Rs.ok (x9 + x10)))) fun x11=>(Rs.bind (Rs.ok (3 : Int)) fun x12=>(EE x11 x12))) fun x13=>(Rs.bind (Rs.ok (2147483647 : Int)) fun x14=>(ZF x13 x14))) fun a1=>(Rs.bind (Rs.bind (Rs.bind (Rs.bind (Rs.bind (Rs.ok a1) fun x17=>(Rs.bind (Rs.ok (40699 : Int)) fun x18=>(Z1 x17 x18))) fun x23=>(Rs.bind (Rs.bind (Rs.bind (Rs.ok (3793 : Int)) fun x19=>(Rs.bind (Rs.ok a_1) fun x20=>(Z1 x19 x20))) fun x21=>(Rs.bind (Rs.ok a_1) fun x22=>(Z1 x21 x22))) fun x24=>(Rs.ok (x23 + x24)))) fun x25=>(Rs.bind (Rs.ok (11 : Int)) fun x26=>(Rs.ok (x25 + x26)))) fun x27=>(Rs.bind (Rs.ok (2147483399 : Int)) fun x28=>(ZF x27 x28))) fun a15=>(Rs.bind (Rs.ok a15) fun x29=>(Rs.bind (Rs.ok (101 : Int)) fun x30=>(ET x29 x30)))))
noncomputable def Ul (a_0 : (List Int)) (a_1 : Int) (a_2 : (List Int)) : Rs (List Int):=(Rs.bind (Rs.bind (Rs.ok a_0) fun x4=>(Rs.bind (Rs.ok a_1) fun x5=>(noE (J9 x4 x5)))) fun a1=>(Rs.bind (Rs.ok a1) fun a6=>(Rs.bind (Rs.ok []) fun a8=>(Rs.bind (Rs.bind (Rs.bind (Rs.ok a_2) fun x11=>(Rs.ok (x11.length : Int))) fun x12=>(KD 0 x12)) fun x81=>(Rs.bind (forN x81 (a8, a6) (fun g15 a17=>(Rs.bind (Rs.bind (Rs.bind (Rs.ok a1) fun x21=>(Rs.bind (Rs.bind (Rs.ok (10 : Int)) fun x19=>(Rs.bind (Rs.ok (18 : Int)) fun x20=>(EE x19 x20))) fun x22=>(Rs.ok (decide (x21 < x22))))) fun x23=>(if x23 = true then (Rs.bind (Rs.bind (Rs.bind (Rs.ok a1) fun x27=>(Rs.bind (Rs.ok a17) fun x28=>(noE (U6 x27 x28)))) fun x31=>(Rs.bind (Rs.bind (Rs.ok a_2) fun x29=>(Rs.bind (Rs.ok a17) fun x30=>(atR x29 x30))) fun x32=>(ZF x31 x32))) fun a33=>(chk (g15.1.length < sizeLine) ((fun a35=>(Rs.ok (a35, g15.2))) (g15.1 ++ [a33])))) else (Rs.bind (Rs.bind (Rs.bind (Rs.ok g15.2) fun x36=>(Rs.bind (Rs.ok (0 : Int)) fun x37=>(Rs.ok (decide (x37 < x36))))) fun x38=>(if x38 = true then (Rs.bind (Rs.bind (Rs.ok g15.2) fun x43=>(Rs.bind (Rs.bind (Rs.ok a_2) fun x41=>(Rs.bind (Rs.ok a17) fun x42=>(atR x41 x42))) fun x44=>(ZF x43 x44))) fun a45=>(chk (g15.1.length < sizeLine) ((fun a47=>(Rs.bind (Rs.bind (Rs.ok g15.2) fun x52=>(Rs.bind (Rs.bind (Rs.ok a_2) fun x50=>(Rs.bind (Rs.ok a17) fun x51=>(atR x50 x51))) fun x53=>(ET x52 x53))) fun a48=>(Rs.ok (a48, a47)))) (g15.1 ++ [a45])))) else (Rs.bind (Rs.bind (Rs.ok a_0) fun x63=>(Rs.bind (Rs.bind (Rs.bind (Rs.bind (Rs.ok a_1) fun x57=>(Rs.bind (Rs.ok (1 : Int)) fun x58=>(Rs.ok (x57 + x58)))) fun x59=>(Rs.bind (Rs.ok a17) fun x60=>(Rs.ok (x59 + x60)))) fun x61=>(Rs.bind (Rs.ok (63 : Int)) fun x62=>(ZF x61 x62))) fun x64=>(noE (J9 x63 x64)))) fun a54=>(Rs.bind (Rs.bind (Rs.bind (Rs.ok a54) fun x66=>(Rs.bind (Rs.ok a17) fun x67=>(noE (U6 x66 x67)))) fun x70=>(Rs.bind (Rs.bind (Rs.ok a_2) fun x68=>(Rs.bind (Rs.ok a17) fun x69=>(atR x68 x69))) fun x71=>(ZF x70 x71))) fun a72=>(chk (g15.1.length < sizeLine) ((fun a74=>(Rs.ok (g15.2, a74))) (g15.1 ++ [a72]))))))) fun g76=>(Rs.ok (g76.2, g76.1))))) fun g78=>(Rs.ok (g78.1, g78.2))))) fun g79=>(Rs.ok g79.1))))))
noncomputable def QX (a_0 : (List Int)) (a_1 : (List Int)) : Rs (List Int):=(Rs.bind (Rs.bind (Rs.ok a_0) fun x4=>(Rs.ok x4)) fun a1=>(Rs.bind (Rs.ok []) fun a5=>(Rs.bind (Rs.bind (Rs.bind (Rs.ok a_0) fun x8=>(Rs.ok (x8.length : Int))) fun x9=>(KD 0 x9)) fun x34=>(Rs.bind (forN x34 (a5, a1) (fun g12 a14=>(Rs.bind (Rs.bind (Rs.bind (Rs.ok a_1) fun x20=>(Rs.bind (Rs.bind (Rs.bind (Rs.ok (8 : Int)) fun x16=>(Rs.bind (Rs.ok a14) fun x17=>(Z1 x16 x17))) fun x18=>(Rs.bind (Rs.ok (9 : Int)) fun x19=>(Rs.ok (x18 + x19)))) fun x21=>(atR x20 x21))) fun x23=>(Rs.bind (Rs.bind (Rs.ok g12.2) fun x22=>(Rs.ok (x22.length : Int))) fun x24=>(ZF x23 x24))) fun x30=>(Rs.bind (Fm g12.2 x30) fun p31=>(chk (g12.1.length < sizeLine) ((fun a26 a27=>(Rs.ok (a27, a26))) p31.2 (g12.1 ++ [p31.1]))))))) fun g32=>(Rs.ok g32.1)))))
noncomputable def Gr (a_0 : (List Int)) (a_1 : (List Int)) (a_2 : Int) : Rs (List (List Int)):=(Rs.bind (Rs.ok []) fun a1=>(Rs.bind (Rs.ok a_0) fun x70=>(Rs.bind (forN x70 (a1) (fun g6 a8=>(Rs.bind (Rs.bind (Rs.bind (Rs.ok a8) fun x14=>(Rs.bind (Rs.bind (Rs.bind (Rs.ok a8) fun x11=>(Rs.ok (-x11))) fun x12=>(Rs.bind (Rs.ok []) fun x13=>(Rs.ok (x12 :: x13)))) fun x15=>(Rs.ok (x14 :: x15)))) fun x10=>(chk (x10.length <= sizeLine) (Rs.ok x10))) fun a16=>(chk (g6.length + a16.length <= sizeLine) ((fun a18=>(Rs.ok (a18))) (g6 ++ a16)))))) fun g19=>(Rs.bind (Rs.bind (Rs.bind (Rs.ok a_2) fun x24=>(KD 0 x24)) fun x28=>(Ju x28 (fun a26=>(Rs.ok [])))) fun a21=>(Rs.bind (Rs.bind (Rs.bind (Rs.ok (2 : Int)) fun x30=>(Rs.bind (Rs.bind (Rs.ok a_0) fun x29=>(Rs.ok (x29.length : Int))) fun x31=>(Z1 x30 x31))) fun x32=>(KD 0 x32)) fun x69=>(Rs.bind (forN x69 (g19, a21) (fun g35 a37=>(Rs.bind (Rs.bind (Rs.bind (Rs.ok (4 : Int)) fun x41=>(Rs.bind (Rs.ok a37) fun x42=>(Z1 x41 x42))) fun x43=>(Rs.bind (Rs.ok (5 : Int)) fun x44=>(Rs.ok (x43 + x44)))) fun a39=>(Rs.bind (Rs.bind (Rs.bind (Rs.ok a_1) fun x45=>(Rs.bind (Rs.ok a39) fun x46=>(atR x45 x46))) fun x48=>(Rs.bind (Rs.bind (Rs.ok g35.1) fun x47=>(Rs.ok (x47.length : Int))) fun x49=>(ZF x48 x49))) fun x54=>(Rs.bind (Fm g35.1 x54) (fun p55=>(fun a50 a51=>(Rs.bind (Rs.bind (Rs.bind (Rs.ok a_1) fun x58=>(Rs.bind (Rs.bind (Rs.ok a39) fun x56=>(Rs.bind (Rs.ok (1 : Int)) fun x57=>(Rs.ok (x56 + x57)))) fun x59=>(atR x58 x59))) fun x60=>(Rs.bind (Rs.ok a_2) fun x61=>(ZF x60 x61))) fun x63=>(Rs.bind (atR g35.2 x63) fun x64=>(Rs.bind (Rs.ok a50) fun x62=>(chk (x64.length < sizeLine) (Rs.bind (Qw g35.2 x63 (x64 ++ [x62])) fun a65=>(Rs.ok (a51, a65)))))))) p55.1 p55.2)))))) fun g67=>(Rs.ok g67.2)))))))
noncomputable def ZI (a_0 : (List Int)) (a_1 : (List (Int × Int))) (a_2 : (List Int)) (a_3 : Int) : Rs (List (List Int)):=(Rs.bind (Rs.bind (Rs.bind (Rs.bind (Rs.ok false) fun x7=>(Rs.bind (Rs.ok []) fun x8=>(Rs.ok (x7 :: x8)))) fun x6=>(chk (x6.length <= sizeLine) (Rs.ok x6))) fun x4=>(Rs.bind (Rs.ok a_3) fun x5=>(Ui x4 x5))) fun a1=>(Rs.bind (Rs.ok []) fun a9=>(Rs.bind (Rs.bind (Rs.ok a_3) fun x12=>(KD 0 x12)) fun x118=>(Rs.bind (forN x118 (a1, a9) (fun g15 a17=>(Rs.bind (Rs.bind (Rs.bind (Rs.bind (Rs.ok g15.1) fun x19=>(Rs.bind (Rs.ok a17) fun x20=>(atR x19 x20))) fun x21=>(Rs.ok (!x21))) fun x22=>(if x22 = true then (Rs.bind (Rs.ok []) fun a25=>(Rs.bind (Rs.ok a17) fun a28=>(Rs.bind (Z5 (a_3.natAbs + 2) (g15.1, a28, a25) (fun g32=>(Rs.bind (Rs.bind (Rs.ok g32.1) fun x34=>(Rs.bind (Rs.ok g32.2.1) fun x35=>(atR x34 x35))) fun x36=>(Rs.ok (!x36)))) (fun g32=>(Rs.bind (Rs.ok true) fun x37=>(Rs.bind (Rs.ok g32.2.1) fun x38=>(Rs.bind (Qw g32.1 x38 x37) fun a39=>(Rs.bind (Rs.bind (Rs.bind (Rs.ok a_0) fun x41=>(Rs.ok (x41.length : Int))) fun x42=>(KD 0 x42)) fun x108=>(Rs.bind (forN x108 (g32.2.1, g32.2.2) (fun g45 a47=>(Rs.bind (Rs.bind (Rs.bind (Rs.ok a_2) fun x55=>(Rs.bind (Rs.bind (Rs.bind (Rs.ok (8 : Int)) fun x51=>(Rs.bind (Rs.ok a47) fun x52=>(Z1 x51 x52))) fun x53=>(Rs.bind (Rs.ok (10 : Int)) fun x54=>(Rs.ok (x53 + x54)))) fun x56=>(atR x55 x56))) fun x59=>(Rs.bind (Rs.bind (Rs.ok a_3) fun x57=>(Rs.bind (Rs.ok (1 : Int)) fun x58=>(Rs.ok (x57 - x58)))) fun x60=>(ZF x59 x60))) fun a49=>(Rs.bind (Rs.bind (Rs.bind (Rs.ok g45.1) fun x61=>(Rs.bind (Rs.ok a49) fun x62=>(Rs.ok (decide (x61 = x62))))) fun x63=>(if x63 = true then (Rs.bind (Rs.bind (Rs.bind (Rs.ok a_0) fun x66=>(Rs.bind (Rs.ok a47) fun x67=>(atR x66 x67))) fun x72=>(Rs.bind (Rs.bind (Rs.ok a_1) fun x70=>(Rs.bind (Rs.bind (Rs.ok a_0) fun x68=>(Rs.bind (Rs.ok a47) fun x69=>(atR x68 x69))) fun x71=>(Vp x70 x71))) fun x73=>(Z1 x72 x73))) fun a74=>(chk (g45.2.length < sizeLine) ((fun a76=>(Rs.bind (Rs.bind (Rs.ok a49) fun x79=>(Rs.bind (Rs.ok (1 : Int)) fun x80=>(Rs.ok (x79 + x80)))) fun a77=>(Rs.ok (a77, a76)))) (g45.2 ++ [a74])))) else (Rs.bind (Rs.bind (Rs.bind (Rs.ok g45.1) fun x83=>(Rs.bind (Rs.bind (Rs.ok a49) fun x81=>(Rs.bind (Rs.ok (1 : Int)) fun x82=>(Rs.ok (x81 + x82)))) fun x84=>(Rs.ok (decide (x83 = x84))))) fun x85=>(if x85 = true then (Rs.bind (Rs.bind (Rs.bind (Rs.bind (Rs.ok a_0) fun x88=>(Rs.bind (Rs.ok a47) fun x89=>(atR x88 x89))) fun x90=>(Rs.ok (-x90))) fun x95=>(Rs.bind (Rs.bind (Rs.ok a_1) fun x93=>(Rs.bind (Rs.bind (Rs.ok a_0) fun x91=>(Rs.bind (Rs.ok a47) fun x92=>(atR x91 x92))) fun x94=>(Vp x93 x94))) fun x96=>(Z1 x95 x96))) fun a97=>(chk (g45.2.length < sizeLine) ((fun a99=>(Rs.bind (Rs.ok a49) fun a100=>(Rs.ok (a100, a99)))) (g45.2 ++ [a97])))) else (Rs.ok (g45.1, g45.2)))) fun g103=>(Rs.ok (g103.1, g103.2))))) fun g105=>(Rs.ok (g105.1, g105.2)))))) fun g106=>(Rs.ok (a39, g106.1, g106.2))))))))) fun g109=>(Rs.bind (Rs.ok g109.2.2) fun a111=>(chk (g15.2.length < sizeLine) ((fun a113=>(Rs.ok (g109.1, a113))) (g15.2 ++ [a111]))))))) else (Rs.ok (g15.1, g15.2)))) fun g115=>(Rs.ok (g115.1, g115.2))))) fun g116=>(Rs.ok g116.2)))))
noncomputable def Qz (a_0 : (List Int)) (a_1 : Int) (a_2 : Int) : Rs ((List (List Int)) × (List (Int × Int))):=(Rs.bind (Rs.bind (Rs.bind (Rs.bind (Rs.ok a_2) fun x4=>(Rs.bind (Rs.ok (1 : Int)) fun x5=>(Rs.ok (x4 + x5)))) fun x14=>(Rs.bind (Rs.bind (Rs.ok (5 : Int)) fun x12=>(Rs.bind (Rs.bind (Rs.ok (4 : Int)) fun x10=>(Rs.bind (Rs.bind (Rs.ok (3 : Int)) fun x8=>(Rs.bind (Rs.bind (Rs.ok (3 : Int)) fun x6=>(Rs.bind (Rs.ok []) fun x7=>(Rs.ok (x6 :: x7)))) fun x9=>(Rs.ok (x8 :: x9)))) fun x11=>(Rs.ok (x10 :: x11)))) fun x13=>(Rs.ok (x12 :: x13)))) fun x15=>(Rs.ok (x14 :: x15)))) fun x3=>(chk (x3.length <= sizeLine) (Rs.ok x3))) fun a1=>(Rs.bind (Rs.bind (Rs.ok a_0) fun x34=>(Rs.bind (Rs.ok a_1) fun x35=>(Rs.bind (Rs.bind (Rs.ok a1) fun x19=>(Rs.bind (Rs.bind (Rs.bind (Rs.bind (Rs.ok (80 : Int)) fun x30=>(Rs.bind (Rs.bind (Rs.ok (5 : Int)) fun x28=>(Rs.bind (Rs.bind (Rs.ok (2 : Int)) fun x26=>(Rs.bind (Rs.bind (Rs.ok (3 : Int)) fun x24=>(Rs.bind (Rs.ok []) fun x25=>(Rs.ok (x24 :: x25)))) fun x27=>(Rs.ok (x26 :: x27)))) fun x29=>(Rs.ok (x28 :: x29)))) fun x31=>(Rs.ok (x30 :: x31)))) fun x23=>(chk (x23.length <= sizeLine) (Rs.ok x23))) fun x21=>(Rs.bind (Rs.bind (Rs.ok (2 : Int)) fun x32=>(Rs.bind (Rs.ok a_2) fun x33=>(Z1 x32 x33))) fun x22=>(Ui x21 x22))) fun x20=>(Fx x19 x20))) fun x36=>(noE (Ul x34 x35 x36))))) fun a16=>(Rs.bind (Rs.ok []) fun a37=>(Rs.bind (Rs.ok []) fun a40=>(Rs.bind (Rs.ok (0 : Int)) fun a43=>(Rs.bind (Rs.bind (Rs.bind (Rs.ok a16) fun x45=>(Rs.bind (Rs.ok (0 : Int)) fun x46=>(atR x45 x46))) fun x47=>(KD 0 x47)) fun x152=>(Rs.bind (forN x152 (a43, a40, a37) (fun g50 a52=>(Rs.bind (Rs.bind (Rs.bind (Rs.ok a16) fun x60=>(Rs.bind (Rs.bind (Rs.bind (Rs.ok (8 : Int)) fun x56=>(Rs.bind (Rs.ok a52) fun x57=>(Z1 x56 x57))) fun x58=>(Rs.bind (Rs.ok (8 : Int)) fun x59=>(Rs.ok (x58 + x59)))) fun x61=>(atR x60 x61))) fun x75=>(Rs.bind (Rs.bind (Rs.bind (Rs.bind (Rs.ok (0 : Int)) fun x69=>(Rs.bind (Rs.bind (Rs.ok (1 : Int)) fun x67=>(Rs.bind (Rs.bind (Rs.bind (Rs.ok (10 : Int)) fun x63=>(Rs.bind (Rs.ok (9 : Int)) fun x64=>(EE x63 x64))) fun x65=>(Rs.bind (Rs.ok []) fun x66=>(Rs.ok (x65 :: x66)))) fun x68=>(Rs.ok (x67 :: x68)))) fun x70=>(Rs.ok (x69 :: x70)))) fun x62=>(chk (x62.length <= sizeLine) (Rs.ok x62))) fun x73=>(Rs.bind (Rs.bind (Rs.ok a16) fun x71=>(Rs.bind (Rs.ok (3 : Int)) fun x72=>(atR x71 x72))) fun x74=>(atR x73 x74))) fun x76=>(Z1 x75 x76))) fun a54=>(Rs.bind (Rs.bind (Rs.bind (Rs.ok g50.1) fun x79=>(Rs.bind (Rs.ok (1 : Int)) fun x80=>(Rs.ok (x79 + x80)))) fun x81=>(Rs.bind (Rs.ok a54) fun x82=>(Rs.ok (x81 + x82)))) fun a77=>(Rs.bind (Rs.ok a77) fun a83=>(chk (g50.2.2.length < sizeLine) ((fun a85=>(Rs.bind (Rs.bind (Rs.bind (Rs.ok (2 : Int)) fun x92=>(Rs.bind (Rs.bind (Rs.ok a16) fun x90=>(Rs.bind (Rs.bind (Rs.bind (Rs.ok (8 : Int)) fun x86=>(Rs.bind (Rs.ok a52) fun x87=>(Z1 x86 x87))) fun x88=>(Rs.bind (Rs.ok (7 : Int)) fun x89=>(Rs.ok (x88 + x89)))) fun x91=>(atR x90 x91))) fun x93=>(Z1 x92 x93))) fun x94=>(Rs.bind (Rs.ok (1 : Int)) fun x95=>(Rs.ok (x94 - x95)))) fun x96=>(Rs.bind (Rs.ok a77) fun x97=>(chk (g50.2.1.length < sizeLine) ((fun a98=>(Rs.ok (a77, a98, a85))) (J6 g50.2.1 x97 x96)))))) (g50.2.2 ++ [a83])))))))) fun g100=>(Rs.bind (Rs.bind (Rs.bind (Rs.bind (Rs.ok a16) fun x102=>(Rs.bind (Rs.ok (2 : Int)) fun x103=>(atR x102 x103))) fun x104=>(Rs.bind (Rs.ok (2 : Int)) fun x105=>(Rs.ok (decide (x104 < x105))))) fun x106=>(if x106 = true then (Rs.bind (Rs.bind (Rs.bind (Rs.ok g100.2.2) fun x114=>(Rs.bind (Rs.ok a16) fun x115=>(noE (QX x114 x115)))) fun x120=>(Rs.bind (Rs.ok g100.2.1) fun x121=>(Rs.bind (Rs.ok a16) fun x122=>(Rs.bind (Rs.bind (Rs.ok (2 : Int)) fun x118=>(Rs.bind (Rs.bind (Rs.ok a16) fun x116=>(Rs.bind (Rs.ok (4 : Int)) fun x117=>(atR x116 x117))) fun x119=>(Rs.ok (x118 + x119)))) fun x123=>(noE (ZI x120 x121 x122 x123)))))) fun a109=>(Rs.ok (a109))) else (Rs.bind (Rs.bind (Rs.bind (Rs.ok a16) fun x126=>(Rs.bind (Rs.ok (1 : Int)) fun x127=>(atR x126 x127))) fun x131=>(Rs.bind (Rs.bind (Rs.bind (Rs.ok g100.2.2) fun x128=>(Rs.ok (x128.length : Int))) fun x129=>(Rs.bind (Rs.ok (1 : Int)) fun x130=>(Rs.ok (min x129 x130)))) fun x132=>(Rs.ok (max x131 x132)))) fun a124=>(Rs.bind (Rs.bind (Rs.ok g100.2.2) fun x137=>(Rs.bind (Rs.ok a16) fun x138=>(Rs.bind (Rs.ok a124) fun x139=>(noE (Gr x137 x138 x139))))) fun a133=>(Rs.ok (a133)))))) fun g141=>(Rs.bind (Rs.ok g141) fun x150=>(Rs.bind (Rs.bind (Rs.ok g100.2.2) fun x145=>(Ju x145 (fun a143=>(Rs.bind (Rs.ok a143) fun x148=>(Rs.bind (Rs.bind (Rs.ok g100.2.1) fun x146=>(Rs.bind (Rs.ok a143) fun x147=>(Vp x146 x147))) fun x149=>(Rs.ok (x148, x149))))))) fun x151=>(Rs.ok (x150, x151))))))))))))
noncomputable def VC (a_0 : ((List (List Int)) × (List (Int × Int)))) : Rs ((List (List Int)) × (List (Int × Int))):=(Rs.bind (Rs.bind (Rs.bind (Rs.ok a_0) fun x1=>(Rs.ok x1.1)) fun x5=>(Ju x5 (fun a3=>(Rs.bind (Rs.ok a3) fun x6=>(Rs.ok x6))))) fun x9=>(Rs.bind (Rs.bind (Rs.bind (Rs.ok a_0) fun x8=>(Rs.ok x8.2)) fun x7=>(Rs.ok x7)) fun x10=>(Rs.ok (x9, x10))))
noncomputable def Qo (a_0 : ((List (List Int)) × (List (Int × Int)))) : Rs Int:=(Rs.bind (Rs.bind (Rs.bind (Rs.ok a_0) fun x3=>(Rs.ok x3.2)) fun x4=>(Rs.ok (x4.length : Int))) fun a1=>(Rs.bind (Rs.bind (Rs.ok a_0) fun x5=>(Rs.ok x5.1)) fun x32=>(Rs.bind (forN x32 (a1) (fun g8 a10=>(Rs.bind (Rs.bind (Rs.bind (Rs.bind (Rs.bind (Rs.ok a10) fun x15=>(Bs x15 (fun a13=>(Rs.bind (Rs.ok a13) fun x16=>(Rs.bind (Rs.ok (0 : Int)) fun x17=>(Rs.ok (decide (x16 < x17)))))) (fun a13=>(Rs.ok a13)))) fun x18=>(Rs.ok (x18.length : Int))) fun x19=>(Rs.bind (Rs.ok (0 : Int)) fun x20=>(Rs.ok (decide (x19 = x20))))) fun x21=>(if x21 = true then (Rs.bind (Rs.bind (Rs.ok g8) fun x26=>(Rs.bind (Rs.ok (1 : Int)) fun x27=>(Rs.ok (x26 + x27)))) fun a24=>(Rs.ok (a24))) else (Rs.ok (g8)))) fun g29=>(Rs.ok (g29))))) fun g30=>(Rs.ok g30))))
noncomputable def Q1 (a_0 : (List Int)) : Rs (Int × Int):=(Rs.bind (Rs.bind (Rs.bind (Rs.ok (2 : Int)) fun x22=>(Rs.bind (Rs.bind (Rs.ok (3 : Int)) fun x20=>(Rs.bind (Rs.bind (Rs.ok (5 : Int)) fun x18=>(Rs.bind (Rs.bind (Rs.ok (7 : Int)) fun x16=>(Rs.bind (Rs.bind (Rs.ok (11 : Int)) fun x14=>(Rs.bind (Rs.bind (Rs.ok (13 : Int)) fun x12=>(Rs.bind (Rs.bind (Rs.ok (23 : Int)) fun x10=>(Rs.bind (Rs.bind (Rs.ok (97 : Int)) fun x8=>(Rs.bind (Rs.bind (Rs.ok (65537 : Int)) fun x6=>(Rs.bind (Rs.bind (Rs.ok (99991 : Int)) fun x4=>(Rs.bind (Rs.ok []) fun x5=>(Rs.ok (x4 :: x5)))) fun x7=>(Rs.ok (x6 :: x7)))) fun x9=>(Rs.ok (x8 :: x9)))) fun x11=>(Rs.ok (x10 :: x11)))) fun x13=>(Rs.ok (x12 :: x13)))) fun x15=>(Rs.ok (x14 :: x15)))) fun x17=>(Rs.ok (x16 :: x17)))) fun x19=>(Rs.ok (x18 :: x19)))) fun x21=>(Rs.ok (x20 :: x21)))) fun x23=>(Rs.ok (x22 :: x23)))) fun x3=>(chk (x3.length <= sizeLine) (Rs.ok x3))) fun a1=>(Rs.bind (Rs.bind (Rs.ok a1) fun x28=>(Rs.bind (Rs.bind (Rs.ok a_0) fun x26=>(Rs.bind (Rs.ok (0 : Int)) fun x27=>(atR x26 x27))) fun x29=>(atR x28 x29))) fun a24=>(Rs.bind (Rs.bind (Rs.ok (1 : Int)) fun x40=>(Rs.bind (Rs.bind (Rs.bind (Rs.ok a_0) fun x32=>(Rs.bind (Rs.ok (1 : Int)) fun x33=>(atR x32 x33))) fun x38=>(Rs.bind (Rs.bind (Rs.ok (1 : Int)) fun x36=>(Rs.bind (Rs.bind (Rs.ok a24) fun x34=>(Rs.bind (Rs.ok (1 : Int)) fun x35=>(Rs.ok (x34 - x35)))) fun x37=>(Rs.ok (max x36 x37)))) fun x39=>(ZF x38 x39))) fun x41=>(Rs.ok (x40 + x41)))) fun a30=>(Rs.bind (Rs.ok a24) fun x64=>(Rs.bind (Rs.bind (Rs.ok a30) fun x62=>(Rs.bind (Rs.bind (Rs.ok a24) fun x60=>(Rs.bind (Rs.bind (Rs.bind (Rs.bind (Rs.ok (0 : Int)) fun x54=>(Rs.bind (Rs.bind (Rs.ok (0 : Int)) fun x52=>(Rs.bind (Rs.bind (Rs.bind (Rs.ok (3 : Int)) fun x43=>(Rs.ok (-x43))) fun x50=>(Rs.bind (Rs.bind (Rs.ok (1 : Int)) fun x48=>(Rs.bind (Rs.bind (Rs.bind (Rs.ok (10 : Int)) fun x44=>(Rs.bind (Rs.ok (50 : Int)) fun x45=>(EE x44 x45))) fun x46=>(Rs.bind (Rs.ok []) fun x47=>(Rs.ok (x46 :: x47)))) fun x49=>(Rs.ok (x48 :: x49)))) fun x51=>(Rs.ok (x50 :: x51)))) fun x53=>(Rs.ok (x52 :: x53)))) fun x55=>(Rs.ok (x54 :: x55)))) fun x42=>(chk (x42.length <= sizeLine) (Rs.ok x42))) fun x58=>(Rs.bind (Rs.bind (Rs.ok a_0) fun x56=>(Rs.bind (Rs.ok (2 : Int)) fun x57=>(atR x56 x57))) fun x59=>(atR x58 x59))) fun x61=>(Z1 x60 x61))) fun x63=>(Rs.ok (x62 + x63)))) fun x65=>(Rs.ok (x64, x65)))))))
noncomputable def Z6 (a_0 : (List (List Int))) (a_1 : (List Int)) (a_2 : Int) : Rs (List Int):=(Rs.bind (Rs.bind (Rs.bind (Rs.bind (Rs.ok (0 : Int)) fun x7=>(Rs.bind (Rs.ok []) fun x8=>(Rs.ok (x7 :: x8)))) fun x6=>(chk (x6.length <= sizeLine) (Rs.ok x6))) fun x4=>(Rs.bind (Rs.ok a_2) fun x5=>(Ui x4 x5))) fun a1=>(Rs.bind (Rs.bind (Rs.bind (Rs.ok a_0) fun x9=>(Rs.ok (x9.length : Int))) fun x10=>(KD 0 x10)) fun x45=>(Rs.bind (forN x45 (a1) (fun g13 a15=>(Rs.bind (Rs.bind (Rs.ok a_2) fun x17=>(KD 0 x17)) fun x42=>(Rs.bind (forN x42 (g13) (fun g20 a22=>(Rs.bind (Rs.bind (Rs.bind (Rs.ok g20) fun x24=>(Rs.bind (Rs.ok a22) fun x25=>(atR x24 x25))) fun x34=>(Rs.bind (Rs.bind (Rs.bind (Rs.ok a_1) fun x26=>(Rs.bind (Rs.ok a15) fun x27=>(atR x26 x27))) fun x32=>(Rs.bind (Rs.bind (Rs.bind (Rs.ok a_0) fun x28=>(Rs.bind (Rs.ok a15) fun x29=>(atR x28 x29))) fun x30=>(Rs.bind (Rs.ok a22) fun x31=>(atR x30 x31))) fun x33=>(Z1 x32 x33))) fun x35=>(Rs.ok (x34 + x35)))) fun x36=>(Rs.bind (Rs.ok a22) fun x37=>(Rs.bind (Qw g20 x37 x36) fun a38=>(Rs.ok (a38))))))) fun g40=>(Rs.ok (g40)))))) fun g43=>(Rs.ok g43))))
noncomputable def Kh (a_0 : (List Int)) : Rs Bool:=(Rs.bind (Rs.bind (Rs.ok a_0) fun x4=>(Rs.bind (Rs.ok (0 : Int)) fun x5=>(Rs.bind (Rs.ok (12 : Int)) fun x6=>(noE (Qz x4 x5 x6))))) fun a1=>(Rs.bind (Rs.bind (Rs.ok a_0) fun x32=>(Rs.bind (Rs.ok (1 : Int)) fun x33=>(Rs.bind (Rs.bind (Rs.bind (Rs.bind (Rs.ok (10 : Int)) fun x21=>(Rs.bind (Rs.bind (Rs.ok (99990 : Int)) fun x19=>(Rs.bind (Rs.bind (Rs.ok (5 : Int)) fun x17=>(Rs.bind (Rs.bind (Rs.ok (20 : Int)) fun x15=>(Rs.bind (Rs.bind (Rs.ok (99990 : Int)) fun x13=>(Rs.bind (Rs.ok []) fun x14=>(Rs.ok (x13 :: x14)))) fun x16=>(Rs.ok (x15 :: x16)))) fun x18=>(Rs.ok (x17 :: x18)))) fun x20=>(Rs.ok (x19 :: x20)))) fun x22=>(Rs.ok (x21 :: x22)))) fun x12=>(chk (x12.length <= sizeLine) (Rs.ok x12))) fun x10=>(Rs.bind (Rs.bind (Rs.bind (Rs.bind (Rs.bind (Rs.ok (10 : Int)) fun x26=>(Rs.bind (Rs.ok (50 : Int)) fun x27=>(EE x26 x27))) fun x30=>(Rs.bind (Rs.bind (Rs.ok (2 : Int)) fun x28=>(Rs.bind (Rs.ok []) fun x29=>(Rs.ok (x28 :: x29)))) fun x31=>(Rs.ok (x30 :: x31)))) fun x25=>(chk (x25.length <= sizeLine) (Rs.ok x25))) fun x23=>(Rs.bind (Rs.ok (17 : Int)) fun x24=>(Ui x23 x24))) fun x11=>(Fx x10 x11))) fun x34=>(noE (Ul x32 x33 x34))))) fun a7=>(Rs.bind (Rs.bind (Rs.ok a7) fun x36=>(noE (Q1 x36))) fun a37=>(Rs.bind (Rs.bind (Rs.ok a1) fun x43=>(noE (VC x43))) fun a40=>(Rs.bind (Rs.bind (Rs.ok a40) fun x45=>(Rs.bind (Rs.ok a37.1) fun x46=>(Rs.bind (Rs.ok a37.2) fun x47=>(noE (Qj x45 x46 x47))))) fun a48=>(Rs.bind (Rs.bind (Rs.ok a1) fun x55=>(noE (Qo x55))) fun a52=>(Rs.bind (Rs.ok []) fun a56=>(Rs.bind (Rs.bind (Rs.bind (Rs.ok a48.1) fun x59=>(Rs.ok (x59.length : Int))) fun x60=>(KD 0 x60)) fun x193=>(Rs.bind (forN x193 (a56) (fun g63 a65=>(Rs.bind (Rs.bind (Rs.bind (Rs.ok a7) fun x71=>(Rs.bind (Rs.bind (Rs.ok (5 : Int)) fun x69=>(Rs.bind (Rs.bind (Rs.ok (2 : Int)) fun x67=>(Rs.bind (Rs.ok a65) fun x68=>(Z1 x67 x68))) fun x70=>(Rs.ok (x69 + x70)))) fun x72=>(atR x71 x72))) fun x83=>(Rs.bind (Rs.bind (Rs.bind (Rs.ok (2 : Int)) fun x79=>(Rs.bind (Rs.bind (Rs.ok a7) fun x77=>(Rs.bind (Rs.bind (Rs.ok (6 : Int)) fun x75=>(Rs.bind (Rs.bind (Rs.ok (2 : Int)) fun x73=>(Rs.bind (Rs.ok a65) fun x74=>(Z1 x73 x74))) fun x76=>(Rs.ok (x75 + x76)))) fun x78=>(atR x77 x78))) fun x80=>(Z1 x79 x80))) fun x81=>(Rs.bind (Rs.ok (1 : Int)) fun x82=>(Rs.ok (x81 - x82)))) fun x84=>(Z1 x83 x84))) fun a85=>(chk (g63.length < sizeLine) ((fun a87=>(Rs.ok (a87))) (g63 ++ [a85])))))) fun g88=>(Rs.bind (Rs.bind (Rs.ok a48.2.1) fun x93=>(Rs.bind (Rs.ok g88) fun x94=>(Rs.bind (Rs.ok a52) fun x95=>(noE (Z6 x93 x94 x95))))) fun a90=>(Rs.bind (Rs.bind (Rs.ok a90) fun x102=>(Ju x102 (fun a100=>(Rs.bind (Rs.ok a100) fun x103=>(Rs.bind (Rs.ok a37.1) fun x104=>(ZF x103 x104)))))) fun a96=>(Rs.bind (Rs.bind (Rs.bind (Rs.ok a40) fun x106=>(Rs.bind (Rs.ok a37.1) fun x107=>(Rs.bind (Rs.ok a37.2) fun x108=>(Rs.bind (Rs.ok a90) fun x109=>(noE (ZV x106 x107 x108 x109)))))) fun x110=>(Rs.ok (!(x110 == true)))) fun x111=>(if x111 = true then (Rs.ok false) else (Rs.bind (Rs.bind (Rs.bind (Rs.ok a40) fun x113=>(Rs.bind (Rs.ok a37.1) fun x114=>(Rs.bind (Rs.ok a37.2) fun x115=>(Rs.bind (Rs.ok a96) fun x116=>(noE (ZV x113 x114 x115 x116)))))) fun x117=>(Rs.ok (!(x117 == true)))) fun x118=>(if x118 = true then (Rs.ok false) else (Rs.bind (Rs.bind (Rs.bind (Rs.bind (Rs.ok a48.2.2) fun x119=>(Rs.ok (x119.length : Int))) fun x120=>(Rs.bind (Rs.ok (0 : Int)) fun x121=>(Rs.ok (decide (x121 < x120))))) fun x122=>(if x122 = true then (Rs.bind (Rs.bind (Rs.bind (Rs.ok a48.2.2) fun x132=>(Rs.bind (Rs.bind (Rs.bind (Rs.ok a7) fun x127=>(Rs.bind (Rs.ok (3 : Int)) fun x128=>(atR x127 x128))) fun x130=>(Rs.bind (Rs.bind (Rs.ok a48.2.2) fun x129=>(Rs.ok (x129.length : Int))) fun x131=>(ZF x130 x131))) fun x133=>(atR x132 x133))) fun x134=>(Rs.ok x134.1)) fun a125=>(Rs.bind (Rs.bind (Rs.bind (Rs.bind (Rs.ok a96) fun x135=>(Rs.bind (Rs.ok a125) fun x136=>(atR x135 x136))) fun x137=>(Rs.bind (Rs.ok (1 : Int)) fun x138=>(Rs.ok (x137 + x138)))) fun x145=>(Rs.bind (Rs.bind (Rs.bind (Rs.ok a7) fun x139=>(Rs.bind (Rs.ok (4 : Int)) fun x140=>(atR x139 x140))) fun x143=>(Rs.bind (Rs.bind (Rs.ok a37.1) fun x141=>(Rs.bind (Rs.ok (1 : Int)) fun x142=>(Rs.ok (x141 - x142)))) fun x144=>(ZF x143 x144))) fun x146=>(Rs.ok (x145 + x146)))) fun x147=>(Rs.bind (Rs.ok a125) fun x148=>(Rs.bind (Qw a96 x148 x147) fun a149=>(Rs.bind (Rs.bind (Rs.bind (Rs.ok a40) fun x152=>(Rs.bind (Rs.ok a37.1) fun x153=>(Rs.bind (Rs.ok a37.2) fun x154=>(Rs.bind (Rs.ok a149) fun x155=>(noE (ZV x152 x153 x154 x155)))))) fun x156=>(Rs.ok (!(x156 == false)))) fun x157=>(if x157 = true then (Rs.bind (Rs.ok false) fun x159=>(Rs.ok (Ctl.ret x159))) else (Rs.bind (Rs.ok ()) fun x158=>(Rs.ok (Ctl.nx x158))))))))) else (Rs.bind (Rs.ok ()) fun x160=>(Rs.ok (Ctl.nx x160))))) (Ql fun g162=>(Rs.bind (Rs.bind (Rs.ok a48.2.1) fun x172=>(Rs.bind (Rs.bind (Rs.bind (Rs.bind (Rs.ok (1 : Int)) fun x169=>(Rs.bind (Rs.ok []) fun x170=>(Rs.ok (x169 :: x170)))) fun x168=>(chk (x168.length <= sizeLine) (Rs.ok x168))) fun x166=>(Rs.bind (Rs.bind (Rs.ok a48.2.1) fun x171=>(Rs.ok (x171.length : Int))) fun x167=>(Ui x166 x167))) fun x173=>(Rs.bind (Rs.ok a52) fun x174=>(noE (Z6 x172 x173 x174))))) fun a163=>(Rs.bind (Rs.ok a163) fun x192=>(Rs.bind (forC x192 () (fun g177 a179=>(Rs.bind (Rs.bind (Rs.bind (Rs.ok a179) fun x181=>(Rs.bind (Rs.ok a37.1) fun x182=>(ZF x181 x182))) fun x183=>(Rs.bind (Rs.ok (1 : Int)) fun x184=>(Rs.ok (!(decide (x183 = x184)))))) fun x185=>(if x185 = true then (Rs.bind (Rs.ok false) fun x187=>(Rs.ok (Ctl.ret x187))) else (Rs.bind (Rs.ok ()) fun x186=>(Rs.ok (Ctl.nx x186))))))) (Ql fun g188=>(Rs.bind (Rs.ok a40) fun x190=>(Rs.bind (Rs.ok a1) fun x191=>(Rs.ok (decide (x190 = x191))))))))))))))))))))))))))
end My
namespace L2
open PySem
section
variable {α β γ ρ : Type}
theorem Rs.okb (a : α) (f : α -> Rs β) : (Rs.ok a).bind f = f a:=(Eq.refl (f a)).symm.symm
theorem De {f : α -> Rs β} {h : α -> β} : ∀ {as : List α}, (∀ a ∈ as, f a = .ok (h a)) -> GP as f = .ok (as.map h)
  | [], _=>rfl
  | a :: as, hf=>by
    show (f a).bind _ = _
    rw [hf a (by simp), Rs.ok_bind, De fun b hb=>hf b (by simp [hb])]; rfl
theorem YV {f : α -> Rs β} {h : α -> β} {as : List α} (hl : as.length <= sizeLine) (hf : ∀ a ∈ as, f a = .ok (h a)) : Ju as f = .ok (as.map h):=by
  unfold Ju; rw [Xw hl]; exact De hf
theorem F9 {c : α -> Rs Bool} {f : α -> Rs β} {p : α -> Bool} {h : α -> β} : ∀ {as : List α}, (∀ a ∈ as, c a = .ok (p a)) -> (∀ a ∈ as, p a = true -> f a = .ok (h a)) -> Gd as c f = .ok ((as.filter p).map h)
  | [], _, _=>rfl
  | a :: as, hc, hf=>by
    show (c a).bind _ = _
    rw [hc a (by simp), Rs.ok_bind]
    have ih:=F9 (as:=as) (fun b hb=>hc b (by simp [hb])) fun b hb=>hf b (by simp [hb])
    cases hp : p a with
    | false=>rw [if_neg (by simp), ih, List.filter_cons, hp]; rfl
    | true=>rw [if_pos rfl, hf a (by simp) hp, Rs.ok_bind, ih, List.filter_cons, hp]; rfl
theorem V9 {c : α -> Rs Bool} {f : α -> Rs β} {p : α -> Bool} {h : α -> β} {as : List α} (hl : as.length <= sizeLine) (hc : ∀ a ∈ as, c a = .ok (p a)) (hf : ∀ a ∈ as, p a = true -> f a = .ok (h a)) : Bs as c f = .ok ((as.filter p).map h):=by
  unfold Bs; rw [Xw hl]; exact F9 hc hf
theorem UI {f : γ -> α -> Rs γ} (P : Nat -> γ -> Prop) : ∀ (as : List α) (k : Nat) (g : γ), P k g -> (∀ i a g, as[i]? = some a -> P (k + i) g -> ∃ g', f g a = .ok g' /\ P (k + i + 1) g') -> ∃ g', forN as g f = .ok g' /\ P (k + as.length) g'
  | [], k, g, h0, _=>⟨g, rfl, h0⟩
  | a :: as, k, g, h0, hs=>by
    obtain ⟨g1, e1, p1⟩:=hs 0 a g rfl h0
    obtain ⟨g2, e2, p2⟩:=UI P as (k + 1) g1 p1 fun i b g hb hp=>by
      obtain ⟨g', e', p'⟩:=hs (i + 1) b g (by simpa using hb) (by rw [show k + (i + 1) = k + 1 + i by omega]; exact hp)
      exact ⟨g', e', by rw [show k + 1 + i + 1 = k + (i + 1) + 1 by omega]; exact p'⟩
    refine ⟨g2, ?_, by rw [List.length_cons, show k + (as.length + 1) = k + 1 + as.length by omega]; exact p2⟩
    show (f g a).bind _ = _
    rw [e1, Rs.ok_bind]; exact e2
theorem K9 {f : γ -> α -> Rs γ} (P : Nat -> γ -> Prop) {as : List α} {g : γ} (h0 : P 0 g) (hs : ∀ i a g, as[i]? = some a -> P i g -> ∃ g', f g a = .ok g' /\ P (i + 1) g') : ∃ g', forN as g f = .ok g' /\ P as.length g':=by
  have:=UI P as 0 g h0 (by simpa using hs)
  simpa using this
theorem Qe {f : List β -> α -> Rs (List β)} {h : α -> β} : ∀ {as : List α} {g : List β}, g.length + as.length <= sizeLine -> (∀ g : List β, g.length < sizeLine -> ∀ a ∈ as, f g a = .ok (g ++ [h a])) -> forN as g f = .ok (g ++ as.map h)
  | [], g, _, _=>by simp [forN]
  | a :: as, g, hl, hf=>by
    show (f g a).bind _ = _
    rw [List.length_cons] at hl
    rw [hf g (by omega) a (by simp), Rs.ok_bind, Qe (by simp; omega) fun g hg b hb=>hf g hg b (by simp [hb])]
    simp
theorem Gi {f : γ -> α -> Rs (Ctl ρ γ)} : ∀ {as : List α} {g : γ}, (∀ a ∈ as, f g a = .ok (.nx g)) -> forC as g f = .ok (.nx g)
  | [], _, _=>rfl
  | a :: as, g, hf=>by
    show (f g a).bind _ = _
    rw [hf a (by simp), Rs.ok_bind]
    exact Gi fun b hb=>hf b (by simp [hb])
theorem UC {f : γ -> α -> Rs (Ctl ρ γ)} (P : Nat -> γ -> Prop) : ∀ (as : List α) (k : Nat) (g : γ), P k g -> (∀ i a g, as[i]? = some a -> P (k + i) g -> ∃ g', f g a = .ok (.nx g') /\ P (k + i + 1) g') -> ∃ g', forC as g f = .ok (.nx g') /\ P (k + as.length) g'
  | [], k, g, h0, _=>⟨g, rfl, h0⟩
  | a :: as, k, g, h0, hs=>by
    obtain ⟨g1, e1, p1⟩:=hs 0 a g rfl h0
    obtain ⟨g2, e2, p2⟩:=UC P as (k + 1) g1 p1 fun i b g hb hp=>by
      obtain ⟨g', e', p'⟩:=hs (i + 1) b g (by simpa using hb) (by rw [show k + (i + 1) = k + 1 + i by omega]; exact hp)
      exact ⟨g', e', by rw [show k + 1 + i + 1 = k + (i + 1) + 1 by omega]; exact p'⟩
    refine ⟨g2, ?_, by rw [List.length_cons, show k + (as.length + 1) = k + 1 + as.length by omega]; exact p2⟩
    show (f g a).bind _ = _
    rw [e1, Rs.ok_bind]; exact e2
theorem DS {f : γ -> α -> Rs (Ctl ρ γ)} (P : Nat -> γ -> Prop) {as : List α} {g : γ} (h0 : P 0 g) (hs : ∀ i a g, as[i]? = some a -> P i g -> ∃ g', f g a = .ok (.nx g') /\ P (i + 1) g') : ∃ g', forC as g f = .ok (.nx g') /\ P as.length g':=by
  have:=UC P as 0 g h0 (by simpa using hs)
  simpa using this
theorem X6 {a b : Int} (h : 0 < b) : ZF a b = .ok (a % b):=Xw h
theorem Yp {a b : Int} (h1 : -(2 ^ 64) < a) (h2 : a < 2 ^ 64) : Z1 a b = .ok (a * b):=Xw (.inl ⟨h1, h2⟩)
theorem Qx {a b : Int} (h1 : -(2 ^ 64) < b) (h2 : b < 2 ^ 64) : Z1 a b = .ok (a * b):=Xw (.inr ⟨h1, h2⟩)
theorem Be {a b : Int} (h : 0 < b) (h2 : b < 2 ^ 250) : ET a b = .ok (a / b):=Xw ⟨h, by
  have h3 : b.natAbs < 2 ^ 250:=by omega
  rcases Nat.eq_zero_or_pos b.natAbs with h0 | h0
  . omega
  . have := (Nat.log2_lt (by omega)).mpr h3
    omega⟩
theorem UW {a b : Int} (h0 : 0 <= b) (h1 : b <= 1000000) (h2 : -(2 ^ 64) < a) (h3 : a < 2 ^ 64) : EE a b = .ok (a ^ b.toNat):=Xw ⟨h0, h1, by omega⟩
theorem Zv {as : List α} {i : Nat} {a : α} (h : as[i]? = some a) : atR as (i : Int) = .ok a:=by
  have hlt:=(List.getElem?_eq_some_iff.mp h).1
  unfold atR atI ixN
  rw [if_pos (by omega), if_pos (by omega)]
  simp [h]
theorem Hx {as : List α} {i : Int} {a : α} (h0 : 0 <= i) (h : as[i.toNat]? = some a) : atR as i = .ok a:=by
  have : i = (i.toNat : Int):=by omega
  rw [this]; exact Zv h
theorem ZX {n : Nat} (h : n < 2 ^ 62) : KD 0 (n : Int) = .ok ((List.range n).map fun (i : Nat)=>(i : Int)):=by
  unfold KD
  rw [Xw (by omega)]
  unfold QH
  congr 1
  rw [Int.sub_zero, Int.toNat_natCast]
  exact List.map_congr_left fun i _=>by omega
theorem Y2 {n i : Nat} {a : Int} (h : ((List.range n).map fun (i : Nat)=>(i : Int))[i]? = some a) : a = (i : Int) /\ i < n:=by
  have hlt:=(List.getElem?_eq_some_iff.mp h).1
  simp only [List.length_map, List.length_range] at hlt
  rw [List.getElem?_map, List.getElem?_range hlt] at h
  exact ⟨(Option.some.inj h).symm, hlt⟩
theorem Us {n : Nat} {a : Int} (h : a ∈ (List.range n).map fun (i : Nat)=>(i : Int)) : ∃ i : Nat, i < n /\ a = (i : Int):=by
  obtain ⟨i, hi, rfl⟩:=List.mem_map.mp h
  exact ⟨i, List.mem_range.mp hi, rfl⟩
theorem Y9 {n : Nat} : ((List.range n).map fun (i : Nat)=>(i : Int)).length = n:=by simp
theorem sz {n : Nat} (h : n <= 100000) : n <= sizeLine:=Nat.le_trans h (by decide)
theorem Cv {n : Nat} (h : n <= 100000) : n < sizeLine:=Nat.lt_of_le_of_lt h (by decide)
noncomputable def Ok (m : Rs β) (R : β -> Prop) : Prop:=∃ r, m = .ok r /\ R r
theorem Ok.pure {R : β -> Prop} {a : β} (h : R a) : Ok (.ok a) R:=⟨a, rfl, h⟩
theorem Ok.bind {m : Rs α} {f : α -> Rs β} {R : α -> Prop} {T : β -> Prop} (h : Ok m R) (hf : ∀ a, R a -> Ok (f a) T) : Ok (m.bind f) T:=by
  obtain ⟨a, e, ha⟩:=h
  rw [e]; exact hf a ha
theorem Ok.imp {m : Rs α} {R T : α -> Prop} (h : Ok m R) (hf : ∀ a, R a -> T a) : Ok m T:=by
  obtain ⟨a, e, ha⟩:=h
  exact ⟨a, e, hf a ha⟩
theorem Ok.noE {m : Rs α} {R : α -> Prop} (h : Ok m R) : Ok (noE m) R:=by
  obtain ⟨a, e, ha⟩:=h
  rw [e]; exact ⟨a, rfl, ha⟩
theorem Ok.chk {c : Prop} [Decidable c] {m : Rs α} {R : α -> Prop} (hc : c) (h : Ok m R) : Ok (chk c m) R:=by rw [Xw hc]; exact h
theorem Ok.ite {b : Bool} {m n : Rs α} {R : α -> Prop} (h1 : b = true -> Ok m R) (h2 : b = false -> Ok n R) : Ok (if b = true then m else n) R:=by
  cases b with
  | true=>rw [if_pos rfl]; exact h1 rfl
  | false=>rw [if_neg Bool.false_ne_true]; exact h2 rfl
theorem Ok.forN {f : γ -> α -> Rs γ} (P : Nat -> γ -> Prop) {as : List α} {g : γ} (h0 : P 0 g) (hs : ∀ i a g, as[i]? = some a -> P i g -> Ok (f g a) (P (i + 1))) : Ok (forN as g f) (P as.length):=K9 P h0 hs
theorem Ok.forC {f : γ -> α -> Rs (Ctl ρ γ)} (P : Nat -> γ -> Prop) {as : List α} {g : γ} (h0 : P 0 g) (hs : ∀ i a g, as[i]? = some a -> P i g -> ∃ g', f g a = .ok (.nx g') /\ P (i + 1) g') : Ok (forC as g f) (fun c=>∃ g', c = .nx g' /\ P as.length g'):=by
  obtain ⟨g', e, h⟩:=DS P h0 hs
  exact ⟨_, e, g', rfl, h⟩
theorem VJ {f : γ -> Rs ρ} (g : γ) : Ql f (.nx g) = f g:=(Eq.refl (f g)).symm.symm
theorem FE {f : γ -> Rs ρ} (r : ρ) : Ql f (.ret r) = .ok r:=(Eq.refl (Rs.ok r)).symm.symm
theorem XE (a : α) : noE (Rs.ok a) = .ok a:=(Eq.refl (Rs.ok a)).symm.symm
theorem Ok.of {m : Rs α} {a : α} (h : m = .ok a) : Ok m (fun b=>b = a):=⟨a, h, rfl⟩
theorem Ok.eq {m : Rs α} {a : α} (h : Ok m (fun b=>b = a)) : m = .ok a:=by
  obtain ⟨b, e, rfl⟩:=h
  exact e
end
end L2
namespace My
structure Col (n : Nat) (f : Nat -> Nat -> Nat) : Prop where
  lt : ∀ a b, a < n -> b < n -> f a b < n
  r2 : ∀ x y b, x < n -> y < n -> b < n -> f x b = f y b -> x = y
structure GoodF (n : Nat) (f : Nat -> Nat -> Nat) : Prop extends Col n f where
  r1 : ∀ a, a < n -> f a a = a
  r3 : ∀ a b c, a < n -> b < n -> c < n -> f (f a b) c = f (f a c) (f b c)
theorem GoodF.congr {n : Nat} {f g : Nat -> Nat -> Nat} (h : GoodF n f) (e : ∀ a b, a < n -> b < n -> g a b = f a b) : GoodF n g where
  lt a b ha hb:=by rw [e a b ha hb]; exact h.lt a b ha hb
  r2 x y b hx hy hb q:=by rw [e x b hx hb, e y b hy hb] at q; exact h.r2 x y b hx hy hb q
  r1 a ha:=by rw [e a a ha ha]; exact h.r1 a ha
  r3 a b c ha hb hc:=by
    rw [e a b ha hb, e a c ha hc, e b c hb hc, e _ c (h.lt a b ha hb) hc, e _ _ (h.lt a c ha hc) (h.lt b c hb hc)]
    exact h.r3 a b c ha hb hc
structure PermN (n : Nat) (p q : Nat -> Nat) : Prop where
  lt : ∀ a, a < n -> p a < n
  qlt : ∀ a, a < n -> q a < n
  pq : ∀ a, a < n -> p (q a) = a
  qp : ∀ a, a < n -> q (p a) = a
end My
namespace My
open PySem L2
theorem Qy {α : Type} {as : List α} {i : Nat} {a : α} (h : i < as.length) : Qw as (i : Int) a = .ok (as.set i a):=by
  unfold Qw ixN
  rw [if_pos (by omega), if_pos (by omega)]
  simp
noncomputable def Bh (n : Nat) (sp : List Int) (p q : Nat -> Nat) : Prop:=PermN n p q /\ sp = (List.range n).map fun i=>((p i : Nat) : Int)
theorem Bh.get {n : Nat} {sp : List Int} {p q : Nat -> Nat} (h : Bh n sp p q) {i : Nat} (hi : i < n) : atR sp (i : Int) = .ok ((p i : Nat) : Int):=Zv (by rw [h.2, List.getElem?_map, List.getElem?_range hi]; rfl)
theorem Bj {as : List Int} {i : Nat} (h : i < as.length) (hl : as.length <= 100000) : Fm as (i : Int) = .ok (as[i], as.eraseIdx i):=by
  unfold Fm
  rw [Xw (by omega)]
  have e : seqIndex? (i : Int) as.length = some i:=by
    unfold seqIndex?
    have h0 : ¬ ((i : Int) < 0):=by omega
    simp [h0, h]
  rw [e]
  simp [h]
theorem Vx : ∀ {as : List Int} {i : Nat} (h : i < as.length), (as[i] :: as.eraseIdx i).Perm as
  | a :: as, 0, _=>by simp
  | a :: as, i + 1, h=>by
    have:=Vx (as:=as) (i:=i) (by simpa using h)
    simp only [List.getElem_cons_succ, List.eraseIdx_cons_succ]
    exact (List.Perm.swap _ _ _).trans (this.cons a)
theorem CW {α : Type} (as : List α) {k : Nat} (h : k <= as.length) : Gq as (some (k : Int)) none = as.drop k:=by
  unfold Gq
  rw [HT.sIx_nat, HT.sIx_none, Nat.min_eq_left h, List.take_of_length_le (by rw [List.length_drop]; omega)]
end My
namespace My
theorem Z9 (names : List Int) : (names.flatMap fun x=>[x, -x]).length = 2 * names.length:=by
  induction names with
  | nil=>rfl
  | cons x r ih=>rw [List.flatMap_cons, List.length_append, ih]; simp; omega
theorem QZ {α : Type} : ∀ {l : List α} {k : Nat} {y : α}, l[k]? = some y -> (y :: l.eraseIdx k).Perm l
  | [], _, _, e=>by simp at e
  | a :: r, 0, y, e=>by
    have e' : a = y:=by simpa using e
    subst e'; exact List.Perm.refl _
  | a :: r, k + 1, y, e=>by
    have e' : r[k]? = some y:=by simpa using e
    show (y :: a :: r.eraseIdx k).Perm (a :: r)
    exact (List.Perm.swap a y _).trans (List.Perm.cons a (QZ e'))
theorem Uj {α : Type} {l : List α} {k : Nat} {y : α} (e : l[k]? = some y) : (l.eraseIdx k).length + 1 = l.length:=by
  have:=(QZ e).length_eq
  simpa using this
theorem Gb {α : Type} : ∀ {ws : List (List α)} {j : Nat} {w : List α} {y : α}, ws[j]? = some w -> ((ws.set j (w ++ [y])).flatten).Perm (y :: ws.flatten)
  | [], _, _, _, e=>by simp at e
  | a :: r, 0, w, y, e=>by
    have e' : a = w:=by simpa using e
    subst e'
    show ((a ++ [y]) ++ r.flatten).Perm (y :: (a ++ r.flatten))
    rw [List.append_assoc]
    exact List.perm_middle
  | a :: r, j + 1, w, y, e=>by
    have e' : r[j]? = some w:=by simpa using e
    show (a ++ (r.set j (w ++ [y])).flatten).Perm (y :: (a ++ r.flatten))
    exact (List.Perm.append_left a (Gb e')).trans List.perm_middle
theorem FN {α : Type} {ws : List (List α)} {j k : Nat} {w l : List α} {y : α} (e : ws[j]? = some w) (e3 : l[k]? = some y) : ((ws.set j (w ++ [y])).flatten ++ l.eraseIdx k).Perm (ws.flatten ++ l):=by
  refine ((Gb (y:=y) e).append_right _).trans ?_
  rw [List.cons_append]
  refine List.perm_middle.symm.trans ?_
  exact List.Perm.append_left _ (QZ e3)
theorem mem_set {α : Type} : ∀ {l : List α} {j : Nat} {v x : α}, x ∈ l.set j v -> x ∈ l ∨ x = v
  | [], _, _, _, h=>by simp at h
  | a :: r, 0, v, x, h=>by
    rw [List.set_cons_zero] at h
    rcases List.mem_cons.mp h with h | h
    . exact .inr h
    . exact .inl (List.mem_cons_of_mem _ h)
  | a :: r, j + 1, v, x, h=>by
    rw [List.set_cons_succ] at h
    rcases List.mem_cons.mp h with h | h
    . exact .inl (by rw [h]; exact List.mem_cons_self)
    . rcases mem_set h with h | h
      . exact .inl (List.mem_cons_of_mem _ h)
      . exact .inr h
theorem Uy : ∀ {l : List Bool} {j : Nat}, l[j]? = some false -> (l.set j true).count false + 1 = l.count false
  | [], _, e=>by simp at e
  | a :: r, 0, e=>by
    have e' : a = false:=by simpa using e
    subst e'; simp
  | a :: r, j + 1, e=>by
    have e' : r[j]? = some false:=by simpa using e
    have ih:=Uy e'
    rw [List.set_cons_succ, List.count_cons, List.count_cons]
    omega
end My
namespace My
noncomputable def U8 (r : Int × Int) (at' : Int) : List Int:=if at' = r.1 then [r.2] else if at' = r.1 + 1 then [-r.2] else []
noncomputable def Vv (r : Int × Int) (at' : Int) : Int:=if at' = r.1 then r.1 + 1 else if at' = r.1 + 1 then r.1 else at'
noncomputable def CY : List (Int × Int) -> Int -> Int
  | [], a=>a
  | r :: rs, a=>CY rs (Vv r a)
noncomputable def Ki : List (Int × Int) -> Int -> List Int
  | [], _=>[]
  | r :: rs, a=>U8 r a ++ Ki rs (Vv r a)
theorem Dm (rs : List (Int × Int)) (r : Int × Int) : ∀ a, CY (rs ++ [r]) a = Vv r (CY rs a):=by
  induction rs with
  | nil=>intro a; rfl
  | cons q rs ih=>intro a; exact ih _
theorem F3 (rs : List (Int × Int)) (r : Int × Int) : ∀ a, Ki (rs ++ [r]) a = Ki rs a ++ U8 r (CY rs a):=by
  induction rs with
  | nil=>intro a; simp [Ki, CY]
  | cons q rs ih=>intro a; simp [Ki, CY, ih]
theorem Kj {S : Int} {r : Int × Int} {a : Int} (h0 : 0 <= r.1) (h1 : r.1 + 1 < S) (a0 : 0 <= a) (a1 : a < S) : 0 <= Vv r a /\ Vv r a < S:=by
  unfold Vv
  split
  . omega
  . split <;> omega
noncomputable def GO (S : Nat) : List Int:=(List.range S).map fun (k : Nat)=>(k : Int)
theorem Qh {S : Nat} {x : Int} : x ∈ GO S ↔ 0 <= x /\ x < (S : Int):=by
  unfold GO
  rw [List.mem_map]
  constructor
  . rintro ⟨k, hk, rfl⟩
    have:=List.mem_range.mp hk
    omega
  . rintro ⟨h0, h1⟩
    exact ⟨x.toNat, List.mem_range.mpr (by omega), by omega⟩
theorem ZO {α β : Type} {f : α -> β} : ∀ {l : List α}, (∀ a b, a ∈ l -> b ∈ l -> f a = f b -> a = b) -> l.Nodup -> (l.map f).Nodup
  | [], _, _=>List.nodup_nil
  | a :: r, h, nd=>by
    rw [List.map_cons, List.nodup_cons]
    refine ⟨fun m=>?_, ZO (fun x y hx hy=>h x y (List.mem_cons_of_mem _ hx) (List.mem_cons_of_mem _ hy)) (List.nodup_cons.mp nd).2⟩
    obtain ⟨b, hb, e⟩:=List.mem_map.mp m
    have:=h b a (List.mem_cons_of_mem _ hb) List.mem_cons_self e
    exact (List.nodup_cons.mp nd).1 (by rw [← this]; exact hb)
theorem Qg (S : Nat) : (GO S).Nodup:=ZO (fun a b _ _ e=>by omega) List.nodup_range
theorem QT {α : Type} [DecidableEq α] : ∀ {l m : List α}, l.Nodup -> m.Nodup -> (∀ x, x ∈ l ↔ x ∈ m) -> l.Perm m
  | [], m, _, _, h=>by
    cases m with
    | nil=>exact List.Perm.refl _
    | cons a r=>exact absurd ((h a).mpr List.mem_cons_self) (by simp)
  | a :: r, m, nl, nm, h=>by
    have ha : a ∈ m:=(h a).mp List.mem_cons_self
    have hp : m.Perm (a :: m.erase a):=List.perm_cons_erase ha
    refine List.Perm.trans (List.Perm.cons a ?_) hp.symm
    have nd2 : (a :: m.erase a).Nodup:=hp.nodup_iff.mp nm
    refine QT (List.nodup_cons.mp nl).2 (List.nodup_cons.mp nd2).2 fun x=>?_
    constructor
    . intro hx
      have hxa : x ≠ a:=fun e=>(List.nodup_cons.mp nl).1 (by rw [← e]; exact hx)
      have : x ∈ a :: m.erase a:=hp.mem_iff.mp ((h x).mp (List.mem_cons_of_mem _ hx))
      exact (List.mem_cons.mp this).resolve_left hxa
    . intro hx
      have hxa : x ≠ a:=fun e=>(List.nodup_cons.mp nd2).1 (e ▸ hx)
      have : x ∈ a :: r:=(h x).mpr (hp.mem_iff.mpr (List.mem_cons_of_mem _ hx))
      exact (List.mem_cons.mp this).resolve_left hxa
theorem Fp {S : Nat} {r : Int × Int} (h0 : 0 <= r.1) (h1 : r.1 + 1 < (S : Int)) : ((GO S).map (Vv r)).Perm (GO S):=by
  refine QT (ZO (fun a b _ _ e=>?_) (Qg S)) (Qg S) fun x=>?_
  . unfold Vv at e
    split at e <;> split at e <;> (try split at e) <;> (try split at e) <;> omega
  . rw [List.mem_map, Qh]
    constructor
    . rintro ⟨a, ha, rfl⟩
      have:=Qh.mp ha
      exact Kj h0 h1 this.1 this.2
    . rintro ⟨x0, x1⟩
      refine ⟨Vv r x, Qh.mpr (Kj h0 h1 x0 x1), ?_⟩
      unfold Vv
      split <;> (try split) <;> (try split) <;> omega
theorem Zx {α β : Type} (f : α -> List β) {l m : List α} (h : l.Perm m) : (l.flatMap f).Perm (m.flatMap f):=by
  induction h with
  | nil=>exact List.Perm.refl _
  | cons x _ ih=>rw [List.flatMap_cons, List.flatMap_cons]; exact List.Perm.append_left _ ih
  | swap x y l=>
    rw [List.flatMap_cons, List.flatMap_cons, List.flatMap_cons, List.flatMap_cons, ← List.append_assoc, ← List.append_assoc]
    exact List.Perm.append_right _ List.perm_append_comm
  | trans _ _ ih1 ih2=>exact ih1.trans ih2
theorem J8 {α β : Type} (f g : α -> List β) : ∀ l : List α, (l.flatMap fun x=>f x ++ g x).Perm (l.flatMap f ++ l.flatMap g)
  | []=>List.Perm.refl _
  | a :: r=>by
    rw [List.flatMap_cons, List.flatMap_cons, List.flatMap_cons]
    refine (List.Perm.append_left _ (J8 f g r)).trans ?_
    rw [List.append_assoc, List.append_assoc]
    refine List.Perm.append_left _ ?_
    rw [← List.append_assoc, ← List.append_assoc]
    exact List.Perm.append_right _ List.perm_append_comm
theorem Qp {α β : Type} (f : α -> List β) : ∀ {l : List α}, (∀ x ∈ l, f x = []) -> l.flatMap f = []
  | [], _=>rfl
  | a :: r, h=>by rw [List.flatMap_cons, h a List.mem_cons_self, Qp f fun x hx=>h x (List.mem_cons_of_mem _ hx)]; rfl
theorem CB {S : Nat} {r : Int × Int} (h0 : 0 <= r.1) (h1 : r.1 + 1 < (S : Int)) : ((GO S).flatMap (U8 r)).Perm [r.2, -r.2]:=by
  have ha : r.1 ∈ GO S:=Qh.mpr ⟨h0, by omega⟩
  have hp:=List.perm_cons_erase ha
  have nd:=hp.nodup_iff.mp (Qg S)
  have hb : r.1 + 1 ∈ (GO S).erase r.1:=by
    have : r.1 + 1 ∈ r.1 :: (GO S).erase r.1:=hp.mem_iff.mp (Qh.mpr ⟨by omega, h1⟩)
    exact (List.mem_cons.mp this).resolve_left (by omega)
  have hq:=List.perm_cons_erase hb
  have nd2:=hq.nodup_iff.mp (List.nodup_cons.mp nd).2
  refine (Zx _ (hp.trans (List.Perm.cons _ hq))).trans ?_
  rw [List.flatMap_cons, List.flatMap_cons, Qp]
  . unfold U8
    rw [if_pos rfl, if_neg (by omega), if_pos rfl]
    exact List.Perm.refl _
  . intro x hx
    have x2 : x ≠ r.1 + 1:=fun e=>(List.nodup_cons.mp nd2).1 (e ▸ hx)
    have x1 : x ≠ r.1:=fun e=>(List.nodup_cons.mp nd).1 (e ▸ hq.mem_iff.mpr (List.mem_cons_of_mem _ hx))
    unfold U8
    rw [if_neg x1, if_neg x2]
theorem QE {α β γ : Type} (f : α -> β) (g : β -> List γ) (l : List α) : (l.map f).flatMap g = l.flatMap fun x=>g (f x):=by
  induction l with
  | nil=>rfl
  | cons a r ih=>rw [List.map_cons, List.flatMap_cons, List.flatMap_cons, ih]
theorem K0 {S : Nat} : ∀ {rs : List (Int × Int)}, (∀ r ∈ rs, 0 <= r.1 /\ r.1 + 1 < (S : Int)) -> ((GO S).flatMap (Ki rs)).Perm (rs.flatMap fun r=>[r.2, -r.2])
  | [], _=>by rw [Qp (Ki []) (fun x _=>rfl)]; exact List.Perm.refl _
  | r :: rs, h=>by
    obtain ⟨h0, h1⟩:=h r List.mem_cons_self
    rw [List.flatMap_cons]
    refine (J8 (U8 r) (fun a=>Ki rs (Vv r a)) (GO S)).trans ?_
    refine List.Perm.append (CB h0 h1) ?_
    rw [← QE (Vv r) (Ki rs)]
    exact (Zx _ (Fp h0 h1)).trans (K0 fun q hq=>h q (List.mem_cons_of_mem _ hq))
theorem B5 {x s : Int} (h : s = 1 ∨ s = -1) : [x * s, -(x * s)].Perm [x, -x]:=by
  rcases h with h | h
  . subst h; simp
  . subst h
    have e1 : x * -1 = -x:=by omega
    have e2 : -(-x) = x:=by omega
    rw [e1, e2]
    exact List.Perm.swap _ _ _
theorem QP {α β : Type} {f g : α -> List β} : ∀ {l : List α}, (∀ x ∈ l, (f x).Perm (g x)) -> (l.flatMap f).Perm (l.flatMap g)
  | [], _=>List.Perm.refl _
  | a :: r, h=>by
    rw [List.flatMap_cons, List.flatMap_cons]
    exact List.Perm.append (h a List.mem_cons_self) (QP fun x hx=>h x (List.mem_cons_of_mem _ hx))
end My
namespace My
theorem B2 {r : Int × Int} {a : Int} (h : a = r.1) : U8 r a = [r.2]:=by unfold U8; rw [if_pos h]
theorem Ex {r : Int × Int} {a : Int} (h : a = r.1 + 1) : U8 r a = [-r.2]:=by unfold U8; rw [if_neg (by omega), if_pos h]
theorem B0 {r : Int × Int} {a : Int} (h : ¬ a = r.1) (h2 : ¬ a = r.1 + 1) : U8 r a = []:=by unfold U8; rw [if_neg h, if_neg h2]
theorem Ep {r : Int × Int} {a : Int} (h : a = r.1) : Vv r a = r.1 + 1:=by unfold Vv; rw [if_pos h]
theorem BU {r : Int × Int} {a : Int} (h : a = r.1 + 1) : Vv r a = r.1:=by unfold Vv; rw [if_neg (by omega), if_pos h]
theorem BQ {r : Int × Int} {a : Int} (h : ¬ a = r.1) (h2 : ¬ a = r.1 + 1) : Vv r a = a:=by unfold Vv; rw [if_neg h, if_neg h2]
structure Done (S : Int) (seen : List Bool) (ps : List Int) : Prop where
  nd : ps.Nodup
  at' : ∀ p ∈ ps, 0 <= p /\ p < S /\ seen[p.toNat]? = some true
  of : ∀ q : Nat, seen[q]? = some true -> (q : Int) ∈ ps
theorem Done.none (S : Int) (n : Nat) : Done S (List.replicate n false) []:=
  ⟨List.nodup_nil, fun p h=>by simp at h, fun q h=>by
    rw [List.getElem?_replicate] at h
    split at h <;> cases h⟩
theorem VO {l : List Bool} {j q : Nat} (h : l[q]? = some true) : (l.set j true)[q]? = some true:=by
  by_cases e : j = q
  . subst e
    rw [List.getElem?_set_self (List.getElem?_eq_some_iff.mp h).1]
  . rw [List.getElem?_set_ne e]; exact h
theorem Done.snoc {S : Int} {seen : List Bool} {ps : List Int} {a : Int} (h : Done S seen ps) (a0 : 0 <= a) (a1 : a < S) (e : seen[a.toNat]? = some false) : Done S (seen.set a.toNat true) (ps ++ [a]):=by
  have hl : a.toNat < seen.length:=(List.getElem?_eq_some_iff.mp e).1
  have hn : a ∉ ps:=fun m=>by
    have:=(h.at' a m).2.2
    rw [e] at this; cases this
  refine ⟨?_, fun p hp=>?_, fun q hq=>?_⟩
  . rw [List.nodup_append]
    refine ⟨h.nd, by simp, fun x hx y hy=>?_⟩
    rw [List.mem_singleton.mp hy]
    exact fun e=>hn (e ▸ hx)
  . rcases List.mem_append.mp hp with hp | hp
    . obtain ⟨h1, h2, h3⟩ := h.at' p hp
      exact ⟨h1, h2, VO h3⟩
    . rw [List.mem_singleton.mp hp]
      exact ⟨a0, a1, by rw [List.getElem?_set_self hl]⟩
  . by_cases hqa : a.toNat = q
    . exact List.mem_append_right _ (List.mem_singleton.mpr (by omega))
    . rw [List.getElem?_set_ne hqa] at hq
      exact List.mem_append_left _ (h.of q hq)
theorem Done.all {S : Int} {seen : List Bool} {ps : List Int} (h : Done S seen ps) (hl : seen.length = S.toNat) (h0 : 0 <= S) (ha : ∀ q : Nat, q < S.toNat -> seen[q]? = some true) : ps.Perm (GO S.toNat):=by
  refine QT h.nd (Qg _) fun x=>?_
  rw [Qh]
  constructor
  . intro hx
    obtain ⟨h1, h2, _⟩:=h.at' x hx
    omega
  . rintro ⟨x0, x1⟩
    have:=h.of x.toNat (ha x.toNat (by omega))
    rw [show ((x.toNat : Nat) : Int) = x by omega] at this
    exact this
theorem KZ {seen : List Bool} {i : Nat} (h : ∀ q : Nat, q < i -> seen[q]? = some true) (hi : seen[i]? = some true) : ∀ q : Nat, q < i + 1 -> seen[q]? = some true:=fun q hq=>by
  by_cases e : q = i
  . subst e; exact hi
  . exact h q (by omega)
end My
namespace My
open PySem L2
theorem G3 (ns : List Int) {p : Int} (hp : 0 <= p) : ∃ c, J9 ns p = .ok c:=by
  unfold J9
  simp only [Rs.okb]
  by_cases h : p < (ns.length : Int)
  . rw [decide_eq_true h, if_pos rfl]
    have hl : p.toNat < ns.length:=by omega
    exact ⟨ns[p.toNat], Hx hp (by simp [hl])⟩
  . rw [decide_eq_false h, if_neg Bool.false_ne_true]
    obtain ⟨g, e, _⟩:=K9 (as:=Gq ns none (some 63)) (g:=(5 : Int)) (f:=fun g15 a17=>(Rs.bind (Rs.bind (Rs.bind (Rs.bind (Z1 g15 48271) fun x25=>(Rs.bind (ZF a17 1000003) fun x26=>(Rs.ok (x25 + x26)))) fun x27=>Rs.ok (x27 + 1)) fun x29=>ZF x29 2147483647) fun a19=>(Rs.ok (a19)))) (fun _ _=>True) True.intro fun i a g _ _=>by
      rw [Qx (by decide) (by decide), Rs.ok_bind, X6 (by decide), Rs.ok_bind, Rs.ok_bind, Rs.ok_bind, X6 (by decide), Rs.ok_bind]
      exact ⟨_, rfl, True.intro⟩
    rw [e, Rs.ok_bind, Yp (by decide) (by decide), Rs.ok_bind, Rs.ok_bind, X6 (by decide)]
    exact ⟨_, rfl⟩
theorem Bd (c : Int) {k : Int} (h0 : 0 <= k) (h1 : k <= 100000) : ∃ y, U6 c k = .ok y /\ 0 <= y:=by
  unfold U6
  simp only [Rs.okb]
  have hm : 0 <= c % 2147483629 /\ c % 2147483629 < 2147483629:=⟨Int.emod_nonneg _ (by decide), Int.emod_lt_of_pos _ (by decide)⟩
  rw [X6 (by decide), Rs.ok_bind, Yp (by decide) (by decide), Rs.ok_bind, Rs.ok_bind, Rs.ok_bind, UW (by decide) (by decide) (by omega) (by omega), Rs.ok_bind, X6 (by decide), Rs.ok_bind]
  rw [Qx (by decide) (by decide), Rs.ok_bind, Yp (by decide) (by decide), Rs.ok_bind, Qx (by omega) (by omega), Rs.ok_bind, Rs.ok_bind, Rs.ok_bind, X6 (by decide), Rs.ok_bind, Be (by decide) (by decide)]
  exact ⟨_, rfl, Int.ediv_nonneg (Int.emod_nonneg _ (by decide)) (by decide)⟩
theorem Bb (ns : List Int) {p : Int} (hp : 0 <= p) (sizes : List Int) (hl : sizes.length <= 100000) (hs : ∀ x ∈ sizes, 0 < x /\ x < 2 ^ 250) :
    Ok (Ul ns p sizes) fun r=>r.length = sizes.length /\ ∀ (i : Nat) x s, r[i]? = some x -> sizes[i]? = some s -> 0 <= x /\ x < s:=by
  obtain ⟨c, ec⟩:=G3 ns hp
  unfold Ul
  simp only [Rs.okb]
  rw [ec, show noE (Rs.ok c) = .ok c from rfl, Rs.ok_bind, ZX (by omega), Rs.ok_bind, UW (by decide) (by decide) (by decide) (by decide)]
  simp only [Rs.okb]
  have key : ∀ (i : Nat) (a : Int) (g : List Int × Int), ((List.range sizes.length).map fun (i : Nat)=>(i : Int))[i]? = some a -> (g.1.length = i /\ ∀ (j : Nat) x s, g.1[j]? = some x -> sizes[j]? = some s -> 0 <= x /\ x < s) -> ∀ y z : Int, ∀ s, sizes[i]? = some s -> 0 <= y /\ y < s -> ((g.1 ++ [y], z).1.length = i + 1 /\ ∀ (j : Nat) x s, (g.1 ++ [y], z).1[j]? = some x -> sizes[j]? = some s -> 0 <= x /\ x < s):=by
    intro i a g ha ⟨hg, hq⟩ y z s hs1 hy
    refine ⟨by simp [hg], fun j x s' hx hs'=>?_⟩
    have hx : (g.1 ++ [y])[j]? = some x:=hx
    rcases Nat.lt_trichotomy j i with hj | hj | hj
    . rw [List.getElem?_append_left (by omega)] at hx; exact hq j x s' hx hs'
    . subst hj
      rw [List.getElem?_append_right (by omega), hg, Nat.sub_self] at hx
      have : y = x:=by simpa using hx
      rw [hs1] at hs'
      cases hs'
      rw [← this]; exact hy
    . rw [List.getElem?_eq_none (by simp; omega)] at hx; cases hx
  refine Ok.bind (Ok.forN (fun i (g : List Int × Int)=>g.1.length = i /\ ∀ (j : Nat) x s, g.1[j]? = some x -> sizes[j]? = some s -> 0 <= x /\ x < s) ⟨rfl, fun j x s h _=>by simp at h⟩ fun i a g ha hg=>?_) (T:=fun (r : List Int)=>r.length = sizes.length /\ ∀ (i : Nat) x s, r[i]? = some x -> sizes[i]? = some s -> 0 <= x /\ x < s) fun g ⟨hg, hq⟩=>?_
  . obtain ⟨rfl, hi⟩ := Y2 ha
    have hsz : sizes[i]? = some sizes[i]:=by simp [hi]
    have hsp:=hs _ (List.getElem_mem hi)
    have hgl : g.1.length < sizeLine:=Cv (by have:=hg.1; omega)
    by_cases hc : c < 10 ^ (18 : Int).toNat
    . rw [decide_eq_true hc, if_pos rfl]
      obtain ⟨y, ey, hy⟩:=Bd c (k:=(i : Int)) (by omega) (by omega)
      rw [ey, show noE (Rs.ok y) = .ok y from rfl, Rs.ok_bind, Zv hsz, Rs.ok_bind, X6 hsp.1, Rs.ok_bind, Xw hgl]
      exact ⟨_, rfl, key i _ g ha hg _ _ _ hsz ⟨Int.emod_nonneg _ (by omega), Int.emod_lt_of_pos _ hsp.1⟩⟩
    . rw [decide_eq_false hc, if_neg Bool.false_ne_true]
      by_cases hq : 0 < g.2
      . rw [decide_eq_true hq, if_pos rfl, Zv hsz, Rs.ok_bind, X6 hsp.1, Rs.ok_bind, Xw hgl]
        simp only [Rs.okb]
        rw [Be hsp.1 hsp.2]
        exact ⟨_, rfl, key i _ g ha hg _ _ _ hsz ⟨Int.emod_nonneg _ (by omega), Int.emod_lt_of_pos _ hsp.1⟩⟩
      . rw [decide_eq_false hq, if_neg Bool.false_ne_true, X6 (by decide), Rs.ok_bind]
        obtain ⟨c2, ec2⟩:=G3 ns (p:=(p + 1 + (i : Int)) % 63) (Int.emod_nonneg _ (by decide))
        obtain ⟨y, ey, hy⟩:=Bd c2 (k:=(i : Int)) (by omega) (by omega)
        rw [ec2, show noE (Rs.ok c2) = .ok c2 from rfl, Rs.ok_bind, ey, show noE (Rs.ok y) = .ok y from rfl, Rs.ok_bind, Zv hsz, Rs.ok_bind, X6 hsp.1, Rs.ok_bind, Xw hgl]
        exact ⟨_, rfl, key i _ g ha hg _ _ _ hsz ⟨Int.emod_nonneg _ (by omega), Int.emod_lt_of_pos _ hsp.1⟩⟩
  . rw [Y9] at hg
    exact ⟨g.1, rfl, hg, hq⟩
end My
namespace My
open PySem L2
theorem Yw {α : Type} {r : List α} {k : Int} {n : Nat} (e : k = (n : Int)) (h : n < r.length) : atR r k = .ok r[n]:=by
  subst e; exact Zv (by simp [h])
theorem KI {γ : Type} {c : γ -> Rs Bool} {f : γ -> Rs γ} (P : γ -> Prop) (μ : γ -> Nat) (hs : ∀ g, P g -> ∃ b, c g = .ok b /\ (b = true -> Ok (f g) fun g'=>P g' /\ μ g' < μ g)) : ∀ (n : Nat) (g : γ), P g -> μ g < n -> Ok (Z5 n g c f) fun g'=>P g' /\ c g' = .ok false
  | 0, _, _, h=>by omega
  | n + 1, g, hp, hm=>by
    obtain ⟨b, hb, h⟩:=hs g hp
    show Ok ((c g).bind _) _
    rw [hb, Rs.okb]
    cases b with
    | false=>rw [if_neg Bool.false_ne_true]; exact ⟨g, rfl, hp, hb⟩
    | true=>
      rw [if_pos rfl]
      exact Ok.bind (h rfl) fun g' h'=>KI P μ hs n g' h'.1 (by omega)
theorem Cm {ns r : List Int} (hl : ns.length <= 100) (hr : 8 * ns.length + 3 <= r.length) : Ok (QX ns r) fun l=>l.Perm ns:=by
  unfold QX
  simp only [Rs.okb]
  rw [ZX (by omega)]
  simp only [Rs.okb]
  refine Ok.bind (Ok.forN (fun i (g : List Int × List Int)=>g.1.length = i /\ (g.1 ++ g.2).Perm ns) ⟨rfl, List.Perm.refl _⟩ fun i a g ha hg=>?_) fun g hg=>?_
  . obtain ⟨rfl, hi⟩ := Y2 ha
    obtain ⟨h1, h2⟩:=hg
    have hl:=h2.length_eq
    simp only [List.length_append] at hl
    rw [Yp (by decide) (by decide)]
    simp only [Rs.okb]
    rw [Yw (r:=r) (n:=8 * i + 9) (by omega) (by omega)]
    simp only [Rs.okb]
    have hpos : (0 : Int) < (g.2.length : Int):=by omega
    generalize r[8 * i + 9] = y
    have hm1:=Int.emod_nonneg y (show (g.2.length : Int) ≠ 0 by omega)
    have hm2:=Int.emod_lt_of_pos y hpos
    rw [X6 hpos, Rs.okb]
    generalize hk : y % (g.2.length : Int) = k at hm1 hm2
    obtain ⟨j, rfl⟩ : ∃ j : Nat, k = j:=⟨k.toNat, by omega⟩
    have hj : j < g.2.length:=by omega
    rw [Bj hj (by omega), Rs.okb, Xw (Cv (by omega))]
    refine ⟨_, rfl, by simp [h1], ?_⟩
    refine List.Perm.trans ?_ h2
    show ((g.1 ++ [g.2[j]]) ++ g.2.eraseIdx j).Perm (g.1 ++ g.2)
    rw [List.append_assoc]
    exact (Vx hj).append_left _
  . obtain ⟨h1, h2⟩ := hg
    rw [Y9] at h1
    have hl:=h2.length_eq
    simp only [List.length_append] at hl
    have : g.2 = []:=List.length_eq_zero_iff.mp (by omega)
    rw [this, List.append_nil] at h2
    exact ⟨_, rfl, h2⟩
theorem HE {ns r : List Int} {rings : Nat} (hl : ns.length <= 100) (hr : 8 * ns.length + 3 <= r.length) (hg : ns ≠ [] -> 1 <= rings) (hg2 : rings <= 100) : Ok (Gr ns r (rings : Int)) fun ws=>ws.length = rings /\ ws.flatten.Perm (ns.flatMap fun x=>[x, -x]):=by
  unfold Gr
  simp only [Rs.okb]
  refine Ok.bind (Ok.forN (fun i (g : List Int)=>g = (ns.take i).flatMap fun x=>[x, -x]) rfl fun i a g ha hg=>?_) fun g hgg=>?_
  . have hi := (List.getElem?_eq_some_iff.mp ha).1
    subst hg
    rw [Xw (show [a, -a].length <= sizeLine from sz (by simp)), Rs.okb, Xw (sz (by rw [Z9]; simp; omega))]
    refine ⟨_, rfl, ?_⟩
    rw [List.take_add_one, ha]
    simp
  rw [List.take_length] at hgg
  subst hgg
  rw [ZX (by omega)]
  simp only [Rs.okb]
  rw [YV (h:=fun _=>([] : List Int)) (sz (by simp; omega)) fun _ _=>rfl]
  simp only [Rs.okb]
  rw [Yp (by decide) (by decide), Rs.okb, show (2 : Int) * (ns.length : Int) = ((2 * ns.length : Nat) : Int) by omega, ZX (by omega)]
  simp only [Rs.okb]
  refine Ok.bind (Ok.forN (fun i (g : List Int × List (List Int))=>g.2.length = rings /\ g.1.length + i = 2 * ns.length /\ (∀ w ∈ g.2, w.length <= i) /\ (g.2.flatten ++ g.1).Perm (ns.flatMap fun x=>[x, -x])) ⟨by simp, by rw [Z9]; rfl, fun w hw=>?_, ?_⟩ fun i a g ha hg=>?_) fun g hg=>?_
  . obtain ⟨_, _, rfl⟩ := List.mem_map.mp hw
    exact Nat.zero_le _
  . have : ∀ l : List Int, (l.map fun _ => ([] : List Int)).flatten = [] := fun l => by simp
    rw [this]; exact List.Perm.refl _
  . obtain ⟨rfl, hi⟩ := Y2 ha
    obtain ⟨h1, h2, h3, h4⟩:=hg
    have hne : 1 <= rings:=by
      refine ‹ns ≠ [] -> 1 <= rings› fun e=>?_
      rw [e] at hi; simp at hi
    rw [Yp (by decide) (by decide)]
    simp only [Rs.okb]
    rw [Yw (r:=r) (n:=4 * i + 5) (by omega) (by omega)]
    simp only [Rs.okb]
    have hpos : (0 : Int) < (g.1.length : Int):=by omega
    generalize r[4 * i + 5] = y
    have hm1:=Int.emod_nonneg y (show (g.1.length : Int) ≠ 0 by omega)
    have hm2:=Int.emod_lt_of_pos y hpos
    rw [X6 hpos, Rs.okb]
    generalize hk : y % (g.1.length : Int) = k at hm1 hm2
    obtain ⟨j, rfl⟩ : ∃ j : Nat, k = j:=⟨k.toNat, by omega⟩
    have hj : j < g.1.length:=by omega
    rw [Bj hj (by omega), Rs.okb]
    simp only [Rs.okb]
    rw [Yw (r:=r) (n:=4 * i + 6) (by omega) (by omega)]
    simp only [Rs.okb]
    generalize r[4 * i + 6] = y2
    have hp2 : (0 : Int) < (rings : Int):=by omega
    have hn1:=Int.emod_nonneg y2 (show (rings : Int) ≠ 0 by omega)
    have hn2:=Int.emod_lt_of_pos y2 hp2
    rw [X6 hp2, Rs.okb]
    generalize hk2 : y2 % (rings : Int) = k2 at hn1 hn2
    obtain ⟨q, rfl⟩ : ∃ q : Nat, k2 = q:=⟨k2.toNat, by omega⟩
    have hq : q < g.2.length:=by omega
    have hw:=h3 g.2[q] (List.getElem_mem hq)
    rw [Yw (n:=q) rfl hq, Rs.okb, Xw (Cv (by omega)), Qy hq, Rs.okb]
    have hjs : g.1[j]? = some g.1[j]:=by simp [hj]
    have hqs : g.2[q]? = some g.2[q]:=by simp [hq]
    refine ⟨_, rfl, by simp [h1], ?_, fun w hw'=>?_, (FN hqs hjs).trans h4⟩
    . have := Uj hjs
      show (g.1.eraseIdx j).length + (i + 1) = _
      omega
    . rcases mem_set hw' with h | h
      . have:=h3 w h; omega
      . rw [h]; simp; omega
  . obtain ⟨h1, h2, h3, h4⟩ := hg
    rw [Y9] at h2
    have : g.1 = []:=List.length_eq_zero_iff.mp (by omega)
    rw [this, List.append_nil] at h4
    exact ⟨_, rfl, h1, h4⟩
noncomputable def J3 (ns r : List Int) (sg : Int -> Int) (S : Int) : List (Int × Int):=(List.range ns.length).map fun k=>(r.getD (8 * k + 10) 0 % (S - 1), ns.getD k 0 * sg (ns.getD k 0))
theorem Gn {ns r : List Int} {sg : Int -> Int} {S : Int} {k : Nat} (h : k < ns.length) (h2 : 8 * k + 10 < r.length) : (J3 ns r sg S)[k]? = some (r[8 * k + 10] % (S - 1), ns[k] * sg ns[k]):=by
  unfold J3
  rw [List.getElem?_map, List.getElem?_range h]
  simp [h, h2]
theorem Gu {ns r : List Int} {d : List (Int × Int)} {sg : Int -> Int} {S : Nat} (hl : ns.length <= 100) (hr : 8 * ns.length + 3 <= r.length) (hd : ∀ x ∈ ns, Zf d x = some (sg x)) (hs : ∀ x ∈ ns, sg x = 1 ∨ sg x = -1) (h2 : 2 <= S) (h4 : S <= 100) : Ok (ZI ns d r (S : Int)) fun ws=>ws.length <= S /\ ws.flatten.Perm (ns.flatMap fun x=>[x, -x]):=by
  have hrs : ∀ q ∈ J3 ns r sg (S : Int), 0 <= q.1 /\ q.1 + 1 < (S : Int):=fun q hq=>by
    obtain ⟨k, _, rfl⟩:=List.mem_map.mp hq
    have hp : (0 : Int) < (S : Int) - 1:=by omega
    have hm1:=Int.emod_nonneg (r.getD (8 * k + 10) 0) (show ((S : Int) - 1) ≠ 0 by omega)
    have hm2:=Int.emod_lt_of_pos (r.getD (8 * k + 10) 0) hp
    show 0 <= _ % _ /\ _ % _ + 1 < _
    omega
  have hrl : (J3 ns r sg (S : Int)).length = ns.length:=by simp [J3]
  have hin : ∀ (rs : List (Int × Int)), (∀ q ∈ rs, 0 <= q.1 /\ q.1 + 1 < (S : Int)) -> ∀ a : Int, 0 <= a -> a < (S : Int) -> 0 <= CY rs a /\ CY rs a < (S : Int):=by
    intro rs
    induction rs with
    | nil=>intro _ a h0 h1; exact ⟨h0, h1⟩
    | cons q rs ih=>
      intro hq a h0 h1
      have h:=Kj (hq q (by simp)).1 (hq q (by simp)).2 h0 h1
      exact ih (fun x hx=>hq x (by simp [hx])) _ h.1 h.2
  have hcl : ∀ (rs : List (Int × Int)) (a : Int), (Ki rs a).length <= rs.length:=by
    intro rs
    induction rs with
    | nil=>intro a; exact Nat.le_refl _
    | cons q rs ih=>
      intro a
      show (U8 q a ++ Ki rs (Vv q a)).length <= _
      have h1 : (U8 q a).length <= 1:=by
        unfold U8
        split
        . simp
        . split <;> simp
      have:=ih (Vv q a)
      simp only [List.length_append, List.length_cons]
      omega
  unfold ZI
  simp only [Rs.okb]
  rw [Xw (show [false].length <= sizeLine from sz (by simp)), Rs.okb, show Ui [false] (S : Int) = .ok (List.replicate S false) from ?_]
  rotate_left
  . unfold Ui
    rw [Xw ⟨by omega, by omega, sz (by simp; omega)⟩, Int.toNat_natCast]
    congr 1
    clear h2 h4 hrs hin hrl
    induction S with
    | zero=>rfl
    | succ n ih=>rw [List.replicate_succ, List.flatten_cons, ih, List.replicate_succ]; rfl
  rw [Rs.okb, ZX (by omega), Rs.okb]
  generalize hR : J3 ns r sg (S : Int) = rs at hrs hrl
  refine Ok.bind (Ok.forN (fun i (g : List Bool × List (List Int))=>g.1.length = S /\ g.2.length <= i /\ (∀ q : Nat, q < i -> g.1[q]? = some true) /\ ∃ ps, Done (S : Int) g.1 ps /\ g.2.flatten = ps.flatMap (Ki rs)) ⟨by simp, Nat.le_refl _, fun q hq=>by omega, [], Done.none _ _, rfl⟩ fun i a g ha hg=>?_) fun g hg=>?_
  . obtain ⟨rfl, hi⟩ := Y2 ha
    obtain ⟨g1, g2, g3, ps, g4, g5⟩:=hg
    have hi1 : i < g.1.length:=by omega
    rw [Yw (n:=i) rfl hi1]
    simp only [Rs.okb]
    cases hb : g.1[i] with
    | true=>
      rw [show (!true) = false from rfl, if_neg Bool.false_ne_true]
      simp only [Rs.okb]
      exact ⟨_, rfl, g1, by show g.2.length <= _; omega, KZ g3 (by simp [hi1, hb]), ps, g4, g5⟩
    | false=>
      rw [show (!false) = true from rfl, if_pos rfl]
      refine Ok.bind (R:=fun g' : List Bool × List (List Int)=>g'.1.length = S /\ g'.2.length <= i + 1 /\ (∀ q : Nat, q < i + 1 -> g'.1[q]? = some true) /\ ∃ ps, Done (S : Int) g'.1 ps /\ g'.2.flatten = ps.flatMap (Ki rs)) (Ok.bind (KI (fun g' : List Bool × Int × List Int=>g'.1.length = S /\ 0 <= g'.2.1 /\ g'.2.1 < (S : Int) /\ (∀ q : Nat, g.1[q]? = some true -> g'.1[q]? = some true) /\ ((g'.2.1 = (i : Int) /\ g'.1[i]? = some false) ∨ g'.1[i]? = some true) /\ g'.2.2.length + 100 * g'.1.count false <= 100 * S /\ ∃ qs, Done (S : Int) g'.1 (ps ++ qs) /\ g'.2.2 = qs.flatMap (Ki rs)) (fun g'=>g'.1.count false) (fun g' hg'=>?_) _ (g.1, (i : Int), []) ⟨g1, by show (0 : Int) <= (i : Int); omega, by show (i : Int) < (S : Int); omega, fun q h=>h, .inl ⟨rfl, by simp [hi1, hb]⟩, by
        have : g.1.count false <= g.1.length:=List.count_le_length
        show 0 + 100 * g.1.count false <= 100 * S
        omega, [], by rw [List.append_nil]; exact g4, rfl⟩ ?_) fun g' hg'=>?_) fun g' hg'=>?_
      . obtain ⟨w1, w2, w3, w4, w5, w8, qs, w6, w7⟩ := hg'
        obtain ⟨p, hp⟩ : ∃ p : Nat, g'.2.1 = (p : Int):=⟨g'.2.1.toNat, by omega⟩
        have hpl : p < g'.1.length:=by omega
        rw [Yw hp hpl]
        refine ⟨_, rfl, fun hf=>?_⟩
        have hf' : g'.1[p] = false:=by simpa using hf
        have hfs : g'.1[p]? = some false:=by simp [hpl, hf']
        rw [hp, Qy hpl]
        simp only [Rs.okb]
        rw [ZX (by omega)]
        simp only [Rs.okb]
        refine Ok.bind (Ok.forN (fun k (h : Int × List Int)=>h.1 = CY (rs.take k) (p : Int) /\ h.2 = g'.2.2 ++ Ki (rs.take k) (p : Int)) ⟨rfl, by rw [List.take_zero]; exact (List.append_nil _).symm⟩ fun k b h hb' hh=>?_) fun h hh=>?_
        . obtain ⟨rfl, hk⟩ := Y2 hb'
          obtain ⟨e1, e2⟩:=hh
          have hq:=Gn (sg:=sg) (S:=(S : Int)) hk (show 8 * k + 10 < r.length by omega)
          rw [hR] at hq
          have hts : rs.take (k + 1) = rs.take k ++ [(r[8 * k + 10] % ((S : Int) - 1), ns[k] * sg ns[k])]:=by rw [List.take_add_one, hq]; rfl
          rw [hts, Dm, F3, ← e1]
          rw [Yp (by decide) (by decide)]
          simp only [Rs.okb]
          rw [Yw (r:=r) (n:=8 * k + 10) (by omega) (by omega)]
          simp only [Rs.okb]
          rw [X6 (by omega)]
          simp only [Rs.okb]
          rw [Yw (r:=ns) (n:=k) rfl hk]
          simp only [Rs.okb]
          have hgd : Vp d ns[k] = .ok (sg ns[k]):=by unfold Vp; rw [hd _ (List.getElem_mem hk)]; rfl
          have hsg:=hs _ (List.getElem_mem hk)
          rw [hgd]
          simp only [Rs.okb]
          rw [Qx (a:=ns[k]) (by omega) (by omega), Qx (a:=-ns[k]) (by omega) (by omega)]
          simp only [Rs.okb]
          have hlen : h.2.length < sizeLine:=Cv (by
            have:=hcl (rs.take k) (p : Int)
            rw [List.length_take] at this
            rw [e2, List.length_append]; omega)
          rw [Xw hlen, Xw hlen]
          generalize r[8 * k + 10] % ((S : Int) - 1) = low
          by_cases c1 : h.1 = low
          . rw [if_pos (decide_eq_true c1)]
            simp only [Rs.okb]
            refine ⟨_, rfl, ?_, ?_⟩
            . rw [Ep c1]
            . rw [B2 c1, e2, List.append_assoc]
          . rw [if_neg (by rw [decide_eq_false c1]; exact Bool.false_ne_true)]
            by_cases c2 : h.1 = low + 1
            . rw [if_pos (decide_eq_true c2)]
              simp only [Rs.okb]
              refine ⟨_, rfl, ?_, ?_⟩
              . rw [BU c2]
              . rw [Ex c2, e2, List.append_assoc, Int.neg_mul]
            . rw [if_neg (by rw [decide_eq_false c2]; exact Bool.false_ne_true)]
              simp only [Rs.okb]
              refine ⟨_, rfl, ?_, ?_⟩
              . rw [BQ c1 c2]
              . rw [B0 c1 c2, List.append_nil, e2]
        . rw [Y9, ← hrl, List.take_length] at hh
          obtain ⟨e1, e2⟩:=hh
          have hpr:=hin rs hrs (p : Int) (by omega) (by omega)
          have hct:=Uy hfs
          have hcl':=hcl rs (p : Int)
          refine ⟨_, rfl, ⟨?_, ?_, ?_, ?_, ?_, ?_, qs ++ [(p : Int)], ?_, ?_⟩, ?_⟩
          . show (g'.1.set p true).length = S
            rw [List.length_set]; exact w1
          . show 0 <= h.1
            rw [e1]; exact hpr.1
          . show h.1 < _
            rw [e1]; exact hpr.2
          . exact fun q hq=>VO (w4 q hq)
          . refine .inr ?_
            show (g'.1.set p true)[i]? = some true
            rcases w5 with ⟨h1, _⟩ | h1
            . have : p = i := by omega
              subst this
              rw [List.getElem?_set_self hpl]
            . exact VO h1
          . show h.2.length + 100 * (g'.1.set p true).count false <= 100 * S
            rw [e2, List.length_append]; omega
          . rw [← List.append_assoc]
            have:=w6.snoc (a:=(p : Int)) (by omega) (by omega) (by rw [Int.toNat_natCast]; exact hfs)
            rwa [Int.toNat_natCast] at this
          . show h.2 = _
            rw [e2, w7, List.flatMap_append]
            simp
          . show (g'.1.set p true).count false < g'.1.count false
            omega
      . have : g.1.count false <= g.1.length := List.count_le_length
        show g.1.count false < (S : Int).natAbs + 2
        omega
      . obtain ⟨⟨w1, w2, w3, w4, w5, w8, qs, w6, w7⟩, hc⟩ := hg'
        obtain ⟨p, hp⟩ : ∃ p : Nat, g'.2.1 = (p : Int):=⟨g'.2.1.toNat, by omega⟩
        have hpl : p < g'.1.length:=by omega
        rw [Yw hp hpl, Rs.okb] at hc
        have hc' : g'.1[p] = true:=by
          have:=Rs.ok.inj hc
          simpa using this
        have h5 : g'.1[i]? = some true:=by
          rcases w5 with ⟨h1, h6⟩ | h1
          . have : p = i := by omega
            subst this
            rw [List.getElem?_eq_getElem hpl, hc'] at h6
            cases h6
          . exact h1
        rw [Xw (Cv (by omega))]
        refine ⟨_, rfl, w1, ?_, ?_, ps ++ qs, w6, ?_⟩
        . show (g.2 ++ [g'.2.2]).length <= _
          simp; omega
        . exact KZ (fun q hq=>w4 q (g3 q hq)) h5
        . show (g.2 ++ [g'.2.2]).flatten = _
          rw [List.flatten_append, g5, List.flatMap_append, w7]
          simp
      . exact ⟨_, rfl, hg'⟩
  . obtain ⟨g1, g2, g3, ps, g4, g5⟩ := hg
    rw [Y9] at g2 g3
    refine ⟨_, rfl, g2, ?_⟩
    rw [g5]
    refine (Zx _ (g4.all (by rw [g1]; rfl) (by omega) fun q hq=>g3 q (by omega))).trans ?_
    rw [Int.toNat_natCast]
    refine (K0 hrs).trans ?_
    rw [← hR]
    unfold J3
    rw [QE]
    have e : ns.flatMap (fun x=>[x, -x]) = (List.range ns.length).flatMap fun k=>[ns.getD k 0, -(ns.getD k 0)]:=by
      have h : ns = (List.range ns.length).map fun k=>ns.getD k 0:=List.ext_getElem (by simp) fun j h1 h2=>by simp [h1]
      conv=>lhs; rw [h]
      rw [QE]
    rw [e]
    refine QP fun k hk=>B5 (hs _ ?_)
    have hk':=List.mem_range.mp hk
    simp [hk']
end My
namespace My
open PySem L2
theorem Kp {α : Type} {l : List α} {m c : Nat} (hm : l.length = m) (hc : c < m) : ∀ {n j : Nat}, j < n -> (List.replicate n l).flatten[m * j + c]? = l[c]?
  | 0, _, h=>by omega
  | n + 1, 0, _=>by
    rw [List.replicate_succ, List.flatten_cons, Nat.mul_zero, Nat.zero_add, List.getElem?_append_left (by omega)]
  | n + 1, j + 1, h=>by
    rw [List.replicate_succ, List.flatten_cons, List.getElem?_append_right (by rw [hm, Nat.mul_succ]; omega), hm, show m * (j + 1) + c - m = m * j + c by rw [Nat.mul_succ]; omega]
    exact Kp hm hc (by omega)
theorem Ff {α : Type} (l : List α) : ∀ n : Nat, (List.replicate n l).flatten.length = n * l.length
  | 0=>by simp
  | n + 1=>by rw [List.replicate_succ, List.flatten_cons, List.length_append, Ff l n, Nat.succ_mul]; omega
structure Drawn (most : Nat) (D : List (List Int) × List (Int × Int)) : Prop where
  le : D.2.length <= most
  inc : (D.2.map Prod.fst).Pairwise (· < ·)
  pos : ∀ e ∈ D.2, 1 <= e.1 /\ e.1 < 2 ^ 62 /\ (e.2 = 1 ∨ e.2 = -1)
  perm : D.1.flatten.Perm ((D.2.map Prod.fst).flatMap fun x=>[x, -x])
  few : D.1.length <= 4
theorem G9 : ∀ {d : List (Int × Int)} {x : Int}, x ∈ d.map Prod.fst -> ∃ v, Zf d x = some v /\ (x, v) ∈ d
  | [], _, h=>by simp at h
  | kv :: d, x, h=>by
    by_cases c : kv.1 = x
    . exact ⟨kv.2, by simp [Zf, List.find?_cons, c], by rw [← c]; simp⟩
    . have hx : x ∈ d.map Prod.fst:=by
        rw [List.map_cons, List.mem_cons] at h
        rcases h with h | h
        . exact absurd h.symm c
        . exact h
      obtain ⟨v, h1, h2⟩:=G9 hx
      exact ⟨v, by unfold Zf at h1 ⊢; rw [List.find?_cons, decide_eq_false c]; exact h1, List.mem_cons_of_mem _ h2⟩
theorem CI {d : List (Int × Int)} {k v : Int} (h : ∀ x ∈ d.map Prod.fst, x ≠ k) : J6 d k v = d ++ [(k, v)]:=by
  unfold J6
  rw [if_neg]
  rw [List.any_eq_true]
  rintro ⟨kv, h1, h2⟩
  exact h kv.1 (List.mem_map.mpr ⟨kv, h1, rfl⟩) (by simpa using h2)
theorem CF (ns : List Int) {p : Int} (hp : 0 <= p) {most : Nat} (hm : most <= 100) : Ok (Qz ns p (most : Int)) (Drawn most):=by
  unfold Qz
  simp only [Rs.okb]
  rw [Xw (sz (by simp))]
  simp only [Rs.okb]
  rw [Xw (sz (by simp))]
  simp only [Rs.okb]
  rw [Yp (by decide) (by decide), Rs.okb, show (2 : Int) * (most : Int) = ((2 * most : Nat) : Int) by omega]
  rw [show Ui [(80 : Int), 5, 2, 3] ((2 * most : Nat) : Int) = .ok (List.replicate (2 * most) [(80 : Int), 5, 2, 3]).flatten from by
    unfold Ui
    rw [Xw ⟨by omega, by omega, sz (by simp; omega)⟩, Int.toNat_natCast]]
  simp only [Rs.okb]
  have hrl:=Ff [(80 : Int), 5, 2, 3] (2 * most)
  have hrg : ∀ {j c : Nat}, c < 4 -> j < 2 * most -> (List.replicate (2 * most) [(80 : Int), 5, 2, 3]).flatten[4 * j + c]? = [(80 : Int), 5, 2, 3][c]?:=fun {j c} hc hj=>Kp rfl hc hj
  have hrm : ∀ x ∈ (List.replicate (2 * most) [(80 : Int), 5, 2, 3]).flatten, 0 < x /\ x < 2 ^ 250:=fun x hx=>by
    obtain ⟨l, h1, h2⟩:=List.mem_flatten.mp hx
    rw [(List.mem_replicate.mp h1).2] at h2
    simp only [List.mem_cons, List.not_mem_nil, or_false] at h2
    rcases h2 with rfl | rfl | rfl | rfl <;> decide
  generalize (List.replicate (2 * most) [(80 : Int), 5, 2, 3]).flatten = tl at hrl hrg hrm
  rw [show ([(80 : Int), 5, 2, 3]).length = 4 from rfl] at hrl
  rw [show Fx [(most : Int) + 1, 5, 4, 3, 3] tl = .ok ([(most : Int) + 1, 5, 4, 3, 3] ++ tl) from Xw (sz (by simp; omega))]
  simp only [Rs.okb]
  refine Ok.bind (Ok.noE (Bb ns hp _ (by simp; omega) fun x hx=>?_)) fun r hr=>?_
  . rw [List.mem_append] at hx
    rcases hx with h | h
    . simp only [List.mem_cons, List.not_mem_nil, or_false] at h
      rcases h with rfl | rfl | rfl | rfl | rfl
      . refine ⟨by omega, by omega⟩
      all_goals decide
    . exact hrm x h
  obtain ⟨hl, hv⟩:=hr
  have hl' : r.length = 5 + 8 * most:=by rw [hl]; simp; omega
  have hv5 : ∀ (j c : Nat) (s : Int), c < 4 -> j < 2 * most -> [(80 : Int), 5, 2, 3][c]? = some s -> ∀ h : 5 + 4 * j + c < r.length, 0 <= r[5 + 4 * j + c] /\ r[5 + 4 * j + c] < s:=fun j c s hc hj hs h=>by
    refine hv (5 + 4 * j + c) _ s (by simp [h]) ?_
    rw [List.getElem?_append_right (by simp; omega)]
    simp only [List.length_cons, List.length_nil]
    rw [show 5 + 4 * j + c - (0 + 1 + 1 + 1 + 1 + 1) = 4 * j + c by omega, hrg hc hj]
    exact hs
  have v0:=hv 0 r[0] _ (by simp) rfl
  have v1:=hv 1 r[1] _ (by simp) rfl
  have v2:=hv 2 r[2] _ (by simp) rfl
  have v3:=hv 3 r[3] _ (by simp) rfl
  have v4:=hv 4 r[4] _ (by simp) rfl
  rw [Yw (r:=r) (k:=0) (n:=0) rfl (by omega), Yw (r:=r) (k:=1) (n:=1) rfl (by omega), Yw (r:=r) (k:=2) (n:=2) rfl (by omega), Yw (r:=r) (k:=3) (n:=3) rfl (by omega), Yw (r:=r) (k:=4) (n:=4) rfl (by omega)]
  simp only [Rs.okb]
  obtain ⟨m0, hm0⟩ : ∃ m0 : Nat, r[0] = m0:=⟨r[0].toNat, by omega⟩
  rw [hm0] at v0 ⊢
  rw [ZX (by omega), UW (by decide) (by decide) (by decide) (by decide)]
  simp only [Rs.okb]
  rw [Xw (sz (by simp))]
  simp only [Rs.okb]
  have hz : ∃ z, atR [0, 1, (10 : Int) ^ (9 : Int).toNat] r[3] = .ok z /\ 0 <= z /\ z <= 1000000000:=by
    rcases (by omega : r[3] = 0 ∨ r[3] = 1 ∨ r[3] = 2) with h | h | h <;> rw [h]
    . exact ⟨0, rfl, by decide, by decide⟩
    . exact ⟨1, rfl, by decide, by decide⟩
    . exact ⟨1000000000, rfl, by decide, by decide⟩
  obtain ⟨z, hz, hz0, hz1⟩:=hz
  rw [hz]
  simp only [Rs.okb]
  refine Ok.bind (Ok.forN (fun i (g : Int × List (Int × Int) × List Int)=>g.2.1.map Prod.fst = g.2.2 /\ g.2.2.length = i /\ 0 <= g.1 /\ g.1 <= (i : Int) * 3000000000 /\ g.2.2.Pairwise (· < ·) /\ (∀ x ∈ g.2.2, 1 <= x /\ x <= g.1) /\ ∀ e ∈ g.2.1, e.2 = 1 ∨ e.2 = -1) ⟨rfl, rfl, Int.le_refl _, by decide, List.Pairwise.nil, fun x hx=>(by cases hx), fun x hx=>(by cases hx)⟩ fun i a g ha hg=>?_) fun g hg=>?_
  . obtain ⟨rfl, hi⟩ := Y2 ha
    obtain ⟨h1, h2, h3, h4, h5, h6, h7⟩:=hg
    have hA : 5 + 4 * (2 * i) + 3 < r.length:=by omega
    have hB : 5 + 4 * (2 * i) + 2 < r.length:=by omega
    have kA:=hv5 (2 * i) 3 3 (by omega) (by omega) rfl hA
    have kB:=hv5 (2 * i) 2 2 (by omega) (by omega) rfl hB
    rw [Yp (a:=8) (by decide) (by decide)]
    simp only [Rs.okb]
    rw [Yw (r:=r) (k:=8 * (i : Int) + 8) (n:=5 + 4 * (2 * i) + 3) (by omega) hA, Yw (r:=r) (k:=8 * (i : Int) + 7) (n:=5 + 4 * (2 * i) + 2) (by omega) hB]
    simp only [Rs.okb]
    generalize r[5 + 4 * (2 * i) + 3] = y at kA
    generalize r[5 + 4 * (2 * i) + 2] = y2 at kB
    rw [Yp (a:=y) (by omega) (by omega), Yp (a:=2) (by decide) (by decide)]
    simp only [Rs.okb]
    have hd1 : g.2.1.length = i:=by rw [← h2, ← h1, List.length_map]
    rw [Xw (Cv (by omega)), Xw (Cv (by omega))]
    have q0 : 0 <= y * z:=Int.mul_nonneg kA.1 hz0
    have q1 : y * z <= 2 * 1000000000:=Int.mul_le_mul (by omega) hz1 hz0 (by decide)
    generalize y * z = st at q0 q1
    have hnew : ∀ x ∈ g.2.1.map Prod.fst, x ≠ g.1 + 1 + st:=fun x hx e=>by
      rw [h1] at hx
      have:=(h6 x hx).2
      omega
    rw [CI hnew]
    refine ⟨_, rfl, ?_, ?_, ?_, ?_, ?_, ?_, ?_⟩
    . show (g.2.1 ++ [(g.1 + 1 + st, 2 * y2 - 1)]).map Prod.fst = g.2.2 ++ [g.1 + 1 + st]
      rw [List.map_append, h1]; rfl
    . show (g.2.2 ++ [g.1 + 1 + st]).length = _
      simp [h2]
    . show 0 <= g.1 + 1 + st
      omega
    . show g.1 + 1 + st <= _
      omega
    . show (g.2.2 ++ [g.1 + 1 + st]).Pairwise (· < ·)
      rw [List.pairwise_append]
      refine ⟨h5, by simp, fun x hx w hw=>?_⟩
      rw [List.mem_singleton] at hw
      have:=(h6 x hx).2
      omega
    . intro x hx
      show 1 <= x /\ x <= g.1 + 1 + st
      rcases List.mem_append.mp hx with h | h
      . have:=h6 x h; omega
      . rw [List.mem_singleton] at h; omega
    . intro e he
      rcases List.mem_append.mp he with h | h
      . exact h7 e h
      . rw [List.mem_singleton] at h
        subst h
        show 2 * y2 - 1 = 1 ∨ 2 * y2 - 1 = -1
        omega
  obtain ⟨h1, h2, h3, h4, h5, h6, h7⟩:=hg
  rw [Y9] at h2 h4
  generalize hN : g.2.2 = names at *
  generalize hD : g.2.1 = d at *
  have hsg : ∀ x ∈ names, Zf d x = some ((Zf d x).getD 1) /\ ((Zf d x).getD 1 = 1 ∨ (Zf d x).getD 1 = -1):=fun x hx=>by
    obtain ⟨v, e1, e2⟩:=G9 (d:=d) (x:=x) (by rw [h1]; exact hx)
    rw [e1]
    exact ⟨rfl, h7 _ e2⟩
  have hmap : Ju names (fun a=>(Vp d a).bind fun x=>.ok (a, x)) = .ok (names.map fun a=>(a, (Zf d a).getD 1)):=YV (sz (by omega)) fun a ha=>by
    unfold Vp
    rw [(hsg a ha).1]; rfl
  refine Ok.bind (R:=fun ws : List (List Int)=>ws.length <= 4 /\ ws.flatten.Perm (names.flatMap fun x=>[x, -x])) (Ok.ite (fun _=>?_) fun _=>?_) fun ws hws=>?_
  . refine Ok.bind (R := fun ws : List (List Int) => ws.length <= 4 /\ ws.flatten.Perm (names.flatMap fun x => [x, -x])) ?_ fun ws hws => ⟨_, rfl, hws⟩
    refine Ok.bind (Ok.noE (Cm (by omega) (by omega))) fun l hl2=>?_
    rw [show (2 : Int) + r[4] = ((2 + r[4].toNat : Nat) : Int) by omega]
    have hln:=hl2.length_eq
    refine Ok.noE (Ok.imp (Gu (sg:=fun x=>(Zf d x).getD 1) (by omega) (by omega) (fun x hx=>(hsg x (hl2.mem_iff.mp hx)).1) (fun x hx=>(hsg x (hl2.mem_iff.mp hx)).2) (by omega) (by omega)) fun ws hw=>⟨by omega, hw.2.trans (Zx _ hl2)⟩)
  . refine Ok.bind (R := fun ws : List (List Int) => ws.length <= 4 /\ ws.flatten.Perm (names.flatMap fun x => [x, -x])) ?_ fun ws hws => ⟨_, rfl, hws⟩
    obtain ⟨rings, hrings⟩ : ∃ k : Nat, max r[1] (min (names.length : Int) 1) = (k : Int):=⟨(max r[1] (min (names.length : Int) 1)).toNat, by omega⟩
    rw [hrings]
    refine Ok.noE (Ok.imp (HE (by omega) (by omega) (fun hne=>?_) (by omega)) fun ws hw=>⟨by omega, hw.2⟩)
    have : 0 < names.length:=List.length_pos_iff.mpr hne
    omega
  . rw [hmap]
    simp only [Rs.okb]
    have hfst : (names.map fun a=>(a, (Zf d a).getD 1)).map Prod.fst = names:=by rw [List.map_map]; exact List.map_id' _
    refine ⟨_, rfl, ?_, ?_, ?_, ?_, hws.1⟩
    . show (names.map fun a => (a, (Zf d a).getD 1)).length <= most
      simp; omega
    . show ((names.map fun a => (a, (Zf d a).getD 1)).map Prod.fst).Pairwise _
      rw [hfst]; exact h5
    . intro e he
      obtain ⟨x, hx, rfl⟩:=List.mem_map.mp he
      have:=h6 x hx
      refine ⟨this.1, ?_, (hsg x hx).2⟩
      show x < 2 ^ 62
      omega
    . show ws.flatten.Perm (((names.map fun a => (a, (Zf d a).getD 1)).map Prod.fst).flatMap fun x => [x, -x])
      rw [hfst]; exact hws.2
end My
namespace My
open PySem L2
end My
namespace My
noncomputable def ZZ (w : List Int) : Nat:=(w.filter fun x=>decide (x < 0)).length
noncomputable def VZ (w : List Int) : Nat:=max (ZZ w) 1
noncomputable def Qn (w : List Int) (first : Int) : List Int:=(List.range (max w.length 1)).map fun k=>first + (ZZ (w.take k) : Int) % (VZ w : Int)
noncomputable def YO : List (List Int) -> Int -> List (List Int)
  | [], _=>[]
  | w :: ws, f=>Qn w f :: YO ws (f + VZ w)
noncomputable def X3 (ws : List (List Int)) : Int:=(ws.map fun w=>(VZ w : Int)).sum
noncomputable def Jm (ws : List (List Int)) : Nat:=(ws.filter fun w=>decide (ZZ w = 0)).length
theorem Jr (a b : List Int) : ZZ (a ++ b) = ZZ a + ZZ b:=by unfold ZZ; rw [List.filter_append, List.length_append]
theorem KU {x : Int} (h : x < 0) : ZZ [x] = 1:=by simp [ZZ, h]
theorem KP {x : Int} (h : ¬ x < 0) : ZZ [x] = 0:=by simp [ZZ, h]
theorem Vo {w : List Int} {i : Nat} {x : Int} (h : w[i]? = some x) : ZZ (w.take (i + 1)) = ZZ (w.take i) + ZZ [x]:=by
  rw [List.take_add_one, h, Jr]; rfl
theorem Gc (w : List Int) : 0 < VZ w:=by unfold VZ; omega
theorem QJ (w : List Int) (f : Int) : (Qn w f).length = max w.length 1:=by simp [Qn]
theorem GA (w : List Int) (f : Int) {k : Nat} (h : k < max w.length 1) : (Qn w f)[k]? = some (f + (ZZ (w.take k) : Int) % (VZ w : Int)):=by
  unfold Qn
  rw [List.getElem?_map, List.getElem?_range h]; rfl
theorem Ze : ∀ (ws : List (List Int)) (f : Int), (YO ws f).length = ws.length
  | [], _=>rfl
  | _ :: ws, f=>by show (YO ws _).length + 1 = _; rw [Ze ws]; rfl
theorem QB (w : List Int) (ws : List (List Int)) : X3 (w :: ws) = VZ w + X3 ws:=by simp [X3]
theorem Vr (a b : List (List Int)) : X3 (a ++ b) = X3 a + X3 b:=by simp [X3, List.sum_append]
theorem Gs (w : List Int) : X3 [w] = VZ w:=by simp [X3]
theorem QS : ∀ (a b : List (List Int)) (f : Int), YO (a ++ b) f = YO a f ++ YO b (f + X3 a)
  | [], b, f=>by simp [YO, X3]
  | w :: a, b, f=>by
    show Qn w f :: YO (a ++ b) (f + VZ w) = Qn w f :: (YO a (f + VZ w) ++ YO b (f + X3 (w :: a)))
    rw [QS a b, QB, Int.add_assoc]
theorem Ve {ws : List (List Int)} {i : Nat} {w : List Int} (h : ws[i]? = some w) (f : Int) : YO (ws.take (i + 1)) f = YO (ws.take i) f ++ [Qn w (f + X3 (ws.take i))]:=by
  rw [List.take_add_one, h, QS]; rfl
theorem Vb {ws : List (List Int)} {i : Nat} {w : List Int} (h : ws[i]? = some w) : X3 (ws.take (i + 1)) = X3 (ws.take i) + VZ w:=by
  rw [List.take_add_one, h, Vr]
  show _ + X3 [w] = _
  rw [Gs]
theorem Vt {ws : List (List Int)} {i : Nat} {w : List Int} (h : ws[i]? = some w) (f : Int) : (YO ws f)[i]? = some (Qn w (f + X3 (ws.take i))):=by
  have hl : i < ws.length:=(List.getElem?_eq_some_iff.mp h).1
  have e : ws = ws.take (i + 1) ++ ws.drop (i + 1):=(List.take_append_drop _ _).symm
  rw [e, QS, Ve h, List.getElem?_append_left (by rw [List.length_append, Ze, List.length_take]; simp; omega),
    List.getElem?_append_right (by rw [Ze, List.length_take]; omega), Ze, List.length_take, Nat.min_eq_left (by omega), Nat.sub_self, List.take_append_of_le_length (by rw [List.length_take]; omega), List.take_take, Nat.min_eq_left (by omega)]
  rfl
theorem Jf : ∀ ws : List (List Int), X3 ws = (ZZ ws.flatten : Int) + (Jm ws : Int)
  | []=>rfl
  | w :: ws=>by
    rw [QB, Jf ws, List.flatten_cons, Jr]
    unfold Jm
    rw [List.filter_cons]
    by_cases h : ZZ w = 0
    . simp [h, VZ]; omega
    . simp [h, VZ]; omega
theorem GK {ws : List (List Int)} {i : Nat} {w : List Int} (h : ws[i]? = some w) : Jm (ws.take (i + 1)) = Jm (ws.take i) + (if ZZ w = 0 then 1 else 0):=by
  unfold Jm
  rw [List.take_add_one, h, List.filter_append, List.length_append]
  by_cases e : ZZ w = 0 <;> simp [e]
theorem Dl {a b : List Int} (h : a.Perm b) : ZZ a = ZZ b:=(h.filter _).length_eq
theorem Fr : ∀ {xs : List Int}, (∀ x ∈ xs, 1 <= x) -> ZZ (xs.flatMap fun x=>[x, -x]) = xs.length
  | [], _=>rfl
  | x :: xs, h=>by
    have hx:=h x List.mem_cons_self
    rw [List.flatMap_cons, Jr, Fr fun y hy=>h y (List.mem_cons_of_mem _ hy)]
    have e : ZZ [x, -x] = 1:=by
      show ZZ ([x] ++ [-x]) = 1
      rw [Jr, KP (by omega), KU (by omega)]
    rw [e, List.length_cons]; omega
structure LastIs (w : List Int) (i : Nat) (last : Int) : Prop where
  lo : -1 <= last
  hi : last < (i : Int)
  none : ∀ j : Nat, last < (j : Int) -> j < i -> ∀ x, w[j]? = some x -> ¬ x < 0
  at' : 0 <= last -> ∃ x, w[last.toNat]? = some x /\ x < 0
theorem LastIs.zero (w : List Int) : LastIs w 0 (-1):=⟨by omega, by omega, fun j _ h=>by omega, fun h=>by omega⟩
theorem LastIs.neg {w : List Int} {i : Nat} {x : Int} (e : w[i]? = some x) (hx : x < 0) : LastIs w (i + 1) (i : Int):=
  ⟨by omega, by omega, fun j h1 h2=>by omega, fun _=>⟨x, by simpa using e, hx⟩⟩
theorem LastIs.pos {w : List Int} {i : Nat} {x last : Int} (h : LastIs w i last) (e : w[i]? = some x) (hx : ¬ x < 0) : LastIs w (i + 1) last:=by
  have:=h.hi
  refine ⟨h.lo, by omega, fun j h1 h2 y hy=>?_, h.at'⟩
  by_cases hj : j = i
  . subst hj; rw [e] at hy; cases hy; exact hx
  . exact h.none j h1 (by omega) y hy
end My
namespace My
structure Spot (ws : List (List Int)) (x : Int) (i j : Nat) (w : List Int) : Prop where
  wi : ws[i]? = some w
  xj : w[j]? = some x
  first : ∀ m : Nat, m < j -> w[m]? ≠ some x
  none : ∀ (i' : Nat) (w' : List Int), i' < i -> ws[i']? = some w' -> x ∉ w'
theorem Spot.uniq {ws : List (List Int)} {x : Int} {i j i' j' : Nat} {w w' : List Int} (h : Spot ws x i j w) (h' : Spot ws x i' j' w') : i = i' /\ j = j' /\ w = w':=by
  have hi : i = i':=by
    rcases Nat.lt_trichotomy i i' with c | c | c
    . exact absurd (List.mem_of_getElem? h.xj) (h'.none i w c h.wi)
    . exact c
    . exact absurd (List.mem_of_getElem? h'.xj) (h.none i' w' c h'.wi)
  subst hi
  have hw : w = w':=Option.some.inj (h.wi.symm.trans h'.wi)
  subst hw
  refine ⟨rfl, ?_, rfl⟩
  rcases Nat.lt_trichotomy j j' with c | c | c
  . exact absurd h.xj (h'.first j c)
  . exact c
  . exact absurd h'.xj (h.first j' c)
theorem Spot.row {ws : List (List Int)} {x : Int} {i j : Nat} {w : List Int} (h : Spot ws x i j w) : ∃ r, (YO ws 0)[i]? = some r /\ r.length = w.length /\ j < w.length:=by
  have hj:=(List.getElem?_eq_some_iff.mp h.xj).1
  exact ⟨_, Vt h.wi 0, by rw [QJ]; omega, hj⟩
noncomputable def G0 (ws : List (List Int)) (e : Int × Int) (v : List Int) : Prop:=∃ (i j k l : Nat) (w w' r r' : List Int) (o a b : Int), Spot ws e.1 i j w /\ Spot ws (-e.1) k l w' /\ (YO ws 0)[i]? = some r /\ r[j]? = some o /\ (YO ws 0)[k]? = some r' /\ r'[l]? = some a /\ r'[(l + 1) % w'.length]? = some b /\ v = [e.1, e.2, o, a, b]
theorem G0.uniq {ws : List (List Int)} {e : Int × Int} {v v' : List Int} (h : G0 ws e v) (h' : G0 ws e v') : v = v':=by
  obtain ⟨i, j, k, l, w, w', r, r', o, a, b, s1, s2, h1, h2, h3, h4, h5, rfl⟩:=h
  obtain ⟨i2, j2, k2, l2, x, x', q, q', o2, a2, b2, t1, t2, g1, g2, g3, g4, g5, rfl⟩:=h'
  obtain ⟨rfl, rfl, rfl⟩:=s1.uniq t1
  obtain ⟨rfl, rfl, rfl⟩:=s2.uniq t2
  rw [h1] at g1; cases g1
  rw [h3] at g3; cases g3
  rw [h2] at g2; cases g2
  rw [h4] at g4; cases g4
  rw [h5] at g5; cases g5
  rfl
theorem KK : ∀ {w : List Int} {x : Int}, x ∈ w -> ∃ j : Nat, w[j]? = some x /\ ∀ m : Nat, m < j -> w[m]? ≠ some x
  | [], x, h=>by simp at h
  | y :: t, x, h=>by
    by_cases e : y = x
    . subst e
      exact ⟨0, rfl, fun m hm=>by omega⟩
    . rcases List.mem_cons.mp h with z | z
      . exact absurd z.symm e
      . obtain ⟨j, h1, h2⟩ := KK z
        refine ⟨j + 1, by simpa using h1, fun m hm=>?_⟩
        cases m with
        | zero=>simpa using e
        | succ m=>simpa using h2 m (by omega)
end My
namespace My
open PySem L2
section
variable {α β γ ρ : Type}
theorem Um {f : γ -> α -> Rs (Ctl ρ γ)} {g : γ} {v : ρ} : ∀ {as : List α} {i : Nat} {a : α}, as[i]? = some a -> (∀ (k : Nat) b, k < i -> as[k]? = some b -> f g b = .ok (.nx g)) -> f g a = .ok (.ret v) -> forC as g f = .ok (.ret v)
  | [], i, a, h, _, _=>by simp at h
  | b :: as, 0, a, h, _, hf=>by
    have : b = a:=by simpa using h
    subst this
    show (f g b).bind _ = _
    rw [hf, Rs.okb]
  | b :: as, i + 1, a, h, hb, hf=>by
    show (f g b).bind _ = _
    rw [hb 0 b (by omega) rfl, Rs.okb]
    exact Um (i:=i) (by simpa using h) (fun k c hk hc=>hb (k + 1) c (by omega) (by simpa using hc)) hf
theorem DU {as : List α} {i : Nat} {a : α} (h : as[i]? = some a) : (QU as)[i]? = some ((i : Int), a):=by
  have hi:=(List.getElem?_eq_some_iff.mp h).1
  unfold QU
  rw [List.getElem?_zip_eq_some]
  exact ⟨by rw [List.getElem?_map, List.getElem?_range hi]; rfl, h⟩
theorem F2 {w : List Int} {x : Int} {j : Nat} (h : w[j]? = some x) (hf : ∀ m : Nat, m < j -> w[m]? ≠ some x) : Bg w x = .ok (j : Int):=by
  obtain ⟨hj, e⟩:=List.getElem?_eq_some_iff.mp h
  have : w.findIdx? (fun b=>decide (b = x)) = some j:=by
    rw [List.findIdx?_eq_some_iff_getElem]
    refine ⟨hj, by simp [e], fun m hm=>?_⟩
    have hml : m < w.length:=by omega
    have:=hf m hm
    rw [List.getElem?_eq_getElem hml] at this
    simpa using this
  unfold Bg
  rw [this]
theorem Z4 {N k : Nat} {F G : Nat -> α} {v : α} (hk : k < N) (hv : G k = v) (h : ∀ j, j < N -> j ≠ k -> F j = G j) : ((List.range N).map F).set k v = (List.range N).map G:=by
  refine List.ext_getElem (by simp) fun j h1 h2=>?_
  have hj : j < N:=by simpa using h1
  rw [List.getElem_set]
  by_cases e : k = j
  . subst e; rw [if_pos rfl]; simp [hv]
  . rw [if_neg e]; simp [h j hj (fun z=>e z.symm)]
theorem DZ (w : List α) : Gq w none (some (-1)) = w.take (w.length - 1):=by
  unfold Gq
  rw [HT.sIx_none]
  have : HT.sIx w.length w.length (some (-1)) = w.length - 1:=by
    unfold HT.sIx
    simp
    omega
  rw [this]; simp
end
theorem Zw {w : List Int} (hl : w.length <= 1000) : XJ w = .ok (VZ w : Int):=by
  unfold XJ
  simp only [Rs.okb]
  rw [V9 (p:=fun x=>decide (x < 0)) (h:=fun x=>x) (sz (by omega)) (fun _ _=>rfl) fun _ _ _=>rfl, Rs.okb, List.map_id']
  congr 1
  show max ((ZZ w : Nat) : Int) 1 = ((max (ZZ w) 1 : Nat) : Int)
  omega
theorem JL {w : List Int} {f : Int} (hl : w.length <= 1000) : Yx w f = .ok (Qn w f):=by
  unfold Yx
  simp only [Rs.okb]
  rw [Zw hl, XE]
  simp only [Rs.okb]
  rw [Xw (sz (by simp)), DZ]
  simp only [Rs.okb]
  apply Ok.eq
  refine Ok.bind (Ok.forN (fun i (g : Int × List Int)=>g = ((ZZ (w.take i) : Int), (List.range (i + 1)).map fun k=>f + (ZZ (w.take k) : Int) % (VZ w : Int))) ?_ fun i a g ha hg=>?_) fun g hg=>?_
  . simp [ZZ]
  . have hi := (List.getElem?_eq_some_iff.mp ha).1
    rw [List.length_take] at hi
    have ha' : w[i]? = some a:=by
      rw [List.getElem?_take_of_lt (by omega)] at ha
      exact ha
    subst hg
    have hn:=Vo ha'
    have hp:=Gc w
    have hlen : ((List.range (i + 1)).map fun k=>f + (ZZ (w.take k) : Int) % (VZ w : Int)).length < sizeLine:=Cv (by simp; omega)
    refine Ok.bind (R:=fun u=>u = (ZZ (w.take (i + 1)) : Int)) (Ok.ite (fun c=>⟨_, rfl, ?_⟩) fun c=>⟨_, rfl, ?_⟩) fun u hu=>?_
    . rw [hn, KU (of_decide_eq_true c)]
      show (ZZ (w.take i) : Int) + 1 = _
      omega
    . rw [hn, KP (of_decide_eq_false c)]
      show (ZZ (w.take i) : Int) = _
      omega
    . subst hu
      rw [X6 (by omega), Rs.okb, Rs.okb, Xw hlen]
      refine ⟨_, rfl, ?_⟩
      rw [List.range_succ (n:=i + 1), List.map_append]; rfl
  . subst hg
    refine ⟨_, rfl, ?_⟩
    rw [List.length_take, show min (w.length - 1) w.length + 1 = max w.length 1 by omega]
    rfl
theorem Bw {D : List (List Int) × List (Int × Int)} (hd : D.1.length <= 1000) (hw : ∀ w ∈ D.1, w.length <= 1000) : VG D = .ok (YO D.1 0):=by
  unfold VG
  simp only [Rs.okb]
  apply Ok.eq
  refine Ok.bind (Ok.forN (fun i (g : Int × List (List Int))=>g = (X3 (D.1.take i), YO (D.1.take i) 0)) rfl fun i a g ha hg=>?_) fun g hg=>?_
  . have hi := (List.getElem?_eq_some_iff.mp ha).1
    subst hg
    have hal:=hw a (List.mem_of_getElem? ha)
    rw [JL hal, XE, Rs.okb, Zw hal, XE]
    rw [Xw (Cv (by rw [Ze, List.length_take]; omega))]
    simp only [Rs.okb]
    refine ⟨_, rfl, ?_⟩
    rw [Ve ha, Vb ha, Int.zero_add]
  . subst hg
    rw [List.take_length]
    exact ⟨_, rfl, rfl⟩
theorem Jg {D : List (List Int) × List (Int × Int)} (hd : D.1.length <= 1000) (hw : ∀ w ∈ D.1, w.length <= 1000) : YH D = .ok (X3 D.1):=by
  unfold YH
  simp only [Rs.okb]
  rw [YV (h:=fun w=>(VZ w : Int)) (sz (by omega)) fun w h=>by rw [Zw (hw w h), XE], Rs.okb]
  rfl
theorem FK {D : List (List Int) × List (Int × Int)} {x : Int} {i j : Nat} {w : List Int} (h : Spot D.1 x i j w) : JK D x = .ok ((i : Int), (j : Int)):=by
  unfold JK
  simp only [Rs.okb]
  rw [Um (v:=((i : Int), (j : Int))) (DU h.wi) (fun k b hk hb=>?_) ?_]
  . rw [Rs.okb, FE]
  . rw [if_pos (decide_eq_true (List.mem_of_getElem? h.xj)), F2 h.xj h.first]
    simp only [Rs.okb]
  . obtain ⟨_, h2⟩ := JO hb
    rw [if_neg]
    rw [decide_eq_true_eq]
    exact h.none k b.2 hk h2
theorem Ct {D : List (List Int) × List (Int × Int)} (hw : ∀ w ∈ D.1, w.length <= 1000) : Qo D = .ok ((D.2.length : Int) + (Jm D.1 : Int)):=by
  unfold Qo
  simp only [Rs.okb]
  apply Ok.eq
  refine Ok.bind (Ok.forN (fun i (g : Int)=>g = (D.2.length : Int) + (Jm (D.1.take i) : Int)) (by simp [Jm]) fun i a g ha hg=>?_) fun g hg=>?_
  . have hal := hw a (List.mem_of_getElem? ha)
    rw [V9 (p:=fun x=>decide (x < 0)) (h:=fun x=>x) (sz (by omega)) (fun _ _=>rfl) fun _ _ _=>rfl, List.map_id']
    simp only [Rs.okb]
    have hz:=GK ha
    have hnn : ((a.filter fun x=>decide (x < 0)).length : Int) = (ZZ a : Int):=rfl
    rw [hnn]
    by_cases c : ZZ a = 0
    . rw [if_pos c] at hz
      rw [if_pos (decide_eq_true (by omega))]
      simp only [Rs.okb]
      exact ⟨_, rfl, by omega⟩
    . rw [if_neg c] at hz
      rw [if_neg (by rw [decide_eq_true_eq]; omega)]
      simp only [Rs.okb]
      exact ⟨_, rfl, by omega⟩
  . subst hg
    rw [List.take_length]
    exact ⟨_, rfl, rfl⟩
end My
namespace My
open PySem L2
theorem Kd : ∀ {ws : List (List Int)} {x : Int}, x ∈ ws.flatten -> ∃ i j w, Spot ws x i j w
  | [], x, h=>by simp at h
  | w :: ws, x, h=>by
    by_cases c : x ∈ w
    . obtain ⟨j, h1, h2⟩ := KK c
      exact ⟨0, j, w, rfl, h1, h2, fun i' w' hi _=>by omega⟩
    . have hx : x ∈ ws.flatten:=by
        rw [List.flatten_cons, List.mem_append] at h
        exact h.resolve_left c
      obtain ⟨i, j, v, s⟩:=Kd hx
      refine ⟨i + 1, j, v, by simpa using s.wi, s.xj, s.first, fun i' w' hi hw=>?_⟩
      cases i' with
      | zero=>
        have : w = w':=by simpa using hw
        exact this ▸ c
      | succ i'=>exact s.none i' w' (by omega) (by simpa using hw)
theorem Vk (ws : List (List Int)) : 0 <= X3 ws:=by
  induction ws with
  | nil=>exact Int.le_refl _
  | cons w ws ih=>rw [QB]; omega
theorem Fv {ws : List (List Int)} {i j : Nat} {w r : List Int} {o : Int} (hw : ws[i]? = some w) (hr : (YO ws 0)[i]? = some r) (ho : r[j]? = some o) : 0 <= o /\ o < X3 ws:=by
  rw [Vt hw] at hr
  cases hr
  have hj:=(List.getElem?_eq_some_iff.mp ho).1
  rw [QJ] at hj
  rw [GA w _ hj] at ho
  have ho':=Option.some.inj ho
  have hp:=Gc w
  have m0:=Int.emod_nonneg (ZZ (w.take j) : Int) (show (VZ w : Int) ≠ 0 by omega)
  have m1:=Int.emod_lt_of_pos (ZZ (w.take j) : Int) (show (0 : Int) < (VZ w : Int) by omega)
  have t0:=Vk (ws.take i)
  have t1 : X3 ws = X3 (ws.take (i + 1)) + X3 (ws.drop (i + 1)):=by rw [← Vr, List.take_append_drop]
  have t2:=Vk (ws.drop (i + 1))
  rw [Vb hw] at t1
  omega
structure DG (D : List (List Int) × List (Int × Int)) : Prop where
  few : D.1.length <= 1000
  short : ∀ w ∈ D.1, w.length <= 1000
  le : D.2.length <= 1000
  mem : ∀ e ∈ D.2, e.1 ∈ D.1.flatten /\ -e.1 ∈ D.1.flatten
  sg : ∀ e ∈ D.2, e.2 = 1 ∨ e.2 = -1
  count : X3 D.1 = (D.2.length : Int) + (Jm D.1 : Int)
noncomputable def MG (N : Int) (m : Int × Int × Int × Int × Int) : Prop:=(m.2.1 = 1 ∨ m.2.1 = -1) /\ (0 <= m.2.2.1 /\ m.2.2.1 < N) /\ (0 <= m.2.2.2.1 /\ m.2.2.2.1 < N) /\ (0 <= m.2.2.2.2 /\ m.2.2.2.2 < N)
theorem Dc {D : List (List Int) × List (Int × Int)} (h : DG D) : ∃ ms, ZE D = .ok ms /\ ms.length = D.2.length /\ ∀ m ∈ ms, MG (X3 D.1) m:=by
  have key : ∀ e : Int × Int, ∃ v : Int × Int × Int × Int × Int, e ∈ D.2 -> ∃ (i j k l : Nat) (w w' r r' : List Int), Spot D.1 e.1 i j w /\ Spot D.1 (-e.1) k l w' /\ (YO D.1 0)[i]? = some r /\ r[j]? = some v.2.2.1 /\ (YO D.1 0)[k]? = some r' /\ r'.length = w'.length /\ 0 < w'.length /\ r'[l]? = some v.2.2.2.1 /\ r'[(l + 1) % w'.length]? = some v.2.2.2.2 /\ v.1 = e.1 /\ v.2.1 = e.2:=fun e=>by
    by_cases he : e ∈ D.2
    . obtain ⟨i, j, w, s1⟩ := Kd (h.mem e he).1
      obtain ⟨k, l, w', s2⟩:=Kd (h.mem e he).2
      obtain ⟨r, hr, hrl, hj⟩:=s1.row
      obtain ⟨r', hr', hrl', hl⟩:=s2.row
      have hm : (l + 1) % w'.length < r'.length:=by rw [hrl']; exact Nat.mod_lt _ (by omega)
      exact ⟨(e.1, e.2, r[j], r'[l], r'[(l + 1) % w'.length]), fun _=>⟨i, j, k, l, w, w', r, r', s1, s2, hr, by simp, hr', hrl', by omega, by simp, by simp, rfl, rfl⟩⟩
    . exact ⟨(0, 0, 0, 0, 0), fun z=>absurd z he⟩
  obtain ⟨v, hv⟩:=Classical.axiomOfChoice key
  refine ⟨D.2.map v, ?_, by simp, fun m hm=>?_⟩
  . unfold ZE
    simp only [Rs.okb]
    rw [Bw h.few h.short, XE]
    simp only [Rs.okb]
    rw [Qe (h:=v) (sz (by have:=h.le; simp; omega)) fun g hg e he=>?_]
    . rw [Rs.okb, List.nil_append]
    . obtain ⟨i, j, k, l, w, w', r, r', s1, s2, h1, h2, h3, h4, h5, h6, h7, h8, h9⟩ := hv e he
      have hm : ((l : Int) + 1) % (r'.length : Int) = (((l + 1) % w'.length : Nat) : Int):=by rw [h4, Int.natCast_emod]; rfl
      rw [FK s1, FK s2, XE, XE]
      simp only [Rs.okb]
      rw [Zv h1, Zv h3]
      simp only [Rs.okb]
      rw [Zv h2, Zv h6]
      simp only [Rs.okb]
      rw [X6 (by omega), hm]
      simp only [Rs.okb]
      rw [Zv h7]
      simp only [Rs.okb]
      rw [Xw hg]
      congr 2
      rw [← h8, ← h9]
  . obtain ⟨e, he, rfl⟩ := List.mem_map.mp hm
    obtain ⟨i, j, k, l, w, w', r, r', s1, s2, h1, h2, h3, h4, h5, h6, h7, h8, h9⟩:=hv e he
    exact ⟨by rw [h9]; exact h.sg e he, Fv s1.wi h1 h2, Fv s2.wi h3 h6, Fv s2.wi h3 h7⟩
end My
namespace My
open PySem L2
theorem IE (f : Int) (n : Nat) : (List.replicate n [f]).flatten = (List.range n).map fun _=>f:=by
  induction n with
  | zero=>rfl
  | succ n ih=>rw [List.replicate_succ, List.flatten_cons, ih, List.range_succ_eq_map, List.map_cons, List.map_map]; rfl
end My
namespace My
open PySem L2
theorem DG.of {most : Nat} {D : List (List Int) × List (Int × Int)} (h : Drawn most D) (hm : most <= 100) : DG D where
  few:=by have:=h.few; omega
  short:=fun w hw=>by
    have h1:=h.perm.length_eq
    rw [Z9, List.length_map] at h1
    have h2:=(List.sublist_flatten_of_mem hw).length_le
    have:=h.le
    omega
  le:=by have:=h.le; omega
  mem:=fun e he=>by
    have hm : e.1 ∈ D.2.map Prod.fst:=List.mem_map.mpr ⟨e, he, rfl⟩
    exact ⟨h.perm.mem_iff.mpr (List.mem_flatMap.mpr ⟨_, hm, by simp⟩), h.perm.mem_iff.mpr (List.mem_flatMap.mpr ⟨_, hm, by simp⟩)⟩
  sg:=fun e he=>(h.pos e he).2.2
  count:=by
    rw [Jf, Dl h.perm, Fr fun x hx=>?_, List.length_map]
    obtain ⟨e, he, rfl⟩:=List.mem_map.mp hx
    exact (h.pos e he).1
theorem DG.other {D : List (List Int) × List (Int × Int)} (h : DG D) : DG (D.1, D.2.map fun e=>(e.1, -e.2)) where
  few:=h.few
  short:=h.short
  le:=by rw [List.length_map]; exact h.le
  mem:=fun e he=>by
    obtain ⟨x, hx, rfl⟩:=List.mem_map.mp he
    exact h.mem x hx
  sg:=fun e he=>by
    obtain ⟨x, hx, rfl⟩:=List.mem_map.mp he
    have:=h.sg x hx
    show -x.2 = 1 ∨ -x.2 = -1
    omega
  count:=by rw [List.length_map]; exact h.count
theorem DX (ws : List (List Int)) : Jm ws <= ws.length:=by
  unfold Jm
  exact List.length_filter_le ..
theorem Em {D : List (List Int) × List (Int × Int)} (h : D.1.length <= 1000) : VC D = .ok D:=by
  unfold VC
  simp only [Rs.okb]
  rw [YV (h:=fun a=>a) (sz (by omega)) fun _ _=>rfl, List.map_id', Rs.okb]
noncomputable def Zn (m : Int × Int × Int × Int × Int) : Int × Int × Int:=if m.2.1 = 1 then (m.2.2.2.1, m.2.2.1, m.2.2.2.2) else (m.2.2.2.2, m.2.2.1, m.2.2.2.1)
theorem EA {D : List (List Int) × List (Int × Int)} {ms : List (Int × Int × Int × Int × Int)} (h : ZE D = .ok ms) (hl : ms.length <= 1000) : Vu D = .ok (ms.map Zn):=by
  unfold Vu
  simp only [Rs.okb]
  rw [h, XE]
  simp only [Rs.okb]
  rw [Qe (h:=Zn) (sz (by simp; omega)) fun g hg e he=>?_]
  . rw [Rs.okb, List.nil_append]
  . unfold Zn
    by_cases s : e.2.1 = 1
    . rw [if_pos (decide_eq_true s), if_pos s]
      simp only [Rs.okb]
      exact Xw hg
    . rw [if_neg (by rw [decide_eq_true_eq]; exact s), if_neg s]
      simp only [Rs.okb]
      exact Xw hg
theorem Bc {α : Type} {as : List α} {i : Int} (h0 : 0 <= i) (h : i < (as.length : Int)) : ∃ x, atR as i = .ok x /\ x ∈ as:=
  ⟨as[i.toNat]'(by omega), Yw (by omega) (by omega), List.getElem_mem _⟩
theorem FC {γ ρ : Type} {c : γ -> Rs Bool} {f : γ -> Rs (Ctl ρ γ)} (P : γ -> Prop) (μ : γ -> Nat) (hs : ∀ g, P g -> ∃ b, c g = .ok b /\ (b = true -> ∃ g', f g = .ok (.nx g') /\ P g' /\ μ g' < μ g)) (n : Nat) : ∀ g : γ, P g -> μ g < n -> ∃ g', Q7 n g c f = .ok (.nx g'):=by
  induction n with
  | zero=>intro g _ h; omega
  | succ n ih=>
    intro g hp h
    obtain ⟨b, eb, hb⟩:=hs g hp
    rw [Q7, eb, Rs.okb]
    cases b with
    | false=>exact ⟨g, rfl⟩
    | true=>
      obtain ⟨g', e, p', l⟩:=hb rfl
      rw [if_pos rfl, e, Rs.okb]
      exact ih g' p' (by omega)
noncomputable def C5 (g : Int) : Bool:=(((QH 2 317).filter fun a=>decide (a * a <= g)).map fun a=>decide (0 < g % a)).all id
theorem Ip {a : Int} : a ∈ QH 2 317 ↔ 2 <= a /\ a < 317:=by
  unfold QH
  rw [List.mem_map]
  constructor
  . rintro ⟨i, hi, rfl⟩
    have:=List.mem_range.mp hi
    omega
  . rintro ⟨h1, h2⟩
    exact ⟨(a - 2).toNat, List.mem_range.mpr (by omega), by omega⟩
theorem DI {g : Int} (h : C5 g = true) {a : Int} (h1 : 2 <= a) (h2 : a < 317) (h3 : a * a <= g) : 0 < g % a:=by
  unfold C5 at h
  have:=List.all_eq_true.mp h _ (List.mem_map.mpr ⟨a, List.mem_filter.mpr ⟨Ip.mpr ⟨h1, h2⟩, decide_eq_true h3⟩, rfl⟩)
  exact of_decide_eq_true this
noncomputable def PP (p : Int) : Prop:=2 <= p /\ p <= 99991 /\ C5 p = true
theorem Kt {p : Int} (h : PP p) : Zt p = .ok true:=by
  obtain ⟨h1, h2, h3⟩:=h
  unfold Zt
  simp only [Rs.okb]
  rw [decide_eq_false (show ¬ p < 2 by omega), decide_eq_false (show ¬ 100000 < p by omega), show orR (Rs.ok false) (Rs.ok false) = .ok false from rfl, Rs.okb, if_neg (by decide)]
  obtain ⟨g, e⟩:=FC (c:=fun g10 : Int=>(Rs.bind (Z1 g10 g10) fun x14=>Rs.ok (decide (x14 <= p)))) (f:=fun g10 : Int=>Rs.bind (Rs.bind (ZF p g10) fun x18=>Rs.ok (decide (x18 = (0 : Int)))) fun x20=>(if x20 = true then Rs.ok (Ctl.ret false) else ((fun (a23 : Int)=>Rs.ok (Ctl.nx a23)) (g10 + (1 : Int))))) (fun g : Int=>2 <= g /\ g <= 317) (fun g=>(p + 2 - g).toNat) (fun g hg=>by
    obtain ⟨g2, g3⟩:=hg
    refine ⟨decide (g * g <= p), by rw [Yp (by omega) (by omega), Rs.okb], fun c=>?_⟩
    have c : g * g <= p:=of_decide_eq_true c
    have c1 : g ≠ 317:=fun z=>by subst z; omega
    have c2 : 2 * g <= g * g:=Int.mul_le_mul_of_nonneg_right g2 (by omega)
    have c3:=DI h3 g2 (by omega) c
    refine ⟨g + 1, ?_, ⟨by omega, by omega⟩, by omega⟩
    rw [X6 (by omega), Rs.okb, Rs.okb, decide_eq_false (by omega), if_neg (by decide)]) (p.natAbs + 2) 2 ⟨by decide, by decide⟩ (by omega)
  rw [e, Rs.okb, VJ]
theorem C0 {r : List Int} (hl : 3 <= r.length) (v0 : (0 : Int) <= r[0] /\ r[0] < 10) (v1 : (0 : Int) <= r[1] /\ r[1] < 99990) (v2 : (0 : Int) <= r[2] /\ r[2] < 5) : Ok (Q1 r) fun a=>PP a.1 /\ ¬ a.2 % a.1 = 0:=by
  unfold Q1
  simp only [Rs.okb]
  rw [Xw (sz (by decide)), Rs.okb, Yw (r:=r) (k:=0) (n:=0) rfl (by omega), Yw (r:=r) (k:=1) (n:=1) rfl (by omega), Yw (r:=r) (k:=2) (n:=2) rfl (by omega)]
  simp only [Rs.okb]
  obtain ⟨p, ep, hp⟩:=Bc (as:=[(2 : Int), 3, 5, 7, 11, 13, 23, 97, 65537, 99991]) v0.1 v0.2
  have hp : PP p:=by
    have hd : ∀ x ∈ [(2 : Int), 3, 5, 7, 11, 13, 23, 97, 65537, 99991], 2 <= x /\ x <= 99991 /\ C5 x = true:=by decide +kernel
    exact hd p hp
  rw [ep, Rs.okb, UW (by decide) (by decide) (by decide) (by decide)]
  simp only [Rs.okb]
  obtain ⟨h1, h2, h3⟩:=hp
  rw [X6 (by omega), Xw (sz (by simp))]
  simp only [Rs.okb]
  obtain ⟨z, ez, _⟩:=Bc (as:=[0, 0, -3, 1, (10 : Int) ^ (50 : Int).toNat]) v2.1 v2.2
  rw [ez, Rs.okb, Yp (by omega) (by omega), Rs.okb, Rs.okb]
  refine ⟨_, rfl, ⟨h1, h2, h3⟩, ?_⟩
  show ¬ (1 + r[1] % max 1 (p - 1) + p * z) % p = 0
  have m0:=Int.emod_nonneg r[1] (show max 1 (p - 1) ≠ 0 by omega)
  have m1:=Int.emod_lt_of_pos r[1] (show 0 < max 1 (p - 1) by omega)
  rw [Int.add_mul_emod_self_left, Int.emod_eq_of_lt (by omega) (by omega)]
  omega
end My
namespace My
open PySem L2
theorem Kg {K : Nat} {s : Int} {F : Nat -> Int} (h0 : 0 <= s) (h1 : s < (K : Int)) : atR ((List.range K).map F) s = .ok (F s.toNat):=by
  rw [Yw (n:=s.toNat) (by omega) (by simp; omega)]
  simp
theorem VX {K : Nat} {s v : Int} {F : Nat -> Int} (h0 : 0 <= s) (h1 : s < (K : Int)) : Qw ((List.range K).map F) s (F s.toNat + v) = .ok ((List.range K).map fun i=>F i + if (i : Int) = s then v else 0):=by
  obtain ⟨k, rfl⟩ : ∃ k : Nat, s = k:=⟨s.toNat, by omega⟩
  rw [Qy (by simp; omega), Int.toNat_natCast, Z4 (G:=fun i=>F i + if (i : Int) = (k : Int) then v else 0) (by omega) (by rw [if_pos rfl]) fun j _ h=>?_]
  rw [if_neg (by omega), Int.add_zero]
theorem DT {K : Nat} {s v : Int} {F : Nat -> Int} (h0 : 0 <= s) (h1 : s < (K : Int)) : Qw ((List.range K).map F) s (F s.toNat - v) = .ok ((List.range K).map fun i=>F i + if (i : Int) = s then -v else 0):=by
  rw [Int.sub_eq_add_neg]
  exact VX h0 h1
noncomputable def cfT (f : Int) (t : Int × Int × Int) (i : Nat) : Int:=0 + (if (i : Int) = t.1 then f else 0) + (if (i : Int) = t.2.1 then 1 - f else 0) + (if (i : Int) = t.2.2 then -1 else 0)
noncomputable def eqT (K : Nat) (p f : Int) (t : Int × Int × Int) : List Int:=(List.range K).map fun i=>cfT f t i % p
section
variable {D : List (List Int) × List (Int × Int)} {K : Nat} {p f : Int} {ms : List (Int × Int × Int × Int × Int)}
theorem Ic (h : K <= 900) : Ui [(0 : Int)] (K : Int) = .ok ((List.range K).map fun _=>0):=by
  unfold Ui
  rw [Xw ⟨by omega, by omega, sz (by simp; omega)⟩, Int.toNat_natCast, IE]
theorem Bo {N : Int} {m : Int × Int × Int × Int × Int} (h : MG N m) : (0 <= (Zn m).1 /\ (Zn m).1 < N) /\ (0 <= (Zn m).2.1 /\ (Zn m).2.1 < N) /\ (0 <= (Zn m).2.2 /\ (Zn m).2.2 < N):=by
  obtain ⟨_, h1, h2, h3⟩:=h
  unfold Zn
  by_cases c : m.2.1 = 1
  . rw [if_pos c]; exact ⟨h2, h1, h3⟩
  . rw [if_neg c]; exact ⟨h3, h1, h2⟩
theorem B4 (hK : K <= 900) (hp : 0 < p) (t : Int × Int × Int) : Ju ((List.range K).map fun i=>cfT f t i) (fun a46=>ZF a46 p) = .ok (eqT K p f t):=by
  rw [YV (h:=fun a=>a % p) (sz (by simp; omega)) fun a _=>X6 hp, List.map_map]
  rfl
theorem Jd (h : DG D) (hK : X3 D.1 = (K : Int)) (hK2 : K <= 900) (hp : PP p) (hf : ¬ f % p = 0) (e1 : ZE D = .ok ms) (hl : ms.length <= 1000) (hm : ∀ m ∈ ms, MG (K : Int) m) : YF D p f = .ok ((ms.map Zn).map (eqT K p f)):=by
  have hp0 : 0 < p:=by have:=hp.1; omega
  unfold YF
  simp only [Rs.okb]
  rw [show YC p f = .ok () from by
    unfold YC
    simp only [Rs.okb]
    rw [Kt hp, XE]
    simp only [Rs.okb]
    rw [if_neg (by decide), X6 hp0, Rs.okb, Rs.okb, decide_eq_false hf, if_neg (by decide)]]
  rw [XE, Rs.okb, Jg h.few h.short, hK, XE, Rs.okb, EA e1 hl, XE, Rs.okb]
  rw [Qe (h:=eqT K p f) (sz (by simp; omega)) fun g hg t ht=>?_]
  . rw [Rs.okb, List.nil_append]
  . obtain ⟨m, hmm, rfl⟩ := List.mem_map.mp ht
    obtain ⟨a, b, c⟩:=Bo (hm m hmm)
    have hmod:=B4 (f:=f) hK2 hp0 (Zn m)
    unfold cfT at hmod
    rw [Xw (sz (by simp)), Rs.okb, Ic hK2, Rs.okb, Kg a.1 a.2, Rs.okb, VX (F:=fun _=>0) a.1 a.2, Rs.okb, Kg b.1 b.2, Rs.okb, VX (F:=fun i=>0 + if (i : Int) = (Zn m).1 then f else 0) b.1 b.2, Rs.okb, Kg c.1 c.2, Rs.okb, DT (F:=fun i=>0 + (if (i : Int) = (Zn m).1 then f else 0) + if (i : Int) = (Zn m).2.1 then 1 - f else 0) c.1 c.2, Rs.okb, hmod, Rs.okb]
    exact Xw hg
theorem BF (t : Int × Int × Int) : (eqT K p f t).length = K:=by simp [eqT]
theorem EY (hp : PP p) (t : Int × Int × Int) : ∀ x ∈ eqT K p f t, 0 <= x /\ x < 100000:=fun x hx=>by
  obtain ⟨i, _, rfl⟩:=List.mem_map.mp hx
  obtain ⟨h1, h2, _⟩:=hp
  have:=Int.emod_nonneg (cfT f t i) (show p ≠ 0 by omega)
  have:=Int.emod_lt_of_pos (cfT f t i) (show 0 < p by omega)
  show 0 <= cfT f t i % p /\ cfT f t i % p < 100000
  omega
theorem Km {K : Nat} {s v : Int} (h0 : 0 <= s) (h1 : s < (K : Int)) : ((List.range K).map fun (i : Nat)=>if (i : Int) = s then v else 0).sum = v:=by
  have key : ∀ n : Nat, ((List.range n).map fun (i : Nat)=>if (i : Int) = s then v else 0).sum = if s < (n : Int) then v else 0:=by
    intro n
    induction n with
    | zero=>rw [if_neg (by omega)]; rfl
    | succ n ih=>
      rw [List.range_succ, List.map_append, List.sum_append, ih]
      simp only [List.map_cons, List.map_nil, List.sum_cons, List.sum_nil]
      by_cases e : (n : Int) = s
      . rw [if_pos e, if_neg (by omega), if_pos (by omega)]; omega
      . rw [if_neg e]
        by_cases l : s < (n : Int)
        . rw [if_pos l, if_pos (by omega)]; omega
        . rw [if_neg l, if_neg (by omega)]; omega
  rw [key, if_pos h1]
theorem Ko (L : List Nat) (F G : Nat -> Int) : (L.map fun i=>F i + G i).sum = (L.map F).sum + (L.map G).sum:=by
  induction L with
  | nil=>rfl
  | cons a L ih=>simp only [List.map_cons, List.sum_cons, ih]; omega
end
end My
namespace My
open PySem L2
section
variable {D : List (List Int) × List (Int × Int)} {K : Nat} {p f : Int} {ms : List (Int × Int × Int × Int × Int)}
noncomputable def dot (l c : List Int) : Int:=((l.zip c).map fun a=>a.1 * a.2).sum
theorem Fg {l c : List Int} (hl : l.length <= 1000) (hb : ∀ x ∈ l, 0 <= x /\ x < 100000) : Qi l c = .ok (dot l c):=by
  unfold Qi
  simp only [Rs.okb]
  rw [YV (h:=fun a : Int × Int=>a.1 * a.2) (sz (by simp; omega)) fun a ha=>?_, Rs.okb]
  . rfl
  . have := hb a.1 (List.of_mem_zip (a := a.1) (b := a.2) ha).1
    exact Yp (by omega) (by omega)
theorem Ci {c : List Int} (h : DG D) (hK : X3 D.1 = (K : Int)) (hK2 : K <= 900) (hp : PP p) (hf : ¬ f % p = 0) (e1 : ZE D = .ok ms) (hl : ms.length <= 1000) (hm : ∀ m ∈ ms, MG (K : Int) m) : ZV D p f c = .ok (((ms.map Zn).map (eqT K p f)).all fun l=>decide (dot l c % p = 0)):=by
  have hp0 : 0 < p:=by have:=hp.1; omega
  unfold ZV
  simp only [Rs.okb]
  rw [Jd h hK hK2 hp hf e1 hl hm, XE, Rs.okb, YV (h:=fun l=>decide (dot l c % p = 0)) (sz (by simp; omega)) fun l hl=>?_, Rs.okb]
  . rw [List.all_map]
    rfl
  . obtain ⟨t, _, rfl⟩ := List.mem_map.mp hl
    rw [Fg (by rw [BF]; omega) (EY hp t), XE, Rs.okb, X6 hp0, Rs.okb]
end
end My
namespace My
open PySem L2
noncomputable def ch : Nat -> Nat -> Nat
  | _, 0=>1
  | 0, _ + 1=>0
  | n + 1, k + 1=>ch n k + ch n (k + 1)
theorem VH (n : Nat) : ch n 0 = 1:=by cases n <;> rfl
theorem J0 (n k : Nat) : ch (n + 1) (k + 1) = ch n k + ch n (k + 1):=rfl
theorem CO : ∀ (n k : Nat), n < k -> ch n k = 0:=by
  intro n
  induction n with
  | zero=>intro k h; cases k with
    | zero=>omega
    | succ k=>rfl
  | succ n ih=>intro k h; cases k with
    | zero=>omega
    | succ k=>rw [J0, ih k (by omega), ih (k + 1) (by omega)]
theorem Ez (n : Nat) : ch n n = 1:=by
  induction n with
  | zero=>rfl
  | succ n ih=>rw [J0, ih, CO n (n + 1) (by omega)]
theorem Fc : ∀ (n k : Nat), (k + 1) * ch (n + 1) (k + 1) = (n + 1) * ch n k:=by
  intro n
  induction n with
  | zero=>
    intro k
    cases k with
    | zero=>rfl
    | succ k=>rw [CO 1 (k + 2) (by omega), CO 0 (k + 1) (by omega)]; omega
  | succ n ih=>
    intro k
    rw [J0, Nat.mul_add, ih k]
    cases k with
    | zero=>rw [VH, VH]; omega
    | succ j=>
      rw [Nat.succ_mul (j + 1), ih j, J0 n j, Nat.mul_add (n + 1 + 1), Nat.succ_mul (n + 1), Nat.succ_mul (n + 1)]
      omega
noncomputable def YW (f : Nat -> Nat) : Nat -> Nat
  | 0=>0
  | n + 1=>YW f n + f n
theorem QV (f : Nat -> Nat) (n : Nat) : YW f (n + 1) = f 0 + YW (fun k=>f (k + 1)) n:=by
  induction n with
  | zero=>show 0 + f 0 = f 0 + 0; omega
  | succ n ih=>
    show YW f (n + 1) + f (n + 1) = f 0 + (YW (fun k=>f (k + 1)) n + f (n + 1))
    rw [ih]; omega
theorem U7 {f g : Nat -> Nat} : ∀ n, (∀ k, k < n -> f k = g k) -> YW f n = YW g n:=by
  intro n
  induction n with
  | zero=>intro _; rfl
  | succ n ih=>
    intro h
    show YW f n + f n = YW g n + g n
    rw [ih fun k hk=>h k (by omega), h n (by omega)]
theorem GY (f g : Nat -> Nat) (n : Nat) : YW (fun k=>f k + g k) n = YW f n + YW g n:=by
  induction n with
  | zero=>rfl
  | succ n ih=>
    show YW (fun k=>f k + g k) n + (f n + g n) = YW f n + f n + (YW g n + g n)
    rw [ih]; omega
theorem Di (c : Nat) (f : Nat -> Nat) (n : Nat) : YW (fun k=>c * f k) n = c * YW f n:=by
  induction n with
  | zero=>rfl
  | succ n ih=>
    show YW (fun k=>c * f k) n + c * f n = c * (YW f n + f n)
    rw [ih, Nat.mul_add]
theorem Ih (a n : Nat) : (a + 1) ^ n = YW (fun k=>ch n k * a ^ k) (n + 1):=by
  induction n with
  | zero=>rfl
  | succ n ih=>
    have h1 : YW (fun k=>ch n k * a ^ k) (n + 2) = YW (fun k=>ch n k * a ^ k) (n + 1):=by
      show YW (fun k=>ch n k * a ^ k) (n + 1) + ch n (n + 1) * a ^ (n + 1) = _
      rw [CO n (n + 1) (by omega), Nat.zero_mul, Nat.add_zero]
    rw [QV] at h1
    rw [QV]
    have h2 : YW (fun k=>ch (n + 1) (k + 1) * a ^ (k + 1)) (n + 1) = a * YW (fun k=>ch n k * a ^ k) (n + 1) + YW (fun k=>ch n (k + 1) * a ^ (k + 1)) (n + 1):=by
      rw [← Di, ← GY]
      refine U7 _ fun k _=>?_
      rw [J0, Nat.add_mul]
      congr 1
      rw [Nat.pow_succ, Nat.mul_comm (a ^ k) a, Nat.mul_left_comm]
    rw [h2, Nat.pow_succ, ih, Nat.mul_add, Nat.mul_one, Nat.mul_comm _ a]
    simp only [VH, Nat.pow_zero, Nat.mul_one] at h1 ⊢
    omega
noncomputable def EK (p : Nat) : Prop:=2 <= p /\ ∀ d, d ∣ p -> d = 1 ∨ d = p
theorem EK.cop {p : Nat} (h : EK p) {k : Nat} (hk : ¬ p ∣ k) : Nat.Coprime p k:=by
  rcases h.2 (Nat.gcd p k) (Nat.gcd_dvd_left p k) with e | e
  . exact e
  . exact absurd (e ▸ Nat.gcd_dvd_right p k) hk
theorem HH {p : Nat} (h : EK p) {k : Nat} (h0 : 0 < k) (h1 : k < p) : p ∣ ch p k:=by
  obtain ⟨j, rfl⟩ : ∃ j, k = j + 1:=⟨k - 1, by omega⟩
  obtain ⟨q, rfl⟩ : ∃ q, p = q + 1:=⟨p - 1, by omega⟩
  have e:=Fc q j
  have hd : (q + 1) ∣ (j + 1) * ch (q + 1) (j + 1):=⟨_, e⟩
  exact (h.cop (fun z=>by have:=Nat.le_of_dvd (by omega) z; omega)).dvd_of_dvd_mul_left hd
theorem Da {p : Nat} {f : Nat -> Nat} : ∀ n, (∀ k, k < n -> p ∣ f k) -> p ∣ YW f n:=by
  intro n
  induction n with
  | zero=>intro _; exact Nat.dvd_zero p
  | succ n ih=>intro h; exact Nat.dvd_add (ih fun k hk=>h k (by omega)) (h n (by omega))
theorem HP {p : Nat} (h : EK p) (a : Nat) : a ^ p % p = a % p:=by
  induction a with
  | zero=>rw [Nat.zero_pow (by have:=h.1; omega)]
  | succ a ih=>
    obtain ⟨q, rfl⟩ : ∃ q, p = q + 1:=⟨p - 1, by have:=h.1; omega⟩
    rw [Ih]
    have e : YW (fun k=>ch (q + 1) k * a ^ k) (q + 1 + 1) = YW (fun k=>ch (q + 1) (k + 1) * a ^ (k + 1)) q + (1 + a ^ (q + 1)):=by
      show YW (fun k=>ch (q + 1) k * a ^ k) (q + 1) + ch (q + 1) (q + 1) * a ^ (q + 1) = _
      rw [QV, VH, Ez, Nat.pow_zero]; omega
    have hd : (q + 1) ∣ YW (fun k=>ch (q + 1) (k + 1) * a ^ (k + 1)) q:=Da q fun k hk=>Nat.dvd_mul_right_of_dvd (HH h (by omega) (by omega)) _
    obtain ⟨z, hz⟩:=hd
    rw [e, hz, Nat.mul_add_mod, Nat.add_mod, ih, ← Nat.add_mod, Nat.add_comm]
theorem ED {p : Nat} (h : EK p) {a : Nat} (ha : ¬ p ∣ a) : (a * a ^ (p - 2)) % p = 1:=by
  obtain ⟨q, rfl⟩ : ∃ q, p = q + 2:=⟨p - 2, by have:=h.1; omega⟩
  show a * a ^ q % (q + 2) = 1
  have hf:=HP h a
  have hpos : 0 < a:=Nat.pos_of_ne_zero fun z=>ha (by rw [z]; exact Nat.dvd_zero _)
  have h1 : 1 <= a ^ (q + 1):=Nat.one_le_pow _ _ hpos
  have e : a ^ (q + 2) = a * a ^ (q + 1):=by rw [Nat.pow_succ, Nat.mul_comm]
  have hle : a <= a ^ (q + 2):=by rw [e]; exact Nat.le_mul_of_pos_right a h1
  have hd : (q + 2) ∣ a ^ (q + 2) - a:=Nat.dvd_of_mod_eq_zero (Nat.sub_mod_eq_zero_of_mod_eq hf)
  have e2 : a ^ (q + 2) - a = a * (a ^ (q + 1) - 1):=by rw [e, Nat.mul_sub, Nat.mul_one]
  rw [e2] at hd
  have hd2:=(h.cop ha).dvd_of_dvd_mul_left hd
  have e3 : a * a ^ q = a ^ (q + 1):=by rw [Nat.pow_succ, Nat.mul_comm]
  rw [e3]
  obtain ⟨z, hz⟩:=hd2
  have : a ^ (q + 1) = 1 + (q + 2) * z:=by omega
  rw [this, Nat.add_mul_mod_self_left]
  exact Nat.mod_eq_of_lt (by omega)
end My
namespace My
open PySem L2
noncomputable def Cg (p x y : Int) : Prop:=p ∣ x - y
section
variable {p x y z u v : Int}
theorem Cg.refl (p x : Int) : Cg p x x:=⟨0, by omega⟩
theorem Cg.of (h : x = y) : Cg p x y:=h ▸ Cg.refl p x
theorem Cg.symm (h : Cg p x y) : Cg p y x:=by
  obtain ⟨c, h⟩:=h
  exact ⟨-c, by rw [Int.mul_neg]; omega⟩
theorem Cg.trans (h : Cg p x y) (g : Cg p y z) : Cg p x z:=by
  obtain ⟨c, h⟩:=h
  obtain ⟨d, g⟩:=g
  exact ⟨c + d, by rw [Int.mul_add]; omega⟩
theorem Cg.add (h : Cg p x y) (g : Cg p u v) : Cg p (x + u) (y + v):=by
  obtain ⟨c, h⟩:=h
  obtain ⟨d, g⟩:=g
  exact ⟨c + d, by rw [Int.mul_add]; omega⟩
theorem Cg.mul (h : Cg p x y) (g : Cg p u v) : Cg p (x * u) (y * v):=by
  obtain ⟨c, h⟩:=h
  obtain ⟨d, g⟩:=g
  have e1 : x = y + p * c:=by omega
  have e2 : u = v + p * d:=by omega
  refine ⟨c * u + y * d, ?_⟩
  have : x * u = y * u + p * (c * u):=by rw [e1, Int.add_mul, Int.mul_assoc]
  rw [this, e2, Int.mul_add y, Int.mul_add p, Int.mul_left_comm y p d]
  omega
theorem Cg.sub (h : Cg p x y) (g : Cg p u v) : Cg p (x - u) (y - v):=by
  obtain ⟨c, h⟩:=h
  obtain ⟨d, g⟩:=g
  exact ⟨c - d, by rw [Int.mul_sub]; omega⟩
theorem Cg.emod (p x : Int) : Cg p (x % p) x:=⟨-(x / p), by rw [Int.emod_def, Int.mul_neg]; omega⟩
theorem Cg.pow (h : Cg p x y) (n : Nat) : Cg p (x ^ n) (y ^ n):=by
  induction n with
  | zero=>rw [Int.pow_zero, Int.pow_zero]; exact Cg.refl ..
  | succ n ih=>rw [Int.pow_succ, Int.pow_succ]; exact ih.mul h
theorem Cg.eq (h : Cg p x y) (h1 : 0 <= x /\ x < p) (h2 : 0 <= y /\ y < p) : x = y:=by
  have e : (x - y) % p = 0:=Int.emod_eq_zero_of_dvd h
  have:=Int.emod_emod_of_dvd
  have e2 : x % p = y % p:=Int.emod_eq_emod_iff_emod_sub_eq_zero.mpr e
  rwa [Int.emod_eq_of_lt h1.1 h1.2, Int.emod_eq_of_lt h2.1 h2.2] at e2
theorem Cg.rest (h : Cg p x y) (h2 : 0 <= y /\ y < p) : x % p = y:=by
  have e : (x - y) % p = 0:=Int.emod_eq_zero_of_dvd h
  have e2 : x % p = y % p:=Int.emod_eq_emod_iff_emod_sub_eq_zero.mpr e
  rwa [Int.emod_eq_of_lt h2.1 h2.2] at e2
end
theorem Bi (s : Int) (h : Nat) : (s * s) ^ h = s ^ (2 * h):=by
  induction h with
  | zero=>rw [Nat.mul_zero, Int.pow_zero, Int.pow_zero]
  | succ h ih=>rw [Int.pow_succ, ih, show 2 * (h + 1) = 2 * h + 1 + 1 by omega, Int.pow_succ, Int.pow_succ, Int.mul_assoc]
theorem BO {p : Int} (h : PP p) : EK p.toNat:=by
  obtain ⟨h1, h2, h3⟩:=h
  obtain ⟨n, rfl⟩ : ∃ n : Nat, p = n:=⟨p.toNat, by omega⟩
  rw [Int.toNat_natCast]
  have key : ∀ d e : Nat, n = d * e -> d <= e -> 2 <= d -> False:=fun d e he hle hd=>by
    have hdd : d * d <= n:=by rw [he]; exact Nat.mul_le_mul_left d hle
    have h317 : d < 317:=by
      rcases Nat.lt_or_ge d 317 with h | h
      . exact h
      . have := Nat.mul_le_mul h h
        omega
    have hg:=DI h3 (a:=(d : Int)) (by omega) (by omega) (by
      have : ((d * d : Nat) : Int) <= (n : Int):=by omega
      rwa [Int.natCast_mul] at this)
    have : (n : Int) % (d : Int) = 0:=Int.emod_eq_zero_of_dvd ⟨(e : Int), by rw [he, Int.natCast_mul]⟩
    omega
  refine ⟨by omega, fun d r9=>?_⟩
  obtain ⟨e, he⟩:=r9
  rcases Nat.le_total d e with hle | hle
  . rcases (by omega : d = 0 ∨ d = 1 ∨ 2 <= d) with hd | hd | hd
    . rw [hd, Nat.zero_mul] at he; omega
    . exact .inl hd
    . exact (key d e he hle hd).elim
  . rcases (by omega : e = 0 ∨ e = 1 ∨ 2 <= e) with hd | hd | hd
    . rw [hd, Nat.mul_zero] at he; omega
    . rw [hd, Nat.mul_one] at he; exact .inr he.symm
    . exact (key e d (by rw [he, Nat.mul_comm]) hle hd).elim
theorem GG {γ : Type} {c : γ -> Rs Bool} {f : γ -> Rs γ} (P : γ -> Prop) (μ : γ -> Nat) (hs : ∀ g, P g -> c g = .ok (decide (0 < μ g)) /\ (0 < μ g -> Ok (f g) fun g'=>P g' /\ μ g' = μ g / 2)) : ∀ (n : Nat) (g : γ), P g -> μ g < 2 ^ n -> Ok (Z5 (n + 1) g c f) fun g'=>P g' /\ μ g' = 0:=by
  intro n
  induction n with
  | zero=>
    intro g hp hl
    have h0 : μ g = 0:=by rw [Nat.pow_zero] at hl; omega
    rw [Z5, (hs g hp).1, h0]
    exact ⟨g, rfl, hp, h0⟩
  | succ n ih=>
    intro g hp hl
    rw [Z5, (hs g hp).1, Rs.okb]
    by_cases h : 0 < μ g
    . rw [if_pos (decide_eq_true h)]
      refine Ok.bind ((hs g hp).2 h) fun g' hg=>ih g' hg.1 ?_
      rw [hg.2, Nat.div_lt_iff_lt_mul (by decide)]
      rw [Nat.pow_succ] at hl
      exact hl
    . rw [if_neg (by rw [decide_eq_true_eq]; exact h)]
      exact ⟨g, rfl, hp, by omega⟩
theorem GM {p a : Int} (hp : PP p) (h0 : 0 < a) (h1 : a < p) : Ok (Yz a p) fun r=>0 <= r /\ r < p /\ Cg p (a * r) 1:=by
  obtain ⟨p1, p2, _⟩:=id hp
  unfold Yz
  simp only [Rs.okb]
  refine Ok.bind (GG (fun g : Int × Int × Int=>(0 <= g.1 /\ g.1 < p) /\ (0 <= g.2.1 /\ g.2.1 <= 100000) /\ (0 <= g.2.2 /\ g.2.2 < p) /\ Cg p (g.2.2 * g.1 ^ g.2.1.toNat) (a ^ (p - 2).toNat)) (fun g=>g.2.1.toNat) (fun g hg=>?_) 99 (a, p - 2, 1) ⟨⟨by omega, h1⟩, ⟨by show 0 <= p - 2; omega, by show p - 2 <= 100000; omega⟩, ⟨by show (0 : Int) <= 1; decide, by show (1 : Int) < p; omega⟩, Cg.of (Int.one_mul _)⟩ (by show (p - 2).toNat < 2 ^ 99; omega)) fun g hg=>⟨_, rfl, ?_⟩
  . obtain ⟨⟨a1, a2⟩, ⟨b1, b2⟩, ⟨c1, c2⟩, d⟩ := hg
    refine ⟨?_, fun hl=>?_⟩
    . have : (0 < g.2.1) ↔ 0 < g.2.1.toNat := by omega
      simp only [this]
    . have hl : 0 < g.2.1.toNat := hl
      rw [X6 (by decide), Rs.okb, Rs.okb, Yp (a:=g.2.2) (by omega) (by omega), Yp (a:=g.1) (by omega) (by omega), Rs.okb, X6 (by omega), show HX g.2.1 2 = .ok (g.2.1 / 2) from Xw (by decide)]
      simp only [Rs.okb]
      have hm : ∀ w : Int, 0 <= w % p /\ w % p < p:=fun w=>⟨Int.emod_nonneg _ (by omega), Int.emod_lt_of_pos _ (by omega)⟩
      have ht : (g.2.1 / 2).toNat = g.2.1.toNat / 2:=by omega
      by_cases hodd : g.2.1 % 2 = 1
      . rw [if_pos (decide_eq_true hodd), X6 (by omega)]
        simp only [Rs.okb]
        refine ⟨_, rfl, ⟨hm _, ⟨by show 0 <= g.2.1 / 2; omega, by show g.2.1 / 2 <= 100000; omega⟩, hm _, ?_⟩, ht⟩
        show Cg p (g.2.2 * g.1 % p * (g.1 * g.1 % p) ^ (g.2.1 / 2).toNat) _
        refine (((Cg.emod p _).mul ((Cg.emod p _).pow _)).trans (Cg.of ?_)).trans d
        rw [Bi, ht, Int.mul_assoc, Int.mul_comm g.1, ← Int.pow_succ]
        congr 2
        omega
      . rw [if_neg (by rw [decide_eq_true_eq]; exact hodd), Rs.okb, X6 (by omega), Rs.okb]
        refine ⟨(g.1 * g.1 % p, g.2.1 / 2, g.2.2), rfl, ⟨hm _, ⟨by show 0 <= g.2.1 / 2; omega, by show g.2.1 / 2 <= 100000; omega⟩, ⟨c1, c2⟩, ?_⟩, ht⟩
        show Cg p (g.2.2 * (g.1 * g.1 % p) ^ (g.2.1 / 2).toNat) _
        refine (((Cg.refl p _).mul ((Cg.emod p _).pow _)).trans (Cg.of ?_)).trans d
        rw [Bi, ht]
        congr 2
        omega
  . obtain ⟨⟨_, _, c, d⟩, hz⟩ := hg
    have hz : g.2.1.toNat = 0:=hz
    rw [hz, Int.pow_zero, Int.mul_one] at d
    refine ⟨c.1, c.2, ((Cg.refl p a).mul d).trans ?_⟩
    obtain ⟨n, rfl⟩ : ∃ n : Nat, a = n:=⟨a.toNat, by omega⟩
    obtain ⟨q, rfl⟩ : ∃ q : Nat, p = q:=⟨p.toNat, by omega⟩
    have hf:=ED (BO hp) (a:=n) (fun z=>by rw [Int.toNat_natCast] at z; have:=Nat.le_of_dvd (by omega) z; omega)
    rw [Int.toNat_natCast] at hf
    have e : ((q : Int) - 2).toNat = q - 2:=by omega
    have h2:=Nat.div_add_mod (n * n ^ (q - 2)) q
    rw [hf] at h2
    refine ⟨((n * n ^ (q - 2) / q : Nat) : Int), ?_⟩
    rw [e, ← Int.natCast_pow, ← Int.natCast_mul, ← Int.natCast_mul]
    omega
noncomputable def XZ (M : Nat) (r : Nat -> Int) : List Int:=(List.range M).map r
theorem Zy (M : Nat) (r : Nat -> Int) : (XZ M r).length = M:=by simp [XZ]
theorem Qc {M : Nat} {r : Nat -> Int} {j : Nat} (h : j < M) : atR (XZ M r) (j : Int) = .ok (r j):=Zv (by simp [XZ, h])
theorem Zg {M : Nat} {r q : Nat -> Int} (h : ∀ j, j < M -> r j = q j) : XZ M r = XZ M q:=List.map_congr_left fun j hj=>h j (List.mem_range.mp hj)
noncomputable def tim (p s : Int) (r : Nat -> Int) (j : Nat) : Int:=s * r j % p
noncomputable def clr (p : Int) (a : Nat) (l r : Nat -> Int) (j : Nat) : Int:=(r j - r a * l j) % p
theorem CS {M : Nat} {r : Nat -> Int} {s p : Int} (hM : M <= 1000) (h0 : 0 <= s) (h1 : s < 2 ^ 63) (hp : 0 < p) : Q3 (XZ M r) s p = .ok (XZ M (tim p s r)):=by
  unfold Q3
  simp only [Rs.okb]
  rw [YV (h:=fun x=>s * x % p) (sz (by rw [Zy]; omega)) fun x _=>by rw [Yp (by omega) (by omega), Rs.okb, X6 hp]]
  unfold XZ
  rw [List.map_map]
  rfl
theorem Vz {M a : Nat} {r l : Nat -> Int} {p : Int} (hM : M <= 1000) (ha : a < M) (h0 : 0 <= r a) (h1 : r a < 2 ^ 63) (hp : 0 < p) : Zi (XZ M r) (XZ M l) (a : Int) p = .ok (XZ M (clr p a l r)):=by
  unfold Zi
  simp only [Rs.okb]
  rw [Qc ha]
  simp only [Rs.okb]
  rw [YV (h:=fun x : Int × Int=>(x.1 - r a * x.2) % p) (sz (by simp [XZ]; omega)) fun x _=>by rw [Yp (by omega) (by omega), Rs.okb, Rs.okb, X6 hp]]
  unfold XZ
  rw [List.zip_map', List.map_map]
  rfl
noncomputable def QQ (N : Nat) (F : Nat -> Int) : Int:=((List.range N).map F).sum
theorem YS (N : Nat) (F : Nat -> Int) : QQ (N + 1) F = QQ N F + F N:=by
  unfold QQ
  rw [List.range_succ, List.map_append, List.sum_append]
  simp
theorem Vw {F G : Nat -> Int} (N : Nat) (h : ∀ i, i < N -> F i = G i) : QQ N F = QQ N G:=by
  unfold QQ
  rw [List.map_congr_left fun i hi=>h i (List.mem_range.mp hi)]
theorem QR {p : Int} {F G : Nat -> Int} (N : Nat) (h : ∀ i, i < N -> Cg p (F i) (G i)) : Cg p (QQ N F) (QQ N G):=by
  induction N with
  | zero=>exact Cg.refl ..
  | succ N ih=>rw [YS, YS]; exact (ih fun i hi=>h i (by omega)).add (h N (by omega))
theorem JA (N : Nat) (u v : Int) (F G : Nat -> Int) : QQ N (fun i=>u * F i + v * G i) = u * QQ N F + v * QQ N G:=by
  induction N with
  | zero=>show (0 : Int) = u * 0 + v * 0; omega
  | succ N ih=>rw [YS, YS, YS, ih, Int.mul_add, Int.mul_add]; omega
theorem Qa (N : Nat) {F : Nat -> Int} (h : ∀ i, i < N -> F i = 0) : QQ N F = 0:=by
  induction N with
  | zero=>rfl
  | succ N ih=>rw [YS, ih fun i hi=>h i (by omega), h N (by omega)]; rfl
theorem ZL {N k : Nat} (F : Nat -> Int) (h : k < N) (hz : ∀ i, i < N -> i ≠ k -> F i = 0) : QQ N F = F k:=by
  induction N with
  | zero=>omega
  | succ N ih=>
    rw [YS]
    by_cases e : k = N
    . subst e
      rw [Qa _ fun i hi=>hz i (by omega) (by omega)]; omega
    . rw [ih (by omega) fun i hi=>hz i (by omega), hz N (by omega) (fun z=>e z.symm)]; omega
section
variable {p : Int} {K N : Nat} {e : Nat -> Nat -> Int}
noncomputable def Lin (p : Int) (K N : Nat) (e : Nat -> Nat -> Int) (r : Nat -> Int) : Prop:=∀ j, j < K -> Cg p (r j) (QQ N fun k=>r (K + k) * e k j)
noncomputable def Ran (p : Int) (M : Nat) (r : Nat -> Int) : Prop:=∀ j, j < M -> 0 <= r j /\ r j < p
noncomputable def Kil (p : Int) (K : Nat) (r c : Nat -> Int) : Prop:=Cg p (QQ K fun j=>r j * c j) 0
theorem Gj {r l t : Nat -> Int} {u v : Int} (hr : Lin p K N e r) (hl : Lin p K N e l) (ht : ∀ j, j < K + N -> Cg p (t j) (u * r j + v * l j)) : Lin p K N e t:=fun j hj=>by
  refine (ht j (by omega)).trans ((((Cg.refl p u).mul (hr j hj)).add ((Cg.refl p v).mul (hl j hj))).trans ?_)
  rw [← JA]
  refine QR N fun k hk=>?_
  have:=((ht (K + k) (by omega)).mul (Cg.refl p (e k j))).symm
  rw [Int.add_mul, Int.mul_assoc, Int.mul_assoc] at this
  exact this
theorem K1 {r l t c : Nat -> Int} {u v : Int} (hr : Kil p K r c) (hl : Kil p K l c) (ht : ∀ j, j < K -> Cg p (t j) (u * r j + v * l j)) : Kil p K t c:=by
  unfold Kil at hr hl ⊢
  have h1 : Cg p (QQ K fun j=>t j * c j) (QQ K fun j=>u * (r j * c j) + v * (l j * c j)):=QR K fun j hj=>by
    have:=(ht j hj).mul (Cg.refl p (c j))
    rw [Int.add_mul, Int.mul_assoc, Int.mul_assoc] at this
    exact this
  rw [JA] at h1
  refine h1.trans ((((Cg.refl p u).mul hr).add ((Cg.refl p v).mul hl)).trans (Cg.of ?_))
  omega
theorem E6 (s : Int) (r : Nat -> Int) (j : Nat) : Cg p (tim p s r j) (s * r j + 0 * r j):=by
  rw [Int.zero_mul, Int.add_zero]; exact Cg.emod ..
theorem Bq (a : Nat) (l r : Nat -> Int) (j : Nat) : Cg p (clr p a l r j) (1 * r j + -(r a) * l j):=by
  rw [Int.one_mul, Int.neg_mul, ← Int.sub_eq_add_neg]; exact Cg.emod ..
structure GI (p : Int) (K N : Nat) (e : Nat -> Nat -> Int) (a : Nat) (ws : List (Nat -> Int)) (ts : List (Nat × (Nat -> Int))) : Prop where
  wl : ∀ r ∈ ws, Lin p K N e r /\ Ran p (K + N) r /\ ∀ j, j < a -> r j = 0
  tl : ∀ t ∈ ts, Lin p K N e t.2 /\ Ran p (K + N) t.2 /\ t.1 < a /\ t.2 t.1 = 1 /\ (∀ j, j < t.1 -> t.2 j = 0) /\ ∀ t' ∈ ts, t'.1 ≠ t.1 -> t.2 t'.1 = 0
  inc : (ts.map (·.1)).Pairwise (· < ·)
  sp : ∀ c : Nat -> Int, (∀ r ∈ ws, Kil p K r c) -> (∀ t ∈ ts, Kil p K t.2 c) -> ∀ k, k < N -> Kil p K (e k) c
theorem Q2 (hp : 0 < p) (x : Int) : 0 <= x % p /\ x % p < p:=⟨Int.emod_nonneg _ (by omega), Int.emod_lt_of_pos _ hp⟩
theorem GI.skip {a : Nat} {ws : List (Nat -> Int)} {ts : List (Nat × (Nat -> Int))} (h : GI p K N e a ws ts) (hz : ∀ r ∈ ws, r a = 0) : GI p K N e (a + 1) ws ts where
  wl:=fun r hr=>by
    obtain ⟨h1, h2, h3⟩:=h.wl r hr
    refine ⟨h1, h2, fun j hj=>?_⟩
    rcases (by omega : j < a ∨ j = a) with q | q
    . exact h3 j q
    . rw [q]; exact hz r hr
  tl:=fun t ht=>by
    obtain ⟨h1, h2, h3, h4, h5, h6⟩:=h.tl t ht
    exact ⟨h1, h2, by omega, h4, h5, h6⟩
  inc:=h.inc
  sp:=h.sp
theorem GI.step {a : Nat} {ws : List (Nat -> Int)} {ts : List (Nat × (Nat -> Int))} {l : Nat -> Int} {s : Int} (h : GI p K N e a ws ts) (hp : 1 < p) (ha : a < K) (hl : l ∈ ws) (hs : Cg p (l a * s) 1) : GI p K N e (a + 1) (ws.map (clr p a (tim p s l))) (ts.map (fun t=>(t.1, clr p a (tim p s l) t.2)) ++ [(a, tim p s l)]):=by
  obtain ⟨l1, l2, l3⟩:=h.wl l hl
  have hpp : 0 < p:=by omega
  have L1 : Lin p K N e (tim p s l):=Gj l1 l1 fun j _=>E6 s l j
  have L2 : Ran p (K + N) (tim p s l):=fun j _=>Q2 hpp _
  have L3 : ∀ j, j < a -> tim p s l j = 0:=fun j hj=>by
    show s * l j % p = 0
    rw [l3 j hj, Int.mul_zero, Int.zero_emod]
  have L4 : tim p s l a = 1:=Cg.rest (by rw [Int.mul_comm]; exact hs) ⟨by decide, hp⟩
  generalize tim p s l = m at L1 L2 L3 L4
  have hclr : ∀ {r : Nat -> Int}, Lin p K N e r -> Lin p K N e (clr p a m r):=fun {r} hr=>Gj hr L1 fun j _=>Bq a m r j
  have hran : ∀ r : Nat -> Int, Ran p (K + N) (clr p a m r):=fun r j _=>Q2 hpp _
  have hat : ∀ r : Nat -> Int, clr p a m r a = 0:=fun r=>by
    show (r a - r a * m a) % p = 0
    rw [L4, Int.mul_one, Int.sub_self, Int.zero_emod]
  have hlow : ∀ (r : Nat -> Int) j, j < a -> Ran p (K + N) r -> clr p a m r j = r j:=fun r j hj hr=>by
    show (r j - r a * m j) % p = r j
    rw [L3 j hj, Int.mul_zero, Int.sub_zero]
    have:=hr j (by omega)
    exact Int.emod_eq_of_lt this.1 this.2
  refine ⟨fun r hr=>?_, fun t ht=>?_, ?_, fun c hw ht=>?_⟩
  . obtain ⟨r, hr', rfl⟩ := List.mem_map.mp hr
    obtain ⟨h1, h2, h3⟩:=h.wl r hr'
    refine ⟨hclr h1, hran r, fun j hj=>?_⟩
    rcases (by omega : j < a ∨ j = a) with q | q
    . rw [hlow r j q h2]; exact h3 j q
    . rw [q]; exact hat r
  . rcases List.mem_append.mp ht with ht | ht
    . obtain ⟨t, htt, rfl⟩ := List.mem_map.mp ht
      obtain ⟨h1, h2, h3, h4, h5, h6⟩:=h.tl t htt
      refine ⟨hclr h1, hran _, by show t.1 < a + 1; omega, ?_, fun j hj=>?_, fun t' ht' hne=>?_⟩
      . show clr p a m t.2 t.1 = 1
        rw [hlow _ _ h3 h2]; exact h4
      . have hj : j < t.1 := hj
        show clr p a m t.2 j = 0
        rw [hlow _ _ (by omega) h2]; exact h5 j hj
      . show clr p a m t.2 t'.1 = 0
        rcases List.mem_append.mp ht' with q | q
        . obtain ⟨t', q', rfl⟩ := List.mem_map.mp q
          show clr p a m t.2 t'.1 = 0
          rw [hlow _ _ (h.tl t' q').2.2.1 h2]
          exact h6 t' q' hne
        . rw [List.mem_singleton.mp q]; exact hat _
    . rw [List.mem_singleton.mp ht]
      refine ⟨L1, L2, by show a < a + 1; omega, L4, L3, fun t' ht' hne=>?_⟩
      rcases List.mem_append.mp ht' with q | q
      . obtain ⟨t', q', rfl⟩ := List.mem_map.mp q
        exact L3 _ (h.tl t' q').2.2.1
      . rw [List.mem_singleton.mp q] at hne
        exact absurd rfl hne
  . rw [List.map_append, List.map_map]
    show (ts.map (·.1) ++ [a]).Pairwise (· < ·)
    rw [List.pairwise_append]
    refine ⟨h.inc, by simp, fun x hx y hy=>?_⟩
    obtain ⟨t, ht, rfl⟩:=List.mem_map.mp hx
    rw [List.mem_singleton.mp hy]
    exact (h.tl t ht).2.2.1
  . have hm : Kil p K m c := ht (a, m) (List.mem_append_right _ (by simp))
    have back : ∀ r : Nat -> Int, Kil p K (clr p a m r) c -> Kil p K r c:=fun r hr=>K1 hr hm fun j _=>by
      have:=(Bq (p:=p) a m r j).symm
      refine (Cg.of ?_).trans ((this.mul (Cg.refl p 1)).add (Cg.refl p (r a * m j))) |>.trans (Cg.of ?_)
      . rw [Int.mul_one, Int.neg_mul]; omega
      . rw [Int.mul_comm _ 1]
    exact h.sp c (fun r hr=>back r (hw _ (List.mem_map.mpr ⟨r, hr, rfl⟩))) fun t ht'=>back t.2 (ht (t.1, clr p a m t.2) (List.mem_append_left _ (List.mem_map.mpr ⟨t, ht', rfl⟩)))
noncomputable def Qk (M : Nat) (t : Nat × (Nat -> Int)) : Int × List Int:=((t.1 : Int), XZ M t.2)
theorem Hl (hp : PP p) {ws0 : List (Nat -> Int)} (hK : K <= 100) (hN : N <= 100) (hw : ws0.length <= 100) (h0 : GI p K N e 0 ws0 []) : Ok (Zr (ws0.map (XZ (K + N))) (K : Int) p) fun told=>∃ ws ts, told = ts.map (Qk (K + N)) /\ GI p K N e K ws ts:=by
  obtain ⟨p1, p2, _⟩:=id hp
  unfold Zr
  simp only [Rs.okb]
  rw [ZX (by omega), Rs.okb]
  refine Ok.bind (Ok.forN (fun a (g : List (List Int) × List (Int × List Int))=>∃ ws ts, g = (ws.map (XZ (K + N)), ts.map (Qk (K + N))) /\ GI p K N e a ws ts /\ ws.length <= 100 /\ ts.length <= a) ⟨ws0, [], rfl, h0, hw, Nat.le_refl _⟩ fun a x g hx hg=>?_) fun g hg=>?_
  . obtain ⟨rfl, ha⟩ := Y2 hx
    obtain ⟨ws, ts, rfl, hI, hwl, htl⟩:=hg
    have hfil : Bs (ws.map (XZ (K + N))) (fun a16=>(Rs.bind (atR a16 (a : Int)) fun x21=>(Rs.ok (!decide (x21 = (0 : Int)))))) (fun a16=>Rs.ok a16) = .ok ((ws.filter fun r=>!decide (r a = 0)).map (XZ (K + N))):=by
      rw [V9 (p:=fun row=>!decide (row.getD a 0 = 0)) (h:=fun row=>row) (sz (by simp; omega)) (fun row hrow=>?_) fun _ _ _=>rfl]
      . rw [List.map_id', List.filter_map]
        congr 2
        refine List.filter_congr fun r _=>?_
        show (!decide ((XZ (K + N) r).getD a 0 = 0)) = _
        have : (XZ (K + N) r).getD a 0 = r a:=by simp [XZ, show a < K + N by omega]
        rw [this]
      . obtain ⟨r, hr, rfl⟩ := List.mem_map.mp hrow
        have : (XZ (K + N) r).getD a 0 = r a:=by simp [XZ, show a < K + N by omega]
        rw [Qc (by omega), Rs.okb, this]
    rw [hfil, Rs.okb]
    cases hls : ws.filter fun r=>!decide (r a = 0) with
    | nil=>
      rw [List.map_nil, if_neg (by decide), Rs.okb]
      refine ⟨_, rfl, ws, ts, rfl, hI.skip fun r hr=>?_, hwl, by omega⟩
      have:=List.filter_eq_nil_iff.mp hls r hr
      simpa using this
    | cons l rest=>
      have hmem : l ∈ ws.filter fun r=>!decide (r a = 0):=by rw [hls]; exact List.mem_cons_self
      obtain ⟨hl, hne⟩:=List.mem_filter.mp hmem
      have hne : l a ≠ 0:=by simpa using hne
      have hlr:=(hI.wl l hl).2.1 a (by omega)
      rw [if_pos (by simp), show atR ((l :: rest).map (XZ (K + N))) 0 = .ok (XZ (K + N) l) from Zv (i:=0) rfl]
      simp only [Rs.okb]
      rw [Qc (show a < K + N by omega), Rs.okb]
      obtain ⟨s, es, s0, s1, sc⟩:=GM hp (a:=l a) (by omega) hlr.2
      rw [es, XE, Rs.okb, CS (by omega) s0 (by omega) (by omega), XE, Rs.okb]
      rw [YV (h:=fun row=>XZ (K + N) (clr p a (tim p s l) fun j=>row.getD j 0)) (sz (by simp; omega)) fun row hrow=>?_, Rs.okb]
      . rw [YV (h := fun t : Int × List Int => (t.1, XZ (K + N) (clr p a (tim p s l) fun j => t.2.getD j 0))) (sz (by simp; omega)) fun t ht => ?_, Rs.okb]
        . rw [Xw (sz (by simp)), Rs.okb, show ∀ l1 l2 : List (Int × List Int), l1.length + l2.length <= 1000 -> Fx l1 l2 = .ok (l1 ++ l2) from fun l1 l2 h => Xw (sz (by omega)), Rs.okb]
          . refine ⟨_, rfl, _, _, ?_, hI.step (by omega) ha hl sc, by simpa using hwl, by simp; omega⟩
            have hg : ∀ r : Nat -> Int, XZ (K + N) (clr p a (tim p s l) fun j=>(XZ (K + N) r).getD j 0) = XZ (K + N) (clr p a (tim p s l) r):=fun r=>Zg fun j hj=>by
              have q : ∀ j, j < K + N -> (XZ (K + N) r).getD j 0 = r j:=fun j hj=>by simp [XZ, hj]
              show ((XZ (K + N) r).getD j 0 - (XZ (K + N) r).getD a 0 * _) % p = _
              rw [q j hj, q a (by omega)]
              rfl
            refine Prod.ext ?_ ?_
            . show (ws.map (XZ (K + N))).map _ = (ws.map _).map _
              rw [List.map_map, List.map_map]
              exact List.map_congr_left fun r _=>hg r
            . show (ts.map (Qk (K + N))).map _ ++ [((a : Int), XZ (K + N) (tim p s l))] = (ts.map _ ++ [(a, tim p s l)]).map _
              rw [List.map_append, List.map_map, List.map_map]
              congr 1
              refine List.map_congr_left fun t _=>?_
              show ((t.1 : Int), _) = ((t.1 : Int), _)
              rw [← hg t.2]
              rfl
          . simp; omega
        . obtain ⟨t, htt, rfl⟩ := List.mem_map.mp ht
          have hr:=(hI.tl t htt).2.1 a (by omega)
          show ((noE (Zi (XZ (K + N) t.2) _ _ _)).bind _) = _
          rw [Vz (by omega) (by omega) hr.1 (by omega) (by omega), XE, Rs.okb]
          congr 2
          refine Zg fun j hj=>?_
          have q : ∀ j, j < K + N -> (Qk (K + N) t).2.getD j 0 = t.2 j:=fun j hj=>by simp [Qk, XZ, hj]
          show _ = ((Qk (K + N) t).2.getD j 0 - (Qk (K + N) t).2.getD a 0 * _) % p
          rw [q j hj, q a (by omega)]
          rfl
      . obtain ⟨r, hrr, rfl⟩ := List.mem_map.mp hrow
        have hr:=(hI.wl r hrr).2.1 a (by omega)
        rw [Vz (by omega) (by omega) hr.1 (by omega) (by omega), XE]
        congr 1
        refine Zg fun j hj=>?_
        have q : ∀ j, j < K + N -> (XZ (K + N) r).getD j 0 = r j:=fun j hj=>by simp [XZ, hj]
        show _ = ((XZ (K + N) r).getD j 0 - (XZ (K + N) r).getD a 0 * _) % p
        rw [q j hj, q a (by omega)]
        rfl
  . obtain ⟨ws, ts, rfl, hI, _, _⟩ := hg
    rw [Y9] at hI
    exact ⟨_, rfl, ws, ts, rfl, hI⟩
end
end My
namespace My
open PySem L2
theorem Du {α : Type} : ∀ {l acc : List (Int × α)}, ((acc ++ l).map (·.1)).Nodup -> Gv acc l = acc ++ l:=by
  intro l
  induction l with
  | nil=>intro acc _; rw [List.append_nil]; rfl
  | cons x l ih=>
    intro acc h
    show Gv (J6 acc x.1 x.2) l = _
    have hx : J6 acc x.1 x.2 = acc ++ [x]:=by
      unfold J6
      rw [if_neg]
      rw [List.any_eq_true]
      rintro ⟨kv, h1, h2⟩
      rw [List.map_append, List.nodup_append] at h
      exact h.2.2 kv.1 (List.mem_map.mpr ⟨kv, h1, rfl⟩) x.1 (by simp) (by simpa using h2)
    rw [hx, ih (by simpa using h), List.append_assoc]
    rfl
theorem DF {α : Type} (d : List (Int × α)) (x : Int) : (Zf d x).isSome = true ↔ x ∈ d.map (·.1):=by
  unfold Zf
  rw [Option.isSome_map, List.find?_isSome, List.mem_map]
  simp
theorem Fh {n k : Nat} (hk : k < n) (hn : n <= 900) : Jb (n : Int) (k : Int) = .ok (XZ n fun j=>if j = k then 1 else 0):=by
  unfold Jb
  simp only [Rs.okb]
  rw [Xw (sz (by simp)), Rs.okb, Ic hn, Rs.okb, Qy (by simp; omega), Rs.okb]
  congr 1
  exact Z4 hk (by rw [if_pos rfl]) fun j _ h=>by rw [if_neg h]
noncomputable def w0 (K : Nat) (e : Nat -> Nat -> Int) (k j : Nat) : Int:=if j < K then e k j else if j = K + k then 1 else 0
theorem B6 {K N : Nat} {e : Nat -> Nat -> Int} (hK : K <= 100) (hN : N <= 100) : YB ((List.range N).map fun k=>XZ K (e k)) = .ok (((List.range N).map (w0 K e)).map (XZ (K + N))):=by
  unfold YB
  simp only [Rs.okb]
  have hlen : ((List.range N).map fun k=>XZ K (e k)).length = N:=by simp
  rw [hlen]
  have hget : ∀ (i : Nat) (x : Int × List Int), (QU ((List.range N).map fun k=>XZ K (e k)))[i]? = some x -> i < N /\ x = ((i : Int), XZ K (e i)):=fun i x hx=>by
    obtain ⟨h1, h2⟩:=JO hx
    have hi:=(List.getElem?_eq_some_iff.mp h2).1
    rw [hlen] at hi
    rw [List.getElem?_map, List.getElem?_range hi] at h2
    exact ⟨hi, Prod.ext h1 (Option.some.inj h2).symm⟩
  have hel : (QU ((List.range N).map fun k=>XZ K (e k))).length = N:=by simp [QU]
  rw [YV (h:=fun x : Int × List Int=>x.2 ++ XZ N fun j=>if j = x.1.toNat then 1 else 0) (sz (by rw [hel]; omega)) fun x hx=>?_]
  . congr 1
    rw [List.map_map]
    refine List.ext_getElem (by simp [hel]) fun i h1 h2=>?_
    have hi : i < N:=by simpa using h2
    have hx:=hget i _ (List.getElem?_eq_getElem (show i < (QU ((List.range N).map fun k=>XZ K (e k))).length by rw [hel]; exact hi))
    rw [List.getElem_map, hx.2]
    simp only [List.getElem_map, List.getElem_range, Function.comp]
    unfold XZ
    rw [List.range_add, List.map_append, List.map_map]
    congr 1
    . exact List.map_congr_left fun j hj=>by
        have:=List.mem_range.mp hj
        show e i j = w0 K e i j
        unfold w0
        rw [if_pos this]
    . refine List.map_congr_left fun j hj => ?_
      show (if j = (i : Int).toNat then (1 : Int) else 0) = w0 K e i (K + j)
      have hw : w0 K e i (K + j) = if K + j = K + i then 1 else 0:=if_neg (by omega)
      rw [hw, Int.toNat_natCast]
      by_cases q : j = i
      . rw [if_pos q, if_pos (by omega)]
      . rw [if_neg q, if_neg (by omega)]
  . obtain ⟨i, hi⟩ := List.mem_iff_getElem?.mp hx
    obtain ⟨hN', rfl⟩:=hget i x hi
    rw [Fh hN' (by omega), XE, Rs.okb]
    exact Xw (sz (by rw [Zy, Zy]; omega))
theorem DV {p : Int} {K N : Nat} {e : Nat -> Nat -> Int} (hp : 1 < p) (he : ∀ k, k < N -> Ran p K (e k)) : GI p K N e 0 ((List.range N).map (w0 K e)) []:=by
  have hlow : ∀ k j, j < K -> w0 K e k j = e k j:=fun k j hj=>if_pos hj
  refine ⟨fun r hr=>?_, fun t ht=>(nomatch ht), List.Pairwise.nil, fun c hw _ k hk=>?_⟩
  . obtain ⟨k, hk, rfl⟩ := List.mem_map.mp hr
    have hk:=List.mem_range.mp hk
    refine ⟨fun j hj=>?_, fun j hj=>?_, fun j hj=>(by omega)⟩
    . rw [hlow k j hj, ZL (k := k) _ hk fun i hi hne => ?_]
      . refine Cg.of ?_
        unfold w0
        rw [if_neg (by omega), if_pos rfl, Int.one_mul]
      . unfold w0
        rw [if_neg (by omega), if_neg (by omega), Int.zero_mul]
    . unfold w0
      by_cases q : j < K
      . rw [if_pos q]; exact he k hk j q
      . rw [if_neg q]
        split <;> omega
  . have := hw (w0 K e k) (List.mem_map.mpr ⟨k, List.mem_range.mpr hk, rfl⟩)
    unfold Kil at this ⊢
    rw [Vw K fun j hj=>by rw [← hlow k j hj]]
    exact this
section
variable {p : Int} {K N : Nat} {e : Nat -> Nat -> Int} {ws : List (Nat -> Int)} {ts : List (Nat × (Nat -> Int))}
theorem GI.nodup {a : Nat} (h : GI p K N e a ws ts) : ((ts.map (Qk (K + N))).map (·.1)).Nodup:=by
  rw [List.map_map]
  have : ((·.1) ∘ Qk (K + N)) = (fun (n : Nat)=>(n : Int)) ∘ (fun t : Nat × (Nat -> Int)=>t.1):=rfl
  rw [this, ← List.map_map, List.Nodup, List.pairwise_map]
  exact h.inc.imp fun h=>by omega
noncomputable def VQ (p : Int) (ts : List (Nat × (Nat -> Int))) (free j : Nat) : Int:=match ts.find? fun t=>decide (t.1 = j) with
  | some t=>(-(t.2 free)) % p
  | none=>if j = free then 1 else 0
theorem UX (h : (ts.map (·.1)).Pairwise (· < ·)) {t : Nat × (Nat -> Int)} (ht : t ∈ ts) (free : Nat) : VQ p ts free t.1 = (-(t.2 free)) % p:=by
  unfold VQ
  cases hf : ts.find? fun t'=>decide (t'.1 = t.1) with
  | none=>
    have:=List.find?_eq_none.mp hf t ht
    simp at this
  | some t'=>
    have h1 : t'.1 = t.1:=by simpa using List.find?_some hf
    have h2:=List.mem_of_find?_eq_some hf
    have : t' = t:=by
      obtain ⟨i, hi, rfl⟩:=List.mem_iff_getElem.mp h2
      obtain ⟨k, hk, rfl⟩:=List.mem_iff_getElem.mp ht
      rw [List.pairwise_map] at h
      rcases Nat.lt_trichotomy i k with q | q | q
      . have:=List.pairwise_iff_getElem.mp h i k hi hk q; omega
      . subst q; rfl
      . have:=List.pairwise_iff_getElem.mp h k i hk hi q; omega
    rw [this]
theorem QL {j : Nat} (hj : ∀ t ∈ ts, t.1 ≠ j) (free : Nat) : VQ p ts free j = if j = free then 1 else 0:=by
  unfold VQ
  rw [List.find?_eq_none.mpr fun t ht=>by simpa using hj t ht]
theorem UM (h : GI p K N e K ws ts) (hp : 0 < p) (hK : K <= 100) {free : Nat} (hf : free < K) : Yy (free : Int) (ts.map (Qk (K + N))) (K : Int) p = .ok (XZ K (VQ p ts free)):=by
  unfold Yy
  simp only [Rs.okb]
  rw [Fh hf (by omega), XE, Rs.okb]
  apply Ok.eq
  refine Ok.bind (Ok.forN (fun i (g : List Int)=>∃ c : Nat -> Int, g = XZ K c /\ (∀ t ∈ ts.take i, c t.1 = (-(t.2 free)) % p) /\ ∀ j, (∀ t ∈ ts.take i, t.1 ≠ j) -> c j = if j = free then 1 else 0) ⟨_, rfl, fun t ht=>absurd ht (by simp), fun j _=>rfl⟩ fun i x g hx hg=>?_) fun g hg=>?_
  . obtain ⟨c, rfl, h1, h2⟩ := hg
    rw [List.getElem?_map] at hx
    obtain ⟨t, ht, rfl⟩:=Option.map_eq_some_iff.mp hx
    have hmem:=List.mem_of_getElem? ht
    have hi:=(List.getElem?_eq_some_iff.mp ht).1
    have ht1:=(h.tl t hmem).2.2.1
    show Ok (((((atR (XZ (K + N) t.2) (free : Int)).bind _).bind _)).bind fun x18=>(Qw _ ((t.1 : Nat) : Int) x18).bind _) _
    rw [Qc (by omega), Rs.okb, Rs.okb, X6 hp, Rs.okb, Qy (by rw [Zy]; exact ht1), Rs.okb]
    refine ⟨_, rfl, fun j=>if j = t.1 then (-(t.2 free)) % p else c j, ?_, fun t' ht'=>?_, fun j hj=>?_⟩
    . exact Z4 ht1 (by rw [if_pos rfl]) fun j _ hj=>by rw [if_neg hj]
    . rw [List.take_add_one, ht, List.mem_append] at ht'
      rcases ht' with q | q
      . have hne : t'.1 ≠ t.1:=by
          obtain ⟨k, hk, rfl⟩:=List.mem_iff_getElem.mp q
          rw [List.length_take] at hk
          have hinc:=h.inc
          rw [List.pairwise_map] at hinc
          have:=List.pairwise_iff_getElem.mp hinc k i (by omega) hi (by omega)
          have e2 : ts[i] = t:=by rw [List.getElem?_eq_getElem hi] at ht; exact Option.some.inj ht
          rw [List.getElem_take]
          rw [e2] at this
          omega
        show (if t'.1 = t.1 then _ else c t'.1) = _
        rw [if_neg hne]; exact h1 t' q
      . have : t' = t := by simpa using q
        subst this
        exact if_pos rfl
    . rw [List.take_add_one, ht] at hj
      have q1 : t.1 ≠ j:=hj t (by simp)
      show (if j = t.1 then _ else c j) = _
      rw [if_neg (fun z=>q1 z.symm)]
      exact h2 j fun t' ht'=>hj t' (by simp [ht'])
  . obtain ⟨c, rfl, h1, h2⟩ := hg
    rw [List.length_map, List.take_length] at h1 h2
    refine ⟨_, rfl, Zg fun j hj=>?_⟩
    by_cases q : ∃ t ∈ ts, t.1 = j
    . obtain ⟨t, ht, rfl⟩ := q
      rw [h1 t ht, UX h.inc ht]
    . have q : ∀ t ∈ ts, t.1 ≠ j := fun t ht z => q ⟨t, ht, z⟩
      rw [h2 j q, QL q]
noncomputable def isT (ts : List (Nat × (Nat -> Int))) (j : Nat) : Bool:=ts.any fun t=>decide (t.1 = j)
theorem KF {j : Nat} : isT ts j = true ↔ ∃ t ∈ ts, t.1 = j:=by
  unfold isT
  rw [List.any_eq_true]
  simp
noncomputable def frs (K : Nat) (ts : List (Nat × (Nat -> Int))) : List Nat:=(List.range K).filter fun j=>!isT ts j
theorem Dq {D : List (List Int) × List (Int × Int)} {f : Int} {ms : List (Int × Int × Int × Int × Int)} (h : DG D) (hA : X3 D.1 = (K : Int)) (hK : K <= 100) (hp : PP p) (hf : ¬ f % p = 0) (e1 : ZE D = .ok ms) (hl : ms.length = N) (hN : N <= 100) (hm : ∀ m ∈ ms, MG (K : Int) m) (hE : (ms.map Zn).map (eqT K p f) = (List.range N).map fun k=>XZ K (e k)) (he : ∀ k, k < N -> Ran p K (e k)) :
    ∃ ws ts, GI p K N e K ws ts /\ Qj D p f = .ok ((frs K ts).map (fun (j : Nat)=>(j : Int)), (frs K ts).map (fun j=>XZ K (VQ p ts j)), ts.map fun t=>((t.1 : Int), XZ N fun k=>t.2 (K + k))):=by
  obtain ⟨p1, p2, _⟩:=id hp
  obtain ⟨told, et, ws, ts, rfl, hI⟩:=Hl hp (e:=e) (ws0:=(List.range N).map (w0 K e)) hK hN (by simp; omega) (DV (by omega) he)
  refine ⟨ws, ts, hI, ?_⟩
  have htl : ts.length <= 100:=by
    have h1 : (ts.map (·.1)).length <= (List.range K).length:=(List.nodup_iff_pairwise_ne.mpr (hI.inc.imp fun h=>by omega)).length_le_of_subset fun x hx=>by
      obtain ⟨t, ht, rfl⟩:=List.mem_map.mp hx
      exact List.mem_range.mpr (hI.tl t ht).2.2.1
    simp at h1
    omega
  unfold Qj
  simp only [Rs.okb]
  rw [Jg h.few h.short, hA, XE, Rs.okb, Jd h hA (by omega) hp hf e1 (by omega) hm, XE, Rs.okb, hE, B6 hK hN, XE, Rs.okb, et, XE, Rs.okb]
  rw [show Gv [] (ts.map (Qk (K + N))) = ts.map (Qk (K + N)) from Du (by rw [List.nil_append]; exact hI.nodup), ZX (by omega), Rs.okb]
  have hkey : ∀ j : Nat, (Zf (ts.map (Qk (K + N))) (j : Int)).isSome = isT ts j:=fun j=>by
    rw [Bool.eq_iff_iff, DF, KF, List.map_map, List.mem_map]
    constructor
    . rintro ⟨t, ht, q⟩
      exact ⟨t, ht, by have q : ((t.1 : Nat) : Int) = (j : Int):=q; omega⟩
    . rintro ⟨t, ht, rfl⟩
      exact ⟨t, ht, rfl⟩
  rw [V9 (p:=fun x : Int=>!isT ts x.toNat) (h:=fun x=>x) (sz (by simp; omega)) (fun x hx=>?_) fun _ _ _=>rfl]
  . have e2 : (((List.range K).map fun (i : Nat)=>(i : Int)).filter fun x : Int=>!isT ts x.toNat).map (fun x=>x) = (frs K ts).map (fun (j : Nat)=>(j : Int)):=by
      rw [List.map_id', List.filter_map]
      congr 1
    rw [e2, Rs.okb]
    have hfl : (frs K ts).length <= 100:=by
      have:=List.length_filter_le (fun j=>!isT ts j) (List.range K)
      unfold frs
      simp at this
      omega
    rw [YV (h:=fun x : Int=>XZ K (VQ p ts x.toNat)) (sz (by simp; omega)) fun x hx=>?_, Rs.okb]
    . rw [YV (h := fun x : Int × List Int => (x.1, x.2.drop K)) (sz (by simp; omega)) fun x hx => ?_, Rs.okb]
      . have q1 : ((frs K ts).map (fun (j : Nat)=>(j : Int))).map (fun x : Int=>XZ K (VQ p ts x.toNat)) = (frs K ts).map (fun j=>XZ K (VQ p ts j)):=by
          rw [List.map_map]
          exact List.map_congr_left fun j _=>by
            show XZ K (VQ p ts ((j : Int)).toNat) = _
            rw [Int.toNat_natCast]
        have q2 : (ts.map (Qk (K + N))).map (fun x : Int × List Int=>(x.1, x.2.drop K)) = ts.map fun t=>((t.1 : Int), XZ N fun k=>t.2 (K + k)):=by
          rw [List.map_map]
          exact List.map_congr_left fun t _=>by
            show ((t.1 : Int), (XZ (K + N) t.2).drop K) = _
            have : (XZ (K + N) t.2).drop K = XZ N fun k=>t.2 (K + k):=by
              unfold XZ
              rw [List.range_add, List.map_append, List.drop_left' (by simp), List.map_map]
              rfl
            rw [this]
        rw [q1, q2]
      . obtain ⟨t, ht, rfl⟩ := List.mem_map.mp hx
        rw [show Gq (Qk (K + N) t).2 (some (K : Int)) none = (Qk (K + N) t).2.drop K from CW _ (by show K <= (XZ (K + N) t.2).length; rw [Zy]; omega)]
    . obtain ⟨j, hj, rfl⟩ := List.mem_map.mp hx
      have:=List.mem_range.mp (List.mem_filter.mp hj).1
      rw [UM hI (by omega) hK this, XE, Int.toNat_natCast]
  . obtain ⟨i, hi, rfl⟩ := Us hx
    rw [hkey, Int.toNat_natCast]
end
theorem Cr {K : Nat} {p f : Int} {L : List (Int × Int × Int)} : L.map (eqT K p f) = (List.range L.length).map fun k=>XZ K fun j=>cfT f (L.getD k (0, 0, 0)) j % p:=by
  refine List.ext_getElem (by simp) fun i h1 h2=>?_
  have hi : i < L.length:=by simpa using h1
  simp [eqT, XZ, hi]
end My
namespace My
open PySem L2
section
variable {p : Int} {K N : Nat} {e : Nat -> Nat -> Int} {ws : List (Nat -> Int)} {ts : List (Nat × (Nat -> Int))}
theorem J5 {α : Type} {l : List α} {i : Nat} {d : α} (h : i < l.length) : l.getD i d = l[i]:=by simp [h]
theorem DA (a b : Nat -> Int) : dot (XZ K a) (XZ K b) = QQ K fun j=>a j * b j:=by
  unfold dot XZ QQ
  rw [List.zip_map', List.map_map]
  rfl
theorem Ee {c : Nat -> Int} : (((List.range N).map fun k=>XZ K (e k)).all fun l=>decide (dot l (XZ K c) % p = 0)) = true ↔ ∀ k, k < N -> Kil p K (e k) c:=by
  rw [List.all_eq_true]
  constructor
  . intro h k hk
    have:=of_decide_eq_true (h _ (List.mem_map.mpr ⟨k, List.mem_range.mpr hk, rfl⟩))
    rw [DA] at this
    unfold Kil Cg
    rw [Int.sub_zero]
    exact Int.dvd_of_emod_eq_zero this
  . intro h l hl
    obtain ⟨k, hk, rfl⟩:=List.mem_map.mp hl
    have:=h k (List.mem_range.mp hk)
    unfold Kil Cg at this
    rw [Int.sub_zero] at this
    rw [DA]
    exact decide_eq_true (Int.emod_eq_zero_of_dvd this)
theorem Dt {t c : Nat -> Int} (ht : Lin p K N e t) (h : ∀ k, k < N -> Kil p K (e k) c) : Kil p K t c:=by
  have key : ∀ n, n <= N -> Kil p K (fun j=>QQ n fun k=>t (K + k) * e k j) c:=by
    intro n
    induction n with
    | zero=>
      intro _
      exact Cg.of (Qa K fun j _=>Int.zero_mul _)
    | succ n ih=>
      intro hn
      refine K1 (ih (by omega)) (h n (by omega)) (u:=1) (v:=t (K + n)) fun j _=>Cg.of ?_
      rw [YS, Int.one_mul]
  unfold Kil
  exact (QR K fun j hj=>(ht j hj).mul (Cg.refl p (c j))).trans (key N (Nat.le_refl _))
theorem JS {r c d t : Nat -> Int} {u v : Int} (hc : Kil p K r c) (hd : Kil p K r d) (h : ∀ j, j < K -> Cg p (t j) (u * c j + v * d j)) : Kil p K r t:=by
  unfold Kil at hc hd ⊢
  have h1 : Cg p (QQ K fun j=>r j * t j) (QQ K fun j=>u * (r j * c j) + v * (r j * d j)):=QR K fun j hj=>by
    have:=(Cg.refl p (r j)).mul (h j hj)
    rw [Int.mul_add, Int.mul_left_comm, Int.mul_left_comm (r j) v] at this
    exact this
  rw [JA] at h1
  exact h1.trans ((((Cg.refl p u).mul hc).add ((Cg.refl p v).mul hd)).trans (Cg.of (by omega)))
theorem VR {j : Nat} : j ∈ frs K ts ↔ j < K /\ ∀ t ∈ ts, t.1 ≠ j:=by
  unfold frs
  rw [List.mem_filter, List.mem_range]
  constructor
  . rintro ⟨h1, h2⟩
    refine ⟨h1, fun t ht z=>?_⟩
    rw [KF.mpr ⟨t, ht, z⟩] at h2
    cases h2
  . rintro ⟨h1, h2⟩
    refine ⟨h1, ?_⟩
    cases q : isT ts j with
    | false=>rfl
    | true=>
      obtain ⟨t, ht, z⟩:=KF.mp q
      exact absurd z (h2 t ht)
theorem CK (hp : 1 < p) (free j : Nat) : 0 <= VQ p ts free j /\ VQ p ts free j < p:=by
  unfold VQ
  cases ts.find? fun t=>decide (t.1 = j) with
  | some t=>exact Q2 (by omega) _
  | none=>
    show 0 <= (if j = free then (1 : Int) else 0) /\ (if j = free then (1 : Int) else 0) < p
    split <;> omega
theorem BJ (h : GI p K N e K ws ts) {t : Nat × (Nat -> Int)} (ht : t ∈ ts) {free : Nat} (hf : free ∈ frs K ts) : Kil p K t.2 (VQ p ts free):=by
  obtain ⟨f1, f2⟩:=VR.mp hf
  obtain ⟨h1, h2, h3, h4, h5, h6⟩:=h.tl t ht
  unfold Kil
  have e1 : (QQ K fun j=>t.2 j * VQ p ts free j) = QQ K fun j=>1 * (if j = free then t.2 free else 0) + 1 * (if j = t.1 then (-(t.2 free)) % p else 0):=Vw K fun j hj=>by
    by_cases q : ∃ t' ∈ ts, t'.1 = j
    . obtain ⟨t', ht', rfl⟩ := q
      rw [UX h.inc ht', if_neg (f2 t' ht')]
      by_cases q : t'.1 = t.1
      . rw [if_pos q, q, h4]
        have : t' = t:=by
          obtain ⟨i, hi, rfl⟩:=List.mem_iff_getElem.mp ht'
          obtain ⟨k, hk, rfl⟩:=List.mem_iff_getElem.mp ht
          have hinc:=h.inc
          rw [List.pairwise_map] at hinc
          rcases Nat.lt_trichotomy i k with z | z | z
          . have:=List.pairwise_iff_getElem.mp hinc i k hi hk z; omega
          . subst z; rfl
          . have:=List.pairwise_iff_getElem.mp hinc k i hk hi z; omega
        rw [this]; omega
      . rw [if_neg q, h6 t' ht' q]; omega
    . have q : ∀ t' ∈ ts, t'.1 ≠ j := fun t' ht' z => q ⟨t', ht', z⟩
      rw [QL q, if_neg (show ¬ j = t.1 from fun z=>q t ht z.symm)]
      by_cases z : j = free
      . rw [if_pos z, if_pos z, z]; omega
      . rw [if_neg z, if_neg z]; omega
  rw [e1, JA, ZL (k:=free) _ f1 fun i _ hne=>if_neg hne, ZL (k:=t.1) _ h3 fun i _ hne=>if_neg hne, if_pos rfl, if_pos rfl]
  refine ((Cg.refl p _).add ((Cg.refl p 1).mul (Cg.emod ..))).trans (Cg.of ?_)
  omega
theorem G5 (h : GI p K N e K ws ts) {c : Nat -> Int} (hc : ∀ t ∈ ts, Kil p K t.2 c) : ∀ k, k < N -> Kil p K (e k) c:=
  h.sp c (fun r hr=>Cg.of (Qa K fun j hj=>by rw [(h.wl r hr).2.2 j hj, Int.zero_mul])) hc
noncomputable def tot (p : Int) (K : Nat) (ts : List (Nat × (Nat -> Int))) (ν : Nat -> Int) (M : Nat) (j : Nat) : Int:=QQ M fun k=>ν k * VQ p ts ((frs K ts).getD k 0) j
theorem GV (h : GI p K N e K ws ts) {ν : Nat -> Int} {t : Nat × (Nat -> Int)} (ht : t ∈ ts) : ∀ M, M <= (frs K ts).length -> Kil p K t.2 (tot p K ts ν M):=by
  intro M
  induction M with
  | zero=>intro _; exact Cg.of (Qa K fun j _=>Int.mul_zero _)
  | succ M ih=>
    intro hM
    refine JS (ih (by omega)) (BJ h ht (free:=(frs K ts).getD M 0) (by rw [J5 (by omega)]; exact List.getElem_mem _)) (u:=1) (v:=ν M) fun j _=>Cg.of ?_
    unfold tot
    rw [YS, Int.one_mul]
theorem KR (hp : 1 < p) (hpb : p <= 100000) (hK : K <= 100) {ν : Nat -> Int} : Z6 ((frs K ts).map fun j=>XZ K (VQ p ts j)) (XZ (frs K ts).length ν) (K : Int) = .ok (XZ K (tot p K ts ν (frs K ts).length)):=by
  have hfl : (frs K ts).length <= 100:=by
    have:=List.length_filter_le (fun j=>!isT ts j) (List.range K)
    unfold frs
    simp at this
    omega
  unfold Z6
  simp only [Rs.okb]
  rw [Xw (sz (by simp)), Rs.okb, Ic (by omega), Rs.okb, List.length_map, ZX (n:=(frs K ts).length) (by omega), Rs.okb, ZX (n:=K) (by omega)]
  simp only [Rs.okb]
  apply Ok.eq
  refine Ok.bind (Ok.forN (fun k (g : List Int)=>g = XZ K (tot p K ts ν k)) (Zg fun j _=>rfl) fun k x g hx hg=>?_) fun g hg=>?_
  . obtain ⟨rfl, hk⟩ := Y2 hx
    subst hg
    refine Ok.bind (Ok.forN (fun j (g : List Int)=>g = XZ K fun i=>if i < j then tot p K ts ν (k + 1) i else tot p K ts ν k i) (Zg fun i hi=>by rw [if_neg (by omega)]) fun j y g hy hg=>?_) fun g hg=>?_
    . obtain ⟨rfl, hj⟩ := Y2 hy
      subst hg
      have hc:=CK (ts:=ts) hp (frs K ts)[k] j
      rw [Qc hj, Rs.okb, Qc hk, Rs.okb, Zv (i:=k) (a:=XZ K (VQ p ts (frs K ts)[k])) (by simp [hk]), Rs.okb, Qc hj, Rs.okb, Qx (by omega) (by omega), Rs.okb, Rs.okb, Qy (by rw [Zy]; exact hj), Rs.okb]
      refine ⟨_, rfl, Z4 hj ?_ fun i _ hne=>?_⟩
      . rw [if_pos (by omega), if_neg (by omega)]
        show tot p K ts ν (k + 1) j = _
        unfold tot
        rw [YS, J5 hk]
      . by_cases q : i < j
        . rw [if_pos q, if_pos (by omega)]
        . rw [if_neg q, if_neg (by omega)]
    . rw [Y9] at hg
      subst hg
      exact ⟨_, rfl, Zg fun i hi=>by rw [if_pos hi]⟩
  . rw [Y9] at hg
    exact ⟨_, rfl, hg⟩
theorem KO (hd : (frs K ts).Nodup) {ν : Nat -> Int} (h1 : ∀ k, ν k = 1) {j : Nat} (hj : j ∈ frs K ts) : tot p K ts ν (frs K ts).length j = 1:=by
  obtain ⟨k, hk, rfl⟩:=List.mem_iff_getElem.mp hj
  have hf:=(VR.mp hj).2
  unfold tot
  rw [ZL (k:=k) _ hk fun i hi hne=>?_]
  . rw [h1, QL hf, J5 hk, if_pos rfl]; rfl
  . rw [h1, QL hf, J5 hi, if_neg (fun z => ?_)]
    . rfl
    . exact hne ((List.getElem_inj hd).mp z).symm
end
theorem CN {p f : Int} {K : Nat} {t : Int × Int × Int} (a : 0 <= t.1 /\ t.1 < (K : Int)) (b : 0 <= t.2.1 /\ t.2.1 < (K : Int)) (c : 0 <= t.2.2 /\ t.2.2 < (K : Int)) : Kil p K (fun j=>cfT f t j % p) fun _=>1:=by
  have hs : QQ K (cfT f t) = 0:=by
    unfold QQ cfT
    rw [Ko, Ko, Ko, Km a.1 a.2, Km b.1 b.2, Km c.1 c.2]
    have hz : ((List.range K).map fun _=>(0 : Int)).sum = 0:=Qa K fun _ _=>rfl
    rw [hz]
    omega
  unfold Kil
  refine (QR K (G:=cfT f t) fun j _=>?_).trans (Cg.of hs)
  rw [Int.mul_one]
  exact Cg.emod ..
theorem DQ (ns : List Int) (_ : ns.length <= 63) : Kh ns = .ok true:=by
  unfold Kh
  simp only [Rs.okb]
  obtain ⟨D, eD, hD⟩:=CF ns (p:=0) (by decide) (most:=12) (by decide)
  have eD : Qz ns 0 12 = .ok D:=eD
  have d:=DG.of hD (by decide)
  obtain ⟨K, hA⟩ : ∃ K : Nat, X3 D.1 = (K : Int):=⟨(X3 D.1).toNat, by have:=Vk D.1; omega⟩
  have hK : K <= 16:=by
    have h1:=d.count
    have h2:=hD.le
    have h3:=hD.few
    have h4 : Jm D.1 <= D.1.length:=DX D.1
    omega
  rw [eD, XE, Rs.okb, Xw (sz (by decide)), Rs.okb, UW (by decide) (by decide) (by decide) (by decide)]
  simp only [Rs.okb]
  rw [Xw (sz (by decide)), Rs.okb]
  rw [show Ui [10 ^ (50 : Int).toNat, (2 : Int)] 17 = .ok (List.replicate 17 [10 ^ (50 : Int).toNat, (2 : Int)]).flatten from Xw ⟨by decide, by decide, sz (by decide)⟩, Rs.okb]
  rw [show Fx [10, 99990, 5, 20, 99990] (List.replicate 17 [10 ^ (50 : Int).toNat, (2 : Int)]).flatten = .ok ([10, 99990, 5, 20, 99990] ++ (List.replicate 17 [10 ^ (50 : Int).toNat, (2 : Int)]).flatten) from Xw (sz (by decide)), Rs.okb]
  obtain ⟨r, er, hrl, hr⟩:=Bb ns (p:=1) (by decide) ([10, 99990, 5, 20, 99990] ++ (List.replicate 17 [10 ^ (50 : Int).toNat, (2 : Int)]).flatten) (by decide) (by decide +kernel)
  have hrl : r.length = 39:=hrl
  rw [er, XE, Rs.okb]
  have v0:=hr 0 r[0] 10 (by simp) rfl
  obtain ⟨⟨p, f⟩, ep, hp, hf⟩:=C0 (r:=r) (by omega) v0 (hr 1 _ 99990 (by simp) rfl) (hr 2 _ 5 (by simp) rfl)
  have hp : PP p:=hp
  have hf : ¬ f % p = 0:=hf
  obtain ⟨p1, p2, _⟩:=id hp
  obtain ⟨ms, e1, e3, e4⟩:=Dc d
  rw [hA] at e4
  have hE:=Cr (K:=K) (p:=p) (f:=f) (L:=ms.map Zn)
  rw [List.length_map] at hE
  have hN:=hD.le
  obtain ⟨ws, ts, hI, es⟩:=Dq (e:=fun k j=>cfT f ((ms.map Zn).getD k (0, 0, 0)) j % p) d hA (by omega) hp hf e1 rfl (by omega) e4 hE fun k _ j _=>Q2 (by omega) _
  have hkp : ∀ c : List Int, ZV D p f c = .ok (((List.range ms.length).map fun k=>XZ K fun j=>cfT f ((ms.map Zn).getD k (0, 0, 0)) j % p).all fun l=>decide (dot l c % p = 0)):=fun c=>by
    rw [Ci d hA (by omega) hp hf e1 (by omega) e4, hE]
  have hcnt : Qo D = .ok (K : Int):=by rw [Ct d.short, ← d.count, hA]
  have hfl : (frs K ts).length <= K:=by
    have:=List.length_filter_le (fun j=>!isT ts j) (List.range K)
    unfold frs
    simpa using this
  rw [ep, XE, Rs.okb, Em d.few, XE, Rs.okb, es, XE, Rs.okb, hcnt, XE, Rs.okb]
  simp only [List.length_map]
  rw [ZX (n:=(frs K ts).length) (by omega), Rs.okb]
  rw [Qe (h:=fun a : Int=>r.getD (5 + 2 * a.toNat) 0 * (2 * r.getD (6 + 2 * a.toNat) 0 - 1)) (sz (by simp; omega)) fun g hg a ha=>?_]
  . rw [Rs.okb, List.nil_append, List.map_map]
    have hnum : ((List.range (frs K ts).length).map ((fun a : Int=>r.getD (5 + 2 * a.toNat) 0 * (2 * r.getD (6 + 2 * a.toNat) 0 - 1)) ∘ fun (i : Nat)=>(i : Int))) = XZ (frs K ts).length (fun i : Nat=>r.getD (5 + 2 * (i : Int).toNat) 0 * (2 * r.getD (6 + 2 * (i : Int).toNat) 0 - 1)):=rfl
    rw [hnum, KR (by omega) (by omega) (by omega), XE, Rs.okb]
    generalize (fun i : Nat=>r.getD (5 + 2 * (i : Int).toNat) 0 * (2 * r.getD (6 + 2 * (i : Int).toNat) 0 - 1)) = ν
    have hT : ∀ t ∈ ts, Kil p K t.2 (tot p K ts ν (frs K ts).length):=fun t ht=>GV hI ht _ (Nat.le_refl _)
    generalize tot p K ts ν (frs K ts).length = T at hT
    have hR : ∀ t ∈ ts, Kil p K t.2 (fun j=>T j % p):=fun t ht=>(QR K fun j _=>(Cg.refl p _).mul (Cg.emod ..)).trans (hT t ht)
    have hmod : Ju (XZ K T) (fun a100=>ZF a100 p) = .ok (XZ K fun j=>T j % p):=by
      rw [YV (h:=fun a=>a % p) (sz (by rw [Zy]; omega)) fun a _=>X6 (by omega)]
      unfold XZ
      rw [List.map_map]
      rfl
    rw [hmod, Rs.okb, hkp, hkp, Ee.mpr (G5 hI hT), Ee.mpr (G5 hI hR), XE]
    simp only [Rs.okb]
    rw [if_neg (by decide), if_neg (by decide)]
    have hones : ∀ t ∈ ts, Kil p K t.2 fun _=>1:=fun t ht=>Dt (hI.tl t ht).1 fun k hk=>by
      have hk' : k < (ms.map Zn).length:=by simpa using hk
      have hmem : (ms.map Zn).getD k (0, 0, 0) ∈ ms.map Zn:=by rw [J5 hk']; exact List.getElem_mem _
      obtain ⟨m, hm, q⟩:=List.mem_map.mp hmem
      obtain ⟨a, b, c⟩:=Bo (e4 m hm)
      rw [← q]
      exact CN a b c
    have hend : ((Rs.bind (chk (([(1 : Int)]).length <= sizeLine) (Rs.ok [(1 : Int)])) fun x166=>Ui x166 ((frs K ts).length : Int)).bind fun x173=>noE (Z6 ((frs K ts).map fun j=>XZ K (VQ p ts j)) x173 (K : Int))) = .ok (XZ K (tot p K ts (fun _=>1) (frs K ts).length)):=by
      rw [Xw (sz (by simp)), Rs.okb]
      have : Ui [(1 : Int)] ((frs K ts).length : Int) = .ok (XZ (frs K ts).length fun _=>1):=by
        unfold Ui
        rw [Xw ⟨by omega, by omega, sz (by simp; omega)⟩, Int.toNat_natCast, IE]
        rfl
      rw [this, Rs.okb, KR (by omega) (by omega) (by omega), XE]
    have hlast : ∀ x ∈ XZ K (tot p K ts (fun _=>1) (frs K ts).length), x % p = 1:=fun x hx=>by
      obtain ⟨j, hj, rfl⟩:=List.mem_map.mp hx
      have hj:=List.mem_range.mp hj
      refine Cg.rest ?_ ⟨by decide, by omega⟩
      have hnd : (frs K ts).Nodup:=List.Pairwise.filter _ List.nodup_range
      by_cases q : j ∈ frs K ts
      . exact Cg.of (KO hnd (fun _=>rfl) q)
      . have : ∃ t ∈ ts, t.1 = j := Classical.byContradiction fun z => q (VR.mpr ⟨hj, fun t ht w => z ⟨t, ht, w⟩⟩)
        obtain ⟨t, ht, rfl⟩:=this
        have h1 : Kil p K t.2 fun j=>tot p K ts (fun _=>1) (frs K ts).length j - 1:=JS (GV hI ht _ (Nat.le_refl _)) (hones t ht) (u:=1) (v:=-1) fun j _=>Cg.of (by show tot p K ts (fun _=>1) (frs K ts).length j - 1 = 1 * tot p K ts (fun _=>1) (frs K ts).length j + -1 * 1; omega)
        unfold Kil at h1
        obtain ⟨_, _, h3, h4, _, h6⟩:=hI.tl t ht
        rw [ZL (k:=t.1) _ h3 fun i hi hne=>?_, h4, Int.one_mul] at h1
        . obtain ⟨w, hw⟩ := h1
          have hw : tot p K ts (fun _=>1) (frs K ts).length t.1 - 1 - 0 = p * w:=hw
          exact ⟨w, by omega⟩
        . by_cases q2 : i ∈ frs K ts
          . show t.2 i * (tot p K ts (fun _ => 1) (frs K ts).length i - 1) = 0
            rw [KO hnd (fun _=>rfl) q2]; omega
          . have : ∃ t' ∈ ts, t'.1 = i := Classical.byContradiction fun z => q2 (VR.mpr ⟨hi, fun t' ht' w => z ⟨t', ht', w⟩⟩)
            obtain ⟨t', ht', rfl⟩:=this
            show t.2 t'.1 * _ = 0
            rw [h6 t' ht' hne, Int.zero_mul]
    have hfin : ∀ {F : Unit -> Int -> Rs (Ctl Bool Unit)}, (∀ x, x % p = 1 -> F () x = .ok (.nx ())) -> forC (XZ K (tot p K ts (fun _=>1) (frs K ts).length)) () F = .ok (.nx ()):=fun hF=>Gi fun x hx=>hF x (hlast x hx)
    have hif : ∀ {m : Rs (Ctl Bool Unit)}, (0 < ts.length -> m = .ok (.nx ())) -> (if decide ((0 : Int) < (ts.length : Int)) = true then m else Rs.ok (Ctl.nx ())) = .ok (.nx ()):=fun {m} hm=>by
      by_cases q : (0 : Int) < (ts.length : Int)
      . rw [if_pos (decide_eq_true q)]; exact hm (by omega)
      . rw [if_neg (by rw [decide_eq_true_eq]; exact q)]
    rw [hif fun hpos=>?_, Rs.okb, VJ, hend, Rs.okb, hfin fun x hx=>?_, Rs.okb, VJ, decide_true]
    . rw [X6 (by omega), Rs.okb, Rs.okb, hx]
      rfl
    . have hr3 : 0 <= r[3] % (ts.length : Int) /\ r[3] % (ts.length : Int) < (ts.length : Int) := Q2 (by omega) _
      rw [Yw (r:=r) (k:=3) (n:=3) rfl (by omega), Rs.okb, X6 (by omega), Rs.okb]
      obtain ⟨m, hm⟩ : ∃ m : Nat, r[3] % (ts.length : Int) = (m : Int):=⟨(r[3] % (ts.length : Int)).toNat, by omega⟩
      rw [hm] at hr3 ⊢
      have hml : m < ts.length:=by omega
      have hg : ts[m]? = some ts[m]:=List.getElem?_eq_getElem hml
      have hmem:=List.getElem_mem hml
      generalize ts[m] = t at hg hmem
      rw [Zv (as:=ts.map fun t=>((t.1 : Int), XZ ms.length fun k=>t.2 (K + k))) (i:=m) (a:=((t.1 : Int), XZ ms.length fun k=>t.2 (K + k))) (by rw [List.getElem?_map, hg]; rfl)]
      simp only [Rs.okb]
      obtain ⟨h1, h2, h3, h4, h5, h6⟩:=hI.tl t hmem
      rw [Qc h3, Rs.okb, Yw (r:=r) (k:=4) (n:=4) rfl (by omega)]
      simp only [Rs.okb]
      rw [X6 (by omega)]
      simp only [Rs.okb]
      have hd:=Q2 (p:=p - 1) (by omega) r[4]
      generalize r[4] % (p - 1) = δ at hd
      rw [Qy (by rw [Zy]; exact h3), Rs.okb]
      have hset : (XZ K fun j=>T j % p).set t.1 (T t.1 % p + 1 + δ) = XZ K fun j=>T j % p + if j = t.1 then 1 + δ else 0:=Z4 h3 (by rw [if_pos rfl]; omega) fun j _ hne=>by rw [if_neg hne]; omega
      rw [hset, hkp]
      have hno : (((List.range ms.length).map fun k=>XZ K fun j=>cfT f ((ms.map Zn).getD k (0, 0, 0)) j % p).all fun l=>decide (dot l (XZ K fun j=>T j % p + if j = t.1 then 1 + δ else 0) % p = 0)) = false:=by
        cases q : (((List.range ms.length).map fun k=>XZ K fun j=>cfT f ((ms.map Zn).getD k (0, 0, 0)) j % p).all fun l=>decide (dot l (XZ K fun j=>T j % p + if j = t.1 then 1 + δ else 0) % p = 0)) with
        | false=>rfl
        | true=>
          have k1:=Dt h1 (Ee.mp q)
          have k2 : Kil p K t.2 fun j=>if j = t.1 then 1 + δ else 0:=JS k1 (hR t hmem) (u:=1) (v:=-1) fun j _=>Cg.of (by omega)
          unfold Kil at k2
          have k2 : Cg p (QQ K fun j=>t.2 j * if j = t.1 then 1 + δ else 0) 0:=k2
          rw [ZL (k:=t.1) _ h3 fun i _ hne=>by rw [if_neg hne, Int.mul_zero], if_pos rfl, h4, Int.one_mul] at k2
          have:=k2.eq ⟨by omega, by omega⟩ ⟨by decide, by omega⟩
          omega
      rw [hno, XE]
      rfl
  . obtain ⟨i, hi, rfl⟩ := Us ha
    have hb:=hr (6 + 2 * i) (r[6 + 2 * i]'(by omega)) 2 (by simp) (by
      have:=Kp (l:=[(10 : Int) ^ (50 : Int).toNat, 2]) (m:=2) (c:=1) rfl (by decide) (n:=17) (j:=i) (by omega)
      rw [List.getElem?_append_right (by simp; omega)]
      rw [show 6 + 2 * i - [(10 : Int), 99990, 5, 20, 99990].length = 2 * i + 1 by simp; omega, this]
      rfl)
    rw [Yp (a:=2) (b:=(i : Int)) (by decide) (by decide), Rs.okb, Rs.okb, Rs.okb, Yw (r:=r) (k:=5 + 2 * (i : Int)) (n:=5 + 2 * i) (by omega) (by omega), Rs.okb, Rs.okb, Yw (r:=r) (k:=6 + 2 * (i : Int)) (n:=6 + 2 * i) (by omega) (by omega), Rs.okb, Yp (a:=2) (by decide) (by decide), Rs.okb, Rs.okb, Qx (by omega) (by omega), Rs.okb, Xw hg]
    simp [hrl, show 6 + 2 * i < 39 by omega, show 5 + 2 * i < 39 by omega]
end My
namespace My
open PySem L2
noncomputable def top (i : Nat) : Stmt:=PySem.Challenge.pw_plait_k87_sums_of_the_basis.main.body.getD i (.Pass ⟨0, 0, 0, 0⟩)
noncomputable abbrev Jj : Stmt:=top 6
noncomputable abbrev Q9 : Stmt:=top 8
noncomputable abbrev Ys : Stmt:=top 9
noncomputable abbrev XU : Stmt:=top 10
noncomputable abbrev X7 : Stmt:=top 11
noncomputable abbrev Qd : Stmt:=top 12
noncomputable abbrev Jk : Stmt:=top 14
noncomputable abbrev X5 : Stmt:=top 17
noncomputable abbrev Y1 : Stmt:=top 18
noncomputable abbrev Yt : Stmt:=top 19
noncomputable abbrev ZW : Stmt:=top 20
noncomputable abbrev Zq : Stmt:=top 21
noncomputable abbrev Y8 : Stmt:=top 22
noncomputable abbrev XV : Stmt:=top 23
noncomputable abbrev Jc : Stmt:=top 24
noncomputable abbrev Yk : Stmt:=top 25
noncomputable abbrev ZU : Stmt:=top 26
noncomputable abbrev Y3 : Stmt:=top 27
noncomputable abbrev X4 : Stmt:=top 28
noncomputable abbrev X8 : Stmt:=top 29
noncomputable abbrev Jh : Stmt:=top 31
noncomputable abbrev UB : Stmt:=top 32
noncomputable abbrev UV : Stmt:=top 33
noncomputable abbrev Z8 : Stmt:=top 34
noncomputable abbrev V6 : Stmt:=top 35
noncomputable abbrev Zk : Stmt:=top 36
noncomputable abbrev ZT : Stmt:=top 37
noncomputable abbrev QO : Stmt:=top 38
noncomputable abbrev ZP : Stmt:=top 39
noncomputable abbrev Z3 : Stmt:=top 40
noncomputable abbrev Qf : Stmt:=top 41
noncomputable abbrev Vn : Stmt:=top 42
structure Blt (mg : Str -> Option Value) : Prop where
  b_all : mg "all" = none
  b_dict : mg "dict" = none
  b_enumerate : mg "enumerate" = none
  b_len : mg "len" = none
  b_list : mg "list" = none
  b_max : mg "max" = none
  b_min : mg "min" = none
  b_range : mg "range" = none
  b_sum : mg "sum" = none
  b_zip : mg "zip" = none
  c_MOST_PRIME : ∃ u, mg "MOST_PRIME" = some u /\ Yi (.int 100000) u
section
variable {P : Program} {w : World} {K : PySem.W.Frag} {mg : Str -> Option Value} {base : Heap}
theorem KE : FnScope ["drawing", "passage", "at", "walk"] ["drawing", "passage"] (Xg Jj):=⟨rfl, rfl, rfl, by decide +kernel, rfl, by decide +kernel, by decide +kernel⟩
theorem B9 (D : Def K mg "spot" Jj ["drawing", "passage"])  (Z : Blt mg) : Fn P w K mg base 1 "spot" ["drawing", "passage"] (sp2 (rP2 (rV (rV Xa)) (rV (rP2 Xa Xa))) Xa (oF (rP2 Xa Xa)) JK K):=by
  refine Y0 D KE (fun vs H Q E h=>?_) (fun f cdv A outer s H vs Q E hr h=>?_)
  . obtain ⟨v_0, v_1, a_0, a_1, b, rfl, _⟩:=h; rfl
  obtain ⟨v_0, v_1, a_0, a_1, b, rfl, h_0, h_1, hm, q⟩:=h
  have hu:=hu8 hr
  have hu1:=YQ hr
  refine ⟨_, (Xc (YR PassesOwn.never rfl (Df rfl Z.b_enumerate (XL (Y4 K rfl) (pv 0) Xf (fun _ _=>rfl))) (Q4 rfl (XA (Xm (i:=2) KE.nd rfl (Or.inl rfl)) (XA (Xm (i:=3) KE.nd rfl (Or.inl rfl)) Zm)))
      (Xc (ZD (XW DK (pv 1) (pv 3) rfl)
        (Xc (XS (ZY (Xd (pv 2) (Xd (EX (K:=K) rfl PySem.F.plainAttrs_list PySem.F.slot_list_index PySem.F.type_list_index (DJ K rfl) (pv 3) (Xd (pv 1) Xh)) Xh))))
        Xi)
        Xi)
      Xi))
    (Xc VN
    Xi)), ?_⟩
  refine YX (S:=(SC.add (SC.add SC.nil K (rP2 (rV (rV Xa)) (rV (rP2 Xa Xa))) v_0 a_0) K Xa v_1 a_1)) (σ:=[some v_0, some v_1, none, none]) 0 ?_ (SC.i (SC.i SC.t h_0) h_1) hm q rfl
  unfold JK
  exact (Fk (K:=K) (J:=({ oo:=fun x3=>[], ss:=fun x3=>[some v_0, some v_1, x3.1, x3.2], sc:=fun g4 x3=>(SC.add (SC.add SC.nil K (rP2 (rV (rV Xa)) (rV (rP2 Xa Xa))) v_0 a_0) K Xa v_1 a_1) } : Jn (Unit) (Option V × Option V))) (fun _=>tg2 2 3) ((none), (none)) () (UT (JW (Xk (r:=(rP2 (rV (rV Xa)) (rV (rP2 Xa Xa)))) 0 rfl (fun _ s=>s.l.r)))) rfl rfl (fun _ s=>(SC.i (SC.i SC.t s.l.r) s.r)) (fun g5 x6 a7 v8=>(Ug (XG (K:=K) (E8 (Xb (r:=Xa) 1 rfl (fun _ s=>s.l.l.r)) (Xb (r:=(rV Xa)) 3 rfl (fun _ s=>s.r)))) (XT (EvS.ev (VU (Xk (r:=Xa) 2 rfl (fun _ s=>s.l.r)) (EvB.sh (F5 (Xb (r:=(rV Xa)) 3 rfl (fun _ s=>s.r)) (Xb (r:=Xa) 1 rfl (fun _ s=>s.l.l.r))))))) (Ux (XC (J:=_) ((some v8.1), (some v8.2)) () rfl rfl (fun _ s=>(SC.i (SC.i SC.t s.l.l.l.r) s.l.l.r)))))) fun g18 x19=>HL)
theorem Qb : FnScope ["walk", "unders"] ["walk"] (Xg XU):=⟨rfl, rfl, rfl, by decide +kernel, rfl, by decide +kernel, by decide +kernel⟩
theorem JE (D : Def K mg "arcs_of_walk" XU ["walk"])  (Z : Blt mg) : Fn P w K mg base 1 "arcs_of_walk" ["walk"] (sp1 (rV Xa) (oF Xa) XJ K):=by
  refine Y0 D Qb (fun vs H Q E h=>?_) (fun f cdv A outer s H vs Q E hr h=>?_)
  . obtain ⟨v_0, a_0, b, rfl, _⟩:=h; rfl
  obtain ⟨v_0, a_0, b, rfl, h_0, hm, q⟩:=h
  have hu:=hu8 hr
  have hu1:=YQ hr
  refine ⟨_, (Xc (Qu 1 (Xg XU) ["walk", "unders"] ["passage"] [] rfl Qb.nd rfl rfl (XR (K:=K) rfl (pv 0)) (Za (by decide)) (fun cl C s H ex E=>⟨Xm (i:=0) (show List.Nodup (["passage"] : List Str) by decide +kernel) rfl (Or.inl rfl), (V2 (XW KB (pv 0) Xf (Yl _))), (pv 0)⟩))
    (Xc (XS (XH (J7 rfl) rfl Z.b_max PyProof.Rows.boot_max (Xd (XH (Xr K rfl) rfl Z.b_len PySem.boot_len (Xd (pv 1) Xh)) (Xd Xf Xh))))
    Xi)), ?_⟩
  refine YX (S:=(SC.add SC.nil K (rV Xa) v_0 a_0)) (σ:=[some v_0, none]) 0 ?_ (SC.i SC.t h_0) hm q rfl
  unfold XJ
  exact (Xv (K:=K) (r:=(rV Xa)) 1 (Ev.sh (Jq (fun _=>tg1 0) (XD (Xk (r:=(rV Xa)) 0 rfl (fun _ s=>s.r))) (fun C3 a4 v5=>(XG (K:=K) (JC (Xb (r:=Xa) 0 rfl (fun _ s=>s.r)) (Xe 0)))) (fun C3 a4 v5=>(EvS.ev (Xk (r:=Xa) 0 rfl (fun _ s=>s.r)))))) fun a1 v2=>(XT (EvS.ev (EvB.sh (Ku (YE (Xb (r:=(rV Xa)) 1 rfl (fun _ s=>s.r))) (Xe 1))))))
theorem Yo : FnScope ["walk", "first", "number", "unders", "ways", "passage"] ["walk", "first"] (Xg X7):=⟨rfl, rfl, rfl, by decide +kernel, rfl, by decide +kernel, by decide +kernel⟩
theorem JX (D : Def K mg "arcs_of_ways" X7 ["walk", "first"]) (g_arcs_of_walk : Fn P w K mg base 1 "arcs_of_walk" ["walk"] (sp1 (rV Xa) (oF Xa) XJ K)) (Z : Blt mg) : Fn P w K mg base 2 "arcs_of_ways" ["walk", "first"] (sp2 (rV Xa) Xa (oL (oF Xa)) Yx K):=by
  refine Y0 D Yo (fun vs H Q E h=>?_) (fun f cdv A outer s H vs Q E hr h=>?_)
  . obtain ⟨v_0, v_1, a_0, a_1, b, rfl, _⟩:=h; rfl
  obtain ⟨v_0, v_1, a_0, a_1, b, rfl, h_0, h_1, hm, q⟩:=h
  have hu:=hu8 hr
  have hu1:=YQ hr
  refine ⟨_, (Xc (Xn (i:=2) Yo.nd rfl (Or.inl rfl) (Yg g_arcs_of_walk hr (by decide) (Xd (pv 0) Xh)))
    (Xc (Xn (i:=3) Yo.nd rfl (Or.inl rfl) Xf)
    (Xc (Xn (i:=4) Yo.nd rfl (Or.inl rfl) (Yh (Xd (pv 1) Xh)))
    (Xc (YR PassesOwn.never rfl (XR (K:=K) rfl (VV (V8 K rfl) (pv 0) KC (Kk (GC VD Xf)))) (Xm (i:=5) Yo.nd rfl (Or.inl rfl))
      (Xc (ZD (XW KB (pv 5) Xf (Yl _))
        (Xc (K5 (i:=3) Yo.nd rfl (Or.inl rfl) Xf UR)
        Xi)
        Xi)
      (Xc (YL (ZR PySem.F.plainAttrs_list PySem.F.slot_list_append PySem.F.type_list_append Yb (pv 4) (Xd (Xo X9 (pv 1) (Xo Yc (pv 3) (pv 2))) Xh)))
      Xi)))
    (Xc (XS (pv 4))
    Xi))))), ?_⟩
  refine YX (S:=(SC.add (SC.add SC.nil K (rV Xa) v_0 a_0) K Xa v_1 a_1)) (σ:=[some v_0, some v_1, none, none, none, none]) 1 ?_ (SC.i (SC.i SC.t h_0) h_1) hm q rfl
  unfold Yx
  exact (Xv (K:=K) (r:=Xa) 2 (EvB.sh (Ev.toB (YN (Xb (r:=(rV Xa)) 0 rfl (fun _ s=>s.l.r))))) fun a1 v2=>(Xv (K:=K) (r:=Xa) 3 (EvB.sh (Xe 0)) fun a5 v6=>(XQ (K:=K) (o:=(oL (oF Xa))) 4 0 (Zz (Xp (Xk (r:=Xa) 1 rfl (fun _ s=>s.l.l.r)) Zd)) (Nat.le_of_ble_eq_true rfl) fun a7 v8 C9=>(Y7 (K:=K) (J:=({ oo:=fun x18=>[x18.2.2.2], ss:=fun x18=>[some v_0, some v_1, some v2, some x18.2.1, some x18.2.2.1, x18.1], sc:=fun g19 x18=>(SC.addO (SC.add (SC.add (SC.add (SC.add SC.nil K (rV Xa) v_0 a_0) K Xa v_1 a_1) K Xa v2 a1) K Xa x18.2.1 g19.1) K (oL (oF Xa)) x18.2.2.1 g19.2 x18.2.2.2) } : Jn (Int × (List Int)) (Option V × V × V × List XF))) (fun _=>tg1 5) ((none), v6, v8, C9) (a5, a7) (XD (Ev.sh (Ga (EvS.ls (Xk (r:=(rV Xa)) 0 rfl (fun _ s=>s.l.l.l.l.r))) VP (Ud (K:=K) (QY (Xe 1)))))) rfl rfl (fun _ s=>(SC.i (SC.i (SC.i (SC.i (SC.i SC.t s.l.l.l.l.r) s.l.l.l.r) s.l.l.r) s.l.r) s.r)) (fun g20 x21 a22 v23=>(ZC (J:=({ oo:=fun x27=>[x21.2.2.2], ss:=fun x27=>[some v_0, some v_1, some v2, some x27, some x21.2.2.1, some v23], sc:=fun g28 x27=>(SC.add (SC.add (SC.addO (SC.add (SC.add (SC.add SC.nil K (rV Xa) v_0 a_0) K Xa v_1 a_1) K Xa v2 a1) K (oL (oF Xa)) x21.2.2.1 g20.2 x21.2.2.2) K Xa v23 a22) K Xa x27 g28) } : Jn (Int) (V))) (Z7 (Fd:=FNd ({ oo:=fun x27=>[x21.2.2.2], ss:=fun x27=>[some v_0, some v_1, some v2, some x27, some x21.2.2.1, some v23], sc:=fun g28 x27=>(SC.add (SC.add (SC.addO (SC.add (SC.add (SC.add SC.nil K (rV Xa) v_0 a_0) K Xa v_1 a_1) K Xa v2 a1) K (oL (oF Xa)) x21.2.2.1 g20.2 x21.2.2.2) K Xa v23 a22) K Xa x27 g28) } : Jn (Int) (V))) (XG (K:=K) (JC (Xb (r:=Xa) 5 rfl (fun _ s=>s.r)) (Xe 0))) (Ft (K:=K) (f:=fun a31=>(Rs.ok (a31))) 3 rfl (fun _ s=>s.l.l.r) (Xe 1) fun a31 v30=>(XC (J:=_) (v30) (a31) rfl rfl (fun _ s=>(SC.i (SC.i (SC.i (SC.i (SC.i (SC.i SC.t s.l.l.l.l.l.l.r) s.l.l.l.l.l.r) s.l.l.l.l.r) s.l.l.r) s.l.r) s.r)))) (XC (J:=_) (x21.2.1) (g20.1) rfl rfl (fun _ s=>(SC.i (SC.i (SC.i (SC.i (SC.i (SC.i SC.t s.l.l.l.l.l.r) s.l.l.l.l.r) s.l.l.l.r) s.l.r) s.r) s.l.l.r)))) fun g33 x32=>(ZH (K:=K) (o:=(oF Xa)) (f:=fun a40=>(Rs.ok (g33, a40))) 4 0 rfl rfl rfl (fun _ s=>s.l.l.r) (EvS.ev (EvB.sh (XN (Xb (r:=Xa) 1 rfl (fun _ s=>s.l.l.l.l.r)) (XM (Xb (r:=Xa) 3 rfl (fun _ s=>s.r)) (Xb (r:=Xa) 2 rfl (fun _ s=>s.l.l.l.r)))))) fun a38 C39=>(XC (J:=_) ((some v23), x32, x21.2.2.1, C39) (g33, (g20.2 ++ [a38])) rfl rfl (fun _ s=>(SC.i (SC.i (SC.i (SC.i (SC.i SC.t s.l.l.l.l.l.l.r) s.l.l.l.l.l.r) s.l.l.l.l.r) s.l.r) s.r)))))) fun g41 x42=>(XT (YD (o:=(oL (oF Xa))) 4 0 rfl rfl (fun _ s=>s.r)))))))
theorem JR : FnScope ["drawing", "told", "first", "walk"] ["drawing"] (Xg Q9):=⟨rfl, rfl, rfl, by decide +kernel, rfl, by decide +kernel, by decide +kernel⟩
theorem B7 (D : Def K mg "arcs" Q9 ["drawing"]) (g_arcs_of_walk : Fn P w K mg base 1 "arcs_of_walk" ["walk"] (sp1 (rV Xa) (oF Xa) XJ K)) (g_arcs_of_ways : Fn P w K mg base 2 "arcs_of_ways" ["walk", "first"] (sp2 (rV Xa) Xa (oL (oF Xa)) Yx K)) (Z : Blt mg) : Fn P w K mg base 3 "arcs" ["drawing"] (sp1 (rP2 (rV (rV Xa)) (rV (rP2 Xa Xa))) (oL (oL (oF Xa))) VG K):=by
  refine Y0 D JR (fun vs H Q E h=>?_) (fun f cdv A outer s H vs Q E hr h=>?_)
  . obtain ⟨v_0, a_0, b, rfl, _⟩:=h; rfl
  obtain ⟨v_0, a_0, b, rfl, h_0, hm, q⟩:=h
  have hu:=hu8 hr
  have hu1:=YQ hr
  refine ⟨_, (Xc (Xn (i:=1) JR.nd rfl (Or.inl rfl) (Yh Xh))
    (Xc (Xn (i:=2) JR.nd rfl (Or.inl rfl) Xf)
    (Xc (YR PassesOwn.never rfl (XR (K:=K) rfl (XL (Y4 K rfl) (pv 0) Xf (fun _ _=>rfl))) (Xm (i:=3) JR.nd rfl (Or.inl rfl))
      (Xc (YL (ZR PySem.F.plainAttrs_list PySem.F.slot_list_append PySem.F.type_list_append Yb (pv 1) (Xd (Yg g_arcs_of_ways hr (by decide) (Xd (pv 3) (Xd (pv 2) Xh))) Xh)))
      (Xc (K5 (i:=2) JR.nd rfl (Or.inl rfl) (Yg g_arcs_of_walk hr (by decide) (Xd (pv 3) Xh)) UR)
      Xi)))
    (Xc (XS (pv 1))
    Xi)))), ?_⟩
  refine YX (S:=(SC.add SC.nil K (rP2 (rV (rV Xa)) (rV (rP2 Xa Xa))) v_0 a_0)) (σ:=[some v_0, none, none, none]) 1 ?_ (SC.i SC.t h_0) hm q rfl
  unfold VG
  exact (XQ (K:=K) (o:=(oL (oL (oF Xa)))) 1 0 (QW (o:=(oL (oF Xa)))) (Nat.le_of_ble_eq_true rfl) fun a1 v2 C3=>(Xv (K:=K) (r:=Xa) 2 (EvB.sh (Xe 0)) fun a4 v5=>(Y7 (K:=K) (J:=({ oo:=fun x7=>[x7.2.2.2], ss:=fun x7=>[some v_0, some x7.2.2.1, some x7.2.1, x7.1], sc:=fun g8 x7=>(SC.addO (SC.add (SC.add SC.nil K (rP2 (rV (rV Xa)) (rV (rP2 Xa Xa))) v_0 a_0) K Xa x7.2.1 g8.1) K (oL (oL (oF Xa))) x7.2.2.1 g8.2 x7.2.2.2) } : Jn (Int × (List (List Int))) (Option V × V × V × List XF))) (fun _=>tg1 3) ((none), v5, v2, C3) (a4, a1) (XD (JW (Xk (r:=(rP2 (rV (rV Xa)) (rV (rP2 Xa Xa)))) 0 rfl (fun _ s=>s.l.l.r)))) rfl rfl (fun _ s=>(SC.i (SC.i (SC.i SC.t s.l.l.r) s.r) s.l.r)) (fun g9 x10 a11 v12=>(ZH (K:=K) (o:=(oL (oF Xa))) (f:=fun a18=>(Rs.bind (Rs.bind (Rs.ok a11) fun x20=>(noE (XJ x20))) fun x21=>((fun (a23 : Int)=>(Rs.ok (a23, a18))) (g9.1 + x21)))) 1 0 rfl rfl rfl (fun _ s=>s.l.r) (YM (Xb (r:=(rV Xa)) 3 rfl (fun _ s=>s.r)) (Xb (r:=Xa) 2 rfl (fun _ s=>s.l.l.r))) fun a16 C17=>(Ft (K:=K) (f:=fun a23=>(Rs.ok (a23, (g9.2 ++ [a16])))) 2 rfl (fun _ s=>s.l.l.l.r) (Ev.toB (YN (Xb (r:=(rV Xa)) 3 rfl (fun _ s=>s.l.r)))) fun a23 v22=>(XC (J:=_) ((some v12), v22, x10.2.2.1, C17) (a23, (g9.2 ++ [a16])) rfl rfl (fun _ s=>(SC.i (SC.i (SC.i SC.t s.l.l.l.l.l.r) s.r) s.l.r)))))) fun g24 x25=>(XT (YD (o:=(oL (oL (oF Xa)))) 1 0 rfl rfl (fun _ s=>s.r))))))
theorem UP : FnScope ["drawing"] ["drawing"] (Xg Ys):=⟨rfl, rfl, rfl, by decide +kernel, rfl, by decide +kernel, by decide +kernel⟩
theorem UZ (D : Def K mg "arc_count" Ys ["drawing"]) (g_arcs_of_walk : Fn P w K mg base 1 "arcs_of_walk" ["walk"] (sp1 (rV Xa) (oF Xa) XJ K)) (Z : Blt mg) : Fn P w K mg base 2 "arc_count" ["drawing"] (sp1 (rP2 (rV (rV Xa)) (rV (rP2 Xa Xa))) (oF Xa) YH K):=by
  refine Y0 D UP (fun vs H Q E h=>?_) (fun f cdv A outer s H vs Q E hr h=>?_)
  . obtain ⟨v_0, a_0, b, rfl, _⟩:=h; rfl
  obtain ⟨v_0, a_0, b, rfl, h_0, hm, q⟩:=h
  have hu:=hu8 hr
  have hu1:=YQ hr
  refine ⟨_, (Xc (XS (XH (Uw rfl) rfl Z.b_sum PyProof.Rows.boot_sum (Xd (YU (sc:=(Xg Ys)) (N0:=["drawing"]) (tns:=["walk"]) (caps:=[]) rfl (XR (K:=K) rfl (XL (Y4 K rfl) (pv 0) Xf (fun _ _=>rfl))) (Za (by decide)) (fun cl C s H ex E=>⟨Xm (i:=0) (show List.Nodup (["walk"] : List Str) by decide +kernel) rfl (Or.inl rfl), YY, (Yg g_arcs_of_walk hr (by decide) (Xd (pv 0) Xh))⟩)) Xh)))
    Xi), ?_⟩
  refine YX (S:=(SC.add SC.nil K (rP2 (rV (rV Xa)) (rV (rP2 Xa Xa))) v_0 a_0)) (σ:=[some v_0]) 0 ?_ (SC.i SC.t h_0) hm q rfl
  unfold YH
  exact (XT (EvS.ev (EvB.sh (Dw (Ev.toB (YZ (fun _=>tg1 0) (XD (JW (Xk (r:=(rP2 (rV (rV Xa)) (rV (rP2 Xa Xa)))) 0 rfl (fun _ s=>s.r)))) (fun C3 a4 v5=>(YN (Xb (r:=(rV Xa)) 0 rfl (fun _ s=>s.r))))))))))
theorem Zc : FnScope ["drawing", "numbers", "told", "crossing", "sign", "above", "below", "over", "ways", "inward", "outward"] ["drawing"] (Xg Qd):=⟨rfl, rfl, rfl, by decide +kernel, rfl, by decide +kernel, by decide +kernel⟩
theorem CU (D : Def K mg "meets" Qd ["drawing"]) (g_arcs : Fn P w K mg base 3 "arcs" ["drawing"] (sp1 (rP2 (rV (rV Xa)) (rV (rP2 Xa Xa))) (oL (oL (oF Xa))) VG K)) (g_spot : Fn P w K mg base 1 "spot" ["drawing", "passage"] (sp2 (rP2 (rV (rV Xa)) (rV (rP2 Xa Xa))) Xa (oF (rP2 Xa Xa)) JK K)) (Z : Blt mg) : Fn P w K mg base 4 "meets" ["drawing"] (sp1 (rP2 (rV (rV Xa)) (rV (rP2 Xa Xa))) (oL (oF (rP5 Xa Xa Xa Xa Xa))) ZE K):=by
  refine Y0 D Zc (fun vs H Q E h=>?_) (fun f cdv A outer s H vs Q E hr h=>?_)
  . obtain ⟨v_0, a_0, b, rfl, _⟩:=h; rfl
  obtain ⟨v_0, a_0, b, rfl, h_0, hm, q⟩:=h
  have hu:=hu8 hr
  have hu1:=YQ hr
  refine ⟨_, (Xc (Xn (i:=1) Zc.nd rfl (Or.inl rfl) (Yg g_arcs hr (by decide) (Xd (pv 0) Xh)))
    (Xc (Xn (i:=2) Zc.nd rfl (Or.inl rfl) (Yh Xh))
    (Xc (YR PassesOwn.never rfl (XR (K:=K) rfl (XL (Y4 K rfl) (pv 0) Xf (fun _ _=>rfl))) (Q4 rfl (XA (Xm (i:=3) Zc.nd rfl (Or.inl rfl)) (XA (Xm (i:=4) Zc.nd rfl (Or.inl rfl)) Zm)))
      (Xc (Xn (i:=5) Zc.nd rfl (Or.inl rfl) (Yg g_spot hr (by decide) (Xd (pv 0) (Xd (pv 3) Xh))))
      (Xc (Xn (i:=6) Zc.nd rfl (Or.inl rfl) (Yg g_spot hr (by decide) (Xd (pv 0) (Xd (GC VD (pv 3)) Xh))))
      (Xc (Xn (i:=7) Zc.nd rfl (Or.inl rfl) (XL (Xl K rfl) (XL (Xl K rfl) (pv 1) (XL (Y4 K rfl) (pv 5) Xf (fun _ _=>rfl)) (fun _ _=>rfl)) (XL (Y4 K rfl) (pv 5) Xf (fun _ _=>rfl)) (fun _ _=>rfl)))
      (Xc (Xn (i:=8) Zc.nd rfl (Or.inl rfl) (XL (Xl K rfl) (pv 1) (XL (Y4 K rfl) (pv 6) Xf (fun _ _=>rfl)) (fun _ _=>rfl)))
      (Xc (Xn (i:=9) Zc.nd rfl (Or.inl rfl) (XL (Xl K rfl) (pv 8) (XL (Y4 K rfl) (pv 6) Xf (fun _ _=>rfl)) (fun _ _=>rfl)))
      (Xc (Xn (i:=10) Zc.nd rfl (Or.inl rfl) (XL (Xl K rfl) (pv 8) (Xo Yc (Xo X9 (XL (Y4 K rfl) (pv 6) Xf (fun _ _=>rfl)) Xf) (XH (Xr K rfl) rfl Z.b_len PySem.boot_len (Xd (pv 8) Xh))) (fun _ _=>rfl)))
      (Xc (YL (ZR PySem.F.plainAttrs_list PySem.F.slot_list_append PySem.F.type_list_append Yb (pv 2) (Xd (ZY (Xd (pv 3) (Xd (pv 4) (Xd (pv 7) (Xd (pv 9) (Xd (pv 10) Xh)))))) Xh)))
      Xi))))))))
    (Xc (XS (pv 2))
    Xi)))), ?_⟩
  refine YX (S:=(SC.add SC.nil K (rP2 (rV (rV Xa)) (rV (rP2 Xa Xa))) v_0 a_0)) (σ:=[some v_0, none, none, none, none, none, none, none, none, none, none]) 1 ?_ (SC.i SC.t h_0) hm q rfl
  unfold ZE
  exact (Xv (K:=K) (r:=(rV (rV Xa))) 1 (Ev.sh (YN (Xb (r:=(rP2 (rV (rV Xa)) (rV (rP2 Xa Xa)))) 0 rfl (fun _ s=>s.r)))) fun a1 v2=>(XQ (K:=K) (o:=(oL (oF (rP5 Xa Xa Xa Xa Xa)))) 2 0 (QW (o:=(oF (rP5 Xa Xa Xa Xa Xa)))) (Nat.le_of_ble_eq_true rfl) fun a5 v6 C7=>(Y7 (K:=K) (J:=({ oo:=fun x9=>[x9.2.2.2.2.2.2.2.2.2], ss:=fun x9=>[some v_0, some v2, some x9.2.2.2.2.2.2.2.2.1, x9.1, x9.2.1, x9.2.2.1, x9.2.2.2.1, x9.2.2.2.2.1, x9.2.2.2.2.2.1, x9.2.2.2.2.2.2.1, x9.2.2.2.2.2.2.2.1], sc:=fun g10 x9=>(SC.addO (SC.add (SC.add SC.nil K (rP2 (rV (rV Xa)) (rV (rP2 Xa Xa))) v_0 a_0) K (rV (rV Xa)) v2 a1) K (oL (oF (rP5 Xa Xa Xa Xa Xa))) x9.2.2.2.2.2.2.2.2.1 g10 x9.2.2.2.2.2.2.2.2.2) } : Jn ((List (Int × Int × Int × Int × Int))) (Option V × Option V × Option V × Option V × Option V × Option V × Option V × Option V × V × List XF))) (fun _=>tg2 3 4) ((none), (none), (none), (none), (none), (none), (none), (none), v6, C7) (a5) (XD (Ei (Xk (r:=(rP2 (rV (rV Xa)) (rV (rP2 Xa Xa)))) 0 rfl (fun _ s=>s.l.l.r)))) rfl rfl (fun _ s=>(SC.i (SC.i (SC.i SC.t s.l.l.r) s.l.r) s.r)) (fun g11 x12 a13 v14=>(Xv (K:=K) (r:=(rP2 Xa Xa)) 5 (EvB.sh (Ev.toB (YM (Xb (r:=(rP2 (rV (rV Xa)) (rV (rP2 Xa Xa)))) 0 rfl (fun _ s=>s.l.l.l.l.r)) (Xb (r:=Xa) 3 rfl (fun _ s=>s.l.r))))) fun a15 v16=>(Xv (K:=K) (r:=(rP2 Xa Xa)) 6 (EvB.sh (Ev.toB (YM (Xb (r:=(rP2 (rV (rV Xa)) (rV (rP2 Xa Xa)))) 0 rfl (fun _ s=>s.l.l.l.l.l.r)) (QY (Xb (r:=Xa) 3 rfl (fun _ s=>s.l.l.r)))))) fun a20 v21=>(Xv (K:=K) (r:=Xa) 7 (EvB.sh (XB (XB (Xb (r:=(rV (rV Xa))) 1 rfl (fun _ s=>s.l.l.l.l.l.r)) (Kn (Xb (r:=(rP2 Xa Xa)) 5 rfl (fun _ s=>s.l.r)))) (J2 (Xb (r:=(rP2 Xa Xa)) 5 rfl (fun _ s=>s.l.r))))) fun a26 v27=>(Xv (K:=K) (r:=(rV Xa)) 8 (Hj (EvS.ls (Xk (r:=(rV (rV Xa))) 1 rfl (fun _ s=>s.l.l.l.l.l.l.r))) (Kn (Xb (r:=(rP2 Xa Xa)) 6 rfl (fun _ s=>s.l.r)))) fun a34 v35=>(Xv (K:=K) (r:=Xa) 9 (EvB.sh (XB (Xb (r:=(rV Xa)) 8 rfl (fun _ s=>s.r)) (J2 (Xb (r:=(rP2 Xa Xa)) 6 rfl (fun _ s=>s.l.l.r))))) fun a39 v40=>(Xv (K:=K) (r:=Xa) 10 (EvB.sh (XB (Xb (r:=(rV Xa)) 8 rfl (fun _ s=>s.l.r)) (XM (XN (J2 (Xb (r:=(rP2 Xa Xa)) 6 rfl (fun _ s=>s.l.l.l.r))) (Xe 1)) (YE (Xb (r:=(rV Xa)) 8 rfl (fun _ s=>s.l.r)))))) fun a44 v45=>(ZH (K:=K) (o:=(oF (rP5 Xa Xa Xa Xa Xa))) (f:=fun a61=>(Rs.ok (a61))) 2 0 rfl rfl rfl (fun _ s=>s.l.l.l.l.l.l.l.l.r) (EvS.ev (Ck (Xk (r:=Xa) 3 rfl (fun _ s=>s.l.l.l.l.l.l.l.r)) (Xk (r:=Xa) 4 rfl (fun _ s=>s.l.l.l.l.l.l.r)) (Xk (r:=Xa) 7 rfl (fun _ s=>s.l.l.l.r)) (Xk (r:=Xa) 9 rfl (fun _ s=>s.l.r)) (Xk (r:=Xa) 10 rfl (fun _ s=>s.r)))) fun a59 C60=>(XC (J:=_) ((some v14.1), (some v14.2), (some v16), (some v21), (some v27), (some v35), (some v40), (some v45), x12.2.2.2.2.2.2.2.2.1, C60) ((g11 ++ [a59])) rfl rfl (fun _ s=>(SC.i (SC.i (SC.i SC.t s.l.l.l.l.l.l.l.l.l.l.l.r) s.l.l.l.l.l.l.l.l.l.l.r) s.r))))))))))) fun g62 x63=>(XT (YD (o:=(oL (oF (rP5 Xa Xa Xa Xa Xa)))) 2 0 rfl rfl (fun _ s=>s.r))))))
theorem Qr : FnScope ["drawing", "told", "crossing", "sign", "over", "inward", "outward"] ["drawing"] (Xg Jk):=⟨rfl, rfl, rfl, by decide +kernel, rfl, by decide +kernel, by decide +kernel⟩
theorem BC (D : Def K mg "ties" Jk ["drawing"]) (g_meets : Fn P w K mg base 4 "meets" ["drawing"] (sp1 (rP2 (rV (rV Xa)) (rV (rP2 Xa Xa))) (oL (oF (rP5 Xa Xa Xa Xa Xa))) ZE K)) (Z : Blt mg) : Fn P w K mg base 5 "ties" ["drawing"] (sp1 (rP2 (rV (rV Xa)) (rV (rP2 Xa Xa))) (oL (oF (rP3 Xa Xa Xa))) Vu K):=by
  refine Y0 D Qr (fun vs H Q E h=>?_) (fun f cdv A outer s H vs Q E hr h=>?_)
  . obtain ⟨v_0, a_0, b, rfl, _⟩:=h; rfl
  obtain ⟨v_0, a_0, b, rfl, h_0, hm, q⟩:=h
  have hu:=hu8 hr
  have hu1:=YQ hr
  refine ⟨_, (Xc (Xn (i:=1) Qr.nd rfl (Or.inl rfl) (Yh Xh))
    (Xc (YR PassesOwn.never rfl (XR (K:=K) rfl (Yg g_meets hr (by decide) (Xd (pv 0) Xh))) (Q4 rfl (XA (Xm (i:=2) Qr.nd rfl (Or.inl rfl)) (XA (Xm (i:=3) Qr.nd rfl (Or.inl rfl)) (XA (Xm (i:=4) Qr.nd rfl (Or.inl rfl)) (XA (Xm (i:=5) Qr.nd rfl (Or.inl rfl)) (XA (Xm (i:=6) Qr.nd rfl (Or.inl rfl)) Zm))))))
      (Xc (YL (ZR PySem.F.plainAttrs_list PySem.F.slot_list_append PySem.F.type_list_append Yb (pv 1) (Xd (D0 (XW Uk (pv 3) Xf (Yl _)) (ZY (Xd (pv 5) (Xd (pv 4) (Xd (pv 6) Xh)))) (ZY (Xd (pv 6) (Xd (pv 4) (Xd (pv 5) Xh))))) Xh)))
      Xi))
    (Xc (XS (pv 1))
    Xi))), ?_⟩
  refine YX (S:=(SC.add SC.nil K (rP2 (rV (rV Xa)) (rV (rP2 Xa Xa))) v_0 a_0)) (σ:=[some v_0, none, none, none, none, none, none]) 1 ?_ (SC.i SC.t h_0) hm q rfl
  unfold Vu
  exact (XQ (K:=K) (o:=(oL (oF (rP3 Xa Xa Xa)))) 1 0 (QW (o:=(oF (rP3 Xa Xa Xa)))) (Nat.le_of_ble_eq_true rfl) fun a1 v2 C3=>(Y7 (K:=K) (J:=({ oo:=fun x6=>[x6.2.2.2.2.2.2], ss:=fun x6=>[some v_0, some x6.2.2.2.2.2.1, x6.1, x6.2.1, x6.2.2.1, x6.2.2.2.1, x6.2.2.2.2.1], sc:=fun g7 x6=>(SC.addO (SC.add SC.nil K (rP2 (rV (rV Xa)) (rV (rP2 Xa Xa))) v_0 a_0) K (oL (oF (rP3 Xa Xa Xa))) x6.2.2.2.2.2.1 g7 x6.2.2.2.2.2.2) } : Jn ((List (Int × Int × Int))) (Option V × Option V × Option V × Option V × Option V × V × List XF))) (fun _=>tg5 2 3 4 5 6) ((none), (none), (none), (none), (none), v2, C3) (a1) (XD (Ev.sh (YN (Xb (r:=(rP2 (rV (rV Xa)) (rV (rP2 Xa Xa)))) 0 rfl (fun _ s=>s.l.r))))) rfl rfl (fun _ s=>(SC.i (SC.i SC.t s.l.r) s.r)) (fun g8 x9 a10 v11=>(ZH (K:=K) (o:=(oF (rP3 Xa Xa Xa))) (f:=fun a23=>(Rs.ok (a23))) 1 0 rfl rfl rfl (fun _ s=>s.l.l.l.l.l.r) (H9 (XG (K:=K) (Ji (Xb (r:=Xa) 3 rfl (fun _ s=>s.l.l.l.r)) (Xe 1))) (EvS.ev (Gf (Xk (r:=Xa) 5 rfl (fun _ s=>s.l.r)) (Xk (r:=Xa) 4 rfl (fun _ s=>s.l.l.r)) (Xk (r:=Xa) 6 rfl (fun _ s=>s.r)))) (EvS.ev (Gf (Xk (r:=Xa) 6 rfl (fun _ s=>s.r)) (Xk (r:=Xa) 4 rfl (fun _ s=>s.l.l.r)) (Xk (r:=Xa) 5 rfl (fun _ s=>s.l.r))))) fun a21 C22=>(XC (J:=_) ((some v11.1), (some v11.2.1), (some v11.2.2.1), (some v11.2.2.2.1), (some v11.2.2.2.2), x9.2.2.2.2.2.1, C22) ((g8 ++ [a21])) rfl rfl (fun _ s=>(SC.i (SC.i SC.t s.l.l.l.l.l.l.l.r) s.r))))) fun g24 x25=>(XT (YD (o:=(oL (oF (rP3 Xa Xa Xa)))) 1 0 rfl rfl (fun _ s=>s.r)))))
theorem Qv : FnScope ["number", "divisor"] ["number"] (Xg Y1):=⟨rfl, rfl, rfl, by decide +kernel, rfl, by decide +kernel, by decide +kernel⟩
theorem Ky (D : Def K mg "is_prime" Y1 ["number"])  (Z : Blt mg) : Fn P w K mg base 1 "is_prime" ["number"] (sp1 Xa (oF Ym) Zt K):=by
  refine Y0 D Qv (fun vs H Q E h=>?_) (fun f cdv A outer s H vs Q E hr h=>?_)
  . obtain ⟨v_0, a_0, b, rfl, _⟩:=h; rfl
  obtain ⟨v_0, a_0, b, rfl, h_0, hm, q⟩:=h
  have hu:=hu8 hr
  have hu1:=YQ hr
  refine ⟨_, (Xc (ZD (PW.pt (Ik (XW KB (pv 0) Xf (Yl _)) (EO (XW GX (pv 0) (E2 Z.c_MOST_PRIME rfl) (Yl _)))))
      (Xc (XS Jp)
      Xi)
      Xi)
    (Xc (Xn (i:=1) Qv.nd rfl (Or.inl rfl) Xf)
    (Xc (V0 PassesOwn.never (XW HY (Xo Yf (pv 1) (pv 1)) (pv 0) (Yl _))
      (Xc (ZD (XW Uk (Xo Yc (pv 0) (pv 1)) Xf (Yl _))
        (Xc (XS Jp)
        Xi)
        Xi)
      (Xc (K5 (i:=1) Qv.nd rfl (Or.inl rfl) Xf UR)
      Xi)))
    (Xc (XS Jp)
    Xi)))), ?_⟩
  refine YX (S:=(SC.add SC.nil K Xa v_0 a_0)) (σ:=[some v_0, none]) 0 ?_ (SC.i SC.t h_0) hm q rfl
  unfold Zt
  exact (KL (HJ (XG (K:=K) (JC (Xb (r:=Xa) 0 rfl (fun _ s=>s.r)) (Xe 2))) (XG (K:=K) (Ut (Xb (r:=Xa) 0 rfl (fun _ s=>s.r)) (Xe 100000)))) (XT (EvS.ev (EvB.sh (QM false)))) (Xv (K:=K) (r:=Xa) 1 (EvB.sh (Xe 2)) fun a6 v7=>(DC (K:=K) (J:=({ oo:=fun x8=>[], ss:=fun x8=>[some v_0, some x8], sc:=fun g9 x8=>(SC.add (SC.add SC.nil K Xa v_0 a_0) K Xa x8 g9) } : Jn (Int) (V))) (a_0.natAbs + 2) (v7) (a6) rfl rfl (fun _ s=>(SC.i (SC.i SC.t s.l.r) s.r)) (fun g10 x11=>(XG (K:=K) (Hu (XO (Xb (r:=Xa) 1 rfl (fun _ s=>s.r)) (Xb (r:=Xa) 1 rfl (fun _ s=>s.r))) (Xb (r:=Xa) 0 rfl (fun _ s=>s.l.r))))) (fun g10 x11=>(Ug (XG (K:=K) (Ji (XM (Xb (r:=Xa) 0 rfl (fun _ s=>s.l.r)) (Xb (r:=Xa) 1 rfl (fun _ s=>s.r))) (Xe 0))) (XT (EvS.ev (EvB.sh (QM false)))) (Ft (K:=K) (f:=fun a23=>(Rs.bind (Rs.ok (a23)) fun x24=>(Rs.ok (Ctl.nx x24)))) 1 rfl (fun _ s=>s.r) (Xe 1) fun a23 v22=>(Ux (XC (J:=_) (v22) (a23) rfl rfl (fun _ s=>(SC.i (SC.i SC.t s.l.l.r) s.r))))))) fun g26 x27=>(XT (EvS.ev (EvB.sh (QM true)))))))
theorem JF : FnScope ["prime", "factor"] ["prime", "factor"] (Xg X5):=⟨rfl, rfl, rfl, by decide +kernel, rfl, by decide +kernel, by decide +kernel⟩
theorem Vj (D : Def K mg "refuse_wrong" X5 ["prime", "factor"]) (g_is_prime : Fn P w K mg base 1 "is_prime" ["number"] (sp1 Xa (oF Ym) Zt K)) (Z : Blt mg) : Fn P w K mg base 2 "refuse_wrong" ["prime", "factor"] (sp2 Xa Xa oU YC K):=by
  refine Y0 D JF (fun vs H Q E h=>?_) (fun f cdv A outer s H vs Q E hr h=>?_)
  . obtain ⟨v_0, v_1, a_0, a_1, b, rfl, _⟩:=h; rfl
  obtain ⟨v_0, v_1, a_0, a_1, b, rfl, h_0, h_1, hm, q⟩:=h
  have hu:=hu8 hr
  have hu1:=YQ hr
  refine ⟨_, (Xc (ZD (G7 (F0 (Yg g_is_prime hr (by decide) (Xd (pv 0) Xh))))
      (Xc VN
      Xi)
      Xi)
    (Xc (ZD (XW Uk (Xo Yc (pv 1) (pv 0)) Xf (Yl _))
      (Xc VN
      Xi)
      Xi)
    Xi)), ?_⟩
  refine Iq (J:=({ oo:=fun x3=>[], ss:=fun x3=>[some v_0, some v_1], sc:=fun g4 x3=>(SC.add (SC.add SC.nil K Xa v_0 a_0) K Xa v_1 a_1) } : Jn (Unit) (Unit))) (K:=K) (S:=(SC.add (SC.add SC.nil K Xa v_0 a_0) K Xa v_1 a_1)) (σ:=[some v_0, some v_1]) 0 ?_ (SC.i (SC.i SC.t h_0) h_1) hm q (fun _ _=>rfl)
  unfold YC
  exact (Bl (Kw (GW (K:=K) (Ev.toB (YN (Xb (r:=Xa) 0 rfl (fun _ s=>s.l.r)))))) (Bl (XG (K:=K) (Ji (XM (Xb (r:=Xa) 1 rfl (fun _ s=>s.r)) (Xb (r:=Xa) 0 rfl (fun _ s=>s.l.r))) (Xe 0))) (XC (J:=_) () () rfl rfl (fun _ s=>(SC.i (SC.i SC.t s.l.r) s.r)))))
theorem YG : FnScope ["drawing", "prime", "factor", "count", "told", "start", "over", "end", "numbers"] ["drawing", "prime", "factor"] (Xg Yt):=⟨rfl, rfl, rfl, by decide +kernel, rfl, by decide +kernel, by decide +kernel⟩
theorem Uu (D : Def K mg "equations" Yt ["drawing", "prime", "factor"]) (g_refuse_wrong : Fn P w K mg base 2 "refuse_wrong" ["prime", "factor"] (sp2 Xa Xa oU YC K)) (g_arc_count : Fn P w K mg base 2 "arc_count" ["drawing"] (sp1 (rP2 (rV (rV Xa)) (rV (rP2 Xa Xa))) (oF Xa) YH K)) (g_ties : Fn P w K mg base 5 "ties" ["drawing"] (sp1 (rP2 (rV (rV Xa)) (rV (rP2 Xa Xa))) (oL (oF (rP3 Xa Xa Xa))) Vu K)) (Z : Blt mg) : Fn P w K mg base 6 "equations" ["drawing", "prime", "factor"] (sp3 (rP2 (rV (rV Xa)) (rV (rP2 Xa Xa))) Xa Xa (oL (oL (oF Xa))) YF K):=by
  refine Y0 D YG (fun vs H Q E h=>?_) (fun f cdv A outer s H vs Q E hr h=>?_)
  . obtain ⟨v_0, v_1, v_2, a_0, a_1, a_2, b, rfl, _⟩:=h; rfl
  obtain ⟨v_0, v_1, v_2, a_0, a_1, a_2, b, rfl, h_0, h_1, h_2, hm, q⟩:=h
  have hu:=hu8 hr
  have hu1:=YQ hr
  refine ⟨_, (Xc (YL (Yg g_refuse_wrong hr (by decide) (Xd (pv 1) (Xd (pv 2) Xh))))
    (Xc (Xn (i:=3) YG.nd rfl (Or.inl rfl) (Yg g_arc_count hr (by decide) (Xd (pv 0) Xh)))
    (Xc (Xn (i:=4) YG.nd rfl (Or.inl rfl) (Yh Xh))
    (Xc (YR PassesOwn.never rfl (XR (K:=K) rfl (Yg g_ties hr (by decide) (Xd (pv 0) Xh))) (Q4 rfl (XA (Xm (i:=5) YG.nd rfl (Or.inl rfl)) (XA (Xm (i:=6) YG.nd rfl (Or.inl rfl)) (XA (Xm (i:=7) YG.nd rfl (Or.inl rfl)) Zm))))
      (Xc (Xn (i:=8) YG.nd rfl (Or.inl rfl) (Xo JH (Yh (Xd Xf Xh)) (pv 3)))
      (Xc (U3 (pv 8) (pv 5) (Uf K rfl) (pv 2) UR ZB)
      (Xc (U3 (pv 8) (pv 6) (Uf K rfl) (Xo Q8 Xf (pv 2)) UR ZB)
      (Xc (U3 (pv 8) (pv 7) (Uf K rfl) Xf Ho ZB)
      (Xc (YL (ZR PySem.F.plainAttrs_list PySem.F.slot_list_append PySem.F.type_list_append Yb (pv 4) (Xd (YU (sc:=(Xg Yt)) (N0:=["drawing", "prime", "factor", "count", "told", "start", "over", "end", "numbers"]) (tns:=["number"]) (caps:=[(1, "prime")]) rfl (XR (K:=K) rfl (pv 8)) (Za (by decide)) (fun cl C s H ex E=>⟨Xm (i:=0) (show List.Nodup (["number", "prime"] : List Str) by decide +kernel) rfl (Or.inl rfl), YY, (Xo Yc (pv 0) (pv 1))⟩)) Xh)))
      Xi))))))
    (Xc (XS (pv 4))
    Xi))))), ?_⟩
  refine YX (S:=(SC.add (SC.add (SC.add SC.nil K (rP2 (rV (rV Xa)) (rV (rP2 Xa Xa))) v_0 a_0) K Xa v_1 a_1) K Xa v_2 a_2)) (σ:=[some v_0, some v_1, some v_2, none, none, none, none, none, none]) 2 ?_ (SC.i (SC.i (SC.i SC.t h_0) h_1) h_2) hm q rfl
  unfold YF
  exact (Eu (Ev.toB (YM (Xb (r:=Xa) 1 rfl (fun _ s=>s.l.r)) (Xb (r:=Xa) 2 rfl (fun _ s=>s.r)))) (Xv (K:=K) (r:=Xa) 3 (EvB.sh (Ev.toB (YN (Xb (r:=(rP2 (rV (rV Xa)) (rV (rP2 Xa Xa)))) 0 rfl (fun _ s=>s.l.l.r))))) fun a5 v6=>(XQ (K:=K) (o:=(oL (oL (oF Xa)))) 4 0 (QW (o:=(oL (oF Xa)))) (Nat.le_of_ble_eq_true rfl) fun a9 v10 C11=>(Y7 (K:=K) (J:=({ oo:=fun x14=>[x14.2.2.2.2.2, []], ss:=fun x14=>[some v_0, some v_1, some v_2, some v6, some x14.2.2.2.2.1, x14.1, x14.2.1, x14.2.2.1, x14.2.2.2.1], sc:=fun g15 x14=>(SC.addO (SC.add (SC.add (SC.add (SC.add SC.nil K (rP2 (rV (rV Xa)) (rV (rP2 Xa Xa))) v_0 a_0) K Xa v_1 a_1) K Xa v_2 a_2) K Xa v6 a5) K (oL (oL (oF Xa))) x14.2.2.2.2.1 g15 x14.2.2.2.2.2) } : Jn ((List (List Int))) (Option V × Option V × Option V × Option V × V × List XF))) (fun _=>tg3 5 6 7) ((none), (none), (none), (none), v10, C11) (a9) (XD (Ev.sh (YN (Xb (r:=(rP2 (rV (rV Xa)) (rV (rP2 Xa Xa)))) 0 rfl (fun _ s=>s.l.l.l.l.r))))) rfl rfl (fun _ s=>(SC.i (SC.i (SC.i (SC.i (SC.i SC.t s.l.l.l.l.r) s.l.l.l.r) s.l.l.r) s.l.r) s.r)) (fun g16 x17 a18 v19=>(XQ (K:=K) (o:=(oL (oF Xa))) 8 1 (Vi (Ev.ls (Zz (Xp (EvB.sh (Xe 0)) Zd))) (Xb (r:=Xa) 3 rfl (fun _ s=>s.l.l.l.l.r))) (Nat.le_of_ble_eq_true rfl) fun a20 v21 C22=>(V7 (K:=K) (g:=fun i j=>i + j) (f:=fun a28=>(Rs.bind (Rs.ok a18.2.1) fun x37=>(Rs.bind (atR a28 x37) fun x38=>(Rs.bind (Rs.bind (Rs.ok (1 : Int)) fun x33=>(Rs.bind (Rs.ok a_2) fun x34=>(Rs.ok (x33 - x34)))) fun x39=>(Rs.bind (Qw a28 x37 (x38 + x39)) fun a35=>(Rs.bind (Rs.ok a18.2.2) fun x42=>(Rs.bind (atR a35 x42) fun x43=>(Rs.bind (Rs.ok (1 : Int)) fun x44=>(Rs.bind (Qw a35 x42 (x43 - x44)) fun a40=>(Rs.bind (Rs.bind (Rs.ok a40) fun x48=>(Ju x48 (fun a46=>(Rs.bind (Rs.ok a46) fun x49=>(Rs.bind (Rs.ok a_1) fun x50=>(ZF x49 x50)))))) fun a51=>(chk (g16.length < sizeLine) ((fun a53=>(Rs.ok (a53))) (g16 ++ [a51]))))))))))))) 8 1 rfl rfl (fun _ s=>s.r) (Xb (r:=Xa) 5 rfl (fun _ s=>s.l.l.l.r)) (Xb (r:=Xa) 2 rfl (fun _ s=>s.l.l.l.l.l.l.r)) fun a28 C29=>(V7 (K:=K) (g:=fun i j=>i + j) (f:=fun a35=>(Rs.bind (Rs.ok a18.2.2) fun x42=>(Rs.bind (atR a35 x42) fun x43=>(Rs.bind (Rs.ok (1 : Int)) fun x44=>(Rs.bind (Qw a35 x42 (x43 - x44)) fun a40=>(Rs.bind (Rs.bind (Rs.ok a40) fun x48=>(Ju x48 (fun a46=>(Rs.bind (Rs.ok a46) fun x49=>(Rs.bind (Rs.ok a_1) fun x50=>(ZF x49 x50)))))) fun a51=>(chk (g16.length < sizeLine) ((fun a53=>(Rs.ok (a53))) (g16 ++ [a51]))))))))) 8 1 rfl rfl (fun _ s=>s.r) (Xb (r:=Xa) 6 rfl (fun _ s=>s.l.l.l.r)) (Z2 (Xe 1) (Xb (r:=Xa) 2 rfl (fun _ s=>s.l.l.l.l.l.l.l.r))) fun a35 C36=>(V7 (K:=K) (g:=fun i j=>i - j) (f:=fun a40=>(Rs.bind (Rs.bind (Rs.ok a40) fun x48=>(Ju x48 (fun a46=>(Rs.bind (Rs.ok a46) fun x49=>(Rs.bind (Rs.ok a_1) fun x50=>(ZF x49 x50)))))) fun a51=>(chk (g16.length < sizeLine) ((fun a53=>(Rs.ok (a53))) (g16 ++ [a51]))))) 8 1 rfl rfl (fun _ s=>s.r) (Xb (r:=Xa) 7 rfl (fun _ s=>s.l.l.l.r)) (Xe 1) fun a40 C41=>(ZH (K:=K) (o:=(oL (oF Xa))) (f:=fun a53=>(Rs.ok (a53))) 4 0 rfl rfl rfl (fun _ s=>s.l.l.l.l.l.l.l.r) (Uc (K:=K) (o1:=(oL (oF Xa))) 1 rfl (fun _ s=>s.r) (YZ (fun _=>tg1 0) (XD (Xk (r:=(rV Xa)) 8 rfl (fun _ s=>s.r))) (fun C45 a46 v47=>(EvS.ev (EvB.sh (XM (Xb (r:=Xa) 0 rfl (fun _ s=>s.r)) (Xb (r:=Xa) 1 rfl (fun _ s=>s.l.l.l.l.l.l.l.l.l.l.l.l.r)))))))) fun a51 C52=>(KG 1 (XC (J:=_) ((some v19.1), (some v19.2.1), (some v19.2.2), (some v21), x17.2.2.2.2.1, C52) ((g16 ++ [a51])) rfl rfl (fun _ s=>(SC.i (SC.i (SC.i (SC.i (SC.i SC.t s.l.l.l.l.l.l.l.l.l.l.l.l.r) s.l.l.l.l.l.l.l.l.l.l.l.r) s.l.l.l.l.l.l.l.l.l.l.r) s.l.l.l.l.l.l.l.l.l.r) s.r)))))))))) fun g54 x55=>(XT (YD (o:=(oL (oL (oF Xa)))) 4 0 rfl rfl (fun _ s=>s.r)))))))
theorem Fq : FnScope ["numbers", "colours"] ["numbers", "colours"] (Xg Zq):=⟨rfl, rfl, rfl, by decide +kernel, rfl, by decide +kernel, by decide +kernel⟩
theorem F4 (D : Def K mg "summed" Zq ["numbers", "colours"])  (Z : Blt mg) : Fn P w K mg base 1 "summed" ["numbers", "colours"] (sp2 (rV Xa) (rV Xa) (oF Xa) Qi K):=by
  refine Y0 D Fq (fun vs H Q E h=>?_) (fun f cdv A outer s H vs Q E hr h=>?_)
  . obtain ⟨v_0, v_1, a_0, a_1, b, rfl, _⟩:=h; rfl
  obtain ⟨v_0, v_1, a_0, a_1, b, rfl, h_0, h_1, hm, q⟩:=h
  have hu:=hu8 hr
  have hu1:=YQ hr
  refine ⟨_, (Xc (XS (XH (Uw rfl) rfl Z.b_sum PyProof.Rows.boot_sum (Xd (YU (sc:=(Xg Zq)) (N0:=["numbers", "colours"]) (tns:=["number", "colour"]) (caps:=[]) rfl (Bk K rfl rfl Z.b_zip (Xd (pv 0) (Xd (pv 1) Xh))) (JZ (by decide) (by decide)) (fun cl C s H ex E=>⟨JP K rfl rfl (XA (Xm (i:=0) (show List.Nodup (["number", "colour"] : List Str) by decide +kernel) rfl (Or.inl rfl)) (XA (Xm (i:=1) (show List.Nodup (["number", "colour"] : List Str) by decide +kernel) rfl (Or.inl rfl)) Zm)), YY, (Xo Yf (pv 0) (pv 1))⟩)) Xh)))
    Xi), ?_⟩
  refine YX (S:=(SC.add (SC.add SC.nil K (rV Xa) v_0 a_0) K (rV Xa) v_1 a_1)) (σ:=[some v_0, some v_1]) 0 ?_ (SC.i (SC.i SC.t h_0) h_1) hm q rfl
  unfold Qi
  exact (XT (EvS.ev (EvB.sh (Dw (Ev.toB (YZ (fun _=>tg2 0 1) (KH (Xk (r:=(rV Xa)) 0 rfl (fun _ s=>s.l.r)) (Xk (r:=(rV Xa)) 1 rfl (fun _ s=>s.r))) (fun C4 a5 v6=>(EvS.ev (EvB.sh (XO (Xb (r:=Xa) 0 rfl (fun _ s=>s.l.r)) (Xb (r:=Xa) 1 rfl (fun _ s=>s.r))))))))))))
theorem K7 : FnScope ["drawing", "prime", "factor", "colours", "asked"] ["drawing", "prime", "factor", "colours"] (Xg ZW):=⟨rfl, rfl, rfl, by decide +kernel, rfl, by decide +kernel, by decide +kernel⟩
theorem Cd (D : Def K mg "keeps" ZW ["drawing", "prime", "factor", "colours"]) (g_equations : Fn P w K mg base 6 "equations" ["drawing", "prime", "factor"] (sp3 (rP2 (rV (rV Xa)) (rV (rP2 Xa Xa))) Xa Xa (oL (oL (oF Xa))) YF K)) (g_summed : Fn P w K mg base 1 "summed" ["numbers", "colours"] (sp2 (rV Xa) (rV Xa) (oF Xa) Qi K)) (Z : Blt mg) : Fn P w K mg base 7 "keeps" ["drawing", "prime", "factor", "colours"] (sp4 (rP2 (rV (rV Xa)) (rV (rP2 Xa Xa))) Xa Xa (rV Xa) (oF Ym) ZV K):=by
  refine Y0 D K7 (fun vs H Q E h=>?_) (fun f cdv A outer s H vs Q E hr h=>?_)
  . obtain ⟨v_0, v_1, v_2, v_3, a_0, a_1, a_2, a_3, b, rfl, _⟩:=h; rfl
  obtain ⟨v_0, v_1, v_2, v_3, a_0, a_1, a_2, a_3, b, rfl, h_0, h_1, h_2, h_3, hm, q⟩:=h
  have hu:=hu8 hr
  have hu1:=YQ hr
  refine ⟨_, (Xc (Xn (i:=4) K7.nd rfl (Or.inl rfl) (Yg g_equations hr (by decide) (Xd (pv 0) (Xd (pv 1) (Xd (pv 2) Xh)))))
    (Xc (XS (XH (DN rfl) rfl Z.b_all PyProof.Rows.boot_all (Xd (YU (sc:=(Xg ZW)) (N0:=["drawing", "prime", "factor", "colours", "asked"]) (tns:=["equation"]) (caps:=[(3, "colours"), (1, "prime")]) rfl (XR (K:=K) rfl (pv 4)) (Za (by decide)) (fun cl C s H ex E=>⟨Xm (i:=0) (show List.Nodup (["equation", "colours", "prime"] : List Str) by decide +kernel) rfl (Or.inl rfl), YY, (DO Uk (Xo Yc (Yg g_summed hr (by decide) (Xd (pv 0) (Xd (pv 1) Xh))) (pv 2)) Xf (Yl _))⟩)) Xh)))
    Xi)), ?_⟩
  refine YX (S:=(SC.add (SC.add (SC.add (SC.add SC.nil K (rP2 (rV (rV Xa)) (rV (rP2 Xa Xa))) v_0 a_0) K Xa v_1 a_1) K Xa v_2 a_2) K (rV Xa) v_3 a_3)) (σ:=[some v_0, some v_1, some v_2, some v_3, none]) 0 ?_ (SC.i (SC.i (SC.i (SC.i SC.t h_0) h_1) h_2) h_3) hm q rfl
  unfold ZV
  exact (Xv (K:=K) (r:=(rV (rV Xa))) 4 (Ev.sh (Zb (Xb (r:=(rP2 (rV (rV Xa)) (rV (rP2 Xa Xa)))) 0 rfl (fun _ s=>s.l.l.l.r)) (Xb (r:=Xa) 1 rfl (fun _ s=>s.l.l.r)) (Xb (r:=Xa) 2 rfl (fun _ s=>s.l.r)))) fun a1 v2=>(XT (EvS.ev (EvB.sh (BS (Ev.toB (YZ (fun _=>tg1 0) (XD (Xk (r:=(rV (rV Xa))) 4 rfl (fun _ s=>s.r))) (fun C8 a9 v10=>(EvS.ev (EvB.sh (Ji (XM (Ev.toB (YM (Xb (r:=(rV Xa)) 0 rfl (fun _ s=>s.r)) (Xb (r:=(rV Xa)) 1 rfl (fun _ s=>s.l.l.r)))) (Xb (r:=Xa) 2 rfl (fun _ s=>s.l.l.l.l.r))) (Xe 0))))))))))))
theorem CA : FnScope ["row", "number", "prime"] ["row", "number", "prime"] (Xg ZU):=⟨rfl, rfl, rfl, by decide +kernel, rfl, by decide +kernel, by decide +kernel⟩
theorem CG (D : Def K mg "times" ZU ["row", "number", "prime"])  (Z : Blt mg) : Fn P w K mg base 1 "times" ["row", "number", "prime"] (sp3 (rV Xa) Xa Xa (oL (oF Xa)) Q3 K):=by
  refine Y0 D CA (fun vs H Q E h=>?_) (fun f cdv A outer s H vs Q E hr h=>?_)
  . obtain ⟨v_0, v_1, v_2, a_0, a_1, a_2, b, rfl, _⟩:=h; rfl
  obtain ⟨v_0, v_1, v_2, a_0, a_1, a_2, b, rfl, h_0, h_1, h_2, hm, q⟩:=h
  have hu:=hu8 hr
  have hu1:=YQ hr
  refine ⟨_, (Xc (XS (YU (sc:=(Xg ZU)) (N0:=["row", "number", "prime"]) (tns:=["entry"]) (caps:=[(1, "number"), (2, "prime")]) rfl (XR (K:=K) rfl (pv 0)) (Za (by decide)) (fun cl C s H ex E=>⟨Xm (i:=0) (show List.Nodup (["entry", "number", "prime"] : List Str) by decide +kernel) rfl (Or.inl rfl), YY, (Xo Yc (Xo Yf (pv 1) (pv 0)) (pv 2))⟩)))
    Xi), ?_⟩
  refine YX (S:=(SC.add (SC.add (SC.add SC.nil K (rV Xa) v_0 a_0) K Xa v_1 a_1) K Xa v_2 a_2)) (σ:=[some v_0, some v_1, some v_2]) 0 ?_ (SC.i (SC.i (SC.i SC.t h_0) h_1) h_2) hm q rfl
  unfold Q3
  exact (XT (YZ (fun _=>tg1 0) (XD (Xk (r:=(rV Xa)) 0 rfl (fun _ s=>s.l.l.r))) (fun C1 a2 v3=>(EvS.ev (EvB.sh (XM (XO (Xb (r:=Xa) 1 rfl (fun _ s=>s.l.l.r)) (Xb (r:=Xa) 0 rfl (fun _ s=>s.r))) (Xb (r:=Xa) 2 rfl (fun _ s=>s.l.r))))))))
theorem Ya : FnScope ["number", "prime", "told", "square", "left"] ["number", "prime"] (Xg X4):=⟨rfl, rfl, rfl, by decide +kernel, rfl, by decide +kernel, by decide +kernel⟩
theorem JJ (D : Def K mg "inverse_rest" X4 ["number", "prime"])  (Z : Blt mg) : Fn P w K mg base 1 "inverse_rest" ["number", "prime"] (sp2 Xa Xa (oF Xa) Yz K):=by
  refine Y0 D Ya (fun vs H Q E h=>?_) (fun f cdv A outer s H vs Q E hr h=>?_)
  . obtain ⟨v_0, v_1, a_0, a_1, b, rfl, _⟩:=h; rfl
  obtain ⟨v_0, v_1, a_0, a_1, b, rfl, h_0, h_1, hm, q⟩:=h
  have hu:=hu8 hr
  have hu1:=YQ hr
  refine ⟨_, (Xc (Xn (i:=2) Ya.nd rfl (Or.inl rfl) Xf)
    (Xc (Xn (i:=3) Ya.nd rfl (Or.inl rfl) (pv 0))
    (Xc (Xn (i:=4) Ya.nd rfl (Or.inl rfl) (Xo Q8 (pv 1) Xf))
    (Xc (V0 PassesOwn.never (XW GX (pv 4) Xf (Yl _))
      (Xc (ZD (XW Uk (Xo Yc (pv 4) Xf) Xf (Yl _))
        (Xc (Xn (i:=2) Ya.nd rfl (Or.inl rfl) (Xo Yc (Xo Yf (pv 2) (pv 3)) (pv 1)))
        Xi)
        Xi)
      (Xc (Xn (i:=3) Ya.nd rfl (Or.inl rfl) (Xo Yc (Xo Yf (pv 3) (pv 3)) (pv 1)))
      (Xc (K5 (i:=4) Ya.nd rfl (Or.inl rfl) Xf EG)
      Xi))))
    (Xc (XS (pv 2))
    Xi))))), ?_⟩
  refine YX (S:=(SC.add (SC.add SC.nil K Xa v_0 a_0) K Xa v_1 a_1)) (σ:=[some v_0, some v_1, none, none, none]) 0 ?_ (SC.i (SC.i SC.t h_0) h_1) hm q rfl
  unfold Yz
  exact (Xv (K:=K) (r:=Xa) 2 (EvB.sh (Xe 1)) fun a1 v2=>(Xv (K:=K) (r:=Xa) 3 (Xk (r:=Xa) 0 rfl (fun _ s=>s.l.l.r)) fun a3 v4=>(Xv (K:=K) (r:=Xa) 4 (EvB.sh (Z2 (Xb (r:=Xa) 1 rfl (fun _ s=>s.l.l.r)) (Xe 2))) fun a5 v6=>(K8 (J:=({ oo:=fun x9=>[], ss:=fun x9=>[some v_0, some v_1, some x9.2.2, some x9.1, some x9.2.1], sc:=fun g10 x9=>(SC.add (SC.add (SC.add (SC.add (SC.add SC.nil K Xa v_0 a_0) K Xa v_1 a_1) K Xa x9.1 g10.1) K Xa x9.2.1 g10.2.1) K Xa x9.2.2 g10.2.2) } : Jn (Int × Int × Int) (V × V × V))) (100) (v4, v6, v2) (a3, a5, a1) rfl rfl (fun _ s=>(SC.i (SC.i (SC.i (SC.i (SC.i SC.t s.l.l.l.l.r) s.l.l.l.r) s.l.r) s.r) s.l.l.r)) (fun g11 x12=>(XG (K:=K) (Ut (Xb (r:=Xa) 4 rfl (fun _ s=>s.l.r)) (Xe 0)))) (fun g11 x12=>(ZC (J:=({ oo:=fun x20=>[], ss:=fun x20=>[some v_0, some v_1, some x20, some x12.1, some x12.2.1], sc:=fun g21 x20=>(SC.add (SC.add (SC.add (SC.add (SC.add SC.nil K Xa v_0 a_0) K Xa v_1 a_1) K Xa x12.1 g11.1) K Xa x12.2.1 g11.2.1) K Xa x20 g21) } : Jn (Int) (V))) (Z7 (Fd:=FNd ({ oo:=fun x20=>[], ss:=fun x20=>[some v_0, some v_1, some x20, some x12.1, some x12.2.1], sc:=fun g21 x20=>(SC.add (SC.add (SC.add (SC.add (SC.add SC.nil K Xa v_0 a_0) K Xa v_1 a_1) K Xa x12.1 g11.1) K Xa x12.2.1 g11.2.1) K Xa x20 g21) } : Jn (Int) (V))) (XG (K:=K) (Ji (XM (Xb (r:=Xa) 4 rfl (fun _ s=>s.l.r)) (Xe 2)) (Xe 1))) (Xv (K:=K) (r:=Xa) 2 (EvB.sh (XM (XO (Xb (r:=Xa) 2 rfl (fun _ s=>s.r)) (Xb (r:=Xa) 3 rfl (fun _ s=>s.l.l.r))) (Xb (r:=Xa) 1 rfl (fun _ s=>s.l.l.l.r)))) fun a22 v23=>(XC (J:=_) (v23) (a22) rfl rfl (fun _ s=>(SC.i (SC.i (SC.i (SC.i (SC.i SC.t s.l.l.l.l.l.r) s.l.l.l.l.r) s.l.l.l.r) s.l.l.r) s.r)))) (XC (J:=_) (x12.2.2) (g11.2.2) rfl rfl (fun _ s=>(SC.i (SC.i (SC.i (SC.i (SC.i SC.t s.l.l.l.l.r) s.l.l.l.r) s.l.l.r) s.l.r) s.r)))) fun g29 x28=>(Xv (K:=K) (r:=Xa) 3 (EvB.sh (XM (XO (Xb (r:=Xa) 3 rfl (fun _ s=>s.l.l.r)) (Xb (r:=Xa) 3 rfl (fun _ s=>s.l.l.r))) (Xb (r:=Xa) 1 rfl (fun _ s=>s.l.l.l.r)))) fun a30 v31=>(En (K:=K) 4 rfl (fun _ s=>s.l.l.r) (Xe 2) fun a38 v37=>(XC (J:=_) (v31, v37, x28) (a30, a38, g29) rfl rfl (fun _ s=>(SC.i (SC.i (SC.i (SC.i (SC.i SC.t s.l.l.l.l.l.l.r) s.l.l.l.l.l.r) s.l.r) s.r) s.l.l.r))))))) fun g39 x40=>(XT (EvS.ev (Xk (r:=Xa) 2 rfl (fun _ s=>s.r))))))))
theorem GD : FnScope ["row", "lead", "arc", "prime"] ["row", "lead", "arc", "prime"] (Xg Y3):=⟨rfl, rfl, rfl, by decide +kernel, rfl, by decide +kernel, by decide +kernel⟩
theorem Gz (D : Def K mg "cleared" Y3 ["row", "lead", "arc", "prime"])  (Z : Blt mg) : Fn P w K mg base 1 "cleared" ["row", "lead", "arc", "prime"] (sp4 (rV Xa) (rV Xa) Xa Xa (oL (oF Xa)) Zi K):=by
  refine Y0 D GD (fun vs H Q E h=>?_) (fun f cdv A outer s H vs Q E hr h=>?_)
  . obtain ⟨v_0, v_1, v_2, v_3, a_0, a_1, a_2, a_3, b, rfl, _⟩:=h; rfl
  obtain ⟨v_0, v_1, v_2, v_3, a_0, a_1, a_2, a_3, b, rfl, h_0, h_1, h_2, h_3, hm, q⟩:=h
  have hu:=hu8 hr
  have hu1:=YQ hr
  refine ⟨_, (Xc (XS (YU (sc:=(Xg Y3)) (N0:=["row", "lead", "arc", "prime"]) (tns:=["entry", "other"]) (caps:=[(0, "row"), (2, "arc"), (3, "prime")]) rfl (Bk K rfl rfl Z.b_zip (Xd (pv 0) (Xd (pv 1) Xh))) (JZ (by decide) (by decide)) (fun cl C s H ex E=>⟨JP K rfl rfl (XA (Xm (i:=0) (show List.Nodup (["entry", "other", "row", "arc", "prime"] : List Str) by decide +kernel) rfl (Or.inl rfl)) (XA (Xm (i:=1) (show List.Nodup (["entry", "other", "row", "arc", "prime"] : List Str) by decide +kernel) rfl (Or.inl rfl)) Zm)), YY, (Xo Yc (Xo Q8 (pv 0) (Xo Yf (XL (Xl K rfl) (pv 2) (pv 3) (fun _ _=>rfl)) (pv 1))) (pv 4))⟩)))
    Xi), ?_⟩
  refine YX (S:=(SC.add (SC.add (SC.add (SC.add SC.nil K (rV Xa) v_0 a_0) K (rV Xa) v_1 a_1) K Xa v_2 a_2) K Xa v_3 a_3)) (σ:=[some v_0, some v_1, some v_2, some v_3]) 0 ?_ (SC.i (SC.i (SC.i (SC.i SC.t h_0) h_1) h_2) h_3) hm q rfl
  unfold Zi
  exact (XT (YZ (fun _=>tg2 0 1) (KH (Xk (r:=(rV Xa)) 0 rfl (fun _ s=>s.l.l.l.r)) (Xk (r:=(rV Xa)) 1 rfl (fun _ s=>s.l.l.r))) (fun C3 a4 v5=>(EvS.ev (EvB.sh (XM (Z2 (Xb (r:=Xa) 0 rfl (fun _ s=>s.l.r)) (XO (XB (Xb (r:=(rV Xa)) 2 rfl (fun _ s=>s.l.l.l.l.l.r)) (Xb (r:=Xa) 3 rfl (fun _ s=>s.l.l.l.r))) (Xb (r:=Xa) 1 rfl (fun _ s=>s.r)))) (Xb (r:=Xa) 4 rfl (fun _ s=>s.l.l.r))))))))
theorem YK : FnScope ["rows", "count", "prime", "told", "waiting", "arc", "leads", "lead"] ["rows", "count", "prime"] (Xg Yk):=⟨rfl, rfl, rfl, by decide +kernel, rfl, by decide +kernel, by decide +kernel⟩
theorem Kr (D : Def K mg "led_rows" Yk ["rows", "count", "prime"]) (g_times : Fn P w K mg base 1 "times" ["row", "number", "prime"] (sp3 (rV Xa) Xa Xa (oL (oF Xa)) Q3 K)) (g_inverse_rest : Fn P w K mg base 1 "inverse_rest" ["number", "prime"] (sp2 Xa Xa (oF Xa) Yz K)) (g_cleared : Fn P w K mg base 1 "cleared" ["row", "lead", "arc", "prime"] (sp4 (rV Xa) (rV Xa) Xa Xa (oL (oF Xa)) Zi K)) (Z : Blt mg) : Fn P w K mg base 2 "led_rows" ["rows", "count", "prime"] (sp3 (rV (rV Xa)) Xa Xa (oL (oT2 (oF Xa) (oL (oF Xa)))) Zr K):=by
  refine Y0 D YK (fun vs H Q E h=>?_) (fun f cdv A outer s H vs Q E hr h=>?_)
  . obtain ⟨v_0, v_1, v_2, a_0, a_1, a_2, b, rfl, _⟩:=h; rfl
  obtain ⟨v_0, v_1, v_2, a_0, a_1, a_2, b, rfl, h_0, h_1, h_2, hm, q⟩:=h
  have hu:=hu8 hr
  have hu1:=YQ hr
  refine ⟨_, (Xc (Xn (i:=3) YK.nd rfl (Or.inl rfl) (Yh Xh))
    (Xc (Xn (i:=4) YK.nd rfl (Or.inl rfl) (pv 0))
    (Xc (YR PassesOwn.never rfl (Yv rfl Z.b_range (Xd (pv 1) Xh)) (Xm (i:=5) YK.nd rfl (Or.inr rfl))
      (Xc (Qu 6 (Xg Yk) ["rows", "count", "prime", "told", "waiting", "arc", "leads", "lead"] ["row"] [(5, "arc")] rfl YK.nd rfl rfl (XR (K:=K) rfl (pv 4)) (Za (by decide)) (fun cl C s H ex E=>⟨Xm (i:=0) (show List.Nodup (["row", "arc"] : List Str) by decide +kernel) rfl (Or.inl rfl), (V2 (XW Hy (XL (Xl K rfl) (pv 0) (pv 1) (fun _ _=>rfl)) Xf (Yl _))), (pv 0)⟩))
      (Xc (ZD (XW GX (XH (Xr K rfl) rfl Z.b_len PySem.boot_len (Xd (pv 6) Xh)) Xf (Yl _))
        (Xc (Xn (i:=7) YK.nd rfl (Or.inr rfl) (Yg g_times hr (by decide) (Xd (XL (Xl K rfl) (pv 6) Xf (fun _ _=>rfl)) (Xd (Yg g_inverse_rest hr (by decide) (Xd (XL (Xl K rfl) (XL (Xl K rfl) (pv 6) Xf (fun _ _=>rfl)) (pv 5) (fun _ _=>rfl)) (Xd (pv 2) Xh))) (Xd (pv 2) Xh)))))
        (Xc (Qu 4 (Xg Yk) ["rows", "count", "prime", "told", "waiting", "arc", "leads", "lead"] ["row"] [(7, "lead"), (5, "arc"), (2, "prime")] rfl YK.nd rfl rfl (XR (K:=K) rfl (pv 4)) (Za (by decide)) (fun cl C s H ex E=>⟨Xm (i:=0) (show List.Nodup (["row", "lead", "arc", "prime"] : List Str) by decide +kernel) rfl (Or.inl rfl), YY, (Yg g_cleared hr (by decide) (Xd (pv 0) (Xd (pv 1) (Xd (pv 2) (Xd (pv 3) Xh)))))⟩))
        (Xc (Xn (i:=3) YK.nd rfl (Or.inl rfl) (Xo Ge (YU (sc:=(Xg Yk)) (N0:=["rows", "count", "prime", "told", "waiting", "arc", "leads", "lead"]) (tns:=["other", "row"]) (caps:=[(7, "lead"), (5, "arc"), (2, "prime")]) rfl (XR (K:=K) rfl (pv 3)) (JZ (by decide) (by decide)) (fun cl C s H ex E=>⟨JP K rfl rfl (XA (Xm (i:=0) (show List.Nodup (["other", "row", "lead", "arc", "prime"] : List Str) by decide +kernel) rfl (Or.inl rfl)) (XA (Xm (i:=1) (show List.Nodup (["other", "row", "lead", "arc", "prime"] : List Str) by decide +kernel) rfl (Or.inl rfl)) Zm)), YY, (ZY (Xd (pv 0) (Xd (Yg g_cleared hr (by decide) (Xd (pv 1) (Xd (pv 2) (Xd (pv 3) (Xd (pv 4) Xh))))) Xh)))⟩)) (Yh (Xd (ZY (Xd (pv 5) (Xd (pv 7) Xh))) Xh))))
        Xi)))
        Xi)
      Xi)))
    (Xc (XS (pv 3))
    Xi)))), ?_⟩
  refine YX (S:=(SC.add (SC.add (SC.add SC.nil K (rV (rV Xa)) v_0 a_0) K Xa v_1 a_1) K Xa v_2 a_2)) (σ:=[some v_0, some v_1, some v_2, none, none, none, none, none]) 2 ?_ (SC.i (SC.i (SC.i SC.t h_0) h_1) h_2) hm q rfl
  unfold Zr
  exact (XQ (K:=K) (o:=(oL (oT2 (oF Xa) (oL (oF Xa))))) 3 0 (QW (o:=(oT2 (oF Xa) (oL (oF Xa))))) (Nat.le_of_ble_eq_true rfl) fun a1 v2 C3=>(Xv (K:=K) (r:=(rV (rV Xa))) 4 (Xk (r:=(rV (rV Xa))) 0 rfl (fun _ s=>s.l.l.l.r)) fun a4 v5=>(Y7 (K:=K) (J:=({ oo:=fun x7=>[x7.2.2.2.2.2, []], ss:=fun x7=>[some v_0, some v_1, some v_2, some x7.2.2.2.2.1, some x7.2.2.2.1, x7.1, x7.2.1, x7.2.2.1], sc:=fun g8 x7=>(SC.addO (SC.add (SC.add (SC.add (SC.add SC.nil K (rV (rV Xa)) v_0 a_0) K Xa v_1 a_1) K Xa v_2 a_2) K (rV (rV Xa)) x7.2.2.2.1 g8.1) K (oL (oT2 (oF Xa) (oL (oF Xa)))) x7.2.2.2.2.1 g8.2 x7.2.2.2.2.2) } : Jn ((List (List Int)) × (List (Int × (List Int)))) (Option V × Option V × Option V × V × V × List XF))) (fun _=>tg1 5) ((none), (none), (none), v5, v2, C3) (a4, a1) (XY (Xb (r:=Xa) 1 rfl (fun _ s=>s.l.l.l.r))) rfl rfl (fun _ s=>(SC.i (SC.i (SC.i (SC.i (SC.i SC.t s.l.l.l.l.r) s.l.l.l.r) s.l.l.r) s.r) s.l.r)) (fun g9 x10 a11 v12=>(Xv (K:=K) (r:=(rV (rV Xa))) 6 (Ev.sh (Jq (fun _=>tg1 0) (XD (Xk (r:=(rV (rV Xa))) 4 rfl (fun _ s=>s.l.l.r))) (fun C15 a16 v17=>(XG (K:=K) (Bu (XB (Xb (r:=(rV Xa)) 0 rfl (fun _ s=>s.r)) (Xb (r:=Xa) 1 rfl (fun _ s=>s.l.r))) (Xe 0)))) (fun C15 a16 v17=>(EvS.ev (Xk (r:=(rV Xa)) 0 rfl (fun _ s=>s.r)))))) fun a13 v14=>(ZC (J:=({ oo:=fun x27=>[x27.2.2.2, []], ss:=fun x27=>[some v_0, some v_1, some v_2, some x27.2.2.1, some x27.2.1, some v12, some v14, x27.1], sc:=fun g28 x27=>(SC.addO (SC.add (SC.add (SC.add (SC.add (SC.add (SC.add SC.nil K (rV (rV Xa)) v_0 a_0) K Xa v_1 a_1) K Xa v_2 a_2) K Xa v12 a11) K (rV (rV Xa)) v14 a13) K (rV (rV Xa)) x27.2.1 g28.1) K (oL (oT2 (oF Xa) (oL (oF Xa)))) x27.2.2.1 g28.2 x27.2.2.2) } : Jn ((List (List Int)) × (List (Int × (List Int)))) (Option V × V × V × List XF))) (Z7 (Fd:=FNd ({ oo:=fun x27=>[x27.2.2.2, []], ss:=fun x27=>[some v_0, some v_1, some v_2, some x27.2.2.1, some x27.2.1, some v12, some v14, x27.1], sc:=fun g28 x27=>(SC.addO (SC.add (SC.add (SC.add (SC.add (SC.add (SC.add SC.nil K (rV (rV Xa)) v_0 a_0) K Xa v_1 a_1) K Xa v_2 a_2) K Xa v12 a11) K (rV (rV Xa)) v14 a13) K (rV (rV Xa)) x27.2.1 g28.1) K (oL (oT2 (oF Xa) (oL (oF Xa)))) x27.2.2.1 g28.2 x27.2.2.2) } : Jn ((List (List Int)) × (List (Int × (List Int)))) (Option V × V × V × List XF))) (XG (K:=K) (Ut (YE (Xb (r:=(rV (rV Xa))) 6 rfl (fun _ s=>s.r))) (Xe 0))) (XQ (K:=K) (o:=(oL (oF Xa))) 7 1 (Zb (XB (Xb (r:=(rV (rV Xa))) 6 rfl (fun _ s=>s.r)) (Xe 0)) (Ev.toB (YM (XB (XB (Xb (r:=(rV (rV Xa))) 6 rfl (fun _ s=>s.r)) (Xe 0)) (Xb (r:=Xa) 5 rfl (fun _ s=>s.l.r))) (Xb (r:=Xa) 2 rfl (fun _ s=>s.l.l.l.l.r)))) (Xb (r:=Xa) 2 rfl (fun _ s=>s.l.l.l.l.r))) (Nat.le_of_ble_eq_true rfl) fun a29 v30 C31=>(Xv (K:=K) (r:=(rV (rV Xa))) 4 (Ev.sh (YZ (fun _=>tg1 0) (XD (Xk (r:=(rV (rV Xa))) 4 rfl (fun _ s=>s.l.l.l.l.r))) (fun C47 a48 v49=>(ZM (Xb (r:=(rV Xa)) 0 rfl (fun _ s=>s.r)) (YJ (o:=(oL (oF Xa))) 1 2 rfl rfl (fun _ s=>s.l.r)) (Xb (r:=Xa) 2 rfl (fun _ s=>s.l.l.l.r)) (Xb (r:=Xa) 3 rfl (fun _ s=>s.l.l.l.l.l.l.r)))))) fun a45 v46=>(XQ (K:=K) (o:=(oL (oT2 (oF Xa) (oL (oF Xa))))) 3 0 (Bz (Uc (K:=K) (o1:=(oL (oT2 (oF Xa) (oL (oF Xa))))) 0 rfl (fun _ s=>s.l.l.l.l.r) (YZ (fun _=>tg2 0 1) (XD (Xk (r:=(rV (rP2 Xa (rV Xa)))) 3 rfl (fun _ s=>s.r))) (fun C61 a62 v63=>(QI (EvS.ev (Xk (r:=Xa) 0 rfl (fun _ s=>s.l.r))) fun _=>(ZM (Xb (r:=(rV Xa)) 1 rfl (fun _ s=>s.r)) (YJ (o:=(oL (oF Xa))) 2 3 rfl rfl (fun _ s=>s.l.l.l.l.r)) (Xb (r:=Xa) 3 rfl (fun _ s=>s.l.l.l.l.l.l.r)) (Xb (r:=Xa) 4 rfl (fun _ s=>s.l.l.l.l.l.l.l.l.l.r))))))) fun _=>(BN (Fj (QI (EvS.ev (Xk (r:=Xa) 5 rfl (fun _ s=>s.l.l.l.r))) fun _=>(YD (o:=(oL (oF Xa))) 7 3 rfl rfl (fun _ s=>s.l.r))) fun _=>C6))) (Nat.le_of_ble_eq_true rfl) fun a56 v57 C58=>(XC (J:=_) ((some v30), v46, v57, C58) (a45, a56) rfl rfl (fun _ s=>(SC.i (SC.i (SC.i (SC.i (SC.i (SC.i (SC.i SC.t s.l.l.l.l.l.l.l.l.l.r) s.l.l.l.l.l.l.l.l.r) s.l.l.l.l.l.l.l.r) s.l.l.l.l.r) s.l.l.l.r) s.l.r) s.r)))))) (XC (J:=_) ((x10.2.2.1), x10.2.2.2.1, x10.2.2.2.2.1, x10.2.2.2.2.2) (g9.1, g9.2) rfl rfl (fun _ s=>(SC.i (SC.i (SC.i (SC.i (SC.i (SC.i (SC.i SC.t s.l.l.l.l.l.l.r) s.l.l.l.l.l.r) s.l.l.l.l.r) s.l.r) s.r) s.l.l.l.r) s.l.l.r)))) fun g78 x77=>(XC (J:=_) ((some v12), (some v14), (x77.1), x77.2.1, x77.2.2.1, x77.2.2.2) (g78.1, g78.2) rfl rfl (fun _ s=>(SC.i (SC.i (SC.i (SC.i (SC.i SC.t s.l.l.l.l.l.l.r) s.l.l.l.l.l.r) s.l.l.l.l.r) s.l.r) s.r)))))) fun g79 x80=>(XT (YD (o:=(oL (oT2 (oF Xa) (oL (oF Xa))))) 3 0 rfl rfl (fun _ s=>s.r))))))
theorem F1 : FnScope ["count", "at", "numbers"] ["count", "at"] (Xg Jc):=⟨rfl, rfl, rfl, by decide +kernel, rfl, by decide +kernel, by decide +kernel⟩
theorem BG (D : Def K mg "unit" Jc ["count", "at"])  (Z : Blt mg) : Fn P w K mg base 1 "unit" ["count", "at"] (sp2 Xa Xa (oL (oF Xa)) Jb K):=by
  refine Y0 D F1 (fun vs H Q E h=>?_) (fun f cdv A outer s H vs Q E hr h=>?_)
  . obtain ⟨v_0, v_1, a_0, a_1, b, rfl, _⟩:=h; rfl
  obtain ⟨v_0, v_1, a_0, a_1, b, rfl, h_0, h_1, hm, q⟩:=h
  have hu:=hu8 hr
  have hu1:=YQ hr
  refine ⟨_, (Xc (Xn (i:=2) F1.nd rfl (Or.inl rfl) (Xo JH (Yh (Xd Xf Xh)) (pv 0)))
    (Xc (JV Xf (UG (pv 2) (pv 1) ZB))
    (Xc (XS (pv 2))
    Xi))), ?_⟩
  refine YX (S:=(SC.add (SC.add SC.nil K Xa v_0 a_0) K Xa v_1 a_1)) (σ:=[some v_0, some v_1, none]) 1 ?_ (SC.i (SC.i SC.t h_0) h_1) hm q rfl
  unfold Jb
  exact (XQ (K:=K) (o:=(oL (oF Xa))) 2 0 (Vi (Ev.ls (Zz (Xp (EvB.sh (Xe 0)) Zd))) (Xb (r:=Xa) 0 rfl (fun _ s=>s.l.r))) (Nat.le_of_ble_eq_true rfl) fun a1 v2 C3=>(QN (K:=K) (o:=(oF Xa)) 2 0 rfl rfl (fun _ s=>s.r) (EvS.ev (EvB.sh (Xe 1))) (fun _=>(Xb (r:=Xa) 1 rfl (fun _ s=>s.l.r))) fun a11 C12=>(XT (YD (o:=(oL (oF Xa))) 2 0 rfl rfl (fun _ s=>s.r)))))
theorem JT : FnScope ["rows"] ["rows"] (Xg XV):=⟨rfl, rfl, rfl, by decide +kernel, rfl, by decide +kernel, by decide +kernel⟩
theorem JN (D : Def K mg "with_factors" XV ["rows"]) (g_unit : Fn P w K mg base 1 "unit" ["count", "at"] (sp2 Xa Xa (oL (oF Xa)) Jb K)) (Z : Blt mg) : Fn P w K mg base 2 "with_factors" ["rows"] (sp1 (rV (rV Xa)) (oL (oL (oF Xa))) YB K):=by
  refine Y0 D JT (fun vs H Q E h=>?_) (fun f cdv A outer s H vs Q E hr h=>?_)
  . obtain ⟨v_0, a_0, b, rfl, _⟩:=h; rfl
  obtain ⟨v_0, a_0, b, rfl, h_0, hm, q⟩:=h
  have hu:=hu8 hr
  have hu1:=YQ hr
  refine ⟨_, (Xc (XS (YU (sc:=(Xg XV)) (N0:=["rows"]) (tns:=["at", "row"]) (caps:=[(0, "rows")]) rfl (Df rfl Z.b_enumerate (pv 0)) (JZ (by decide) (by decide)) (fun cl C s H ex E=>⟨JP K rfl rfl (XA (Xm (i:=0) (show List.Nodup (["at", "row", "rows"] : List Str) by decide +kernel) rfl (Or.inl rfl)) (XA (Xm (i:=1) (show List.Nodup (["at", "row", "rows"] : List Str) by decide +kernel) rfl (Or.inl rfl)) Zm)), YY, (Xo Ge (pv 1) (Yg g_unit hr (by decide) (Xd (XH (Xr K rfl) rfl Z.b_len PySem.boot_len (Xd (pv 2) Xh)) (Xd (pv 0) Xh))))⟩)))
    Xi), ?_⟩
  refine YX (S:=(SC.add SC.nil K (rV (rV Xa)) v_0 a_0)) (σ:=[some v_0]) 0 ?_ (SC.i SC.t h_0) hm q rfl
  unfold YB
  exact (XT (YZ (fun _=>tg2 0 1) (UT (Xk (r:=(rV (rV Xa))) 0 rfl (fun _ s=>s.r))) (fun C2 a3 v4=>(DB (EvS.ls (Xk (r:=(rV Xa)) 1 rfl (fun _ s=>s.r))) (Ev.ls (YM (YE (Xb (r:=(rV (rV Xa))) 2 rfl (fun _ s=>s.l.l.r))) (Xb (r:=Xa) 0 rfl (fun _ s=>s.l.r))))))))
theorem Y6 : FnScope ["free", "tied", "count", "prime", "colours", "arc", "row"] ["free", "tied", "count", "prime"] (Xg X8):=⟨rfl, rfl, rfl, by decide +kernel, rfl, by decide +kernel, by decide +kernel⟩
theorem JM (D : Def K mg "colouring_of" X8 ["free", "tied", "count", "prime"]) (g_unit : Fn P w K mg base 1 "unit" ["count", "at"] (sp2 Xa Xa (oL (oF Xa)) Jb K)) (Z : Blt mg) : Fn P w K mg base 2 "colouring_of" ["free", "tied", "count", "prime"] (sp4 Xa (rDf (rV Xa)) Xa Xa (oL (oF Xa)) Yy K):=by
  refine Y0 D Y6 (fun vs H Q E h=>?_) (fun f cdv A outer s H vs Q E hr h=>?_)
  . obtain ⟨v_0, v_1, v_2, v_3, a_0, a_1, a_2, a_3, b, rfl, _⟩:=h; rfl
  obtain ⟨v_0, v_1, v_2, v_3, a_0, a_1, a_2, a_3, b, rfl, h_0, h_1, h_2, h_3, hm, q⟩:=h
  have hu:=hu8 hr
  have hu1:=YQ hr
  refine ⟨_, (Xc (Xn (i:=4) Y6.nd rfl (Or.inl rfl) (Yg g_unit hr (by decide) (Xd (pv 2) (Xd (pv 0) Xh))))
    (Xc (YR PassesOwn.never rfl (CD (pv 1)) (Q4 rfl (XA (Xm (i:=5) Y6.nd rfl (Or.inl rfl)) (XA (Xm (i:=6) Y6.nd rfl (Or.inl rfl)) Zm)))
      (Xc (JV (Xo Yc (GC VD (XL (Xl K rfl) (pv 6) (pv 0) (fun _ _=>rfl))) (pv 3)) (UG (pv 4) (pv 5) ZB))
      Xi))
    (Xc (XS (pv 4))
    Xi))), ?_⟩
  refine YX (S:=(SC.add (SC.add (SC.add (SC.add SC.nil K Xa v_0 a_0) K (rDf (rV Xa)) v_1 a_1) K Xa v_2 a_2) K Xa v_3 a_3)) (σ:=[some v_0, some v_1, some v_2, some v_3, none, none, none]) 1 ?_ (SC.i (SC.i (SC.i (SC.i SC.t h_0) h_1) h_2) h_3) hm q rfl
  unfold Yy
  exact (XQ (K:=K) (o:=(oL (oF Xa))) 4 0 (YM (Xb (r:=Xa) 2 rfl (fun _ s=>s.l.r)) (Xb (r:=Xa) 0 rfl (fun _ s=>s.l.l.l.r))) (Nat.le_of_ble_eq_true rfl) fun a1 v2 C3=>(Y7 (K:=K) (J:=({ oo:=fun x7=>[x7.2.2.2], ss:=fun x7=>[some v_0, some v_1, some v_2, some v_3, some x7.2.2.1, x7.1, x7.2.1], sc:=fun g8 x7=>(SC.addO (SC.add (SC.add (SC.add (SC.add SC.nil K Xa v_0 a_0) K (rDf (rV Xa)) v_1 a_1) K Xa v_2 a_2) K Xa v_3 a_3) K (oL (oF Xa)) x7.2.2.1 g8 x7.2.2.2) } : Jn ((List Int)) (Option V × Option V × V × List XF))) (fun _=>tg2 5 6) ((none), (none), v2, C3) (a1) (Kf (Xk (r:=(rDf (rV Xa))) 1 rfl (fun _ s=>s.l.l.l.r))) rfl rfl (fun _ s=>(SC.i (SC.i (SC.i (SC.i (SC.i SC.t s.l.l.l.l.r) s.l.l.l.r) s.l.l.r) s.l.r) s.r)) (fun g9 x10 a11 v12=>(QN (K:=K) (o:=(oF Xa)) 4 0 rfl rfl (fun _ s=>s.l.l.r) (EvS.ev (EvB.sh (XM (QY (XB (Xb (r:=(rV Xa)) 6 rfl (fun _ s=>s.r)) (Xb (r:=Xa) 0 rfl (fun _ s=>s.l.l.l.l.l.l.r)))) (Xb (r:=Xa) 3 rfl (fun _ s=>s.l.l.l.r))))) (fun _=>(Xb (r:=Xa) 5 rfl (fun _ s=>s.l.r))) fun a20 C21=>(XC (J:=_) ((some v12.1), (some v12.2), x10.2.2.1, C21) (a20) rfl rfl (fun _ s=>(SC.i (SC.i (SC.i (SC.i (SC.i SC.t s.l.l.l.l.l.l.l.r) s.l.l.l.l.l.l.r) s.l.l.l.l.l.r) s.l.l.l.l.r) s.r))))) fun g22 x23=>(XT (YD (o:=(oL (oF Xa))) 4 0 rfl rfl (fun _ s=>s.r)))))
theorem ZK : FnScope ["drawing", "prime", "factor", "count", "rows", "tied", "frees", "basis"] ["drawing", "prime", "factor"] (Xg Y8):=⟨rfl, rfl, rfl, by decide +kernel, rfl, by decide +kernel, by decide +kernel⟩
theorem DM (D : Def K mg "solved" Y8 ["drawing", "prime", "factor"]) (g_arc_count : Fn P w K mg base 2 "arc_count" ["drawing"] (sp1 (rP2 (rV (rV Xa)) (rV (rP2 Xa Xa))) (oF Xa) YH K)) (g_led_rows : Fn P w K mg base 2 "led_rows" ["rows", "count", "prime"] (sp3 (rV (rV Xa)) Xa Xa (oL (oT2 (oF Xa) (oL (oF Xa)))) Zr K)) (g_with_factors : Fn P w K mg base 2 "with_factors" ["rows"] (sp1 (rV (rV Xa)) (oL (oL (oF Xa))) YB K)) (g_colouring_of : Fn P w K mg base 2 "colouring_of" ["free", "tied", "count", "prime"] (sp4 Xa (rDf (rV Xa)) Xa Xa (oL (oF Xa)) Yy K)) (g_equations : Fn P w K mg base 6 "equations" ["drawing", "prime", "factor"] (sp3 (rP2 (rV (rV Xa)) (rV (rP2 Xa Xa))) Xa Xa (oL (oL (oF Xa))) YF K)) (Z : Blt mg) : Fn P w K mg base 7 "solved" ["drawing", "prime", "factor"] (sp3 (rP2 (rV (rV Xa)) (rV (rP2 Xa Xa))) Xa Xa (oT3 (oL (oF Xa)) (oL (oL (oF Xa))) (oL (oT2 (oF Xa) (oL (oF Xa))))) Qj K):=by
  refine Y0 D ZK (fun vs H Q E h=>?_) (fun f cdv A outer s H vs Q E hr h=>?_)
  . obtain ⟨v_0, v_1, v_2, a_0, a_1, a_2, b, rfl, _⟩:=h; rfl
  obtain ⟨v_0, v_1, v_2, a_0, a_1, a_2, b, rfl, h_0, h_1, h_2, hm, q⟩:=h
  have hu:=hu8 hr
  have hu1:=YQ hr
  refine ⟨_, (Xc (Xn (i:=3) ZK.nd rfl (Or.inr rfl) (Yg g_arc_count hr (by decide) (Xd (pv 0) Xh)))
    (Xc (Xn (i:=4) ZK.nd rfl (Or.inl rfl) (Yg g_led_rows hr (by decide) (Xd (Yg g_with_factors hr (by decide) (Xd (Yg g_equations hr (by decide) (Xd (pv 0) (Xd (pv 1) (Xd (pv 2) Xh)))) Xh)) (Xd (pv 3) (Xd (pv 1) Xh)))))
    (Xc (Xn (i:=5) ZK.nd rfl (Or.inr rfl) (QG (U1 K rfl rfl) rfl Z.b_dict PyProof.Rows.boot_dict (Xd (pv 4) Xh)))
    (Xc (Qu 6 (Xg Y8) ["drawing", "prime", "factor", "count", "rows", "tied", "frees", "basis"] ["arc"] [(5, "tied")] rfl ZK.nd rfl rfl (Yv rfl Z.b_range (Xd (pv 3) Xh)) (Za (by decide)) (fun cl C s H ex E=>⟨Xm (i:=0) (show List.Nodup (["arc", "tied"] : List Str) by decide +kernel) rfl (Or.inl rfl), (V2 (HG (G6 hu1 (pv 0) (pv 1)))), (pv 0)⟩))
    (Xc (Qu 7 (Xg Y8) ["drawing", "prime", "factor", "count", "rows", "tied", "frees", "basis"] ["free"] [(5, "tied"), (3, "count"), (1, "prime")] rfl ZK.nd rfl rfl (XR (K:=K) rfl (pv 6)) (Za (by decide)) (fun cl C s H ex E=>⟨Xm (i:=0) (show List.Nodup (["free", "tied", "count", "prime"] : List Str) by decide +kernel) rfl (Or.inl rfl), YY, (Ij 1 (Yg g_colouring_of hr (by decide) (Xd (pv 0) (Xd (pv 1) (Xd (pv 2) (Xd (pv 3) Xh))))))⟩))
    (Xc (XS (ZY (Xd (pv 6) (Xd (pv 7) (Xd (YU (sc:=(Xg Y8)) (N0:=["drawing", "prime", "factor", "count", "rows", "tied", "frees", "basis"]) (tns:=["arc", "row"]) (caps:=[(3, "count")]) rfl (XR (K:=K) rfl (pv 4)) (JZ (by decide) (by decide)) (fun cl C s H ex E=>⟨JP K rfl rfl (XA (Xm (i:=0) (show List.Nodup (["arc", "row", "count"] : List Str) by decide +kernel) rfl (Or.inl rfl)) (XA (Xm (i:=1) (show List.Nodup (["arc", "row", "count"] : List Str) by decide +kernel) rfl (Or.inl rfl)) Zm)), YY, (ZY (Xd (pv 0) (Xd (VV (V8 K rfl) (pv 1) (Kk (pv 2)) KC) Xh)))⟩)) Xh)))))
    Xi)))))), ?_⟩
  refine YX (S:=(SC.add (SC.add (SC.add SC.nil K (rP2 (rV (rV Xa)) (rV (rP2 Xa Xa))) v_0 a_0) K Xa v_1 a_1) K Xa v_2 a_2)) (σ:=[some v_0, some v_1, some v_2, none, none, none, none, none]) 3 ?_ (SC.i (SC.i (SC.i SC.t h_0) h_1) h_2) hm q rfl
  unfold Qj
  exact (Xv (K:=K) (r:=Xa) 3 (EvB.sh (Ev.toB (YN (Xb (r:=(rP2 (rV (rV Xa)) (rV (rP2 Xa Xa)))) 0 rfl (fun _ s=>s.l.l.r))))) fun a1 v2=>(Xv (K:=K) (r:=(rV (rP2 Xa (rV Xa)))) 4 (Ev.sh (Zb (Ev.toB (YN (Ev.toB (Zb (Xb (r:=(rP2 (rV (rV Xa)) (rV (rP2 Xa Xa)))) 0 rfl (fun _ s=>s.l.l.l.r)) (Xb (r:=Xa) 1 rfl (fun _ s=>s.l.l.r)) (Xb (r:=Xa) 2 rfl (fun _ s=>s.l.r)))))) (Xb (r:=Xa) 3 rfl (fun _ s=>s.r)) (Xb (r:=Xa) 1 rfl (fun _ s=>s.l.l.r)))) fun a5 v6=>(XQ (K:=K) (o:=(oD (rV Xa))) 5 2 (CT (EvS.ls (Xk (r:=(rV (rP2 Xa (rV Xa)))) 4 rfl (fun _ s=>s.r)))) (Nat.le_of_ble_eq_true rfl) fun a17 v18 C19=>(XQ (K:=K) (o:=(oL (oF Xa))) 6 0 (Jq (fun _=>tg1 0) (XY (Xb (r:=Xa) 3 rfl (fun _ s=>s.l.l.r))) (fun C25 a26 v27=>(GW (K:=K) (CQ (Xb (r:=Xa) 0 rfl (fun _ s=>s.r)) (YJ (o:=(oD (rV Xa))) 1 3 rfl rfl (fun _ s=>s.l.r))))) (fun C25 a26 v27=>(EvS.ev (Xk (r:=Xa) 0 rfl (fun _ s=>s.r))))) (Nat.le_of_ble_eq_true rfl) fun a21 v22 C23=>(XQ (K:=K) (o:=(oL (oL (oF Xa)))) 7 1 (Uc (K:=K) (o1:=(oL (oF Xa))) 0 rfl (fun _ s=>s.r) (YZ (fun _=>tg1 0) (XD (Xk (r:=(rV Xa)) 6 rfl (fun _ s=>s.r))) (fun C34 a35 v36=>(CC (K:=K) (r:=(rV Xa)) 1 3 rfl rfl (fun _ s=>s.l.l.l.r) (fun _=>UA) (ZM (Xb (r:=Xa) 0 rfl (fun _ s=>s.l.r)) (Xb (r:=(rDf (rV Xa))) 1 rfl (fun _ s=>s.r)) (Xb (r:=Xa) 2 rfl (fun _ s=>s.l.l.l.l.l.l.r)) (Xb (r:=Xa) 3 rfl (fun _ s=>s.l.l.l.l.l.l.l.l.r))))))) (Nat.le_of_ble_eq_true rfl) fun a31 v32 C33=>(XT (Cf (YD (o:=(oL (oF Xa))) 6 0 rfl rfl (fun _ s=>s.l.r)) (fun _=>(YD (o:=(oL (oL (oF Xa)))) 7 2 rfl rfl (fun _ s=>s.r))) fun _ _=>(YZ (fun _=>tg2 0 1) (XD (Xk (r:=(rV (rP2 Xa (rV Xa)))) 4 rfl (fun _ s=>s.l.l.l.r))) (fun C44 a45 v46=>(QI (EvS.ev (Xk (r:=Xa) 0 rfl (fun _ s=>s.l.r))) fun _=>(Ga (EvS.ls (Xk (r:=(rV Xa)) 1 rfl (fun _ s=>s.r))) (Ud (K:=K) (Xb (r:=Xa) 2 rfl (fun _ s=>s.l.l.l.l.l.l.r))) VP)))))))))))
theorem Ue : FnScope ["_law_script", "_law_place", "_law_seed", "_law_cell_here"] ["_law_script", "_law_place"] (Xg Jh):=⟨rfl, rfl, rfl, by decide +kernel, rfl, by decide +kernel, by decide +kernel⟩
theorem Ec (D : Def K mg "_law_cell" Jh ["_law_script", "_law_place"])  (Z : Blt mg) : Fn P w K mg base 1 "_law_cell" ["_law_script", "_law_place"] (sp2 (rL Xa) Xa (oF Xa) J9 K):=by
  refine Y0 D Ue (fun vs H Q E h=>?_) (fun f cdv A outer s H vs Q E hr h=>?_)
  . obtain ⟨v_0, v_1, a_0, a_1, b, rfl, _⟩:=h; rfl
  obtain ⟨v_0, v_1, a_0, a_1, b, rfl, h_0, h_1, hm, q⟩:=h
  have hu:=hu8 hr
  have hu1:=YQ hr
  refine ⟨_, (Xc (ZD (XW KB (pv 1) (XH (Xr K rfl) rfl Z.b_len PySem.boot_len (Xd (pv 0) Xh)) (Yl _))
      (Xc (XS (XL (Xl K rfl) (pv 0) (pv 1) (fun _ _=>rfl)))
      Xi)
      Xi)
    (Xc (Xn (i:=2) Ue.nd rfl (Or.inl rfl) Xf)
    (Xc (YR PassesOwn.never rfl (XR (K:=K) rfl (VV (V8 K rfl) (pv 0) KC (Kk Xf))) (Xm (i:=3) Ue.nd rfl (Or.inl rfl))
      (Xc (Xn (i:=2) Ue.nd rfl (Or.inl rfl) (Xo Yc (Xo X9 (Xo X9 (Xo Yf (pv 2) Xf) (Xo Yc (pv 3) Xf)) Xf) Xf))
      Xi))
    (Xc (XS (Xo Yc (Xo X9 (pv 2) (Xo Yf Xf (pv 1))) Xf))
    Xi)))), ?_⟩
  refine YX (S:=(SC.add (SC.add SC.nil K (rL Xa) v_0 a_0) K Xa v_1 a_1)) (σ:=[some v_0, some v_1, none, none]) 0 ?_ (SC.i (SC.i SC.t h_0) h_1) hm q rfl
  unfold J9
  exact (KL (XG (K:=K) (JC (Xb (r:=Xa) 1 rfl (fun _ s=>s.r)) (Ba (Xb (r:=(rL Xa)) 0 rfl (fun _ s=>s.l.r))))) (XT (EvS.ev (EvB.sh (Ef (Xb (r:=(rL Xa)) 0 rfl (fun _ s=>s.l.r)) (Xb (r:=Xa) 1 rfl (fun _ s=>s.r)))))) (Xv (K:=K) (r:=Xa) 2 (EvB.sh (Xe 5)) fun a7 v8=>(Y7 (K:=K) (J:=({ oo:=fun x13=>[], ss:=fun x13=>[some v_0, some v_1, some x13.2, x13.1], sc:=fun g14 x13=>(SC.add (SC.add (SC.add SC.nil K (rL Xa) v_0 a_0) K Xa v_1 a_1) K Xa x13.2 g14) } : Jn (Int) (Option V × V))) (fun _=>tg1 3) ((none), v8) (a7) (XD (Ev.sh (FU (Xb (r:=(rL Xa)) 0 rfl (fun _ s=>s.l.l.r)) VP (Ud (K:=K) (Xe 63))))) rfl rfl (fun _ s=>(SC.i (SC.i (SC.i SC.t s.l.l.r) s.l.r) s.r)) (fun g15 x16 a17 v18=>(Xv (K:=K) (r:=Xa) 2 (EvB.sh (XM (XN (XN (XO (Xb (r:=Xa) 2 rfl (fun _ s=>s.l.r)) (Xe 48271)) (XM (Xb (r:=Xa) 3 rfl (fun _ s=>s.r)) (Xe 1000003))) (Xe 1)) (Xe 2147483647))) fun a19 v20=>(XC (J:=_) ((some v18), v20) (a19) rfl rfl (fun _ s=>(SC.i (SC.i (SC.i SC.t s.l.l.l.l.r) s.l.l.l.r) s.r))))) fun g31 x32=>(XT (EvS.ev (EvB.sh (XM (XN (Xb (r:=Xa) 2 rfl (fun _ s=>s.r)) (XO (Xe 7919) (Xb (r:=Xa) 1 rfl (fun _ s=>s.l.r)))) (Xe 1000003))))))))
theorem FV : FnScope ["_law_cell_here", "_law_k", "_law_one", "_law_two"] ["_law_cell_here", "_law_k"] (Xg UB):=⟨rfl, rfl, rfl, by decide +kernel, rfl, by decide +kernel, by decide +kernel⟩
theorem E1 (D : Def K mg "_law_mix" UB ["_law_cell_here", "_law_k"])  (Z : Blt mg) : Fn P w K mg base 1 "_law_mix" ["_law_cell_here", "_law_k"] (sp2 Xa Xa (oF Xa) U6 K):=by
  refine Y0 D FV (fun vs H Q E h=>?_) (fun f cdv A outer s H vs Q E hr h=>?_)
  . obtain ⟨v_0, v_1, a_0, a_1, b, rfl, _⟩:=h; rfl
  obtain ⟨v_0, v_1, a_0, a_1, b, rfl, h_0, h_1, hm, q⟩:=h
  have hu:=hu8 hr
  have hu1:=YQ hr
  refine ⟨_, (Xc (Xn (i:=2) FV.nd rfl (Or.inl rfl) (Xo Yc (Xo UF (Xo X9 (Xo X9 (Xo Yc (pv 0) Xf) (Xo Yf Xf (pv 1))) Xf) Xf) Xf))
    (Xc (Xn (i:=3) FV.nd rfl (Or.inl rfl) (Xo Yc (Xo X9 (Xo X9 (Xo Yf (pv 2) Xf) (Xo Yf (Xo Yf Xf (pv 1)) (pv 1))) Xf) Xf))
    (Xc (XS (Xo K3 (pv 3) Xf))
    Xi))), ?_⟩
  refine YX (S:=(SC.add (SC.add SC.nil K Xa v_0 a_0) K Xa v_1 a_1)) (σ:=[some v_0, some v_1, none, none]) 0 ?_ (SC.i (SC.i SC.t h_0) h_1) hm q rfl
  unfold U6
  exact (Xv (K:=K) (r:=Xa) 2 (EvB.sh (XM (JU (XN (XN (XM (Xb (r:=Xa) 0 rfl (fun _ s=>s.l.r)) (Xe 2147483629)) (XO (Xe 1013) (Xb (r:=Xa) 1 rfl (fun _ s=>s.r)))) (Xe 7919)) (Xe 3)) (Xe 2147483647))) fun a1 v2=>(Xv (K:=K) (r:=Xa) 3 (EvB.sh (XM (XN (XN (XO (Xb (r:=Xa) 2 rfl (fun _ s=>s.r)) (Xe 40699)) (XO (XO (Xe 3793) (Xb (r:=Xa) 1 rfl (fun _ s=>s.l.r))) (Xb (r:=Xa) 1 rfl (fun _ s=>s.l.r)))) (Xe 11)) (Xe 2147483399))) fun a15 v16=>(XT (EvS.ev (EvB.sh (G4 (Xb (r:=Xa) 3 rfl (fun _ s=>s.r)) (Xe 101)))))))
theorem J4 : FnScope ["_law_script", "_law_place", "_law_sizes", "_law_cell_here", "_law_left", "_law_some", "_law_k", "_law_other"] ["_law_script", "_law_place", "_law_sizes"] (Xg UV):=⟨rfl, rfl, rfl, by decide +kernel, rfl, by decide +kernel, by decide +kernel⟩
theorem Hn (D : Def K mg "_law_row" UV ["_law_script", "_law_place", "_law_sizes"]) (g_cell : Fn P w K mg base 1 "_law_cell" ["_law_script", "_law_place"] (sp2 (rL Xa) Xa (oF Xa) J9 K)) (g_mix : Fn P w K mg base 1 "_law_mix" ["_law_cell_here", "_law_k"] (sp2 Xa Xa (oF Xa) U6 K)) (Z : Blt mg) : Fn P w K mg base 2 "_law_row" ["_law_script", "_law_place", "_law_sizes"] (sp3 (rL Xa) Xa (rV Xa) (oL (oF Xa)) Ul K):=by
  refine Y0 D J4 (fun vs H Q E h=>?_) (fun f cdv A outer s H vs Q E hr h=>?_)
  . obtain ⟨v_0, v_1, v_2, a_0, a_1, a_2, b, rfl, _⟩:=h; rfl
  obtain ⟨v_0, v_1, v_2, a_0, a_1, a_2, b, rfl, h_0, h_1, h_2, hm, q⟩:=h
  have hu:=hu8 hr
  have hu1:=YQ hr
  refine ⟨_, (Xc (Xn (i:=3) J4.nd rfl (Or.inl rfl) (Yg g_cell hr (by decide) (Xd (pv 0) (Xd (pv 1) Xh))))
    (Xc (Xn (i:=4) J4.nd rfl (Or.inl rfl) (pv 3))
    (Xc (Xn (i:=5) J4.nd rfl (Or.inl rfl) (Yh Xh))
    (Xc (YR PassesOwn.never rfl (Yv rfl Z.b_range (Xd (XH (Xr K rfl) rfl Z.b_len PySem.boot_len (Xd (pv 2) Xh)) Xh)) (Xm (i:=6) J4.nd rfl (Or.inl rfl))
      (Xc (ZD (XW KB (pv 3) (Xo UF Xf Xf) (Yl _))
        (Xc (YL (ZR PySem.F.plainAttrs_list PySem.F.slot_list_append PySem.F.type_list_append Yb (pv 5) (Xd (Xo Yc (Yg g_mix hr (by decide) (Xd (pv 3) (Xd (pv 6) Xh))) (XL (Xl K rfl) (pv 2) (pv 6) (fun _ _=>rfl))) Xh)))
        Xi)
        (Xc (ZD (XW GX (pv 4) Xf (Yl _))
          (Xc (YL (ZR PySem.F.plainAttrs_list PySem.F.slot_list_append PySem.F.type_list_append Yb (pv 5) (Xd (Xo Yc (pv 4) (XL (Xl K rfl) (pv 2) (pv 6) (fun _ _=>rfl))) Xh)))
          (Xc (Xn (i:=4) J4.nd rfl (Or.inl rfl) (Xo K3 (pv 4) (XL (Xl K rfl) (pv 2) (pv 6) (fun _ _=>rfl))))
          Xi))
          (Xc (Xn (i:=7) J4.nd rfl (Or.inl rfl) (Yg g_cell hr (by decide) (Xd (pv 0) (Xd (Xo Yc (Xo X9 (Xo X9 (pv 1) Xf) (pv 6)) Xf) Xh))))
          (Xc (YL (ZR PySem.F.plainAttrs_list PySem.F.slot_list_append PySem.F.type_list_append Yb (pv 5) (Xd (Xo Yc (Yg g_mix hr (by decide) (Xd (pv 7) (Xd (pv 6) Xh))) (XL (Xl K rfl) (pv 2) (pv 6) (fun _ _=>rfl))) Xh)))
          Xi)))
        Xi))
      Xi))
    (Xc (XS (pv 5))
    Xi))))), ?_⟩
  refine YX (S:=(SC.add (SC.add (SC.add SC.nil K (rL Xa) v_0 a_0) K Xa v_1 a_1) K (rV Xa) v_2 a_2)) (σ:=[some v_0, some v_1, some v_2, none, none, none, none, none]) 1 ?_ (SC.i (SC.i (SC.i SC.t h_0) h_1) h_2) hm q rfl
  unfold Ul
  exact (Xv (K:=K) (r:=Xa) 3 (EvB.sh (Ev.toB (YM (Xb (r:=(rL Xa)) 0 rfl (fun _ s=>s.l.l.r)) (Xb (r:=Xa) 1 rfl (fun _ s=>s.l.r))))) fun a1 v2=>(Xv (K:=K) (r:=Xa) 4 (Xk (r:=Xa) 3 rfl (fun _ s=>s.r)) fun a6 v7=>(XQ (K:=K) (o:=(oL (oF Xa))) 5 0 (QW (o:=(oF Xa))) (Nat.le_of_ble_eq_true rfl) fun a8 v9 C10=>(Y7 (K:=K) (J:=({ oo:=fun x13=>[x13.2.2.2.2], ss:=fun x13=>[some v_0, some v_1, some v_2, some v2, some x13.2.2.1, some x13.2.1, x13.1, x13.2.2.2.1], sc:=fun g14 x13=>(SC.add (SC.addO (SC.add (SC.add (SC.add (SC.add SC.nil K (rL Xa) v_0 a_0) K Xa v_1 a_1) K (rV Xa) v_2 a_2) K Xa v2 a1) K (oL (oF Xa)) x13.2.1 g14.1 x13.2.2.2.2) K Xa x13.2.2.1 g14.2) } : Jn ((List Int) × Int) (Option V × V × V × Option V × List XF))) (fun _=>tg1 6) ((none), v9, v7, (none), C10) (a8, a6) (XY (YE (Xb (r:=(rV Xa)) 2 rfl (fun _ s=>s.l.l.l.r)))) rfl rfl (fun _ s=>(SC.i (SC.i (SC.i (SC.i (SC.i (SC.i SC.t s.l.l.l.l.l.r) s.l.l.l.l.r) s.l.l.l.r) s.l.l.r) s.r) s.l.r)) (fun g15 x16 a17 v18=>(ZC (J:=({ oo:=fun x24=>[x24.2.2.2], ss:=fun x24=>[some v_0, some v_1, some v_2, some v2, some x24.2.1, some x24.1, some v18, x24.2.2.1], sc:=fun g25 x24=>(SC.add (SC.addO (SC.add (SC.add (SC.add (SC.add (SC.add SC.nil K (rL Xa) v_0 a_0) K Xa v_1 a_1) K (rV Xa) v_2 a_2) K Xa v2 a1) K Xa v18 a17) K (oL (oF Xa)) x24.1 g25.1 x24.2.2.2) K Xa x24.2.1 g25.2) } : Jn ((List Int) × Int) (V × V × Option V × List XF))) (Z7 (Fd:=FNd ({ oo:=fun x24=>[x24.2.2.2], ss:=fun x24=>[some v_0, some v_1, some v_2, some v2, some x24.2.1, some x24.1, some v18, x24.2.2.1], sc:=fun g25 x24=>(SC.add (SC.addO (SC.add (SC.add (SC.add (SC.add (SC.add SC.nil K (rL Xa) v_0 a_0) K Xa v_1 a_1) K (rV Xa) v_2 a_2) K Xa v2 a1) K Xa v18 a17) K (oL (oF Xa)) x24.1 g25.1 x24.2.2.2) K Xa x24.2.1 g25.2) } : Jn ((List Int) × Int) (V × V × Option V × List XF))) (XG (K:=K) (JC (Xb (r:=Xa) 3 rfl (fun _ s=>s.l.l.l.r)) (JU (Xe 10) (Xe 18)))) (ZH (K:=K) (o:=(oF Xa)) (f:=fun a35=>(Rs.ok (a35, g15.2))) 5 0 rfl rfl rfl (fun _ s=>s.l.l.r) (EvS.ev (EvB.sh (XM (Ev.toB (YM (Xb (r:=Xa) 3 rfl (fun _ s=>s.l.l.l.r)) (Xb (r:=Xa) 6 rfl (fun _ s=>s.r)))) (XB (Xb (r:=(rV Xa)) 2 rfl (fun _ s=>s.l.l.l.l.r)) (Xb (r:=Xa) 6 rfl (fun _ s=>s.r)))))) fun a33 C34=>(XC (J:=_) (x16.2.1, x16.2.2.1, (x16.2.2.2.1), C34) ((g15.1 ++ [a33]), g15.2) rfl rfl (fun _ s=>(SC.i (SC.i (SC.i (SC.i (SC.i (SC.i (SC.i SC.t s.l.l.l.l.l.l.l.r) s.l.l.l.l.l.l.r) s.l.l.l.l.l.r) s.l.l.l.l.r) s.l.r) s.r) s.l.l.r)))) (ZC (J:=({ oo:=fun x39=>[x39.2.2.2], ss:=fun x39=>[some v_0, some v_1, some v_2, some v2, some x39.1, some x39.2.2.1, some v18, x39.2.1], sc:=fun g40 x39=>(SC.addO (SC.add (SC.add (SC.add (SC.add (SC.add (SC.add SC.nil K (rL Xa) v_0 a_0) K Xa v_1 a_1) K (rV Xa) v_2 a_2) K Xa v2 a1) K Xa v18 a17) K Xa x39.1 g40.1) K (oL (oF Xa)) x39.2.2.1 g40.2 x39.2.2.2) } : Jn (Int × (List Int)) (V × Option V × V × List XF))) (Z7 (Fd:=FNd ({ oo:=fun x39=>[x39.2.2.2], ss:=fun x39=>[some v_0, some v_1, some v_2, some v2, some x39.1, some x39.2.2.1, some v18, x39.2.1], sc:=fun g40 x39=>(SC.addO (SC.add (SC.add (SC.add (SC.add (SC.add (SC.add SC.nil K (rL Xa) v_0 a_0) K Xa v_1 a_1) K (rV Xa) v_2 a_2) K Xa v2 a1) K Xa v18 a17) K Xa x39.1 g40.1) K (oL (oF Xa)) x39.2.2.1 g40.2 x39.2.2.2) } : Jn (Int × (List Int)) (V × Option V × V × List XF))) (XG (K:=K) (Ut (Xb (r:=Xa) 4 rfl (fun _ s=>s.l.r)) (Xe 0))) (ZH (K:=K) (o:=(oF Xa)) (f:=fun a47=>(Rs.bind (Rs.bind (Rs.ok g15.2) fun x52=>(Rs.bind (Rs.bind (Rs.ok a_2) fun x50=>(Rs.bind (Rs.ok a17) fun x51=>(atR x50 x51))) fun x53=>(ET x52 x53))) fun a48=>(Rs.ok (a48, a47)))) 5 0 rfl rfl rfl (fun _ s=>s.l.l.r) (EvS.ev (EvB.sh (XM (Xb (r:=Xa) 4 rfl (fun _ s=>s.l.r)) (XB (Xb (r:=(rV Xa)) 2 rfl (fun _ s=>s.l.l.l.l.r)) (Xb (r:=Xa) 6 rfl (fun _ s=>s.r)))))) fun a45 C46=>(Xv (K:=K) (r:=Xa) 4 (EvB.sh (G4 (Xb (r:=Xa) 4 rfl (fun _ s=>s.l.l.r)) (XB (Xb (r:=(rV Xa)) 2 rfl (fun _ s=>s.l.l.l.l.l.r)) (Xb (r:=Xa) 6 rfl (fun _ s=>s.l.r))))) fun a48 v49=>(XC (J:=_) (v49, (x16.2.2.2.1), x16.2.1, C46) (a48, (g15.1 ++ [a45])) rfl rfl (fun _ s=>(SC.i (SC.i (SC.i (SC.i (SC.i (SC.i (SC.i SC.t s.l.l.l.l.l.l.l.l.r) s.l.l.l.l.l.l.l.r) s.l.l.l.l.l.l.r) s.l.l.l.l.l.r) s.l.l.r) s.r) s.l.r))))) (Xv (K:=K) (r:=Xa) 7 (EvB.sh (Ev.toB (YM (Xb (r:=(rL Xa)) 0 rfl (fun _ s=>s.l.l.l.l.l.l.r)) (XM (XN (XN (Xb (r:=Xa) 1 rfl (fun _ s=>s.l.l.l.l.l.r)) (Xe 1)) (Xb (r:=Xa) 6 rfl (fun _ s=>s.r))) (Xe 63))))) fun a54 v55=>(ZH (K:=K) (o:=(oF Xa)) (f:=fun a74=>(Rs.ok (g15.2, a74))) 5 0 rfl rfl rfl (fun _ s=>s.l.l.l.r) (EvS.ev (EvB.sh (XM (Ev.toB (YM (Xb (r:=Xa) 7 rfl (fun _ s=>s.r)) (Xb (r:=Xa) 6 rfl (fun _ s=>s.l.r)))) (XB (Xb (r:=(rV Xa)) 2 rfl (fun _ s=>s.l.l.l.l.l.r)) (Xb (r:=Xa) 6 rfl (fun _ s=>s.l.r)))))) fun a72 C73=>(XC (J:=_) (x16.2.2.1, (some v55), x16.2.1, C73) (g15.2, (g15.1 ++ [a72])) rfl rfl (fun _ s=>(SC.i (SC.i (SC.i (SC.i (SC.i (SC.i (SC.i SC.t s.l.l.l.l.l.l.l.l.r) s.l.l.l.l.l.l.l.r) s.l.l.l.l.l.l.r) s.l.l.l.l.l.r) s.l.l.r) s.l.l.l.r) s.r)))))) fun g76 x75=>(XC (J:=_) (x75.2.2.1, x75.1, (x75.2.1), x75.2.2.2) (g76.2, g76.1) rfl rfl (fun _ s=>(SC.i (SC.i (SC.i (SC.i (SC.i (SC.i (SC.i SC.t s.l.l.l.l.l.l.r) s.l.l.l.l.l.r) s.l.l.l.l.r) s.l.l.l.r) s.l.l.r) s.r) s.l.r))))) fun g78 x77=>(XC (J:=_) ((some v18), x77.1, x77.2.1, (x77.2.2.1), x77.2.2.2) (g78.1, g78.2) rfl rfl (fun _ s=>(SC.i (SC.i (SC.i (SC.i (SC.i (SC.i SC.t s.l.l.l.l.l.l.r) s.l.l.l.l.l.r) s.l.l.l.l.r) s.l.l.l.r) s.l.r) s.r))))) fun g79 x80=>(XT (YD (o:=(oL (oF Xa))) 5 0 rfl rfl (fun _ s=>s.l.r)))))))
theorem Jv : FnScope ["_law_names", "_law_some", "_law_left", "_law_found", "_law_k"] ["_law_names", "_law_some"] (Xg Z8):=⟨rfl, rfl, rfl, by decide +kernel, rfl, by decide +kernel, by decide +kernel⟩
theorem DR (D : Def K mg "_law_mixed" Z8 ["_law_names", "_law_some"])  (Z : Blt mg) : Fn P w K mg base 1 "_law_mixed" ["_law_names", "_law_some"] (sp2 (rV Xa) (rV Xa) (oL (oF Xa)) QX K):=by
  refine Y0 D Jv (fun vs H Q E h=>?_) (fun f cdv A outer s H vs Q E hr h=>?_)
  . obtain ⟨v_0, v_1, a_0, a_1, b, rfl, _⟩:=h; rfl
  obtain ⟨v_0, v_1, a_0, a_1, b, rfl, h_0, h_1, hm, q⟩:=h
  have hu:=hu8 hr
  have hu1:=YQ hr
  refine ⟨_, (Xc (Xn (i:=2) Jv.nd rfl (Or.inl rfl) (QG (ZS K rfl) rfl Z.b_list PyProof.Rows.boot_list (Xd (pv 0) Xh)))
    (Xc (Xn (i:=3) Jv.nd rfl (Or.inl rfl) (Yh Xh))
    (Xc (YR PassesOwn.never rfl (Yv rfl Z.b_range (Xd (XH (Xr K rfl) rfl Z.b_len PySem.boot_len (Xd (pv 0) Xh)) Xh)) (Xm (i:=4) Jv.nd rfl (Or.inl rfl))
      (Xc (YL (ZR PySem.F.plainAttrs_list PySem.F.slot_list_append PySem.F.type_list_append Yb (pv 3) (Xd (ZR PySem.F.plainAttrs_list PySem.F.slot_list_pop PySem.F.type_list_pop K4 (pv 2) (Xd (Xo Yc (XL (Xl K rfl) (pv 1) (Xo X9 (Xo Yf Xf (pv 4)) Xf) (fun _ _=>rfl)) (XH (Xr K rfl) rfl Z.b_len PySem.boot_len (Xd (pv 2) Xh))) Xh)) Xh)))
      Xi))
    (Xc (XS (pv 3))
    Xi)))), ?_⟩
  refine YX (S:=(SC.add (SC.add SC.nil K (rV Xa) v_0 a_0) K (rV Xa) v_1 a_1)) (σ:=[some v_0, some v_1, none, none, none]) 2 ?_ (SC.i (SC.i SC.t h_0) h_1) hm q rfl
  unfold QX
  exact (XQ (K:=K) (o:=(oL (oF Xa))) 2 1 (KA (EvS.ls (Xk (r:=(rV Xa)) 0 rfl (fun _ s=>s.l.r)))) (Nat.le_of_ble_eq_true rfl) fun a1 v2 C3=>(XQ (K:=K) (o:=(oL (oF Xa))) 3 0 (QW (o:=(oF Xa))) (Nat.le_of_ble_eq_true rfl) fun a5 v6 C7=>(Y7 (K:=K) (J:=({ oo:=fun x10=>[x10.2.2.2.1, x10.2.2.2.2], ss:=fun x10=>[some v_0, some v_1, some x10.2.2.1, some x10.2.1, x10.1], sc:=fun g11 x10=>(SC.addO (SC.addO (SC.add (SC.add SC.nil K (rV Xa) v_0 a_0) K (rV Xa) v_1 a_1) K (oL (oF Xa)) x10.2.1 g11.1 x10.2.2.2.1) K (oL (oF Xa)) x10.2.2.1 g11.2 x10.2.2.2.2) } : Jn ((List Int) × (List Int)) (Option V × V × V × List XF × List XF))) (fun _=>tg1 4) ((none), v6, v2, C7, C3) (a5, a1) (XY (YE (Xb (r:=(rV Xa)) 0 rfl (fun _ s=>s.l.l.l.r)))) rfl rfl (fun _ s=>(SC.i (SC.i (SC.i (SC.i SC.t s.l.l.l.r) s.l.l.r) s.r) s.l.r)) (fun g12 x13 a14 v15=>(Cp (K:=K) (r:=Xa) (f:=fun a26 a27=>(Rs.ok (a27, a26))) 2 1 3 0 (by decide) rfl rfl (fun _ s=>s.l.r) rfl rfl (fun _ s=>s.l.l.r) (XM (XB (Xb (r:=(rV Xa)) 1 rfl (fun _ s=>s.l.l.l.r)) (XN (XO (Xe 8) (Xb (r:=Xa) 4 rfl (fun _ s=>s.r))) (Xe 9))) (YE (YJ (o:=(oL (oF Xa))) 2 1 rfl rfl (fun _ s=>s.l.r)))) fun a25 a26 C28 C29=>(XC (J:=_) ((some v15), x13.2.1, x13.2.2.1, C29, C28) ((g12.1 ++ [a25]), a26) rfl rfl (fun _ s=>(SC.i (SC.i (SC.i (SC.i SC.t s.l.l.l.l.l.l.r) s.l.l.l.l.l.r) s.r) s.l.r))))) fun g32 x33=>(XT (YD (o:=(oL (oF Xa))) 3 0 rfl rfl (fun _ s=>s.l.r))))))
theorem JG : FnScope ["_law_names", "_law_some", "_law_rings", "_law_left", "_law_one", "_law_walks", "_law_k", "_law_at", "_law_passage"] ["_law_names", "_law_some", "_law_rings"] (Xg V6):=⟨rfl, rfl, rfl, by decide +kernel, rfl, by decide +kernel, by decide +kernel⟩
theorem Hb (D : Def K mg "_law_any" V6 ["_law_names", "_law_some", "_law_rings"])  (Z : Blt mg) : Fn P w K mg base 1 "_law_any" ["_law_names", "_law_some", "_law_rings"] (sp3 (rV Xa) (rV Xa) Xa (oL (oL (oF Xa))) Gr K):=by
  refine Y0 D JG (fun vs H Q E h=>?_) (fun f cdv A outer s H vs Q E hr h=>?_)
  . obtain ⟨v_0, v_1, v_2, a_0, a_1, a_2, b, rfl, _⟩:=h; rfl
  obtain ⟨v_0, v_1, v_2, a_0, a_1, a_2, b, rfl, h_0, h_1, h_2, hm, q⟩:=h
  have hu:=hu8 hr
  have hu1:=YQ hr
  refine ⟨_, (Xc (Xn (i:=3) JG.nd rfl (Or.inl rfl) (Yh Xh))
    (Xc (YR PassesOwn.never rfl (XR (K:=K) rfl (pv 0)) (Xm (i:=4) JG.nd rfl (Or.inl rfl))
      (Xc (YL (ZR PySem.F.plainAttrs_list PySem.F.slot_list_extend PySem.F.type_list_extend Dd (pv 3) (Xd (Yh (Xd (pv 4) (Xd (GC VD (pv 4)) Xh))) Xh GT)))
      Xi))
    (Xc (Qu 5 (Xg V6) ["_law_names", "_law_some", "_law_rings", "_law_left", "_law_one", "_law_walks", "_law_k", "_law_at", "_law_passage"] ["_law_k"] [] rfl JG.nd rfl rfl (Yv rfl Z.b_range (Xd (pv 2) Xh)) (Za (by decide)) (fun cl C s H ex E=>⟨Xm (i:=0) (show List.Nodup (["_law_k"] : List Str) by decide +kernel) rfl (Or.inl rfl), YY, (Yh Xh)⟩))
    (Xc (YR PassesOwn.never rfl (Yv rfl Z.b_range (Xd (Xo Yf Xf (XH (Xr K rfl) rfl Z.b_len PySem.boot_len (Xd (pv 0) Xh))) Xh)) (Xm (i:=6) JG.nd rfl (Or.inl rfl))
      (Xc (Xn (i:=7) JG.nd rfl (Or.inl rfl) (Xo X9 (Xo Yf Xf (pv 6)) Xf))
      (Xc (Xn (i:=8) JG.nd rfl (Or.inl rfl) (ZR PySem.F.plainAttrs_list PySem.F.slot_list_pop PySem.F.type_list_pop K4 (pv 3) (Xd (Xo Yc (XL (Xl K rfl) (pv 1) (pv 7) (fun _ _=>rfl)) (XH (Xr K rfl) rfl Z.b_len PySem.boot_len (Xd (pv 3) Xh))) Xh)))
      (Xc (YL (ZR PySem.F.plainAttrs_list PySem.F.slot_list_append PySem.F.type_list_append Yb (XL (Xl K rfl) (pv 5) (Xo Yc (XL (Xl K rfl) (pv 1) (Xo X9 (pv 7) Xf) (fun _ _=>rfl)) (pv 2)) (fun _ _=>rfl)) (Xd (pv 8) Xh)))
      Xi))))
    (Xc (XS (pv 5))
    Xi))))), ?_⟩
  refine YX (S:=(SC.add (SC.add (SC.add SC.nil K (rV Xa) v_0 a_0) K (rV Xa) v_1 a_1) K Xa v_2 a_2)) (σ:=[some v_0, some v_1, some v_2, none, none, none, none, none, none]) 2 ?_ (SC.i (SC.i (SC.i SC.t h_0) h_1) h_2) hm q rfl
  unfold Gr
  exact (XQ (K:=K) (o:=(oL (oF Xa))) 3 1 (QW (o:=(oF Xa))) (Nat.le_of_ble_eq_true rfl) fun a1 v2 C3=>(Y7 (K:=K) (J:=({ oo:=fun x4=>[[], x4.2.2], ss:=fun x4=>[some v_0, some v_1, some v_2, some x4.2.1, x4.1, none, none, none, none], sc:=fun g5 x4=>(SC.addO (SC.add (SC.add (SC.add SC.nil K (rV Xa) v_0 a_0) K (rV Xa) v_1 a_1) K Xa v_2 a_2) K (oL (oF Xa)) x4.2.1 g5 x4.2.2) } : Jn ((List Int)) (Option V × V × List XF))) (fun _=>tg1 4) ((none), v2, C3) (a1) (XD (Xk (r:=(rV Xa)) 0 rfl (fun _ s=>s.l.l.l.r))) rfl rfl (fun _ s=>(SC.i (SC.i (SC.i (SC.i SC.t s.l.l.l.r) s.l.l.r) s.l.r) s.r)) (fun g6 x7 a8 v9=>(Hk (K:=K) (o:=(oF Xa)) (f:=fun a18=>(Rs.ok (a18))) 3 1 rfl rfl rfl (fun _ s=>s.l.r) (Zz (Xp (Xk (r:=Xa) 4 rfl (fun _ s=>s.r)) (Xp (EvB.sh (QY (Xb (r:=Xa) 4 rfl (fun _ s=>s.r)))) Zd))) fun a16 C17=>(XC (J:=_) ((some v9), x7.2.1, C17) ((g6 ++ a16)) rfl rfl (fun _ s=>(SC.i (SC.i (SC.i (SC.i SC.t s.l.l.l.l.l.r) s.l.l.l.l.r) s.l.l.l.r) s.r))))) fun g19 x20=>(XQ (K:=K) (o:=(oL (oL (oF Xa)))) 5 0 (YZ (fun _=>tg1 0) (XY (Xb (r:=Xa) 2 rfl (fun _ s=>s.l.r))) (fun C25 a26 v27=>(QW (o:=(oF Xa))))) (Nat.le_of_ble_eq_true rfl) fun a21 v22 C23=>(Y7 (K:=K) (J:=({ oo:=fun x33=>[x33.2.2.2.2.2.2, x33.2.2.2.2.2.1], ss:=fun x33=>[some v_0, some v_1, some v_2, some x33.2.2.2.1, x20.1, some x33.2.2.2.2.1, x33.1, x33.2.1, x33.2.2.1], sc:=fun g34 x33=>(SC.addO (SC.addO (SC.add (SC.add (SC.add SC.nil K (rV Xa) v_0 a_0) K (rV Xa) v_1 a_1) K Xa v_2 a_2) K (oL (oF Xa)) x33.2.2.2.1 g34.1 x33.2.2.2.2.2.1) K (oL (oL (oF Xa))) x33.2.2.2.2.1 g34.2 x33.2.2.2.2.2.2) } : Jn ((List Int) × (List (List Int))) (Option V × Option V × Option V × V × V × List XF × List XF))) (fun _=>tg1 6) ((none), (none), (none), x20.2.1, v22, x20.2.2, C23) (g19, a21) (XY (XO (Xe 2) (YE (Xb (r:=(rV Xa)) 0 rfl (fun _ s=>s.l.l.l.l.r))))) rfl rfl (fun _ s=>(SC.i (SC.i (SC.i (SC.i (SC.i SC.t s.l.l.l.l.r) s.l.l.l.r) s.l.l.r) s.l.r) s.r)) (fun g35 x36 a37 v38=>(Xv (K:=K) (r:=Xa) 7 (EvB.sh (XN (XO (Xe 4) (Xb (r:=Xa) 6 rfl (fun _ s=>s.r))) (Xe 5))) fun a39 v40=>(HD (K:=K) (r:=Xa) (f:=(fun p55=>(fun a50 a51=>(Rs.bind (Rs.bind (Rs.bind (Rs.ok a_1) fun x58=>(Rs.bind (Rs.bind (Rs.ok a39) fun x56=>(Rs.bind (Rs.ok (1 : Int)) fun x57=>(Rs.ok (x56 + x57)))) fun x59=>(atR x58 x59))) fun x60=>(Rs.bind (Rs.ok a_2) fun x61=>(ZF x60 x61))) fun x63=>(Rs.bind (atR g35.2 x63) fun x64=>(Rs.bind (Rs.ok a50) fun x62=>(chk (x64.length < sizeLine) (Rs.bind (Qw g35.2 x63 (x64 ++ [x62])) fun a65=>(Rs.ok (a51, a65)))))))) p55.1 p55.2)) 8 3 1 rfl rfl (fun _ s=>s.l.l.l.r) (XM (XB (Xb (r:=(rV Xa)) 1 rfl (fun _ s=>s.l.l.l.l.l.r)) (Xb (r:=Xa) 7 rfl (fun _ s=>s.r))) (YE (YJ (o:=(oL (oF Xa))) 3 1 rfl rfl (fun _ s=>s.l.l.l.r)))) fun a50 a51 v52 C53=>(DY (K:=K) (r:=Xa) 5 0 rfl rfl (fun _ s=>s.l.l.l.l.r) (Xk (r:=Xa) 8 rfl (fun _ s=>s.l.r)) (XM (XB (Xb (r:=(rV Xa)) 1 rfl (fun _ s=>s.l.l.l.l.l.l.l.r)) (XN (Xb (r:=Xa) 7 rfl (fun _ s=>s.l.l.r)) (Xe 1))) (Xb (r:=Xa) 2 rfl (fun _ s=>s.l.l.l.l.l.l.r))) fun a65 C66=>(XC (J:=_) ((some v38), (some v40), (some v52), x36.2.2.2.1, x36.2.2.2.2.1, C53, C66) (a51, a65) rfl rfl (fun _ s=>(SC.i (SC.i (SC.i (SC.i (SC.i SC.t s.l.l.l.l.l.l.l.l.l.r) s.l.l.l.l.l.l.l.l.r) s.l.l.l.l.l.l.l.r) s.l.r) s.r))))))) fun g67 x68=>(XT (YD (o:=(oL (oL (oF Xa)))) 5 0 rfl rfl (fun _ s=>s.r)))))))
theorem YA : FnScope ["_law_names", "_law_signs", "_law_some", "_law_strands", "_law_seen", "_law_walks", "_law_start", "_law_walk", "_law_at", "_law_k", "_law_low"] ["_law_names", "_law_signs", "_law_some", "_law_strands"] (Xg Zk):=⟨rfl, rfl, rfl, by decide +kernel, rfl, by decide +kernel, by decide +kernel⟩
theorem GN (D : Def K mg "_law_plaited" Zk ["_law_names", "_law_signs", "_law_some", "_law_strands"])  (Z : Blt mg) : Fn P w K mg base 1 "_law_plaited" ["_law_names", "_law_signs", "_law_some", "_law_strands"] (sp4 (rV Xa) (rD Xa) (rV Xa) Xa (oL (oL (oF Xa))) ZI K):=by
  refine Y0 D YA (fun vs H Q E h=>?_) (fun f cdv A outer s H vs Q E hr h=>?_)
  . obtain ⟨v_0, v_1, v_2, v_3, a_0, a_1, a_2, a_3, b, rfl, _⟩:=h; rfl
  obtain ⟨v_0, v_1, v_2, v_3, a_0, a_1, a_2, a_3, b, rfl, h_0, h_1, h_2, h_3, hm, q⟩:=h
  have hu:=hu8 hr
  have hu1:=YQ hr
  refine ⟨_, (Xc (Xn (i:=4) YA.nd rfl (Or.inl rfl) (Xo JH (Yh (Xd Jp Xh)) (pv 3)))
    (Xc (Xn (i:=5) YA.nd rfl (Or.inl rfl) (Yh Xh))
    (Xc (YR PassesOwn.never rfl (Yv rfl Z.b_range (Xd (pv 3) Xh)) (Xm (i:=6) YA.nd rfl (Or.inl rfl))
      (Xc (ZD (G7 (F0 (XL (Xl K rfl) (pv 4) (pv 6) (fun _ _=>rfl))))
        (Xc (Xn (i:=7) YA.nd rfl (Or.inl rfl) (Yh Xh))
        (Xc (Xn (i:=8) YA.nd rfl (Or.inl rfl) (pv 6))
        (Xc (V0 PassesOwn.never (G7 (F0 (XL (Xl K rfl) (pv 4) (pv 8) (fun _ _=>rfl))))
          (Xc (JV Jp (UG (pv 4) (pv 8) ZB))
          (Xc (YR PassesOwn.never rfl (Yv rfl Z.b_range (Xd (XH (Xr K rfl) rfl Z.b_len PySem.boot_len (Xd (pv 0) Xh)) Xh)) (Xm (i:=9) YA.nd rfl (Or.inl rfl))
            (Xc (Xn (i:=10) YA.nd rfl (Or.inl rfl) (Xo Yc (XL (Xl K rfl) (pv 2) (Xo X9 (Xo Yf Xf (pv 9)) Xf) (fun _ _=>rfl)) (Xo Q8 (pv 3) Xf)))
            (Xc (ZD (XW Uk (pv 8) (pv 10) (Yl _))
              (Xc (YL (ZR PySem.F.plainAttrs_list PySem.F.slot_list_append PySem.F.type_list_append Yb (pv 7) (Xd (Xo Yf (XL (Xl K rfl) (pv 0) (pv 9) (fun _ _=>rfl)) (Kx hu1 (pv 1) (XL (Xl K rfl) (pv 0) (pv 9) (fun _ _=>rfl)) (fun _ _=>rfl))) Xh)))
              (Xc (Xn (i:=8) YA.nd rfl (Or.inl rfl) (Xo X9 (pv 10) Xf))
              Xi))
              (Xc (ZD (XW Uk (pv 8) (Xo X9 (pv 10) Xf) (Yl _))
                (Xc (YL (ZR PySem.F.plainAttrs_list PySem.F.slot_list_append PySem.F.type_list_append Yb (pv 7) (Xd (Xo Yf (GC VD (XL (Xl K rfl) (pv 0) (pv 9) (fun _ _=>rfl))) (Kx hu1 (pv 1) (XL (Xl K rfl) (pv 0) (pv 9) (fun _ _=>rfl)) (fun _ _=>rfl))) Xh)))
                (Xc (Xn (i:=8) YA.nd rfl (Or.inl rfl) (pv 10))
                Xi))
                Xi)
              Xi))
            Xi)))
          Xi)))
        (Xc (YL (ZR PySem.F.plainAttrs_list PySem.F.slot_list_append PySem.F.type_list_append Yb (pv 5) (Xd (pv 7) Xh)))
        Xi))))
        Xi)
      Xi))
    (Xc (XS (pv 5))
    Xi)))), ?_⟩
  refine YX (S:=(SC.add (SC.add (SC.add (SC.add SC.nil K (rV Xa) v_0 a_0) K (rD Xa) v_1 a_1) K (rV Xa) v_2 a_2) K Xa v_3 a_3)) (σ:=[some v_0, some v_1, some v_2, some v_3, none, none, none, none, none, none, none]) 3 ?_ (SC.i (SC.i (SC.i (SC.i SC.t h_0) h_1) h_2) h_3) hm q rfl
  unfold ZI
  exact (XQ (K:=K) (o:=(oL (oF Ym))) 4 1 (Vi (Ev.ls (Zz (Xp (EvB.sh (QM false)) Zd))) (Xb (r:=Xa) 3 rfl (fun _ s=>s.r))) (Nat.le_of_ble_eq_true rfl) fun a1 v2 C3=>(XQ (K:=K) (o:=(oL (oL (oF Xa)))) 5 0 (QW (o:=(oL (oF Xa)))) (Nat.le_of_ble_eq_true rfl) fun a9 v10 C11=>(Y7 (K:=K) (J:=({ oo:=fun x13=>[x13.2.2.2.2.2.2.2.2, x13.2.2.2.2.2.2.2.1, []], ss:=fun x13=>[some v_0, some v_1, some v_2, some v_3, some x13.2.2.2.1, some x13.2.2.2.2.2.1, x13.1, x13.2.1, x13.2.2.1, x13.2.2.2.2.1, x13.2.2.2.2.2.2.1], sc:=fun g14 x13=>(SC.addO (SC.addO (SC.add (SC.add (SC.add (SC.add SC.nil K (rV Xa) v_0 a_0) K (rD Xa) v_1 a_1) K (rV Xa) v_2 a_2) K Xa v_3 a_3) K (oL (oF Ym)) x13.2.2.2.1 g14.1 x13.2.2.2.2.2.2.2.1) K (oL (oL (oF Xa))) x13.2.2.2.2.2.1 g14.2 x13.2.2.2.2.2.2.2.2) } : Jn ((List Bool) × (List (List Int))) (Option V × Option V × Option V × V × Option V × V × Option V × List XF × List XF))) (fun _=>tg1 6) ((none), (none), (none), v2, (none), v10, (none), C3, C11) (a1, a9) (XY (Xb (r:=Xa) 3 rfl (fun _ s=>s.l.l.r))) rfl rfl (fun _ s=>(SC.i (SC.i (SC.i (SC.i (SC.i (SC.i SC.t s.l.l.l.l.l.r) s.l.l.l.l.r) s.l.l.l.r) s.l.l.r) s.l.r) s.r)) (fun g15 x16 a17 v18=>(ZC (J:=({ oo:=fun x23=>[x23.2.2.2.2.2.2.2, x23.2.2.2.2.2.2.1, []], ss:=fun x23=>[some v_0, some v_1, some v_2, some v_3, some x23.2.2.1, some x23.2.2.2.2.1, some v18, x23.1, x23.2.1, x23.2.2.2.1, x23.2.2.2.2.2.1], sc:=fun g24 x23=>(SC.addO (SC.addO (SC.add (SC.add (SC.add (SC.add (SC.add SC.nil K (rV Xa) v_0 a_0) K (rD Xa) v_1 a_1) K (rV Xa) v_2 a_2) K Xa v_3 a_3) K Xa v18 a17) K (oL (oF Ym)) x23.2.2.1 g24.1 x23.2.2.2.2.2.2.1) K (oL (oL (oF Xa))) x23.2.2.2.2.1 g24.2 x23.2.2.2.2.2.2.2) } : Jn ((List Bool) × (List (List Int))) (Option V × Option V × V × Option V × V × Option V × List XF × List XF))) (Z7 (Fd:=FNd ({ oo:=fun x23=>[x23.2.2.2.2.2.2.2, x23.2.2.2.2.2.2.1, []], ss:=fun x23=>[some v_0, some v_1, some v_2, some v_3, some x23.2.2.1, some x23.2.2.2.2.1, some v18, x23.1, x23.2.1, x23.2.2.2.1, x23.2.2.2.2.2.1], sc:=fun g24 x23=>(SC.addO (SC.addO (SC.add (SC.add (SC.add (SC.add (SC.add SC.nil K (rV Xa) v_0 a_0) K (rD Xa) v_1 a_1) K (rV Xa) v_2 a_2) K Xa v_3 a_3) K Xa v18 a17) K (oL (oF Ym)) x23.2.2.1 g24.1 x23.2.2.2.2.2.2.1) K (oL (oL (oF Xa))) x23.2.2.2.2.1 g24.2 x23.2.2.2.2.2.2.2) } : Jn ((List Bool) × (List (List Int))) (Option V × Option V × V × Option V × V × Option V × List XF × List XF))) (Kw (GW (K:=K) (XB (YJ (o:=(oL (oF Ym))) 4 1 rfl rfl (fun _ s=>s.l.l.r)) (Xb (r:=Xa) 6 rfl (fun _ s=>s.r))))) (XQ (K:=K) (o:=(oL (oF Xa))) 7 2 (QW (o:=(oF Xa))) (Nat.le_of_ble_eq_true rfl) fun a25 v26 C27=>(Xv (K:=K) (r:=Xa) 8 (Xk (r:=Xa) 6 rfl (fun _ s=>s.l.r)) fun a28 v29=>(K8 (J:=({ oo:=fun x30=>[x16.2.2.2.2.2.2.2.2, x30.2.2.2.2.2.1, x30.2.2.2.2.2.2], ss:=fun x30=>[some v_0, some v_1, some v_2, some v_3, some x30.1, some x16.2.2.2.2.2.1, some v18, some x30.2.2.2.2.1, some x30.2.2.2.1, x30.2.1, x30.2.2.1], sc:=fun g31 x30=>(SC.addO (SC.add (SC.addO (SC.add (SC.addO (SC.add (SC.add (SC.add (SC.add SC.nil K (rV Xa) v_0 a_0) K (rD Xa) v_1 a_1) K (rV Xa) v_2 a_2) K Xa v_3 a_3) K (oL (oL (oF Xa))) x16.2.2.2.2.2.1 g15.2 x16.2.2.2.2.2.2.2.2) K Xa v18 a17) K (oL (oF Ym)) x30.1 g31.1 x30.2.2.2.2.2.1) K Xa x30.2.2.2.1 g31.2.1) K (oL (oF Xa)) x30.2.2.2.2.1 g31.2.2 x30.2.2.2.2.2.2) } : Jn ((List Bool) × Int × (List Int)) (V × Option V × Option V × V × V × List XF × List XF))) (a_3.natAbs + 2) (x16.2.2.2.1, (x16.2.2.2.2.1), (x16.2.2.2.2.2.2.1), v29, v26, x16.2.2.2.2.2.2.2.1, C27) (g15.1, a28, a25) rfl rfl (fun _ s=>(SC.i (SC.i (SC.i (SC.i (SC.i (SC.i (SC.i (SC.i (SC.i SC.t s.l.l.l.l.l.l.l.l.r) s.l.l.l.l.l.l.l.r) s.l.l.l.l.l.l.r) s.l.l.l.l.l.r) s.l.l.l.r) s.l.l.r) s.l.l.l.l.r) s.r) s.l.r)) (fun g32 x33=>(Kw (GW (K:=K) (XB (YJ (o:=(oL (oF Ym))) 4 1 rfl rfl (fun _ s=>s.l.l.r)) (Xb (r:=Xa) 8 rfl (fun _ s=>s.l.r)))))) (fun g32 x33=>(QN (K:=K) (o:=(oF Ym)) 4 1 rfl rfl (fun _ s=>s.l.l.r) (EvS.ev (EvB.sh (QM true))) (fun _=>(Xb (r:=Xa) 8 rfl (fun _ s=>s.l.r))) fun a39 C40=>(Y7 (K:=K) (J:=({ oo:=fun x43=>[x16.2.2.2.2.2.2.2.2, C40, x43.2.2.2.2], ss:=fun x43=>[some v_0, some v_1, some v_2, some v_3, some x33.1, some x16.2.2.2.2.2.1, some v18, some x43.2.2.2.1, some x43.2.2.1, x43.1, x43.2.1], sc:=fun g44 x43=>(SC.addO (SC.add (SC.addO (SC.add (SC.addO (SC.add (SC.add (SC.add (SC.add SC.nil K (rV Xa) v_0 a_0) K (rD Xa) v_1 a_1) K (rV Xa) v_2 a_2) K Xa v_3 a_3) K (oL (oL (oF Xa))) x16.2.2.2.2.2.1 g15.2 x16.2.2.2.2.2.2.2.2) K Xa v18 a17) K (oL (oF Ym)) x33.1 a39 C40) K Xa x43.2.2.1 g44.1) K (oL (oF Xa)) x43.2.2.2.1 g44.2 x43.2.2.2.2) } : Jn (Int × (List Int)) (Option V × Option V × V × V × List XF))) (fun _=>tg1 9) ((x33.2.1), (x33.2.2.1), x33.2.2.2.1, x33.2.2.2.2.1, x33.2.2.2.2.2.2) (g32.2.1, g32.2.2) (XY (YE (Xb (r:=(rV Xa)) 0 rfl (fun _ s=>s.l.l.l.l.l.l.l.l.l.r)))) rfl rfl (fun _ s=>(SC.i (SC.i (SC.i (SC.i (SC.i (SC.i (SC.i (SC.i (SC.i SC.t s.l.l.l.l.l.l.l.l.l.r) s.l.l.l.l.l.l.l.l.r) s.l.l.l.l.l.l.l.r) s.l.l.l.l.l.l.r) s.l.l.l.l.l.r) s.l.l.l.l.r) s.r) s.l.l.r) s.l.r)) (fun g45 x46 a47 v48=>(Xv (K:=K) (r:=Xa) 10 (EvB.sh (XM (XB (Xb (r:=(rV Xa)) 2 rfl (fun _ s=>s.l.l.l.l.l.l.l.r)) (XN (XO (Xe 8) (Xb (r:=Xa) 9 rfl (fun _ s=>s.r))) (Xe 10))) (Z2 (Xb (r:=Xa) 3 rfl (fun _ s=>s.l.l.l.l.l.l.r)) (Xe 1)))) fun a49 v50=>(ZC (J:=({ oo:=fun x64=>[x16.2.2.2.2.2.2.2.2, C40, x64.2.2], ss:=fun x64=>[some v_0, some v_1, some v_2, some v_3, some x33.1, some x16.2.2.2.2.2.1, some v18, some x64.2.1, some x64.1, some v48, some v50], sc:=fun g65 x64=>(SC.addO (SC.add (SC.add (SC.add (SC.addO (SC.add (SC.addO (SC.add (SC.add (SC.add (SC.add SC.nil K (rV Xa) v_0 a_0) K (rD Xa) v_1 a_1) K (rV Xa) v_2 a_2) K Xa v_3 a_3) K (oL (oL (oF Xa))) x16.2.2.2.2.2.1 g15.2 x16.2.2.2.2.2.2.2.2) K Xa v18 a17) K (oL (oF Ym)) x33.1 a39 C40) K Xa v48 a47) K Xa v50 a49) K Xa x64.1 g65.1) K (oL (oF Xa)) x64.2.1 g65.2 x64.2.2) } : Jn (Int × (List Int)) (V × V × List XF))) (Z7 (Fd:=FNd ({ oo:=fun x64=>[x16.2.2.2.2.2.2.2.2, C40, x64.2.2], ss:=fun x64=>[some v_0, some v_1, some v_2, some v_3, some x33.1, some x16.2.2.2.2.2.1, some v18, some x64.2.1, some x64.1, some v48, some v50], sc:=fun g65 x64=>(SC.addO (SC.add (SC.add (SC.add (SC.addO (SC.add (SC.addO (SC.add (SC.add (SC.add (SC.add SC.nil K (rV Xa) v_0 a_0) K (rD Xa) v_1 a_1) K (rV Xa) v_2 a_2) K Xa v_3 a_3) K (oL (oL (oF Xa))) x16.2.2.2.2.2.1 g15.2 x16.2.2.2.2.2.2.2.2) K Xa v18 a17) K (oL (oF Ym)) x33.1 a39 C40) K Xa v48 a47) K Xa v50 a49) K Xa x64.1 g65.1) K (oL (oF Xa)) x64.2.1 g65.2 x64.2.2) } : Jn (Int × (List Int)) (V × V × List XF))) (XG (K:=K) (Ji (Xb (r:=Xa) 8 rfl (fun _ s=>s.l.l.l.r)) (Xb (r:=Xa) 10 rfl (fun _ s=>s.r)))) (ZH (K:=K) (o:=(oF Xa)) (f:=fun a76=>(Rs.bind (Rs.bind (Rs.ok a49) fun x79=>(Rs.bind (Rs.ok (1 : Int)) fun x80=>(Rs.ok (x79 + x80)))) fun a77=>(Rs.ok (a77, a76)))) 7 2 rfl rfl rfl (fun _ s=>s.l.l.r) (EvS.ev (EvB.sh (XO (XB (Xb (r:=(rV Xa)) 0 rfl (fun _ s=>s.l.l.l.l.l.l.l.l.l.l.r)) (Xb (r:=Xa) 9 rfl (fun _ s=>s.l.r))) (Uh (Xb (r:=(rD Xa)) 1 rfl (fun _ s=>s.l.l.l.l.l.l.l.l.l.r)) (XB (Xb (r:=(rV Xa)) 0 rfl (fun _ s=>s.l.l.l.l.l.l.l.l.l.l.r)) (Xb (r:=Xa) 9 rfl (fun _ s=>s.l.r))))))) fun a74 C75=>(Xv (K:=K) (r:=Xa) 8 (EvB.sh (XN (Xb (r:=Xa) 10 rfl (fun _ s=>s.l.r)) (Xe 1))) fun a77 v78=>(XC (J:=_) (v78, x46.2.2.2.1, C75) (a77, (g45.2 ++ [a74])) rfl rfl (fun _ s=>(SC.i (SC.i (SC.i (SC.i (SC.i (SC.i (SC.i (SC.i (SC.i (SC.i (SC.i SC.t s.l.l.l.l.l.l.l.l.l.l.l.l.r) s.l.l.l.l.l.l.l.l.l.l.l.r) s.l.l.l.l.l.l.l.l.l.l.r) s.l.l.l.l.l.l.l.l.l.r) s.l.l.l.l.l.l.l.l.r) s.l.l.l.l.l.l.l.r) s.l.l.l.l.l.l.r) s.l.l.l.r) s.l.l.r) s.r) s.l.r))))) (ZC (J:=({ oo:=fun x86=>[x16.2.2.2.2.2.2.2.2, C40, x86.2.2], ss:=fun x86=>[some v_0, some v_1, some v_2, some v_3, some x33.1, some x16.2.2.2.2.2.1, some v18, some x86.2.1, some x86.1, some v48, some v50], sc:=fun g87 x86=>(SC.addO (SC.add (SC.add (SC.add (SC.addO (SC.add (SC.addO (SC.add (SC.add (SC.add (SC.add SC.nil K (rV Xa) v_0 a_0) K (rD Xa) v_1 a_1) K (rV Xa) v_2 a_2) K Xa v_3 a_3) K (oL (oL (oF Xa))) x16.2.2.2.2.2.1 g15.2 x16.2.2.2.2.2.2.2.2) K Xa v18 a17) K (oL (oF Ym)) x33.1 a39 C40) K Xa v48 a47) K Xa v50 a49) K Xa x86.1 g87.1) K (oL (oF Xa)) x86.2.1 g87.2 x86.2.2) } : Jn (Int × (List Int)) (V × V × List XF))) (Z7 (Fd:=FNd ({ oo:=fun x86=>[x16.2.2.2.2.2.2.2.2, C40, x86.2.2], ss:=fun x86=>[some v_0, some v_1, some v_2, some v_3, some x33.1, some x16.2.2.2.2.2.1, some v18, some x86.2.1, some x86.1, some v48, some v50], sc:=fun g87 x86=>(SC.addO (SC.add (SC.add (SC.add (SC.addO (SC.add (SC.addO (SC.add (SC.add (SC.add (SC.add SC.nil K (rV Xa) v_0 a_0) K (rD Xa) v_1 a_1) K (rV Xa) v_2 a_2) K Xa v_3 a_3) K (oL (oL (oF Xa))) x16.2.2.2.2.2.1 g15.2 x16.2.2.2.2.2.2.2.2) K Xa v18 a17) K (oL (oF Ym)) x33.1 a39 C40) K Xa v48 a47) K Xa v50 a49) K Xa x86.1 g87.1) K (oL (oF Xa)) x86.2.1 g87.2 x86.2.2) } : Jn (Int × (List Int)) (V × V × List XF))) (XG (K:=K) (Ji (Xb (r:=Xa) 8 rfl (fun _ s=>s.l.l.l.r)) (XN (Xb (r:=Xa) 10 rfl (fun _ s=>s.r)) (Xe 1)))) (ZH (K:=K) (o:=(oF Xa)) (f:=fun a99=>(Rs.bind (Rs.ok a49) fun a100=>(Rs.ok (a100, a99)))) 7 2 rfl rfl rfl (fun _ s=>s.l.l.r) (EvS.ev (EvB.sh (XO (QY (XB (Xb (r:=(rV Xa)) 0 rfl (fun _ s=>s.l.l.l.l.l.l.l.l.l.l.r)) (Xb (r:=Xa) 9 rfl (fun _ s=>s.l.r)))) (Uh (Xb (r:=(rD Xa)) 1 rfl (fun _ s=>s.l.l.l.l.l.l.l.l.l.r)) (XB (Xb (r:=(rV Xa)) 0 rfl (fun _ s=>s.l.l.l.l.l.l.l.l.l.l.r)) (Xb (r:=Xa) 9 rfl (fun _ s=>s.l.r))))))) fun a97 C98=>(Xv (K:=K) (r:=Xa) 8 (Xk (r:=Xa) 10 rfl (fun _ s=>s.l.r)) fun a100 v101=>(XC (J:=_) (v101, x46.2.2.2.1, C98) (a100, (g45.2 ++ [a97])) rfl rfl (fun _ s=>(SC.i (SC.i (SC.i (SC.i (SC.i (SC.i (SC.i (SC.i (SC.i (SC.i (SC.i SC.t s.l.l.l.l.l.l.l.l.l.l.l.l.r) s.l.l.l.l.l.l.l.l.l.l.l.r) s.l.l.l.l.l.l.l.l.l.l.r) s.l.l.l.l.l.l.l.l.l.r) s.l.l.l.l.l.l.l.l.r) s.l.l.l.l.l.l.l.r) s.l.l.l.l.l.l.r) s.l.l.l.r) s.l.l.r) s.r) s.l.r))))) (XC (J:=_) (x46.2.2.1, x46.2.2.2.1, x46.2.2.2.2) (g45.1, g45.2) rfl rfl (fun _ s=>(SC.i (SC.i (SC.i (SC.i (SC.i (SC.i (SC.i (SC.i (SC.i (SC.i (SC.i SC.t s.l.l.l.l.l.l.l.l.l.l.r) s.l.l.l.l.l.l.l.l.l.r) s.l.l.l.l.l.l.l.l.r) s.l.l.l.l.l.l.l.r) s.l.l.l.l.l.l.r) s.l.l.l.l.l.r) s.l.l.l.l.r) s.l.r) s.r) s.l.l.l.r) s.l.l.r)))) fun g103 x102=>(XC (J:=_) (x102.1, x102.2.1, x102.2.2) (g103.1, g103.2) rfl rfl (fun _ s=>(SC.i (SC.i (SC.i (SC.i (SC.i (SC.i (SC.i (SC.i (SC.i (SC.i (SC.i SC.t s.l.l.l.l.l.l.l.l.l.l.r) s.l.l.l.l.l.l.l.l.l.r) s.l.l.l.l.l.l.l.l.r) s.l.l.l.l.l.l.l.r) s.l.l.l.l.l.l.r) s.l.l.l.l.l.r) s.l.l.l.l.r) s.l.l.l.r) s.l.l.r) s.l.r) s.r))))) fun g105 x104=>(XC (J:=_) ((some v48), (some v50), x104.1, x104.2.1, x104.2.2) (g105.1, g105.2) rfl rfl (fun _ s=>(SC.i (SC.i (SC.i (SC.i (SC.i (SC.i (SC.i (SC.i (SC.i SC.t s.l.l.l.l.l.l.l.l.l.l.r) s.l.l.l.l.l.l.l.l.l.r) s.l.l.l.l.l.l.l.l.r) s.l.l.l.l.l.l.l.r) s.l.l.l.l.l.l.r) s.l.l.l.l.l.r) s.l.l.l.l.r) s.l.r) s.r)))))) fun g106 x107=>(XC (J:=_) (x33.1, (x107.1), (x107.2.1), x107.2.2.1, x107.2.2.2.1, C40, x107.2.2.2.2) (a39, g106.1, g106.2) rfl rfl (fun _ s=>(SC.i (SC.i (SC.i (SC.i (SC.i (SC.i (SC.i (SC.i (SC.i SC.t s.l.l.l.l.l.l.l.l.r) s.l.l.l.l.l.l.l.r) s.l.l.l.l.l.l.r) s.l.l.l.l.l.r) s.l.l.l.l.r) s.l.l.l.r) s.l.l.r) s.l.r) s.r)))))) fun g109 x110=>(ZH (K:=K) (o:=(oL (oF Xa))) (f:=fun a113=>(Rs.ok (g109.1, a113))) 5 0 rfl rfl rfl (fun _ s=>s.l.l.l.l.r) (YD (o:=(oL (oF Xa))) 7 2 rfl rfl (fun _ s=>s.r)) fun a111 C112=>(XC (J:=_) ((some x110.2.2.2.2.1), (some x110.2.2.2.1), x110.1, (x110.2.1), x16.2.2.2.2.2.1, (x110.2.2.1), x110.2.2.2.2.2.1, C112) (g109.1, (g15.2 ++ [a111])) rfl rfl (fun _ s=>(SC.i (SC.i (SC.i (SC.i (SC.i (SC.i (SC.i SC.t s.l.l.l.l.l.l.l.l.l.r) s.l.l.l.l.l.l.l.l.r) s.l.l.l.l.l.l.l.r) s.l.l.l.l.l.l.r) s.l.l.l.l.r) s.l.l.l.r) s.r))))))) (XC (J:=_) ((x16.2.1), (x16.2.2.1), x16.2.2.2.1, (x16.2.2.2.2.1), x16.2.2.2.2.2.1, (x16.2.2.2.2.2.2.1), x16.2.2.2.2.2.2.2.1, x16.2.2.2.2.2.2.2.2) (g15.1, g15.2) rfl rfl (fun _ s=>(SC.i (SC.i (SC.i (SC.i (SC.i (SC.i (SC.i SC.t s.l.l.l.l.l.l.r) s.l.l.l.l.l.r) s.l.l.l.l.r) s.l.l.l.r) s.r) s.l.l.r) s.l.r)))) fun g115 x114=>(XC (J:=_) ((some v18), (x114.1), (x114.2.1), x114.2.2.1, (x114.2.2.2.1), x114.2.2.2.2.1, (x114.2.2.2.2.2.1), x114.2.2.2.2.2.2.1, x114.2.2.2.2.2.2.2) (g115.1, g115.2) rfl rfl (fun _ s=>(SC.i (SC.i (SC.i (SC.i (SC.i (SC.i SC.t s.l.l.l.l.l.l.r) s.l.l.l.l.l.r) s.l.l.l.l.r) s.l.l.l.r) s.l.r) s.r))))) fun g116 x117=>(XT (YD (o:=(oL (oL (oF Xa)))) 5 0 rfl rfl (fun _ s=>s.r))))))
theorem YT : FnScope ["_law_script", "_law_place", "_law_most", "_law_sizes", "_law_some", "_law_names", "_law_signs", "_law_last", "_law_k", "_law_step", "_law_walks", "_law_rings"] ["_law_script", "_law_place", "_law_most"] (Xg ZT):=⟨rfl, rfl, rfl, by decide +kernel, rfl, by decide +kernel, by decide +kernel⟩
theorem CV (D : Def K mg "_law_drawn" ZT ["_law_script", "_law_place", "_law_most"]) (g_row : Fn P w K mg base 2 "_law_row" ["_law_script", "_law_place", "_law_sizes"] (sp3 (rL Xa) Xa (rV Xa) (oL (oF Xa)) Ul K)) (g_plaited : Fn P w K mg base 1 "_law_plaited" ["_law_names", "_law_signs", "_law_some", "_law_strands"] (sp4 (rV Xa) (rD Xa) (rV Xa) Xa (oL (oL (oF Xa))) ZI K)) (g_any : Fn P w K mg base 1 "_law_any" ["_law_names", "_law_some", "_law_rings"] (sp3 (rV Xa) (rV Xa) Xa (oL (oL (oF Xa))) Gr K)) (g_mixed : Fn P w K mg base 1 "_law_mixed" ["_law_names", "_law_some"] (sp2 (rV Xa) (rV Xa) (oL (oF Xa)) QX K)) (Z : Blt mg) : Fn P w K mg base 3 "_law_drawn" ["_law_script", "_law_place", "_law_most"] (sp3 (rL Xa) Xa Xa (oT2 (oL (oL (oF Xa))) (oL (oF (rP2 Xa Xa)))) Qz K):=by
  refine Y0 D YT (fun vs H Q E h=>?_) (fun f cdv A outer s H vs Q E hr h=>?_)
  . obtain ⟨v_0, v_1, v_2, a_0, a_1, a_2, b, rfl, _⟩:=h; rfl
  obtain ⟨v_0, v_1, v_2, a_0, a_1, a_2, b, rfl, h_0, h_1, h_2, hm, q⟩:=h
  have hu:=hu8 hr
  have hu1:=YQ hr
  refine ⟨_, (Xc (Xn (i:=3) YT.nd rfl (Or.inl rfl) (Yh (Xd (Xo X9 (pv 2) Xf) (Xd Xf (Xd Xf (Xd Xf (Xd Xf Xh)))))))
    (Xc (Xn (i:=4) YT.nd rfl (Or.inl rfl) (Yg g_row hr (by decide) (Xd (pv 0) (Xd (pv 1) (Xd (Xo Ge (pv 3) (Xo JH (Yh (Xd Xf (Xd Xf (Xd Xf (Xd Xf Xh))))) (Xo Yf Xf (pv 2)))) Xh)))))
    (Xc (Xn (i:=5) YT.nd rfl (Or.inl rfl) (Yh Xh))
    (Xc (Xn (i:=6) YT.nd rfl (Or.inr rfl) Ca)
    (Xc (Xn (i:=7) YT.nd rfl (Or.inl rfl) Xf)
    (Xc (YR PassesOwn.never rfl (Yv rfl Z.b_range (Xd (XL (Xl K rfl) (pv 4) Xf (fun _ _=>rfl)) Xh)) (Xm (i:=8) YT.nd rfl (Or.inl rfl))
      (Xc (Xn (i:=9) YT.nd rfl (Or.inl rfl) (Xo Yf (XL (Xl K rfl) (pv 4) (Xo X9 (Xo Yf Xf (pv 8)) Xf) (fun _ _=>rfl)) (XL (Xl K rfl) (Yh (Xd Xf (Xd Xf (Xd (Xo UF Xf Xf) Xh)))) (XL (Xl K rfl) (pv 4) Xf (fun _ _=>rfl)) (fun _ _=>rfl))))
      (Xc (Xn (i:=7) YT.nd rfl (Or.inl rfl) (Xo X9 (Xo X9 (pv 7) Xf) (pv 9)))
      (Xc (YL (ZR PySem.F.plainAttrs_list PySem.F.slot_list_append PySem.F.type_list_append Yb (pv 5) (Xd (pv 7) Xh)))
      (Xc (EB hu1 (pv 6) (pv 7) (Xo Q8 (Xo Yf Xf (XL (Xl K rfl) (pv 4) (Xo X9 (Xo Yf Xf (pv 8)) Xf) (fun _ _=>rfl))) Xf) rfl)
      Xi)))))
    (Xc (ZD (XW KB (XL (Xl K rfl) (pv 4) Xf (fun _ _=>rfl)) Xf (Yl _))
      (Xc (Xn (i:=10) YT.nd rfl (Or.inl rfl) (Yg g_plaited hr (by decide) (Xd (Yg g_mixed hr (by decide) (Xd (pv 5) (Xd (pv 4) Xh))) (Xd (pv 6) (Xd (pv 4) (Xd (Xo X9 Xf (XL (Xl K rfl) (pv 4) Xf (fun _ _=>rfl))) Xh))))))
      Xi)
      (Xc (Xn (i:=11) YT.nd rfl (Or.inl rfl) (XH (J7 rfl) rfl Z.b_max PyProof.Rows.boot_max (Xd (XL (Xl K rfl) (pv 4) Xf (fun _ _=>rfl)) (Xd (XH (Do rfl) rfl Z.b_min PyProof.Rows.boot_min (Xd (XH (Xr K rfl) rfl Z.b_len PySem.boot_len (Xd (pv 5) Xh)) (Xd Xf Xh))) Xh))))
      (Xc (Xn (i:=10) YT.nd rfl (Or.inl rfl) (Yg g_any hr (by decide) (Xd (pv 5) (Xd (pv 4) (Xd (pv 11) Xh)))))
      Xi)))
    (Xc (XS (ZY (Xd (pv 10) (Xd (YU (sc:=(Xg ZT)) (N0:=["_law_script", "_law_place", "_law_most", "_law_sizes", "_law_some", "_law_names", "_law_signs", "_law_last", "_law_k", "_law_step", "_law_walks", "_law_rings"]) (tns:=["_law_one"]) (caps:=[(6, "_law_signs")]) rfl (XR (K:=K) rfl (pv 5)) (Za (by decide)) (fun cl C s H ex E=>⟨Xm (i:=0) (show List.Nodup (["_law_one", "_law_signs"] : List Str) by decide +kernel) rfl (Or.inl rfl), YY, (ZY (Xd (pv 0) (Xd (Kx hu1 (pv 1) (pv 0) (fun _ _=>rfl)) Xh)))⟩)) Xh))))
    Xi)))))))), ?_⟩
  refine YX (S:=(SC.add (SC.add (SC.add SC.nil K (rL Xa) v_0 a_0) K Xa v_1 a_1) K Xa v_2 a_2)) (σ:=[some v_0, some v_1, some v_2, none, none, none, none, none, none, none, none, none]) 3 ?_ (SC.i (SC.i (SC.i SC.t h_0) h_1) h_2) hm q rfl
  unfold Qz
  exact (Xv (K:=K) (r:=(rV Xa)) 3 (Ev.sh (Zz (Xp (EvB.sh (XN (Xb (r:=Xa) 2 rfl (fun _ s=>s.r)) (Xe 1))) (Xp (EvB.sh (Xe 5)) (Xp (EvB.sh (Xe 4)) (Xp (EvB.sh (Xe 3)) (Xp (EvB.sh (Xe 3)) Zd))))))) fun a1 v2=>(Xv (K:=K) (r:=(rV Xa)) 4 (Ev.sh (Zb (Xb (r:=(rL Xa)) 0 rfl (fun _ s=>s.l.l.l.r)) (Xb (r:=Xa) 1 rfl (fun _ s=>s.l.l.r)) (Ev.toB (DB (EvS.ls (Xk (r:=(rV Xa)) 3 rfl (fun _ s=>s.r))) (Ev.ls (Vi (Ev.ls (Zz (Xp (EvB.sh (Xe 80)) (Xp (EvB.sh (Xe 5)) (Xp (EvB.sh (Xe 2)) (Xp (EvB.sh (Xe 3)) Zd)))))) (XO (Xe 2) (Xb (r:=Xa) 2 rfl (fun _ s=>s.l.r))))))))) fun a16 v17=>(XQ (K:=K) (o:=(oL (oF Xa))) 5 2 (QW (o:=(oF Xa))) (Nat.le_of_ble_eq_true rfl) fun a37 v38 C39=>(XQ (K:=K) (o:=(oD Xa)) 6 1 (BR (r:=Xa)) (Nat.le_of_ble_eq_true rfl) fun a40 v41 C42=>(Xv (K:=K) (r:=Xa) 7 (EvB.sh (Xe 0)) fun a43 v44=>(Y7 (K:=K) (J:=({ oo:=fun x48=>[[], x48.2.2.2.2.2.1, x48.2.2.2.2.2.2], ss:=fun x48=>[some v_0, some v_1, some v_2, some v2, some v17, some x48.2.2.2.2.1, some x48.2.2.2.1, some x48.2.2.1, x48.1, x48.2.1, none, none], sc:=fun g49 x48=>(SC.addO (SC.addO (SC.add (SC.add (SC.add (SC.add (SC.add (SC.add SC.nil K (rL Xa) v_0 a_0) K Xa v_1 a_1) K Xa v_2 a_2) K (rV Xa) v2 a1) K (rV Xa) v17 a16) K Xa x48.2.2.1 g49.1) K (oD Xa) x48.2.2.2.1 g49.2.1 x48.2.2.2.2.2.1) K (oL (oF Xa)) x48.2.2.2.2.1 g49.2.2 x48.2.2.2.2.2.2) } : Jn (Int × (List (Int × Int)) × (List Int)) (Option V × Option V × V × V × V × List XF × List XF))) (fun _=>tg1 8) ((none), (none), v44, v41, v38, C42, C39) (a43, a40, a37) (XY (XB (Xb (r:=(rV Xa)) 4 rfl (fun _ s=>s.l.l.l.r)) (Xe 0))) rfl rfl (fun _ s=>(SC.i (SC.i (SC.i (SC.i (SC.i (SC.i (SC.i (SC.i SC.t s.l.l.l.l.l.l.l.r) s.l.l.l.l.l.l.r) s.l.l.l.l.l.r) s.l.l.l.l.r) s.l.l.l.r) s.r) s.l.r) s.l.l.r)) (fun g50 x51 a52 v53=>(Xv (K:=K) (r:=Xa) 9 (EvB.sh (XO (XB (Xb (r:=(rV Xa)) 4 rfl (fun _ s=>s.l.l.l.l.r)) (XN (XO (Xe 8) (Xb (r:=Xa) 8 rfl (fun _ s=>s.r))) (Xe 8))) (XB (Ev.toB (Zz (Xp (EvB.sh (Xe 0)) (Xp (EvB.sh (Xe 1)) (Xp (EvB.sh (JU (Xe 10) (Xe 9))) Zd))))) (XB (Xb (r:=(rV Xa)) 4 rfl (fun _ s=>s.l.l.l.l.r)) (Xe 3))))) fun a54 v55=>(Xv (K:=K) (r:=Xa) 7 (EvB.sh (XN (XN (Xb (r:=Xa) 7 rfl (fun _ s=>s.l.l.l.l.r)) (Xe 1)) (Xb (r:=Xa) 9 rfl (fun _ s=>s.r)))) fun a77 v78=>(ZH (K:=K) (o:=(oF Xa)) (f:=fun a85=>(Rs.bind (Rs.bind (Rs.bind (Rs.ok (2 : Int)) fun x92=>(Rs.bind (Rs.bind (Rs.ok a16) fun x90=>(Rs.bind (Rs.bind (Rs.bind (Rs.ok (8 : Int)) fun x86=>(Rs.bind (Rs.ok a52) fun x87=>(Z1 x86 x87))) fun x88=>(Rs.bind (Rs.ok (7 : Int)) fun x89=>(Rs.ok (x88 + x89)))) fun x91=>(atR x90 x91))) fun x93=>(Z1 x92 x93))) fun x94=>(Rs.bind (Rs.ok (1 : Int)) fun x95=>(Rs.ok (x94 - x95)))) fun x96=>(Rs.bind (Rs.ok a77) fun x97=>(chk (g50.2.1.length < sizeLine) ((fun a98=>(Rs.ok (a77, a98, a85))) (J6 g50.2.1 x97 x96)))))) 5 2 rfl rfl rfl (fun _ s=>s.l.l.l.r) (EvS.ev (Xk (r:=Xa) 7 rfl (fun _ s=>s.r))) fun a83 C84=>(Eb (K:=K) (r:=Xa) (f:=fun a98=>(Rs.ok (a77, a98, (g50.2.2 ++ [a83])))) 6 1 rfl rfl (fun _ s=>s.l.l.l.l.l.r) (EvB.sh (Z2 (XO (Xe 2) (XB (Xb (r:=(rV Xa)) 4 rfl (fun _ s=>s.l.l.l.l.l.l.l.r)) (XN (XO (Xe 8) (Xb (r:=Xa) 8 rfl (fun _ s=>s.l.l.l.r))) (Xe 7)))) (Xe 1))) (Xb (r:=Xa) 7 rfl (fun _ s=>s.l.r)) fun a98 C99=>(XC (J:=_) ((some v53), (some v55), v78, x51.2.2.2.1, x51.2.2.2.2.1, C99, C84) (a77, a98, (g50.2.2 ++ [a83])) rfl rfl (fun _ s=>(SC.i (SC.i (SC.i (SC.i (SC.i (SC.i (SC.i (SC.i SC.t s.l.l.l.l.l.l.l.l.l.l.l.l.r) s.l.l.l.l.l.l.l.l.l.l.l.r) s.l.l.l.l.l.l.l.l.l.l.r) s.l.l.l.l.l.l.l.l.l.r) s.l.l.l.l.l.l.l.l.r) s.l.l.r) s.r) s.l.r)))))))) fun g100 x101=>(ZC (J:=({ oo:=fun x107=>[x107.2.2, x101.2.2.2.2.2.1, x101.2.2.2.2.2.2], ss:=fun x107=>[some v_0, some v_1, some v_2, some v2, some v17, some x101.2.2.2.2.1, some x101.2.2.2.1, some x101.2.2.1, x101.1, x101.2.1, some x107.1, x107.2.1], sc:=fun g108 x107=>(SC.addO (SC.addO (SC.addO (SC.add (SC.add (SC.add (SC.add (SC.add (SC.add SC.nil K (rL Xa) v_0 a_0) K Xa v_1 a_1) K Xa v_2 a_2) K (rV Xa) v2 a1) K (rV Xa) v17 a16) K Xa x101.2.2.1 g100.1) K (oD Xa) x101.2.2.2.1 g100.2.1 x101.2.2.2.2.2.1) K (oL (oF Xa)) x101.2.2.2.2.1 g100.2.2 x101.2.2.2.2.2.2) K (oL (oL (oF Xa))) x107.1 g108 x107.2.2) } : Jn ((List (List Int))) (V × Option V × List XF))) (Z7 (Fd:=FNd ({ oo:=fun x107=>[x107.2.2, x101.2.2.2.2.2.1, x101.2.2.2.2.2.2], ss:=fun x107=>[some v_0, some v_1, some v_2, some v2, some v17, some x101.2.2.2.2.1, some x101.2.2.2.1, some x101.2.2.1, x101.1, x101.2.1, some x107.1, x107.2.1], sc:=fun g108 x107=>(SC.addO (SC.addO (SC.addO (SC.add (SC.add (SC.add (SC.add (SC.add (SC.add SC.nil K (rL Xa) v_0 a_0) K Xa v_1 a_1) K Xa v_2 a_2) K (rV Xa) v2 a1) K (rV Xa) v17 a16) K Xa x101.2.2.1 g100.1) K (oD Xa) x101.2.2.2.1 g100.2.1 x101.2.2.2.2.2.1) K (oL (oF Xa)) x101.2.2.2.2.1 g100.2.2 x101.2.2.2.2.2.2) K (oL (oL (oF Xa))) x107.1 g108 x107.2.2) } : Jn ((List (List Int))) (V × Option V × List XF))) (XG (K:=K) (JC (XB (Xb (r:=(rV Xa)) 4 rfl (fun _ s=>s.l.l.l.r)) (Xe 2)) (Xe 2))) (XQ (K:=K) (o:=(oL (oL (oF Xa)))) 10 0 (ZM (Ev.toB (YM (YJ (o:=(oL (oF Xa))) 5 2 rfl rfl (fun _ s=>s.r)) (Xb (r:=(rV Xa)) 4 rfl (fun _ s=>s.l.l.l.r)))) (YJ (o:=(oD Xa)) 6 1 rfl rfl (fun _ s=>s.l.r)) (Xb (r:=(rV Xa)) 4 rfl (fun _ s=>s.l.l.l.r)) (XN (Xe 2) (XB (Xb (r:=(rV Xa)) 4 rfl (fun _ s=>s.l.l.l.r)) (Xe 4)))) (Nat.le_of_ble_eq_true rfl) fun a109 v110 C111=>(XC (J:=_) (v110, (none), C111) (a109) rfl rfl (fun _ s=>(SC.i (SC.i (SC.i (SC.i (SC.i (SC.i (SC.i (SC.i (SC.i SC.t s.l.l.l.l.l.l.l.l.r) s.l.l.l.l.l.l.l.r) s.l.l.l.l.l.l.r) s.l.l.l.l.l.r) s.l.l.l.l.r) s.l.l.l.r) s.l.l.r) s.l.r) s.r)))) (Xv (K:=K) (r:=Xa) 11 (EvB.sh (Ku (XB (Xb (r:=(rV Xa)) 4 rfl (fun _ s=>s.l.l.l.r)) (Xe 1)) (BT (YE (YJ (o:=(oL (oF Xa))) 5 2 rfl rfl (fun _ s=>s.r))) (Xe 1)))) fun a124 v125=>(XQ (K:=K) (o:=(oL (oL (oF Xa)))) 10 0 (Zb (YJ (o:=(oL (oF Xa))) 5 2 rfl rfl (fun _ s=>s.l.r)) (Xb (r:=(rV Xa)) 4 rfl (fun _ s=>s.l.l.l.l.r)) (Xb (r:=Xa) 11 rfl (fun _ s=>s.r))) (Nat.le_of_ble_eq_true rfl) fun a133 v134 C135=>(XC (J:=_) (v134, (some v125), C135) (a133) rfl rfl (fun _ s=>(SC.i (SC.i (SC.i (SC.i (SC.i (SC.i (SC.i (SC.i (SC.i SC.t s.l.l.l.l.l.l.l.l.l.r) s.l.l.l.l.l.l.l.l.r) s.l.l.l.l.l.l.l.r) s.l.l.l.l.l.l.r) s.l.l.l.l.l.r) s.l.l.l.l.r) s.l.l.l.r) s.l.l.r) s.r)))))) fun g141 x140=>(XT (QI (YD (o:=(oL (oL (oF Xa)))) 10 0 rfl rfl (fun _ s=>s.r)) fun _=>(Uc (K:=K) (o1:=(oL (oF Xa))) 3 rfl (fun _ s=>s.l.r) (YZ (fun _=>tg1 0) (XD (Xk (r:=(rV Xa)) 5 rfl (fun _ s=>s.r))) (fun C142 a143 v144=>(EvS.ev (VU (Xk (r:=Xa) 0 rfl (fun _ s=>s.r)) (EvB.sh (Uh (YJ (o:=(oD Xa)) 1 3 rfl rfl (fun _ s=>s.l.l.l.l.r)) (Xb (r:=Xa) 0 rfl (fun _ s=>s.r))))))))))))))))))
theorem EC : FnScope ["_law_drawing"] ["_law_drawing"] (Xg QO):=⟨rfl, rfl, rfl, by decide +kernel, rfl, by decide +kernel, by decide +kernel⟩
theorem BE (D : Def K mg "_law_copy" QO ["_law_drawing"])  (Z : Blt mg) : Fn P w K mg base 1 "_law_copy" ["_law_drawing"] (sp1 (rP2 (rV (rV Xa)) (rV (rP2 Xa Xa))) (oT2 (oL (oL (oF Xa))) (oL (oF (rP2 Xa Xa)))) VC K):=by
  refine Y0 D EC (fun vs H Q E h=>?_) (fun f cdv A outer s H vs Q E hr h=>?_)
  . obtain ⟨v_0, a_0, b, rfl, _⟩:=h; rfl
  obtain ⟨v_0, a_0, b, rfl, h_0, hm, q⟩:=h
  have hu:=hu8 hr
  have hu1:=YQ hr
  refine ⟨_, (Xc (XS (ZY (Xd (YU (sc:=(Xg QO)) (N0:=["_law_drawing"]) (tns:=["_law_walk"]) (caps:=[]) rfl (XR (K:=K) rfl (XL (Y4 K rfl) (pv 0) Xf (fun _ _=>rfl))) (Za (by decide)) (fun cl C s H ex E=>⟨Xm (i:=0) (show List.Nodup (["_law_walk"] : List Str) by decide +kernel) rfl (Or.inl rfl), YY, (QG (ZS K rfl) rfl Z.b_list PyProof.Rows.boot_list (Xd (pv 0) Xh))⟩)) (Xd (QG (ZS K rfl) rfl Z.b_list PyProof.Rows.boot_list (Xd (XL (Y4 K rfl) (pv 0) Xf (fun _ _=>rfl)) Xh)) Xh))))
    Xi), ?_⟩
  refine YX (S:=(SC.add SC.nil K (rP2 (rV (rV Xa)) (rV (rP2 Xa Xa))) v_0 a_0)) (σ:=[some v_0]) 0 ?_ (SC.i SC.t h_0) hm q rfl
  unfold VC
  exact (XT (QI (YZ (fun _=>tg1 0) (XD (JW (Xk (r:=(rP2 (rV (rV Xa)) (rV (rP2 Xa Xa)))) 0 rfl (fun _ s=>s.r)))) (fun C2 a3 v4=>(KA (EvS.ls (Xk (r:=(rV Xa)) 0 rfl (fun _ s=>s.r)))))) fun _=>(KA (EvB.ls (J2 (Xb (r:=(rP2 (rV (rV Xa)) (rV (rP2 Xa Xa)))) 0 rfl (fun _ s=>s.r)))))))
theorem Jx : FnScope ["_law_drawing", "_law_count_here", "_law_walk"] ["_law_drawing"] (Xg ZP):=⟨rfl, rfl, rfl, by decide +kernel, rfl, by decide +kernel, by decide +kernel⟩
theorem Cj (D : Def K mg "_law_count" ZP ["_law_drawing"])  (Z : Blt mg) : Fn P w K mg base 1 "_law_count" ["_law_drawing"] (sp1 (rP2 (rV (rV Xa)) (rV (rP2 Xa Xa))) (oF Xa) Qo K):=by
  refine Y0 D Jx (fun vs H Q E h=>?_) (fun f cdv A outer s H vs Q E hr h=>?_)
  . obtain ⟨v_0, a_0, b, rfl, _⟩:=h; rfl
  obtain ⟨v_0, a_0, b, rfl, h_0, hm, q⟩:=h
  have hu:=hu8 hr
  have hu1:=YQ hr
  refine ⟨_, (Xc (Xn (i:=1) Jx.nd rfl (Or.inl rfl) (XH (Xr K rfl) rfl Z.b_len PySem.boot_len (Xd (XL (Y4 K rfl) (pv 0) Xf (fun _ _=>rfl)) Xh)))
    (Xc (YR PassesOwn.never rfl (XR (K:=K) rfl (XL (Y4 K rfl) (pv 0) Xf (fun _ _=>rfl))) (Xm (i:=2) Jx.nd rfl (Or.inl rfl))
      (Xc (ZD (XW Uk (XH (Xr K rfl) rfl Z.b_len PySem.boot_len (Xd (YU (sc:=(Xg ZP)) (N0:=["_law_drawing", "_law_count_here", "_law_walk"]) (tns:=["_law_one"]) (caps:=[]) rfl (XR (K:=K) rfl (pv 2)) (Za (by decide)) (fun cl C s H ex E=>⟨Xm (i:=0) (show List.Nodup (["_law_one"] : List Str) by decide +kernel) rfl (Or.inl rfl), (V2 (XW KB (pv 0) Xf (Yl _))), (pv 0)⟩)) Xh)) Xf (Yl _))
        (Xc (Xn (i:=1) Jx.nd rfl (Or.inl rfl) (Xo X9 (pv 1) Xf))
        Xi)
        Xi)
      Xi))
    (Xc (XS (pv 1))
    Xi))), ?_⟩
  refine YX (S:=(SC.add SC.nil K (rP2 (rV (rV Xa)) (rV (rP2 Xa Xa))) v_0 a_0)) (σ:=[some v_0, none, none]) 0 ?_ (SC.i SC.t h_0) hm q rfl
  unfold Qo
  exact (Xv (K:=K) (r:=Xa) 1 (EvB.sh (YE (J2 (Xb (r:=(rP2 (rV (rV Xa)) (rV (rP2 Xa Xa)))) 0 rfl (fun _ s=>s.r))))) fun a1 v2=>(Y7 (K:=K) (J:=({ oo:=fun x6=>[], ss:=fun x6=>[some v_0, some x6.2, x6.1], sc:=fun g7 x6=>(SC.add (SC.add SC.nil K (rP2 (rV (rV Xa)) (rV (rP2 Xa Xa))) v_0 a_0) K Xa x6.2 g7) } : Jn (Int) (Option V × V))) (fun _=>tg1 2) ((none), v2) (a1) (XD (JW (Xk (r:=(rP2 (rV (rV Xa)) (rV (rP2 Xa Xa)))) 0 rfl (fun _ s=>s.l.r)))) rfl rfl (fun _ s=>(SC.i (SC.i SC.t s.l.r) s.r)) (fun g8 x9 a10 v11=>(ZC (J:=({ oo:=fun x22=>[], ss:=fun x22=>[some v_0, some x22, some v11], sc:=fun g23 x22=>(SC.add (SC.add (SC.add SC.nil K (rP2 (rV (rV Xa)) (rV (rP2 Xa Xa))) v_0 a_0) K (rV Xa) v11 a10) K Xa x22 g23) } : Jn (Int) (V))) (Z7 (Fd:=FNd ({ oo:=fun x22=>[], ss:=fun x22=>[some v_0, some x22, some v11], sc:=fun g23 x22=>(SC.add (SC.add (SC.add SC.nil K (rP2 (rV (rV Xa)) (rV (rP2 Xa Xa))) v_0 a_0) K (rV Xa) v11 a10) K Xa x22 g23) } : Jn (Int) (V))) (XG (K:=K) (Ji (YE (Ev.toB (Jq (fun _=>tg1 0) (XD (Xk (r:=(rV Xa)) 2 rfl (fun _ s=>s.r))) (fun C12 a13 v14=>(XG (K:=K) (JC (Xb (r:=Xa) 0 rfl (fun _ s=>s.r)) (Xe 0)))) (fun C12 a13 v14=>(EvS.ev (Xk (r:=Xa) 0 rfl (fun _ s=>s.r))))))) (Xe 0))) (Xv (K:=K) (r:=Xa) 1 (EvB.sh (XN (Xb (r:=Xa) 1 rfl (fun _ s=>s.l.r)) (Xe 1))) fun a24 v25=>(XC (J:=_) (v25) (a24) rfl rfl (fun _ s=>(SC.i (SC.i (SC.i SC.t s.l.l.l.r) s.l.r) s.r)))) (XC (J:=_) (x9.2) (g8) rfl rfl (fun _ s=>(SC.i (SC.i (SC.i SC.t s.l.l.r) s.r) s.l.r)))) fun g29 x28=>(XC (J:=_) ((some v11), x28) (g29) rfl rfl (fun _ s=>(SC.i (SC.i SC.t s.l.l.r) s.r))))) fun g30 x31=>(XT (EvS.ev (Xk (r:=Xa) 1 rfl (fun _ s=>s.r))))))
theorem Js : FnScope ["_law_some", "_law_primes", "_law_prime_here", "_law_factor"] ["_law_some"] (Xg Z3):=⟨rfl, rfl, rfl, by decide +kernel, rfl, by decide +kernel, by decide +kernel⟩
theorem Cq (D : Def K mg "_law_prime" Z3 ["_law_some"])  (Z : Blt mg) : Fn P w K mg base 1 "_law_prime" ["_law_some"] (sp1 (rV Xa) (oF (rP2 Xa Xa)) Q1 K):=by
  refine Y0 D Js (fun vs H Q E h=>?_) (fun f cdv A outer s H vs Q E hr h=>?_)
  . obtain ⟨v_0, a_0, b, rfl, _⟩:=h; rfl
  obtain ⟨v_0, a_0, b, rfl, h_0, hm, q⟩:=h
  have hu:=hu8 hr
  have hu1:=YQ hr
  refine ⟨_, (Xc (Xn (i:=1) Js.nd rfl (Or.inl rfl) (Yh (Xd Xf (Xd Xf (Xd Xf (Xd Xf (Xd Xf (Xd Xf (Xd Xf (Xd Xf (Xd Xf (Xd Xf Xh))))))))))))
    (Xc (Xn (i:=2) Js.nd rfl (Or.inl rfl) (XL (Xl K rfl) (pv 1) (XL (Xl K rfl) (pv 0) Xf (fun _ _=>rfl)) (fun _ _=>rfl)))
    (Xc (Xn (i:=3) Js.nd rfl (Or.inl rfl) (Xo X9 Xf (Xo Yc (XL (Xl K rfl) (pv 0) Xf (fun _ _=>rfl)) (XH (J7 rfl) rfl Z.b_max PyProof.Rows.boot_max (Xd Xf (Xd (Xo Q8 (pv 2) Xf) Xh))))))
    (Xc (XS (ZY (Xd (pv 2) (Xd (Xo X9 (pv 3) (Xo Yf (pv 2) (XL (Xl K rfl) (Yh (Xd Xf (Xd Xf (Xd (GC VD Xf) (Xd Xf (Xd (Xo UF Xf Xf) Xh)))))) (XL (Xl K rfl) (pv 0) Xf (fun _ _=>rfl)) (fun _ _=>rfl)))) Xh))))
    Xi)))), ?_⟩
  refine YX (S:=(SC.add SC.nil K (rV Xa) v_0 a_0)) (σ:=[some v_0, none, none, none]) 0 ?_ (SC.i SC.t h_0) hm q rfl
  unfold Q1
  exact (Xv (K:=K) (r:=(rV Xa)) 1 (Ev.sh (Zz (Xp (EvB.sh (Xe 2)) (Xp (EvB.sh (Xe 3)) (Xp (EvB.sh (Xe 5)) (Xp (EvB.sh (Xe 7)) (Xp (EvB.sh (Xe 11)) (Xp (EvB.sh (Xe 13)) (Xp (EvB.sh (Xe 23)) (Xp (EvB.sh (Xe 97)) (Xp (EvB.sh (Xe 65537)) (Xp (EvB.sh (Xe 99991)) Zd)))))))))))) fun a1 v2=>(Xv (K:=K) (r:=Xa) 2 (EvB.sh (XB (Xb (r:=(rV Xa)) 1 rfl (fun _ s=>s.r)) (XB (Xb (r:=(rV Xa)) 0 rfl (fun _ s=>s.l.r)) (Xe 0)))) fun a24 v25=>(Xv (K:=K) (r:=Xa) 3 (EvB.sh (XN (Xe 1) (XM (XB (Xb (r:=(rV Xa)) 0 rfl (fun _ s=>s.l.l.r)) (Xe 1)) (Ku (Xe 1) (Z2 (Xb (r:=Xa) 2 rfl (fun _ s=>s.r)) (Xe 1)))))) fun a30 v31=>(XT (EvS.ev (VU (Xk (r:=Xa) 2 rfl (fun _ s=>s.l.r)) (EvB.sh (XN (Xb (r:=Xa) 3 rfl (fun _ s=>s.r)) (XO (Xb (r:=Xa) 2 rfl (fun _ s=>s.l.r)) (XB (Ev.toB (Zz (Xp (EvB.sh (Xe 0)) (Xp (EvB.sh (Xe 0)) (Xp (EvB.sh (QY (Xe 3))) (Xp (EvB.sh (Xe 1)) (Xp (EvB.sh (JU (Xe 10) (Xe 50))) Zd))))))) (XB (Xb (r:=(rV Xa)) 0 rfl (fun _ s=>s.l.l.l.r)) (Xe 2))))))))))))
theorem Jw : FnScope ["_law_basis", "_law_numbers", "_law_count_here", "_law_found", "_law_k", "_law_arc"] ["_law_basis", "_law_numbers", "_law_count_here"] (Xg Qf):=⟨rfl, rfl, rfl, by decide +kernel, rfl, by decide +kernel, by decide +kernel⟩
theorem CP (D : Def K mg "_law_total" Qf ["_law_basis", "_law_numbers", "_law_count_here"])  (Z : Blt mg) : Fn P w K mg base 1 "_law_total" ["_law_basis", "_law_numbers", "_law_count_here"] (sp3 (rV (rV Xa)) (rV Xa) Xa (oL (oF Xa)) Z6 K):=by
  refine Y0 D Jw (fun vs H Q E h=>?_) (fun f cdv A outer s H vs Q E hr h=>?_)
  . obtain ⟨v_0, v_1, v_2, a_0, a_1, a_2, b, rfl, _⟩:=h; rfl
  obtain ⟨v_0, v_1, v_2, a_0, a_1, a_2, b, rfl, h_0, h_1, h_2, hm, q⟩:=h
  have hu:=hu8 hr
  have hu1:=YQ hr
  refine ⟨_, (Xc (Xn (i:=3) Jw.nd rfl (Or.inl rfl) (Xo JH (Yh (Xd Xf Xh)) (pv 2)))
    (Xc (YR PassesOwn.never rfl (Yv rfl Z.b_range (Xd (XH (Xr K rfl) rfl Z.b_len PySem.boot_len (Xd (pv 0) Xh)) Xh)) (Xm (i:=4) Jw.nd rfl (Or.inl rfl))
      (Xc (YR PassesOwn.never rfl (Yv rfl Z.b_range (Xd (pv 2) Xh)) (Xm (i:=5) Jw.nd rfl (Or.inl rfl))
        (Xc (JV (Xo X9 (XL (Xl K rfl) (pv 3) (pv 5) (fun _ _=>rfl)) (Xo Yf (XL (Xl K rfl) (pv 1) (pv 4) (fun _ _=>rfl)) (XL (Xl K rfl) (XL (Xl K rfl) (pv 0) (pv 4) (fun _ _=>rfl)) (pv 5) (fun _ _=>rfl)))) (UG (pv 3) (pv 5) ZB))
        Xi))
      Xi))
    (Xc (XS (pv 3))
    Xi))), ?_⟩
  refine YX (S:=(SC.add (SC.add (SC.add SC.nil K (rV (rV Xa)) v_0 a_0) K (rV Xa) v_1 a_1) K Xa v_2 a_2)) (σ:=[some v_0, some v_1, some v_2, none, none, none]) 1 ?_ (SC.i (SC.i (SC.i SC.t h_0) h_1) h_2) hm q rfl
  unfold Z6
  exact (XQ (K:=K) (o:=(oL (oF Xa))) 3 0 (Vi (Ev.ls (Zz (Xp (EvB.sh (Xe 0)) Zd))) (Xb (r:=Xa) 2 rfl (fun _ s=>s.r))) (Nat.le_of_ble_eq_true rfl) fun a1 v2 C3=>(Y7 (K:=K) (J:=({ oo:=fun x11=>[x11.2.2.2], ss:=fun x11=>[some v_0, some v_1, some v_2, some x11.2.2.1, x11.1, x11.2.1], sc:=fun g12 x11=>(SC.addO (SC.add (SC.add (SC.add SC.nil K (rV (rV Xa)) v_0 a_0) K (rV Xa) v_1 a_1) K Xa v_2 a_2) K (oL (oF Xa)) x11.2.2.1 g12 x11.2.2.2) } : Jn ((List Int)) (Option V × Option V × V × List XF))) (fun _=>tg1 4) ((none), (none), v2, C3) (a1) (XY (YE (Xb (r:=(rV (rV Xa))) 0 rfl (fun _ s=>s.l.l.l.r)))) rfl rfl (fun _ s=>(SC.i (SC.i (SC.i (SC.i SC.t s.l.l.l.r) s.l.l.r) s.l.r) s.r)) (fun g13 x14 a15 v16=>(Y7 (K:=K) (J:=({ oo:=fun x18=>[x18.2.2], ss:=fun x18=>[some v_0, some v_1, some v_2, some x18.2.1, some v16, x18.1], sc:=fun g19 x18=>(SC.addO (SC.add (SC.add (SC.add (SC.add SC.nil K (rV (rV Xa)) v_0 a_0) K (rV Xa) v_1 a_1) K Xa v_2 a_2) K Xa v16 a15) K (oL (oF Xa)) x18.2.1 g19 x18.2.2) } : Jn ((List Int)) (Option V × V × List XF))) (fun _=>tg1 5) ((x14.2.1), x14.2.2.1, x14.2.2.2) (g13) (XY (Xb (r:=Xa) 2 rfl (fun _ s=>s.l.l.r))) rfl rfl (fun _ s=>(SC.i (SC.i (SC.i (SC.i (SC.i SC.t s.l.l.l.l.r) s.l.l.l.r) s.l.l.r) s.r) s.l.r)) (fun g20 x21 a22 v23=>(QN (K:=K) (o:=(oF Xa)) 3 0 rfl rfl (fun _ s=>s.l.r) (EvS.ev (EvB.sh (XN (XB (YJ (o:=(oL (oF Xa))) 3 0 rfl rfl (fun _ s=>s.l.r)) (Xb (r:=Xa) 5 rfl (fun _ s=>s.r))) (XO (XB (Xb (r:=(rV Xa)) 1 rfl (fun _ s=>s.l.l.l.l.r)) (Xb (r:=Xa) 4 rfl (fun _ s=>s.l.l.r))) (XB (XB (Xb (r:=(rV (rV Xa))) 0 rfl (fun _ s=>s.l.l.l.l.l.r)) (Xb (r:=Xa) 4 rfl (fun _ s=>s.l.l.r))) (Xb (r:=Xa) 5 rfl (fun _ s=>s.r))))))) (fun _=>(Xb (r:=Xa) 5 rfl (fun _ s=>s.r))) fun a38 C39=>(XC (J:=_) ((some v23), x21.2.1, C39) (a38) rfl rfl (fun _ s=>(SC.i (SC.i (SC.i (SC.i (SC.i SC.t s.l.l.l.l.l.l.r) s.l.l.l.l.l.r) s.l.l.l.l.r) s.l.l.l.r) s.r))))) fun g40 x41=>(XC (J:=_) ((some v16), (x41.1), x41.2.1, x41.2.2) (g40) rfl rfl (fun _ s=>(SC.i (SC.i (SC.i (SC.i SC.t s.l.l.l.l.r) s.l.l.l.r) s.l.l.r) s.r))))) fun g43 x44=>(XT (YD (o:=(oL (oF Xa))) 3 0 rfl rfl (fun _ s=>s.r)))))
theorem Zj : FnScope ["_law_script", "_law_drawing", "_law_more", "_law_prime_here", "_law_factor", "_law_handed", "_law_frees", "_law_basis", "_law_ties", "_law_count_here", "_law_numbers", "_law_k", "_law_some", "_law_rests", "_law_arc", "_law_even", "_law_one"] ["_law_script"] (Xg Vn):=⟨rfl, rfl, rfl, by decide +kernel, rfl, by decide +kernel, by decide +kernel⟩
theorem HB {f : Addr} {fd : FuncData} (F : Fun K "law" "law" Vn f fd) (g_drawn : Fn P w K mg base 3 "_law_drawn" ["_law_script", "_law_place", "_law_most"] (sp3 (rL Xa) Xa Xa (oT2 (oL (oL (oF Xa))) (oL (oF (rP2 Xa Xa)))) Qz K)) (g_row : Fn P w K mg base 2 "_law_row" ["_law_script", "_law_place", "_law_sizes"] (sp3 (rL Xa) Xa (rV Xa) (oL (oF Xa)) Ul K)) (g_prime : Fn P w K mg base 1 "_law_prime" ["_law_some"] (sp1 (rV Xa) (oF (rP2 Xa Xa)) Q1 K)) (g_copy : Fn P w K mg base 1 "_law_copy" ["_law_drawing"] (sp1 (rP2 (rV (rV Xa)) (rV (rP2 Xa Xa))) (oT2 (oL (oL (oF Xa))) (oL (oF (rP2 Xa Xa)))) VC K)) (g_solved : Fn P w K mg base 7 "solved" ["drawing", "prime", "factor"] (sp3 (rP2 (rV (rV Xa)) (rV (rP2 Xa Xa))) Xa Xa (oT3 (oL (oF Xa)) (oL (oL (oF Xa))) (oL (oT2 (oF Xa) (oL (oF Xa))))) Qj K)) (g_count : Fn P w K mg base 1 "_law_count" ["_law_drawing"] (sp1 (rP2 (rV (rV Xa)) (rV (rP2 Xa Xa))) (oF Xa) Qo K)) (g_total : Fn P w K mg base 1 "_law_total" ["_law_basis", "_law_numbers", "_law_count_here"] (sp3 (rV (rV Xa)) (rV Xa) Xa (oL (oF Xa)) Z6 K)) (g_keeps : Fn P w K mg base 7 "keeps" ["drawing", "prime", "factor", "colours"] (sp4 (rP2 (rV (rV Xa)) (rV (rP2 Xa Xa))) Xa Xa (rV Xa) (oF Ym) ZV K)) (Z : Blt mg) : FnOk P w K mg base CX0 8 f fd ["_law_script"] (sp1 (rL Xa) (oF Ym) Kh K):=by
  refine F.ok Zj (fun vs H Q E h=>?_) (fun cdv A outer s H vs Q E hr h=>?_)
  . obtain ⟨v_0, a_0, b, rfl, _⟩:=h; rfl
  obtain ⟨v_0, a_0, b, rfl, h_0, hm, q⟩:=h
  have hu:=hu8 hr
  have hu1:=YQ hr
  refine ⟨_, (Xc (Xn (i:=1) Zj.nd rfl (Or.inl rfl) (Yg g_drawn hr (by decide) (Xd (pv 0) (Xd Xf (Xd Xf Xh)))))
    (Xc (Xn (i:=2) Zj.nd rfl (Or.inl rfl) (Yg g_row hr (by decide) (Xd (pv 0) (Xd Xf (Xd (Xo Ge (Yh (Xd Xf (Xd Xf (Xd Xf (Xd Xf (Xd Xf Xh)))))) (Xo JH (Yh (Xd (Xo UF Xf Xf) (Xd Xf Xh))) Xf)) Xh)))))
    (Xc (JV (Yg g_prime hr (by decide) (Xd (pv 2) Xh)) (Q4 rfl (XA (Xm (i:=3) Zj.nd rfl (Or.inr rfl)) (XA (Xm (i:=4) Zj.nd rfl (Or.inl rfl)) Zm))))
    (Xc (Xn (i:=5) Zj.nd rfl (Or.inl rfl) (Yg g_copy hr (by decide) (Xd (pv 1) Xh)))
    (Xc (JV (Yg g_solved hr (by decide) (Xd (pv 5) (Xd (pv 3) (Xd (pv 4) Xh)))) (Q4 rfl (XA (Xm (i:=6) Zj.nd rfl (Or.inl rfl)) (XA (Xm (i:=7) Zj.nd rfl (Or.inl rfl)) (XA (Xm (i:=8) Zj.nd rfl (Or.inl rfl)) Zm)))))
    (Xc (Xn (i:=9) Zj.nd rfl (Or.inl rfl) (Yg g_count hr (by decide) (Xd (pv 1) Xh)))
    (Xc (Xn (i:=10) Zj.nd rfl (Or.inl rfl) (Yh Xh))
    (Xc (YR PassesOwn.never rfl (Yv rfl Z.b_range (Xd (XH (Xr K rfl) rfl Z.b_len PySem.boot_len (Xd (pv 6) Xh)) Xh)) (Xm (i:=11) Zj.nd rfl (Or.inl rfl))
      (Xc (YL (ZR PySem.F.plainAttrs_list PySem.F.slot_list_append PySem.F.type_list_append Yb (pv 10) (Xd (Xo Yf (XL (Xl K rfl) (pv 2) (Xo X9 Xf (Xo Yf Xf (pv 11))) (fun _ _=>rfl)) (Xo Q8 (Xo Yf Xf (XL (Xl K rfl) (pv 2) (Xo X9 Xf (Xo Yf Xf (pv 11))) (fun _ _=>rfl))) Xf)) Xh)))
      Xi))
    (Xc (Xn (i:=12) Zj.nd rfl (Or.inl rfl) (Yg g_total hr (by decide) (Xd (pv 7) (Xd (pv 10) (Xd (pv 9) Xh)))))
    (Xc (Qu 13 (Xg Vn) ["_law_script", "_law_drawing", "_law_more", "_law_prime_here", "_law_factor", "_law_handed", "_law_frees", "_law_basis", "_law_ties", "_law_count_here", "_law_numbers", "_law_k", "_law_some", "_law_rests", "_law_arc", "_law_even", "_law_one"] ["_law_one"] [(3, "_law_prime_here")] rfl Zj.nd rfl rfl (XR (K:=K) rfl (pv 12)) (Za (by decide)) (fun cl C s H ex E=>⟨Xm (i:=0) (show List.Nodup (["_law_one", "_law_prime_here"] : List Str) by decide +kernel) rfl (Or.inl rfl), YY, (Xo Yc (pv 0) (pv 1))⟩))
    (Xc (ZD (XW JQ (Yg g_keeps hr (by decide) (Xd (pv 5) (Xd (pv 3) (Xd (pv 4) (Xd (pv 12) Xh))))) Jp (Yl _))
      (Xc (XS Jp)
      Xi)
      Xi)
    (Xc (ZD (XW JQ (Yg g_keeps hr (by decide) (Xd (pv 5) (Xd (pv 3) (Xd (pv 4) (Xd (pv 13) Xh))))) Jp (Yl _))
      (Xc (XS Jp)
      Xi)
      Xi)
    (Xc (ZD (XW GX (XH (Xr K rfl) rfl Z.b_len PySem.boot_len (Xd (pv 8) Xh)) Xf (Yl _))
      (Xc (Xn (i:=14) Zj.nd rfl (Or.inl rfl) (XL (Y4 K rfl) (XL (Xl K rfl) (pv 8) (Xo Yc (XL (Xl K rfl) (pv 2) Xf (fun _ _=>rfl)) (XH (Xr K rfl) rfl Z.b_len PySem.boot_len (Xd (pv 8) Xh))) (fun _ _=>rfl)) Xf (fun _ _=>rfl)))
      (Xc (JV (Xo X9 (Xo X9 (XL (Xl K rfl) (pv 13) (pv 14) (fun _ _=>rfl)) Xf) (Xo Yc (XL (Xl K rfl) (pv 2) Xf (fun _ _=>rfl)) (Xo Q8 (pv 3) Xf))) (UG (pv 13) (pv 14) ZB))
      (Xc (ZD (XW JQ (Yg g_keeps hr (by decide) (Xd (pv 5) (Xd (pv 3) (Xd (pv 4) (Xd (pv 13) Xh))))) Jp (Yl _))
        (Xc (XS Jp)
        Xi)
        Xi)
      Xi)))
      Xi)
    (Xc (Xn (i:=15) Zj.nd rfl (Or.inl rfl) (Yg g_total hr (by decide) (Xd (pv 7) (Xd (Xo JH (Yh (Xd Xf Xh)) (XH (Xr K rfl) rfl Z.b_len PySem.boot_len (Xd (pv 7) Xh))) (Xd (pv 9) Xh)))))
    (Xc (YR PassesOwn.never rfl (XR (K:=K) rfl (pv 15)) (Xm (i:=16) Zj.nd rfl (Or.inl rfl))
      (Xc (ZD (XW Hy (Xo Yc (pv 16) (pv 3)) Xf (Yl _))
        (Xc (XS Jp)
        Xi)
        Xi)
      Xi))
    (Xc (XS (DO (Hd (Hf (Iz (Iz eq_int)) (Iz (Hf eq_int eq_int))) (Ig (by decide) hu)) (pv 5) (pv 1) (Yl _)))
    Xi)))))))))))))))), ?_⟩
  refine YX (S:=(SC.add SC.nil K (rL Xa) v_0 a_0)) (σ:=[some v_0, none, none, none, none, none, none, none, none, none, none, none, none, none, none, none, none]) 2 ?_ (SC.i SC.t h_0) hm q rfl
  unfold Kh
  exact (Xv (K:=K) (r:=(rP2 (rV (rV Xa)) (rV (rP2 Xa Xa)))) 1 (Ev.sh (Zb (Xb (r:=(rL Xa)) 0 rfl (fun _ s=>s.r)) (Xe 0) (Xe 12))) fun a1 v2=>(Xv (K:=K) (r:=(rV Xa)) 2 (Ev.sh (Zb (Xb (r:=(rL Xa)) 0 rfl (fun _ s=>s.l.r)) (Xe 1) (Ev.toB (DB (Ev.ls (Zz (Xp (EvB.sh (Xe 10)) (Xp (EvB.sh (Xe 99990)) (Xp (EvB.sh (Xe 5)) (Xp (EvB.sh (Xe 20)) (Xp (EvB.sh (Xe 99990)) Zd))))))) (Ev.ls (Vi (Ev.ls (Zz (Xp (EvB.sh (JU (Xe 10) (Xe 50))) (Xp (EvB.sh (Xe 2)) Zd)))) (Xe 17))))))) fun a7 v8=>(HF 3 4 (EvB.sh (Ev.toB (YN (Xb (r:=(rV Xa)) 2 rfl (fun _ s=>s.r))))) fun a37 v38 v39=>(Xv (K:=K) (r:=(rP2 (rV (rV Xa)) (rV (rP2 Xa Xa)))) 5 (Ev.sh (YN (Xb (r:=(rP2 (rV (rV Xa)) (rV (rP2 Xa Xa)))) 1 rfl (fun _ s=>s.l.l.l.r)))) fun a40 v41=>(BZ 6 7 8 (Ev.sh (Zb (Xb (r:=(rP2 (rV (rV Xa)) (rV (rP2 Xa Xa)))) 5 rfl (fun _ s=>s.r)) (Xb (r:=Xa) 3 rfl (fun _ s=>s.l.l.r)) (Xb (r:=Xa) 4 rfl (fun _ s=>s.l.r)))) fun a48 v49 v50 v51=>(Xv (K:=K) (r:=Xa) 9 (EvB.sh (Ev.toB (YN (Xb (r:=(rP2 (rV (rV Xa)) (rV (rP2 Xa Xa)))) 1 rfl (fun _ s=>s.l.l.l.l.l.l.l.r))))) fun a52 v53=>(XQ (K:=K) (o:=(oL (oF Xa))) 10 1 (QW (o:=(oF Xa))) (Nat.le_of_ble_eq_true rfl) fun a56 v57 C58=>(Y7 (K:=K) (J:=({ oo:=fun x61=>[[], x61.2.2], ss:=fun x61=>[some v_0, some v2, some v8, some v38, some v39, some v41, some v49, some v50, some v51, some v53, some x61.2.1, x61.1, none, none, none, none, none], sc:=fun g62 x61=>(SC.addO (SC.add (SC.add (SC.add (SC.add (SC.add (SC.add (SC.add (SC.add (SC.add (SC.add SC.nil K (rL Xa) v_0 a_0) K (rP2 (rV (rV Xa)) (rV (rP2 Xa Xa))) v2 a1) K (rV Xa) v8 a7) K Xa v38 a37.1) K Xa v39 a37.2) K (rP2 (rV (rV Xa)) (rV (rP2 Xa Xa))) v41 a40) K (rV Xa) v49 a48.1) K (rV (rV Xa)) v50 a48.2.1) K (rV (rP2 Xa (rV Xa))) v51 a48.2.2) K Xa v53 a52) K (oL (oF Xa)) x61.2.1 g62 x61.2.2) } : Jn ((List Int)) (Option V × V × List XF))) (fun _=>tg1 11) ((none), v57, C58) (a56) (XY (YE (Xb (r:=(rV Xa)) 6 rfl (fun _ s=>s.l.l.l.l.r)))) rfl rfl (fun _ s=>(SC.i (SC.i (SC.i (SC.i (SC.i (SC.i (SC.i (SC.i (SC.i (SC.i (SC.i SC.t s.l.l.l.l.l.l.l.l.l.l.r) s.l.l.l.l.l.l.l.l.l.r) s.l.l.l.l.l.l.l.l.r) s.l.l.l.l.l.l.l.r) s.l.l.l.l.l.l.r) s.l.l.l.l.l.r) s.l.l.l.l.r) s.l.l.l.r) s.l.l.r) s.l.r) s.r)) (fun g63 x64 a65 v66=>(ZH (K:=K) (o:=(oF Xa)) (f:=fun a87=>(Rs.ok (a87))) 10 1 rfl rfl rfl (fun _ s=>s.l.r) (EvS.ev (EvB.sh (XO (XB (Xb (r:=(rV Xa)) 2 rfl (fun _ s=>s.l.l.l.l.l.l.l.l.l.r)) (XN (Xe 5) (XO (Xe 2) (Xb (r:=Xa) 11 rfl (fun _ s=>s.r))))) (Z2 (XO (Xe 2) (XB (Xb (r:=(rV Xa)) 2 rfl (fun _ s=>s.l.l.l.l.l.l.l.l.l.r)) (XN (Xe 6) (XO (Xe 2) (Xb (r:=Xa) 11 rfl (fun _ s=>s.r)))))) (Xe 1))))) fun a85 C86=>(XC (J:=_) ((some v66), x64.2.1, C86) ((g63 ++ [a85])) rfl rfl (fun _ s=>(SC.i (SC.i (SC.i (SC.i (SC.i (SC.i (SC.i (SC.i (SC.i (SC.i (SC.i SC.t s.l.l.l.l.l.l.l.l.l.l.l.l.r) s.l.l.l.l.l.l.l.l.l.l.l.r) s.l.l.l.l.l.l.l.l.l.l.r) s.l.l.l.l.l.l.l.l.l.r) s.l.l.l.l.l.l.l.l.r) s.l.l.l.l.l.l.l.r) s.l.l.l.l.l.l.r) s.l.l.l.l.l.r) s.l.l.l.l.r) s.l.l.l.r) s.r))))) fun g88 x89=>(Xv (K:=K) (r:=(rV Xa)) 12 (Ev.sh (Zb (Xb (r:=(rV (rV Xa))) 7 rfl (fun _ s=>s.l.l.l.r)) (YJ (o:=(oL (oF Xa))) 10 1 rfl rfl (fun _ s=>s.r)) (Xb (r:=Xa) 9 rfl (fun _ s=>s.l.r)))) fun a90 v91=>(XQ (K:=K) (o:=(oL (oF Xa))) 13 0 (YZ (fun _=>tg1 0) (XD (Xk (r:=(rV Xa)) 12 rfl (fun _ s=>s.r))) (fun C99 a100 v101=>(EvS.ev (EvB.sh (XM (Xb (r:=Xa) 0 rfl (fun _ s=>s.r)) (Xb (r:=Xa) 1 rfl (fun _ s=>s.l.l.l.l.l.l.l.l.l.r))))))) (Nat.le_of_ble_eq_true rfl) fun a96 v97 C98=>(KL (XG (K:=K) (Ub (b:=true) (Ev.toB (ZM (Xb (r:=(rP2 (rV (rV Xa)) (rV (rP2 Xa Xa)))) 5 rfl (fun _ s=>s.l.l.l.l.l.l.l.r)) (Xb (r:=Xa) 3 rfl (fun _ s=>s.l.l.l.l.l.l.l.l.l.r)) (Xb (r:=Xa) 4 rfl (fun _ s=>s.l.l.l.l.l.l.l.l.r)) (Xb (r:=(rV Xa)) 12 rfl (fun _ s=>s.l.r)))))) (XT (EvS.ev (EvB.sh (QM false)))) (KL (XG (K:=K) (Ub (b:=true) (Ev.toB (ZM (Xb (r:=(rP2 (rV (rV Xa)) (rV (rP2 Xa Xa)))) 5 rfl (fun _ s=>s.l.l.l.l.l.l.l.r)) (Xb (r:=Xa) 3 rfl (fun _ s=>s.l.l.l.l.l.l.l.l.l.r)) (Xb (r:=Xa) 4 rfl (fun _ s=>s.l.l.l.l.l.l.l.l.r)) (YJ (o:=(oL (oF Xa))) 13 0 rfl rfl (fun _ s=>s.r)))))) (XT (EvS.ev (EvB.sh (QM false)))) (Eh (J:=({ oo:=fun x123=>[[], x89.2.2], ss:=fun x123=>[some v_0, some v2, some v8, some v38, some v39, some v41, some v49, some v50, some v51, some v53, some x89.2.1, x89.1, some v91, x123.2, x123.1, none, none], sc:=fun g124 x123=>(SC.add (SC.addO (SC.add (SC.add (SC.add (SC.add (SC.add (SC.add (SC.add (SC.add (SC.add (SC.add SC.nil K (rL Xa) v_0 a_0) K (rP2 (rV (rV Xa)) (rV (rP2 Xa Xa))) v2 a1) K (rV Xa) v8 a7) K Xa v38 a37.1) K Xa v39 a37.2) K (rP2 (rV (rV Xa)) (rV (rP2 Xa Xa))) v41 a40) K (rV Xa) v49 a48.1) K (rV (rV Xa)) v50 a48.2.1) K (rV (rP2 Xa (rV Xa))) v51 a48.2.2) K Xa v53 a52) K (oL (oF Xa)) x89.2.1 g88 x89.2.2) K (rV Xa) v91 a90) } : Jn (Unit) (Option V × Option V))) (Z7 (Fd:=FCd K (oF Ym) ({ oo:=fun x123=>[[], x89.2.2], ss:=fun x123=>[some v_0, some v2, some v8, some v38, some v39, some v41, some v49, some v50, some v51, some v53, some x89.2.1, x89.1, some v91, x123.2, x123.1, none, none], sc:=fun g124 x123=>(SC.add (SC.addO (SC.add (SC.add (SC.add (SC.add (SC.add (SC.add (SC.add (SC.add (SC.add (SC.add SC.nil K (rL Xa) v_0 a_0) K (rP2 (rV (rV Xa)) (rV (rP2 Xa Xa))) v2 a1) K (rV Xa) v8 a7) K Xa v38 a37.1) K Xa v39 a37.2) K (rP2 (rV (rV Xa)) (rV (rP2 Xa Xa))) v41 a40) K (rV Xa) v49 a48.1) K (rV (rV Xa)) v50 a48.2.1) K (rV (rP2 Xa (rV Xa))) v51 a48.2.2) K Xa v53 a52) K (oL (oF Xa)) x89.2.1 g88 x89.2.2) K (rV Xa) v91 a90) } : Jn (Unit) (Option V × Option V))) (XG (K:=K) (Ut (YE (Xb (r:=(rV (rP2 Xa (rV Xa)))) 8 rfl (fun _ s=>s.l.l.l.l.r))) (Xe 0))) (Xv (K:=K) (r:=Xa) 14 (EvB.sh (Kn (XB (Xb (r:=(rV (rP2 Xa (rV Xa)))) 8 rfl (fun _ s=>s.l.l.l.l.r)) (XM (XB (Xb (r:=(rV Xa)) 2 rfl (fun _ s=>s.l.l.l.l.l.l.l.l.l.l.r)) (Xe 3)) (YE (Xb (r:=(rV (rP2 Xa (rV Xa)))) 8 rfl (fun _ s=>s.l.l.l.l.r))))))) fun a125 v126=>(QN (K:=K) (o:=(oF Xa)) 13 0 rfl rfl (fun _ s=>s.l.r) (EvS.ev (EvB.sh (XN (XN (XB (YJ (o:=(oL (oF Xa))) 13 0 rfl rfl (fun _ s=>s.l.r)) (Xb (r:=Xa) 14 rfl (fun _ s=>s.r))) (Xe 1)) (XM (XB (Xb (r:=(rV Xa)) 2 rfl (fun _ s=>s.l.l.l.l.l.l.l.l.l.l.l.r)) (Xe 4)) (Z2 (Xb (r:=Xa) 3 rfl (fun _ s=>s.l.l.l.l.l.l.l.l.l.l.r)) (Xe 1)))))) (fun _=>(Xb (r:=Xa) 14 rfl (fun _ s=>s.r))) fun a149 C150=>(Ug (XG (K:=K) (Ub (b:=false) (Ev.toB (ZM (Xb (r:=(rP2 (rV (rV Xa)) (rV (rP2 Xa Xa)))) 5 rfl (fun _ s=>s.l.l.l.l.l.l.l.l.l.r)) (Xb (r:=Xa) 3 rfl (fun _ s=>s.l.l.l.l.l.l.l.l.l.l.l.r)) (Xb (r:=Xa) 4 rfl (fun _ s=>s.l.l.l.l.l.l.l.l.l.l.r)) (YJ (o:=(oL (oF Xa))) 13 0 rfl rfl (fun _ s=>s.r)))))) (XT (EvS.ev (EvB.sh (QM false)))) (Ux (KG 0 (XC (J:=_) ((some v126), (some v97)) () rfl rfl (fun _ s=>(SC.i (SC.i (SC.i (SC.i (SC.i (SC.i (SC.i (SC.i (SC.i (SC.i (SC.i (SC.i SC.t s.l.l.l.l.l.l.l.l.l.l.l.l.l.l.r) s.l.l.l.l.l.l.l.l.l.l.l.l.l.r) s.l.l.l.l.l.l.l.l.l.l.l.l.r) s.l.l.l.l.l.l.l.l.l.l.l.r) s.l.l.l.l.l.l.l.l.l.l.r) s.l.l.l.l.l.l.l.l.l.r) s.l.l.l.l.l.l.l.l.r) s.l.l.l.l.l.l.l.r) s.l.l.l.l.l.l.r) s.l.l.l.l.l.r) s.l.l.l.l.r) s.l.l.l.r)))))))) (Ux (KG 0 (XC (J:=_) ((none), (some v97)) () rfl rfl (fun _ s=>(SC.i (SC.i (SC.i (SC.i (SC.i (SC.i (SC.i (SC.i (SC.i (SC.i (SC.i (SC.i SC.t s.l.l.l.l.l.l.l.l.l.l.l.l.r) s.l.l.l.l.l.l.l.l.l.l.l.r) s.l.l.l.l.l.l.l.l.l.l.r) s.l.l.l.l.l.l.l.l.l.r) s.l.l.l.l.l.l.l.l.r) s.l.l.l.l.l.l.l.r) s.l.l.l.l.l.l.r) s.l.l.l.l.l.r) s.l.l.l.l.r) s.l.l.l.r) s.l.l.r) s.l.r)))))) fun g162 x161=>(Xv (K:=K) (r:=(rV Xa)) 15 (Ev.sh (Zb (Xb (r:=(rV (rV Xa))) 7 rfl (fun _ s=>s.l.l.l.l.r)) (Ev.toB (Vi (Ev.ls (Zz (Xp (EvB.sh (Xe 1)) Zd))) (YE (Xb (r:=(rV (rV Xa))) 7 rfl (fun _ s=>s.l.l.l.l.r))))) (Xb (r:=Xa) 9 rfl (fun _ s=>s.l.l.r)))) fun a163 v164=>(Fk (K:=K) (J:=({ oo:=fun x175=>[[], x89.2.2], ss:=fun x175=>[some v_0, some v2, some v8, some v38, some v39, some v41, some v49, some v50, some v51, some v53, some x89.2.1, x89.1, some v91, x161.2, x161.1, some v164, x175], sc:=fun g176 x175=>(SC.add (SC.add (SC.addO (SC.add (SC.add (SC.add (SC.add (SC.add (SC.add (SC.add (SC.add (SC.add (SC.add SC.nil K (rL Xa) v_0 a_0) K (rP2 (rV (rV Xa)) (rV (rP2 Xa Xa))) v2 a1) K (rV Xa) v8 a7) K Xa v38 a37.1) K Xa v39 a37.2) K (rP2 (rV (rV Xa)) (rV (rP2 Xa Xa))) v41 a40) K (rV Xa) v49 a48.1) K (rV (rV Xa)) v50 a48.2.1) K (rV (rP2 Xa (rV Xa))) v51 a48.2.2) K Xa v53 a52) K (oL (oF Xa)) x89.2.1 g88 x89.2.2) K (rV Xa) v91 a90) K (rV Xa) v164 a163) } : Jn (Unit) (Option V))) (fun _=>tg1 16) ((none)) () (XD (Xk (r:=(rV Xa)) 15 rfl (fun _ s=>s.r))) rfl rfl (fun _ s=>(SC.i (SC.i (SC.i (SC.i (SC.i (SC.i (SC.i (SC.i (SC.i (SC.i (SC.i (SC.i (SC.i SC.t s.l.l.l.l.l.l.l.l.l.l.l.l.r) s.l.l.l.l.l.l.l.l.l.l.l.r) s.l.l.l.l.l.l.l.l.l.l.r) s.l.l.l.l.l.l.l.l.l.r) s.l.l.l.l.l.l.l.l.r) s.l.l.l.l.l.l.l.r) s.l.l.l.l.l.l.r) s.l.l.l.l.l.r) s.l.l.l.l.r) s.l.l.l.r) s.l.l.r) s.l.r) s.r)) (fun g177 x178 a179 v180=>(Ug (XG (K:=K) (Bu (XM (Xb (r:=Xa) 16 rfl (fun _ s=>s.r)) (Xb (r:=Xa) 3 rfl (fun _ s=>s.l.l.l.l.l.l.l.l.l.l.r))) (Xe 1))) (XT (EvS.ev (EvB.sh (QM false)))) (Ux (XC (J:=_) ((some v180)) () rfl rfl (fun _ s=>(SC.i (SC.i (SC.i (SC.i (SC.i (SC.i (SC.i (SC.i (SC.i (SC.i (SC.i (SC.i (SC.i SC.t s.l.l.l.l.l.l.l.l.l.l.l.l.l.r) s.l.l.l.l.l.l.l.l.l.l.l.l.r) s.l.l.l.l.l.l.l.l.l.l.l.r) s.l.l.l.l.l.l.l.l.l.l.r) s.l.l.l.l.l.l.l.l.l.r) s.l.l.l.l.l.l.l.l.r) s.l.l.l.l.l.l.l.r) s.l.l.l.l.l.l.r) s.l.l.l.l.l.r) s.l.l.l.l.r) s.l.l.l.r) s.l.l.r) s.l.r)))))) fun g188 x189=>(XT (EvS.ev (EvB.sh (BA (Xb (r:=(rP2 (rV (rV Xa)) (rV (rP2 Xa Xa)))) 5 rfl (fun _ s=>s.l.l.l.l.l.l.l.r)) (Xb (r:=(rP2 (rV (rV Xa)) (rV (rP2 Xa Xa)))) 1 rfl (fun _ s=>s.l.l.l.l.l.l.l.l.l.l.l.r)))))))))))))))))))))
end
theorem HR {l : PySem.W.OpenLaw} {w : World} {K : PySem.W.Frag} {h : Heap} {mg : Str -> Option Value} {fa f1 f2 f3 f4 f5 f6 f7 f8 f9 f10 f11 f12 f13 f14 f15 f16 f17 f18 f19 f20 f21 f22 f23 f24 f25 f26 f27 f28 f29 f30 f31 f32 : Addr}  {tk0 : Tok} (X : K.In h) (G : h.Ns mainGlobals mg) (hfa : mg "law" = some (.ref fa))
    {od1 an1 od2 an2 od3 an3 od4 an4 od5 an5 od6 an6 od7 an7 od8 an8 od9 an9 od10 an10 od11 an11 od12 an12 od13 an13 od14 an14 od15 an15 od16 an16 od17 an17 od18 an18 od19 an19 od20 an20 od21 an21 od22 an22 od23 an23 od24 an24 od25 an25 od26 an26 od27 an27 od28 an28 od29 an29 od30 an30 od31 an31 od32 an32 : Option Addr} {sl1 sl2 sl3 sl4 sl5 sl6 sl7 sl8 sl9 sl10 sl11 sl12 sl13 sl14 sl15 sl16 sl17 sl18 sl19 sl20 sl21 sl22 sl23 sl24 sl25 sl26 sl27 sl28 sl29 sl30 sl31 sl32 : Array (Option Value)} {oc1 kV1 dc1 pm1 cd1 ct1 oc2 kV2 dc2 pm2 cd2 ct2 oc3 kV3 dc3 pm3 cd3 ct3 oc4 kV4 dc4 pm4 cd4 ct4 oc5 kV5 dc5 pm5 cd5 ct5 oc6 kV6 dc6 pm6 cd6 ct6 oc7 kV7 dc7 pm7 cd7 ct7 oc8 kV8 dc8 pm8 cd8 ct8 oc9 kV9 dc9 pm9 cd9 ct9 oc10 kV10 dc10 pm10 cd10 ct10 oc11 kV11 dc11 pm11 cd11 ct11 oc12 kV12 dc12 pm12 cd12 ct12 oc13 kV13 dc13 pm13 cd13 ct13 oc14 kV14 dc14 pm14 cd14 ct14 oc15 kV15 dc15 pm15 cd15 ct15 oc16 kV16 dc16 pm16 cd16 ct16 oc17 kV17 dc17 pm17 cd17 ct17 oc18 kV18 dc18 pm18 cd18 ct18 oc19 kV19 dc19 pm19 cd19 ct19 oc20 kV20 dc20 pm20 cd20 ct20 oc21 kV21 dc21 pm21 cd21 ct21 oc22 kV22 dc22 pm22 cd22 ct22 oc23 kV23 dc23 pm23 cd23 ct23 oc24 kV24 dc24 pm24 cd24 ct24 oc25 kV25 dc25 pm25 cd25 ct25 oc26 kV26 dc26 pm26 cd26 ct26 oc27 kV27 dc27 pm27 cd27 ct27 oc28 kV28 dc28 pm28 cd28 ct28 oc29 kV29 dc29 pm29 cd29 ct29 oc30 kV30 dc30 pm30 cd30 ct30 oc31 kV31 dc31 pm31 cd31 ct31 oc32 kV32 dc32 pm32 cd32 ct32 : Value}
    (a1 : PySem.W.nsIn K mainGlobals "spot" = some (some (.ref f1))) (l1 : K.lookup f1 = some ⟨oc1, od1, .func (PySem.W.fnOf "spot" "spot" (Xz Jj) (Xx Jj) (Xg Jj) .none kV1 dc1 pm1 an1 cd1 ct1), sl1⟩) (c1 : PySem.W.codeIn K cd1 "spot" = true) (k1 : PySem.W.keepIn K (.ref f1) = true)
    (a2 : PySem.W.nsIn K mainGlobals "arcs" = some (some (.ref f2))) (l2 : K.lookup f2 = some ⟨oc2, od2, .func (PySem.W.fnOf "arcs" "arcs" (Xz Q9) (Xx Q9) (Xg Q9) .none kV2 dc2 pm2 an2 cd2 ct2), sl2⟩) (c2 : PySem.W.codeIn K cd2 "arcs" = true) (k2 : PySem.W.keepIn K (.ref f2) = true)
    (a3 : PySem.W.nsIn K mainGlobals "arc_count" = some (some (.ref f3))) (l3 : K.lookup f3 = some ⟨oc3, od3, .func (PySem.W.fnOf "arc_count" "arc_count" (Xz Ys) (Xx Ys) (Xg Ys) .none kV3 dc3 pm3 an3 cd3 ct3), sl3⟩) (c3 : PySem.W.codeIn K cd3 "arc_count" = true) (k3 : PySem.W.keepIn K (.ref f3) = true)
    (a4 : PySem.W.nsIn K mainGlobals "arcs_of_walk" = some (some (.ref f4))) (l4 : K.lookup f4 = some ⟨oc4, od4, .func (PySem.W.fnOf "arcs_of_walk" "arcs_of_walk" (Xz XU) (Xx XU) (Xg XU) .none kV4 dc4 pm4 an4 cd4 ct4), sl4⟩) (c4 : PySem.W.codeIn K cd4 "arcs_of_walk" = true) (k4 : PySem.W.keepIn K (.ref f4) = true)
    (a5 : PySem.W.nsIn K mainGlobals "arcs_of_ways" = some (some (.ref f5))) (l5 : K.lookup f5 = some ⟨oc5, od5, .func (PySem.W.fnOf "arcs_of_ways" "arcs_of_ways" (Xz X7) (Xx X7) (Xg X7) .none kV5 dc5 pm5 an5 cd5 ct5), sl5⟩) (c5 : PySem.W.codeIn K cd5 "arcs_of_ways" = true) (k5 : PySem.W.keepIn K (.ref f5) = true)
    (a6 : PySem.W.nsIn K mainGlobals "meets" = some (some (.ref f6))) (l6 : K.lookup f6 = some ⟨oc6, od6, .func (PySem.W.fnOf "meets" "meets" (Xz Qd) (Xx Qd) (Xg Qd) .none kV6 dc6 pm6 an6 cd6 ct6), sl6⟩) (c6 : PySem.W.codeIn K cd6 "meets" = true) (k6 : PySem.W.keepIn K (.ref f6) = true)
    (a7 : PySem.W.nsIn K mainGlobals "ties" = some (some (.ref f7))) (l7 : K.lookup f7 = some ⟨oc7, od7, .func (PySem.W.fnOf "ties" "ties" (Xz Jk) (Xx Jk) (Xg Jk) .none kV7 dc7 pm7 an7 cd7 ct7), sl7⟩) (c7 : PySem.W.codeIn K cd7 "ties" = true) (k7 : PySem.W.keepIn K (.ref f7) = true)
    (a8 : PySem.W.nsIn K mainGlobals "refuse_wrong" = some (some (.ref f8))) (l8 : K.lookup f8 = some ⟨oc8, od8, .func (PySem.W.fnOf "refuse_wrong" "refuse_wrong" (Xz X5) (Xx X5) (Xg X5) .none kV8 dc8 pm8 an8 cd8 ct8), sl8⟩) (c8 : PySem.W.codeIn K cd8 "refuse_wrong" = true) (k8 : PySem.W.keepIn K (.ref f8) = true)
    (a9 : PySem.W.nsIn K mainGlobals "is_prime" = some (some (.ref f9))) (l9 : K.lookup f9 = some ⟨oc9, od9, .func (PySem.W.fnOf "is_prime" "is_prime" (Xz Y1) (Xx Y1) (Xg Y1) .none kV9 dc9 pm9 an9 cd9 ct9), sl9⟩) (c9 : PySem.W.codeIn K cd9 "is_prime" = true) (k9 : PySem.W.keepIn K (.ref f9) = true)
    (a10 : PySem.W.nsIn K mainGlobals "equations" = some (some (.ref f10))) (l10 : K.lookup f10 = some ⟨oc10, od10, .func (PySem.W.fnOf "equations" "equations" (Xz Yt) (Xx Yt) (Xg Yt) .none kV10 dc10 pm10 an10 cd10 ct10), sl10⟩) (c10 : PySem.W.codeIn K cd10 "equations" = true) (k10 : PySem.W.keepIn K (.ref f10) = true)
    (a11 : PySem.W.nsIn K mainGlobals "keeps" = some (some (.ref f11))) (l11 : K.lookup f11 = some ⟨oc11, od11, .func (PySem.W.fnOf "keeps" "keeps" (Xz ZW) (Xx ZW) (Xg ZW) .none kV11 dc11 pm11 an11 cd11 ct11), sl11⟩) (c11 : PySem.W.codeIn K cd11 "keeps" = true) (k11 : PySem.W.keepIn K (.ref f11) = true)
    (a12 : PySem.W.nsIn K mainGlobals "summed" = some (some (.ref f12))) (l12 : K.lookup f12 = some ⟨oc12, od12, .func (PySem.W.fnOf "summed" "summed" (Xz Zq) (Xx Zq) (Xg Zq) .none kV12 dc12 pm12 an12 cd12 ct12), sl12⟩) (c12 : PySem.W.codeIn K cd12 "summed" = true) (k12 : PySem.W.keepIn K (.ref f12) = true)
    (a13 : PySem.W.nsIn K mainGlobals "solved" = some (some (.ref f13))) (l13 : K.lookup f13 = some ⟨oc13, od13, .func (PySem.W.fnOf "solved" "solved" (Xz Y8) (Xx Y8) (Xg Y8) .none kV13 dc13 pm13 an13 cd13 ct13), sl13⟩) (c13 : PySem.W.codeIn K cd13 "solved" = true) (k13 : PySem.W.keepIn K (.ref f13) = true)
    (a14 : PySem.W.nsIn K mainGlobals "with_factors" = some (some (.ref f14))) (l14 : K.lookup f14 = some ⟨oc14, od14, .func (PySem.W.fnOf "with_factors" "with_factors" (Xz XV) (Xx XV) (Xg XV) .none kV14 dc14 pm14 an14 cd14 ct14), sl14⟩) (c14 : PySem.W.codeIn K cd14 "with_factors" = true) (k14 : PySem.W.keepIn K (.ref f14) = true)
    (a15 : PySem.W.nsIn K mainGlobals "unit" = some (some (.ref f15))) (l15 : K.lookup f15 = some ⟨oc15, od15, .func (PySem.W.fnOf "unit" "unit" (Xz Jc) (Xx Jc) (Xg Jc) .none kV15 dc15 pm15 an15 cd15 ct15), sl15⟩) (c15 : PySem.W.codeIn K cd15 "unit" = true) (k15 : PySem.W.keepIn K (.ref f15) = true)
    (a16 : PySem.W.nsIn K mainGlobals "led_rows" = some (some (.ref f16))) (l16 : K.lookup f16 = some ⟨oc16, od16, .func (PySem.W.fnOf "led_rows" "led_rows" (Xz Yk) (Xx Yk) (Xg Yk) .none kV16 dc16 pm16 an16 cd16 ct16), sl16⟩) (c16 : PySem.W.codeIn K cd16 "led_rows" = true) (k16 : PySem.W.keepIn K (.ref f16) = true)
    (a17 : PySem.W.nsIn K mainGlobals "times" = some (some (.ref f17))) (l17 : K.lookup f17 = some ⟨oc17, od17, .func (PySem.W.fnOf "times" "times" (Xz ZU) (Xx ZU) (Xg ZU) .none kV17 dc17 pm17 an17 cd17 ct17), sl17⟩) (c17 : PySem.W.codeIn K cd17 "times" = true) (k17 : PySem.W.keepIn K (.ref f17) = true)
    (a18 : PySem.W.nsIn K mainGlobals "cleared" = some (some (.ref f18))) (l18 : K.lookup f18 = some ⟨oc18, od18, .func (PySem.W.fnOf "cleared" "cleared" (Xz Y3) (Xx Y3) (Xg Y3) .none kV18 dc18 pm18 an18 cd18 ct18), sl18⟩) (c18 : PySem.W.codeIn K cd18 "cleared" = true) (k18 : PySem.W.keepIn K (.ref f18) = true)
    (a19 : PySem.W.nsIn K mainGlobals "inverse_rest" = some (some (.ref f19))) (l19 : K.lookup f19 = some ⟨oc19, od19, .func (PySem.W.fnOf "inverse_rest" "inverse_rest" (Xz X4) (Xx X4) (Xg X4) .none kV19 dc19 pm19 an19 cd19 ct19), sl19⟩) (c19 : PySem.W.codeIn K cd19 "inverse_rest" = true) (k19 : PySem.W.keepIn K (.ref f19) = true)
    (a20 : PySem.W.nsIn K mainGlobals "colouring_of" = some (some (.ref f20))) (l20 : K.lookup f20 = some ⟨oc20, od20, .func (PySem.W.fnOf "colouring_of" "colouring_of" (Xz X8) (Xx X8) (Xg X8) .none kV20 dc20 pm20 an20 cd20 ct20), sl20⟩) (c20 : PySem.W.codeIn K cd20 "colouring_of" = true) (k20 : PySem.W.keepIn K (.ref f20) = true)
    (a21 : PySem.W.nsIn K mainGlobals "_law_cell" = some (some (.ref f21))) (l21 : K.lookup f21 = some ⟨oc21, od21, .func (PySem.W.fnOf "_law_cell" "_law_cell" (Xz Jh) (Xx Jh) (Xg Jh) .none kV21 dc21 pm21 an21 cd21 ct21), sl21⟩) (c21 : PySem.W.codeIn K cd21 "_law_cell" = true) (k21 : PySem.W.keepIn K (.ref f21) = true)
    (a22 : PySem.W.nsIn K mainGlobals "_law_mix" = some (some (.ref f22))) (l22 : K.lookup f22 = some ⟨oc22, od22, .func (PySem.W.fnOf "_law_mix" "_law_mix" (Xz UB) (Xx UB) (Xg UB) .none kV22 dc22 pm22 an22 cd22 ct22), sl22⟩) (c22 : PySem.W.codeIn K cd22 "_law_mix" = true) (k22 : PySem.W.keepIn K (.ref f22) = true)
    (a23 : PySem.W.nsIn K mainGlobals "_law_row" = some (some (.ref f23))) (l23 : K.lookup f23 = some ⟨oc23, od23, .func (PySem.W.fnOf "_law_row" "_law_row" (Xz UV) (Xx UV) (Xg UV) .none kV23 dc23 pm23 an23 cd23 ct23), sl23⟩) (c23 : PySem.W.codeIn K cd23 "_law_row" = true) (k23 : PySem.W.keepIn K (.ref f23) = true)
    (a24 : PySem.W.nsIn K mainGlobals "_law_mixed" = some (some (.ref f24))) (l24 : K.lookup f24 = some ⟨oc24, od24, .func (PySem.W.fnOf "_law_mixed" "_law_mixed" (Xz Z8) (Xx Z8) (Xg Z8) .none kV24 dc24 pm24 an24 cd24 ct24), sl24⟩) (c24 : PySem.W.codeIn K cd24 "_law_mixed" = true) (k24 : PySem.W.keepIn K (.ref f24) = true)
    (a25 : PySem.W.nsIn K mainGlobals "_law_any" = some (some (.ref f25))) (l25 : K.lookup f25 = some ⟨oc25, od25, .func (PySem.W.fnOf "_law_any" "_law_any" (Xz V6) (Xx V6) (Xg V6) .none kV25 dc25 pm25 an25 cd25 ct25), sl25⟩) (c25 : PySem.W.codeIn K cd25 "_law_any" = true) (k25 : PySem.W.keepIn K (.ref f25) = true)
    (a26 : PySem.W.nsIn K mainGlobals "_law_plaited" = some (some (.ref f26))) (l26 : K.lookup f26 = some ⟨oc26, od26, .func (PySem.W.fnOf "_law_plaited" "_law_plaited" (Xz Zk) (Xx Zk) (Xg Zk) .none kV26 dc26 pm26 an26 cd26 ct26), sl26⟩) (c26 : PySem.W.codeIn K cd26 "_law_plaited" = true) (k26 : PySem.W.keepIn K (.ref f26) = true)
    (a27 : PySem.W.nsIn K mainGlobals "_law_drawn" = some (some (.ref f27))) (l27 : K.lookup f27 = some ⟨oc27, od27, .func (PySem.W.fnOf "_law_drawn" "_law_drawn" (Xz ZT) (Xx ZT) (Xg ZT) .none kV27 dc27 pm27 an27 cd27 ct27), sl27⟩) (c27 : PySem.W.codeIn K cd27 "_law_drawn" = true) (k27 : PySem.W.keepIn K (.ref f27) = true)
    (a28 : PySem.W.nsIn K mainGlobals "_law_copy" = some (some (.ref f28))) (l28 : K.lookup f28 = some ⟨oc28, od28, .func (PySem.W.fnOf "_law_copy" "_law_copy" (Xz QO) (Xx QO) (Xg QO) .none kV28 dc28 pm28 an28 cd28 ct28), sl28⟩) (c28 : PySem.W.codeIn K cd28 "_law_copy" = true) (k28 : PySem.W.keepIn K (.ref f28) = true)
    (a29 : PySem.W.nsIn K mainGlobals "_law_count" = some (some (.ref f29))) (l29 : K.lookup f29 = some ⟨oc29, od29, .func (PySem.W.fnOf "_law_count" "_law_count" (Xz ZP) (Xx ZP) (Xg ZP) .none kV29 dc29 pm29 an29 cd29 ct29), sl29⟩) (c29 : PySem.W.codeIn K cd29 "_law_count" = true) (k29 : PySem.W.keepIn K (.ref f29) = true)
    (a30 : PySem.W.nsIn K mainGlobals "_law_prime" = some (some (.ref f30))) (l30 : K.lookup f30 = some ⟨oc30, od30, .func (PySem.W.fnOf "_law_prime" "_law_prime" (Xz Z3) (Xx Z3) (Xg Z3) .none kV30 dc30 pm30 an30 cd30 ct30), sl30⟩) (c30 : PySem.W.codeIn K cd30 "_law_prime" = true) (k30 : PySem.W.keepIn K (.ref f30) = true)
    (a31 : PySem.W.nsIn K mainGlobals "_law_total" = some (some (.ref f31))) (l31 : K.lookup f31 = some ⟨oc31, od31, .func (PySem.W.fnOf "_law_total" "_law_total" (Xz Qf) (Xx Qf) (Xg Qf) .none kV31 dc31 pm31 an31 cd31 ct31), sl31⟩) (c31 : PySem.W.codeIn K cd31 "_law_total" = true) (k31 : PySem.W.keepIn K (.ref f31) = true)
    (a32 : PySem.W.nsIn K mainGlobals "law" = some (some (.ref f32))) (l32 : K.lookup f32 = some ⟨oc32, od32, .func (PySem.W.fnOf "law" "law" (Xz Vn) (Xx Vn) (Xg Vn) .none kV32 dc32 pm32 an32 cd32 ct32), sl32⟩) (c32 : PySem.W.codeIn K cd32 "law" = true) (k32 : PySem.W.keepIn K (.ref f32) = true)
    (z1 : PySem.W.nsIn K mainGlobals "all" = some none)
    (z2 : PySem.W.nsIn K mainGlobals "dict" = some none)
    (z3 : PySem.W.nsIn K mainGlobals "enumerate" = some none)
    (z4 : PySem.W.nsIn K mainGlobals "len" = some none)
    (z5 : PySem.W.nsIn K mainGlobals "list" = some none)
    (z6 : PySem.W.nsIn K mainGlobals "max" = some none)
    (z7 : PySem.W.nsIn K mainGlobals "min" = some none)
    (z8 : PySem.W.nsIn K mainGlobals "range" = some none)
    (z9 : PySem.W.nsIn K mainGlobals "sum" = some none)
    (z10 : PySem.W.nsIn K mainGlobals "zip" = some none)
    (w0 : PySem.W.nsIn K mainGlobals "MOST_PRIME" = some (some (.int 100000 tk0)))
    : ∃ fd : FuncData, (∀ (s : Shared) (v : Value), BindsTo s fd ⟨[v], []⟩ [("_law_script", v)]) /\ ∀ base : Heap, K.In base -> base.Ns mainGlobals mg -> FnOk l.prog w K mg base CX0 8 fa fd ["_law_script"] (sp1 (rL Xa) (oF Ym) Kh K):=by
  have e:=hfa.symm.trans (PySem.W.mg_of X G a32)
  cases e
  have Z : Blt mg:=⟨PySem.W.mg_none_of X G z1, PySem.W.mg_none_of X G z2, PySem.W.mg_none_of X G z3, PySem.W.mg_none_of X G z4, PySem.W.mg_none_of X G z5, PySem.W.mg_none_of X G z6, PySem.W.mg_none_of X G z7, PySem.W.mg_none_of X G z8, PySem.W.mg_none_of X G z9, PySem.W.mg_none_of X G z10, ⟨_, PySem.W.mg_of X G w0, _, rfl⟩⟩
  have D1 : Def K mg "spot" Jj ["drawing", "passage"]:=⟨f1, _, Xs (st:=Jj) l1 c1 k1, (Xs (st:=Jj) l1 c1 k1).binds (ps:=["drawing", "passage"]) fun _ _ _ _ _ _ us hl=>(by obtain ⟨_, _, rfl⟩:=Vm hl; rfl), PySem.W.mg_of X G a1⟩
  have D2 : Def K mg "arcs" Q9 ["drawing"]:=⟨f2, _, Xs (st:=Q9) l2 c2 k2, (Xs (st:=Q9) l2 c2 k2).binds (ps:=["drawing"]) fun _ _ _ _ _ _ us hl=>(by obtain ⟨_, rfl⟩:=JY hl; rfl), PySem.W.mg_of X G a2⟩
  have D3 : Def K mg "arc_count" Ys ["drawing"]:=⟨f3, _, Xs (st:=Ys) l3 c3 k3, (Xs (st:=Ys) l3 c3 k3).binds (ps:=["drawing"]) fun _ _ _ _ _ _ us hl=>(by obtain ⟨_, rfl⟩:=JY hl; rfl), PySem.W.mg_of X G a3⟩
  have D4 : Def K mg "arcs_of_walk" XU ["walk"]:=⟨f4, _, Xs (st:=XU) l4 c4 k4, (Xs (st:=XU) l4 c4 k4).binds (ps:=["walk"]) fun _ _ _ _ _ _ us hl=>(by obtain ⟨_, rfl⟩:=JY hl; rfl), PySem.W.mg_of X G a4⟩
  have D5 : Def K mg "arcs_of_ways" X7 ["walk", "first"]:=⟨f5, _, Xs (st:=X7) l5 c5 k5, (Xs (st:=X7) l5 c5 k5).binds (ps:=["walk", "first"]) fun _ _ _ _ _ _ us hl=>(by obtain ⟨_, _, rfl⟩:=Vm hl; rfl), PySem.W.mg_of X G a5⟩
  have D6 : Def K mg "meets" Qd ["drawing"]:=⟨f6, _, Xs (st:=Qd) l6 c6 k6, (Xs (st:=Qd) l6 c6 k6).binds (ps:=["drawing"]) fun _ _ _ _ _ _ us hl=>(by obtain ⟨_, rfl⟩:=JY hl; rfl), PySem.W.mg_of X G a6⟩
  have D7 : Def K mg "ties" Jk ["drawing"]:=⟨f7, _, Xs (st:=Jk) l7 c7 k7, (Xs (st:=Jk) l7 c7 k7).binds (ps:=["drawing"]) fun _ _ _ _ _ _ us hl=>(by obtain ⟨_, rfl⟩:=JY hl; rfl), PySem.W.mg_of X G a7⟩
  have D8 : Def K mg "refuse_wrong" X5 ["prime", "factor"]:=⟨f8, _, Xs (st:=X5) l8 c8 k8, (Xs (st:=X5) l8 c8 k8).binds (ps:=["prime", "factor"]) fun _ _ _ _ _ _ us hl=>(by obtain ⟨_, _, rfl⟩:=Vm hl; rfl), PySem.W.mg_of X G a8⟩
  have D9 : Def K mg "is_prime" Y1 ["number"]:=⟨f9, _, Xs (st:=Y1) l9 c9 k9, (Xs (st:=Y1) l9 c9 k9).binds (ps:=["number"]) fun _ _ _ _ _ _ us hl=>(by obtain ⟨_, rfl⟩:=JY hl; rfl), PySem.W.mg_of X G a9⟩
  have D10 : Def K mg "equations" Yt ["drawing", "prime", "factor"]:=⟨f10, _, Xs (st:=Yt) l10 c10 k10, (Xs (st:=Yt) l10 c10 k10).binds (ps:=["drawing", "prime", "factor"]) fun _ _ _ _ _ _ us hl=>(by obtain ⟨_, _, _, rfl⟩:=VS hl; rfl), PySem.W.mg_of X G a10⟩
  have D11 : Def K mg "keeps" ZW ["drawing", "prime", "factor", "colours"]:=⟨f11, _, Xs (st:=ZW) l11 c11 k11, (Xs (st:=ZW) l11 c11 k11).binds (ps:=["drawing", "prime", "factor", "colours"]) fun _ _ _ _ _ _ us hl=>(by obtain ⟨_, _, _, _, rfl⟩:=Cw hl; rfl), PySem.W.mg_of X G a11⟩
  have D12 : Def K mg "summed" Zq ["numbers", "colours"]:=⟨f12, _, Xs (st:=Zq) l12 c12 k12, (Xs (st:=Zq) l12 c12 k12).binds (ps:=["numbers", "colours"]) fun _ _ _ _ _ _ us hl=>(by obtain ⟨_, _, rfl⟩:=Vm hl; rfl), PySem.W.mg_of X G a12⟩
  have D13 : Def K mg "solved" Y8 ["drawing", "prime", "factor"]:=⟨f13, _, Xs (st:=Y8) l13 c13 k13, (Xs (st:=Y8) l13 c13 k13).binds (ps:=["drawing", "prime", "factor"]) fun _ _ _ _ _ _ us hl=>(by obtain ⟨_, _, _, rfl⟩:=VS hl; rfl), PySem.W.mg_of X G a13⟩
  have D14 : Def K mg "with_factors" XV ["rows"]:=⟨f14, _, Xs (st:=XV) l14 c14 k14, (Xs (st:=XV) l14 c14 k14).binds (ps:=["rows"]) fun _ _ _ _ _ _ us hl=>(by obtain ⟨_, rfl⟩:=JY hl; rfl), PySem.W.mg_of X G a14⟩
  have D15 : Def K mg "unit" Jc ["count", "at"]:=⟨f15, _, Xs (st:=Jc) l15 c15 k15, (Xs (st:=Jc) l15 c15 k15).binds (ps:=["count", "at"]) fun _ _ _ _ _ _ us hl=>(by obtain ⟨_, _, rfl⟩:=Vm hl; rfl), PySem.W.mg_of X G a15⟩
  have D16 : Def K mg "led_rows" Yk ["rows", "count", "prime"]:=⟨f16, _, Xs (st:=Yk) l16 c16 k16, (Xs (st:=Yk) l16 c16 k16).binds (ps:=["rows", "count", "prime"]) fun _ _ _ _ _ _ us hl=>(by obtain ⟨_, _, _, rfl⟩:=VS hl; rfl), PySem.W.mg_of X G a16⟩
  have D17 : Def K mg "times" ZU ["row", "number", "prime"]:=⟨f17, _, Xs (st:=ZU) l17 c17 k17, (Xs (st:=ZU) l17 c17 k17).binds (ps:=["row", "number", "prime"]) fun _ _ _ _ _ _ us hl=>(by obtain ⟨_, _, _, rfl⟩:=VS hl; rfl), PySem.W.mg_of X G a17⟩
  have D18 : Def K mg "cleared" Y3 ["row", "lead", "arc", "prime"]:=⟨f18, _, Xs (st:=Y3) l18 c18 k18, (Xs (st:=Y3) l18 c18 k18).binds (ps:=["row", "lead", "arc", "prime"]) fun _ _ _ _ _ _ us hl=>(by obtain ⟨_, _, _, _, rfl⟩:=Cw hl; rfl), PySem.W.mg_of X G a18⟩
  have D19 : Def K mg "inverse_rest" X4 ["number", "prime"]:=⟨f19, _, Xs (st:=X4) l19 c19 k19, (Xs (st:=X4) l19 c19 k19).binds (ps:=["number", "prime"]) fun _ _ _ _ _ _ us hl=>(by obtain ⟨_, _, rfl⟩:=Vm hl; rfl), PySem.W.mg_of X G a19⟩
  have D20 : Def K mg "colouring_of" X8 ["free", "tied", "count", "prime"]:=⟨f20, _, Xs (st:=X8) l20 c20 k20, (Xs (st:=X8) l20 c20 k20).binds (ps:=["free", "tied", "count", "prime"]) fun _ _ _ _ _ _ us hl=>(by obtain ⟨_, _, _, _, rfl⟩:=Cw hl; rfl), PySem.W.mg_of X G a20⟩
  have D21 : Def K mg "_law_cell" Jh ["_law_script", "_law_place"]:=⟨f21, _, Xs (st:=Jh) l21 c21 k21, (Xs (st:=Jh) l21 c21 k21).binds (ps:=["_law_script", "_law_place"]) fun _ _ _ _ _ _ us hl=>(by obtain ⟨_, _, rfl⟩:=Vm hl; rfl), PySem.W.mg_of X G a21⟩
  have D22 : Def K mg "_law_mix" UB ["_law_cell_here", "_law_k"]:=⟨f22, _, Xs (st:=UB) l22 c22 k22, (Xs (st:=UB) l22 c22 k22).binds (ps:=["_law_cell_here", "_law_k"]) fun _ _ _ _ _ _ us hl=>(by obtain ⟨_, _, rfl⟩:=Vm hl; rfl), PySem.W.mg_of X G a22⟩
  have D23 : Def K mg "_law_row" UV ["_law_script", "_law_place", "_law_sizes"]:=⟨f23, _, Xs (st:=UV) l23 c23 k23, (Xs (st:=UV) l23 c23 k23).binds (ps:=["_law_script", "_law_place", "_law_sizes"]) fun _ _ _ _ _ _ us hl=>(by obtain ⟨_, _, _, rfl⟩:=VS hl; rfl), PySem.W.mg_of X G a23⟩
  have D24 : Def K mg "_law_mixed" Z8 ["_law_names", "_law_some"]:=⟨f24, _, Xs (st:=Z8) l24 c24 k24, (Xs (st:=Z8) l24 c24 k24).binds (ps:=["_law_names", "_law_some"]) fun _ _ _ _ _ _ us hl=>(by obtain ⟨_, _, rfl⟩:=Vm hl; rfl), PySem.W.mg_of X G a24⟩
  have D25 : Def K mg "_law_any" V6 ["_law_names", "_law_some", "_law_rings"]:=⟨f25, _, Xs (st:=V6) l25 c25 k25, (Xs (st:=V6) l25 c25 k25).binds (ps:=["_law_names", "_law_some", "_law_rings"]) fun _ _ _ _ _ _ us hl=>(by obtain ⟨_, _, _, rfl⟩:=VS hl; rfl), PySem.W.mg_of X G a25⟩
  have D26 : Def K mg "_law_plaited" Zk ["_law_names", "_law_signs", "_law_some", "_law_strands"]:=⟨f26, _, Xs (st:=Zk) l26 c26 k26, (Xs (st:=Zk) l26 c26 k26).binds (ps:=["_law_names", "_law_signs", "_law_some", "_law_strands"]) fun _ _ _ _ _ _ us hl=>(by obtain ⟨_, _, _, _, rfl⟩:=Cw hl; rfl), PySem.W.mg_of X G a26⟩
  have D27 : Def K mg "_law_drawn" ZT ["_law_script", "_law_place", "_law_most"]:=⟨f27, _, Xs (st:=ZT) l27 c27 k27, (Xs (st:=ZT) l27 c27 k27).binds (ps:=["_law_script", "_law_place", "_law_most"]) fun _ _ _ _ _ _ us hl=>(by obtain ⟨_, _, _, rfl⟩:=VS hl; rfl), PySem.W.mg_of X G a27⟩
  have D28 : Def K mg "_law_copy" QO ["_law_drawing"]:=⟨f28, _, Xs (st:=QO) l28 c28 k28, (Xs (st:=QO) l28 c28 k28).binds (ps:=["_law_drawing"]) fun _ _ _ _ _ _ us hl=>(by obtain ⟨_, rfl⟩:=JY hl; rfl), PySem.W.mg_of X G a28⟩
  have D29 : Def K mg "_law_count" ZP ["_law_drawing"]:=⟨f29, _, Xs (st:=ZP) l29 c29 k29, (Xs (st:=ZP) l29 c29 k29).binds (ps:=["_law_drawing"]) fun _ _ _ _ _ _ us hl=>(by obtain ⟨_, rfl⟩:=JY hl; rfl), PySem.W.mg_of X G a29⟩
  have D30 : Def K mg "_law_prime" Z3 ["_law_some"]:=⟨f30, _, Xs (st:=Z3) l30 c30 k30, (Xs (st:=Z3) l30 c30 k30).binds (ps:=["_law_some"]) fun _ _ _ _ _ _ us hl=>(by obtain ⟨_, rfl⟩:=JY hl; rfl), PySem.W.mg_of X G a30⟩
  have D31 : Def K mg "_law_total" Qf ["_law_basis", "_law_numbers", "_law_count_here"]:=⟨f31, _, Xs (st:=Qf) l31 c31 k31, (Xs (st:=Qf) l31 c31 k31).binds (ps:=["_law_basis", "_law_numbers", "_law_count_here"]) fun _ _ _ _ _ _ us hl=>(by obtain ⟨_, _, _, rfl⟩:=VS hl; rfl), PySem.W.mg_of X G a31⟩
  refine ⟨PySem.W.fnOf "law" "law" (Xz Vn) (Xx Vn) (Xg Vn) .none kV32 dc32 pm32 an32 cd32 ct32, fun s v=>.of_eq rfl, fun base _ _=>?_⟩
  have g_cell:=Ec (P:=l.prog) (w:=w) (base:=base) D21  Z
  have g_mix:=E1 (P:=l.prog) (w:=w) (base:=base) D22  Z
  have g_row:=Hn (P:=l.prog) (w:=w) (base:=base) D23 g_cell g_mix Z
  have g_plaited:=GN (P:=l.prog) (w:=w) (base:=base) D26  Z
  have g_any:=Hb (P:=l.prog) (w:=w) (base:=base) D25  Z
  have g_mixed:=DR (P:=l.prog) (w:=w) (base:=base) D24  Z
  have g_drawn:=CV (P:=l.prog) (w:=w) (base:=base) D27 g_row g_plaited g_any g_mixed Z
  have g_prime:=Cq (P:=l.prog) (w:=w) (base:=base) D30  Z
  have g_copy:=BE (P:=l.prog) (w:=w) (base:=base) D28  Z
  have g_arcs_of_walk:=JE (P:=l.prog) (w:=w) (base:=base) D4  Z
  have g_arc_count:=UZ (P:=l.prog) (w:=w) (base:=base) D3 g_arcs_of_walk Z
  have g_times:=CG (P:=l.prog) (w:=w) (base:=base) D17  Z
  have g_inverse_rest:=JJ (P:=l.prog) (w:=w) (base:=base) D19  Z
  have g_cleared:=Gz (P:=l.prog) (w:=w) (base:=base) D18  Z
  have g_led_rows:=Kr (P:=l.prog) (w:=w) (base:=base) D16 g_times g_inverse_rest g_cleared Z
  have g_unit:=BG (P:=l.prog) (w:=w) (base:=base) D15  Z
  have g_with_factors:=JN (P:=l.prog) (w:=w) (base:=base) D14 g_unit Z
  have g_colouring_of:=JM (P:=l.prog) (w:=w) (base:=base) D20 g_unit Z
  have g_is_prime:=Ky (P:=l.prog) (w:=w) (base:=base) D9  Z
  have g_refuse_wrong:=Vj (P:=l.prog) (w:=w) (base:=base) D8 g_is_prime Z
  have g_arcs_of_ways:=JX (P:=l.prog) (w:=w) (base:=base) D5 g_arcs_of_walk Z
  have g_arcs:=B7 (P:=l.prog) (w:=w) (base:=base) D2 g_arcs_of_walk g_arcs_of_ways Z
  have g_spot:=B9 (P:=l.prog) (w:=w) (base:=base) D1  Z
  have g_meets:=CU (P:=l.prog) (w:=w) (base:=base) D6 g_arcs g_spot Z
  have g_ties:=BC (P:=l.prog) (w:=w) (base:=base) D7 g_meets Z
  have g_equations:=Uu (P:=l.prog) (w:=w) (base:=base) D10 g_refuse_wrong g_arc_count g_ties Z
  have g_solved:=DM (P:=l.prog) (w:=w) (base:=base) D13 g_arc_count g_led_rows g_with_factors g_colouring_of g_equations Z
  have g_count:=Cj (P:=l.prog) (w:=w) (base:=base) D29  Z
  have g_total:=CP (P:=l.prog) (w:=w) (base:=base) D31  Z
  have g_summed:=F4 (P:=l.prog) (w:=w) (base:=base) D12  Z
  have g_keeps:=Cd (P:=l.prog) (w:=w) (base:=base) D11 g_equations g_summed Z
  exact HB (P:=l.prog) (w:=w) (base:=base) (Xs (st:=Vn) l32 c32 k32) g_drawn g_row g_prime g_copy g_solved g_count g_total g_keeps Z
theorem IX {l : PySem.W.OpenLaw} {q : Program} {loose : List Str} {XP : (Str -> Option Value) -> Heap -> Prop} {YP : World -> Heap -> Prop} {d : DefRec} {K : Params -> PySem.W.Frag} (hn : l.most = some 63) (hdf : d.params.defaults = [])
    (hY : ∀ (w : World) (h : Heap), YP w h -> (K w.params).In h)
    (F : ∀ (w : World) (mg : Str -> Option Value) (fa : Addr) (h : Heap), (K w.params).In h -> h.Ns mainGlobals mg -> mg d.name = some (.ref fa) ->
      ∃ fd : FuncData, (∀ (s : Shared) (u : Value), BindsTo s fd ⟨[u], []⟩ [("_law_script", u)]) /\ ∀ base : Heap, (K w.params).In base -> base.Ns mainGlobals mg -> FnOk l.prog w (K w.params) mg base CX0 8 fa fd ["_law_script"] (sp1 (rL Xa) (oF Ym) Kh (K w.params))) :
    PySem.W.WalkO q loose XP YP l.row.toRowW d [] (fun f vs=>PySem.call f vs):=
  L2.BL (n:=63) (k:=8) (x:="_law_script") (CX:=fun _=>CX0) (sp:=fun w=>sp1 (rL Xa) (oF Ym) Kh (K w.params)) hn (by decide) hdf ⟨rfl, by decide, by decide⟩ hY F (fun _ _ a ns hl _ hS=>⟨.ref a, ns, true, rfl, ⟨a, _, rfl, hS, Kb ns⟩, DQ ns hl, fun v C H' w m ho=>ho.2⟩) fun _ _ _ _ _ z=>z
end My
open PySem PySem.W PyProof.Rows
set_option maxRecDepth 100000 in
set_option maxHeartbeats 0 in
theorem PySem.Challenge.cw_plait_k87_sums_of_the_basis_holds : PySem.Challenge.rw_plait_k87_sums_of_the_basis.Holds := by
  w_on; o_law; k_head; (case hw => w_witness2)
  k_fill
  refine My.IX (l := PySem.Challenge.rw_plait_k87_sums_of_the_basis) rfl rfl (fun w h Y => PySem.W.kIn_of Y) ?F
  case F =>
    intro w mg fa h KX G hmg
    refine' My.HR KX G hmg ?a1 ?l1 ?c1 ?k1 ?a2 ?l2 ?c2 ?k2 ?a3 ?l3 ?c3 ?k3 ?a4 ?l4 ?c4 ?k4 ?a5 ?l5 ?c5 ?k5 ?a6 ?l6 ?c6 ?k6 ?a7 ?l7 ?c7 ?k7 ?a8 ?l8 ?c8 ?k8 ?a9 ?l9 ?c9 ?k9 ?a10 ?l10 ?c10 ?k10 ?a11 ?l11 ?c11 ?k11 ?a12 ?l12 ?c12 ?k12 ?a13 ?l13 ?c13 ?k13 ?a14 ?l14 ?c14 ?k14 ?a15 ?l15 ?c15 ?k15 ?a16 ?l16 ?c16 ?k16 ?a17 ?l17 ?c17 ?k17 ?a18 ?l18 ?c18 ?k18 ?a19 ?l19 ?c19 ?k19 ?a20 ?l20 ?c20 ?k20 ?a21 ?l21 ?c21 ?k21 ?a22 ?l22 ?c22 ?k22 ?a23 ?l23 ?c23 ?k23 ?a24 ?l24 ?c24 ?k24 ?a25 ?l25 ?c25 ?k25 ?a26 ?l26 ?c26 ?k26 ?a27 ?l27 ?c27 ?k27 ?a28 ?l28 ?c28 ?k28 ?a29 ?l29 ?c29 ?k29 ?a30 ?l30 ?c30 ?k30 ?a31 ?l31 ?c31 ?k31 ?a32 ?l32 ?c32 ?k32 ?z1 ?z2 ?z3 ?z4 ?z5 ?z6 ?z7 ?z8 ?z9 ?z10 ?w0
    (case a1 => k_is); (case l1 => k_is); (case c1 => k_is); (case k1 => k_is); (case a2 => k_is); (case l2 => k_is); (case c2 => k_is); (case k2 => k_is); (case a3 => k_is); (case l3 => k_is); (case c3 => k_is); (case k3 => k_is); (case a4 => k_is); (case l4 => k_is); (case c4 => k_is); (case k4 => k_is); (case a5 => k_is); (case l5 => k_is); (case c5 => k_is); (case k5 => k_is); (case a6 => k_is); (case l6 => k_is); (case c6 => k_is); (case k6 => k_is); (case a7 => k_is); (case l7 => k_is); (case c7 => k_is); (case k7 => k_is); (case a8 => k_is); (case l8 => k_is); (case c8 => k_is); (case k8 => k_is); (case a9 => k_is); (case l9 => k_is); (case c9 => k_is); (case k9 => k_is); (case a10 => k_is); (case l10 => k_is); (case c10 => k_is); (case k10 => k_is); (case a11 => k_is); (case l11 => k_is); (case c11 => k_is); (case k11 => k_is); (case a12 => k_is); (case l12 => k_is); (case c12 => k_is); (case k12 => k_is); (case a13 => k_is); (case l13 => k_is); (case c13 => k_is); (case k13 => k_is); (case a14 => k_is); (case l14 => k_is); (case c14 => k_is); (case k14 => k_is); (case a15 => k_is); (case l15 => k_is); (case c15 => k_is); (case k15 => k_is); (case a16 => k_is); (case l16 => k_is); (case c16 => k_is); (case k16 => k_is); (case a17 => k_is); (case l17 => k_is); (case c17 => k_is); (case k17 => k_is); (case a18 => k_is); (case l18 => k_is); (case c18 => k_is); (case k18 => k_is); (case a19 => k_is); (case l19 => k_is); (case c19 => k_is); (case k19 => k_is); (case a20 => k_is); (case l20 => k_is); (case c20 => k_is); (case k20 => k_is); (case a21 => k_is); (case l21 => k_is); (case c21 => k_is); (case k21 => k_is); (case a22 => k_is); (case l22 => k_is); (case c22 => k_is); (case k22 => k_is); (case a23 => k_is); (case l23 => k_is); (case c23 => k_is); (case k23 => k_is); (case a24 => k_is); (case l24 => k_is); (case c24 => k_is); (case k24 => k_is); (case a25 => k_is); (case l25 => k_is); (case c25 => k_is); (case k25 => k_is); (case a26 => k_is); (case l26 => k_is); (case c26 => k_is); (case k26 => k_is); (case a27 => k_is); (case l27 => k_is); (case c27 => k_is); (case k27 => k_is); (case a28 => k_is); (case l28 => k_is); (case c28 => k_is); (case k28 => k_is); (case a29 => k_is); (case l29 => k_is); (case c29 => k_is); (case k29 => k_is); (case a30 => k_is); (case l30 => k_is); (case c30 => k_is); (case k30 => k_is); (case a31 => k_is); (case l31 => k_is); (case c31 => k_is); (case k31 => k_is); (case a32 => k_is); (case l32 => k_is); (case c32 => k_is); (case k32 => k_is); (case z1 => k_is); (case z2 => k_is); (case z3 => k_is); (case z4 => k_is); (case z5 => k_is); (case z6 => k_is); (case z7 => k_is); (case z8 => k_is); (case z9 => k_is); (case z10 => k_is); (case w0 => k_is)
