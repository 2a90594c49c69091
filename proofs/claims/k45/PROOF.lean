import PyProof.Rows.All
import Wide.All
import OpenK.AllK
import Wide.FinOn
import Lean
import PyProof.EqAt
import PyProof.EqKinds
import PyProof.TupleCall
import PySem.Challenge.RW_plait_k45_what_shuts
set_option Elab.async false
set_option linter.all false
set_option maxRecDepth 100000
namespace L2
open PySem PySem.Spec PyProof.Rows
noncomputable abbrev Key:=Sum Int Str
noncomputable def GR : Key -> Value -> Bool
  | .inl k, v=>Value.isInt k v
  | .inr x, v=>Value.isStrOf x v
noncomputable def LH (w : World) : Key -> Int
  | .inl k=>hashInt k
  | .inr x=>hashStr w x
theorem Yg : ∀ {k : Key} {v : Value}, GR k v = true -> (∃ i t, k = Sum.inl i /\ v = Value.int i t) ∨ (∃ x t, k = Sum.inr x /\ v = Value.str x t)
  | .inl i, v, h=>by
    obtain ⟨t, e⟩:=Value.isInt_shape (k:=i) (v:=v) h
    exact .inl ⟨i, t, rfl, e⟩
  | .inr x, v, h=>by
    obtain ⟨t, e⟩:=Value.isStrOf_shape (x:=x) (v:=v) h
    exact .inr ⟨x, t, rfl, e⟩
theorem Fa (i : Int) (t : Tok) : GR (.inl i) (.int i t) = true:=by simp [GR, Value.isInt]
theorem Fu (x : Str) (t : Tok) : GR (.inr x) (.str x t) = true:=by simp [GR, Value.isStrOf]
theorem Hs (a b : Int) : decide ((Sum.inl a : Key) = Sum.inl b) = (a == b):=by
  by_cases e : a = b
  . subst e; simp
  . have h : ¬ (Sum.inl a : Key) = Sum.inl b := fun q => e (Sum.inl.inj q)
    rw [decide_eq_false h]
    exact (beq_eq_false_iff_ne.mpr e).symm
theorem Hi (a b : Str) : decide ((Sum.inr a : Key) = Sum.inr b) = decide (a = b):=by
  by_cases e : a = b
  . subst e; simp
  . have h : ¬ (Sum.inr a : Key) = Sum.inr b := fun q => e (Sum.inr.inj q)
    rw [decide_eq_false h, decide_eq_false e]
theorem HG (a : Int) (b : Str) : decide ((Sum.inl a : Key) = Sum.inr b) = false:=decide_eq_false (fun q=>nomatch q)
theorem HD (a : Str) (b : Int) : decide ((Sum.inr a : Key) = Sum.inl b) = false:=decide_eq_false (fun q=>nomatch q)
noncomputable def Yr (prog : Program) (w : World) : PySem.KeyKind prog w Key where
  is:=GR
  hash:=LH w
  inj:=fun v a b ha hb=>by
    rcases Yg ha with ⟨i, t, rfl, rfl⟩ | ⟨x, t, rfl, rfl⟩
    . rcases Yg hb with ⟨j, u, rfl, e⟩ | ⟨y, u, rfl, e⟩
      . injection e with e1 _; rw [e1]
      . exact nomatch e
    . rcases Yg hb with ⟨j, u, rfl, e⟩ | ⟨y, u, rfl, e⟩
      . exact nomatch e
      . injection e with e1 _; rw [e1]
  byValue := fun k v h => by
    rcases Yg h with ⟨i, t, rfl, rfl⟩ | ⟨x, t, rfl, rfl⟩ <;> rfl
  pyHash:=fun hv h=>by
    rcases Yg hv with ⟨i, t, rfl, rfl⟩ | ⟨x, t, rfl, rfl⟩
    . exact wpAny_pyHash_int h
    . exact wpAny_pyHash_str h
  eqBool:=fun hu hv h=>by
    rcases Yg hu with ⟨i, t, rfl, rfl⟩ | ⟨x, t, rfl, rfl⟩
    . rcases Yg hv with ⟨j, u, rfl, rfl⟩ | ⟨y, u, rfl, rfl⟩
      . rw [Hs] at h; exact wpAny_eqBool_int h
      . rw [HG] at h; exact SeqAt.EqAt.int_str i t y u _ _ _ _ h
    . rcases Yg hv with ⟨j, u, rfl, rfl⟩ | ⟨y, u, rfl, rfl⟩
      . rw [HD] at h; exact SeqAt.EqAt.str_int x t j u _ _ _ _ h
      . rw [Hi] at h; exact wpAny_eqBool_str h
  «strs»:=fun k x t v h=>by
    rcases Yg h with ⟨i, u, rfl, e⟩ | ⟨y, u, rfl, e⟩
    . exact nomatch e
    . injection e with e1 _
      subst e1
      cases v <;> rfl
theorem Kd (prog : Program) (w : World) (i : Int) (t : Tok) : (Yr prog w).is (.inl i) (.int i t) = true:=Fa i t
theorem Km (prog : Program) (w : World) (x : Str) (t : Tok) : (Yr prog w).is (.inr x) (.str x t) = true:=Fu x t
end L2
namespace L2
open PySem PySem.Spec PyProof.Rows
inductive V where
  | non | bl (b : Bool) | int (i : Int) | str (x : Str) | byt (b : Array UInt8) | flt (b : UInt64) | ref (a : Addr) | ty (n : String)
  deriving DecidableEq
noncomputable def X4 : V -> Value -> Prop
  | .non, u=>u = Value.none
  | .bl b, u=>u = Value.bool b
  | .int i, u=>∃ t, u = Value.int i t
  | .str x, u=>∃ t, u = Value.str x t
  | .byt b, u=>∃ t, u = Value.bytes b t
  | .flt b, u=>∃ t, u = Value.float b t
  | .ref a, u=>u = Value.ref a
  | .ty n, u=>u = Value.type n
noncomputable abbrev X5 : List V -> List Value -> Prop:=Paired X4
theorem X5.length {xs : List V} {us : List Value} (r : X5 xs us) : xs.length = us.length:=Paired.length r
theorem X5.get : ∀ {xs : List V} {us : List Value} {i : Nat} {x : V}, X5 xs us -> xs[i]? = some x -> ∃ u, us[i]? = some u /\ X4 x u
  | _, _, _, _, .nil, e=>by simp at e
  | _, _, 0, _, .cons r _, e=>by simp at e; subst e; exact ⟨_, rfl, r⟩
  | _, _, i + 1, x, .cons _ t, e=>by
    obtain ⟨u, h1, h2⟩:=X5.get (i:=i) (x:=x) t (by simpa using e)
    exact ⟨u, by simpa using h1, h2⟩
theorem X5.set {x : V} {u : Value} (r : X4 x u) : ∀ {xs : List V} {us : List Value} (i : Nat), X5 xs us -> X5 (xs.set i x) (us.set i u)
  | _, _, _, .nil=>.nil
  | _, _, 0, .cons _ t=>.cons r t
  | _, _, i + 1, .cons q t=>.cons q (X5.set r i t)
theorem X5.append : ∀ {xs ys : List V} {us ws : List Value}, X5 xs us -> X5 ys ws -> X5 (xs ++ ys) (us ++ ws)
  | _, _, _, _, .nil, s=>s
  | _, _, _, _, .cons r t, s=>.cons r (X5.append t s)
theorem X5.take : ∀ {xs : List V} {us : List Value} (n : Nat), X5 xs us -> X5 (xs.take n) (us.take n)
  | _, _, 0, _=>.nil
  | _, _, _ + 1, .nil=>.nil
  | _, _, n + 1, .cons r t=>.cons r (X5.take n t)
theorem X5.drop : ∀ {xs : List V} {us : List Value} (n : Nat), X5 xs us -> X5 (xs.drop n) (us.drop n)
  | _, _, 0, r=>r
  | _, _, _ + 1, .nil=>.nil
  | _, _, n + 1, .cons _ t=>X5.drop n t
noncomputable def CV : Option V -> Option Value -> Prop
  | some v, some u=>X4 v u
  | none, none=>True
  | _, _=>False
noncomputable def KV {κ : Type} : List (κ × V) -> List (κ × Value) -> Prop:=Paired fun (p : κ × V) (q : κ × Value)=>p.1 = q.1 /\ X4 p.2 q.2
noncomputable def kV : Key -> V
  | .inl i=>.int i
  | .inr x=>.str x
inductive HO where
  /-- a list -/
  | lst (xs : List V)
  /-- a tuple (never changes) -/
  | tup (xs : List V)
  /-- a dict whose keys are ints and texts; one whose keys are tuples of ints and texts (the empty one is both) -/
  | dK (kvs : List (Key × V)) | dT (kvs : List (List Key × V))
  /-- a set of ints: its members, its size -/
  | set (S : Int -> Bool) (n : Nat)
  /-- an instance of the class at C, its dict at dx, its attributes -/
  | ins (C dx : Addr) (fs : List (Str × V))
  /-- the dict of the instance at x -/
  | own (x : Addr)
  /-- the dict of an exception -/
  | xd (fs : List (Str × V))
  /-- a bound method, f of x -/
  | met (f x : Addr)
  /-- a range object lo, lo + 1, .. below hi -/
  | rng (lo hi : Int)
  /-- a thing that is known to the object (the script; a dict while a loop walks it): read, never written while it is so -/
  | frz (o : Obj) (u : HO)
  /-- a code object's table -/
  | tbl (ps : Array Value)
  /-- any other thing, by what is true of its one object (a def of one's own: SetO a S n:=HO.ext fun h=>..) -/
  | ext (φ : Heap -> Prop)
noncomputable abbrev Hp:=Addr -> Option HO
noncomputable def upd (H : Hp) (a : Addr) (o : HO) : Hp:=fun b=>if b = a then some o else H b
theorem Yb {H : Hp} {a : Addr} {o : HO} : upd H a o a = some o:=by unfold upd; rw [if_pos rfl]
theorem XT {H : Hp} {a b : Addr} {o : HO} (h : b ≠ a) : upd H a o b = H b:=by unfold upd; rw [if_neg h]
theorem La {H : Hp} {a b : Addr} {o u : HO} (h : H a = some o) (h' : H b = some u) (d : o ≠ u) : a ≠ b:=by
  intro e; subst e; rw [h] at h'; exact d (Option.some.inj h')
theorem Yi {H : Hp} {a b : Addr} {o : HO} (h : H a = some o) (h' : H b = none) : a ≠ b:=by
  intro e; subst e; rw [h] at h'; cases h'
noncomputable def QE (h : Heap) (a : Addr) (items : Array Value) : Prop:=∃ o, h.get? a = some o /\ (o.cls = .type "tuple" /\ o.dict = none) /\ ∃ n, o.data = .seq items n
theorem QE.t {h : Heap} {a : Addr} {items : Array Value} (x : QE h a items) : IsTup h a items:=let ⟨o, ho, c, r⟩:=x; ⟨o, ho, c.1, r⟩
theorem QE.new (h : Heap) (items : Array Value) : QE (h.push { cls:=.type "tuple", data:=.seq items }) h.objs.size items:=⟨_, Heap.get?_push_size _ rfl, ⟨rfl, rfl⟩, _, rfl⟩
section
variable (P : Program) (w : World)
noncomputable def Yz (H : Hp) (h : Heap) (a : Addr) : HO -> Prop
  | .lst xs=>xs.length <= sizeLine /\ ∃ (its : List Value) (n : Nat), X5 xs its /\ h.get? a = some { cls:=.type "list", data:=.seq its.toArray n }
  | .tup xs=>xs.length <= sizeLine /\ ∃ its : List Value, X5 xs its /\ QE h a its.toArray
  | .dK kvs=>kvs.length <= sizeLine /\ (a == sysModules) = false /\ ∃ vs, KV kvs vs /\ h.DictOf (Yr P w) a vs
  | .dT kvs=>kvs.length <= sizeLine /\ (a == sysModules) = false /\ ∃ xs : List (List Key × Addr × Value),
      Paired (fun (p : List Key × V) (q : List Key × Addr × Value)=>p.1 = q.1 /\ H q.2.1 = some (.tup (p.1.map kV)) /\ X4 p.2 q.2.2) kvs xs /\
      ∃ o es ep, h.get? a = some o /\ o.ExactDict /\ o.data = .dict es ep /\ es.toList = xs.map (entryOfKey (tupleKind (Yr P w))) /\ (xs.map (·.1)).Nodup
  | .set S n=>h.SetOf (intKind P w) a S n
  | .ins C dx fs=>H dx = some (.own a) /\ fs.length <= 1000 /\ dx ≠ a /\ h.get? a = some (PySem.W.instObj C dx) /\
      ∃ mA, h.Ns1 dx mA /\ (∀ f, CV (fs.lookup f) (mA f)) /\ PySem.Within mA (fs.map (·.1))
  | .own _=>∃ o, h.get? a = some o
  | .xd fs=>∃ mA, h.Ns1 a mA /\ ∀ f, CV (fs.lookup f) (mA f)
  | .rng lo hi=>∃ t u v, h.get? a = some { cls:=.type "range", data:=.fields #[.int lo t, .int hi u, .int 1 v] }
  | .frz o u=>h.get? a = some o /\ Yz H h a u
  | .tbl ps=>h.get? a = some { cls:=.none, data:=.fields ps }
  | .met f x=>h.get? a = some (PySem.W.methodObj (.ref f) (.ref x))
  | .ext φ=>φ h /\ (∃ o, h.get? a = some o) /\ ∀ h1 h2 : Heap, φ h1 -> (∀ o, h1.get? a = some o -> h2.get? a = some o) -> φ h2
noncomputable def HOk (H : Hp) (h : Heap) : Prop:=∀ a o, H a = some o -> Yz P w H h a o
end
section
variable {P : Program} {w : World} {H H' : Hp} {h h' : Heap} {a : Addr} {o : HO}
theorem Yz.lt (x : Yz P w H h a o) : a < h.objs.size:=by
  cases o with
  | lst xs=>obtain ⟨_, _, _, _, e⟩:=x; exact Heap.lt_size e
  | tup xs=>obtain ⟨_, _, _, p⟩:=x; exact p.t.lt
  | dK kvs=>obtain ⟨_, _, _, _, o, _, _, e, _⟩:=x; exact Heap.lt_size e
  | dT kvs=>obtain ⟨_, _, _, _, o, _, _, e, _⟩:=x; exact Heap.lt_size e
  | set S n=>obtain ⟨o, _, _, _, e, _⟩:=x; exact Heap.lt_size e
  | ins C dx fs=>obtain ⟨_, _, _, e, _⟩:=x; exact Heap.lt_size e
  | own y=>obtain ⟨_, e⟩:=x; exact Heap.lt_size e
  | xd fs=>obtain ⟨_, ⟨_, _, _, e, _⟩, _⟩:=x; exact Heap.lt_size e
  | rng lo hi=>obtain ⟨_, _, _, e⟩:=x; exact Heap.lt_size e
  | frz ob u=>obtain ⟨e, _⟩:=x; exact Heap.lt_size e
  | tbl ps=>exact Heap.lt_size (show h.get? a = some _ from x)
  | met f y=>exact Heap.lt_size (show h.get? a = some _ from x)
  | ext φ=>obtain ⟨_, ⟨_, e⟩, _⟩:=x; exact Heap.lt_size e
theorem Paired.mapP {α β : Type} {F G : α -> β -> Prop} : ∀ {l₁ : List α} {l₂ : List β}, Paired F l₁ l₂ -> (∀ a b, F a b -> G a b) -> Paired G l₁ l₂
  | _, _, .nil, _=>.nil
  | _, _, .cons r t, f=>.cons (f _ _ r) (Paired.mapP t f)
theorem Yz.stay (x : Yz P w H h a o) (k : ∀ b u, (b = a ∨ H b = some (.own a)) -> h.get? b = some u -> h'.get? b = some u)
    (ho : ∀ b, H b = some (.own a) -> H' b = some (.own a)) (ht : ∀ b xs, H b = some (.tup xs) -> H' b = some (.tup xs)) : Yz P w H' h' a o:=by
  induction o with
  | lst xs=>obtain ⟨z, its, n, r, e⟩:=x; exact ⟨z, its, n, r, k _ _ (.inl rfl) e⟩
  | tup xs=>obtain ⟨z, its, r, ob, e, c⟩:=x; exact ⟨z, its, r, ob, k _ _ (.inl rfl) e, c⟩
  | dK kvs=>obtain ⟨z, y, vs, r, ob, es, ep, e, c⟩:=x; exact ⟨z, y, vs, r, ob, es, ep, k _ _ (.inl rfl) e, c⟩
  | dT kvs=>
    obtain ⟨z, y, xs, r, ob, es, ep, e, c⟩:=x
    exact ⟨z, y, xs, Paired.mapP r fun p q z=>⟨z.1, ht _ _ z.2.1, z.2.2⟩, ob, es, ep, k _ _ (.inl rfl) e, c⟩
  | set S n=>obtain ⟨ob, es, ep, t, e, c⟩:=x; exact ⟨ob, es, ep, t, k _ _ (.inl rfl) e, c⟩
  | ins C dx fs=>
    obtain ⟨d, z, ne, e, mA, ⟨od, es, ep, e2, c⟩, r⟩:=x
    exact ⟨ho _ d, z, ne, k _ _ (.inl rfl) e, mA, ⟨od, es, ep, k _ _ (.inr d) e2, c⟩, r⟩
  | own y=>obtain ⟨ob, e⟩:=x; exact ⟨ob, k _ _ (.inl rfl) e⟩
  | xd fs=>obtain ⟨mA, ⟨od, es, ep, e, c⟩, r⟩:=x; exact ⟨mA, ⟨od, es, ep, k _ _ (.inl rfl) e, c⟩, r⟩
  | rng lo hi=>obtain ⟨t, u, v, e⟩:=x; exact ⟨t, u, v, k _ _ (.inl rfl) e⟩
  | frz ob u ih=>obtain ⟨e, q⟩:=x; exact ⟨k _ _ (.inl rfl) e, ih q⟩
  | tbl ps=>
    have e : h.get? a = some { cls:=.none, data:=.fields ps }:=x
    show h'.get? a = some { cls:=.none, data:=.fields ps }
    exact k a _ (.inl rfl) e
  | met f y=>
    have e : h.get? a = some (PySem.W.methodObj (.ref f) (.ref y)):=x
    show h'.get? a = some (PySem.W.methodObj (.ref f) (.ref y))
    exact k a _ (.inl rfl) e
  | ext φ=>obtain ⟨p, ⟨o, e⟩, st⟩:=x; exact ⟨st _ _ p fun o q=>k _ _ (.inl rfl) q, ⟨o, k _ _ (.inl rfl) e⟩, st⟩
theorem HOk.lt (x : HOk P w H h) (e : H a = some o) : a < h.objs.size:=(x a o e).lt
theorem HOk.fresh (x : HOk P w H h) (e : h.objs.size <= a) : H a = none:=by
  cases q : H a with
  | none=>rfl
  | some u=>exact absurd (Nat.lt_of_lt_of_le (x.lt q) e) (Nat.lt_irrefl _)
theorem HOk.kept (x : HOk P w H h) (k : ∀ b u, h.get? b = some u -> h'.get? b = some u) : HOk P w H h':=fun a o e=>
  (x a o e).stay (fun b u _ q=>k b u q) (fun _ q=>q) fun _ _ q=>q
theorem HOk.laid (x : HOk P w H h) (k : ∀ b u, h.get? b = some u -> h'.get? b = some u) (hp : h.objs.size <= a) (new : Yz P w (upd H a o) h' a o) : HOk P w (upd H a o) h':=fun b u e=>by
  have hn:=x.fresh hp
  by_cases hb : b = a
  . subst hb; rw [Yb] at e; cases e; exact new
  . rw [XT hb] at e
    exact (x b u e).stay (fun c v _ q=>k c v q) (fun c q=>by rw [XT (Yi q hn)]; exact q) fun c xs q=>by rw [XT (Yi q hn)]; exact q
end
noncomputable def Rd (H : Hp) (a : Addr) (u : HO) : Prop:=H a = some u ∨ ∃ o, H a = some (.frz o u)
theorem Rd.of {H : Hp} {a : Addr} {u : HO} (h : H a = some u) : Rd H a u:=.inl h
theorem Rd.ok {P : Program} {w : World} {H : Hp} {h : Heap} {a : Addr} {u : HO} (r : Rd H a u) (x : HOk P w H h) : Yz P w H h a u:=by
  rcases r with r | ⟨o, r⟩
  . exact x a u r
  . obtain ⟨_, q⟩ := x a _ r
    exact q
noncomputable def Mut : Option HO -> Prop
  | some (.lst _)=>True
  | some (.dK _)=>True
  | some (.dT _)=>True
  | some (.set _ _)=>True
  | some (.ins _ _ _)=>True
  | some (.ext _)=>True
  | _=>False
section
variable {P : Program} {w : World} {H : Hp} {h h' : Heap} {x e : Addr} {o' : HO}
theorem HOk.write (ok : HOk P w H h) (mu : Mut (H x)) (he : e = x ∨ H e = some (.own x)) (k : ∀ b u, b ≠ e -> h.get? b = some u -> h'.get? b = some u) (heo : ∃ u, h'.get? e = some u)
    (new : Yz P w (upd H x o') h' x o') : HOk P w (upd H x o') h':=fun b u q=>by
  have nown : ∀ c y, H c = some (.own y) -> c ≠ x:=fun c y r z=>by subst z; rw [r] at mu; exact mu
  have ntup : ∀ c xs, H c = some (.tup xs) -> c ≠ x:=fun c xs r z=>by subst z; rw [r] at mu; exact mu
  by_cases hb : b = x
  . subst hb; rw [Yb] at q; cases q; exact new
  . rw [XT hb] at q
    by_cases hbe : b = e
    . have q' : H b = some (.own x):=by
        rcases he with z | z
        . exact absurd (hbe.trans z) hb
        . rw [hbe]; exact z
      rw [q] at q'; cases q'
      obtain ⟨v, hv⟩:=heo
      exact ⟨v, by rw [hbe]; exact hv⟩
    . refine (ok b u q).stay (fun c v hc r => k c v ?_ r) (fun c r => by rw [XT (nown c b r)]; exact r) fun c xs r => by rw [XT (ntup c xs r)]; exact r
      rcases hc with rfl | hc
      . exact hbe
      . rintro rfl
        rcases he with z | z
        . exact nown c b hc z
        . rw [hc] at z; cases z; exact hb rfl
end
structure Un (fs ex : List Addr) (H H' : Hp) (h h' : Heap) : Prop where
  keep : ∀ b o, h.get? b = some o -> H b = none -> b ∉ fs -> b ∉ ex -> h'.get? b = some o
  slot : ∀ b o, h.get? b = some o -> H b = none -> b ∈ fs -> b ∉ ex -> ∃ sl, h'.get? b = some { o with slots:=sl }
  free : ∀ b o, h.get? b = some o -> H b = none -> b ∉ ex -> H' b = none
  there : ∀ b o, h.get? b = some o -> b ∉ ex -> ∃ o', h'.get? b = some o'
  tups : ∀ b xs, H b = some (.tup xs) -> H' b = some (.tup xs)
  frzs : ∀ b o u, H b = some (.frz o u) -> H' b = some (.frz o u)
  tbls : ∀ b ps, H b = some (.tbl ps) -> ∃ more, H' b = some (.tbl (ps ++ more))
section
variable {fs fs' ex ex' : List Addr} {H H1 H2 : Hp} {h h1 h2 h' : Heap} {a x e : Addr} {o : HO}
theorem Un.any (u : Un fs ex H H1 h h1) {b : Addr} {ob : Obj} (q : h.get? b = some ob) (n : H b = none) (hx : b ∉ ex) : ∃ sl, h1.get? b = some { ob with slots:=sl }:=by
  by_cases hb : b ∈ fs
  . exact u.slot b ob q n hb hx
  . exact ⟨ob.slots, u.keep b ob q n hb hx⟩
theorem Un.trans (a : Un fs ex H H1 h h1) (b : Un fs ex H1 H2 h1 h2) : Un fs ex H H2 h h2 where
  keep:=fun c ob q n hc hx=>b.keep c ob (a.keep c ob q n hc hx) (a.free c ob q n hx) hc hx
  slot:=fun c ob q n hc hx=>by
    obtain ⟨sl, e1⟩:=a.slot c ob q n hc hx
    obtain ⟨sl', e2⟩:=b.slot c _ e1 (a.free c ob q n hx) hc hx
    exact ⟨sl', e2⟩
  free:=fun c ob q n hx=>by
    obtain ⟨o', e1⟩:=a.there c ob q hx
    exact b.free c o' e1 (a.free c ob q n hx) hx
  there:=fun c ob q hx=>by
    obtain ⟨o', e1⟩:=a.there c ob q hx
    exact b.there c o' e1 hx
  tups:=fun c xs q=>b.tups c xs (a.tups c xs q)
  frzs:=fun c ob xs q=>b.frzs c ob xs (a.frzs c ob xs q)
  tbls:=fun c ps q=>by
    obtain ⟨m1, e1⟩:=a.tbls c ps q
    obtain ⟨m2, e2⟩:=b.tbls c _ e1
    exact ⟨m1 ++ m2, by rw [e2, Array.append_assoc]⟩
theorem Un.kept (k : ∀ b u, h.get? b = some u -> h'.get? b = some u) : Un fs ex H H h h':=
  ⟨fun b ob q _ _ _=>k b ob q, fun b ob q _ _ _=>⟨ob.slots, k b ob q⟩, fun _ _ _ n _=>n, fun b ob q _=>⟨ob, k b ob q⟩, fun _ _ q=>q, fun _ _ _ q=>q, fun _ ps q=>⟨#[], by rw [q]; simp⟩⟩
theorem Un.refl : Un fs ex H H h h:=Un.kept fun _ _ q=>q
theorem Un.laid (k : ∀ b u, h.get? b = some u -> h'.get? b = some u) (hp : h.objs.size <= a) (hn : H a = none) : Un fs ex H (upd H a o) h h' where
  keep:=fun b u q _ _ _=>k b u q
  slot:=fun b u q _ _ _=>⟨u.slots, k b u q⟩
  free:=fun b u q n _=>by rw [XT (Nat.ne_of_lt (Nat.lt_of_lt_of_le (Heap.lt_size q) hp))]; exact n
  there:=fun b u q _=>⟨u, k b u q⟩
  tups:=fun b xs q=>by rw [XT (Yi q hn)]; exact q
  frzs:=fun b u xs q=>by rw [XT (Yi q hn)]; exact q
  tbls:=fun b ps q=>⟨#[], by rw [XT (Yi q hn), q]; simp⟩
theorem Un.write (mu : Mut (H x)) (he : e = x ∨ H e = some (.own x)) (k : ∀ b u, b ≠ e -> h.get? b = some u -> h'.get? b = some u) (heo : ∃ u, h'.get? e = some u) : Un fs ex H (upd H x o) h h':=by
  have hx : ∀ b, H b = none -> b ≠ x:=fun b n z=>by subst z; rw [n] at mu; exact mu
  have hb : ∀ b, H b = none -> b ≠ e:=fun b n z=>by
    subst z
    rcases he with r | r
    . exact hx b n r
    . rw [n] at r; cases r
  have hm : ∀ b u, H b = some u -> ¬ Mut (some u) -> b ≠ x:=fun b u q nm z=>by subst z; rw [q] at mu; exact nm mu
  refine ⟨fun b u q n _ _=>k b u (hb b n) q, fun b u q n _ _=>⟨u.slots, k b u (hb b n) q⟩, fun b u q n _=>by rw [XT (hx b n)]; exact n, fun b u q _=>?_,
    fun b xs q=>by rw [XT (hm b _ q fun z=>z)]; exact q, fun b u xs q=>by rw [XT (hm b _ q fun z=>z)]; exact q, fun b ps q=>⟨#[], by rw [XT (hm b _ q fun z=>z), q]; simp⟩⟩
  by_cases hbe : b = e
  . subst hbe; exact heo
  . exact ⟨u, k b u hbe q⟩
theorem Un.mono (u : Un fs ex H H1 h h1) (hs : ∀ b ∈ fs, b ∈ fs') (hx : ∀ b ∈ ex, b ∈ ex') : Un fs' ex' H H1 h h1:=
  ⟨fun b ob q n hb he=>u.keep b ob q n (fun z=>hb (hs b z)) fun z=>he (hx b z), fun _ _ q n _ he=>u.any q n fun z=>he (hx _ z), fun b ob q n he=>u.free b ob q n fun z=>he (hx b z), fun b ob q he=>u.there b ob q fun z=>he (hx b z), u.tups, u.frzs, u.tbls⟩
end
noncomputable def trk (h : Heap) (H : Hp) : List Addr:=(List.range h.objs.size).filter fun a=>(H a).isSome
noncomputable def Cf (h : Heap) (H : Hp) : Heap:=PySem.W.hideAll h (trk h H)
theorem DW (h : Heap) (H : Hp) : (Cf h H).objs.size = h.objs.size:=PySem.W.hideAll_size _ _
theorem KS {h : Heap} {H : Hp} {b : Addr} {o : Obj} (e : h.get? b = some o) (n : H b = none) : (Cf h H).get? b = some o:=
  PySem.W.hideAll_get _ e fun hm=>by
    have q : (H b).isSome = true:=(List.mem_filter.mp hm).2
    rw [n] at q; simp at q
theorem EM {h : Heap} {H : Hp} {b : Addr} {o : Obj} (e : (Cf h H).get? b = some o) : h.get? b = some o /\ H b = none:=by
  have e' : h.get? b = some o:=PySem.W.of_hideAll (trk h H) e
  refine ⟨e', ?_⟩
  cases q : H b with
  | none=>rfl
  | some x=>
    have hm : b ∈ trk h H:=List.mem_filter.mpr ⟨List.mem_range.mpr (Heap.lt_size e'), by simp [q]⟩
    have z : (Cf h H).get? b = none:=PySem.W.hideAll_none (trk h H) hm
    rw [z] at e; cases e
noncomputable def Ec (g h : Heap) (L : Addr) : List (Addr × Obj):=(List.range h.objs.size).filterMap fun a=>if a = L ∨ (g.get? a).isSome = true then none else (h.get? a).map fun o=>(a, o)
noncomputable def ZG (g h : Heap) (L d : Addr) : List (Addr × Obj):=(Ec g h L).filter fun p=>decide (p.1 ≠ d)
end L2
namespace L2
open PySem PySem.Spec PyProof.Rows
structure Mod (K : PySem.W.Frag) (mg : Str -> Option Value) (base : Heap) : Prop where
  kin : K.In base
  glob : base.Ns mainGlobals mg
  blt : ∃ mb, base.Ns builtinsNs mb /\ ∀ x : Str, x ≠ "__name__" -> mb x = bootBuiltins x
  nolimit : base.NoLimit
structure Cx where
  prog : Program
  w : World
  K : PySem.W.Frag
  mg : Str -> Option Value
  base : Heap
  A : Around
  N : List Str
  s₀ : Shared
  H₀ : Hp
  env : Env
  outer : List Env
  stack : List Env
  ex : List Addr
  fn : Str -> Bool
  calm : Bool
  pn : List (Addr × Obj)
  xe : Value -> Shared -> Prop
noncomputable def frs (l : List Env) : List Addr:=l.filterMap (·.frame)
noncomputable abbrev Cx.fs (X : Cx) : List Addr:=frs X.outer
noncomputable def Vis (sc : Scope) (x : Str) : Prop:=sc.names.lookup x = some .local ∨ sc.names.lookup x = some .cell ∨ sc.names.lookup x = some .free
noncomputable def Loc (sc : Scope) (x : Str) : Prop:=sc.names.lookup x = some .local ∨ sc.names.lookup x = some .cell
noncomputable def LK (env : Env) (h : Heap) (m : Str -> Option Value) (x : Str) (u : Value) : Prop:=
  (env.kindOf x = some .local /\ m x = some u) ∨ ((env.kindOf x = some .cell ∨ env.kindOf x = some .free) /\ ∃ c, env.cells.lookup x = some c /\ h.IsCell c (some u))
structure Cx.Ok (X : Cx) : Prop where
  mod : Mod X.K X.mg X.base
  kind : X.env.scope.kind = .function
  glob : X.env.globals = mainGlobals
  blt : X.env.builtins = builtinsNs
  above : X.s₀.heap.objs.size <= X.env.locals
  inj : ∀ x y c, X.env.cells.lookup x = some c -> X.env.cells.lookup y = some c -> x = y
  has : ∀ x, (X.env.kindOf x = some .cell ∨ X.env.kindOf x = some .free) -> ∃ c, X.env.cells.lookup x = some c
  cab : ∀ x c, X.fn x = true -> X.env.cells.lookup x = some c -> X.s₀.heap.objs.size <= c
  hd : X.calm = true -> X.A.handled = none
  frames : X.A.frames = some X.stack
  stk : X.stack = X.outer ∨ (X.stack = X.env :: X.outer /\ X.env.frame = some X.env.locals)
  exf : ∀ b ∈ X.ex, b ≠ X.env.locals /\ ∀ x c, X.env.cells.lookup x = some c -> c ≠ b
  bs : ∀ b o, X.base.get? b = some o -> X.s₀.heap.get? b = some o /\ X.H₀ b = none
  bsz : X.base.objs.size <= X.s₀.heap.objs.size
  noex : ∀ b o, X.base.get? b = some o -> b ∉ X.ex
  exfs : ∀ b ∈ X.ex, b ∉ X.fs
  funs : X.s₀.heap.FunFrames X.base X.outer
  frf : ∀ b ∈ X.fs, X.H₀ b = none
structure Inv (X : Cx) (pins : List (Addr × Obj)) (σ : List (Option V)) (H : Hp) (s : Shared) : Prop where
  ok : X.Ok
  os : s.os = X.s₀.os
  bare : AllBare s.gens
  base : Un X.fs X.ex X.H₀ H X.s₀.heap s.heap
  loc : ∃ m, s.heap.Ns X.env.locals m /\ ∀ (i : Nat) (x : Str) (v : V), X.N[i]? = some x -> σ[i]? = some (some v) -> Vis X.env.scope x -> ∃ u, X4 v u /\ LK X.env s.heap m x u
  cell : ∀ x c, X.env.cells.lookup x = some c -> ∃ v, s.heap.IsCell c v
  free : H X.env.locals = none
  freeC : ∀ x c, X.env.cells.lookup x = some c -> H c = none
  pin : ∀ p ∈ X.pn ++ pins, s.heap.get? p.1 = some p.2 /\ H p.1 = none /\ p.1 ≠ X.env.locals /\ p.1 ∉ X.fs /\ ∀ v, p.2.data ≠ .cell v
  hok : HOk X.prog X.w H s.heap
  len : σ.length = X.N.length
section
variable {X : Cx} {pins : List (Addr × Obj)} {σ : List (Option V)} {H H' : Hp} {s : Shared} {h' : Heap}
theorem Cx.Ok.nofr (ok : X.Ok) {b : Addr} {o : Obj} (e : X.base.get? b = some o) : b ∉ X.fs:=fun hb=>by
  have:=(ok.funs.mem hb).1
  rw [e] at this; cases this
theorem Inv.bs (I : Inv X pins σ H s) : ∀ b o, X.base.get? b = some o -> s.heap.get? b = some o /\ H b = none:=fun b o e=>
  ⟨I.base.keep b o (I.ok.bs b o e).1 (I.ok.bs b o e).2 (I.ok.nofr e) (I.ok.noex b o e), I.base.free b o (I.ok.bs b o e).1 (I.ok.bs b o e).2 (I.ok.noex b o e)⟩
theorem Inv.bk (I : Inv X pins σ H s) : ∀ b o, X.base.get? b = some o -> s.heap.get? b = some o:=fun b o e=>(I.bs b o e).1
theorem Inv.mod (I : Inv X pins σ H s) : Mod X.K X.mg X.base:=I.ok.mod
theorem Inv.kIn (I : Inv X pins σ H s) : X.K.In s.heap:=I.ok.mod.kin.keeps I.bk
theorem Inv.nolimit (I : Inv X pins σ H s) : s.heap.NoLimit:=I.ok.mod.nolimit.keeps I.bk
theorem Inv.lt (I : Inv X pins σ H s) : X.env.locals < s.heap.objs.size:=let ⟨_, hn, _⟩:=I.loc; hn.lt
theorem Inv.sz (I : Inv X pins σ H s) : X.s₀.heap.objs.size <= s.heap.objs.size:=Nat.le_trans I.ok.above (Nat.le_of_lt I.lt)
theorem Inv.nofs (I : Inv X pins σ H s) {a : Addr} (h : s.heap.objs.size <= a) : a ∉ X.fs:=fun hb=>by
  obtain ⟨_, o, ho, _⟩:=I.ok.funs.mem hb
  exact absurd (Nat.lt_of_lt_of_le (Heap.lt_size ho) (Nat.le_trans I.sz h)) (Nat.lt_irrefl _)
theorem Inv.cne (I : Inv X pins σ H s) : ∀ x c, X.env.cells.lookup x = some c -> c ≠ X.env.locals:=fun x c e z=>by
  obtain ⟨v, o, ho, hd⟩:=I.cell x c e
  obtain ⟨m, ⟨o', es, ep, ho', hd', _⟩, _⟩:=I.loc
  rw [z, ho'] at ho; cases ho; rw [hd'] at hd; cases hd
theorem Inv.funs (I : Inv X pins σ H s) : s.heap.FunFrames X.base X.outer:=by
  have all : ∀ (l : List Env), (∀ b ∈ frs l, b ∈ X.fs) -> X.s₀.heap.FunFrames X.base l -> s.heap.FunFrames X.base l:=by
    intro l
    induction l with
    | nil=>intro _ _; trivial
    | cons env r ih=>
      intro hs hl
      obtain ⟨hk, ⟨L, o, hf, hn, ho, hd⟩, hr⟩:=hl
      have hL : L ∈ X.fs:=hs L (by unfold frs; rw [List.filterMap_cons, hf]; exact List.mem_cons_self)
      obtain ⟨sl, e⟩:=I.base.slot L o ho (I.ok.frf L hL) hL fun z=>I.ok.exfs L z hL
      exact ⟨hk, ⟨L, _, hf, hn, e, hd⟩, ih (fun b hb=>hs b (by unfold frs; rw [List.filterMap_cons, hf]; exact List.mem_cons_of_mem _ hb)) hr⟩
  exact all X.outer (fun _ hb=>hb) I.ok.funs
theorem Inv.stack (I : Inv X pins σ H s) : s.heap.FunFrames X.base X.stack:=by
  rcases I.ok.stk with e | ⟨e, hf⟩
  . rw [e]; exact I.funs
  . rw [e]
    obtain ⟨m, hn, _⟩:=I.loc
    refine .cons (by rw [I.ok.kind]; decide) hf hn ?_ I.funs
    exact Heap.get?_none_of_le (Nat.le_trans I.ok.bsz I.ok.above)
theorem Inv.stkSub (I : Inv X pins σ H s) : ∀ b ∈ frs X.stack, b ∈ X.env.locals :: X.fs:=fun b hb=>by
  rcases I.ok.stk with e | ⟨e, hf⟩
  . rw [e] at hb; exact List.mem_cons_of_mem _ hb
  . rw [e] at hb
    unfold frs at hb
    rw [List.filterMap_cons, hf] at hb
    exact hb
theorem Inv.stkFree (I : Inv X pins σ H s) : ∀ b ∈ frs X.stack, H b = none:=fun b hb=>by
  rcases List.mem_cons.mp (I.stkSub b hb) with e | hb
  . rw [e]; exact I.free
  . obtain ⟨_, o, ho, _⟩ := I.ok.funs.mem hb
    exact I.base.free b o ho (I.ok.frf b hb) fun z=>I.ok.exfs b z hb
theorem Inv.step {g' : Array GenState} {t' : Nat} {d' : Drawn} {ch : List Addr} (I : Inv X pins σ H s)
    (hch : ∀ b ∈ ch, (b ∈ X.ex ∨ X.s₀.heap.objs.size <= b) /\ b ≠ X.env.locals /\ (∀ x c, X.env.cells.lookup x = some c -> c ≠ b) /\ ∀ p ∈ X.pn ++ pins, p.1 ≠ b)
    (keep : ∀ b o, b ≠ X.env.locals -> b ∉ X.fs -> b ∉ ch -> s.heap.get? b = some o -> H b = none -> h'.get? b = some o)
    (slot : ∀ b o, b ≠ X.env.locals -> b ∈ X.fs -> b ∉ ch -> s.heap.get? b = some o -> H b = none -> ∃ sl, h'.get? b = some { o with slots:=sl }) (free : ∀ b o, b ∉ ch -> s.heap.get? b = some o -> H b = none -> H' b = none)
    (there : ∀ b o, b ∉ ch -> s.heap.get? b = some o -> ∃ o', h'.get? b = some o')
    (tups : ∀ b xs, H b = some (.tup xs) -> H' b = some (.tup xs)) (frzs : ∀ b o u, H b = some (.frz o u) -> H' b = some (.frz o u)) (tbls : ∀ b ps, H b = some (.tbl ps) -> ∃ more, H' b = some (.tbl (ps ++ more)))
    (ns : ∀ m, s.heap.Ns X.env.locals m -> h'.Ns X.env.locals m) (hok : HOk X.prog X.w H' h') (hg : AllBare g') :
    Inv X pins σ H' { s with heap:=h', gens:=g', drawn:=d', toks:=t' }:=by
  have neL : ∀ b o, X.s₀.heap.get? b = some o -> b ≠ X.env.locals:=fun b o e=>Nat.ne_of_lt (Nat.lt_of_lt_of_le (Heap.lt_size e) I.ok.above)
  have neC : ∀ b o, X.s₀.heap.get? b = some o -> b ∉ X.ex -> b ∉ ch:=fun b o e hx hb=>by
    rcases (hch b hb).1 with z | z
    . exact hx z
    . exact absurd (Nat.lt_of_lt_of_le (Heap.lt_size e) z) (Nat.lt_irrefl _)
  have cellK : ∀ x c, X.env.cells.lookup x = some c -> ∀ v, s.heap.IsCell c v -> h'.IsCell c v:=fun x c e v ⟨o, ho, hd⟩=>by
    have nch : c ∉ ch:=fun z=>(hch c z).2.2.1 x c e rfl
    by_cases hc : c ∈ X.fs
    . obtain ⟨sl, q⟩ := slot c o (I.cne x c e) hc nch ho (I.freeC x c e)
      exact ⟨_, q, hd⟩
    . exact ⟨o, keep c o (I.cne x c e) hc nch ho (I.freeC x c e), hd⟩
  refine ⟨I.ok, I.os, hg, ⟨fun b o e n hb hx=>?_, fun b o e n hb hx=>?_, fun b o e n hx=>?_, fun b o e hx=>?_, fun b xs e=>tups b xs (I.base.tups b xs e), fun b o xs e=>frzs b o xs (I.base.frzs b o xs e), fun b ps e=>?_⟩, ?_, fun x c e=>?_, ?_, fun x c e=>?_, fun p hp=>?_, hok, I.len⟩
  . exact keep b o (neL b o e) hb (neC b o e hx) (I.base.keep b o e n hb hx) (I.base.free b o e n hx)
  . obtain ⟨sl, e1⟩ := I.base.slot b o e n hb hx
    obtain ⟨sl', e2⟩:=slot b _ (neL b o e) hb (neC b o e hx) e1 (I.base.free b o e n hx)
    exact ⟨sl', e2⟩
  . obtain ⟨o', e1⟩ := I.base.there b o e hx
    exact free b o' (neC b o e hx) e1 (I.base.free b o e n hx)
  . obtain ⟨o', e1⟩ := I.base.there b o e hx
    exact there b o' (neC b o e hx) e1
  . obtain ⟨m1, e1⟩ := I.base.tbls b ps e
    obtain ⟨m2, e2⟩:=tbls b _ e1
    exact ⟨m1 ++ m2, by rw [e2, Array.append_assoc]⟩
  . obtain ⟨m, hn, hl⟩ := I.loc
    refine ⟨m, ns m hn, fun i x v e1 e2 e3=>?_⟩
    obtain ⟨u, r, l⟩:=hl i x v e1 e2 e3
    refine ⟨u, r, ?_⟩
    rcases l with l | ⟨k, c, e, z⟩
    . exact .inl l
    . exact .inr ⟨k, c, e, cellK x c e _ z⟩
  . obtain ⟨v, z⟩ := I.cell x c e
    exact ⟨v, cellK x c e v z⟩
  . obtain ⟨m, ⟨o, _, _, ho, _⟩, _⟩ := I.loc
    exact free _ o (fun z=>(hch _ z).2.1 rfl) ho I.free
  . obtain ⟨v, o, ho, hd⟩ := I.cell x c e
    exact free c o (fun z=>(hch c z).2.2.1 x c e rfl) ho (I.freeC x c e)
  . obtain ⟨e, n, ne, nf, d⟩ := I.pin p hp
    have nch : p.1 ∉ ch:=fun z=>(hch p.1 z).2.2.2 p hp rfl
    exact ⟨keep p.1 p.2 ne nf nch e n, free p.1 p.2 nch e n, ne, nf, d⟩
theorem Inv.un {t' : Nat} (I : Inv X pins σ H s) (u : Un X.fs [] H H' s.heap h') (hok : HOk X.prog X.w H' h') : Inv X pins σ H' { s with heap:=h', toks:=t' }:=by
  obtain ⟨m, ⟨o, es, ep, ho, r⟩, _⟩:=id I.loc
  obtain ⟨sl, hL⟩:=u.any ho I.free (by simp)
  exact I.step (g':=s.gens) (d':=s.drawn) (ch:=[]) (fun _ z=>nomatch z) (fun b o _ hb _ e n=>u.keep b o e n hb (by simp)) (fun b o _ hb _ e n=>u.slot b o e n hb (by simp)) (fun b o _ e n=>u.free b o e n (by simp)) (fun b o _ e=>u.there b o e (by simp)) u.tups u.frzs u.tbls (fun m' hm=>by
    obtain ⟨o', es', ep', ho', r'⟩:=hm
    rw [ho] at ho'; cases ho'
    exact ⟨_, es', ep', hL, r'⟩) hok I.bare
theorem Inv.call {g' : Array GenState} {t' : Nat} {d' : Drawn} {ch : List Addr} (I : Inv X pins σ H s) (u : Un (frs X.stack) ch H H' s.heap h') (hok : HOk X.prog X.w H' h') (hg : AllBare g')
    (hch : ∀ b ∈ ch, (b ∈ X.ex ∨ X.s₀.heap.objs.size <= b) /\ b ≠ X.env.locals /\ (∀ x c, X.env.cells.lookup x = some c -> c ≠ b) /\ ∀ p ∈ X.pn ++ pins, p.1 ≠ b) :
    Inv X pins σ H' { s with heap:=h', gens:=g', drawn:=d', toks:=t' }:=by
  obtain ⟨m, ⟨o, es, ep, ho, r⟩, _⟩:=id I.loc
  obtain ⟨sl, hL⟩:=u.any ho I.free fun z=>(hch _ z).2.1 rfl
  exact I.step (ch:=ch) hch (fun b o hL hb hc e n=>u.keep b o e n (fun z=>(List.mem_cons.mp (I.stkSub b z)).elim hL hb) hc) (fun b o _ _ hc e n=>u.any e n hc) (fun b o hc e n=>u.free b o e n hc) (fun b o hc e=>u.there b o e hc) u.tups u.frzs u.tbls (fun m' hm=>by
    obtain ⟨o', es', ep', ho', r'⟩:=hm
    rw [ho] at ho'; cases ho'
    exact ⟨_, es', ep', hL, r'⟩) hok hg
theorem Inv.turned {t' : Nat} {it : Addr} (I : Inv X pins σ H s) (k : ∀ b o, b ≠ it -> s.heap.get? b = some o -> h'.get? b = some o) (hn : H it = none) (hL : it ≠ X.env.locals)
    (h1 : it ∈ X.ex ∨ X.s₀.heap.objs.size <= it) (h2 : ∀ x c, X.env.cells.lookup x = some c -> c ≠ it) (h3 : ∀ p ∈ X.pn ++ pins, p.1 ≠ it) : Inv X pins σ H { s with heap:=h', toks:=t' }:=by
  have nit : ∀ b u, H b = some u -> b ≠ it:=fun b u e z=>by rw [z, hn] at e; cases e
  refine I.step (g':=s.gens) (d':=s.drawn) (ch:=[it]) (fun b hb=>?_) (fun b o _ _ hc e _=>k b o (fun z=>hc (by simp [z])) e) (fun b o _ _ hc e _=>⟨o.slots, k b o (fun z=>hc (by simp [z])) e⟩) (fun _ _ _ _ n=>n)
    (fun b o hc e=>⟨o, k b o (fun z=>hc (by simp [z])) e⟩) (fun _ _ e=>e) (fun _ _ _ e=>e) (fun b ps e=>⟨#[], by rw [e]; simp⟩) (fun m hm=>?_) (fun b u e=>?_) I.bare
  . have e : b = it := by simpa using hb
    subst e
    exact ⟨h1, hL, h2, h3⟩
  . obtain ⟨o, es, ep, ho, r⟩ := hm
    exact ⟨o, es, ep, k _ o (Ne.symm hL) ho, r⟩
  . refine (I.hok b u e).stay (fun c v hc q => k c v ?_ q) (fun _ q => q) fun _ _ q => q
    rcases hc with z | z
    . rw [z]; exact nit b u e
    . exact nit c _ z
theorem Inv.tok (I : Inv X pins σ H s) (t : Nat) : Inv X pins σ H { s with toks:=t }:=I.un (h':=s.heap) (t':=t) Un.refl I.hok
theorem Inv.kept {t' : Nat} (I : Inv X pins σ H s) (k : ∀ b u, s.heap.get? b = some u -> h'.get? b = some u) : Inv X pins σ H { s with heap:=h', toks:=t' }:=I.un (Un.kept k) (I.hok.kept k)
theorem Inv.laid {a : Addr} {o : HO} {t' : Nat} (I : Inv X pins σ H s) (k : ∀ b u, s.heap.get? b = some u -> h'.get? b = some u) (hp : s.heap.objs.size <= a) (new : Yz X.prog X.w (upd H a o) h' a o) :
    Inv X pins σ (upd H a o) { s with heap:=h', toks:=t' }:=I.un (Un.laid k hp (I.hok.fresh hp)) (I.hok.laid k hp new)
theorem Inv.write {x e : Addr} {o : HO} {t' : Nat} (I : Inv X pins σ H s) (mu : Mut (H x)) (he : e = x ∨ H e = some (.own x)) (k : ∀ b u, b ≠ e -> s.heap.get? b = some u -> h'.get? b = some u) (heo : ∃ u, h'.get? e = some u)
    (new : Yz X.prog X.w (upd H x o) h' x o) : Inv X pins σ (upd H x o) { s with heap:=h', toks:=t' }:=I.un (Un.write mu he k heo) (I.hok.write mu he k heo new)
theorem Inv.weak {σ' : List (Option V)} (I : Inv X pins σ H s) (hl : σ'.length = σ.length) (w : ∀ (i : Nat) v, σ'[i]? = some (some v) -> σ[i]? = some (some v)) : Inv X pins σ' H s:=
  ⟨I.ok, I.os, I.bare, I.base, let ⟨m, hn, hl'⟩:=I.loc; ⟨m, hn, fun i x v e1 e2 e3=>hl' i x v e1 (w i v e2) e3⟩, I.cell, I.free, I.freeC, I.pin, I.hok, hl.trans I.len⟩
theorem Inv.pins_of {pins' : List (Addr × Obj)} (I : Inv X pins σ H s) (h : ∀ p ∈ pins', s.heap.get? p.1 = some p.2 /\ H p.1 = none /\ p.1 ≠ X.env.locals /\ p.1 ∉ X.fs /\ ∀ v, p.2.data ≠ .cell v) : Inv X pins' σ H s:=
  ⟨I.ok, I.os, I.bare, I.base, I.loc, I.cell, I.free, I.freeC, fun p hp=>(List.mem_append.mp hp).elim (fun z=>I.pin p (List.mem_append_left _ z)) (h p), I.hok, I.len⟩
theorem KY {N : List Str} (hN : N.Nodup) {i j : Nat} {x : Str} (a : N[i]? = some x) (b : N[j]? = some x) : i = j:=by
  obtain ⟨h1, e1⟩:=List.getElem?_eq_some_iff.mp a
  obtain ⟨h2, e2⟩:=List.getElem?_eq_some_iff.mp b
  exact (List.getElem_inj hN).mp (e1.trans e2.symm)
theorem UM {M : Model} {A : Around} {E : Value -> Shared -> Prop} {i : Nat} {x : Str} {v : V} {u : Value} {Q : Unit -> Shared -> Prop} (I : Inv X pins σ H s) (hN : X.N.Nodup) (hi : X.N[i]? = some x) (hx : Loc X.env.scope x) (r : X4 v u)
    (h : ∀ s', Inv X pins (σ.set i (some v)) H s' -> (∃ a, Heap.SameBut a s.heap s'.heap /\ (a = X.env.locals ∨ X.env.cells.lookup x = some a)) -> Q () s') (hf : X.fn x = true ∨ X.env.scope.names.lookup x = some .local:=by first | exact .inl rfl | exact .inr rfl | assumption) : wpAny M A (storeName X.env x u) Q E s:=by
  obtain ⟨m, hn, hl⟩:=id I.loc
  have hcls : (X.env.scope.kind == .class || (X.env.scope.kind == .module && X.env.locals != X.env.globals)) = false:=by rw [I.ok.kind]; rfl
  have hiσ : i < σ.length:=by rw [I.len]; exact (List.getElem?_eq_some_iff.mp hi).1
  have cne:=I.cne
  have tracked : ∀ {a : Addr} {h' : Heap}, (∃ o, s.heap.get? a = some o /\ H a = none) -> Heap.SameBut a s.heap h' -> HOk X.prog X.w H h':=fun {a h'} ha hs b ob e=>by
    obtain ⟨_, _, hfree⟩:=ha
    refine (I.hok b ob e).stay (fun c w' hc q=>(hs.2 c ?_).trans q) (fun _ q=>q) fun _ _ q=>q
    rintro rfl
    rcases hc with rfl | hc
    . rw [hfree] at e; cases e
    . rw [hfree] at hc; cases hc
  rcases hx with hk | hk
  . refine wpAny_storeName_local hk hn (fun h' hn' hs => ?_) hcls
    obtain ⟨oL, _, _, hoL, _⟩:=id hn
    refine h _ ⟨I.ok, I.os, I.bare, ⟨fun b o e n hb hx=>?_, fun b o e n hb hx=>?_, I.base.free, fun b o e hx=>?_, I.base.tups, I.base.frzs, I.base.tbls⟩, ⟨_, hn', fun j y v' e1 e2 e3=>?_⟩, fun y c e=>?_, I.free, I.freeC, fun p hp=>?_, tracked ⟨oL, hoL, I.free⟩ hs, by simpa using I.len⟩ ⟨_, hs, .inl rfl⟩
    . exact (hs.2 b (Nat.ne_of_lt (Nat.lt_of_lt_of_le (Heap.lt_size e) I.ok.above))).trans (I.base.keep b o e n hb hx)
    . obtain ⟨sl, e1⟩ := I.base.slot b o e n hb hx
      exact ⟨sl, (hs.2 b (Nat.ne_of_lt (Nat.lt_of_lt_of_le (Heap.lt_size e) I.ok.above))).trans e1⟩
    . obtain ⟨o', e1⟩ := I.base.there b o e hx
      exact ⟨o', (hs.2 b (Nat.ne_of_lt (Nat.lt_of_lt_of_le (Heap.lt_size e) I.ok.above))).trans e1⟩
    . by_cases hj : j = i
      . subst hj
        rw [hi] at e1; cases e1
        rw [List.getElem?_set_self hiσ] at e2
        cases e2
        exact ⟨u, r, .inl ⟨hk, by simp⟩⟩
      . rw [List.getElem?_set_ne (Ne.symm hj)] at e2
        obtain ⟨u', r', q⟩:=hl j y v' e1 e2 e3
        refine ⟨u', r', ?_⟩
        rcases q with ⟨k, e⟩ | ⟨k, c, e, z⟩
        . refine .inl ⟨k, ?_⟩
          have : y ≠ x:=fun e=>hj (KY hN e1 (e ▸ hi))
          simp [this, e]
        . exact .inr ⟨k, c, e, z.sameBut hs (cne y c e)⟩
    . obtain ⟨w', z⟩ := I.cell y c e
      exact ⟨w', z.sameBut hs (cne y c e)⟩
    . obtain ⟨e, n, ne, nf, d⟩ := I.pin p hp
      exact ⟨(hs.2 p.1 ne).trans e, n, ne, nf, d⟩
  . have hfn : X.fn x = true:=by
      rcases hf with z | z
      . exact z
      . rw [z] at hk; cases hk
    obtain ⟨c, hc⟩:=I.ok.has x (.inl hk)
    obtain ⟨w', z⟩:=I.cell x c hc
    refine wpAny_storeName_cell I.ok.kind hk hc z (fun h' hc' hs=>?_)
    obtain ⟨oc, hoc, hocd⟩:=id z
    refine h { s with heap:=h' } ⟨I.ok, I.os, I.bare, ⟨fun b o e n hb hx=>?_, fun b o e n hb hx=>?_, I.base.free, fun b o e hx=>?_, I.base.tups, I.base.frzs, I.base.tbls⟩, ⟨m, hn.sameBut hs (Ne.symm (cne x c hc)), fun j y v' e1 e2 e3=>?_⟩, fun y c' e=>?_, I.free, I.freeC, fun p hp=>?_, tracked ⟨oc, hoc, I.freeC x c hc⟩ hs, by simpa using I.len⟩ ⟨c, hs, .inr hc⟩
    . exact (hs.2 b (Nat.ne_of_lt (Nat.lt_of_lt_of_le (Heap.lt_size e) (I.ok.cab x c hfn hc)))).trans (I.base.keep b o e n hb hx)
    . obtain ⟨sl, e1⟩ := I.base.slot b o e n hb hx
      exact ⟨sl, (hs.2 b (Nat.ne_of_lt (Nat.lt_of_lt_of_le (Heap.lt_size e) (I.ok.cab x c hfn hc)))).trans e1⟩
    . obtain ⟨o', e1⟩ := I.base.there b o e hx
      exact ⟨o', (hs.2 b (Nat.ne_of_lt (Nat.lt_of_lt_of_le (Heap.lt_size e) (I.ok.cab x c hfn hc)))).trans e1⟩
    . by_cases hj : j = i
      . subst hj
        rw [hi] at e1; cases e1
        rw [List.getElem?_set_self hiσ] at e2
        cases e2
        exact ⟨u, r, .inr ⟨.inl hk, c, hc, hc'⟩⟩
      . rw [List.getElem?_set_ne (Ne.symm hj)] at e2
        obtain ⟨u', r', q⟩:=hl j y v' e1 e2 e3
        refine ⟨u', r', ?_⟩
        rcases q with q | ⟨k, c', e, z'⟩
        . exact .inl q
        . refine .inr ⟨k, c', e, z'.sameBut hs ?_⟩
          rintro rfl
          exact hj (KY hN e1 (I.ok.inj _ _ _ e hc ▸ hi))
    . by_cases hcc : c' = c
      . subst hcc; exact ⟨_, hc'⟩
      . obtain ⟨w2, z2⟩ := I.cell y c' e
        exact ⟨w2, z2.sameBut hs hcc⟩
    . obtain ⟨e, n, ne, nf, d⟩ := I.pin p hp
      refine ⟨(hs.2 p.1 ?_).trans e, n, ne, nf, d⟩
      intro q
      rw [q, hoc] at e
      have q' : oc = p.2:=Option.some.inj e
      exact d w' (by rw [← q']; exact hocd)
theorem ZC {M : Model} {A : Around} {E : Value -> Shared -> Prop} {i : Nat} {x : Str} {v : V} {u : Value} {Q : Unit -> Shared -> Prop} (I : Inv X pins σ H s) (hN : X.N.Nodup) (hi : X.N[i]? = some x) (hx : Loc X.env.scope x) (r : X4 v u)
    (h : ∀ s', Inv X pins (σ.set i (some v)) H s' -> Q () s') (hf : X.fn x = true ∨ X.env.scope.names.lookup x = some .local:=by first | exact .inl rfl | exact .inr rfl | assumption) : wpAny M A (storeName X.env x u) Q E s:=
  UM I hN hi hx r (fun s' I' _=>h s' I') hf
theorem Inv.call' {s' : Shared} {ch : List Addr} (I : Inv X pins σ H s) (ho : s'.os = s.os) (u : Un (frs X.stack) ch H H' s.heap s'.heap) (hok : HOk X.prog X.w H' s'.heap) (hg : AllBare s'.gens)
    (hch : ∀ b ∈ ch, (b ∈ X.ex ∨ X.s₀.heap.objs.size <= b) /\ b ≠ X.env.locals /\ (∀ x c, X.env.cells.lookup x = some c -> c ≠ b) /\ ∀ p ∈ X.pn ++ pins, p.1 ≠ b) : Inv X pins σ H' s':=by
  obtain ⟨h', g', d', t', o'⟩:=s'
  have e : o' = s.os:=ho
  subst e
  exact I.call (g':=g') (t':=t') (d':=d') u hok hg hch
end
noncomputable abbrev XK:=Value -> Option Addr -> Hp -> Prop
noncomputable abbrev St:=List (Option V)
noncomputable abbrev VK:=V -> Hp -> Prop
noncomputable abbrev TE:=St -> Hp -> VK -> Prop
noncomputable abbrev TT:=St -> Hp -> (Bool -> Hp -> Prop) -> Prop
noncomputable abbrev TA:=St -> Hp -> (List V -> Hp -> Prop) -> Prop
structure Ends where
  nx : St -> Hp -> Prop
  rt : VK
  bk : St -> Hp -> Prop:=fun _ _=>False
  ct : St -> Hp -> Prop:=fun _ _=>False
noncomputable abbrev TS:=Ends -> St -> Hp -> Prop
noncomputable def EP (X : Cx) (pins : List (Addr × Obj)) (σ : St) (Q : VK) (u : Value) (s' : Shared) : Prop:=∃ v H', Inv X pins σ H' s' /\ X4 v u /\ Q v H'
noncomputable def TP (X : Cx) (pins : List (Addr × Obj)) (σ : St) (Q : Bool -> Hp -> Prop) (b : Bool) (s' : Shared) : Prop:=∃ H', Inv X pins σ H' s' /\ Q b H'
noncomputable def AP (X : Cx) (pins : List (Addr × Obj)) (σ : St) (Q : List V -> Hp -> Prop) (us : List Value) (s' : Shared) : Prop:=∃ vs H', Inv X pins σ H' s' /\ X5 vs us /\ Q vs H'
noncomputable def SP (X : Cx) (pins : List (Addr × Obj)) (D : Ends) (f : Flow) (s' : Shared) : Prop:=
  match f with
  | .next=>∃ σ' H', Inv X pins σ' H' s' /\ D.nx σ' H'
  | .brk=>∃ σ' H', Inv X pins σ' H' s' /\ D.bk σ' H'
  | .cont=>∃ σ' H', Inv X pins σ' H' s' /\ D.ct σ' H'
  | .ret u=>∃ v σ' H', Inv X pins σ' H' s' /\ X4 v u /\ D.rt v H'
noncomputable def PE (X : Cx) (e : Expr) (t : TE) : Prop:=
  ∀ (pins : List (Addr × Obj)) (s : Shared) (σ : St) (H : Hp) (Q : VK), Inv X pins σ H s -> t σ H Q -> wpAny (model X.prog X.w) X.A (eval e X.env) (EP X pins σ Q) X.xe s
noncomputable def PT (X : Cx) (e : Expr) (t : TT) : Prop:=
  ∀ (pins : List (Addr × Obj)) (s : Shared) (σ : St) (H : Hp) (Q : Bool -> Hp -> Prop), Inv X pins σ H s -> t σ H Q -> wpAny (model X.prog X.w) X.A (isTrue e X.env (eval e X.env)) (TP X pins σ Q) X.xe s
noncomputable def PW (X : Cx) (e : Expr) (t : TT) : Prop:=
  ∀ (whole : Sem Value) (pins : List (Addr × Obj)) (s : Shared) (σ : St) (H : Hp) (Q : Bool -> Hp -> Prop), Inv X pins σ H s -> t σ H Q -> wpAny (model X.prog X.w) X.A (isTrue e X.env whole) (TP X pins σ Q) X.xe s
theorem PW.pt {X : Cx} {e : Expr} {t : TT} (h : PW X e t) : PT X e t:=h _
noncomputable def PA (X : Cx) (es : List Expr) (t : TA) : Prop:=
  ∀ (pos : Pos) (pins : List (Addr × Obj)) (s : Shared) (σ : St) (H : Hp) (Q : List V -> Hp -> Prop), Inv X pins σ H s -> t σ H Q -> wpAny (model X.prog X.w) X.A (spliced (backTo pos (starEach es X.env))) (AP X pins σ Q) X.xe s
noncomputable def PS (X : Cx) (st : Stmt) (t : TS) : Prop:=
  ∀ (pins : List (Addr × Obj)) (s : Shared) (σ : St) (H : Hp) (D : Ends), Inv X pins σ H s -> t D σ H -> wpAny (model X.prog X.w) X.A (exec st X.env) (SP X pins D) X.xe s
noncomputable def PSs (X : Cx) (st : List Stmt) (t : TS) : Prop:=
  ∀ (pins : List (Addr × Obj)) (s : Shared) (σ : St) (H : Hp) (D : Ends), Inv X pins σ H s -> t D σ H -> wpAny (model X.prog X.w) X.A (execs st X.env) (SP X pins D) X.xe s
theorem thn {α : Type} {t : Sem α} {Q Q' : α -> Shared -> Prop} {M : Model} {A : Around} {E : Value -> Shared -> Prop} {s : Shared} (h : wpAny M A t Q E s) (hQ : ∀ a s, Q a s -> Q' a s) : wpAny M A t Q' E s:=wpAny_mono h hQ fun _ _ x=>x
end L2
namespace L2
open PySem PySem.Spec PyProof.Rows
section
variable {X : Cx}
noncomputable def US (i : Nat) : TE:=fun σ H Q=>∃ v, σ[i]? = some (some v) /\ Q v H
noncomputable def tC (v : V) : TE:=fun _ H Q=>Q v H
theorem Hk {i : Nat} {x : Str} {pos : Pos} (hN : X.N[i]? = some x) (hv : Vis X.env.scope x) (hd : (x == ("__debug__" : Str)) = false:=by decide) (hcd : (x == ("__classdict__" : Str)) = false:=by decide) : PE X (.Name x pos) (US i):=by
  intro pins s σ H Q I h
  obtain ⟨v, e, h⟩:=h
  obtain ⟨m, hn, hl⟩:=I.loc
  obtain ⟨u, r, l⟩:=hl i x v hN e hv
  have fin : EP X pins σ Q u s:=⟨v, H, I, r, h⟩
  rcases l with ⟨hk, hm⟩ | ⟨hk, c, hc, hcell⟩
  . exact wpAny_Name (wpAny_loadName_local I.ok.kind hk hn hm fin) hd
  . rcases hk with hk | hk
    . exact wpAny_Name (wpAny_loadName_cell I.ok.kind hk hc hcell fin) hd
    . exact wpAny_Name (wpAny_loadName_free I.ok.kind hk hc hcell fin hcd) hd
theorem Xg {i j pos} : PE X (.Constant (.int i) j pos) (tC (.int i)):=fun _ _ _ H _ I h=>wpAny_Constant_int ⟨.int i, H, I.tok _, ⟨_, rfl⟩, h⟩
theorem JJ {b j pos} : PE X (.Constant (.bool b) j pos) (tC (.bl b)):=fun _ _ _ H _ I h=>Constant_bool ⟨.bl b, H, I, rfl, h⟩
theorem BL {j pos} : PE X (.Constant .none j pos) (tC .non):=fun _ _ _ H _ I h=>Constant_none ⟨.non, H, I, rfl, h⟩
noncomputable def Gl (X : Cx) (x : Str) : Prop:=X.env.kindOf x = some .globalImplicit
theorem Dm {E : Value -> Shared -> Prop} {pins : List (Addr × Obj)} {s : Shared} {σ : St} {H : Hp} {x : Str} {u : Value} {pos : Pos} {Q : Value -> Shared -> Prop} (I : Inv X pins σ H s) (hg : Gl X x) (hm : X.mg x = some u) (h : Q u s)
    (hd : (x == ("__debug__" : Str)) = false:=by decide) : wpAny (model X.prog X.w) X.A (eval (.Name x pos) X.env) Q E s:=
  Calls.Name_function_global I.ok.kind hg (Calls.loadGlobal_global (by rw [I.ok.glob]; exact I.mod.glob.keeps I.bk) hm h) hd
theorem Ve {E : Value -> Shared -> Prop} {pins : List (Addr × Obj)} {s : Shared} {σ : St} {H : Hp} {x : Str} {u : Value} {pos : Pos} {Q : Value -> Shared -> Prop} (I : Inv X pins σ H s) (hg : Gl X x) (hm : X.mg x = none) (hv : bootBuiltins x = some u) (h : Q u s)
    (hn : x ≠ "__name__":=by decide) (hd : (x == ("__debug__" : Str)) = false:=by decide) : wpAny (model X.prog X.w) X.A (eval (.Name x pos) X.env) Q E s:=by
  obtain ⟨mb, h1, h2⟩:=I.mod.blt
  exact Calls.Name_function_global I.ok.kind hg (Calls.loadGlobal_builtin (by rw [I.ok.glob]; exact I.mod.glob.keeps I.bk) hm (by rw [I.ok.blt]; exact h1.keeps I.bk) ((h2 x hn).trans hv) h) hd
theorem El {x : Str} {v : V} {u : Value} {pos : Pos} (hg : Gl X x) (hm : X.mg x = some u) (r : X4 v u) (hd : (x == ("__debug__" : Str)) = false:=by decide) : PE X (.Name x pos) (tC v):=
  fun _ _ _ H _ I h=>Dm I hg hm ⟨v, H, I, r, h⟩ hd
theorem EK {x : Str} {v : V} {u : Value} {pos : Pos} (hg : Gl X x) (hm : X.mg x = none) (hv : bootBuiltins x = some u) (r : X4 v u) (hn : x ≠ "__name__":=by decide) (hd : (x == ("__debug__" : Str)) = false:=by decide) : PE X (.Name x pos) (tC v):=
  fun _ _ _ H _ I h=>Ve I hg hm hv ⟨v, H, I, r, h⟩ hn hd
variable {a b : Expr} {ta tb : TE} {pos : Pos}
noncomputable def PC (X : Cx) (op : CmpOp) (a b : Expr) (t : TE) : Prop:=
  ∀ (pins : List (Addr × Obj)) (s : Shared) (σ : St) (H : Hp) (Q : VK), Inv X pins σ H s -> t σ H Q ->
    wpAny (model X.prog X.w) X.A (eval a X.env) (fun v s₁=>wpAny (model X.prog X.w) X.A (eval b X.env) (fun u s₂=>wpAny (model X.prog X.w) X.A (compareOp op v u) (EP X pins σ Q) X.xe s₂) X.xe s₁) X.xe s
theorem K7 (b : Expr) {op : CmpOp} (h : op ≠ .In) (h2 : op ≠ .NotIn) : behindInMarks op b = false:=by
  have e1 : (op == CmpOp.In) = false:=by cases op <;> first | rfl | exact absurd rfl h
  have e2 : (op == CmpOp.NotIn) = false:=by cases op <;> first | rfl | exact absurd rfl h2
  cases b <;> simp [behindInMarks, e1, e2]
noncomputable def tB (t : TE) : TT:=fun σ H Q=>t σ H fun x H1=>∃ c, x = .bl c /\ Q c H1
theorem Ia {op : CmpOp} {t : TE} (h : PC X op a b t) (h1 : behindInMarks op b = false:=by first | exact K7 _ (by decide) (by decide) | rfl) : PE X (.Compare a [op] [b] pos) t:=fun pins s σ H Q I hw=>wpAny_Compare1 (h pins s σ H Q I hw) h1
theorem HB {op : CmpOp} {t : TE} (h : PC X op a b t) (h1 : behindInMarks op b = false:=by first | exact K7 _ (by decide) (by decide) | rfl) : PT X (.Compare a [op] [b] pos) (tB t):=by
  intro pins s σ H Q I hw
  refine wpAny_isTrue_Compare1 (thn (h pins s σ H _ I hw) fun v s1 h1=>thn h1 fun u s2 h2=>thn h2 fun c s3 ⟨x, H1, I1, r1, q1⟩=>?_) h1
  obtain ⟨d, rfl, q⟩:=q1
  cases r1
  exact wpAny_truthy_bool ⟨H1, I1, q⟩
theorem Vb {e : Expr} {t : TE} (h : PE X e t) (he : ∀ whole, isTrue e X.env whole = (do let v ← whole; standAt e.pos; holding [v] (truthy v)):=by intro _; rfl) : PT X e (tB t):=by
  intro pins s σ H Q I hw
  refine isTrue_plain (thn (h pins s σ H _ I hw) fun v s1 ⟨x, H1, I1, r1, q1⟩=>?_) (he _)
  obtain ⟨d, rfl, q⟩:=q1
  cases r1
  exact wpAny_truthy_bool ⟨H1, I1, q⟩
variable {tA tB' : TT} {ZG : List Expr}
noncomputable def Lp (t u : TT) : TT:=fun σ H Q=>t σ H fun c H1=>if c = true then u σ H1 Q else Q false H1
noncomputable def tOr (t u : TT) : TT:=fun σ H Q=>t σ H fun c H1=>if c = true then Q true H1 else u σ H1 Q
noncomputable def LE (t : TT) : TT:=fun σ H Q=>t σ H fun c H1=>Q (!c) H1
theorem Zy (ha : PT X a tA) : PW X (.BoolOp .And [a] pos) tA:=by
  intro wh pins s σ H Q I h
  refine isTrue_and (thn (ha pins s σ H Q I h) fun c s1 e=>?_)
  cases c with
  | true=>exact isTrue_and_nil e
  | false=>exact e
theorem Vj (ha : PT X a tA) : PW X (.BoolOp .Or [a] pos) tA:=by
  intro wh pins s σ H Q I h
  refine isTrue_or (thn (ha pins s σ H Q I h) fun c s1 e=>?_)
  cases c with
  | false=>exact isTrue_or_nil e
  | true=>exact e
theorem Y4 (ha : PT X a tA) (hb : PW X (.BoolOp .And (b :: ZG) pos) tB') : PW X (.BoolOp .And (a :: b :: ZG) pos) (Lp tA tB'):=by
  intro wh pins s σ H Q I h
  refine isTrue_and (thn (ha pins s σ H _ I h) fun c s1 ⟨H1, I1, q1⟩=>?_)
  cases c with
  | true=>exact hb wh pins s1 σ H1 Q I1 q1
  | false=>exact ⟨H1, I1, q1⟩
theorem UT (ha : PT X a tA) (hb : PW X (.BoolOp .Or (b :: ZG) pos) tB') : PW X (.BoolOp .Or (a :: b :: ZG) pos) (tOr tA tB'):=by
  intro wh pins s σ H Q I h
  refine isTrue_or (thn (ha pins s σ H _ I h) fun c s1 ⟨H1, I1, q1⟩=>?_)
  cases c with
  | true=>exact ⟨H1, I1, q1⟩
  | false=>exact hb wh pins s1 σ H1 Q I1 q1
theorem D0 (ha : PT X a tA) : PT X (.UnaryOp .Not a pos) (LE tA):=by
  intro pins s σ H Q I h
  exact isTrue_not (ha pins s σ H (fun c H1=>Q (!c) H1) I h)
noncomputable def Hq (ta tb : TE) : TE:=fun σ H Q=>ta σ H fun x H1=>∃ c, x = .bl c /\ if c = true then tb σ H1 Q else Q (.bl false) H1
noncomputable def LD (ta tb : TE) : TE:=fun σ H Q=>ta σ H fun x H1=>∃ c, x = .bl c /\ if c = true then Q (.bl true) H1 else tb σ H1 Q
noncomputable def HI (ta : TE) : TE:=fun σ H Q=>ta σ H fun x H1=>∃ c, x = .bl c /\ Q (.bl (!c)) H1
theorem K2 {op} {t : TE} (h : PE X a t) : PE X (.BoolOp op [a] pos) t:=fun pins s σ H Q I hw=>BoolOp_one (h pins s σ H Q I hw)
theorem KC (ha : PE X a ta) (hb : PE X (.BoolOp .And (b :: ZG) pos) tb) : PE X (.BoolOp .And (a :: b :: ZG) pos) (Hq ta tb):=by
  intro pins s σ H Q I h
  refine BoolOp_and (thn (ha pins s σ H _ I h) fun v s1 ⟨x, H1, I1, r1, q1⟩=>?_)
  obtain ⟨c, rfl, q1⟩:=q1
  cases r1
  refine wpAny_truthy_bool ?_
  cases c with
  | true=>exact hb pins s1 σ H1 Q I1 q1
  | false=>exact ⟨.bl false, H1, I1, rfl, q1⟩
theorem IU (ha : PE X a ta) (hb : PE X (.BoolOp .Or (b :: ZG) pos) tb) : PE X (.BoolOp .Or (a :: b :: ZG) pos) (LD ta tb):=by
  intro pins s σ H Q I h
  refine BoolOp_or (thn (ha pins s σ H _ I h) fun v s1 ⟨x, H1, I1, r1, q1⟩=>?_)
  obtain ⟨c, rfl, q1⟩:=q1
  cases r1
  refine wpAny_truthy_bool ?_
  cases c with
  | false=>exact hb pins s1 σ H1 Q I1 q1
  | true=>exact ⟨.bl true, H1, I1, rfl, q1⟩
theorem Ic (ha : PE X a ta) : PE X (.UnaryOp .Not a pos) (HI ta):=by
  intro pins s σ H Q I h
  refine UnaryOp_ (thn (ha pins s σ H _ I h) fun v s1 ⟨x, H1, I1, r1, q1⟩=>?_)
  obtain ⟨c, rfl, q1⟩:=q1
  cases r1
  exact not_of (wpAny_truthy_bool ⟨.bl (!c), H1, I1, rfl, q1⟩)
end
end L2
namespace L2
open PySem PySem.Spec PyProof.Rows
noncomputable def SqL (K : PySem.W.Frag) (H : Hp) (a : Addr) (xs : List V) : Prop:=
  Rd H a (.lst xs) ∨
    ∃ (o : Obj) (its : Array Value) (n : Nat), K.lookup a = some o /\ o.cls = .type "list" /\ o.dict = none /\ o.data = .seq its n /\ its.size <= sizeLine /\ X5 xs its.toList
noncomputable def SqT (K : PySem.W.Frag) (H : Hp) (a : Addr) (xs : List V) : Prop:=
  Rd H a (.tup xs) ∨
    ∃ (o : Obj) (its : Array Value) (n : Nat), K.lookup a = some o /\ o.cls = .type "tuple" /\ o.data = .seq its n /\ its.size <= sizeLine /\ X5 xs its.toList
noncomputable def LO : Value -> Option V
  | .none=>some .non
  | .bool b=>some (.bl b)
  | .int i _=>some (.int i)
  | .str x _=>some (.str x)
  | .bytes b _=>some (.byt b)
  | .float b _=>some (.flt b)
  | .ref a=>some (.ref a)
  | .type n=>some (.ty n)
  | _=>none
theorem X4.abs {x : V} {u : Value} (r : X4 x u) : LO u = some x:=by
  cases x with
  | non=>cases r; rfl
  | bl _=>cases r; rfl
  | int _=>obtain ⟨t, rfl⟩:=r; rfl
  | str _=>obtain ⟨t, rfl⟩:=r; rfl
  | byt _=>obtain ⟨t, rfl⟩:=r; rfl
  | flt _=>obtain ⟨t, rfl⟩:=r; rfl
  | ref _=>cases r; rfl
  | ty _=>cases r; rfl
theorem X4.inj {x y : V} {u : Value} (r : X4 x u) (q : X4 y u) : x = y:=Option.some.inj (r.abs.symm.trans q.abs)
theorem X5.inj : ∀ {xs ys : List V} {us : List Value}, X5 xs us -> X5 ys us -> xs = ys
  | _, _, _, .nil, .nil=>rfl
  | _, _, _, .cons r t, .cons r' t'=>by rw [r.inj r', X5.inj t t']
section
variable {X : Cx} {pins : List (Addr × Obj)} {σ : St} {H : Hp} {s : Shared} {a : Addr} {xs ys : List V}
theorem SqL.of {K : PySem.W.Frag} (h : H a = some (.lst xs)) : SqL K H a xs:=.inl (.inl h)
theorem SqT.of {K : PySem.W.Frag} (h : H a = some (.tup xs)) : SqT K H a xs:=.inl (.inl h)
theorem Inv.list (I : Inv X pins σ H s) (h : SqL X.K H a xs) : ∃ its : List Value, X5 xs its /\ PlainL s.heap a its.toArray /\ xs.length <= sizeLine:=by
  rcases h with h | ⟨o, its, n, hk, hc, hd, hs, hz, r⟩
  . obtain ⟨z, its, n, r, e⟩ := h.ok I.hok
    exact ⟨its, r, ⟨_, n, e, rfl, rfl, rfl⟩, z⟩
  . refine ⟨its.toList, r, ⟨o, n, I.kIn a o hk, hc, hd, by simpa using hs⟩, ?_⟩
    have e:=r.length
    simp only [Array.length_toList] at e
    omega
theorem Inv.tuple (I : Inv X pins σ H s) (h : SqT X.K H a xs) : ∃ its : List Value, X5 xs its /\ IsTup s.heap a its.toArray /\ xs.length <= sizeLine:=by
  rcases h with h | ⟨o, its, n, hk, hc, hs, hz, r⟩
  . obtain ⟨z, its, r, p⟩ := h.ok I.hok
    exact ⟨its, r, p.t, z⟩
  . refine ⟨its.toList, r, ⟨o, I.kIn a o hk, hc, n, by simpa using hs⟩, ?_⟩
    have e:=r.length
    simp only [Array.length_toList] at e
    omega
theorem Inv.list_inj (I : Inv X pins σ H s) (h : SqL X.K H a xs) (h' : SqL X.K H a ys) : xs = ys:=by
  obtain ⟨its, r, ⟨o, n, e, _, _, d⟩, _⟩:=I.list h
  obtain ⟨its', r', ⟨o', n', e', _, _, d'⟩, _⟩:=I.list h'
  rw [e] at e'; cases e'
  rw [d] at d'
  injection d' with d1 _
  have : its = its':=by simpa using congrArg Array.toList d1
  subst this
  exact r.inj r'
theorem Inv.tuple_inj (I : Inv X pins σ H s) (h : SqT X.K H a xs) (h' : SqT X.K H a ys) : xs = ys:=by
  obtain ⟨its, r, ⟨o, e, _, n, d⟩, _⟩:=I.tuple h
  obtain ⟨its', r', ⟨o', e', _, n', d'⟩, _⟩:=I.tuple h'
  rw [e] at e'; cases e'
  rw [d] at d'
  injection d' with d1 _
  have : its = its':=by simpa using congrArg Array.toList d1
  subst this
  exact r.inj r'
end
noncomputable abbrev Cx.wish (X : Cx) (E : Value -> Shared -> Prop) : Cx:={ X with xe:=E }
noncomputable abbrev Cx.nox (X : Cx) : Cx:=X.wish fun _ _=>False
theorem Cx.Ok.wish {X : Cx} (ok : X.Ok) (E : Value -> Shared -> Prop) : (X.wish E).Ok:=
  ⟨ok.mod, ok.kind, ok.glob, ok.blt, ok.above, ok.inj, ok.has, ok.cab, ok.hd, ok.frames, ok.stk, ok.exf, ok.bs, ok.bsz, ok.noex, ok.exfs, ok.funs, ok.frf⟩
theorem Cx.Ok.unwish {X : Cx} {E : Value -> Shared -> Prop} (ok : (X.wish E).Ok) : X.Ok:=
  ⟨ok.mod, ok.kind, ok.glob, ok.blt, ok.above, ok.inj, ok.has, ok.cab, ok.hd, ok.frames, ok.stk, ok.exf, ok.bs, ok.bsz, ok.noex, ok.exfs, ok.funs, ok.frf⟩
section
variable {X : Cx} {pins : List (Addr × Obj)} {σ : St} {H : Hp} {s : Shared} {E : Value -> Shared -> Prop}
theorem Inv.wish (I : Inv X pins σ H s) (E : Value -> Shared -> Prop) : Inv (X.wish E) pins σ H s:=⟨I.ok.wish E, I.os, I.bare, I.base, I.loc, I.cell, I.free, I.freeC, I.pin, I.hok, I.len⟩
theorem Inv.unwish (I : Inv (X.wish E) pins σ H s) : Inv X pins σ H s:=⟨I.ok.unwish, I.os, I.bare, I.base, I.loc, I.cell, I.free, I.freeC, I.pin, I.hok, I.len⟩
theorem SP.unwish {D : Ends} {f : Flow} {s' : Shared} (h : SP (X.wish E) pins D f s') : SP X pins D f s':=by
  cases f with
  | next=>obtain ⟨σ', H', I, q⟩:=h; exact ⟨σ', H', I.unwish, q⟩
  | brk=>obtain ⟨σ', H', I, q⟩:=h; exact ⟨σ', H', I.unwish, q⟩
  | cont=>obtain ⟨σ', H', I, q⟩:=h; exact ⟨σ', H', I.unwish, q⟩
  | ret u=>obtain ⟨v, σ', H', I, r, q⟩:=h; exact ⟨v, σ', H', I.unwish, r, q⟩
theorem PE.nox {e : Expr} {t : TE} (h : PE X.nox e t) : PE X e t:=fun pins s σ H Q I hw=>
  wpAny_mono (h pins s σ H Q (I.wish _) hw) (fun _ _ ⟨v, H', I', r, q⟩=>⟨v, H', I'.unwish, r, q⟩) fun _ _ z=>False.elim z
theorem PT.nox {e : Expr} {t : TT} (h : PT X.nox e t) : PT X e t:=fun pins s σ H Q I hw=>
  wpAny_mono (h pins s σ H Q (I.wish _) hw) (fun _ _ ⟨H', I', q⟩=>⟨H', I'.unwish, q⟩) fun _ _ z=>False.elim z
theorem PSs.nox {st : List Stmt} {t : TS} (h : PSs X.nox st t) : PSs X st t:=fun pins s σ H D I hw=>
  wpAny_mono (h pins s σ H D (I.wish _) hw) (fun _ _ q=>q.unwish) fun _ _ z=>False.elim z
end
section
variable {X : Cx} {st : Stmt} {ZG : List Stmt} {t u : TS} {e : Expr} {te : TE} {pos : Pos}
noncomputable def Fq : TS:=fun D σ H=>D.nx σ H
noncomputable def JL (t u : TS) : TS:=fun D σ H=>t { D with nx:=u D } σ H
theorem Xh : PSs X [] Fq:=fun _ _ σ H _ I h=>wpAny_execs_nil ⟨σ, H, I, h⟩
theorem Xd (h1 : PS X st t) (h2 : PSs X ZG u) : PSs X (st :: ZG) (JL t u):=by
  intro pins s σ H D I h
  refine wpAny_execs_cons (thn (h1 pins s σ H { D with nx:=u D } I h) fun f s1 q=>?_)
  cases f with
  | next=>
    obtain ⟨σ', H', I', q⟩:=q
    exact h2 pins s1 σ' H' D I' q
  | ret v=>exact q
  | brk=>exact q
  | cont=>exact q
theorem Inv.quiet {pins : List (Addr × Obj)} {σ : St} {H : Hp} {s : Shared} (I : Inv X pins σ H s) : interactive X.env = false:=by simp [interactive, I.ok.kind]
noncomputable def Ba (te : TE) : TS:=fun D σ H=>te σ H fun _ H1=>D.nx σ H1
theorem YH (he : PE X e te) (hs : swapsWith e none pos.line X.env = pure false:=by rfl) : PS X (.Expr e pos) (Ba te):=by
  intro pins s σ H D I h
  exact wpAny_Expr_any (thn (he pins s σ H _ I h) fun v s1 ⟨x, H1, I1, r1, q1⟩=>⟨σ, H1, I1, q1⟩) I.quiet hs
noncomputable def Ln (te : TE) : TS:=fun D σ H=>te σ H D.rt
theorem XE (he : PE X e te) : PS X (.Return (some e) pos) (Ln te):=by
  intro pins s σ H D I h
  exact wpAny_Return_some (thn (he pins s σ H _ I h) fun v s1 ⟨x, H1, I1, r1, q1⟩=>⟨x, σ, H1, I1, r1, q1⟩)
noncomputable def Hj (c : TT) (t u : TS) : TS:=fun D σ H=>c σ H fun b H1=>if b = true then t D σ H1 else u D σ H1
theorem X8 {c : Expr} {a b : List Stmt} {tc : TT} (hc : PT X c tc) (ha : PSs X a t) (hb : PSs X b u) : PS X (.If c a b pos) (Hj tc t u):=by
  intro pins s σ H D I h
  refine wpAny_If (thn (hc pins s σ H _ I h) fun d s1 ⟨H1, I1, q1⟩=>?_)
  cases d with
  | true=>exact ha pins s1 σ H1 D I1 q1
  | false=>exact hb pins s1 σ H1 D I1 q1
noncomputable def Iy : TS:=fun _ _ _=>False
theorem Cm : PS X st Iy:=fun _ _ _ _ _ _ h=>h.elim
end
noncomputable abbrev TG:=V -> St -> Hp -> (St -> Hp -> Prop) -> Prop
noncomputable abbrev TGs:=List V -> St -> Hp -> (St -> Hp -> Prop) -> Prop
noncomputable def PG (X : Cx) (target : Expr) (t : TG) : Prop:=
  ∀ (pins : List (Addr × Obj)) (s : Shared) (σ : St) (H : Hp) (v : V) (u : Value) (Q : St -> Hp -> Prop), Inv X pins σ H s -> X4 v u -> t v σ H Q ->
    wpAny (model X.prog X.w) X.A (assign target X.env u) (fun _ s'=>∃ σ' H', Inv X pins σ' H' s' /\ Q σ' H') X.xe s
noncomputable def PGs (X : Cx) (ts : List Expr) (t : TGs) : Prop:=
  ∀ (pins : List (Addr × Obj)) (s : Shared) (σ : St) (H : Hp) (vs : List V) (us : List Value) (Q : St -> Hp -> Prop), Inv X pins σ H s -> X5 vs us -> t vs σ H Q ->
    wpAny (model X.prog X.w) X.A (assignInOrder ((assignEach ts X.env).map (·.2)) us) (fun _ s'=>∃ σ' H', Inv X pins σ' H' s' /\ Q σ' H') X.xe s
noncomputable abbrev IY:=V -> V -> V -> Hp -> (Hp -> Prop) -> Prop
noncomputable def Lr (X : Cx) (t : IY) : Prop:=
  ∀ (pins : List (Addr × Obj)) (s : Shared) (σ : St) (H : Hp) (o i v : V) (ov iv u : Value) (Q : Hp -> Prop), Inv X pins σ H s -> X4 o ov -> X4 i iv -> X4 v u -> t o i v H Q ->
    wpAny (model X.prog X.w) X.A (setItem ov iv u) (fun _ s'=>∃ H', Inv X pins σ H' s' /\ Q H') X.xe s
section
variable {X : Cx} {pos : Pos}
noncomputable def ZV (i : Nat) : TG:=fun v σ H Q=>Q (σ.set i (some v)) H
theorem Xz {i : Nat} {x : Str} (hN : X.N.Nodup) (hi : X.N[i]? = some x) (hx : Loc X.env.scope x) (hf : X.fn x = true ∨ X.env.scope.names.lookup x = some .local:=by first | exact .inl rfl | exact .inr rfl | assumption) : PG X (.Name x pos) (ZV i):=by
  intro pins s σ H v u Q I r h
  exact wpAny_assign_Name (ZC I hN hi hx r (fun s' I'=>⟨_, H, I', h⟩) hf)
noncomputable def II : TGs:=fun vs σ H Q=>vs = [] /\ Q σ H
noncomputable def Vx (t : TG) (u : TGs) : TGs:=fun vs σ H Q=>∃ v r, vs = v :: r /\ t v σ H fun σ' H'=>u r σ' H' Q
theorem Ki : PGs X [] II:=by
  intro pins s σ H vs us Q I r h
  obtain ⟨e, h⟩:=h
  subst e
  cases r
  exact assignInOrder_nil ⟨σ, H, I, h⟩
theorem Zs {e : Expr} {es : List Expr} {t : TG} {u : TGs} (h1 : PG X e t) (h2 : PGs X es u)
    (hs : (assignEach (e :: es) X.env).map (·.2) = assign e X.env :: (assignEach es X.env).map (·.2):=by rfl) : PGs X (e :: es) (Vx t u):=by
  intro pins s σ H vs us Q I r h
  obtain ⟨v, vr, e1, h⟩:=h
  subst e1
  cases r with
  | cons r rr=>
    rw [hs]
    refine assignInOrder_cons (thn (h1 pins s σ H _ _ _ I r h) fun _ s1 ⟨σ1, H1, I1, q1⟩=>?_)
    exact h2 pins s1 σ1 H1 _ _ Q I1 rr q1
noncomputable def IF (K : PySem.W.Frag) (n : Nat) (t : TGs) : TG:=fun v σ H Q=>∃ a xs, v = .ref a /\ SqT K H a xs /\ xs.length = n /\ t xs σ H Q
theorem De {es : List Expr} {k : Nat} {t : TGs} {n : Nat} (hc : X.calm = true) (h : PGs X es t)
    (hn : (assignEach es X.env).length = n:=by rfl) (hst : (assignEach es X.env).findIdx? (·.1) = none:=by rfl) : PG X (.Tuple es k pos) (IF X.K n t):=by
  intro pins s σ H v u Q I r hw
  obtain ⟨a, xs, e1, hq, hl, hw⟩:=hw
  subst e1
  cases r
  obtain ⟨its, rv, ht, hz⟩:=I.tuple hq
  refine assign_Tuple_tuple (I.ok.hd hc) ht (by simp [hn, ← hl, rv.length]) hst fun h' hx=>?_
  have I1 : Inv X pins σ H { s with heap:=h' }:=I.kept (t':=s.toks) fun b o e=>hx b o (Nat.ne_of_lt (Heap.lt_size e)) e
  exact h pins _ σ H xs _ Q I1 (by simpa using rv) hw
noncomputable def IP (to ti : TE) (t : IY) : TG:=fun v σ H Q=>to σ H fun o H1=>ti σ H1 fun i H2=>t o i v H2 fun H3=>Q σ H3
theorem Q0 {o i : Expr} {to ti : TE} {t : IY} (ho : PE X o to) (hi : PE X i ti) (hs : Lr X t)
    (ha : ∀ v, assign (.Subscript o i pos) X.env v = (do
      let ov ← holding [v] (eval o X.env)
      let iv ← holding [v, ov] (eval i X.env)
      standAt pos
      holding [v, ov, iv] (setItem ov iv v)
      release [v, ov, iv] []):=by intro _; rfl) : PG X (.Subscript o i pos) (IP to ti t):=by
  intro pins s σ H v u Q I r h
  rw [ha]
  refine wpAny_bind (wpAny_holding (thn (ho pins s σ H _ I h) fun ov s1 ⟨x, H1, I1, r1, q1⟩=>?_))
  refine wpAny_bind (wpAny_holding (thn (hi pins s1 σ H1 _ I1 q1) fun iv s2 ⟨y, H2, I2, r2, q2⟩=>?_))
  refine wpAny_bind (wpAny_standAt (wpAny_bind (wpAny_holding (thn (hs pins s2 σ H2 x y v ov iv u _ I2 r1 r2 r q2) fun _ s3 ⟨H3, I3, q3⟩=>?_))))
  exact wpAny_release ⟨σ, H3, I3, q3⟩
noncomputable def CS (te : TE) (g : TG) : TS:=fun D σ H=>te σ H fun x H1=>g x σ H1 D.nx
theorem Qk {tg e : Expr} {te : TE} {g : TG} (he : PE X e te) (hg : PG X tg g) (hs : swapsWithSole [tg] e pos.line X.env = pure false:=by rfl) (hw : swappedStores [tg] e X.env = pure none:=by rfl)
    (h1 : (assignEach [tg] X.env).map (·.2) = [assign tg X.env]:=by rfl) : PS X (.Assign [tg] e pos) (CS te g):=by
  intro pins s σ H D I h
  refine wpAny_Assign_stores (thn (he pins s σ H _ I h) fun v s1 ⟨x, H1, I1, r1, q1⟩=>?_) hs hw
  rw [h1]
  exact thn (hg pins s1 σ H1 x v _ I1 r1 q1) fun _ s2 q=>q
theorem Xw {i : Nat} {x : Str} {e : Expr} {te : TE} {pos' : Pos} (hN : X.N.Nodup) (hi : X.N[i]? = some x) (hx : Loc X.env.scope x) (he : PE X e te) (hs : swapsWith e (some (.Name x pos')) pos.line X.env = pure false:=by rfl) (hf : X.fn x = true ∨ X.env.scope.names.lookup x = some .local:=by first | exact .inl rfl | exact .inr rfl | assumption) :
    PS X (.Assign [.Name x pos'] e pos) (CS te (ZV i)):=by
  intro pins s σ H D I h
  refine wpAny_Assign_Name (thn (he pins s σ H _ I h) fun v s1 ⟨y, H1, I1, r1, q1⟩=>?_) hs
  exact ZC I1 hN hi hx r1 (fun s2 I2=>⟨_, H1, I2, q1⟩) hf
noncomputable def LC (i j : Nat) (ta : TA) : TS:=fun D σ H=>ta σ H fun vs H1=>∃ v w, vs = [v, w] /\ D.nx ((σ.set i (some v)).set j (some w)) H1
theorem BD {i j : Nat} {x y : Str} {a b : Expr} {ta : TA} {px py pt : Pos} {kt k2 pt2} (hc : X.calm = true) (hN : X.N.Nodup) (hi : X.N[i]? = some x) (hj : X.N[j]? = some y) (hij : i ≠ j)
    (hx : X.env.scope.names.lookup x = some .local) (hy : X.env.scope.names.lookup y = some .local) (ha : PA X [a, b] ta)
    (hw : swappedStores [.Tuple [.Name x px, .Name y py] kt pt] (.Tuple [a, b] k2 pt2) X.env = pure (some [x, y]))
    (hs : swapsWithSole [.Tuple [.Name x px, .Name y py] kt pt] (.Tuple [a, b] k2 pt2) pos.line X.env = pure false:=by rfl) :
    PS X (.Assign [.Tuple [.Name x px, .Name y py] kt pt] (.Tuple [a, b] k2 pt2) pos) (LC i j ta):=by
  intro pins s σ H D I h
  rw [exec_Assign_arm]
  refine wpAny_bind (wpAny_standAt ?_)
  rw [hs]
  refine wpAny_bind (wpAny_pure ?_)
  rw [if_neg (by decide)]
  refine wpAny_bind (Tuple_ (thn (ha _ pins s σ H _ I h) fun us s1 ⟨vs, H1, I1, r1, q1⟩=>?_))
  obtain ⟨v, w, e1, q1⟩:=q1
  subst e1
  obtain ⟨u1, u2, rfl, rv, rw'⟩ : ∃ u1 u2, us = [u1, u2] /\ X4 v u1 /\ X4 w u2:=by
    cases r1 with
    | cons p q=>
      cases q with
      | cons p' q'=>
        cases q'
        exact ⟨_, _, rfl, p, p'⟩
  refine wpAny_newObj_type ?_ (by show 2 <= sizeLine; decide)
  have I2 : Inv X pins σ H1 { s1 with heap:=s1.heap.push { cls:=.type "tuple", data:=.seq [u1, u2].toArray } }:=I1.kept (t':=s1.toks) fun b o e=>Heap.get?_push_of_some _ e
  rw [hw]
  refine wpAny_bind (wpAny_pure ?_)
  show wpAny (model X.prog X.w) X.A (do rule "assign.swapped-stores"; let items ← unpackItems (.ref s1.heap.objs.size) 2 none; assignInOrder [fun v=>bindName X.env y v, fun v=>bindName X.env x v] items.reverse; pure Flow.next) _ _ _
  refine wpAny_bind (wpAny_rule (wpAny_bind (unpackItems_tuple (items:=#[u1, u2]) (I.ok.hd hc) (IsTup.new s1.heap _) fun h' hx'=>?_)))
  have I3:=I2.kept (h':=h') (t':=s1.toks) fun b o e=>hx' b o (Nat.ne_of_lt (Heap.lt_size e)) e
  show wpAny _ _ (assignInOrder [fun v=>bindName X.env y v, fun v=>bindName X.env x v] [u2, u1] >>= fun _=>pure Flow.next) _ _ _
  refine wpAny_bind (assignInOrder_cons (wpAny_bindName (ZC I3 hN hj (.inl hy) rw' (fun s2 I4=>?_) (.inr hy))))
  refine assignInOrder_cons (wpAny_bindName (ZC I4 hN hi (.inl hx) rv (fun s3 I5=>assignInOrder_nil (wpAny_pure ?_)) (.inr hx)))
  rw [List.set_comm _ _ (Ne.symm hij)] at I5
  exact ⟨_, H1, I5, q1⟩
end
section
variable {X : Cx} {pos : Pos}
noncomputable def BC (c : TT) (tb : TS) : TS:=fun D σ H=>∃ W : Nat -> St -> Hp -> Prop, (∃ m, W m σ H) /\ ∀ m σ H, W m σ H ->
  c σ H fun b H1=>if b = true then ∃ N : St -> Hp -> Prop, (∀ σ' H', N σ' H' -> ∃ m', m' < m /\ W m' σ' H') /\ tb { D with nx:=N, ct:=N, bk:=D.nx } σ H1 else D.nx σ H1
theorem Ge {c : Expr} {body : List Stmt} {tc : TT} {tb : TS} (hp : PassesOwn (model X.prog X.w) X.A X.env X.xe) (hc : PT X c tc) (hb : PSs X body tb) : PS X (.While c body [] pos) (BC tc tb):=by
  intro pins s σ H D I h
  obtain ⟨W, ⟨m0, w0⟩, turn⟩:=h
  refine wpAny_While (codeAny_whileLoop (fun n s'=>∃ σ' H', Inv X pins σ' H' s' /\ W n σ' H') ?_ m0 ⟨σ, H, I, w0⟩)
  rintro n s1 ⟨σ1, H1, I1, w1⟩
  refine wpAny_passesOwn hp (thn (hc pins s1 σ1 H1 _ I1 (turn n σ1 H1 w1)) fun b s2 ⟨H2, I2, q2⟩=>?_)
  cases b with
  | true=>
    obtain ⟨N, hN, q2⟩:=q2
    rw [if_pos rfl]
    refine wpAny_passesOwn hp (thn (hb pins s2 σ1 H2 _ I2 q2) fun f s3 q3=>?_)
    cases f with
    | next=>
      obtain ⟨σ3, H3, I3, n3⟩:=q3
      obtain ⟨m', hm, w3⟩:=hN σ3 H3 n3
      exact ⟨m', hm, σ3, H3, I3, w3⟩
    | cont=>
      obtain ⟨σ3, H3, I3, n3⟩:=q3
      obtain ⟨m', hm, w3⟩:=hN σ3 H3 n3
      exact ⟨m', hm, σ3, H3, I3, w3⟩
    | brk=>exact q3
    | ret v=>exact q3
  | false=>
    rw [if_neg Bool.false_ne_true]
    exact wpAny_execs_nil ⟨σ1, H2, I2, q2⟩
end
structure It where
  go : Nat -> Hp -> Prop
  yld : Nat -> Hp -> V -> Hp -> Prop
  stop : Nat -> Hp -> Prop
noncomputable def Gr (X : Cx) (pins : List (Addr × Obj)) (H : Hp) (b : Addr) : Prop:=
  H b = none /\ b ≠ X.env.locals /\ b ∉ X.fs /\ (b ∈ X.ex ∨ X.s₀.heap.objs.size <= b) /\ (∀ x c, X.env.cells.lookup x = some c -> c ≠ b) /\ ∀ p ∈ X.pn ++ pins, p.1 ≠ b
theorem Inv.fpOk {X : Cx} {pins : List (Addr × Obj)} {σ : St} {H H' : Hp} {s : Shared} {b : Addr} (I : Inv X pins σ H s) (hb : s.heap.objs.size <= b) (hn : H' b = none) : Gr X pins H' b:=by
  refine ⟨hn, Nat.ne_of_gt (Nat.lt_of_lt_of_le I.lt hb), I.nofs hb, .inr (Nat.le_trans I.sz hb), fun x c e z=>?_, fun p hp z=>?_⟩
  . obtain ⟨v, q⟩ := I.cell x c e
    exact absurd (Nat.lt_of_lt_of_le q.lt (by rw [z]; exact hb)) (Nat.lt_irrefl _)
  . exact absurd (Nat.lt_of_lt_of_le (Heap.lt_size (I.pin p hp).1) (by rw [z]; exact hb)) (Nat.lt_irrefl _)
structure Turn (P : Program) (w : World) (K : PySem.W.Frag) (tg : Expr) (J : It) (fp : List Addr) (it : Addr) (tn : Nat -> Heap -> Prop) : Prop where
  mem : it ∈ fp
  obj : ∀ i h, tn i h -> ∀ b ∈ fp, ∃ o, h.get? b = some o /\ ∀ v, o.data ≠ .cell v
  keep : ∀ i h h', tn i h -> (∀ b ∈ fp, ∀ o, h.get? b = some o -> h'.get? b = some o) -> tn i h'
  item : ∀ (X : Cx), X.prog = P -> X.w = w -> X.K = K -> X.calm = true -> ∀ (i : Nat) (pins : List (Addr × Obj)) (s : Shared) (σ : St) (H : Hp) (E : Value -> Shared -> Prop), Inv X pins σ H s -> (∀ b ∈ fp, Gr X pins H b) -> tn i s.heap -> J.go i H ->
    wpAny (model P w) X.A (pyNext (.ref it)) (fun r s1=>∃ u, r = some u /\
      wpAny (model P w) X.A (letOwnedTupleGo tg (.ref it) u) (fun _ s2=>∃ x H', Inv X pins σ H' s2 /\ X4 x u /\ J.yld i H x H' /\ tn (i + 1) s2.heap /\ ∀ b ∈ fp, H' b = none) E s1) E s
  done : ∀ (X : Cx), X.prog = P -> X.w = w -> X.K = K -> X.calm = true -> ∀ (i : Nat) (pins : List (Addr × Obj)) (s : Shared) (σ : St) (H : Hp) (E : Value -> Shared -> Prop), Inv X pins σ H s -> (∀ b ∈ fp, Gr X pins H b) -> tn i s.heap -> J.stop i H ->
    wpAny (model P w) X.A (pyNext (.ref it)) (fun r s1=>r = none /\ Inv X pins σ H s1) E s
  self : ∀ (A : Around) (i : Nat) (s : Shared) (Q : Value -> Shared -> Prop) (E : Value -> Shared -> Prop), tn i s.heap -> Q (.ref it) s -> wpAny (model P w) A (pyIter (.ref it)) Q E s
noncomputable abbrev TI:=St -> Hp -> (It -> Hp -> Prop) -> Prop
noncomputable def PIE (X : Cx) (pins : List (Addr × Obj)) (σ : St) (tg : Expr) (R : It -> Hp -> Prop) (itv : Value) (s2 : Shared) : Prop:=
  ∃ (it : Addr) (fp : List Addr) (tn : Nat -> Heap -> Prop) (J : It) (H' : Hp), itv = .ref it /\ Inv X pins σ H' s2 /\ Turn X.prog X.w X.K tg J fp it tn /\ tn 0 s2.heap /\ (∀ b ∈ fp, Gr X pins H' b) /\ R J H'
noncomputable def PI (X : Cx) (tg iter : Expr) (wi : TI) : Prop:=
  ∀ (pins : List (Addr × Obj)) (s : Shared) (σ : St) (H : Hp) (R : It -> Hp -> Prop), Inv X pins σ H s -> wi σ H R ->
    wpAny (model X.prog X.w) X.A (eval iter X.env) (fun v s1=>wpAny (model X.prog X.w) X.A (pyIter v) (PIE X pins σ tg R) X.xe s1) X.xe s
theorem ES {M : Model} {A : Around} {E : Value -> Shared -> Prop} {s : Shared} {tg : Expr} {it : Addr} {u : Value} {o : Obj} {n : String} {vs : Array Value} {Q : Unit -> Shared -> Prop} (ho : s.heap.get? it = some o) (hc : o.cls = .type n) (hd : o.data = .fields vs)
    (hn : ["enumerate", "zip", "dict_itemiterator", "dict_reverseitemiterator", "odict_iterator", "itertools.zip_longest", "itertools.pairwise"].contains n = false) (hQ : Q () s) : wpAny M A (letOwnedTupleGo tg (.ref it) u) Q E s:=by
  unfold letOwnedTupleGo
  cases tg <;> first
    | exact wpAny_pure hQ
    | (cases u <;> first
        | exact wpAny_pure hQ
        | (refine wpAny_bind (wpAny_load ho ?_)
           rw [hc, hd]
           show wpAny M A (if (["enumerate", "zip", "dict_itemiterator", "dict_reverseitemiterator", "odict_iterator", "itertools.zip_longest", "itertools.pairwise"].contains n && vs[0]? == some (rawInt _)) = true then _ else _) Q E s
           rw [if_neg (by intro h; rw [hn, Bool.false_and] at h; cases h)]
           exact wpAny_pure hQ))
noncomputable def Itl (K : PySem.W.Frag) (a : Addr) : It:=
  ⟨fun i H=>∃ xs x, SqL K H a xs /\ xs[i]? = some x, fun i H x H'=>H' = H /\ ∀ xs, SqL K H a xs -> xs[i]? = some x, fun i H=>∃ xs, SqL K H a xs /\ xs.length <= i⟩
noncomputable def Itt (K : PySem.W.Frag) (a : Addr) : It:=
  ⟨fun i H=>∃ xs x, SqT K H a xs /\ xs[i]? = some x, fun i H x H'=>H' = H /\ ∀ xs, SqT K H a xs -> xs[i]? = some x, fun i H=>∃ xs, SqT K H a xs /\ xs.length <= i⟩
noncomputable def Itr (lo : Int) (n : Nat) : It:=⟨fun i _=>i < n, fun i H x H'=>H' = H /\ x = .int (lo + i), fun i _=>n <= i⟩
theorem Ca {P : Program} {w : World} {K : PySem.W.Frag} {tg : Expr} (a it : Addr) : Turn P w K tg (Itl K a) [it] it (fun i h=>h.IsListIter it a i) where
  mem:=by simp
  obj:=fun i h st b hb=>by
    have e : b = it:=by simpa using hb
    subst e
    obtain ⟨o, e, c, d⟩:=st
    exact ⟨o, e, fun v z=>by rw [d] at z; cases z⟩
  keep:=fun i h h' st k=>st.at fun o e=>k it (by simp) o e
  item:=by
    intro X hP hw hK hc i pins s σ H E I hf st hg
    subst hP hw hK
    obtain ⟨xs, x, hq, hx⟩:=hg
    obtain ⟨its, rv, p, hz⟩:=I.list hq
    obtain ⟨u, hu, ru⟩:=rv.get hx
    obtain ⟨f0, f1, f2, f3, f4, f5⟩:=hf it (by simp)
    refine wpAny_pyNext_list_item st p.isList (x:=u) (by simpa using hu) fun h' st' sb=>?_
    have I1 : Inv X pins σ H { s with heap:=h' }:=I.turned (t':=s.toks) (fun b o hb e=>(sb.2 b hb).trans e) f0 f1 f3 f4 f5
    obtain ⟨o, e, c, d⟩:=id st'
    exact ⟨u, rfl, ES (s:={ s with heap:=h' }) e c d (by decide) ⟨x, H, I1, ru, ⟨rfl, fun ys hy=>by rw [I.list_inj hy hq]; exact hx⟩, st', fun b hb=>(hf b hb).1⟩⟩
  done:=by
    intro X hP hw hK hc i pins s σ H E I hf st hg
    subst hP hw hK
    obtain ⟨xs, hq, hx⟩:=hg
    obtain ⟨its, rv, p, hz⟩:=I.list hq
    obtain ⟨f0, f1, f2, f3, f4, f5⟩:=hf it (by simp)
    have hl:=rv.length
    exact wpAny_pyNext_list_end (I.ok.hd hc) st p.isList (by simp; omega) fun h' eb=>⟨rfl, I.turned (t':=s.toks) (fun b o hb e=>eb b o hb e) f0 f1 f3 f4 f5⟩
  self:=fun _ _ _ _ _ st h=>wpAny_pyIter_listiter st h
theorem GP {P : Program} {w : World} {K : PySem.W.Frag} {tg : Expr} (a it : Addr) : Turn P w K tg (Itt K a) [it] it (fun i h=>h.IsTupleIter it a i) where
  mem:=by simp
  obj:=fun i h st b hb=>by
    have e : b = it:=by simpa using hb
    subst e
    obtain ⟨o, e, c, d⟩:=st
    exact ⟨o, e, fun v z=>by rw [d] at z; cases z⟩
  keep:=fun i h h' st k=>st.at fun o e=>k it (by simp) o e
  item:=by
    intro X hP hw hK hc i pins s σ H E I hf st hg
    subst hP hw hK
    obtain ⟨xs, x, hq, hx⟩:=hg
    obtain ⟨its, rv, p, hz⟩:=I.tuple hq
    obtain ⟨u, hu, ru⟩:=rv.get hx
    obtain ⟨f0, f1, f2, f3, f4, f5⟩:=hf it (by simp)
    refine wpAny_pyNext_tuple_item st (show s.heap.IsTuple a its.toArray from p) (x:=u) (by simpa using hu) fun h' st' sb=>?_
    have I1 : Inv X pins σ H { s with heap:=h' }:=I.turned (t':=s.toks) (fun b o hb e=>(sb.2 b hb).trans e) f0 f1 f3 f4 f5
    obtain ⟨o, e, c, d⟩:=id st'
    exact ⟨u, rfl, ES (s:={ s with heap:=h' }) e c d (by decide) ⟨x, H, I1, ru, ⟨rfl, fun ys hy=>by rw [I.tuple_inj hy hq]; exact hx⟩, st', fun b hb=>(hf b hb).1⟩⟩
  done:=by
    intro X hP hw hK hc i pins s σ H E I hf st hg
    subst hP hw hK
    obtain ⟨xs, hq, hx⟩:=hg
    obtain ⟨its, rv, p, hz⟩:=I.tuple hq
    obtain ⟨f0, f1, f2, f3, f4, f5⟩:=hf it (by simp)
    have hl:=rv.length
    exact wpAny_pyNext_tuple_end (I.ok.hd hc) st (show s.heap.IsTuple a its.toArray from p) (by simp; omega) fun h' eb=>⟨rfl, I.turned (t':=s.toks) (fun b o hb e=>eb b o hb e) f0 f1 f3 f4 f5⟩
  self:=fun _ _ _ _ _ st h=>wpAny_pyIter_tupleiter st h
theorem GM {P : Program} {w : World} {K : PySem.W.Frag} {tg : Expr} (it : Addr) (lo : Int) (n : Nat) : Turn P w K tg (Itr lo n) [it] it (fun i h=>IsRangeIter h it (lo + (i : Nat) * 1) ((n : Int) - (i : Nat)) 1) where
  mem:=by simp
  obj:=fun i h st b hb=>by
    have e : b = it:=by simpa using hb
    subst e
    exact ⟨_, st, fun v z=>by
      have z' : Data.fields _ = Data.cell v:=z
      cases z'⟩
  keep:=fun i h h' st k=>k it (by simp) _ st
  item:=by
    intro X hP hw hK hc i pins s σ H E I hf st hg
    subst hP hw hK
    obtain ⟨f0, f1, f2, f3, f4, f5⟩:=hf it (by simp)
    have W:=Walks.range (prog:=X.prog) (w:=X.w) (I.ok.hd hc) it lo 1 n
    refine W.item i s _ _ hg st fun v h' tk hv st' kk=>?_
    obtain ⟨t, rfl⟩:=hv
    have I1 : Inv X pins σ H { s with heap:=h', toks:=tk }:=I.turned (fun b o hb e=>kk b o (by simpa using hb) e) f0 f1 f3 f4 f5
    refine ⟨_, rfl, ES (s:={ s with heap:=h', toks:=tk }) (n:="range_iterator") st' rfl rfl (by decide) ⟨.int (lo + i), H, I1, ⟨t, ?_⟩, ⟨rfl, rfl⟩, st', fun b hb=>(hf b hb).1⟩⟩
    rw [Int.mul_one]
  done:=by
    intro X hP hw hK hc i pins s σ H E I hf st hg
    subst hP hw hK
    obtain ⟨f0, f1, f2, f3, f4, f5⟩:=hf it (by simp)
    exact wpAny_pyNext_range_end (I.ok.hd hc) st (by have : n <= i:=hg; omega) fun h' eb=>⟨rfl, I.turned (t':=s.toks) (fun b o hb e=>eb b o hb e) f0 f1 f3 f4 f5⟩
  self:=fun _ _ _ _ _ st h=>wpAny_pyIter_rangeiter st h
end L2
namespace L2
open PySem PySem.Spec PyProof.Rows
section
variable {X : Cx} {tg : Expr}
noncomputable def CF (K : PySem.W.Frag) (tl : TE) : TI:=fun σ H R=>tl σ H fun x H1=>∃ a, x = .ref a /\ (∃ xs, SqL K H1 a xs) /\ R (Itl K a) H1
noncomputable def I9 (K : PySem.W.Frag) (tl : TE) : TI:=fun σ H R=>tl σ H fun x H1=>∃ a, x = .ref a /\ (∃ xs, SqT K H1 a xs) /\ R (Itt K a) H1
theorem Eg {l : Expr} {tl : TE} (hl : PE X l tl) : PI X tg l (CF X.K tl):=by
  intro pins s σ H R I h
  refine thn (hl pins s σ H _ I h) fun v s1 ⟨x, H1, I1, r1, q1⟩=>?_
  obtain ⟨a, e, ⟨xs, hq⟩, q⟩:=q1
  subst e
  cases r1
  obtain ⟨its, rv, p, hz⟩:=I1.list hq
  refine wpAny_pyIter_list p.isList ?_
  refine ⟨s1.heap.objs.size, [s1.heap.objs.size], _, _, H1, rfl, I1.kept (t':=s1.toks) fun b o e=>Heap.get?_push_of_some _ e, Ca a _, ⟨_, Heap.get?_push_size _ rfl, rfl, rfl⟩, fun b hb=>?_, q⟩
  have e : b = s1.heap.objs.size:=by simpa using hb
  subst e
  exact I1.fpOk (Nat.le_refl _) (I1.hok.fresh (Nat.le_refl _))
theorem Hz {l : Expr} {tl : TE} (hl : PE X l tl) : PI X tg l (I9 X.K tl):=by
  intro pins s σ H R I h
  refine thn (hl pins s σ H _ I h) fun v s1 ⟨x, H1, I1, r1, q1⟩=>?_
  obtain ⟨a, e, ⟨xs, hq⟩, q⟩:=q1
  subst e
  cases r1
  obtain ⟨its, rv, p, hz⟩:=I1.tuple hq
  refine wpAny_pyIter_tuple (show s1.heap.IsTuple a its.toArray from p) ?_
  refine ⟨s1.heap.objs.size, [s1.heap.objs.size], _, _, H1, rfl, I1.kept (t':=s1.toks) fun b o e=>Heap.get?_push_of_some _ e, GP a _, ⟨_, Heap.get?_push_size _ rfl, rfl, rfl⟩, fun b hb=>?_, q⟩
  have e : b = s1.heap.objs.size:=by simpa using hb
  subst e
  exact I1.fpOk (Nat.le_refl _) (I1.hok.fresh (Nat.le_refl _))
theorem Bh {pins : List (Addr × Obj)} {σ : St} {H : Hp} {s : Shared} {R : It -> Hp -> Prop} {E : Value -> Shared -> Prop} {lo hi : Int} {t u v : Tok} {tk : Nat} (I : Inv X pins σ H s) (h1 : -(2 ^ 62) <= lo) (h2 : lo < 2 ^ 62) (h3 : -(2 ^ 62) <= hi) (h4 : hi < 2 ^ 62)
    (q : R (Itr lo (hi - lo).toNat) H) : wpAny (model X.prog X.w) X.A (pyIter (.ref s.heap.objs.size)) (PIE X pins σ tg R) E { s with heap:=s.heap.push { cls:=.type "range", data:=.fields #[.int lo t, .int hi u, .int 1 v] }, toks:=tk }:=by
  refine wpAny_pyIter_range (IsRange.new ..) (small_one h1 h2 h3 h4) ?_
  have I1 : Inv X pins σ H { s with heap:=s.heap.push { cls:=.type "range", data:=.fields #[.int lo t, .int hi u, .int 1 v] }, toks:=tk }:=I.kept fun b o e=>Heap.get?_push_of_some _ e
  refine ⟨(s.heap.push { cls:=.type "range", data:=.fields #[.int lo t, .int hi u, .int 1 v] }).objs.size, [(s.heap.push { cls:=.type "range", data:=.fields #[.int lo t, .int hi u, .int 1 v] }).objs.size], _, _, H, rfl,
    I1.kept (t':=tk) fun b o e=>Heap.get?_push_of_some _ e, GM _ lo (hi - lo).toNat, ?_, fun b hb=>?_, q⟩
  . have e1 : lo + ((0 : Nat) : Int) * 1 = lo := by simp
    have e2 : (((hi - lo).toNat : Nat) : Int) - ((0 : Nat) : Int) = Builtin.Range.rangeSize lo hi 1:=by rw [rangeSize_one]; split <;> omega
    show IsRangeIter _ _ (lo + ((0 : Nat) : Int) * 1) ((((hi - lo).toNat : Nat) : Int) - ((0 : Nat) : Int)) 1
    rw [e1, e2]
    exact Heap.get?_push_size _ rfl
  . have e : b = (s.heap.push { cls := .type "range", data := .fields #[.int lo t, .int hi u, .int 1 v] }).objs.size := by simpa using hb
    subst e
    exact I1.fpOk (Nat.le_refl _) (I1.hok.fresh (Nat.le_refl _))
noncomputable def Ii (ta : TA) : TI:=fun σ H R=>ta σ H fun vs H1=>∃ j : Int, vs = [.int j] /\ -(2 ^ 62) <= j /\ j < 2 ^ 62 /\ R (Itr 0 j.toNat) H1
theorem XJ {a : Expr} {ta : TA} {p pos : Pos} (hg : Gl X "range") (hm : X.mg "range" = none) (ha : PA X [a] ta) (hs : starEach [a] X.env = [(false, eval a X.env)]:=by rfl) : PI X tg (.Call (.Name "range" p) [a] [] pos) (Ii ta):=by
  intro pins s σ H R I h
  refine Call_ (Ve I hg hm boot_range (PyProof.Rows.callWith_type1 (thn (ha pos pins s σ H _ I h) fun us s1 ⟨vs, H1, I1, r1, q1⟩=>?_) hs rfl))
  obtain ⟨j, e, q1, q2, q⟩:=q1
  subst e
  cases r1 with
  | cons r rr=>
    cases rr
    obtain ⟨t, rfl⟩:=r
    exact call_range_1 (Bh I1 (by omega) (by omega) q1 q2 (by simpa using q))
noncomputable def HA (wi : TI) (g : TG) (tb : TS) : TS:=fun D σ H=>wi σ H fun J H1=>∃ W : Nat -> Nat -> St -> Hp -> Prop, (∃ m, W 0 m σ H1) /\ ∀ i m σ H, W i m σ H ->
  (J.stop i H /\ D.nx σ H) ∨ (J.go i H /\ ∃ N : St -> Hp -> Prop, (∀ σ' H', N σ' H' -> ∃ m', m' < m /\ W (i + 1) m' σ' H') /\ ∀ x H', J.yld i H x H' -> g x σ H' fun σ2 H2=>tb { D with nx:=N, ct:=N, bk:=D.nx } σ2 H2)
noncomputable def Up (fp : List Addr) (h : Heap) : List (Addr × Obj):=fp.filterMap fun b=>(h.get? b).map fun o=>(b, o)
theorem QN {fp : List Addr} {h : Heap} {b : Addr} {o : Obj} (hb : b ∈ fp) (e : h.get? b = some o) : (b, o) ∈ Up fp h:=List.mem_filterMap.mpr ⟨b, hb, by rw [e]; rfl⟩
theorem DB {fp : List Addr} {h : Heap} {p : Addr × Obj} (hp : p ∈ Up fp h) : p.1 ∈ fp /\ h.get? p.1 = some p.2:=by
  obtain ⟨b, hb, e⟩:=List.mem_filterMap.mp hp
  cases q : h.get? b with
  | none=>rw [q] at e; cases e
  | some o=>
    rw [q] at e
    have e' : (b, o) = p:=Option.some.inj e
    subst e'
    exact ⟨hb, q⟩
theorem Inv.pinned {pins : List (Addr × Obj)} {σ : St} {H : Hp} {s : Shared} {fp : List Addr} (I : Inv X pins σ H s) (hf : ∀ b ∈ fp, Gr X pins H b) (ho : ∀ b ∈ fp, ∃ o, s.heap.get? b = some o /\ ∀ v, o.data ≠ .cell v) : Inv X (pins ++ Up fp s.heap) σ H s:=
  I.pins_of fun p hp=>(List.mem_append.mp hp).elim (fun z=>I.pin p (List.mem_append_right _ z)) fun z=>by
    obtain ⟨hb, e⟩:=DB z
    obtain ⟨f0, f1, f2, _⟩:=hf p.1 hb
    obtain ⟨o, e', d⟩:=ho p.1 hb
    rw [e] at e'; cases e'
    exact ⟨e, f0, f1, f2, d⟩
theorem Inv.unpinned {pins pl : List (Addr × Obj)} {σ : St} {H : Hp} {s : Shared} (I : Inv X (pins ++ pl) σ H s) : Inv X pins σ H s:=I.pins_of fun p hp=>I.pin p (List.mem_append_right _ (List.mem_append_left _ hp))
theorem Ya {iter : Expr} {body : List Stmt} {wi : TI} {g : TG} {tb : TS} {pos : Pos} (hp : PassesOwn (model X.prog X.w) X.A X.env X.xe) (hc : X.calm = true) (hi : PI X tg iter wi) (hg : PG X tg g) (hb : PSs X body tb)
    (hs : ∀ x, foldedSetIterable iter X.env x = pure x:=by intro _; rfl) : PS X (.For tg iter body [] pos) (HA wi g tb):=by
  intro pins s σ H D I h
  refine wpAny_For (thn (hi pins s σ H _ I h) fun v s1 h1=>thn h1 fun itv s2 h2=>?_) hs
  obtain ⟨it, fp, tn, J, H2, e, I2, T, st2, f2, W, ⟨m0, w0⟩, turn⟩:=h2
  subst e
  -- what stays true of the iterator's objects through the loop
  have stat : ∀ {H' : Hp}, (∀ b ∈ fp, H' b = none) -> ∀ b ∈ fp, Gr X pins H' b:=fun hn b hb=>⟨hn b hb, (f2 b hb).2⟩
  refine codeAny_forLoop_any (fun n s'=>∃ i σ' H', Inv X pins σ' H' s' /\ tn i s'.heap /\ (∀ b ∈ fp, H' b = none) /\ W i n σ' H') ?_ m0 ⟨0, σ, H2, I2, st2, fun b hb=>(f2 b hb).1, w0⟩
  rintro n s3 ⟨i, σ3, H3, I3, st3, fr3, w3⟩
  rcases turn i n σ3 H3 w3 with ⟨stop, qn⟩ | ⟨go, N, hN, step⟩
  . refine wpAny_passesOwn hp (thn (T.done X rfl rfl rfl hc i pins s3 σ3 H3 X.xe I3 (stat fr3) st3 stop) fun r s4 ⟨hr, I4⟩ => ?_)
    subst hr
    exact wpAny_execs_nil ⟨σ3, H3, I4, qn⟩
  . refine wpAny_passesOwn hp (thn (T.item X rfl rfl rfl hc i pins s3 σ3 H3 X.xe I3 (stat fr3) st3 go) fun r s4 ⟨u, hr, h4⟩ => ?_)
    subst hr
    refine wpAny_passesOwn hp (thn h4 fun _ s5 ⟨x, H5, I5, r5, y5, st5, fr5⟩=>?_)
    have I5':=I5.pinned (stat fr5) (T.obj _ _ st5)
    refine wpAny_passesOwn hp (thn (hg _ s5 σ3 H5 x u _ I5' r5 (step x H5 y5)) fun _ s6 ⟨σ6, H6, I6, q6⟩=>?_)
    refine wpAny_passesOwn hp (thn (hb _ s6 σ6 H6 _ I6 q6) fun f s7 q7=>?_)
    have again : ∀ {σ7 : St} {H7 : Hp}, Inv X (pins ++ Up fp s5.heap) σ7 H7 s7 -> N σ7 H7 -> ∃ m, m < n /\ ∃ i σ' H', Inv X pins σ' H' s7 /\ tn i s7.heap /\ (∀ b ∈ fp, H' b = none) /\ W i m σ' H':=fun {σ7 H7} I7 n7=>by
      obtain ⟨m', hm, w7⟩:=hN σ7 H7 n7
      refine ⟨m', hm, i + 1, σ7, H7, I7.unpinned, T.keep _ _ _ st5 fun b hb o e=>(I7.pin (b, o) (List.mem_append_right _ (List.mem_append_right _ (QN hb e)))).1, fun b hb=>?_, w7⟩
      obtain ⟨o, e, d⟩:=T.obj _ _ st5 b hb
      exact (I7.pin (b, o) (List.mem_append_right _ (List.mem_append_right _ (QN hb e)))).2.1
    cases f with
    | next=>obtain ⟨σ7, H7, I7, n7⟩:=q7; exact again I7 n7
    | cont=>obtain ⟨σ7, H7, I7, n7⟩:=q7; exact again I7 n7
    | brk=>obtain ⟨σ7, H7, I7, q7⟩:=q7; exact ⟨σ7, H7, I7.unpinned, q7⟩
    | ret v=>obtain ⟨x7, σ7, H7, I7, r7, q7⟩:=q7; exact ⟨x7, σ7, H7, I7.unpinned, r7, q7⟩
end
end L2
namespace L2
open PySem PySem.Spec PyProof.Rows
noncomputable abbrev R2:=V -> V -> Hp -> VK -> Prop
noncomputable def OpR (X : Cx) (f : Value -> Value -> Sem Value) (r : R2) : Prop:=
  ∀ (pins : List (Addr × Obj)) (s : Shared) (σ : St) (H : Hp) (x y : V) (v u : Value) (Q : VK), Inv X pins σ H s -> X4 x v -> X4 y u -> r x y H Q ->
    wpAny (model X.prog X.w) X.A (f v u) (EP X pins σ Q) X.xe s
noncomputable def UnR (X : Cx) (f : Value -> Sem Value) (r : V -> Hp -> VK -> Prop) : Prop:=
  ∀ (pins : List (Addr × Obj)) (s : Shared) (σ : St) (H : Hp) (x : V) (v : Value) (Q : VK), Inv X pins σ H s -> X4 x v -> r x H Q ->
    wpAny (model X.prog X.w) X.A (f v) (EP X pins σ Q) X.xe s
noncomputable def Zk (X : Cx) (f : Value) (r : List V -> Hp -> VK -> Prop) : Prop:=
  ∀ (pins : List (Addr × Obj)) (s : Shared) (σ : St) (H : Hp) (xs : List V) (us : List Value) (Q : VK), Inv X pins σ H s -> X5 xs us -> r xs H Q ->
    wpAny (model X.prog X.w) X.A (call f us) (EP X pins σ Q) X.xe s
noncomputable def tOp (r : R2) (ta tb : TE) : TE:=fun σ H Q=>ta σ H fun x H1=>tb σ H1 fun y H2=>r x y H2 Q
noncomputable def tUn (r : V -> Hp -> VK -> Prop) (ta : TE) : TE:=fun σ H Q=>ta σ H fun x H1=>r x H1 Q
noncomputable def rI (C : Int -> Int -> Prop) (g : Int -> Int -> V) : R2:=fun x y H Q=>∃ i j, x = .int i /\ y = .int j /\ C i j /\ Q (g i j) H
noncomputable def rI0 (g : Int -> Int -> V) : R2:=fun x y H Q=>∃ i j, x = .int i /\ y = .int j /\ Q (g i j) H
noncomputable def rU (g : Int -> V) : V -> Hp -> VK -> Prop:=fun x H Q=>∃ i, x = .int i /\ Q (g i) H
section
variable {X : Cx} {a b c : Expr} {ta tb tc : TE} {pos : Pos}
theorem IK (ha : PE X a ta) (hb : PE X b tb) {pins : List (Addr × Obj)} {s : Shared} {σ : St} {H : Hp} {R : V -> V -> Hp -> Prop} (I : Inv X pins σ H s)
    (h : ta σ H fun x H1=>tb σ H1 fun y H2=>R x y H2) {Q : Value -> Shared -> Prop} {f : Value -> Value -> Sem Value}
    (hf : ∀ v u s2 x y H2, Inv X pins σ H2 s2 -> X4 x v -> X4 y u -> R x y H2 -> wpAny (model X.prog X.w) X.A (f v u) Q X.xe s2) :
    wpAny (model X.prog X.w) X.A (eval a X.env) (fun v s₁=>wpAny (model X.prog X.w) X.A (eval b X.env) (fun u s₂=>wpAny (model X.prog X.w) X.A (f v u) Q X.xe s₂) X.xe s₁) X.xe s:=by
  refine thn (ha pins s σ H _ I h) fun v s1 ⟨x, H1, I1, r1, q1⟩=>?_
  refine thn (hb pins s1 σ H1 _ I1 q1) fun u s2 ⟨y, H2, I2, r2, q2⟩=>?_
  exact hf v u s2 x y H2 I2 r1 r2 q2
theorem Xt {op : Operator} {r : R2} (ho : OpR X (binaryOp op) r) (ha : PE X a ta) (hb : PE X b tb) : PE X (.BinOp a op b pos) (tOp r ta tb):=by
  intro pins s σ H Q I h
  exact wpAny_BinOp (IK ha hb I h fun v u s2 x y H2 I2 rx ry q=>ho pins s2 σ H2 x y v u Q I2 rx ry q)
theorem Bg {op : UnaryOp} {r : V -> Hp -> VK -> Prop} (ho : UnR X (unaryOp op) r) (ha : PE X a ta) : PE X (.UnaryOp op a pos) (tUn r ta):=by
  intro pins s σ H Q I h
  exact UnaryOp_ (thn (ha pins s σ H _ I h) fun v s1 ⟨x, H1, I1, r1, q1⟩=>ho pins s1 σ H1 x v Q I1 r1 q1)
theorem opI {f : Value -> Value -> Sem Value} {C : Int -> Int -> Prop} {g : Int -> Int -> Int}
    (rule : ∀ (i j : Int) (t u : Tok) (s : Shared) (Q : Value -> Shared -> Prop) (E : Value -> Shared -> Prop), C i j -> Q (.int (g i j) s.toks) { s with toks:=s.toks + 1 } -> wpAny (model X.prog X.w) X.A (f (.int i t) (.int j u)) Q E s) :
    OpR X f (rI C fun i j=>.int (g i j)):=by
  intro pins s σ H x y v u Q I rx ry h
  obtain ⟨i, j, rfl, rfl, hc, q⟩:=h
  obtain ⟨t, rfl⟩:=rx
  obtain ⟨t', rfl⟩:=ry
  exact rule i j t t' s _ _ hc ⟨.int (g i j), H, I.tok _, ⟨_, rfl⟩, q⟩
theorem Lw {f : Value -> Value -> Sem Value} {g : Int -> Int -> Int}
    (rule : ∀ (i j : Int) (t u : Tok) (s : Shared) (Q : Value -> Shared -> Prop) (E : Value -> Shared -> Prop), Q (.int (g i j) s.toks) { s with toks:=s.toks + 1 } -> wpAny (model X.prog X.w) X.A (f (.int i t) (.int j u)) Q E s) :
    OpR X f (rI0 fun i j=>.int (g i j)):=by
  intro pins s σ H x y v u Q I rx ry h
  obtain ⟨i, j, rfl, rfl, q⟩:=h
  obtain ⟨t, rfl⟩:=rx
  obtain ⟨t', rfl⟩:=ry
  exact rule i j t t' s _ _ ⟨.int (g i j), H, I.tok _, ⟨_, rfl⟩, q⟩
theorem ID {f : Value -> Value -> Sem Value} {g : Int -> Int -> Bool}
    (rule : ∀ (i j : Int) (t u : Tok) (s : Shared) (Q : Value -> Shared -> Prop) (E : Value -> Shared -> Prop), Q (.bool (g i j)) s -> wpAny (model X.prog X.w) X.A (f (.int i t) (.int j u)) Q E s) :
    OpR X f (rI0 fun i j=>.bl (g i j)):=by
  intro pins s σ H x y v u Q I rx ry h
  obtain ⟨i, j, rfl, rfl, q⟩:=h
  obtain ⟨t, rfl⟩:=rx
  obtain ⟨t', rfl⟩:=ry
  exact rule i j t t' s _ _ ⟨.bl (g i j), H, I, rfl, q⟩
noncomputable def Lz (i j : Int) : Prop:=0 <= j /\ j <= 1000000 /\ i.natAbs < 2 ^ 64
noncomputable def IG (i j : Int) : Prop:=(-(2 ^ 64) < i /\ i < 2 ^ 64) ∨ (-(2 ^ 64) < j /\ j < 2 ^ 64)
theorem IG.ok {i j : Int} (h : IG i j) : IntMulOk i j:=by
  rcases h with ⟨h1, h2⟩ | ⟨h1, h2⟩
  . exact .of_left (intBits_le_64 h1 h2)
  . exact .of_right (intBits_le_64 h1 h2)
theorem Yn : OpR X (binaryOp .Add) (rI0 fun i j=>.int (i + j)):=Lw fun _ _ _ _ _ _ _ q=>add_int q
theorem YI : OpR X (binaryOp .Sub) (rI0 fun i j=>.int (i - j)):=Lw fun _ _ _ _ _ _ _ q=>sub_int q
theorem Zt : OpR X (binaryOp .Mult) (rI IG fun i j=>.int (i * j)):=opI fun _ _ _ _ _ _ _ hc q=>mul_int q hc.ok
theorem Ys : OpR X (binaryOp .Mod) (rI (fun _ j=>0 < j) fun i j=>.int (i % j)):=opI fun i j _ _ _ _ _ hc q=>by
  have h1 : (0 : Int) < j:=hc
  exact mod_int' (by omega) (by rw [Int.fmod_eq_emod_of_nonneg i (by omega)]; exact q)
theorem Dl : OpR X (binaryOp .Pow) (rI Lz fun i j=>.int (i ^ j.toNat)):=opI fun _ _ _ _ _ _ _ hc q=>pow_int_small hc.1 hc.2.1 hc.2.2 q
theorem unI {f : Value -> Sem Value} {g : Int -> Int}
    (rule : ∀ (i : Int) (t : Tok) (s : Shared) (Q : Value -> Shared -> Prop) (E : Value -> Shared -> Prop), Q (.int (g i) s.toks) { s with toks:=s.toks + 1 } -> wpAny (model X.prog X.w) X.A (f (.int i t)) Q E s) :
    UnR X f (rU fun i=>.int (g i)):=by
  intro pins s σ H x v Q I rx h
  obtain ⟨i, rfl, q⟩:=h
  obtain ⟨t, rfl⟩:=rx
  exact rule i t s _ _ ⟨.int (g i), H, I.tok _, ⟨_, rfl⟩, q⟩
theorem K0 : UnR X (unaryOp .USub) (rU fun i=>.int (-i)):=unI fun _ _ _ _ _ q=>neg_int q
end
noncomputable def IQ : V -> V -> Bool
  | .non, .non=>true | .non, .int _=>true | .int _, .non=>true | .non, .bl _=>true | .bl _, .non=>true | .non, .str _=>true | .str _, .non=>true
  | .int _, .int _=>true | .bl _, .bl _=>true | .str _, .str _=>true | .byt _, .byt _=>true
  | .int _, .str _=>true | .str _, .int _=>true | .bl _, .str _=>true | .str _, .bl _=>true
  | _, _=>false
noncomputable def rEq : R2:=fun x y H Q=>IQ x y = true /\ Q (.bl (decide (x = y))) H
noncomputable def rNe : R2:=fun x y H Q=>IQ x y = true /\ Q (.bl (!decide (x = y))) H
theorem Dt {i j : Int} : decide (V.int i = V.int j) = (i == j):=by
  rw [Bool.eq_iff_iff]
  simp
theorem Bu {i j : Bool} : decide (V.bl i = V.bl j) = (i == j):=by
  rw [Bool.eq_iff_iff]
  simp
theorem F2 {i j : Str} : decide (V.str i = V.str j) = (i == j):=by
  rw [Bool.eq_iff_iff]
  simp
theorem FM {i j : Array UInt8} : decide (V.byt i = V.byt j) = (i.toList == j.toList):=by
  rw [Bool.eq_iff_iff]
  cases i
  cases j
  simp
section
variable {X : Cx} {a b c : Expr} {ta tb tc : TE} {pos : Pos}
theorem XZ {pins : List (Addr × Obj)} {σ : St} {H : Hp} {s : Shared} {Q : VK} {k k' : Bool} (I : Inv X pins σ H s) (q : Q (.bl k) H) (e : k = k') : EP X pins σ Q (.bool k') s:=by
  subst e
  exact ⟨.bl k, H, I, rfl, q⟩
theorem Y8 : OpR X (compareOp .Eq) rEq:=by
  intro pins s σ H x y v u Q I rx ry h
  obtain ⟨hs, q⟩:=h
  cases x with
  | non=>
    cases rx
    cases y with
    | non=>cases ry; exact PySem.EqNone.eq_none_none (XZ I q (by simp))
    | bl j=>cases ry; exact PySem.EqNone.eq_none_bool (XZ I q (by simp))
    | int j=>obtain ⟨t', rfl⟩:=ry; exact PySem.EqNone.eq_none_int (XZ I q (by simp))
    | str j=>obtain ⟨t', rfl⟩:=ry; exact PySem.EqNone.eq_none_str (XZ I q (by simp))
    | _=>exact absurd (show false = true from hs) Bool.false_ne_true
  | bl i=>
    cases rx
    cases y with
    | non=>cases ry; exact PySem.EqNone.eq_bool_none (XZ I q (by simp))
    | bl j=>cases ry; exact eq_bool (XZ I q Bu)
    | str j=>obtain ⟨t', rfl⟩:=ry; exact PySem.EqMixed.eq_bool_str (XZ I q (by simp))
    | _=>exact absurd (show false = true from hs) Bool.false_ne_true
  | int i=>
    obtain ⟨t, rfl⟩:=rx
    cases y with
    | non=>cases ry; exact PySem.EqNone.eq_int_none (XZ I q (by simp))
    | int j=>obtain ⟨t', rfl⟩:=ry; exact eq_int (XZ I q Dt)
    | str j=>obtain ⟨t', rfl⟩:=ry; exact PySem.EqMixed.eq_int_str (XZ I q (by simp))
    | _=>exact absurd (show false = true from hs) Bool.false_ne_true
  | str i=>
    obtain ⟨t, rfl⟩:=rx
    cases y with
    | non=>cases ry; exact PySem.EqNone.eq_str_none (XZ I q (by simp))
    | bl j=>cases ry; exact PySem.EqMixed.eq_str_bool (XZ I q (by simp))
    | int j=>obtain ⟨t', rfl⟩:=ry; exact PySem.EqMixed.eq_str_int (XZ I q (by simp))
    | str j=>obtain ⟨t', rfl⟩:=ry; exact eq_str (XZ I q F2)
    | _=>exact absurd (show false = true from hs) Bool.false_ne_true
  | byt i=>
    obtain ⟨t, rfl⟩:=rx
    cases y with
    | byt j=>obtain ⟨t', rfl⟩:=ry; exact PySem.W.eq_bytes (XZ I q FM)
    | _=>exact absurd (show false = true from hs) Bool.false_ne_true
  | _=>cases y <;> exact absurd (show false = true from hs) Bool.false_ne_true
theorem Jc : OpR X (compareOp .NotEq) rNe:=by
  intro pins s σ H x y v u Q I rx ry h
  obtain ⟨hs, q⟩:=h
  cases x with
  | non=>
    cases rx
    cases y with
    | non=>cases ry; exact PySem.EqNone.ne_none_none (XZ I q (by simp))
    | bl j=>cases ry; exact PySem.EqNone.ne_none_bool (XZ I q (by simp))
    | int j=>obtain ⟨t', rfl⟩:=ry; exact PySem.EqNone.ne_none_int (XZ I q (by simp))
    | str j=>obtain ⟨t', rfl⟩:=ry; exact PySem.EqNone.ne_none_str (XZ I q (by simp))
    | _=>exact absurd (show false = true from hs) Bool.false_ne_true
  | bl i=>
    cases rx
    cases y with
    | non=>cases ry; exact PySem.EqNone.ne_bool_none (XZ I q (by simp))
    | bl j=>cases ry; exact ne_bool (XZ I q (congrArg not Bu))
    | str j=>obtain ⟨t', rfl⟩:=ry; exact PySem.EqMixed.ne_bool_str (XZ I q (by simp))
    | _=>exact absurd (show false = true from hs) Bool.false_ne_true
  | int i=>
    obtain ⟨t, rfl⟩:=rx
    cases y with
    | non=>cases ry; exact PySem.EqNone.ne_int_none (XZ I q (by simp))
    | int j=>obtain ⟨t', rfl⟩:=ry; exact ne_int (XZ I q (congrArg not Dt))
    | str j=>obtain ⟨t', rfl⟩:=ry; exact PySem.EqMixed.ne_int_str (XZ I q (by simp))
    | _=>exact absurd (show false = true from hs) Bool.false_ne_true
  | str i=>
    obtain ⟨t, rfl⟩:=rx
    cases y with
    | non=>cases ry; exact PySem.EqNone.ne_str_none (XZ I q (by simp))
    | bl j=>cases ry; exact PySem.EqMixed.ne_str_bool (XZ I q (by simp))
    | int j=>obtain ⟨t', rfl⟩:=ry; exact PySem.EqMixed.ne_str_int (XZ I q (by simp))
    | str j=>obtain ⟨t', rfl⟩:=ry; exact ne_str (XZ I q (congrArg not F2))
    | _=>exact absurd (show false = true from hs) Bool.false_ne_true
  | byt i=>
    obtain ⟨t, rfl⟩:=rx
    cases y with
    | byt j=>obtain ⟨t', rfl⟩:=ry; exact PySem.W.ne_bytes (XZ I q (congrArg not FM))
    | _=>exact absurd (show false = true from hs) Bool.false_ne_true
  | _=>cases y <;> exact absurd (show false = true from hs) Bool.false_ne_true
theorem Z5 : OpR X (compareOp .Lt) (rI0 fun i j=>.bl (decide (i < j))):=ID fun _ _ _ _ _ _ _ q=>lt_int q
theorem EQ : OpR X (compareOp .LtE) (rI0 fun i j=>.bl (decide (i <= j))):=ID fun _ _ _ _ _ _ _ q=>le_int q
theorem J9 : OpR X (compareOp .Gt) (rI0 fun i j=>.bl (decide (j < i))):=ID fun _ _ _ _ _ _ _ q=>gt_int q
theorem Bm : OpR X (compareOp .GtE) (rI0 fun i j=>.bl (decide (j <= i))):=ID fun _ _ _ _ _ _ _ q=>ge_int q
theorem HW : OpR X (compareOp .Is) (fun x y H Q=>y = .non /\ Q (.bl (decide (x = .non))) H):=by
  intro pins s σ H x y v u Q I rx ry h
  obtain ⟨rfl, q⟩:=h
  cases ry
  refine is_none_gen (XZ I q ?_)
  cases x <;> first
    | (cases rx; rfl)
    | (obtain ⟨t, rfl⟩:=rx; rfl)
theorem OpR.or {f : Value -> Value -> Sem Value} {r r' : R2} (h : OpR X f r) (h' : OpR X f r') : OpR X f (fun x y H Q=>r x y H Q ∨ r' x y H Q):=by
  intro pins s σ H x y v u Q I rx ry q
  rcases q with q | q
  . exact h pins s σ H x y v u Q I rx ry q
  . exact h' pins s σ H x y v u Q I rx ry q
theorem Xs (b : Expr) {op : CmpOp} (h : op ≠ .In:=by decide) (h2 : op ≠ .NotIn:=by decide) : behindInMarks op b = false:=by
  have e1 : (op == CmpOp.In) = false:=by cases op <;> first | rfl | exact absurd rfl h
  have e2 : (op == CmpOp.NotIn) = false:=by cases op <;> first | rfl | exact absurd rfl h2
  cases b <;> simp [behindInMarks, e1, e2]
theorem Z6 {op : CmpOp} {r : R2} (ho : OpR X (compareOp op) r) (ha : PE X a ta) (hb : PE X b tb) (hm : behindInMarks op b = false) : PE X (.Compare a [op] [b] pos) (tOp r ta tb):=by
  intro pins s σ H Q I h
  exact wpAny_Compare1 (IK ha hb I h fun v u s2 x y H2 I2 rx ry q=>ho pins s2 σ H2 x y v u Q I2 rx ry q) hm
noncomputable def Ez (t : TE) : TT:=fun σ H Q=>t σ H fun x H'=>∃ k, x = .bl k /\ Q k H'
theorem Xp {op : CmpOp} {r : R2} (ho : OpR X (compareOp op) r) (ha : PE X a ta) (hb : PE X b tb) (hm : behindInMarks op b = false) : PT X (.Compare a [op] [b] pos) (Ez (tOp r ta tb)):=by
  intro pins s σ H Q I h
  refine wpAny_isTrue_Compare1 (thn (ha pins s σ H _ I h) fun v s1 ⟨x, H1, I1, r1, q1⟩=>thn (hb pins s1 σ H1 _ I1 q1) fun u s2 ⟨y, H2, I2, r2, q2⟩=>
    thn (ho pins s2 σ H2 x y v u _ I2 r1 r2 q2) fun c s3 ⟨z, H3, I3, r3, k, e, q3⟩=>?_) hm
  subst e
  cases r3
  exact wpAny_truthy_bool ⟨H3, I3, q3⟩
noncomputable def DY (r r' : R2) (ta tb tc : TE) : TE:=fun σ H Q=>ta σ H fun x H1=>tb σ H1 fun y H2=>r x y H2 fun z H3=>∃ k, z = .bl k /\
  (if k = true then tc σ H3 fun w' H4=>r' y w' H4 Q else Q (.bl false) H3)
theorem K3 {op op' : CmpOp} {r r' : R2} (ho : OpR X (compareOp op) r) (ho' : OpR X (compareOp op') r') (ha : PE X a ta) (hb : PE X b tb) (hc : PE X c tc)
    (hm : lastMarks [op, op'] [b, c] = false:=by with_unfolding_all rfl) : PE X (.Compare a [op, op'] [b, c] pos) (DY r r' ta tb tc):=by
  intro pins s σ H Q I h
  refine Compare_chain (thn (ha pins s σ H _ I h) fun v s1 ⟨x, H1, I1, r1, q1⟩=>chain_link (thn (hb pins s1 σ H1 _ I1 q1) fun u s2 ⟨y, H2, I2, r2, q2⟩=>
    thn (ho pins s2 σ H2 x y v u _ I2 r1 r2 q2) fun d s3 ⟨z, H3, I3, r3, k, e, q3⟩=>?_)) hm
  subst e
  cases r3
  refine wpAny_truthy_bool ?_
  cases k with
  | false=>exact ite_ff ⟨.bl false, H3, I3, rfl, q3⟩
  | true=>exact ite_tt (chain_last (thn (hc pins s3 σ H3 _ I3 q3) fun w' s4 ⟨z', H4, I4, r4, q4⟩=>ho' pins s4 σ H4 y z' u w' Q I4 r2 r4 q4))
theorem C0 {op op' : CmpOp} {r r' : R2} (ho : OpR X (compareOp op) r) (ho' : OpR X (compareOp op') r') (ha : PE X a ta) (hb : PE X b tb) (hc : PE X c tc)
    (hm : lastMarks [op, op'] [b, c] = false:=by with_unfolding_all rfl) : PT X (.Compare a [op, op'] [b, c] pos) (Ez (DY r r' ta tb tc)):=by
  intro pins s σ H Q I h
  refine isTrue_chain (thn (ha pins s σ H _ I h) fun v s1 ⟨x, H1, I1, r1, q1⟩=>test_link (thn (hb pins s1 σ H1 _ I1 q1) fun u s2 ⟨y, H2, I2, r2, q2⟩=>
    thn (ho pins s2 σ H2 x y v u _ I2 r1 r2 q2) fun d s3 ⟨z, H3, I3, r3, k, e, q3⟩=>?_)) hm
  subst e
  cases r3
  refine wpAny_truthy_bool ?_
  cases k with
  | false=>
    obtain ⟨k', e', q'⟩:=q3
    cases e'
    exact ite_ff ⟨H3, I3, q'⟩
  | true=>
    refine ite_tt (test_last (thn (hc pins s3 σ H3 _ I3 q3) fun w' s4 ⟨z', H4, I4, r4, q4⟩=>thn (ho' pins s4 σ H4 y z' u w' _ I4 r2 r4 q4) fun d' s5 ⟨z2, H5, I5, r5, k2, e2, q5⟩=>?_))
    subst e2
    cases r5
    exact wpAny_truthy_bool ⟨H5, I5, q5⟩
theorem Gj : (sizeLine : Nat) < 2 ^ 63:=by rw [sizeLine_eq]; decide
theorem JO {x : V} {us : List Value} (r : X5 [x] us) : ∃ u, us = [u] /\ X4 x u:=by
  cases r with
  | cons r1 r2=>cases r2; exact ⟨_, rfl, r1⟩
theorem Hm {x y : V} {us : List Value} (r : X5 [x, y] us) : ∃ u w', us = [u, w'] /\ X4 x u /\ X4 y w':=by
  cases r with
  | cons r1 r2=>
    cases r2 with
    | cons r3 r4=>cases r4; exact ⟨_, _, rfl, r1, r3⟩
theorem KE : Zk X (.builtin "abs") (fun xs H Q=>∃ i, xs = [.int i] /\ Q (.int (if i < 0 then -i else i)) H):=by
  intro pins s σ H xs us Q I r h
  obtain ⟨i, rfl, q⟩:=h
  obtain ⟨u, rfl, t, rfl⟩:=JO r
  exact call_abs_int fun u tk=>⟨.int (if i < 0 then -i else i), H, I.tok _, ⟨_, rfl⟩, q⟩
theorem UN (hc : X.calm = true) : Zk X (.builtin "max") (fun xs H Q=>∃ i j, xs = [.int i, .int j] /\ Q (.int (if j > i then j else i)) H):=by
  intro pins s σ H xs us Q I r h
  obtain ⟨i, j, rfl, q⟩:=h
  obtain ⟨u, w', rfl, ⟨t, rfl⟩, ⟨t', rfl⟩⟩:=Hm r
  refine max_two_ints (I.ok.hd hc) fun h' tk k=>⟨_, H, I.kept k, ?_, q⟩
  by_cases hj : j > i
  . rw [if_pos hj, if_pos hj]; exact ⟨_, rfl⟩
  . rw [if_neg hj, if_neg hj]; exact ⟨_, rfl⟩
theorem FY (hc : X.calm = true) : Zk X (.builtin "min") (fun xs H Q=>∃ i j, xs = [.int i, .int j] /\ Q (.int (if j < i then j else i)) H):=by
  intro pins s σ H xs us Q I r h
  obtain ⟨i, j, rfl, q⟩:=h
  obtain ⟨u, w', rfl, ⟨t, rfl⟩, ⟨t', rfl⟩⟩:=Hm r
  refine min_two_ints (I.ok.hd hc) fun h' tk k=>⟨_, H, I.kept k, ?_, q⟩
  by_cases hj : j < i
  . rw [if_pos hj, if_pos hj]; exact ⟨_, rfl⟩
  . rw [if_neg hj, if_neg hj]; exact ⟨_, rfl⟩
theorem Fk : Zk X (.type "int") (fun xs H Q=>(∃ i, xs = [.int i] /\ Q (.int i) H) ∨ ∃ k, xs = [.bl k] /\ Q (.int (if k then 1 else 0)) H):=by
  intro pins s σ H xs us Q I r h
  rcases h with ⟨i, rfl, q⟩ | ⟨k, rfl, q⟩
  . obtain ⟨u, rfl, t, rfl⟩ := JO r
    exact call_int_int ⟨.int i, H, I, ⟨_, rfl⟩, q⟩
  . obtain ⟨u, rfl, r1⟩ := JO r
    cases r1
    exact call_int_bool ⟨.int (if k then 1 else 0), H, I.tok _, ⟨_, rfl⟩, q⟩
end
end L2
namespace L2
open PySem PySem.Spec PyProof.Rows
structure ObjM (h : Heap) (x dx C : Addr) (mA : Str -> Option Value) : Prop where
  obj : h.get? x = some (PySem.W.instObj C dx)
  ns : h.Ns1 dx mA
  ne : dx ≠ x
theorem Cb {h : Heap} {dx : Addr} {mA : Str -> Option Value} (n : h.Ns1 dx mA) : ∃ od, h.get? dx = some od /\ ∀ name, PySem.W.lookIn name od = some (mA name):=by
  obtain ⟨o, es, ep, ho, hd, hk, _, hm⟩:=n
  refine ⟨o, ho, fun name=>?_⟩
  have e:=hm name
  unfold nsFind findBy at e
  rw [← Array.find?_toList] at e
  unfold PySem.W.lookIn
  rw [hd]
  dsimp only
  split
  . rename_i y q
    rw [q] at e
    exact congrArg some e
  . rename_i q
    rw [q] at e
    have a : es.toList.any (·.refKey) = false:=by
      rw [List.any_eq_false]
      intro y hy
      obtain ⟨z, t, hkey⟩:=hk y (Array.mem_toList_iff.mp hy)
      simp [DictEntry.refKey, hkey]
    have a' : ¬ es.toList.any (·.refKey) = true:=by rw [a]; exact Bool.false_ne_true
    rw [if_neg a']
    exact congrArg some e
theorem ObjM.look {h : Heap} {x dx C : Addr} {mA : Str -> Option Value} (I : ObjM h x dx C mA) : ∃ od, PySem.W.InstAt h x (PySem.W.instObj C dx) C (some od) /\ ∀ name, PySem.W.lookIn name od = some (mA name):=
  let ⟨od, ho, hl⟩:=Cb I.ns
  ⟨od, ⟨I.obj, rfl, rfl, ho⟩, hl⟩
section
variable {prog : Program} {w : World} {A : Around} {E : Value -> Shared -> Prop} {s : Shared} {K : PySem.W.Frag} {x dx C f : Addr} {mA : Str -> Option Value} {name : Str} {v : Value}
end
section
variable {P : Program} {w : World} {H H' : Hp} {h h' : Heap} {a C dx : Addr} {fs fs' : List (Str × V)}
theorem BX (hok : HOk P w H h) (e : H a = some (.ins C dx fs)) : ∃ mA, ObjM h a dx C mA /\ (∀ f, CV (fs.lookup f) (mA f)) /\ PySem.Within mA (fs.map (·.1)) /\ fs.length <= 1000 /\ H dx = some (.own a):=by
  obtain ⟨d, z, ne, ob, mA, n, r, q⟩:=(show Yz P w H h a (.ins C dx fs) from hok a _ e)
  exact ⟨mA, ⟨ob, n, ne⟩, r, q, z, d⟩
end
structure Cls (K : PySem.W.Frag) (C : Addr) : Prop where
  pg : PySem.W.plainGet K C Str.empty = true
  hd : PySem.W.hasDictIn K C = true
  po : PySem.W.plainOver K C = true
  sa : PySem.W.findIn K (.ref C) "__setattr__" = some (some (.builtin "object.__setattr__"))
theorem Cls.get {K : PySem.W.Frag} {C : Addr} (c : Cls K C) (f : Str) : PySem.W.plainGet K C f = true:=c.pg
section
variable {X : Cx} {pins : List (Addr × Obj)} {σ : St} {H : Hp} {s : Shared} {a C dx : Addr} {fs : List (Str × V)} {f : Str} {v : V} {A : Around} {E : Value -> Shared -> Prop}
theorem Inv.made (I : Inv X pins σ H s) : Inv X pins σ (upd (upd H s.heap.objs.size (.own (s.heap.objs.size + 1))) (s.heap.objs.size + 1) (.ins C s.heap.objs.size []))
    { s with heap:=(s.heap.push PySem.W.emptyDict).push (PySem.W.instObj C s.heap.objs.size) }:=by
  have e1 : (s.heap.push PySem.W.emptyDict).get? s.heap.objs.size = some PySem.W.emptyDict:=Heap.get?_push_size s.heap rfl
  have e2 : ((s.heap.push PySem.W.emptyDict).push (PySem.W.instObj C s.heap.objs.size)).get? (s.heap.objs.size + 1) = some (PySem.W.instObj C s.heap.objs.size):=by
    have:=Heap.get?_push_size (s.heap.push PySem.W.emptyDict) (o:=PySem.W.instObj C s.heap.objs.size) rfl
    rwa [Heap.size_push] at this
  have e3 : (s.heap.push PySem.W.emptyDict).Ns s.heap.objs.size (fun _=>none):=⟨PySem.W.emptyDict, #[], _, e1, rfl, (fun e he=>absurd he (by simp)), fun _=>rfl⟩
  have I1:=I.laid (a:=s.heap.objs.size) (o:=.own (s.heap.objs.size + 1)) (h':=s.heap.push PySem.W.emptyDict) (t':=s.toks) (fun b u q=>Heap.get?_push_of_some _ q) (Nat.le_refl _) ⟨_, e1⟩
  refine I1.laid (a:=s.heap.objs.size + 1) (o:=.ins C s.heap.objs.size []) (t':=s.toks) (fun b u q=>Heap.get?_push_of_some _ q) (Nat.le_of_eq (Heap.size_push _ _)) ?_
  have ne : s.heap.objs.size ≠ s.heap.objs.size + 1:=Nat.ne_of_lt (Nat.lt_succ_self _)
  refine ⟨by rw [XT ne, Yb], Nat.zero_le _, ne, e2, fun _=>none, (Heap.Ns1.of_empty e3).at fun o q=>Heap.get?_push_of_some _ q, fun _=>True.intro, fun y hy=>absurd rfl hy⟩
end
section
variable {X : Cx} {o e value : Expr} {f : Str} {pos pos' tpos : Pos} {ta tv : TE}
end
section
variable {X : Cx} {pins : List (Addr × Obj)} {σ : St} {H : Hp} {s : Shared} {A : Around} {E : Value -> Shared -> Prop} {Q : Value -> Shared -> Prop} {c : Value} {b : Bool}
inductive TyOf (K : PySem.W.Frag) (H : Hp) : V -> Value -> Prop where
  | non : TyOf K H .non (.type "NoneType")
  | bl (x : Bool) : TyOf K H (.bl x) (.type "bool")
  | int (i : Int) : TyOf K H (.int i) (.type "int")
  | str (x : Str) : TyOf K H (.str x) (.type "str")
  | flt (x : UInt64) : TyOf K H (.flt x) (.type "float")
  | lst {a : Addr} {xs : List V} (e : H a = some (.lst xs)) : TyOf K H (.ref a) (.type "list")
  | frz {a : Addr} {o : Obj} {xs : List V} (e : H a = some (.frz o (.lst xs))) : TyOf K H (.ref a) (.type "list")
  | tup {a : Addr} {xs : List V} (e : H a = some (.tup xs)) : TyOf K H (.ref a) (.type "tuple")
  | dK {a : Addr} {kvs : List (Key × V)} (e : H a = some (.dK kvs)) : TyOf K H (.ref a) (.type "dict")
  | dT {a : Addr} {kvs : List (List Key × V)} (e : H a = some (.dT kvs)) : TyOf K H (.ref a) (.type "dict")
  | ins {a C dx : Addr} {fs : List (Str × V)} (e : H a = some (.ins C dx fs)) (cl : Cls K C) (ha : PySem.W.findIn K (.ref C) "__class__" = some (some (.builtin "object.__class__")))
      (hn : PySem.W.specialIn K (.builtin "object.__class__") "__get__" = some (some (.builtin "getset_descriptor.__get__"))) (htk : PySem.W.takesIn K (.builtin "object.__class__") = some true)
      (hm : PySem.W.mroIn K C (.type "object") = some true) : TyOf K H (.ref a) (.ref C)
theorem Dh {x : V} {u t : Value} (I : Inv X pins σ H s) (rx : X4 x u) (ty : TyOf X.K H x t) (e : PySem.W.kitOne X.K t c = some b) (h : ∀ tk, Q (.bool b) { s with toks:=tk }) :
    wpAny (model X.prog X.w) A (call (.builtin "isinstance") [u, c]) Q E s:=by
  cases ty with
  | non=>cases (show u = Value.none from rx); exact PySem.W.kia_one PySem.W.kitx_none I.kIn True.intro e (fun z=>nomatch z) h
  | bl y=>cases (show u = Value.bool y from rx); exact PySem.W.kia_one PySem.W.kitx_bool I.kIn True.intro e (fun z=>nomatch z) h
  | int i=>obtain ⟨t, q⟩:=(show ∃ t, u = Value.int i t from rx); cases q; exact PySem.W.kia_one PySem.W.kitx_int I.kIn True.intro e (fun z=>nomatch z) h
  | str y=>obtain ⟨t, q⟩:=(show ∃ t, u = Value.str y t from rx); cases q; exact PySem.W.kia_one PySem.W.kitx_str I.kIn True.intro e (fun z=>nomatch z) h
  | flt y=>obtain ⟨t, q⟩:=(show ∃ t, u = Value.float y t from rx); cases q; exact PySem.W.kia_one PySem.W.kitx_float I.kIn True.intro e (fun z=>nomatch z) h
  | @lst a xs ea=>
    cases (show u = Value.ref a from rx)
    obtain ⟨_, _, n, _, h1⟩:=(show Yz X.prog X.w H s.heap a (.lst xs) from I.hok a _ ea)
    exact PySem.W.kia_one PySem.W.kitx_list I.kIn ⟨_, h1, rfl⟩ e (fun z=>nomatch z) h
  | @frz a ob xs ea=>
    cases (show u = Value.ref a from rx)
    obtain ⟨_, _, _, n, _, h1⟩:=(show Yz X.prog X.w H s.heap a (.frz ob (.lst xs)) from I.hok a _ ea)
    exact PySem.W.kia_one PySem.W.kitx_list I.kIn ⟨_, h1, rfl⟩ e (fun z=>nomatch z) h
  | @tup a xs ea=>
    cases (show u = Value.ref a from rx)
    obtain ⟨_, _, _, p⟩:=(show Yz X.prog X.w H s.heap a (.tup xs) from I.hok a _ ea)
    obtain ⟨o, h1, h2, _⟩:=p
    exact PySem.W.kia_one PySem.W.kitx_tuple I.kIn ⟨o, h1, h2.1⟩ e (fun z=>nomatch z) h
  | @dK a kvs ea=>
    cases (show u = Value.ref a from rx)
    obtain ⟨_, _, vs, _, p⟩:=(show Yz X.prog X.w H s.heap a (.dK kvs) from I.hok a _ ea)
    obtain ⟨o, es, ep, h1, h2, _⟩:=p
    exact PySem.W.kia_one PySem.W.kitx_dict I.kIn ⟨o, h1, h2.1⟩ e (fun z=>nomatch z) h
  | @dT a kvs ea=>
    cases (show u = Value.ref a from rx)
    obtain ⟨_, _, xs, _, o, es, ep, h1, h2, _⟩:=(show Yz X.prog X.w H s.heap a (.dT kvs) from I.hok a _ ea)
    exact PySem.W.kia_one PySem.W.kitx_dict I.kIn ⟨o, h1, h2.1⟩ e (fun z=>nomatch z) h
  | @ins a C dx fs ea cl ha hn htk hm=>
    cases (show u = Value.ref a from rx)
    obtain ⟨mA, O, _⟩:=BX I.hok ea
    obtain ⟨od, J, _⟩:=O.look
    exact PySem.W.kia_one (PySem.W.kitx_own (cl.get _) cl.hd ha hn htk hm) I.kIn J e (fun z=>nomatch z) h
end
end L2
namespace L2
open PySem PySem.Spec PyProof.Rows
structure Room (k : Nat) (A : Around) : Prop where
  hd : A.handled = none
  dp : A.depth + 3 * k + 5 < recursionLimit
  un : A.units + 16 * k + 200 < cLine
theorem Room.mono {j k : Nat} {A : Around} (r : Room k A) (h : j <= k) : Room j A:=⟨r.hd, by have:=r.dp; omega, by have:=r.un; omega⟩
theorem Room.deeper {k : Nat} {A : Around} (r : Room (k + 1) A) (env : Env) : Room k (A.deeper env):=
  ⟨r.hd, by have:=r.dp; show A.depth + 1 + 3 * k + 5 < _; omega, by have:=r.un; show A.units + 3 + 16 * k + 200 < _; omega⟩
theorem Room.in1 {k : Nat} {A : Around} (r : Room (k + 1) A) : Room k A.in1:=
  ⟨r.hd, by have:=r.dp; show A.depth + 3 * k + 5 < _; omega, by have:=r.un; show A.units + 1 + 16 * k + 200 < _; omega⟩
theorem Room.depth {k : Nat} {A : Around} (r : Room k A) : A.depth < recursionLimit:=by have:=r.dp; omega
theorem Room.units {k : Nat} {A : Around} (r : Room k A) : A.units + 64 < cLine:=by have:=r.un; omega
noncomputable def ZB : TA:=fun _ H Q=>Q [] H
noncomputable def XG (ta : TE) (tr : TA) : TA:=fun σ H Q=>ta σ H fun x H1=>tr σ H1 fun xs H2=>Q (x :: xs) H2
section
variable {X : Cx} {e : Expr} {es : List Expr} {te : TE} {t : TA} {pos : Pos}
theorem Xf : PA X [] ZB:=fun _ _ _ _ H Q I h=>Calls.spliced_nil ⟨[], H, I, .nil, h⟩
theorem Xc (ha : PE X e te) (hr : PA X es t) (hs : starEach (e :: es) X.env = (false, eval e X.env) :: starEach es X.env:=by rfl) : PA X (e :: es) (XG te t):=by
  intro pos pins s σ H Q I h
  rw [hs]
  show wpAny _ _ (spliced ((false, eval e X.env) :: backTo pos (starEach es X.env))) _ _ s
  refine Calls.spliced_cons (thn (ha pins s σ H _ I h) fun u s1 ⟨x, H1, I1, r1, q1⟩=>?_)
  exact thn (hr pos pins s1 σ H1 _ I1 q1) fun us s2 ⟨xs, H2, I2, r2, q2⟩=>⟨x :: xs, H2, I2, .cons r1 r2, q2⟩
noncomputable def E8 (t : TA) : TE:=fun σ H Q=>t σ H fun xs H1=>xs.length <= sizeLine /\ ∀ p, H1 p = none -> Q (.ref p) (upd H1 p (.tup xs))
noncomputable def CY (t : TA) : TE:=fun σ H Q=>t σ H fun xs H1=>xs.length <= sizeLine /\ ∀ p, H1 p = none -> Q (.ref p) (upd H1 p (.lst xs))
theorem Zb {x1} (h : PA X es t) : PE X (.Tuple es x1 pos) (E8 t):=by
  intro pins s σ H Q I hq
  refine wpAny_Tuple_spliced (thn (h pos pins s σ H _ I hq) fun us s1 ⟨xs, H1, I1, r, z, q⟩=>⟨by rw [← r.length]; exact z, ?_⟩)
  have hf : H1 s1.heap.objs.size = none:=I1.hok.fresh (Nat.le_refl _)
  refine ⟨.ref s1.heap.objs.size, upd H1 s1.heap.objs.size (.tup xs), I1.laid (t':=s1.toks) (fun b u e=>Heap.get?_push_of_some _ e) (Nat.le_refl _) ?_, rfl, q _ hf⟩
  exact ⟨z, us, r, ⟨_, Heap.get?_push_size _ rfl, ⟨rfl, rfl⟩, _, rfl⟩⟩
theorem XQ (h : PA X es t) : PE X (.List es pos) (CY t):=by
  intro pins s σ H Q I hq
  refine wpAny_List_spliced (thn (h pos pins s σ H _ I hq) fun us s1 ⟨xs, H1, I1, r, z, q⟩=>⟨by rw [← r.length]; exact z, ?_⟩)
  have hf : H1 s1.heap.objs.size = none:=I1.hok.fresh (Nat.le_refl _)
  refine ⟨.ref s1.heap.objs.size, upd H1 s1.heap.objs.size (.lst xs), I1.laid (t':=s1.toks) (fun b u e=>Heap.get?_push_of_some _ e) (Nat.le_refl _) ?_, rfl, q _ hf⟩
  exact ⟨z, us, 0, r, Heap.get?_push_size _ rfl⟩
end
noncomputable abbrev Sp:=List V -> Hp -> VK -> XK -> Prop
noncomputable abbrev CXT:=List Env -> Hp -> Shared -> XK -> Value -> Shared -> Prop
structure Env0 (P : Program) (w : World) (K : PySem.W.Frag) (mg : Str -> Option Value) (base : Heap) (A : Around) (outer : List Env) (s : Shared) (H : Hp) : Prop where
  frames : A.frames = some outer
  mod : Mod K mg base
  bs : ∀ b o, base.get? b = some o -> s.heap.get? b = some o /\ H b = none
  bsz : base.objs.size <= s.heap.objs.size
  funs : s.heap.FunFrames base outer
  frf : ∀ b ∈ frs outer, H b = none
  hok : HOk P w H s.heap
  bare : AllBare s.gens
noncomputable def CE (outer : List Env) (P : Program) (w : World) (H : Hp) (s : Shared) (Q : VK) (u : Value) (s' : Shared) : Prop:=
  ∃ v H', s'.os = s.os /\ AllBare s'.gens /\ Un (frs outer) [] H H' s.heap s'.heap /\ HOk P w H' s'.heap /\ X4 v u /\ Q v H'
noncomputable def CR (CX : CXT) (outer : List Env) (P : Program) (w : World) (H : Hp) (s : Shared) (Q : VK) (E : XK) (r : Result) (s' : Shared) : Prop:=
  match r with
  | .ok (.ret u)=>CE outer P w H s Q u s'
  | .ok _=>False
  | .error e=>CX outer H s E e s'
structure FnOk (P : Program) (w : World) (K : PySem.W.Frag) (mg : Str -> Option Value) (base : Heap) (CX : CXT) (k : Nat) (f : Addr) (fd : FuncData) (ps : List Str) (sp : Sp) : Prop where
  len : ∀ vs H Q E, sp vs H Q E -> vs.length = ps.length
  run : ∀ (A : Around) (outer : List Env) (s : Shared) (H : Hp) (args : Args) (us : List Value) (vs : List V) (Q : VK) (E : XK), Room k A -> Env0 P w K mg base A outer s H -> BindsTo s fd args (ps.zip us) -> X5 vs us -> sp vs H Q E ->
    codeAny (model P w) A (.call (.ref f) args) (CR CX outer P w H s Q E) s
theorem FnOk.mono {P : Program} {w : World} {K : PySem.W.Frag} {mg : Str -> Option Value} {base : Heap} {CX : CXT} {j k : Nat} {f : Addr} {fd : FuncData} {ps : List Str} {sp : Sp} (F : FnOk P w K mg base CX j f fd ps sp) (h : j <= k) :
    FnOk P w K mg base CX k f fd ps sp:=⟨F.len, fun A outer s H args us vs Q E hr=>F.run A outer s H args us vs Q E (hr.mono h)⟩
theorem FnOk.imp {P : Program} {w : World} {K : PySem.W.Frag} {mg : Str -> Option Value} {base : Heap} {CX : CXT} {k : Nat} {f : Addr} {fd : FuncData} {ps : List Str} {sp sp' : Sp} (F : FnOk P w K mg base CX k f fd ps sp)
    (h : ∀ vs H Q E, sp' vs H Q E -> sp vs H Q E) : FnOk P w K mg base CX k f fd ps sp':=
  ⟨fun vs H Q E q=>F.len vs H Q E (h _ _ _ _ q), fun A outer s H args us vs Q E hr he hb hv hs=>F.run A outer s H args us vs Q E hr he hb hv (h _ _ _ _ hs)⟩
theorem Env0.in1 {P : Program} {w : World} {K : PySem.W.Frag} {mg : Str -> Option Value} {base : Heap} {A : Around} {outer : List Env} {s : Shared} {H : Hp} (e : Env0 P w K mg base A outer s H) :
    Env0 P w K mg base A.in1 outer s H:=⟨e.frames, e.mod, e.bs, e.bsz, e.funs, e.frf, e.hok, e.bare⟩
section
variable {X : Cx} {pins : List (Addr × Obj)} {σ : St} {H : Hp} {s s' : Shared}
theorem Inv.env0 (I : Inv X pins σ H s) : Env0 X.prog X.w X.K X.mg X.base X.A X.stack s H:=
  ⟨I.ok.frames, I.ok.mod, I.bs, Nat.le_trans I.ok.bsz I.sz, I.stack, I.stkFree, I.hok, I.bare⟩
theorem Inv.after {Q : VK} {u : Value} (I : Inv X pins σ H s) (h : CE X.stack X.prog X.w H s Q u s') : EP X pins σ Q u s':=by
  obtain ⟨v, H', os, bare, un, hok, r, q⟩:=h
  obtain ⟨hh, g, d, t, os'⟩:=s'
  obtain rfl : os' = s.os:=os
  exact ⟨v, H', I.call (h':=hh) (g':=g) (d':=d) (t':=t) (ch:=[]) un hok bare (fun b z=>absurd z (by simp)), r, q⟩
end
noncomputable def GQ (sp : Sp) (dvs : List V) (E : XK) (t : TA) : TE:=fun σ H Q=>t σ H fun vs H1=>sp (vs ++ dvs) H1 Q E
noncomputable def Kj (K : PySem.W.Frag) (fd : FuncData) (ps : List Str) (ds : List Value) : Prop:=
  ∀ (s : Shared) (us : List Value), K.In s.heap -> (us ++ ds).length = ps.length -> BindsTo s fd ⟨us, []⟩ (ps.zip (us ++ ds))
theorem Kj.all {K : PySem.W.Frag} {fd : FuncData} {ps : List Str} (h : ∀ us : List Value, us.length = ps.length -> bindArgs fd ⟨us, []⟩ = pure (ps.zip us)) : Kj K fd ps []:=fun s us _ hl=>by
  rw [List.append_nil] at hl ⊢
  exact .of_eq (h us hl)
noncomputable def DF (CX : CXT) (X : Cx) (E : XK) : Prop:=∀ (pins : List (Addr × Obj)) (σ : St) (H : Hp) (s : Shared) (e : Value) (s' : Shared), Inv X pins σ H s -> CX X.stack H s E e s' -> X.xe e s'
section
variable {X : Cx} {CX : CXT} {k : Nat} {f C : Addr} {fd : FuncData} {ps : List Str} {sp : Sp} {dvs : List V} {ds : List Value} {E : XK} {x m : Str} {p pos apos : Pos} {e o : Expr} {es : List Expr} {ta : TE} {t : TA}
theorem Hv {pins : List (Addr × Obj)} {σ : St} {H : Hp} {s : Shared} {Q : VK} {us : List Value} {vs : List V} (F : FnOk X.prog X.w X.K X.mg X.base CX k f fd ps sp) (hr : Room k X.A) (hb : Kj X.K fd ps ds) (hd : X5 dvs ds) (hx : DF CX X E)
    (I : Inv X pins σ H s) (r : X5 vs us) (h : sp (vs ++ dvs) H Q E) : wpAny (model X.prog X.w) X.A (call (.ref f) us) (EP X pins σ Q) X.xe s:=by
  have r2 : X5 (vs ++ dvs) (us ++ ds):=r.append hd
  have hl : (us ++ ds).length = ps.length:=by rw [← r2.length]; exact F.len _ _ _ _ h
  refine wpAny_call (codeAny_mono (F.run X.A X.stack s H ⟨us, []⟩ (us ++ ds) (vs ++ dvs) Q E hr I.env0 (hb s us I.kIn hl) r2 h) fun r s' hq=>?_)
  cases r with
  | error e=>exact hx pins σ H s e s' I hq
  | ok fl=>
    cases fl with
    | ret u=>exact I.after hq
    | next=>exact False.elim hq
    | brk=>exact False.elim hq
    | cont=>exact False.elim hq
theorem Em (F : FnOk X.prog X.w X.K X.mg X.base CX k f fd ps sp) (hr : Room k X.A) (hg : Gl X x) (hm : X.mg x = some (.ref f)) (hk : PySem.W.keepIn X.K (.ref f) = true) (hb : Kj X.K fd ps ds) (hd : X5 dvs ds) (hx : DF CX X E)
    (ha : PA X (e :: es) t) (hdb : (x == ("__debug__" : Str)) = false:=by decide) (he : starEach (e :: es) X.env = (false, eval e X.env) :: starEach es X.env:=by rfl) (hpl : (backTo pos (starEach es X.env)).any (·.1) = false:=by rfl) :
    PE X (.Call (.Name x p) (e :: es) [] pos) (GQ sp dvs E t):=by
  intro pins s σ H Q I h
  refine wpAny_Call_Name_kw (Dm I hg hm ?_ hdb)
  refine PySem.W.callWith_K (h₀:=X.base) I.ok.mod.kin hk (thn (ha pos pins s σ H _ I h) fun us s1 ⟨vs, H1, I1, r, q⟩=>⟨I1.kIn, ?_⟩) he hpl
  exact Hv F hr hb hd hx I1 r q
end
section
variable {X : Cx} {CX : CXT} {k : Nat} {f C : Addr} {fd : FuncData} {ps ks : List Str} {sp : Sp} {E : XK} {x m : Str} {p pos apos kpos : Pos} {e o : Expr} {es : List Expr} {kws : List Keyword} {te ta : TE} {t tk : TA} {nm : Option Str}
variable {g : List Value -> List Value -> List Value} {gV : List V -> List V -> List V}
end
structure FnScope (N P : List Str) (sc : Scope) : Prop where
  kind : sc.kind = .function
  co : sc.isCoroutine = false
  gen : sc.isGenerator = false
  nd : N.Nodup
  pre : N.take P.length = P
  par : ∀ x ∈ P, sc.names.lookup x = some .local ∨ sc.names.lookup x = some .cell
  nofree : ∀ y ∈ sc.names, y.2 ≠ .free
theorem Uh {kindOf : Str -> Option NameKind} {x : Str} : ∀ {binds : List (Str × Value)} {m : Str -> Option Value}, (∀ v, (x, v) ∉ binds) -> bindL kindOf binds m x = m x
  | [], _, _=>rfl
  | (n, v) :: r, m, h=>by
    unfold bindL
    rw [Uh fun w hw=>h w (List.mem_cons_of_mem _ hw)]
    split
    . have : x ≠ n := by rintro rfl; exact h v List.mem_cons_self
      simp [this]
    . rfl
theorem Uf {kindOf : Str -> Option NameKind} {x : Str} : ∀ {binds : List (Str × Value)} {m : Str -> Option Value}, (∀ v, (x, v) ∉ binds) -> bindC kindOf binds m x = m x
  | [], _, _=>rfl
  | (n, v) :: r, m, h=>by
    unfold bindC
    rw [Uf fun w hw=>h w (List.mem_cons_of_mem _ hw)]
    split
    . rfl
    . have : x ≠ n := by rintro rfl; exact h v List.mem_cons_self
      simp [this]
theorem UQ {kindOf : Str -> Option NameKind} {x : Str} {v : Value} : ∀ {P : List Str} {vs : List Value} {i : Nat} {m : Str -> Option Value}, P.Nodup -> P[i]? = some x -> vs[i]? = some v -> kindOf x = some .local ->
    bindL kindOf (P.zip vs) m x = some v
  | [], _, _, _, _, h, _, _=>by simp at h
  | _ :: _, [], _, _, _, _, h, _=>by simp at h
  | p :: P, w :: vs, 0, m, nd, h1, h2, hk=>by
    simp at h1 h2; subst h1; subst h2
    show bindL kindOf ((p, w) :: P.zip vs) m p = _
    unfold bindL
    rw [Uh fun v hv=>(List.nodup_cons.mp nd).1 (List.of_mem_zip hv).1, if_pos hk]
    simp
  | p :: P, w :: vs, i + 1, m, nd, h1, h2, hk=>by
    show bindL kindOf ((p, w) :: P.zip vs) m x = _
    unfold bindL
    exact UQ (i:=i) (List.nodup_cons.mp nd).2 (by simpa using h1) (by simpa using h2) hk
theorem UH {kindOf : Str -> Option NameKind} {x : Str} {v : Value} : ∀ {P : List Str} {vs : List Value} {i : Nat} {m : Str -> Option Value}, P.Nodup -> P[i]? = some x -> vs[i]? = some v -> kindOf x ≠ some .local ->
    bindC kindOf (P.zip vs) m x = some v
  | [], _, _, _, _, h, _, _=>by simp at h
  | _ :: _, [], _, _, _, _, h, _=>by simp at h
  | p :: P, w :: vs, 0, m, nd, h1, h2, hk=>by
    simp at h1 h2; subst h1; subst h2
    show bindC kindOf ((p, w) :: P.zip vs) m p = _
    unfold bindC
    rw [Uf fun v hv=>(List.nodup_cons.mp nd).1 (List.of_mem_zip hv).1, if_neg hk]
    simp
  | p :: P, w :: vs, i + 1, m, nd, h1, h2, hk=>by
    show bindC kindOf ((p, w) :: P.zip vs) m x = _
    unfold bindC
    exact UH (i:=i) (List.nodup_cons.mp nd).2 (by simpa using h1) (by simpa using h2) hk
noncomputable def VY (N : List Str) (vs : List V) : St:=vs.map some ++ List.replicate (N.length - vs.length) none
noncomputable def Ew (CX : CXT) (P : Program) (w : World) (K : PySem.W.Frag) (mg : Str -> Option Value) (base : Heap) (N : List Str) (qual : Str) (scope : Scope) (f : Addr) (cd : Value) (A : Around) (outer : List Env) (s : Shared) (H : Hp) (E : XK) : Cx where
  prog:=P
  w:=w
  K:=K
  mg:=mg
  base:=base
  A:=A.deeper (envOfC qual scope s.heap.objs.size f cd)
  N:=N
  s₀:=s
  H₀:=H
  env:=envOfC qual scope s.heap.objs.size f cd
  outer:=outer
  stack:=envOfC qual scope s.heap.objs.size f cd :: outer
  ex:=[]
  calm:=true
  fn:=fun _=>true
  pn:=[]
  xe:=fun e s'=>wpAny (model P w) (A.deeper (envOfC qual scope s.heap.objs.size f cd)) (leaving (envOfC qual scope s.heap.objs.size f cd) e) (fun _ s''=>CX outer H s E e s'') (fun e' s''=>CX outer H s E e' s'') s'
theorem KG {sc : Scope} {n : Nat} {x : Str} (h : sc.names.lookup x = some .cell) : ∃ c, (cellsFrom n sc.names []).lookup x = some c:=by
  have q:=PySem.W.cellsFrom_some sc.names n [] (.inl h)
  exact Option.isSome_iff_exists.mp q
theorem F0 {CX : CXT} {P : Program} {w : World} {K : PySem.W.Frag} {mg : Str -> Option Value} {base : Heap} {N ps : List Str} {qual : Str} {scope : Scope} {f : Addr} {cd : Value} {A : Around} {outer : List Env} {s s1 : Shared} {H : Hp} {E : XK} {us : List Value} {vs : List V}
    (S : FnScope N ps scope) (hd : A.handled = none) (e0 : Env0 P w K mg base A outer s H) (hl : vs.length = ps.length) (r : X5 vs us)
    (x : InCallC s s.heap.objs.size (bindL (envOfC qual scope s.heap.objs.size f cd).kindOf (ps.zip us) fun _=>none) (cellsFrom (s.heap.objs.size + 1) scope.names []) (bindC (envOfC qual scope s.heap.objs.size f cd).kindOf (ps.zip us) fun _=>none) s1) :
    Inv (Ew CX P w K mg base N qual scope f cd A outer s H E) [] (VY N vs) H s1:=by
  have hpl : ps.length <= N.length:=by have:=congrArg List.length S.pre; rw [List.length_take] at this; omega
  obtain ⟨h1, tk, rfl, hk⟩:=x.done
  have noA : ∀ b : Addr, b ∉ (Ew CX P w K mg base N qual scope f cd A outer s H E).ex:=fun b z=>absurd (show b ∈ ([] : List Addr) from z) (by simp)
  refine ⟨⟨e0.mod, S.kind, rfl, rfl, Nat.le_refl _, fun y z c h1 h2=>?_, fun y hy=>?_, fun y c _ h=>?_, fun _=>hd, Around.frames_deeper e0.frames, .inr ⟨rfl, rfl⟩, fun b z=>absurd z (noA b), e0.bs, e0.bsz, fun b _ _=>noA b, fun b z=>absurd z (noA b), e0.funs, e0.frf⟩,
    rfl, e0.bare, Un.kept hk, ⟨_, x.toInCall.ns, fun i y v h1 h2 h3=>?_⟩, fun y c h=>⟨_, x.cell y c h⟩, e0.hok.fresh (Nat.le_refl _), fun y c h=>?_, fun p hp=>absurd (show p ∈ ([] : List (Addr × Obj)) from hp) (by simp), e0.hok.kept hk, ?_⟩
  . exact name_of_addr x.apart (PySem.mem_of_lookup h1) (PySem.mem_of_lookup h2)
  . have hy : scope.names.lookup y = some .cell ∨ scope.names.lookup y = some .free := hy
    rcases hy with hy | hy
    . exact KG hy
    . exact absurd rfl (S.nofree _ (PySem.mem_of_lookup hy))
  . exact Nat.le_of_lt (x.above y c (PySem.mem_of_lookup h))
  . have hi : i < vs.length:=by
      unfold VY at h2
      by_cases hi : i < vs.length
      . exact hi
      . rw [List.getElem?_append_right (by simpa using hi)] at h2
        rw [List.getElem?_replicate] at h2
        split at h2 <;> cases h2
    have ha : vs[i]? = some v:=by
      unfold VY at h2
      rw [List.getElem?_append_left (by simpa using hi), List.getElem?_map] at h2
      cases e : vs[i]? with
      | none=>rw [e] at h2; cases h2
      | some a=>rw [e] at h2; cases h2; rfl
    obtain ⟨u, hu, rv⟩:=r.get ha
    have hp : ps[i]? = some y:=by
      rw [← S.pre, List.getElem?_take_of_lt (by omega)]; exact h1
    have ndP : ps.Nodup:=by rw [← S.pre]; exact S.nd.sublist (List.take_sublist _ _)
    refine ⟨u, rv, ?_⟩
    rcases S.par y (List.mem_of_getElem? hp) with k | k
    . exact .inl ⟨k, UQ ndP hp hu k⟩
    . obtain ⟨c, e⟩ := KG (n := s.heap.objs.size + 1) k
      refine .inr ⟨.inl k, c, e, ?_⟩
      have q:=x.cell y c e
      rw [UH ndP hp hu (by show scope.names.lookup y ≠ _; rw [k]; decide)] at q
      exact q
  . exact e0.hok.fresh (Nat.le_of_lt (x.above y c (PySem.mem_of_lookup h)))
  . unfold VY
    show _ = N.length
    rw [List.length_append, List.length_map, List.length_replicate]
    omega
theorem IJ {CX : CXT} {P : Program} {w : World} {K : PySem.W.Frag} {mg : Str -> Option Value} {base : Heap} {k : Nat} {f : Addr} {name qual : Str} {params : Arguments} {body : List Stmt} {scope : Scope} {dV kV doc pm cdv ct oc : Value} {an od : Option Addr}
    {osl : Array (Option Value)} {N ps : List Str} {sp : Sp} (lk : K.lookup f = some ⟨oc, od, .func (PySem.W.fnOf name qual params body scope dV kV doc pm an cdv ct), osl⟩) (hcd : PySem.W.codeIn K cdv qual = true) (S : FnScope N ps scope)
    (len : ∀ vs H Q E, sp vs H Q E -> vs.length = ps.length)
    (hbody : ∀ (A : Around) (outer : List Env) (s : Shared) (H : Hp) (vs : List V) (Q : VK) (E : XK), Room k (A.deeper (envOfC qual scope s.heap.objs.size f cdv)) -> sp vs H Q E ->
      ∃ t, PSs (Ew CX P w K mg base N qual scope f cdv A outer s H E) body t /\ t { nx:=fun _ H'=>Q .non H', rt:=Q } (VY N vs) H) :
    FnOk P w K mg base CX (k + 1) f (PySem.W.fnOf name qual params body scope dV kV doc pm an cdv ct) ps sp:=by
  refine ⟨len, fun A outer s H args us vs Q E hr e0 hb r hsp=>?_⟩
  have hl:=len _ _ _ _ hsp
  have KX : K.In s.heap:=e0.mod.kin.keeps fun b o e=>(e0.bs b o e).1
  have lim : s.heap.NoLimit:=e0.mod.nolimit.keeps fun b o e=>(e0.bs b o e).1
  have hkind : ∀ y ∈ ps.zip us, scope.names.lookup y.1 = some .local ∨ (scope.names.lookup y.1 = some .cell /\ ((cellsFrom (s.heap.objs.size + 1) scope.names []).lookup y.1).isSome = true):=fun ⟨n, v⟩ hy=>by
    rcases S.par n (List.of_mem_zip hy).1 with q | q
    . exact .inl q
    . exact .inr ⟨q, PySem.W.cellsFrom_some _ _ _ (.inl q)⟩
  refine codeAny_call_function hr.depth (KX _ _ lk) rfl S.co S.gen rfl (PySem.W.codeRec_of KX hcd) (hb _ _ _ _ ?_)
  refine wpAny_newFunctionEnv_cells S.kind hkind fun env he s1 x=>?_
  subst he
  refine ⟨lim.keeps x.toInCall.keep, codeAny_func ?_⟩
  obtain ⟨t, ht, hq⟩:=hbody A outer s H vs Q E (hr.deeper _) hsp
  have I : Inv (Ew CX P w K mg base N qual scope f cdv A outer s H E) [] (VY N vs) H s1:=F0 S hr.hd e0 hl r x
  refine wpAny_mono (ht [] s1 (VY N vs) H _ I hq) (fun fl s' hs=>?_) fun e s' hs=>hs
  have fin : ∀ {σ' : St} {H' : Hp} {v : V} {u : Value}, Inv (Ew CX P w K mg base N qual scope f cdv A outer s H E) [] σ' H' s' -> X4 v u -> Q v H' -> CE outer P w H s Q u s':=
    fun {σ' H' v u} J rv q=>⟨v, H', J.os, J.bare, J.base, J.hok, rv, q⟩
  cases fl with
  | ret u=>
    obtain ⟨v, σ', H', J, rv, q⟩:=hs
    exact fin J rv q
  | next=>
    obtain ⟨σ', H', J, q⟩:=hs
    exact fin (v:=V.non) (u:=Value.none) J rfl q
  | brk=>
    obtain ⟨_, _, _, q⟩:=hs
    exact False.elim q
  | cont=>
    obtain ⟨_, _, _, q⟩:=hs
    exact False.elim q
end L2
namespace L2
open PySem PySem.Spec PyProof.Rows
section
variable {X : Cx} {x : Str} {p pos : Pos} {e : Expr} {es : List Expr} {t : TA} {id T : String} {r : List V -> Hp -> VK -> Prop}
noncomputable def tCB (r : List V -> Hp -> VK -> Prop) (t : TA) : TE:=fun σ H Q=>t σ H fun vs H1=>r vs H1 Q
theorem Xn (hc : Zk X (.builtin id) r) (hg : Gl X x) (hm : X.mg x = none) (hv : bootBuiltins x = some (.builtin id)) (ha : PA X (e :: es) t) (hn : x ≠ "__name__":=by decide) (hdb : (x == ("__debug__" : Str)) = false:=by decide)
    (he : starEach (e :: es) X.env = (false, eval e X.env) :: starEach es X.env:=by rfl) (hpl : (backTo pos (starEach es X.env)).any (·.1) = false:=by rfl) : PE X (.Call (.Name x p) (e :: es) [] pos) (tCB r t):=by
  intro pins s σ H Q I h
  refine wpAny_Call_Name_kw (Ve I hg hm hv ?_ hn hdb)
  exact PyProof.Rows.callWith_builtin1 (thn (ha pos pins s σ H _ I h) fun us s1 ⟨vs, H1, I1, r1, q1⟩=>hc pins s1 σ H1 vs us Q I1 r1 q1) he hpl
theorem Yu (hc : Zk X (.type T) r) (hg : Gl X x) (hm : X.mg x = none) (hv : bootBuiltins x = some (.type T)) (ha : PA X (e :: es) t) (hn : x ≠ "__name__":=by decide) (hdb : (x == ("__debug__" : Str)) = false:=by decide)
    (he : starEach (e :: es) X.env = (false, eval e X.env) :: starEach es X.env:=by rfl) (hpl : (backTo pos (starEach es X.env)).any (·.1) = false:=by rfl) : PE X (.Call (.Name x p) (e :: es) [] pos) (tCB r t):=by
  intro pins s σ H Q I h
  refine wpAny_Call_Name_kw (Ve I hg hm hv ?_ hn hdb)
  exact PyProof.Rows.callWith_type1 (thn (ha pos pins s σ H _ I h) fun us s1 ⟨vs, H1, I1, r1, q1⟩=>hc pins s1 σ H1 vs us Q I1 r1 q1) he hpl
end
end L2
namespace HT
open PySem PyProof.Rows
section
open PySem.SeqAt
open PySem.AutoSeq1 (wpAny_loadPart')
open PySem.MeetsSeq PySem.MeetsSeq2 PySem.MeetsSeq3
end
section
variable {prog : Program} {w : World} {A : Around} {E : Value -> Shared -> Prop} {s : Shared}
theorem cat_tup {t b : Addr} {vs ws : List Value} {Q : Value -> Shared -> Prop} (ht : IsTup s.heap t vs.toArray) (hb : IsTup s.heap b ws.toArray) (hv : vs ≠ [])
    (h1 : ws = [] -> Q (.ref t) s) (h2 : ws ≠ [] -> Q (.ref s.heap.objs.size) { s with heap:=s.heap.push { cls:=.type "tuple", data:=.seq (vs ++ ws).toArray } })
    (hsz : vs.length + ws.length <= sizeLine) : wpAny (model prog w) A (binaryOp .Add (.ref t) (.ref b)) Q E s:=by
  obtain ⟨⟨cls, dd, data, sl⟩, ho, hc, n, hd⟩:=id ht
  obtain ⟨⟨cls2, dd2, data2, sl2⟩, ho2, hc2, n2, hd2⟩:=id hb
  simp only at hc hd hc2 hd2
  subst hc hd hc2 hd2
  have e : vs.toArray ++ ws.toArray = (vs ++ ws).toArray:=by simp
  by_cases hw : ws = []
  . exact concat_meets ⟨_, ho, rfl⟩ ⟨_, ho2, rfl⟩ noFill_tuple_add seq_tuple_add PySem.F.slot_tuple_add PySem.F.entry_tuple_add (PySem.F.args_tuple_add_2 _ _)
      (tuple_addW1 t b vs.toArray ws.toArray n n2 dd dd2 sl sl2 (by simpa using hv) (by simp [hw])) ⟨ho, ho2, h1 hw⟩
  . refine concat_meets ⟨_, ho, rfl⟩ ⟨_, ho2, rfl⟩ noFill_tuple_add seq_tuple_add PySem.F.slot_tuple_add PySem.F.entry_tuple_add (PySem.F.args_tuple_add_2 _ _)
      (tuple_addW2 t b vs.toArray ws.toArray n n2 dd dd2 sl sl2 (by simpa using hv) (by simpa using hw) (by rw [List.size_toArray, List.size_toArray]; exact hsz)) ⟨ho, ho2, ?_⟩
    rw [e]
    exact h2 hw
noncomputable def sIx (n d : Nat) : Option Int -> Nat
  | none=>d
  | some v=>if v < 0 then (v + (n : Int)).toNat else min v.toNat n
theorem sIx_none (n d : Nat) : sIx n d none = d:=rfl
theorem sIx_nat (n d k : Nat) : sIx n d (some (k : Int)) = min k n:=by
  show (if (k : Int) < 0 then ((k : Int) + (n : Int)).toNat else min (k : Int).toNat n) = min k n
  rw [if_neg (by omega), Int.toNat_natCast]
theorem Hf (n d : Nat) (hd : d <= n) (o : Option Int) : sIx n d o <= n:=by
  cases o with
  | none=>exact hd
  | some v=>
    show (if v < 0 then (v + (n : Int)).toNat else min v.toNat n) <= n
    by_cases hv : v < 0
    . rw [if_pos hv]; omega
    . rw [if_neg hv]; exact Nat.min_le_right _ _
theorem F4 (v : Int) (n d : Nat) : (if v < 0 then max (v + (n : Int)) 0 else min v (n : Int)) = ((sIx n d (some v) : Nat) : Int):=by
  show (if v < 0 then max (v + (n : Int)) 0 else min v (n : Int)) = (((if v < 0 then (v + (n : Int)).toNat else min v.toNat n) : Nat) : Int)
  by_cases hv : v < 0
  . simp only [if_pos hv]; omega
  . simp only [if_neg hv]; omega
theorem GC (lo hi : Option Int) (n : Nat) : Builtin.Slice.sliceAdjust lo hi 1 (n : Int) = (((sIx n 0 lo : Nat) : Int), ((sIx n n hi : Nat) : Int)):=by
  have h1 : ¬ ((1 : Int) < 0):=by omega
  unfold Builtin.Slice.sliceAdjust
  simp only [h1, if_false]
  refine Prod.ext ?_ ?_
  . cases lo with
    | none=>rfl
    | some v=>exact F4 v n 0
  . cases hi with
    | none=>rfl
    | some v=>exact F4 v n n
theorem GS (i j : Nat) : Builtin.Slice.slicePlaces (i : Int) (j : Int) 1 = j - i:=by
  unfold Builtin.Slice.slicePlaces
  have h1 : (1 : Int) > 0:=by omega
  simp only [h1, if_true, Int.ediv_one]
  split <;> omega
theorem Qd {v : Value} {o : Option Int} {Q : Option Int -> Shared -> Prop} (p : IsPart v o) (h : Q o s) : wpAny (model prog w) A (Builtin.Slice.slicePartIndex v) Q E s:=by
  cases p with
  | none=>exact slicePart_none h
  | int i t=>exact slicePart_int h
theorem Q8 {sl : Addr} {vl vu : Value} {lo hi : Option Int} {n : Nat} {Q : Int × Int × Nat -> Shared -> Prop} (hs : s.heap.IsSliceOf sl vl vu .none) (pl : IsPart vl lo) (pu : IsPart vu hi)
    (h : Q (((sIx n 0 lo : Nat) : Int), 1, sIx n n hi - sIx n 0 lo) s) : wpAny (model prog w) A (Builtin.Slice.sliceApplied (.ref sl) (pure (n : Int))) Q E s:=by
  obtain ⟨os, hos, hcs, hds⟩:=id hs
  unfold Builtin.Slice.sliceApplied Builtin.Slice.sliceFields
  refine wpAny_bind (wpAny_bind (wpAny_field hos hds (x:=vl) rfl (wpAny_bind (wpAny_field hos hds (x:=vu) rfl (wpAny_bind (wpAny_field hos hds (x:=.none) rfl (wpAny_pure ?_)))))))
  refine wpAny_bind (slicePart_none ?_)
  show wpAny _ _ (if ((1 : Int) == 0) = true then _ else _) _ _ s
  rw [if_neg (by decide)]
  refine wpAny_bind (Qd pl (wpAny_bind (Qd pu (wpAny_bind (wpAny_pure ?_)))))
  show wpAny _ _ (match Builtin.Slice.sliceAdjust lo hi 1 (n : Int) with | (lo, hi)=>pure (lo, (1 : Int), Builtin.Slice.slicePlaces lo hi 1)) _ _ s
  rw [GC lo hi n]
  show wpAny _ _ (pure (((sIx n 0 lo : Nat) : Int), (1 : Int), Builtin.Slice.slicePlaces ((sIx n 0 lo : Nat) : Int) ((sIx n n hi : Nat) : Int) 1)) _ _ s
  rw [GS]
  exact wpAny_pure h
theorem CQ (xs : Array Value) (i k : Nat) : ((List.range k).filterMap fun (m : Nat)=>xs[((i : Int) + (m : Int) * 1).toNat]?).toArray = ((xs.toList.drop i).take k).toArray:=by
  have e : (fun (m : Nat)=>xs[((i : Int) + (m : Int) * 1).toNat]?) = fun m=>xs[i + m]?:=by
    funext m
    have : ((i : Int) + (m : Int) * 1).toNat = i + m:=by omega
    rw [this]
  rw [e]
  have:=pick_run xs i k
  rw [List.filterMap_map] at this
  have e2 : ((fun x=>xs[x]?) ∘ fun x=>i + x) = fun m=>xs[i + m]?:=rfl
  rw [e2] at this
  rw [this]
theorem getItem_tuple_cut {t sl : Addr} {items : Array Value} {vl vu : Value} {lo hi : Option Int} {Q : Value -> Shared -> Prop} (ht : IsTup s.heap t items) (hs : s.heap.IsSliceOf sl vl vu .none) (pl : IsPart vl lo) (pu : IsPart vu hi)
    (hw : ¬ (sIx items.size 0 lo = 0 /\ sIx items.size items.size hi = items.size))
    (h : Q (.ref s.heap.objs.size) { s with heap:=s.heap.push { cls:=.type "tuple", data:=.seq ((items.toList.drop (sIx items.size 0 lo)).take (sIx items.size items.size hi - sIx items.size 0 lo)).toArray } })
    (hsz : items.size <= sizeLine) : wpAny (model prog w) A (getItem (.ref t) (.ref sl)) Q E s:=by
  have htake : sizeOk (.seq ((items.toList.drop (sIx items.size 0 lo)).take (sIx items.size items.size hi - sIx items.size 0 lo)).toArray):=by
    show ((items.toList.drop (sIx items.size 0 lo)).take (sIx items.size items.size hi - sIx items.size 0 lo)).toArray.size <= sizeLine
    rw [List.size_toArray, List.length_take, List.length_drop, Array.length_toList]
    omega
  have hj : sIx items.size items.size hi <= items.size:=Hf _ _ (Nat.le_refl _) hi
  obtain ⟨os, hos, hcs, hds⟩:=id hs
  have hTs : s.TypeIs (.ref sl) "slice":=⟨os, hos, hcs⟩
  unfold getItem
  try with_reducible refine wpAny_holding ?_
  first | refine wpAny_bind (wpAny_pure ?_) | skip
  refine wpAny_bind (wpAny_sequenceKey ht.typeIs (by decide) ?_)
  refine wpAny_bind (wpAny_callSpecial?_slot (name:=Str.ofString "__getitem__") ht.typeIs PyProof.Rows.slot_tuple_getitem
    (wpAny_call_entry PyProof.Rows.slot_tuple_getitem ht.typeIs entry_tuple_getitem ?_ (args_tuple_getitem _ _)))
  show wpAny _ _ (Builtin.Tuple.tupleItemsOf (.ref t) >>= _) _ _ s
  refine wpAny_bind (tupleItemsOf_ ht ?_)
  refine wpAny_bind (wpAny_typeOf hTs ?_)
  rw [if_pos (by decide)]
  refine wpAny_bind (Q8 hs pl pu ?_)
  have hno : ¬ ((((sIx items.size 0 lo : Nat) : Int) == 0 && (1 : Int) == 1 && (sIx items.size items.size hi - sIx items.size 0 lo) == items.size) = true):=by
    intro q
    rw [Bool.and_eq_true, Bool.and_eq_true] at q
    have q1 : ((sIx items.size 0 lo : Nat) : Int) = 0:=eq_of_beq q.1.1
    have q2 : sIx items.size items.size hi - sIx items.size 0 lo = items.size:=eq_of_beq q.2
    exact hw ⟨by omega, by omega⟩
  show wpAny _ _ (if (((sIx items.size 0 lo : Nat) : Int) == 0 && (1 : Int) == 1 && (sIx items.size items.size hi - sIx items.size 0 lo) == items.size) = true then _ else _) _ _ s
  rw [if_neg hno, CQ]
  first
    | exact wpAny_bind (m:=Builtin.Tuple.tupleExact _) (wpAny_newObj_type (wpAny_pure ⟨_, rfl, wpAny_pure h⟩) htake)
    | exact wpAny_bind (m:=Builtin.Tuple.tupleExact _) (wpAny_newObj_type (wpAny_bind (wpAny_pure (wpAny_pure ⟨_, rfl, wpAny_pure h⟩))) htake)
    | exact wpAny_bind (wpAny_bind (m:=Builtin.Tuple.tupleExact _) (wpAny_newObj_type (wpAny_pure (wpAny_pure ⟨_, rfl, wpAny_pure h⟩)) htake))
    | exact wpAny_bind (wpAny_bind (m:=Builtin.Tuple.tupleExact _) (wpAny_newObj_type (wpAny_pure ⟨_, rfl, wpAny_pure h⟩) htake))
end
end HT
namespace L2
open PySem PySem.Spec PyProof.Rows
noncomputable abbrev TO:=St -> Hp -> (Option Int -> Hp -> Prop) -> Prop
noncomputable def PO (X : Cx) (e : Option Expr) (t : TO) : Prop:=
  ∀ (pins : List (Addr × Obj)) (s : Shared) (σ : St) (H : Hp) (Q : Option Int -> Hp -> Prop), Inv X pins σ H s -> t σ H Q ->
    wpAny (model X.prog X.w) X.A (evalPart e X.env) (fun u s'=>∃ o H', Inv X pins σ H' s' /\ IsPart u o /\ Q o H') X.xe s
noncomputable def FX : TO:=fun _ H Q=>Q none H
noncomputable def HN (t : TE) : TO:=fun σ H Q=>t σ H fun x H1=>∃ i, x = .int i /\ Q (some i) H1
section
variable {X : Cx} {e : Expr} {te : TE} {lo hi : Option Expr} {tl th : TO} {pos p2 : Pos}
theorem Z1 : PO X none FX:=by
  intro pins s σ H Q I h
  rw [evalPart_none]
  exact wpAny_pure ⟨none, H, I, .none, h⟩
theorem Y9 (h : PE X e te) : PO X (some e) (HN te):=by
  intro pins s σ H Q I hw
  rw [evalPart_some]
  refine thn (h pins s σ H _ I hw) fun u s1 ⟨x, H1, I1, r1, q1⟩=>?_
  obtain ⟨i, rfl, q⟩:=q1
  obtain ⟨t, rfl⟩:=r1
  exact ⟨some i, H1, I1, .int i t, q⟩
noncomputable def SlR (X : Cx) (r : V -> Option Int -> Option Int -> Hp -> VK -> Prop) : Prop:=
  ∀ (pins : List (Addr × Obj)) (s : Shared) (σ : St) (H : Hp) (x : V) (v vl vu : Value) (lo hi : Option Int) (sl : Addr) (Q : VK), Inv X pins σ H s -> X4 x v -> s.heap.IsSliceOf sl vl vu .none -> IsPart vl lo -> IsPart vu hi -> r x lo hi H Q ->
    ∃ T id, typeLookup (.type T) "__getitem__" = pure (some (.builtin id)) /\ s.TypeIs v T /\ wpAny (model X.prog X.w) X.A (getItem v (.ref sl)) (EP X pins σ Q) X.xe s
theorem SlR.or {r r' : V -> Option Int -> Option Int -> Hp -> VK -> Prop} (h : SlR X r) (h' : SlR X r') : SlR X (fun x lo hi H Q=>r x lo hi H Q ∨ r' x lo hi H Q):=by
  intro pins s σ H x v vl vu lo hi sl Q I rx hs pl pu q
  rcases q with q | q
  . exact h pins s σ H x v vl vu lo hi sl Q I rx hs pl pu q
  . exact h' pins s σ H x v vl vu lo hi sl Q I rx hs pl pu q
noncomputable def tSl (r : V -> Option Int -> Option Int -> Hp -> VK -> Prop) (te : TE) (tl th : TO) : TE:=fun σ H Q=>te σ H fun x H1=>tl σ H1 fun l H2=>th σ H2 fun u H3=>r x l u H3 Q
theorem Y2 {r : V -> Option Int -> Option Int -> Hp -> VK -> Prop} (hr : SlR X r) (he : PE X e te) (hl : PO X lo tl) (hu : PO X hi th) : PE X (.Subscript e (.Slice lo hi none p2) pos) (tSl r te tl th):=by
  intro pins s σ H Q I h
  refine Subscript_ (thn (he pins s σ H _ I h) fun v s1 ⟨x, H1, I1, r1, q1⟩=>?_)
  refine wpAny_Slice (thn (hl pins s1 σ H1 _ I1 q1) fun vl s2 ⟨l, H2, I2, pl, q2⟩=>thn (hu pins s2 σ H2 _ I2 q2) fun vu s3 ⟨u, H3, I3, pu, q3⟩=>?_)
  rw [evalPart_none]
  refine wpAny_pure ?_
  have I4 : Inv X pins σ H3 { s3 with heap:=s3.heap.push { cls:=.type "slice", data:=.fields #[vl, vu, .none] } }:=I3.kept (t':=s3.toks) fun b ob q=>Heap.get?_push_of_some _ q
  obtain ⟨T, id, hT, ht, hg⟩:=hr pins { s3 with heap:=s3.heap.push { cls:=.type "slice", data:=.fields #[vl, vu, .none] } } σ H3 x v vl vu l u s3.heap.objs.size Q I4 r1 (Heap.IsSliceOf.new ..) pl pu q3
  show wpAny (model X.prog X.w) X.A (subscriptTail e (.Slice lo hi none p2) v (.ref s3.heap.objs.size)) (EP X pins σ Q) X.xe { s3 with heap:=s3.heap.push { cls:=.type "slice", data:=.fields #[vl, vu, .none] } }
  exact tail_any (ops:=[.ref s3.heap.objs.size, v]) ht hT hg (by with_unfolding_all rfl)
noncomputable def BK (xs : List V) (lo hi : Option Int) : List V:=(xs.drop (HT.sIx xs.length 0 lo)).take (HT.sIx xs.length xs.length hi - HT.sIx xs.length 0 lo)
theorem JG (xs : List V) (lo hi : Option Int) : (BK xs lo hi).length <= xs.length:=by
  unfold BK
  rw [List.length_take, List.length_drop]
  omega
noncomputable def IX (K : PySem.W.Frag) : V -> Option Int -> Option Int -> Hp -> VK -> Prop:=fun x lo hi H Q=>∃ a xs, x = .ref a /\ SqT K H a xs /\
  ¬ (HT.sIx xs.length 0 lo = 0 /\ HT.sIx xs.length xs.length hi = xs.length) /\ ∀ p, H p = none -> Q (.ref p) (upd H p (.tup (BK xs lo hi)))
theorem Hl : SlR X (IX X.K):=by
  intro pins s σ H x v vl vu lo hi sl Q I rx hs pl pu h
  obtain ⟨a, xs, rfl, hx, hw, q⟩:=h
  cases rx
  obtain ⟨its, r, ht, hz⟩:=I.tuple hx
  have hlen : its.toArray.size = xs.length:=by rw [List.size_toArray]; exact r.length.symm
  refine ⟨"tuple", _, PyProof.Rows.slot_tuple_getitem.lookup, ht.typeIs, ?_⟩
  refine HT.getItem_tuple_cut ht hs pl pu (by rw [hlen]; exact hw) ?_ (by rw [hlen]; exact hz)
  rw [hlen]
  refine ⟨.ref s.heap.objs.size, _, I.laid (t':=s.toks) (o:=.tup (BK xs lo hi)) (fun b ob q=>Heap.get?_push_of_some _ q) (Nat.le_refl _) ?_, rfl, q _ (I.hok.fresh (Nat.le_refl _))⟩
  exact ⟨Nat.le_trans (JG xs lo hi) hz, _, (r.drop (HT.sIx xs.length 0 lo)).take (HT.sIx xs.length xs.length hi - HT.sIx xs.length 0 lo), QE.new _ _⟩
noncomputable def Lk (K : PySem.W.Frag) : R2:=fun x y H Q=>∃ a b xs ys, x = .ref a /\ y = .ref b /\ SqT K H a xs /\ SqT K H b ys /\ xs ≠ [] /\ xs.length + ys.length <= sizeLine /\
  (ys = [] -> Q (.ref a) H) /\ (ys ≠ [] -> ∀ p, H p = none -> Q (.ref p) (upd H p (.tup (xs ++ ys))))
theorem X5.nil_iff {xs : List V} {us : List Value} (r : X5 xs us) : us = [] ↔ xs = []:=by
  cases r with
  | nil=>simp
  | cons _ _=>simp
theorem EX : OpR X (binaryOp .Add) (Lk X.K):=by
  intro pins s σ H x y v u Q I rx ry h
  obtain ⟨a, b, xs, ys, rfl, rfl, ha, hb, hx, hz, q1, q2⟩:=h
  cases rx
  cases ry
  obtain ⟨its, r1, p1, _⟩:=I.tuple ha
  obtain ⟨its2, r2, p2, _⟩:=I.tuple hb
  refine HT.cat_tup p1 p2 (fun z=>hx (r1.nil_iff.mp z)) (fun z=>⟨.ref a, H, I, rfl, q1 (r2.nil_iff.mp z)⟩) (fun z=>?_) (by rw [← r1.length, ← r2.length]; exact hz)
  refine ⟨.ref s.heap.objs.size, _, I.laid (t':=s.toks) (o:=.tup (xs ++ ys)) (fun b ob q=>Heap.get?_push_of_some _ q) (Nat.le_refl _) ?_, rfl, q2 (fun w=>z (r2.nil_iff.mpr w)) _ (I.hok.fresh (Nat.le_refl _))⟩
  exact ⟨by rw [List.length_append]; exact hz, _, r1.append r2, QE.new _ _⟩
end
end L2
namespace L2
open PySem PySem.Spec PyProof.Rows
noncomputable def ixN (n : Nat) (i : Int) : Option Nat:=if 0 <= i then (if i < n then some i.toNat else none) else if -(n : Int) <= i then some (i + n).toNat else none
noncomputable def atI {α : Type} (xs : List α) (i : Int) : Option α:=(ixN xs.length i).bind fun j=>xs[j]?
theorem FN {n : Nat} {i : Int} {j : Nat} (h : ixN n i = some j) : seqIndex? i n = some j /\ j < n /\ -(n : Int) <= i /\ i < n:=by
  unfold ixN at h
  by_cases h0 : 0 <= i
  . rw [if_pos h0] at h
    by_cases h1 : i < n
    . rw [if_pos h1] at h
      have e : i.toNat = j:=Option.some.inj h
      exact ⟨by rw [seqIndex_of h0 h1, e], by omega, by omega, h1⟩
    . rw [if_neg h1] at h; cases h
  . rw [if_neg h0] at h
    by_cases h1 : -(n : Int) <= i
    . rw [if_pos h1] at h
      have e : (i + n).toNat = j:=Option.some.inj h
      exact ⟨by rw [seqIndex_neg (by omega) h1, e], by omega, h1, by omega⟩
    . rw [if_neg h1] at h; cases h
theorem Dd {α : Type} {xs : List α} {i : Int} {v : α} (h : atI xs i = some v) : ∃ j, seqIndex? i xs.length = some j /\ xs[j]? = some v /\ j < xs.length /\ -(xs.length : Int) <= i /\ i < xs.length:=by
  unfold atI at h
  cases e : ixN xs.length i with
  | none=>rw [e] at h; cases h
  | some j=>
    rw [e] at h
    obtain ⟨h1, h2, h3, h4⟩:=FN e
    exact ⟨j, h1, h, h2, h3, h4⟩
noncomputable def Ef (b : Expr) : Prop:=∀ o i, subscripted b false o i = operate [o, i] (getItem o i)
noncomputable def IxR (X : Cx) (r : R2) : Prop:=
  ∀ (value slice : Expr) (pins : List (Addr × Obj)) (s : Shared) (σ : St) (H : Hp) (x y : V) (v u : Value) (Q : VK), Inv X pins σ H s -> X4 x v -> X4 y u -> r x y H Q ->
    subscripted slice false v u = operate [v, u] (getItem v u) -> wpAny (model X.prog X.w) X.A (subscriptTail value slice v u) (EP X pins σ Q) X.xe s
noncomputable def MtR (X : Cx) (id : String) (r : V -> List V -> Hp -> VK -> Prop) : Prop:=
  ∀ (pins : List (Addr × Obj)) (s : Shared) (σ : St) (H : Hp) (x : V) (xs : List V) (v : Value) (us : List Value) (Q : VK), Inv X pins σ H s -> X4 x v -> X5 xs us -> r x xs H Q ->
    wpAny (model X.prog X.w) X.A (call (.builtin id) (v :: us)) (EP X pins σ Q) X.xe s
section
variable {X : Cx} {a b : Expr} {ta tb : TE} {pos : Pos}
theorem IxR.or {r r' : R2} (h : IxR X r) (h' : IxR X r') : IxR X (fun x y H Q=>r x y H Q ∨ r' x y H Q):=by
  intro value slice pins s σ H x y v u Q I rx ry q hs
  rcases q with q | q
  . exact h value slice pins s σ H x y v u Q I rx ry q hs
  . exact h' value slice pins s σ H x y v u Q I rx ry q hs
theorem MtR.or {id : String} {r r' : V -> List V -> Hp -> VK -> Prop} (h : MtR X id r) (h' : MtR X id r') : MtR X id (fun x xs H Q=>r x xs H Q ∨ r' x xs H Q):=by
  intro pins s σ H x xs v us Q I rx rs q
  rcases q with q | q
  . exact h pins s σ H x xs v us Q I rx rs q
  . exact h' pins s σ H x xs v us Q I rx rs q
theorem XH {r : R2} (hr : IxR X r) (ha : PE X a ta) (hb : PE X b tb) (hs : Ef b) : PE X (.Subscript a b pos) (tOp r ta tb):=by
  intro pins s σ H Q I h
  exact Subscript_ (IK ha hb I h fun v u s2 x y H2 I2 rx ry q=>hr a b pins s2 σ H2 x y v u Q I2 rx ry q (hs _ _))
noncomputable def HL (K : PySem.W.Frag) : R2:=fun x y H Q=>∃ p xs i v, x = .ref p /\ y = .int i /\ SqL K H p xs /\ atI xs i = some v /\ Q v H
noncomputable def E9 (K : PySem.W.Frag) : R2:=fun x y H Q=>∃ p xs i v, x = .ref p /\ y = .int i /\ SqT K H p xs /\ atI xs i = some v /\ Q v H
theorem EG : IxR X (HL X.K):=by
  intro value slice pins s σ H x y v u Q I rx ry h hs
  obtain ⟨p, xs, i, z, rfl, rfl, hq, he, q⟩:=h
  cases rx
  obtain ⟨t, rfl⟩:=ry
  obtain ⟨its, r, pl, hz⟩:=I.list hq
  obtain ⟨j, h1, h2, h3, h4, h5⟩:=Dd he
  obtain ⟨w, ew, rw'⟩:=r.get h2
  have hl:=r.length
  have hn:=Gj
  have fin : EP X pins σ Q w s:=⟨z, H, I, rw', q⟩
  by_cases h0 : 0 <= i
  . have hj : i.toNat = j:=by
      rw [seqIndex_of h0 h5] at h1
      exact Option.some.inj h1
    exact item_listR pl.isList h0 (by omega) (by rw [hj]; simpa using ew) fin hs
  . have hj : (i + (its.toArray.size : Int)).toNat = j:=by
      rw [seqIndex_neg (by omega) h4] at h1
      rw [List.size_toArray, ← hl]
      exact Option.some.inj h1
    exact subscriptTail_builtinR (x:=w) pl.isList.typeIs slot_list_getitem.lookup
      (wpAny_getItem_list_neg (Q:=fun r s'=>r = w /\ EP X pins σ Q r s') pl.isList (by omega) (by rw [List.size_toArray] <;> omega) (by omega) (by rw [hj]; simpa using ew) ⟨rfl, fin⟩) hs
theorem Hr : IxR X (E9 X.K):=by
  intro value slice pins s σ H x y v u Q I rx ry h hs
  obtain ⟨p, xs, i, z, rfl, rfl, hq, he, q⟩:=h
  cases rx
  obtain ⟨t, rfl⟩:=ry
  obtain ⟨its, r, pl, hz⟩:=I.tuple hq
  obtain ⟨j, h1, h2, h3, h4, h5⟩:=Dd he
  obtain ⟨w, ew, rw'⟩:=r.get h2
  have hl:=r.length
  have hn:=Gj
  have fin : EP X pins σ Q w s:=⟨z, H, I, rw', q⟩
  exact subscriptTail_builtinR (x:=w) pl.typeIs slot_tuple_getitem.lookup
    (getItem_tuple (j:=j) (Q:=fun r s'=>r = w /\ EP X pins σ Q r s') pl (by omega) (by omega) (by rw [List.size_toArray, ← hl]; exact h1) (by simpa using ew) ⟨rfl, fin⟩) hs
theorem Gx (its : List Value) (n j : Nat) (u : Value) : Obj.mapSeq (·.setIfInBounds j u) { cls:=.type "list", data:=.seq its.toArray n } = { cls:=.type "list", data:=.seq (its.set j u).toArray n }:=by
  simp [Obj.mapSeq]
theorem Inv.lst {pins : List (Addr × Obj)} {σ : St} {H : Hp} {s : Shared} {p : Addr} {xs : List V} (I : Inv X pins σ H s) (h : H p = some (.lst xs)) :
    ∃ (its : List Value) (n : Nat), X5 xs its /\ s.heap.get? p = some { cls:=.type "list", data:=.seq its.toArray n } /\ xs.length <= sizeLine:=by
  obtain ⟨z, its, n, r, e⟩:=I.hok p _ h
  exact ⟨its, n, r, e, z⟩
theorem Inv.lstUpd {pins : List (Addr × Obj)} {σ : St} {H : Hp} {s : Shared} {p : Addr} {xs ys : List V} {its its' : List Value} {n n' : Nat} {f : Obj -> Obj} (I : Inv X pins σ H s) (h : H p = some (.lst xs))
    (ho : s.heap.get? p = some { cls:=.type "list", data:=.seq its.toArray n }) (hf : f { cls:=.type "list", data:=.seq its.toArray n } = { cls:=.type "list", data:=.seq its'.toArray n' }) (r : X5 ys its') (hz : ys.length <= sizeLine) (t : Nat) :
    Inv X pins σ (upd H p (.lst ys)) { s with heap:=s.heap.update p f, toks:=t }:=by
  have e : (s.heap.update p f).get? p = some { cls:=.type "list", data:=.seq its'.toArray n' }:=by
    rw [Heap.get?_update_self f ho (by rw [hf] <;> rfl), hf]
  refine I.write (x:=p) (e:=p) (by rw [h]; trivial) (.inl rfl) (fun b u hb q=>(Heap.get?_update_other _ _ (Ne.symm hb)).trans q) ⟨_, e⟩ ?_
  exact ⟨hz, its', n', r, e⟩
noncomputable def EO : V -> V -> V -> Hp -> (Hp -> Prop) -> Prop:=fun o i v H Q=>∃ p xs k j, o = .ref p /\ i = .int k /\ H p = some (.lst xs) /\ ixN xs.length k = some j /\ Q (upd H p (.lst (xs.set j v)))
theorem Zl : Lr X EO:=by
  intro pins s σ H o i v ov iv u Q I ro ri rv h
  obtain ⟨p, xs, k, j, rfl, rfl, hp, hj, q⟩:=h
  cases ro
  obtain ⟨t, rfl⟩:=ri
  obtain ⟨its, n, r, ho, hz⟩:=I.lst hp
  obtain ⟨h1, h2, h3, h4⟩:=FN hj
  have hl:=r.length
  have hn:=Gj
  have I' : Inv X pins σ (upd H p (.lst (xs.set j v))) { s with heap:=s.heap.update p (Obj.mapSeq (·.setIfInBounds j u)) }:=
    I.lstUpd hp ho (Gx its n j u) (r.set rv j) (by rw [List.length_set]; exact hz) s.toks
  by_cases h0 : 0 <= k
  . have hk : k.toNat = j:=by
      rw [seqIndex_of h0 h4] at h1
      exact Option.some.inj h1
    exact PySem.W.ki_setAt ho h0 (by omega) (by rw [List.size_toArray, ← hl]; exact h4) (by rw [hk]; exact ⟨_, I', q⟩)
  . have hk : (k + (its.toArray.size : Int)).toNat = j:=by
      rw [seqIndex_neg (by omega) h3] at h1
      rw [List.size_toArray, ← hl]
      exact Option.some.inj h1
    exact PySem.W.ki_setBack ho (by omega) (by rw [List.size_toArray, ← hl]; exact h3) (by omega) (by rw [hk]; exact ⟨_, I', q⟩)
theorem Um (lo hi : Option Int) (n : Nat) : (sliceBounds lo hi none n).1 = ((HT.sIx n 0 lo : Nat) : Int) /\ (sliceBounds lo hi none n).2.1 = ((HT.sIx n n hi : Nat) : Int) /\ (sliceBounds lo hi none n).2.2 = 1:=by
  refine ⟨?_, ?_, rfl⟩
  . cases lo with
    | none=>simp [sliceBounds, HT.sIx]
    | some i=>
      simp only [sliceBounds, HT.sIx, Option.getD_none, show (1 : Int) > 0 by decide, if_true]
      by_cases h : i < 0
      . simp only [h, if_true] <;> omega
      . simp only [h, if_false] <;> omega
  . cases hi with
    | none=>simp [sliceBounds, HT.sIx]
    | some i=>
      simp only [sliceBounds, HT.sIx, Option.getD_none, show (1 : Int) > 0 by decide, if_true]
      by_cases h : i < 0
      . simp only [h, if_true] <;> omega
      . simp only [h, if_false] <;> omega
theorem VE (its : List Value) (lo hi : Option Int) : slicePick its.toArray lo hi none = ((its.drop (HT.sIx its.length 0 lo)).take (HT.sIx its.length its.length hi - HT.sIx its.length 0 lo)).toArray:=by
  obtain ⟨h1, h2, h3⟩:=Um lo hi its.toArray.size
  unfold slicePick
  rw [h1, h2, h3]
  simp only [sliceRange_one, pick_run, List.size_toArray] <;> rfl
noncomputable def IE (K : PySem.W.Frag) : V -> Option Int -> Option Int -> Hp -> VK -> Prop:=fun x lo hi H Q=>∃ a xs, x = .ref a /\ SqL K H a xs /\ ∀ p, H p = none -> Q (.ref p) (upd H p (.lst (BK xs lo hi)))
theorem E6 : SlR X (IE X.K):=by
  intro pins s σ H x v vl vu lo hi sl Q I rx hs pl pu h
  obtain ⟨a, xs, rfl, hx, q⟩:=h
  cases rx
  obtain ⟨its, r, ht, hz⟩:=I.list hx
  have hlen:=r.length
  refine ⟨"list", _, slot_list_getitem.lookup, ht.isList.typeIs, ?_⟩
  refine wpAny_getItem_list_slice ht.isList hs pl pu .none (by simp) ?_ (by rw [List.size_toArray] <;> omega)
  rw [VE, ← hlen]
  refine ⟨.ref s.heap.objs.size, _, I.laid (t':=s.toks) (o:=.lst (BK xs lo hi)) (fun b ob q=>Heap.get?_push_of_some _ q) (Nat.le_refl _) ?_, rfl, q _ (I.hok.fresh (Nat.le_refl _))⟩
  exact ⟨Nat.le_trans (JG xs lo hi) hz, _, 0, (r.drop (HT.sIx xs.length 0 lo)).take (HT.sIx xs.length xs.length hi - HT.sIx xs.length 0 lo), Heap.get?_push_size _ rfl⟩
noncomputable def J6 : V -> Bool
  | .non=>true
  | .bl _=>true
  | .int _=>true
  | .str _=>true
  | _=>false
noncomputable def eqV : V -> V -> Bool
  | .non, .non=>true
  | .bl a, .bl b=>a == b
  | .bl a, .int b=>(if a then 1 else 0) == b
  | .int a, .bl b=>a == (if b then 1 else 0)
  | .int a, .int b=>a == b
  | .str a, .str b=>a == b
  | _, _=>false
theorem HP {A : Around} {s : Shared} {y x : V} {u v : Value} (ry : X4 y u) (rx : X4 x v) (fy : J6 y = true) (fx : J6 x = true) : SeqAt.EqAt A s u v (eqV y x):=by
  cases y with
  | non=>
    cases ry
    cases x with
    | non=>cases rx; exact SeqAt.EqAt.same _
    | bl b=>cases rx; exact SeqAt.EqAt.none_bool b
    | int b=>obtain ⟨t, rfl⟩:=rx; exact SeqAt.EqAt.none_int b t
    | str b=>obtain ⟨t, rfl⟩:=rx; exact SeqAt.EqAt.none_str b t
    | _=>exact absurd (show false = true from fx) Bool.false_ne_true
  | bl a=>
    cases ry
    cases x with
    | non=>cases rx; exact SeqAt.EqAt.bool_none a
    | bl b=>cases rx; exact SeqAt.EqAt.bool_bool a b
    | int b=>obtain ⟨t, rfl⟩:=rx; exact SeqAt.EqAt.bool_int a b t
    | str b=>obtain ⟨t, rfl⟩:=rx; exact SeqAt.EqAt.bool_str a b t
    | _=>exact absurd (show false = true from fx) Bool.false_ne_true
  | int a=>
    obtain ⟨t', rfl⟩:=ry
    cases x with
    | non=>cases rx; exact SeqAt.EqAt.int_none a t'
    | bl b=>cases rx; exact SeqAt.EqAt.int_bool a t' b
    | int b=>obtain ⟨t, rfl⟩:=rx; exact SeqAt.EqAt.int_int a t' b t
    | str b=>obtain ⟨t, rfl⟩:=rx; exact SeqAt.EqAt.int_str a t' b t
    | _=>exact absurd (show false = true from fx) Bool.false_ne_true
  | str a=>
    obtain ⟨t', rfl⟩:=ry
    cases x with
    | non=>cases rx; exact SeqAt.EqAt.str_none a t'
    | bl b=>cases rx; exact SeqAt.EqAt.str_bool a t' b
    | int b=>obtain ⟨t, rfl⟩:=rx; exact SeqAt.EqAt.str_int a t' b t
    | str b=>obtain ⟨t, rfl⟩:=rx; exact SeqAt.EqAt.str_str a t' b t
    | _=>exact absurd (show false = true from fx) Bool.false_ne_true
  | _=>exact absurd (show false = true from fy) Bool.false_ne_true
noncomputable def eqU (x : V) (u : Value) : Bool:=match u with
  | .none=>eqV .non x
  | .bool b=>eqV (.bl b) x
  | .int i _=>eqV (.int i) x
  | .str z _=>eqV (.str z) x
  | _=>false
theorem BH {x y : V} {u : Value} (r : X4 y u) (f : J6 y = true) : eqU x u = eqV y x:=by
  cases y with
  | non=>cases r; rfl
  | bl b=>cases r; rfl
  | int i=>obtain ⟨t, rfl⟩:=r; rfl
  | str z=>obtain ⟨t, rfl⟩:=r; rfl
  | _=>exact absurd (show false = true from f) Bool.false_ne_true
theorem Kt {x : V} : ∀ {xs : List V} {us : List Value}, X5 xs us -> xs.all J6 = true -> us.any (eqU x) = xs.any fun y=>eqV y x
  | _, _, .nil, _=>rfl
  | y :: xs, u :: us, .cons r t, f=>by
    rw [List.all_cons, Bool.and_eq_true] at f
    rw [List.any_cons, List.any_cons, BH r f.1, Kt t f.2]
theorem Vw {A : Around} {s : Shared} {x : V} {v : Value} (rx : X4 x v) (fx : J6 x = true) : ∀ {xs : List V} {us : List Value}, X5 xs us -> xs.all J6 = true -> ∀ u ∈ us, SeqAt.EqAt A s u v (eqU x u)
  | _, _, .nil, _=>fun u hu=>by cases hu
  | y :: xs, u :: us, .cons r t, f=>fun u' hu=>by
    rw [List.all_cons, Bool.and_eq_true] at f
    rcases List.mem_cons.mp hu with rfl | hu
    . rw [BH r f.1]; exact HP r rx f.1 fx
    . exact Vw rx fx t f.2 u' hu
noncomputable def inV (x : V) (xs : List V) : Bool:=xs.any fun y=>eqV y x
noncomputable def rIn (K : PySem.W.Frag) (neg : Bool) : R2:=fun x y H Q=>∃ p xs, y = .ref p /\ (SqL K H p xs ∨ SqT K H p xs) /\ J6 x = true /\ xs.all J6 = true /\ Q (.bl (if neg then !inV x xs else inV x xs)) H
theorem QZ : OpR X (compareOp .NotIn) (rIn X.K true):=by
  intro pins s σ H x y v u Q I rx ry h
  obtain ⟨p, xs, rfl, hq, fx, fs, q⟩:=h
  cases ry
  rcases hq with hq | hq
  . obtain ⟨its, r, pl, hz⟩ := I.list hq
    refine SeqAt.notIn_listAt (eqU x) pl.isList (fun w hw=>Vw rx fx r fs w (by simpa using hw)) ⟨.bl _, H, I, rfl, ?_⟩
    rw [show its.toArray.any (eqU x) = its.any (eqU x) by simp, Kt r fs]
    exact q
  . obtain ⟨its, r, pl, hz⟩ := I.tuple hq
    refine SeqAt.notIn_tupleAt (eqU x) pl (fun w hw=>Vw rx fx r fs w (by simpa using hw)) ⟨.bl _, H, I, rfl, ?_⟩
    rw [show its.toArray.any (eqU x) = its.any (eqU x) by simp, Kt r fs]
    exact q
theorem Uq : Zk X (.builtin "len") (fun xs H Q=>∃ p ys, xs = [.ref p] /\ (SqL X.K H p ys ∨ SqT X.K H p ys) /\ Q (.int ys.length) H):=by
  intro pins s σ H xs us Q I r h
  obtain ⟨p, ys, rfl, hq, q⟩:=h
  obtain ⟨u, rfl, rx⟩:=JO r
  cases rx
  have hn:=Gj
  rcases hq with hq | hq
  . obtain ⟨its, r', pl, hz⟩ := I.list hq
    have hlen:=r'.length
    exact Calls.call_len_list pl.isList (by simp only [List.size_toArray] <;> omega) ⟨.int ys.length, H, I.tok _, ⟨s.toks + 1, by rw [List.size_toArray, hlen]⟩, q⟩
  . obtain ⟨its, r', pl, hz⟩ := I.tuple hq
    have hlen:=r'.length
    exact len_tuple pl (by simp only [List.size_toArray] <;> omega) ⟨.int ys.length, H, I.tok _, ⟨s.toks + 1, by rw [List.size_toArray, hlen]⟩, q⟩
theorem Zk.or {f : Value} {r r' : List V -> Hp -> VK -> Prop} (h : Zk X f r) (h' : Zk X f r') : Zk X f (fun xs H Q=>r xs H Q ∨ r' xs H Q):=by
  intro pins s σ H xs us Q I rs q
  rcases q with q | q
  . exact h pins s σ H xs us Q I rs q
  . exact h' pins s σ H xs us Q I rs q
theorem UB : Zk X (.type "list") (fun xs H Q=>∃ p ys, xs = [.ref p] /\ (SqL X.K H p ys ∨ SqT X.K H p ys) /\ ∀ l, H l = none -> Q (.ref l) (upd H l (.lst ys))):=by
  intro pins s σ H xs us Q I r h
  obtain ⟨p, ys, rfl, hq, q⟩:=h
  obtain ⟨u, rfl, rx⟩:=JO r
  cases rx
  have fin : ∀ (its : List Value), X5 ys its -> ys.length <= sizeLine -> ∀ (h' : Heap) (c' : Nat), (∀ b o', s.heap.get? b = some o' -> h'.get? b = some o') ->
      h'.get? s.heap.objs.size = some { cls:=.type "list", dict:=none, data:=.seq its.toArray c', slots:=#[] } -> EP X pins σ Q (.ref s.heap.objs.size) { s with heap:=h' }:=fun its r' hz h' c' kp e=>
    ⟨.ref s.heap.objs.size, _, I.laid (t':=s.toks) kp (Nat.le_refl _) (show Yz X.prog X.w _ h' _ (.lst ys) from ⟨hz, its, c', r', e⟩), rfl, q _ (I.hok.fresh (Nat.le_refl _))⟩
  rcases hq with hq | hq
  . obtain ⟨its, r', pl, hz⟩ := I.list hq
    have hlen:=r'.length
    obtain ⟨o, ho, hc, n, hd⟩:=pl.isList
    exact call_list_seq p (.inl rfl) ho hc hd (fun h' c' kp e=>fin its r' hz h' c' kp e) (by simp only [List.size_toArray] <;> omega)
  . obtain ⟨its, r', pl, hz⟩ := I.tuple hq
    have hlen:=r'.length
    obtain ⟨o, ho, hc, n, hd⟩:=pl
    exact call_list_seq p (.inr rfl) ho hc hd (fun h' c' kp e=>fin its r' hz h' c' kp e) (by simp only [List.size_toArray] <;> omega)
theorem VH : Zk X (.type "tuple") (fun xs H Q=>∃ p ys, xs = [.ref p] /\ ((SqL X.K H p ys /\ ∀ l, H l = none -> Q (.ref l) (upd H l (.tup ys))) ∨ (SqT X.K H p ys /\ Q (.ref p) H))):=by
  intro pins s σ H xs us Q I r h
  obtain ⟨p, ys, rfl, h⟩:=h
  obtain ⟨u, rfl, rx⟩:=JO r
  cases rx
  rcases h with ⟨hq, q⟩ | ⟨hq, q⟩
  . obtain ⟨its, r', pl, hz⟩ := I.list hq
    have hlen:=r'.length
    refine call_tuple_list pl.isList (fun h' kp=>?_) (by simp only [List.size_toArray] <;> omega)
    have I1 : Inv X pins σ H { s with heap:=h' }:=I.kept (t':=s.toks) kp
    have I2 : Inv X pins σ (upd H h'.objs.size (.tup ys)) { s with heap:=h'.push { cls:=.type "tuple", data:=.seq its.toArray } }:=
      I1.laid (t':=s.toks) (fun b o e=>Heap.get?_push_of_some _ e) (Nat.le_refl _) (show Yz X.prog X.w _ _ _ (.tup ys) from ⟨hz, its, r', QE.new _ _⟩)
    exact ⟨.ref h'.objs.size, _, I2, rfl, q _ (I1.hok.fresh (Nat.le_refl _))⟩
  . obtain ⟨its, r', pl, hz⟩ := I.tuple hq
    exact call_tuple_same pl ⟨.ref p, H, I, rfl, q⟩
noncomputable def tyV (K : PySem.W.Frag) (T : String) (x : V) (H : Hp) : Prop:=match x with
  | .str _=>T = "str"
  | .int _=>T = "int"
  | .ref p=>(T = "list" /\ ∃ xs, SqL K H p xs) ∨ (T = "tuple" /\ ∃ o, K.lookup p = some o /\ o.cls = .type "tuple" /\ o.dict = none) ∨
      (T = "dict" /\ ((∃ kvs, H p = some (.dK kvs)) ∨ ∃ kvs, H p = some (.dT kvs))) ∨ (T = "set" /\ ∃ S n, H p = some (.set S n))
  | _=>False
theorem HF {pins : List (Addr × Obj)} {σ : St} {H : Hp} {s : Shared} {T : String} {x : V} {v : Value} (I : Inv X pins σ H s) (r : X4 x v) (ty : tyV X.K T x H) :
    s.TypeIs v T /\ ∀ a, v = .ref a -> ∃ ob, s.heap.get? a = some ob /\ ob.dict = none:=by
  cases x with
  | str z=>
    obtain ⟨t, rfl⟩:=r
    cases (show T = "str" from ty)
    exact ⟨typeIs_str s z t, fun _ e=>nomatch e⟩
  | int i=>
    obtain ⟨t, rfl⟩:=r
    cases (show T = "int" from ty)
    exact ⟨typeIs_int s i t, fun _ e=>nomatch e⟩
  | ref p=>
    cases r
    rcases ty with ⟨rfl, xs, hq⟩ | ⟨rfl, o, hk, hc, hd⟩ | ⟨rfl, hk⟩ | ⟨rfl, S, n, hk⟩
    . obtain ⟨its, _, pl, _⟩ := I.list hq
      refine ⟨pl.isList.typeIs, fun a e=>?_⟩
      cases e
      obtain ⟨o, n, e, c, hd, _⟩:=pl
      exact ⟨o, e, hd⟩
    . refine ⟨⟨o, I.kIn p o hk, hc⟩, fun a e => ?_⟩
      cases e
      exact ⟨o, I.kIn _ o hk, hd⟩
    . have z : ∃ o, s.heap.get? p = some o /\ o.ExactDict:=by
        rcases hk with ⟨kvs, hk⟩ | ⟨kvs, hk⟩
        . obtain ⟨_, _, _, _, o, _, _, e, ex, _⟩ := I.hok p _ hk
          exact ⟨o, e, ex⟩
        . obtain ⟨_, _, _, _, o, _, _, e, ex, _⟩ := I.hok p _ hk
          exact ⟨o, e, ex⟩
      obtain ⟨o, e, ex⟩:=z
      refine ⟨⟨o, e, ex.1⟩, fun a e2=>?_⟩
      cases e2
      exact ⟨o, e, ex.2.1⟩
    . obtain ⟨o, _, _, _, e, ex, _⟩ := I.hok p _ hk
      refine ⟨⟨o, e, ex.1⟩, fun a e2=>?_⟩
      cases e2
      exact ⟨o, e, ex.2.1⟩
  | _=>exact False.elim ty
noncomputable def tBM (K : PySem.W.Frag) (T : String) (r : V -> List V -> Hp -> VK -> Prop) (to : TE) (t : TA) : TE:=fun σ H Q=>to σ H fun x H1=>tyV K T x H1 /\ t σ H1 fun xs H2=>r x xs H2 Q
variable {o e : Expr} {es : List Expr} {to : TE} {t : TA} {name : Str} {apos cpos : Pos} {T id : String} {r : V -> List V -> Hp -> VK -> Prop}
theorem QJ (pa : PlainAttrs T) (slot : Slot T name id) (hty : typeOf (.builtin id) = pure (.type "method_descriptor")) (hm : MtR X id r) (ho : PE X o to) (ha : PA X (e :: es) t)
    (hbase : attributeBase o name X.env (eval o X.env) = eval o X.env:=by rfl)
    (hfew : ((backTo cpos (starEach (e :: es) X.env)).all (fun x=>!x.1) && (backToKw cpos (keywordEach [] X.env)).all (fun x=>x.1.isSome)
      && decide ((e :: es).length + ([] : List Keyword).length + (if ([] : List Keyword).isEmpty then 0 else 1) < 30)) = true:=by rfl)
    (hline : (apos.endLine == cpos.line) = true:=by rfl) (hs : starEach (e :: es) X.env = (false, eval e X.env) :: starEach es X.env:=by rfl) (hplain : (backTo cpos (starEach es X.env)).any (·.1) = false:=by rfl) :
    PE X (.Call (.Attribute o name apos) (e :: es) [] cpos) (tBM X.K T r to t):=by
  intro pins s σ H Q I h
  refine wpAny_Call_method_late hbase hfew hline rfl (thn (ho pins s σ H _ I h) fun v s1 ⟨x, H1, I1, r1, ty, q1⟩=>?_)
  obtain ⟨h1, h2⟩:=HF I1 r1 ty
  refine ⟨T, id, pa, slot, hty, h1, h2, ?_⟩
  have hA:=ha cpos pins s1 σ H1 _ I1 q1
  rw [hs] at hA ⊢
  refine Calls.callWith_builtin (by show (false || (backTo cpos (starEach es X.env)).any (·.1)) = false; rw [hplain] <;> rfl) (Calls.evalArgs_plain ?_)
  exact thn hA fun us s2 ⟨vs, H2, I2, r2, q2⟩=>hm pins s2 σ H2 x vs v us Q I2 r1 r2 q2
/- xs.append(e), list.index on a module's tuple .. are MtR facts of 06m -/
end
end L2
namespace L2
open PySem PySem.Spec PyProof.Rows
noncomputable def MtM (X : Cx) (id : String) (r : V -> List V -> Hp -> VK -> Prop) : Prop:=
  ∀ (pins : List (Addr × Obj)) (s : Shared) (σ : St) (H : Hp) (x : V) (xs : List V) (v : Value) (us : List Value) (Q : VK), Inv X pins σ H s -> X4 x v -> X5 xs us -> r x xs H Q ->
    wpAny (model X.prog X.w) X.A (call (.builtin id) (v :: us)) (EP X pins σ Q) X.xe s
theorem X5.one : ∀ {x : V} {us : List Value}, X5 [x] us -> ∃ u, us = [u] /\ X4 x u:=fun {x us} h=>by
  cases h with
  | cons r t=>
    cases t
    exact ⟨_, rfl, r⟩
theorem X5.two : ∀ {x y : V} {us : List Value}, X5 [x, y] us -> ∃ u v, us = [u, v] /\ X4 x u /\ X4 y v:=fun {x y us} h=>by
  cases h with
  | cons r t=>
    cases t with
    | cons q t=>
      cases t
      exact ⟨_, _, rfl, r, q⟩
theorem X5.zero : ∀ {us : List Value}, X5 [] us -> us = []
  | _, .nil=>rfl
theorem X5.eraseIdx : ∀ {xs : List V} {us : List Value} (i : Nat), X5 xs us -> X5 (xs.eraseIdx i) (us.eraseIdx i)
  | _, _, _, .nil=>.nil
  | _, _, 0, .cons _ t=>t
  | _, _, i + 1, .cons r t=>.cons r (X5.eraseIdx i t)
theorem X5.reverse {xs : List V} {us : List Value} (h : X5 xs us) : X5 xs.reverse us.reverse:=by
  induction h with
  | nil=>exact .nil
  | cons r t ih=>rw [List.reverse_cons, List.reverse_cons]; exact X5.append ih (.cons r .nil)
theorem X5.rep {xs : List V} {us : List Value} (h : X5 xs us) : ∀ k : Nat, X5 (List.replicate k xs).flatten (List.replicate k us).flatten
  | 0=>.nil
  | k + 1=>by
    rw [List.replicate_succ, List.replicate_succ, List.flatten_cons, List.flatten_cons]
    exact X5.append h (X5.rep h k)
theorem Ub {α : Type} : ∀ (l : List α) (i : Nat), (l.eraseIdx i).length <= l.length
  | [], _=>Nat.le_refl _
  | _ :: _, 0=>Nat.le_succ _
  | _ :: r, i + 1=>Nat.succ_le_succ (Ub r i)
theorem UC (its : List Value) : ∀ (k : Nat) (acc : List Value),
    List.foldl (fun x1 x2=>x1 ++ x2) acc.toArray (List.replicate k its.toArray) = (acc ++ (List.replicate k its).flatten).toArray
  | 0, acc=>by simp
  | k + 1, acc=>by
    have e : acc.toArray ++ its.toArray = (acc ++ its).toArray:=by simp
    have e2 : (acc ++ its) ++ (List.replicate k its).flatten = acc ++ (List.replicate (k + 1) its).flatten:=by
      rw [List.replicate_succ, List.flatten_cons, List.append_assoc]
    rw [← e2, ← UC its k (acc ++ its), ← e, List.replicate_succ, List.foldl_cons]
section
variable {X : Cx} {pins : List (Addr × Obj)} {σ : St} {H : Hp} {s : Shared} {l b : Addr} {xs ys zs : List V}
theorem Inv.lset {its its' : List Value} {n : Nat} {f : Array Value -> Array Value} {t' : Nat} (I : Inv X pins σ H s) (hH : H l = some (.lst xs))
    (e : s.heap.get? l = some { cls:=.type "list", data:=.seq its.toArray n }) (hf : f its.toArray = its'.toArray) (hv : X5 ys its') (hz : ys.length <= sizeLine) :
    Inv X pins σ (upd H l (.lst ys)) { s with heap:=s.heap.update l (Obj.mapSeq f), toks:=t' }:=by
  have q:=PySem.IsL.update e f
  rw [hf] at q
  refine I.write (x:=l) (e:=l) (by rw [hH]; exact trivial) (.inl rfl) (fun b' u hb hu=>(Heap.get?_update_other s.heap (Obj.mapSeq f) (Ne.symm hb)).trans hu) ⟨_, q⟩ ?_
  exact ⟨hz, its', _, hv, q⟩
theorem Inv.lnew {its : List Value} {t' : Nat} (I : Inv X pins σ H s) (hv : X5 ys its) (hz : ys.length <= sizeLine) :
    Inv X pins σ (upd H s.heap.objs.size (.lst ys)) { s with heap:=s.heap.push { cls:=.type "list", data:=.seq its.toArray }, toks:=t' }:=
  I.laid (fun _ _ q=>Heap.get?_push_of_some _ q) (Nat.le_refl _) ⟨hz, its, 0, hv, Heap.get?_push_size _ rfl⟩
theorem Inv.fresh (I : Inv X pins σ H s) : H s.heap.objs.size = none:=I.hok.fresh (Nat.le_refl _)
theorem Inv.lstM (I : Inv X pins σ H s) (hH : H l = some (.lst xs)) : xs.length <= sizeLine /\ ∃ (its : List Value) (n : Nat), X5 xs its /\ xs.length = its.length /\ s.heap.get? l = some { cls:=.type "list", data:=.seq its.toArray n }:=by
  obtain ⟨z, its, n, r, e⟩:=I.hok l _ hH
  exact ⟨z, its, n, r, r.length, e⟩
theorem CC {n : Nat} (h : n <= sizeLine) : Builtin.List.listTooLong n = false:=by
  unfold Builtin.List.listTooLong
  exact decide_eq_false (by omega)
end
section
variable {X : Cx}
noncomputable def Ko : V -> List V -> Hp -> VK -> Prop:=fun x vs H Q=>∃ l xs y, x = .ref l /\ vs = [y] /\ H l = some (.lst xs) /\ xs.length < sizeLine /\ Q .non (upd H l (.lst (xs ++ [y])))
theorem Ye : MtM X "list.append" Ko:=by
  intro pins s σ H x vs v us Q I rx rv h
  obtain ⟨l, xs, y, rfl, rfl, hH, hz, q⟩:=h
  cases rx
  obtain ⟨u, rfl, ru⟩:=rv.one
  obtain ⟨z, its, n, r, hl, e⟩:=I.lstM hH
  refine call_meets F.slot_list_append ⟨_, e, rfl⟩ F.entry_list_append (F.args_list_append_2 _ _) (PySem.list_append l its.toArray n u (by rw [List.size_toArray]; omega)) ⟨e, ?_⟩
  refine ⟨.non, _, I.lset (its':=its ++ [u]) hH e (by simp) (r.append (.cons ru .nil)) ?_, rfl, q⟩
  rw [List.length_append, List.length_singleton]
  omega
noncomputable def Fe : V -> List V -> Hp -> VK -> Prop:=fun x vs H Q=>∃ l xs i k y, x = .ref l /\ vs = [.int i] /\ H l = some (.lst xs) /\ -(2 ^ 63) <= i /\ i < 2 ^ 63 /\ seqIndex? i xs.length = some k /\ xs[k]? = some y /\ Q y (upd H l (.lst (xs.eraseIdx k)))
theorem Cn : MtM X "list.pop" Fe:=by
  intro pins s σ H x vs v us Q I rx rv h
  obtain ⟨l, xs, i, k, y, rfl, rfl, hH, h1, h2, hk, hy, q⟩:=h
  cases rx
  obtain ⟨u, rfl, ru⟩:=rv.one
  obtain ⟨t, rfl⟩:=ru
  obtain ⟨z, its, n, r, hl, e⟩:=I.lstM hH
  obtain ⟨w, hw, rw'⟩:=r.get hy
  refine call_meets F.slot_list_pop ⟨_, e, rfl⟩ F.entry_list_pop (F.args_list_pop_2 _ _)
    (MeetsSeq.list_pop_at l its.toArray n i t k w (fitsIndex_both h1 h2) (by rw [List.size_toArray, ← hl]; exact hk) (by rw [← Array.getElem?_toList]; exact hw) (by rw [List.size_toArray]; omega)) ⟨e, ?_⟩
  refine ⟨y, _, I.lset (its':=its.eraseIdx k) hH e ?_ (r.eraseIdx k) ?_, rw', q⟩
  . show its.toArray.eraseIdxIfInBounds k = (its.eraseIdx k).toArray
    rw [List.eraseIdxIfInBounds_toArray]
  . have := Ub xs k
    omega
noncomputable def Lv : R2:=fun x y H Q=>∃ l b xs zs, x = .ref l /\ y = .ref b /\ H l = some (.lst xs) /\ H b = some (.lst zs) /\ xs.length + zs.length <= sizeLine /\ ∀ p, H p = none -> Q (.ref p) (upd H p (.lst (xs ++ zs)))
theorem Q4 : OpR X (binaryOp .Add) Lv:=by
  intro pins s σ H x y v u Q I rx ry h
  obtain ⟨l, b, xs, zs, rfl, rfl, hH, hB, hz, q⟩:=h
  cases rx
  cases ry
  obtain ⟨z, its, n, r, hl, e⟩:=I.lstM hH
  obtain ⟨z2, its2, n2, r2, hl2, e2⟩:=I.lstM hB
  refine PySem.P.add_list e e2 ?_ (by rw [List.size_toArray, List.size_toArray]; omega)
  have ea : its.toArray ++ its2.toArray = (its ++ its2).toArray:=by simp
  rw [ea]
  exact ⟨.ref _, _, I.lnew (t':=s.toks) (r.append r2) (by rw [List.length_append]; omega), rfl, q _ I.fresh⟩
noncomputable def Ly : R2:=fun x y H Q=>∃ l k xs, x = .ref l /\ y = .int k /\ H l = some (.lst xs) /\ -(2 ^ 63) <= k /\ k < 2 ^ 63 /\ xs.length * k.toNat <= sizeLine /\
  ∀ p, H p = none -> Q (.ref p) (upd H p (.lst (List.replicate k.toNat xs).flatten))
theorem B2 {α : Type} (xs : List α) (k : Nat) : (List.replicate k xs).flatten.length = k * xs.length:=by
  induction k with
  | zero=>simp
  | succ k ih=>rw [List.replicate_succ, List.flatten_cons, List.length_append, ih, Nat.succ_mul, Nat.add_comm]
theorem Gb : OpR X (binaryOp .Mult) Ly:=by
  intro pins s σ H x y v u Q I rx ry h
  obtain ⟨l, k, xs, rfl, rfl, hH, h1, h2, hz, q⟩:=h
  cases rx
  obtain ⟨t, rfl⟩:=ry
  obtain ⟨z, its, n, r, hl, e⟩:=I.lstM hH
  have hlen : its.toArray.size * k.toNat <= sizeLine:=by rw [List.size_toArray, ← hl]; exact hz
  have hcap : ¬ its.toArray.size * k.toNat > (2 ^ 63 - 1) / 8:=by
    have : (sizeLine : Nat) <= (2 ^ 63 - 1) / 8:=by decide
    omega
  have hfit : ¬ (!Builtin.List.listFitsIndex k) = true:=by
    rw [fitsIndex_both h1 h2]
    exact Bool.false_ne_true
  have hlong : ¬ Builtin.List.listTooLong (its.toArray.size * k.toNat) = true:=by
    rw [CC hlen]
    exact Bool.false_ne_true
  have hnew : List.foldl (fun x1 x2=>x1 ++ x2) #[] (List.replicate (if its.toArray.isEmpty = true then 0 else k.toNat) its.toArray) = (List.replicate k.toNat its).flatten.toArray:=by
    have f0 : ∀ m : Nat, List.foldl (fun x1 x2=>x1 ++ x2) #[] (List.replicate m its.toArray) = (List.replicate m its).flatten.toArray:=fun m=>by
      have:=UC its m []
      rw [List.nil_append] at this
      exact this
    rw [f0]
    cases its with
    | nil=>simp
    | cons a r'=>rw [if_neg (by simp)]
  refine wpAny_binaryOp_repeat_ref (T:="list") (U:="int") (by decide) ⟨_, e, rfl⟩ (fun s'=>typeIs_int s' k t) noFill_list_mul F.fills_int_mul F.slot_int_rmul repeat_list F.slot_int_index.lookup
    (call_meets F.slot_int_rmul (typeIs_int s k t) F.entry_int_rmul (F.args_int_rmul_2 _ _) (int___rmul___int_list k t l its.toArray n)
      ⟨e, rfl, ⟨_, e, rfl⟩, call_meets F.slot_list_mul ⟨_, e, rfl⟩ F.entry_list_mul (F.args_list_mul_2 _ _) (AutoListH.list___mul___list_int_3 l its.toArray n k t hfit hcap hlong) ⟨e, ?_⟩⟩)
  rw [hnew]
  exact ⟨.ref _, _, I.lnew (t':=s.toks) (r.rep k.toNat) (by rw [B2, Nat.mul_comm]; exact hz), rfl, q _ I.fresh⟩
end
section
variable {prog : Program} {w : World} {A : Around} {E : Value -> Shared -> Prop} {s : Shared}
end
section
variable {X : Cx}
end
end L2
namespace Att
open PySem PySem.W PySem.Calls PyProof.Rows
theorem JB {P : Params} {h : Heap} : ∀ (ns : List Int) (vs : List Value), WellAll P h vs (ns.map WData.int) -> IntsAre vs ns:=by
  intro ns
  induction ns with
  | nil=>
    intro vs w
    rw [List.map_nil] at w
    cases w
    exact .nil
  | cons n ns ih=>
    intro vs w
    rw [List.map_cons] at w
    cases w with
    | cons a b=>
      cases a
      exact .cons _ _ (ih _ b)
theorem FR {l : OpenLaw} {n : Nat} (hn : l.most = some n) {P : Params} {h : Heap} {args : List WData} {vals : List Value}
    (hpre : l.row.toRowW.claim.pre args = true) (hwl : WellAll P h vals args) :
    ∃ a vs ns, vals = [Value.ref a] /\ args = [WData.list (ns.map WData.int)] /\ h.get? a = some { cls:=.type "list", data:=.seq vs.toArray } /\ IntsAre vs ns /\ ns.length <= n:=by
  have hsh : WShape.hasAll [] args [.list .int] = true:=(pre_splitW hpre).1
  have hc : l.pre.holds [] { args:=args } = true:=(pre_splitW hpre).2
  obtain ⟨d, r, rfl, h1, h2⟩:=hasAllW_cons hsh
  obtain rfl:=hasAllW_nil h2
  obtain ⟨xs, rfl, h3⟩:=hasW_list h1
  obtain ⟨ns, rfl⟩:=items_int h3
  have hlen : ns.length <= n:=by
    unfold OpenLaw.pre at hc
    have h4 : (WTm.not (.lt (.lit (.int (n : Int))) (.len (.arg 0)))).holds [] { args:=[.list (ns.map .int)] } = true:=by
      have h4:=(holds_andW hc).1
      rw [hn] at h4
      exact h4
    have h5:=condW_of h4 (w_not (w_lt w_lit (w_len_list (w_arg rfl))))
    rw [List.length_map] at h5
    refine Nat.le_of_not_lt fun q=>?_
    have q' : (n : Int) < ((ns.length : Nat) : Int):=by omega
    first
      | (rw [decide_eq_true q'] at h5; exact absurd h5 (by decide))
      | (simp at h5; omega)
  cases hwl with
  | cons w1 w2=>
    cases w2
    cases w1 with
    | list ho hall=>exact ⟨_, _, ns, rfl, rfl, ho, JB ns _ hall, hlen⟩
theorem F5 (l : OpenLaw) (args : List WData) : l.row.toRowW.claim.post args (.bool true) args = true:=
  postW_of (r:=l.row.toRowW) (X:=(true == true))
    (show WShape.has [] (.bool true) .bool = true by first | rfl | decide | simp [WShape.has, WShape.arms, WShape.armsAll])
    (show (WTm.eq .res (.lit (.bool true))).value [] { args:=args, res:=some (.bool true), after:=args } = some (.bool (true == true)) from w_eq_bool (w_res rfl) w_lit) rfl
theorem attach_call {l : OpenLaw} {n : Nat} {q : Program} {loose : List Str} {XP : (Str -> Option Value) -> Heap -> Prop} {YP : World -> Heap -> Prop} {d : DefRec}
    (hn : l.most = some n) (hdf : d.params.defaults = [])
    (call : ∀ (w : World) (s₀ s₁ : Shared) (mg mb : Str -> Option Value) (fa : Addr) (o : Obj) (pm cd doc : Value) (a : Addr) (vs : List Value) (ns : List Int),
      Ground q loose [] XP w s₀ mg mb s₁.heap -> YP w s₁.heap ->
      s₁.heap.get? fa = some o -> o.data = .func (docDef d.name d.params d.body d.scope pm cd doc) -> s₁.heap.CodeRec cd d.name -> mg d.name = some (.ref fa) ->
      s₁.heap.get? a = some { cls:=.type "list", data:=.seq vs.toArray } -> IntsAre vs ns -> ns.length <= n -> s₁.gens = #[] ->
      codeAny (model l.prog w) callerA (.call (.ref fa) ⟨[.ref a], []⟩) (fun r s'=>r = .ok (.ret (.bool true)) /\ OldK s₁.heap s'.heap /\ s'.os = s₁.os /\ AllBare s'.gens) s₁) :
    WalkO q loose XP YP l.row.toRowW d [] (fun f vs=>PySem.call f vs):=by
  intro w s₀ s₁ mg mb G Y fa o pm cd doc dV kV ho hd hcd hD hmg hg args vals as hpre hlay hrd hwl hlo
  obtain rfl : dV = .none:=Dflts.none hD hdf
  obtain rfl : kV = .none:=Dflts.noKw hD
  obtain ⟨a, vs, ns, rfl, rfl, hobj, hints, hlen⟩:=FR hn hpre hwl
  refine enter_call (codeAny_mono (call w s₀ s₁ mg mb fa o pm cd doc a vs ns G Y ho (fd_plain hd) hcd hmg hobj hints hlen hg) fun r s' hq=>?_)
  obtain ⟨rfl, h2, h3, h4⟩:=hq
  exact ⟨.inl ⟨.bool true, .bool true, [], rfl, fun _=>rfl, .bool true, F5 l _, fun _=>⟨List.Pairwise.nil, fun _ hm=>(nomatch hm)⟩⟩, h2, h3, h4⟩
section
variable {prog : Program} {w : World} {A : Around} {E : Value -> Shared -> Prop} {s : Shared} {K : Frag}
noncomputable def Lx (h : Heap) (L d : Addr) : List (Addr × Obj):=(List.range h.objs.size).filterMap fun a=>if a = L ∨ a = d then none else (h.get? a).map fun o=>(a, o)
end
end Att
namespace L2
open PySem PySem.Spec PyProof.Rows
theorem Uu : ∀ {vs : List Value} {ns : List Int}, IntsAre vs ns -> X5 (ns.map V.int) vs
  | _, _, .nil=>.nil
  | _, _, .cons n t h=>.cons ⟨t, rfl⟩ (Uu h)
noncomputable def IM (H : Hp) : Prop:=∀ b, H b = none ∨ ∃ o xs, H b = some (.frz o (.lst xs))
theorem Cu {P : Program} {w : World} {K : PySem.W.Frag} {mg mb : Str -> Option Value} {CX : CXT} {k : Nat} {fa a : Addr} {fd : FuncData} {x : Str} {sp : Sp} {s₁ : Shared} {vs : List Value} {ns : List Int}
    (KX : K.In s₁.heap) (hns : s₁.heap.Ns mainGlobals mg) (hb : s₁.heap.Ns builtinsNs mb) (hbb : ∀ x : Str, x ≠ "__name__" -> mb x = bootBuiltins x) (hlim : s₁.heap.NoLimit) (hg : s₁.gens = #[])
    (ha : s₁.heap.get? a = some { cls:=.type "list", data:=.seq vs.toArray }) (hi : IntsAre vs ns) (hl : ns.length <= sizeLine) (hr : Room k callerA)
    (F : ∀ base : Heap, K.In base -> base.Ns mainGlobals mg -> FnOk P w K mg base CX k fa fd [x] sp) (hbind : ∀ (s : Shared) (u : Value), BindsTo s fd ⟨[u], []⟩ [(x, u)])
    (hsp : ∀ H : Hp, IM H -> SqL K H a (ns.map V.int) -> sp [.ref a] H (fun v _=>v = .bl true) fun _ _ _=>False)
    (hCX : ∀ H e s', CX [] H s₁ (fun _ _ _=>False) e s' -> False) :
    codeAny (model P w) callerA (.call (.ref fa) ⟨[.ref a], []⟩) (fun r s'=>r = .ok (.ret (.bool true)) /\ OldK s₁.heap s'.heap /\ s'.os = s₁.os /\ AllBare s'.gens) s₁:=by
  have rv:=Uu hi
  have lenV:=hi.length
  -- from an abstract heap in which nothing but the script may be tracked
  have core : ∀ H : Hp, IM H -> SqL K H a (ns.map V.int) -> HOk P w H s₁.heap -> (∀ b, H b ≠ none -> b = a) -> (H a ≠ none -> K.lookup a = none) ->
      codeAny (model P w) callerA (.call (.ref fa) ⟨[.ref a], []⟩) (fun r s'=>r = .ok (.ret (.bool true)) /\ OldK s₁.heap s'.heap /\ s'.os = s₁.os /\ AllBare s'.gens) s₁:=by
    intro H hO hS hok hA hK
    have base_of : ∀ {b : Addr} {o : Obj}, s₁.heap.get? b = some o -> H b = none -> (Cf s₁.heap H).get? b = some o:=fun e n=>KS e n
    have noA : ∀ {b : Addr} {o : Obj} {es : Array DictEntry} {ep : Nat}, s₁.heap.get? b = some o -> o.data = .dict es ep -> H b = none:=fun {b o es ep} e d=>by
      cases q : H b with
      | none=>rfl
      | some u=>
        have e' : b = a:=hA b (by rw [q]; simp)
        subst e'
        rw [ha] at e; cases e
        have d' : Data.seq vs.toArray _ = Data.dict es ep:=d
        cases d'
    have nsK : ∀ {b : Addr} {m : Str -> Option Value}, s₁.heap.Ns b m -> (Cf s₁.heap H).Ns b m:=fun {b m} ⟨o, es, ep, e, d, r⟩=>⟨o, es, ep, base_of e (noA e d), d, r⟩
    have hKb : K.In (Cf s₁.heap H):=fun b o e=>base_of (KX b o e) (by
      cases q : H b with
      | none=>rfl
      | some u=>
        have e' : b = a:=hA b (by rw [q]; simp)
        subst e'
        rw [hK (by rw [q]; simp)] at e; cases e)
    have hM : Mod K mg (Cf s₁.heap H):=⟨hKb, nsK hns, ⟨mb, nsK hb, hbb⟩, let ⟨mc, h1, h2⟩:=hlim; ⟨mc, nsK h1, h2⟩⟩
    have e0 : Env0 P w K mg (Cf s₁.heap H) callerA [] s₁ H:=⟨rfl, hM, fun b o e=>EM e, Nat.le_of_eq (DW _ _), trivial, fun b hb=>absurd (show b ∈ ([] : List Addr) from hb) (by simp), hok, .of_eq hg⟩
    refine codeAny_mono ((F _ hKb (nsK hns)).run callerA [] s₁ H ⟨[.ref a], []⟩ [.ref a] [.ref a] _ _ hr e0 (hbind s₁ (.ref a)) (.cons rfl .nil) (hsp H hO hS)) fun r s' h=>?_
    cases r with
    | error e=>exact (hCX H e s' h).elim
    | ok fl=>
      cases fl with
      | next=>exact False.elim h
      | brk=>exact False.elim h
      | cont=>exact False.elim h
      | ret u=>
        obtain ⟨v, H', os, bare, un, hok', r', q⟩:=h
        have q' : v = .bl true:=q
        subst q'
        obtain rfl : u = Value.bool true:=r'
        refine ⟨rfl, OldK.of_keep fun b o e=>?_, os, bare⟩
        cases q : H b with
        | none=>exact un.keep b o e q (by intro z; exact absurd (show b ∈ ([] : List Addr) from z) (by simp)) (by simp)
        | some u=>
          rcases hO b with z | ⟨ob, xs, z⟩
          . rw [q] at z; cases z
          . have z2 := un.frzs b ob _ z
            obtain ⟨e1, _⟩:=hok b _ z
            obtain ⟨e2, _⟩:=hok' b _ z2
            rw [e] at e1; cases e1
            exact e2
  cases hk : K.lookup a with
  | some o=>
    -- the script is one of the module's own objects
    have e:=KX a o hk
    rw [ha] at e
    cases e
    refine core (fun _=>none) (fun _=>.inl rfl) (.inr ⟨_, vs.toArray, _, hk, rfl, rfl, rfl, by rw [List.size_toArray, lenV]; exact hl, by simpa using rv⟩) (fun b u z=>by have z' : (none : Option HO) = some u:=z; cases z') (fun b z=>absurd rfl z) fun z=>absurd rfl z
  | none=>
    refine core (fun b=>if b = a then some (.frz { cls:=.type "list", data:=.seq vs.toArray } (.lst (ns.map V.int))) else none) (fun b=>?_) (.inl (.inr ⟨{ cls:=.type "list", data:=.seq vs.toArray }, if_pos rfl⟩)) (fun b u z=>?_) (fun b z=>?_) fun _=>hk
    . by_cases hb : b = a
      . exact .inr ⟨_, _, if_pos hb⟩
      . exact .inl (if_neg hb)
    . by_cases hb : b = a
      . have z' := (if_pos hb).symm.trans z
        cases z'
        subst hb
        exact ⟨ha, by rw [List.length_map]; exact hl, vs, _, rv, ha⟩
      . have z' := (if_neg hb).symm.trans z
        cases z'
    . by_cases hb : b = a
      . exact hb
      . exact absurd (if_neg hb) z
end L2
namespace L2
open PySem PySem.Spec PyProof.Rows
theorem B4 {l : PySem.W.OpenLaw} {n k : Nat} {q : Program} {loose : List Str} {XP : (Str -> Option Value) -> Heap -> Prop} {YP : World -> Heap -> Prop} {d : DefRec} {K : Params -> PySem.W.Frag} {CX : World -> CXT} {sp : World -> Sp} {x : Str}
    (hn : l.most = some n) (hn2 : n <= sizeLine) (hdf : d.params.defaults = []) (hr : Room k callerA)
    (hY : ∀ (w : World) (h : Heap), YP w h -> (K w.params).In h)
    (F : ∀ (w : World) (mg : Str -> Option Value) (fa : Addr) (h : Heap), (K w.params).In h -> h.Ns mainGlobals mg -> mg d.name = some (.ref fa) ->
      ∃ fd : FuncData, (∀ (s : Shared) (u : Value), BindsTo s fd ⟨[u], []⟩ [(x, u)]) /\
        ∀ base : Heap, (K w.params).In base -> base.Ns mainGlobals mg -> FnOk l.prog w (K w.params) mg base (CX w) k fa fd [x] (sp w))
    (hsp : ∀ (w : World) (H : Hp) (a : Addr) (ns : List Int), ns.length <= n -> IM H -> SqL (K w.params) H a (ns.map V.int) -> sp w [.ref a] H (fun v _=>v = .bl true) fun _ _ _=>False)
    (hCX : ∀ (w : World) (H : Hp) (s : Shared) (e : Value) (s' : Shared), CX w [] H s (fun _ _ _=>False) e s' -> False) :
    PySem.W.WalkO q loose XP YP l.row.toRowW d [] (fun f vs=>PySem.call f vs):=by
  refine Att.attach_call hn hdf fun w s₀ s₁ mg mb fa o pm cd doc a vs ns G Y ho hd hcd hmg hobj hints hlen hg=>?_
  have KX:=hY w _ Y
  obtain ⟨fd, hb, hF⟩:=F w mg fa _ KX G.T.g hmg
  exact Cu KX G.T.g G.T.b G.T.builtins G.T.nolimit hg hobj hints (Nat.le_trans hlen hn2) hr hF hb (fun H hO hS=>hsp w H a ns hlen hO hS) fun H e s'=>hCX w H s₁ e s'
end L2
namespace L2
open PySem PySem.Spec PyProof.Rows
noncomputable def YN (s : Stmt) : Arguments:=match s with
  | .FunctionDef _ a _ _ _ _ _ _ _ _=>a
  | _=>{ posonlyargs:=[], args:=[], vararg:=none, kwonlyargs:=[], kw_defaults:=[], kwarg:=none, defaults:=[] }
noncomputable def Yy (s : Stmt) : List Stmt:=match s with
  | .FunctionDef _ _ b _ _ _ _ _ _ _=>b
  | _=>[]
noncomputable def Xk (s : Stmt) : Scope:=match s with
  | .FunctionDef _ _ _ _ _ _ sc _ _ _=>sc
  | _=>{ kind:=.function, names:=[], isGenerator:=false, isCoroutine:=false }
noncomputable abbrev CX0 : CXT:=fun _ _ _ _ _ _=>False
noncomputable abbrev E0 : XK:=fun _ _ _=>False
theorem IV {X : Cx} : DF CX0 X E0:=fun _ _ _ _ _ _ _ h=>h.elim
structure Fun (K : PySem.W.Frag) (x qual : Str) (st : Stmt) (f : Addr) (fd : FuncData) : Prop where
  ex : ∃ (oc : Value) (od : Option Addr) (kV doc pm : Value) (an : Option Addr) (cdv ct : Value) (osl : Array (Option Value)),
    fd = PySem.W.fnOf x qual (YN st) (Yy st) (Xk st) .none kV doc pm an cdv ct /\ K.lookup f = some ⟨oc, od, .func fd, osl⟩ /\ PySem.W.codeIn K cdv qual = true
  kp : PySem.W.keepIn K (.ref f) = true
section
variable {P : Program} {w : World} {K : PySem.W.Frag} {mg : Str -> Option Value} {base : Heap}
theorem Fun.ok {x qual : Str} {st : Stmt} {f : Addr} {fd : FuncData} {N ps : List Str} {k : Nat} {sp : Sp} (F : Fun K x qual st f fd) (S : FnScope N ps (Xk st)) (len : ∀ vs H Q E, sp vs H Q E -> vs.length = ps.length)
    (hbody : ∀ (cdv : Value) (A : Around) (outer : List Env) (s : Shared) (H : Hp) (vs : List V) (Q : VK) (E : XK), Room k (A.deeper (envOfC qual (Xk st) s.heap.objs.size f cdv)) -> sp vs H Q E ->
      ∃ t, PSs (Ew CX0 P w K mg base N qual (Xk st) f cdv A outer s H E).nox (Yy st) t /\ t { nx:=fun _ H'=>Q .non H', rt:=Q } (VY N vs) H) : FnOk P w K mg base CX0 (k + 1) f fd ps sp:=by
  obtain ⟨oc, od, kV, doc, pm, an, cdv, ct, osl, rfl, lk, hcd⟩:=F.ex
  refine IJ lk hcd S len fun A outer s H vs Q E hr hsp=>?_
  obtain ⟨t, h, q⟩:=hbody cdv A outer s H vs Q E hr hsp
  exact ⟨t, h.nox, q⟩
theorem Fun.binds {x qual : Str} {st : Stmt} {f : Addr} {fd : FuncData} {ps : List Str} (F : Fun K x qual st f fd)
    (h : ∀ (kV doc pm : Value) (an : Option Addr) (cdv ct : Value) (us : List Value), us.length = ps.length -> bindArgs (PySem.W.fnOf x qual (YN st) (Yy st) (Xk st) .none kV doc pm an cdv ct) ⟨us, []⟩ = pure (ps.zip us)) : Kj K fd ps []:=by
  obtain ⟨oc, od, kV, doc, pm, an, cdv, ct, osl, rfl, lk, hcd⟩:=F.ex
  exact .all (h kV doc pm an cdv ct)
theorem Qy {x qual : Str} {st : Stmt} {f : Addr} {oc : Value} {od an : Option Addr} {osl : Array (Option Value)} {kV doc pm cdv ct : Value} (l : K.lookup f = some ⟨oc, od, .func (PySem.W.fnOf x qual (YN st) (Yy st) (Xk st) .none kV doc pm an cdv ct), osl⟩)
    (c : PySem.W.codeIn K cdv qual = true) (k : PySem.W.keepIn K (.ref f) = true) : Fun K x qual st f (PySem.W.fnOf x qual (YN st) (Yy st) (Xk st) .none kV doc pm an cdv ct):=⟨⟨oc, od, kV, doc, pm, an, cdv, ct, osl, rfl, l, c⟩, k⟩
end
theorem YD {A : Around} {k : Nat} (hr : Room k A) : A.units + 1 < cLine:=Nat.lt_of_le_of_lt (Nat.add_le_add_left (by decide : 1 <= 64) _) hr.units
theorem FV {n : Nat} (h : n <= 1000) : n < sizeLine:=Nat.lt_of_le_of_lt h (by decide)
section
variable {X : Cx}
theorem pv (i : Nat) {x : Str} {pos : Pos} (hN : X.N[i]? = some x:=by rfl) (hv : Vis X.env.scope x:=by first | exact Or.inl rfl | exact Or.inr (Or.inl rfl) | exact Or.inr (Or.inr rfl)) (hd : (x == ("__debug__" : Str)) = false:=by decide)
    (hcd : (x == ("__classdict__" : Str)) = false:=by decide) : PE X (.Name x pos) (US i):=Hk hN hv hd hcd
end
noncomputable def Xx (H H' : Hp) : Prop:=∀ b o, H b = some o -> H' b = some o
theorem Xx.refl (H : Hp) : Xx H H:=fun _ _ h=>h
theorem Xx.trans {H H1 H2 : Hp} (a : Xx H H1) (b : Xx H1 H2) : Xx H H2:=fun c o h=>b c o (a c o h)
theorem Xx.free {H H' : Hp} (e : Xx H H') {l : Addr} (h : H' l = Option.none) : H l = Option.none:=by
  cases q : H l with
  | none=>rfl
  | some o=>
    rw [e l o q] at h
    cases h
theorem Xx.seq {K : PySem.W.Frag} {H H' : Hp} {a : Addr} {xs : List V} (e : Xx H H') (h : SqL K H a xs) : SqL K H' a xs:=by
  rcases h with (h | ⟨o, h⟩) | h
  . exact .inl (.inl (e _ _ h))
  . exact .inl (.inr ⟨o, e _ _ h⟩)
  . exact .inr h
end L2
namespace L2
open PySem PySem.Spec PyProof.Rows
section
variable {κ : Type} [DecidableEq κ]
noncomputable def Kb (kvs : List (κ × V)) (k : κ) : Option V:=(kvs.find? fun kv=>decide (kv.1 = k)).map (·.2)
noncomputable def Q5 (kvs : List (κ × V)) (k : κ) (v : V) : List (κ × V):=
  if (kvs.any fun kv=>decide (kv.1 = k)) = true then kvs.map (fun kv=>if kv.1 = k then (kv.1, v) else kv) else kvs ++ [(k, v)]
noncomputable def HK (kvs : List (κ × V)) (k : κ) : List (κ × V):=kvs.filter fun kv=>decide (kv.1 ≠ k)
theorem Jo {p : κ × V} {r : List (κ × V)} {k : κ} (e : p.1 = k) : Kb (p :: r) k = some p.2:=by simp [Kb, List.find?_cons, e]
theorem Je {p : κ × V} {r : List (κ × V)} {k : κ} (e : ¬ p.1 = k) : Kb (p :: r) k = Kb r k:=by simp [Kb, List.find?_cons, e]
theorem KF (k : κ) : ∀ kvs : List (κ × V), (kvs.any fun kv=>decide (kv.1 = k)) = (Kb kvs k).isSome
  | []=>rfl
  | p :: r=>by
    rw [List.any_cons]
    by_cases e : p.1 = k
    . simp only [Jo e, decide_eq_true e, Bool.true_or, Option.isSome_some]
    . rw [Je e, decide_eq_false e, Bool.false_or]; exact KF k r
theorem JY (kvs : List (κ × V)) (k : κ) (v : V) : (Q5 kvs k v).length <= kvs.length + 1:=by
  unfold Q5
  split
  . rw [List.length_map]; omega
  . rw [List.length_append, List.length_cons, List.length_nil]; omega
theorem CV.isSome_eq {o : Option V} {u : Option Value} (r : CV o u) : o.isSome = u.isSome:=by
  cases o with
  | none=>cases u with
    | none=>rfl
    | some _=>exact (show False from r).elim
  | some _=>cases u with
    | none=>exact (show False from r).elim
    | some _=>rfl
theorem CV.getD {o : Option V} {u : Option Value} {d : V} {d' : Value} (r : CV o u) (rd : X4 d d') : X4 (o.getD d) (u.getD d'):=by
  cases o with
  | none=>cases u with
    | none=>exact rd
    | some _=>exact (show False from r).elim
  | some _=>cases u with
    | none=>exact (show False from r).elim
    | some _=>exact r
theorem KV.val {kvs : List (κ × V)} {vs : List (κ × Value)} (r : KV kvs vs) (k : κ) : CV (Kb kvs k) (valueAt vs k):=by
  unfold KV at r
  induction r with
  | nil=>exact True.intro
  | @cons p q ps qs h t ih=>
    obtain ⟨h1, h2⟩:=h
    by_cases e : p.1 = k
    . have e' : q.1 = k := h1.symm.trans e
      have b : valueAt (q :: qs) k = some q.2:=by simp [valueAt, List.find?_cons, e']
      rw [Jo e, b]; exact h2
    . have e' : ¬ q.1 = k := fun z => e (h1.trans z)
      have b : valueAt (q :: qs) k = valueAt qs k:=by simp [valueAt, List.find?_cons, e']
      rw [Je e, b]; exact ih
theorem KV.any {kvs : List (κ × V)} {vs : List (κ × Value)} (r : KV kvs vs) (k : κ) : (kvs.any fun kv=>decide (kv.1 = k)) = vs.any fun kv=>decide (kv.1 = k):=by
  unfold KV at r
  induction r with
  | nil=>rfl
  | cons h t ih=>rw [List.any_cons, List.any_cons, ih, h.1]
theorem KV.repl {kvs : List (κ × V)} {vs : List (κ × Value)} (r : KV kvs vs) (k : κ) {y : V} {u : Value} (ry : X4 y u) :
    KV (kvs.map fun kv=>if kv.1 = k then (kv.1, y) else kv) (vs.map fun kv=>if kv.1 = k then (kv.1, u) else kv):=by
  unfold KV at r ⊢
  induction r with
  | nil=>exact .nil
  | @cons p q ps qs h t ih=>
    rw [List.map_cons, List.map_cons]
    refine .cons ?_ ih
    obtain ⟨h1, h2⟩:=h
    by_cases e : p.1 = k
    . rw [if_pos e, if_pos (h1.symm.trans e)]; exact ⟨h1, ry⟩
    . rw [if_neg e, if_neg (fun z=>e (h1.trans z))]; exact ⟨h1, h2⟩
theorem KV.put {kvs : List (κ × V)} {vs : List (κ × Value)} (r : KV kvs vs) (k : κ) {y : V} {u : Value} (ry : X4 y u) : KV (Q5 kvs k y) (stored vs k u):=by
  unfold Q5 stored
  rw [r.any k]
  by_cases e : (vs.any fun kv=>decide (kv.1 = k)) = true
  . rw [if_pos e, if_pos e]; exact r.repl k ry
  . rw [if_neg e, if_neg e]; exact Paired.snoc r ⟨rfl, ry⟩
theorem KV.drop {kvs : List (κ × V)} {vs : List (κ × Value)} (r : KV kvs vs) (k : κ) : KV (HK kvs k) (without vs k):=by
  unfold KV at r ⊢
  unfold HK without
  induction r with
  | nil=>exact .nil
  | @cons p q ps qs h t ih=>
    obtain ⟨h1, h2⟩:=h
    rw [List.filter_cons, List.filter_cons]
    by_cases e : p.1 = k
    . have a : ¬ decide (p.1 ≠ k) = true := by simp [e]
      have b : ¬ decide (q.1 ≠ k) = true:=by simp [h1.symm.trans e]
      rw [if_neg a, if_neg b]; exact ih
    . have e' : ¬ q.1 = k := fun z => e (h1.trans z)
      have a : decide (p.1 ≠ k) = true:=by simp [e]
      have b : decide (q.1 ≠ k) = true:=by simp [e']
      rw [if_pos a, if_pos b]; exact .cons ⟨h1, h2⟩ ih
theorem KV.keys {kvs : List (κ × V)} {vs : List (κ × Value)} (r : KV kvs vs) : kvs.map (·.1) = vs.map (·.1):=by
  unfold KV at r
  induction r with
  | nil=>rfl
  | cons h t ih=>rw [List.map_cons, List.map_cons, ih, h.1]
theorem KV.length {kvs : List (κ × V)} {vs : List (κ × Value)} (r : KV kvs vs) : kvs.length = vs.length:=Paired.length r
end
theorem Cw {P : Program} {w : World} {k : Key} {u : Value} (r : X4 (kV k) u) : (Yr P w).is k u = true:=by
  cases k with
  | inl i=>obtain ⟨t, e⟩:=(show ∃ t, u = Value.int i t from r); subst e; exact Kd P w i t
  | inr x=>obtain ⟨t, e⟩:=(show ∃ t, u = Value.str x t from r); subst e; exact Km P w x t
theorem Ui {P : Program} {w : World} : ∀ {ks : List Key} {us : List Value}, X5 (ks.map kV) us -> ItemsAre (Yr P w) ks us
  | [], _, r=>by rw [List.map_nil] at r; cases r; exact .nil
  | k :: ks, _, r=>by
    rw [List.map_cons] at r
    cases r with
    | cons h t=>exact .cons (Cw h) (Ui t)
noncomputable abbrev KT (H : Hp) : List (List Key × V) -> List (List Key × Addr × Value) -> Prop:=Paired fun p q=>p.1 = q.1 /\ H q.2.1 = some (.tup (p.1.map kV)) /\ X4 p.2 q.2.2
theorem KT.val {H : Hp} {kvs : List (List Key × V)} {xs : List (List Key × Addr × Value)} (r : KT H kvs xs) (k : List Key) : CV (Kb kvs k) ((atKey xs k).map (·.2)):=by
  induction r with
  | nil=>exact True.intro
  | @cons p q ps qs h t ih=>
    obtain ⟨h1, _, h2⟩:=h
    by_cases e : p.1 = k
    . have e' : q.1 = k := h1.symm.trans e
      have b : atKey (q :: qs) k = some q.2:=by simp [atKey, List.find?_cons, e']
      rw [Jo e, b]; exact h2
    . have e' : ¬ q.1 = k := fun z => e (h1.trans z)
      have b : atKey (q :: qs) k = atKey qs k:=by simp [atKey, List.find?_cons, e']
      rw [Je e, b]; exact ih
theorem KT.repl {H : Hp} {kvs : List (List Key × V)} {xs : List (List Key × Addr × Value)} (r : KT H kvs xs) (k : List Key) {y : V} {u : Value} (ry : X4 y u) :
    KT H (kvs.map fun kv=>if kv.1 = k then (kv.1, y) else kv) (xs.map (putAt k u)):=by
  induction r with
  | nil=>exact .nil
  | @cons p q ps qs h t ih=>
    rw [List.map_cons, List.map_cons]
    refine .cons ?_ ih
    obtain ⟨h1, h2, h3⟩:=h
    unfold putAt
    by_cases e : p.1 = k
    . rw [if_pos e, if_pos (h1.symm.trans e)]; exact ⟨h1, h2, ry⟩
    . rw [if_neg e, if_neg (fun z=>e (h1.trans z))]; exact ⟨h1, h2, h3⟩
theorem KT.put {H : Hp} {kvs : List (List Key × V)} {xs : List (List Key × Addr × Value)} (r : KT H kvs xs) (k : List Key) {b : Addr} {y : V} {u : Value} (hb : H b = some (.tup (k.map kV))) (ry : X4 y u) :
    KT H (Q5 kvs k y) (storedH xs k b u):=by
  have e : (kvs.any fun kv=>decide (kv.1 = k)) = (atKey xs k).isSome:=by
    rw [KF, (r.val k).isSome_eq, Option.isSome_map]
  unfold Q5 storedH
  rw [e]
  by_cases q : (atKey xs k).isSome = true
  . rw [if_pos q, if_pos q]; exact r.repl k ry
  . rw [if_neg q, if_neg q]; exact Paired.snoc r ⟨rfl, hb, ry⟩
theorem KT.keeps {H H' : Hp} {kvs : List (List Key × V)} {xs : List (List Key × Addr × Value)} (r : KT H kvs xs) (ht : ∀ b ys, H b = some (.tup ys) -> H' b = some (.tup ys)) : KT H' kvs xs:=
  Paired.mapP r fun _ _ z=>⟨z.1, ht _ _ z.2.1, z.2.2⟩
section
variable {P : Program} {w : World} {H : Hp} {h : Heap} {a : Addr}
theorem HX {u : HO} (ok : HOk P w H h) (e : Rd H a u) : Yz P w H h a u:=e.ok ok
theorem BP {kvs : List (Key × V)} (ok : HOk P w H h) (e : Rd H a (.dK kvs)) : kvs.length <= sizeLine /\ (a == sysModules) = false /\ ∃ vs, KV kvs vs /\ h.DictOf (Yr P w) a vs:=
  show Yz P w H h a (.dK kvs) from HX ok e
theorem Lb {kvs : List (Key × V)} (ok : HOk P w H h) (e : H a = some (.dK kvs)) : kvs.length <= sizeLine /\ (a == sysModules) = false /\ ∃ vs, KV kvs vs /\ h.DictOf (Yr P w) a vs:=BP ok (.inl e)
theorem Vg {ks : List Key} (ok : HOk P w H h) (e : H a = some (.tup (ks.map kV))) : (tupleKind (Yr P w)).is h ks a:=by
  obtain ⟨_, its, r, o, h1, h2, n, h3⟩:=(show Yz P w H h a (.tup (ks.map kV)) from ok a _ e)
  exact ⟨o, its.toArray, n, h1, h2.1, h3, by simpa using Ui r⟩
theorem Eh {kvs : List (List Key × V)} (ok : HOk P w H h) (e : Rd H a (.dT kvs)) : kvs.length <= sizeLine /\ (a == sysModules) = false /\
    ∃ xs, KT H kvs xs /\ h.DictOfH (tupleKind (Yr P w)) a xs:=by
  obtain ⟨z, y, xs, r, o, es, ep, h1, h2, h3, h4, h5⟩:=(show Yz P w H h a (.dT kvs) from HX ok e)
  refine ⟨z, y, xs, r, o, es, ep, h1, h2, h3, h4, fun x hx=>?_, h5⟩
  have all : ∀ {l : List (List Key × V)} {m : List (List Key × Addr × Value)}, KT H l m -> ∀ x ∈ m, (tupleKind (Yr P w)).is h x.1 x.2.1:=by
    intro l m q
    induction q with
    | nil=>intro x hx; exact nomatch hx
    | @cons p q ps qs hq t ih=>
      intro x hx
      rcases List.mem_cons.mp hx with e | hx
      . subst e
        exact Vg ok (by rw [← hq.1]; exact hq.2.1)
      . exact ih x hx
  exact all r x hx
theorem IL {kvs : List (List Key × V)} (ok : HOk P w H h) (e : H a = some (.dT kvs)) : kvs.length <= sizeLine /\ (a == sysModules) = false /\
    ∃ xs, KT H kvs xs /\ h.DictOfH (tupleKind (Yr P w)) a xs:=Eh ok (.inl e)
end
noncomputable def BF (H : Hp) (a : Addr) (y : V) (r : Option V) : Prop:=
  (∃ kvs k, Rd H a (.dK kvs) /\ y = kV k /\ r = Kb kvs k) ∨ ∃ kvs k b, Rd H a (.dT kvs) /\ y = .ref b /\ H b = some (.tup (k.map kV)) /\ r = Kb kvs k
noncomputable def Ha (H : Hp) (a : Addr) (y v : V) (H' : Hp) : Prop:=
  (∃ kvs k, H a = some (.dK kvs) /\ y = kV k /\ kvs.length < sizeLine /\ H' = upd H a (.dK (Q5 kvs k v))) ∨
  ∃ kvs k b, H a = some (.dT kvs) /\ y = .ref b /\ H b = some (.tup (k.map kV)) /\ kvs.length < sizeLine /\ H' = upd H a (.dT (Q5 kvs k v))
theorem BF.k {H : Hp} {a : Addr} {kvs : List (Key × V)} {k : Key} (e : H a = some (.dK kvs)) : BF H a (kV k) (Kb kvs k):=.inl ⟨kvs, k, .inl e, rfl, rfl⟩
theorem BF.t {H : Hp} {a b : Addr} {kvs : List (List Key × V)} {k : List Key} (e : H a = some (.dT kvs)) (eb : H b = some (.tup (k.map kV))) : BF H a (.ref b) (Kb kvs k):=.inr ⟨kvs, k, b, .inl e, rfl, eb, rfl⟩
theorem Ha.k {H : Hp} {a : Addr} {kvs : List (Key × V)} {k : Key} {v : V} (e : H a = some (.dK kvs)) (hl : kvs.length < sizeLine) : Ha H a (kV k) v (upd H a (.dK (Q5 kvs k v))):=.inl ⟨kvs, k, e, rfl, hl, rfl⟩
theorem Ha.t {H : Hp} {a b : Addr} {kvs : List (List Key × V)} {k : List Key} {v : V} (e : H a = some (.dT kvs)) (eb : H b = some (.tup (k.map kV))) (hl : kvs.length < sizeLine) :
    Ha H a (.ref b) v (upd H a (.dT (Q5 kvs k v))):=.inr ⟨kvs, k, b, e, rfl, eb, hl, rfl⟩
section
variable {X : Cx} {pins : List (Addr × Obj)} {σ : St} {H : Hp} {s : Shared} {a : Addr} {y v : V} {u r : Value} {o : Option V} {A : Around} {E : Value -> Shared -> Prop}
theorem Inv.big (I : Inv X pins σ H s) : sysModules < s.heap.objs.size:=by
  have h : mainGlobals < s.heap.objs.size:=(I.mod.glob.keeps I.bk).lt
  exact Nat.lt_trans (by decide) h
theorem LM {Q : Value -> Shared -> Prop} (hu : A.units + 1 < cLine) (I : Inv X pins σ H s) (g : BF H a y o) (ry : X4 y u) (h : ∀ s', Inv X pins σ H s' -> Q (.bool o.isSome) s') :
    wpAny (model X.prog X.w) A (compareOp .In u (.ref a)) Q E s:=by
  rcases g with ⟨kvs, k, e, ey, l⟩ | ⟨kvs, k, b, e, ey, eb, l⟩
  . subst ey
    obtain ⟨z, hd, vs, rel, dd⟩:=BP I.hok e
    refine wpAny_in_of (Cw ry) hd dd.mapOf ?_
    rw [← (rel.val k).isSome_eq, ← l]
    exact h _ (I.tok _)
  . subst ey
    cases (show u = Value.ref b from ry)
    obtain ⟨z, hd, xs, rel, dd⟩:=Eh I.hok e
    refine wpAny_in_heap (tupleKind_room_in1 hu) (Vg I.hok eb) hd dd ?_
    have q:=(rel.val k).isSome_eq
    rw [Option.isSome_map] at q
    rw [← q, ← l]
    exact h _ (I.tok _)
theorem BY {Q : Value -> Shared -> Prop} (hu : A.units + 1 < cLine) (I : Inv X pins σ H s) (g : BF H a y o) (ry : X4 y u) (h : ∀ s', Inv X pins σ H s' -> Q (.bool (!o.isSome)) s') :
    wpAny (model X.prog X.w) A (compareOp .NotIn u (.ref a)) Q E s:=by
  rcases g with ⟨kvs, k, e, ey, l⟩ | ⟨kvs, k, b, e, ey, eb, l⟩
  . subst ey
    obtain ⟨z, hd, vs, rel, dd⟩:=BP I.hok e
    refine wpAny_notIn_of (Cw ry) hd dd.mapOf ?_
    rw [← (rel.val k).isSome_eq, ← l]
    exact h _ (I.tok _)
  . subst ey
    cases (show u = Value.ref b from ry)
    obtain ⟨z, hd, xs, rel, dd⟩:=Eh I.hok e
    refine wpAny_notIn_heap (tupleKind_room_in1 hu) (Vg I.hok eb) hd dd ?_
    have q:=(rel.val k).isSome_eq
    rw [Option.isSome_map] at q
    rw [← q, ← l]
    exact h _ (I.tok _)
theorem G9 {h' : Heap} {t' : Nat} {ob : HO} (I : Inv X pins σ H s) (mu : Mut (H a)) (hs : Heap.SameBut a s.heap h') (he : ∃ q, h'.get? a = some q) (new : Yz X.prog X.w (upd H a ob) h' a ob) :
    Inv X pins σ (upd H a ob) { s with heap:=h', toks:=t' }:=
  I.write (x:=a) (e:=a) mu (.inl rfl) (fun b q hb z=>(hs.2 b hb).trans z) he new
theorem Ie {P : Program} {w : World} {H' : Hp} {h' : Heap} {kvs : List (Key × V)} {vs : List (Key × Value)} (z : kvs.length <= sizeLine) (hd : (a == sysModules) = false) (rel : KV kvs vs) (dd : h'.DictOf (Yr P w) a vs) :
    Yz P w H' h' a (.dK kvs):=⟨z, hd, vs, rel, dd⟩
theorem DK {H' : Hp} {Q : Unit -> Shared -> Prop} (hu : A.units + 1 < cLine) (I : Inv X pins σ H s) (g : Ha H a y v H') (ry : X4 y u) (rv : X4 v r) (h : ∀ s', Inv X pins σ H' s' -> Q () s') :
    wpAny (model X.prog X.w) A (setItem (.ref a) u r) Q E s:=by
  rcases g with ⟨kvs, k, e, ey, l, eH⟩ | ⟨kvs, k, b, e, ey, eb, l, eH⟩
  . subst ey eH
    obtain ⟨z, hd, vs, rel, dd⟩:=Lb I.hok e
    have hz : vs.length <= sizeLine:=by rw [← rel.length]; exact z
    have hl : (Q5 kvs k v).length <= sizeLine:=by have:=JY kvs k v; omega
    refine wpAny_setItem_pairs (hsz:=hz) (Cw ry) dd fun h' dd' hs=>h _ ?_
    have he : ∃ q, h'.get? a = some q:=let ⟨q, _, _, hq, _⟩:=dd'; ⟨q, hq⟩
    exact G9 I (by rw [e]; exact True.intro) hs he (Ie hl hd (rel.put k rv) dd')
  . subst ey eH
    cases (show u = Value.ref b from ry)
    obtain ⟨z, hd, xs, rel, dd⟩:=IL I.hok e
    have hz : xs.length <= sizeLine:=by rw [← Paired.length rel]; exact z
    have hl : (Q5 kvs k v).length <= sizeLine:=by have:=JY kvs k v; omega
    refine wpAny_setItem_heap (hsz:=hz) (tupleKind_room_in1 hu) (Vg I.hok eb) dd fun h' dd' hs=>h _ ?_
    obtain ⟨q, es, ep, hq, h2, h3, h4, _, h5⟩:=dd'
    refine G9 I (by rw [e]; exact True.intro) hs ⟨q, hq⟩ ⟨hl, hd, _, (rel.put k eb rv).keeps fun c ys ec=>?_, q, es, ep, hq, h2, h3, h4, h5⟩
    rw [XT (La ec e (fun z=>nomatch z))]
    exact ec
end
section
variable {X : Cx} {pins : List (Addr × Obj)} {σ : St} {H : Hp} {s : Shared} {a : Addr} {kvs : List (Key × V)} {k : Key} {u : Value} {A : Around} {E : Value -> Shared -> Prop}
end
noncomputable def Lu (ty td : TE) : TE:=fun σ H Q=>ty σ H fun y H1=>td σ H1 fun x H2=>∃ a o, x = .ref a /\ BF H2 a y o /\ Q (.bl o.isSome) H2
noncomputable def Dn (ty td : TE) : TE:=fun σ H Q=>ty σ H fun y H1=>td σ H1 fun x H2=>∃ a o, x = .ref a /\ BF H2 a y o /\ Q (.bl (!o.isSome)) H2
noncomputable def Ih (td ty tv : TE) : TS:=fun D σ H=>tv σ H fun v H1=>td σ H1 fun x H2=>ty σ H2 fun y H3=>∃ a H4, x = .ref a /\ Ha H3 a y v H4 /\ D.nx σ H4
section
variable {X : Cx} {o i e value : Expr} {pos pos' tpos : Pos} {td ty tv : TE}
theorem Hd (hu : X.A.units + 1 < cLine) (hi : PE X i ty) (ho : PE X o td) : PC X .In i o (Lu ty td):=by
  intro pins s σ H Q I h
  refine thn (hi pins s σ H _ I h) fun iv s1 ⟨y, H1, I1, ry, q1⟩=>thn (ho pins s1 σ H1 _ I1 q1) fun u s2 ⟨x, H2, I2, rx, a, ov, ex, g, q2⟩=>?_
  subst ex
  obtain rfl : u = Value.ref a:=rx
  exact LM hu I2 g ry fun s3 I3=>⟨.bl ov.isSome, H2, I3, rfl, q2⟩
theorem Fw (hu : X.A.units + 1 < cLine) (hi : PE X i ty) (ho : PE X o td) : PC X .NotIn i o (Dn ty td):=by
  intro pins s σ H Q I h
  refine thn (hi pins s σ H _ I h) fun iv s1 ⟨y, H1, I1, ry, q1⟩=>thn (ho pins s1 σ H1 _ I1 q1) fun u s2 ⟨x, H2, I2, rx, a, ov, ex, g, q2⟩=>?_
  subst ex
  obtain rfl : u = Value.ref a:=rx
  exact BY hu I2 g ry fun s3 I3=>⟨.bl (!ov.isSome), H2, I3, rfl, q2⟩
theorem B5 (hu : X.A.units + 1 < cLine) (ho : PE X o td) (hi : PE X i ty) (hv : PE X value tv) (hs : swapsWith value (some (.Subscript o i pos')) pos.line X.env = pure false) :
    PS X (.Assign [.Subscript o i pos'] value pos) (Ih td ty tv):=by
  intro pins s σ H D I h
  refine wpAny_Assign_Subscript (thn (hv pins s σ H _ I h) fun r s1 ⟨v, H1, I1, rv, q1⟩=>thn (ho pins s1 σ H1 _ I1 q1) fun u s2 ⟨x, H2, I2, rx, q2⟩=>thn (hi pins s2 σ H2 _ I2 q2) fun iv s3 ⟨y, H3, I3, ry, a, H4, ex, g, q3⟩=>?_) hs
  subst ex
  obtain rfl : u = Value.ref a:=rx
  exact DK hu I3 g ry rv fun s4 I4=>⟨σ, H4, I4, q3⟩
end
theorem Cv {P : Program} {w : World} {H : Hp} (h : Heap) (hb : sysModules < h.objs.size) : Yz P w H (h.push { cls:=.type "dict", data:=.dict #[] }) h.objs.size (.dT []):=
  ⟨Nat.zero_le _, beq_eq_false_iff_ne.mpr (Ne.symm (Nat.ne_of_lt hb)), [], .nil, _, #[], 0, Heap.get?_push_size _ rfl, ⟨rfl, rfl, rfl⟩, rfl, rfl, List.nodup_nil⟩
noncomputable def BG : TE:=fun _ H Q=>∀ p, H p = none -> Q (.ref p) (upd H p (.dT []))
section
variable {X : Cx} {pos : Pos}
theorem Cq : PE X (.Dict [] [] pos) BG:=fun pins s σ H Q I h=>
  wpAny_Dict_empty ⟨.ref s.heap.objs.size, _, I.laid (a:=s.heap.objs.size) (o:=.dT []) (t':=s.toks) (fun _ _ q=>Heap.get?_push_of_some _ q) (Nat.le_refl _) (Cv s.heap I.big), rfl, h _ (I.hok.fresh (Nat.le_refl _))⟩
end
section
variable {X : Cx} {pins : List (Addr × Obj)} {σ : St} {H : Hp} {s : Shared} {a : Addr} {y d : V} {u r : Value} {o : Option V} {A : Around} {E : Value -> Shared -> Prop}
end
section
variable {X : Cx} {o e f : Expr} {apos cpos : Pos} {td ty tx : TE}
end
section
variable {X : Cx} {pins : List (Addr × Obj)} {σ : St} {H : Hp} {s : Shared} {a : Addr} {kvs : List (Key × V)} {A : Around} {E : Value -> Shared -> Prop}
end
section
variable {X : Cx} {pins : List (Addr × Obj)} {σ : St} {H : Hp} {s : Shared} {a : Addr} {y : V} {u : Value} {A : Around} {E : Value -> Shared -> Prop}
end
end L2
namespace L2
open PySem PySem.Spec PyProof.Rows
section
variable {X : Cx}
end
section
variable {κ : Type} [DecidableEq κ]
end
end L2
namespace L2
open PySem PySem.Spec PyProof.Rows
theorem Fz {env : Env} : ∀ (names : List (Str × NameKind)), (∀ x ∈ names, x.2 = NameKind.free -> ∃ c, env.cells.lookup x.1 = some c) ->
    ∀ cs : List (Str × Addr), (∀ x c, cs.lookup x = some c -> env.cells.lookup x = some c) ->
    ∃ cl : List (Str × Addr), (forIn names cs (fun (x : Str × NameKind) (r : List (Str × Addr))=>(if (x.2 == NameKind.free) = true then do let a ← cellOf env x.1; pure (ForInStep.yield ((x.1, a) :: r)) else pure (ForInStep.yield r) : Sem (ForInStep (List (Str × Addr)))))) = (pure cl : Sem (List (Str × Addr))) /\
      (∀ x c, cl.lookup x = some c -> env.cells.lookup x = some c) /\ (∀ x, ((x, NameKind.free) ∈ names ∨ ∃ c, cs.lookup x = some c) -> ∃ c, cl.lookup x = some c)
  | [], _, cs, hs=>⟨cs, by rw [List.forIn_nil], hs, fun x h=>h.elim (fun z=>nomatch z) id⟩
  | (n, k) :: r, hf, cs, hs=>by
    have hr : ∀ x ∈ r, x.2 = NameKind.free -> ∃ c, env.cells.lookup x.1 = some c:=fun x hx=>hf x (List.mem_cons_of_mem _ hx)
    by_cases hk : k = NameKind.free
    . subst hk
      obtain ⟨a, ha⟩:=hf (n, NameKind.free) List.mem_cons_self rfl
      have hs' : ∀ x c, ((n, a) :: cs).lookup x = some c -> env.cells.lookup x = some c:=fun x c h=>by
        rw [List.lookup_cons] at h
        by_cases hx : x = n
        . subst hx
          simp only [beq_self_eq_true] at h
          rw [← h]; exact ha
        . have : (x == n) = false := beq_eq_false_iff_ne.mpr hx
          rw [this] at h
          exact hs x c h
      obtain ⟨cl, e, h1, h2⟩:=Fz r hr ((n, a) :: cs) hs'
      refine ⟨cl, ?_, h1, fun x h=>h2 x ?_⟩
      . rw [List.forIn_cons]
        have e1 : cellOf env n = pure a:=by unfold cellOf; rw [show env.cells.lookup n = some a from ha]
        simp only [beq_self_eq_true, if_true, e1]
        exact e
      . rcases h with h | ⟨c, h⟩
        . rcases List.mem_cons.mp h with h | h
          . have : x = n := congrArg Prod.fst h
            subst this
            exact .inr ⟨a, by rw [List.lookup_cons]; simp⟩
          . exact .inl h
        . by_cases hx : x = n
          . subst hx; exact .inr ⟨a, by rw [List.lookup_cons]; simp⟩
          . exact .inr ⟨c, by rw [List.lookup_cons, beq_eq_false_iff_ne.mpr hx]; exact h⟩
    . obtain ⟨cl, e, h1, h2⟩ := Fz r hr cs hs
      refine ⟨cl, ?_, h1, fun x h=>h2 x ?_⟩
      . rw [List.forIn_cons]
        have hb : (k == NameKind.free) = false:=by simpa using hk
        simp only [hb, Bool.false_eq_true, if_false]
        exact e
      . rcases h with h | h
        . rcases List.mem_cons.mp h with h | h
          . exact absurd (congrArg Prod.snd h).symm hk
          . exact .inl h
        . exact .inr h
theorem FH {scope : Scope} {env : Env} (hf : ∀ x ∈ scope.names, x.2 = NameKind.free -> ∃ c, env.cells.lookup x.1 = some c) :
    ∃ cl : List (Str × Addr), closureFor scope env = pure cl /\ (∀ x c, cl.lookup x = some c -> env.cells.lookup x = some c) /\ (∀ x, (x, NameKind.free) ∈ scope.names -> ∃ c, cl.lookup x = some c):=by
  obtain ⟨cl, e, h1, h2⟩:=Fz scope.names hf [] (fun x c h=>by simp at h)
  refine ⟨cl, ?_, h1, fun x h=>h2 x (.inl h)⟩
  unfold closureFor
  show ((forIn scope.names [] (fun (x : Str × NameKind) (r : List (Str × Addr))=>(if (x.2 == NameKind.free) = true then do let a ← cellOf env x.1; pure (ForInStep.yield ((x.1, a) :: r)) else pure (ForInStep.yield r) : Sem (ForInStep (List (Str × Addr)))))) >>= fun s=>pure s) = pure cl
  rw [e]
  rfl
theorem Qp {env : Env} : ∀ {names : List (Str × NameKind)} {x : Str} {k : NameKind}, (∀ y ∈ names, y.2 ≠ NameKind.cell) ->
    (names.map fun (n, k)=>if (k == NameKind.free && env.scope.kind == .function && env.kindOf n == some .cell) then (n, NameKind.cell) else (n, k)).lookup x = some k -> (k = .cell ∨ k = .free) -> (x, NameKind.free) ∈ names
  | [], _, _, _, h, _=>by simp at h
  | (n, kk) :: r, x, k, hc, h, hk=>by
    have ih:=@Qp env r x k (fun y hy=>hc y (List.mem_cons_of_mem _ hy))
    have hh:=hc (n, kk) List.mem_cons_self
    simp only [List.map_cons] at h
    by_cases hcond : (kk == NameKind.free && env.scope.kind == .function && env.kindOf n == some .cell) = true
    . rw [if_pos hcond, List.lookup_cons] at h
      have hfree : kk = NameKind.free:=by
        rw [Bool.and_eq_true, Bool.and_eq_true] at hcond
        simpa using hcond.1.1
      cases hx : x == n with
      | true=>
        have : x = n:=by simpa using hx
        subst this; subst hfree
        exact List.mem_cons_self
      | false=>rw [hx] at h; exact List.mem_cons_of_mem _ (ih h hk)
    . rw [if_neg hcond, List.lookup_cons] at h
      cases hx : x == n with
      | true=>
        rw [hx] at h
        have hkk : kk = k:=Option.some.inj h
        have : x = n:=by simpa using hx
        subst this; subst hkk
        rcases hk with z | z
        . exact absurd z hh
        . subst z; exact List.mem_cons_self
      | false=>rw [hx] at h; exact List.mem_cons_of_mem _ (ih h hk)
theorem Q3 {env : Env} : ∀ {names : List (Str × NameKind)} {x : Str}, names.lookup x = some .free ->
    let l:=(names.map fun (n, k)=>if (k == NameKind.free && env.scope.kind == .function && env.kindOf n == some .cell) then (n, NameKind.cell) else (n, k))
    l.lookup x = some .cell ∨ l.lookup x = some .free
  | [], _, h=>by simp at h
  | (n, kk) :: r, x, h=>by
    have ih:=@Q3 env r x
    simp only [List.map_cons]
    rw [List.lookup_cons] at h
    by_cases hcond : (kk == NameKind.free && env.scope.kind == .function && env.kindOf n == some .cell) = true
    . rw [if_pos hcond, List.lookup_cons]
      cases hx : x == n with
      | true=>exact .inl rfl
      | false=>rw [hx] at h; exact ih h
    . rw [if_neg hcond, List.lookup_cons]
      cases hx : x == n with
      | true=>rw [hx] at h; exact .inr h
      | false=>rw [hx] at h; exact ih h
noncomputable abbrev Cx.comp (X : Cx) (N : List Str) (scope : Scope) (cl : List (Str × Addr)) (C : Addr) (s : Shared) (H : Hp) (ex : List Addr) (E : Value -> Shared -> Prop) : Cx:=
  { X with N:=N, s₀:=s, H₀:=H, env:=compEnvC scope cl C X.env, outer:=X.stack, ex:=ex, fn:=fun _=>false, pn:=[], xe:=E }
noncomputable def PTs (X : Cx) (ifs : List Expr) (t : TT) : Prop:=
  ∀ (pins : List (Addr × Obj)) (s : Shared) (σ : St) (H : Hp) (Q : Bool -> Hp -> Prop), Inv X pins σ H s -> t σ H Q ->
    wpAny (model X.prog X.w) X.A (forIn ifs true fun c r=>if r = true then do let ok ← isTrue c X.env (eval c X.env); pure (ForInStep.yield ok) else pure (ForInStep.yield r)) (TP X pins σ Q) X.xe s
noncomputable def VD : TT:=fun _ H Q=>Q true H
theorem He {σ : St} {H : Hp} {A B : Hp -> Prop} (h : A H) : VD σ H fun c H5=>if c = true then A H5 else B H5:=by
  show if true = true then A H else B H
  rw [if_pos rfl]
  exact h
theorem Qn {X : Cx} : PTs X [] VD:=fun _ _ _ H _ I h=>wpAny_tests_nil ⟨H, I, h⟩
theorem Dq {X : Cx} {c : Expr} {t : TT} (h : PT X c t) : PTs X [c] t:=fun pins s σ H Q I hw=>wpAny_tests_one (h pins s σ H Q I hw)
noncomputable def UO (n : Nat) (g : TG) : Prop:=∀ x σ H Q, g x σ H Q -> g x σ H fun σ2 H2=>Q σ2 H2 /\ σ2.length = σ.length /\ ∀ i, n <= i -> σ2[i]? = σ[i]?
theorem ZI {n i : Nat} (h : i < n) : UO n (ZV i):=fun x σ H Q q=>⟨q, by simp, fun j hj=>by rw [List.getElem?_set_ne (by lia)]⟩
noncomputable def QG (n : Nat) (caps : List (Nat × Str)) (σ : St) : St:=List.replicate n none ++ caps.map fun p=>(σ[p.1]?).join
noncomputable def BV (g : TG) (tt : TT) (te : TE) (σ : St) (Q : VK) (J : It) (W : Nat -> Nat -> List V -> Hp -> Prop) : Prop:=
  ∀ i m ys H2, W i m ys H2 -> ys.length <= sizeLine /\
    ((J.stop i H2 /\ ∀ p, H2 p = none -> Q (.ref p) (upd H2 p (.lst ys))) ∨
    (J.go i H2 /\ ∃ N : List V -> Hp -> Prop, (∀ ys' H', N ys' H' -> ∃ m', m' < m /\ W (i + 1) m' ys' H') /\ ∀ x H3, J.yld i H2 x H3 -> g x σ H3 fun σ4 H4=>tt σ4 H4 fun c H5=>
      if c = true then te σ4 H5 fun v H6=>N (ys ++ [v]) H6 else N ys H5))
noncomputable def By (n : Nat) (caps : List (Nat × Str)) (g : TG) (tt : TT) (te : TE) (σ : St) (Q : VK) (J : It) (H1 : Hp) : Prop:=
  ∃ W : Nat -> Nat -> List V -> Hp -> Prop, (∃ m, W 0 m [] H1) /\ BV g tt te (QG n caps σ) Q J W
noncomputable def DQ (n : Nat) (caps : List (Nat × Str)) (wi : TI) (g : TG) (tt : TT) (te : TE) : TE:=fun σ H Q=>wi σ H fun J H1=>By n caps g tt te σ Q J H1
noncomputable def V9 (sc scope : Scope) (N0 tns : List Str) (caps : List (Nat × Str)) : Bool:=
  scope.kind == .function && scope.names.all (fun y=>!(y.2 == .cell)) && scope.names.all (fun y=>!(y.2 == .local) || scope.names.lookup y.1 == some .local) &&
  scope.names.all (fun y=>!(y.2 == .free) || sc.names.lookup y.1 == some .cell) && caps.all (fun p=>N0[p.1]? == some p.2 && sc.names.lookup p.2 == some .cell && scope.names.lookup p.2 == some .free)
theorem Ky {α : Type} {p : α} {P : Prop} (h : p ∈ ([] : List α)) : P:=nomatch h
noncomputable def HC (M : Model) (A : Around) (elt tg : Expr) (ifs : List Expr) (acc : Value) (env : Env) (E : Value -> Shared -> Prop) (K : Shared -> Prop) (v : Value) (s : Shared) : Prop:=
  wpAny M A (assign tg env v) (fun _ s₂=>wpAny M A (forIn ifs true fun c r=>if r = true then do let ok ← isTrue c env (eval c env); pure (ForInStep.yield ok) else pure (ForInStep.yield r)) (fun ok s₃=>
    if ok = true then wpAny M A (eval elt env) (fun x s₄=>wpAny M A (call (.builtin "list.append") [acc, x]) (fun _ s₅=>K s₅) E s₄) E s₃ else K s₃) E s₂) E s
noncomputable def Lg (M : Model) (A : Around) (elt tg : Expr) (ifs : List Expr) (it acc : Value) (env : Env) (E : Value -> Shared -> Prop) (Rn K : Shared -> Prop) (s : Shared) : Prop:=
  wpAny M A (pyNext it) (fun r s₁=>r = none /\ Rn s₁ ∨ ∃ v, r = some v /\ wpAny M A (letOwnedTupleGo tg it v) (fun _ s₁=>HC M A elt tg ifs acc env E K v s₁) E s₁) E s
section
variable {prog : Program} {w : World} {A : Around} {R : Result -> Shared -> Prop} {s : Shared}
theorem Ug {elt target iter : Expr} {ifs : List Expr} {scope : Scope} {pos : Pos} {it acc : Value} {env : Env} {E : Value -> Shared -> Prop} (I : Nat -> Shared -> Prop) (hE : (notedBy (model prog w) A env fun e s'=>R (.error e) s') = E)
    (turn : ∀ n s, I n s -> Lg (model prog w) A elt target ifs it acc env E (fun s=>R (.ok .next) s) (fun s=>∃ m, m < n /\ I m s) s) (n : Nat) (h : I n s) :
    codeAny (model prog w) A (.compLoop (.ListComp elt [⟨target, iter, ifs, 0⟩] scope pos) 0 it acc env) R s:=by
  subst hE
  refine codeAny_loop rfl I (fun n s hI=>?_) n h
  show wpAny _ A ((compTurn (.ListComp elt [⟨target, iter, ifs, 0⟩] scope pos) 0 it acc env).onRaise (fun x=>do noteFrame x env; theTreesLotGoes x)) _ _ s
  refine wpAny_noted ?_
  rw [compTurn_list]
  refine wpAny_bind (wpAny_standAt (wpAny_bind (thn (turn n s hI) fun r s₁ h₁=>?_)))
  rcases h₁ with ⟨rfl, h₁⟩ | ⟨v, rfl, h₁⟩
  . exact wpAny_pure h₁
  . refine wpAny_bind (thn h₁ fun _ s₁' h₁' => wpAny_bind (thn h₁' fun _ s₂ h₂ => wpAny_bind (thn h₂ fun ok s₃ h₃ => ?_)))
    cases ok with
    | false=>exact wpAny_pure ⟨rfl, h₃⟩
    | true=>exact wpAny_bind (wpAny_bind (thn h₃ fun x s₄ h₄=>wpAny_bind (thn h₄ fun _ s₅ h₅=>wpAny_pure (wpAny_pure ⟨rfl, h₅⟩))))
end
noncomputable def lob (its : List Value) (k : Nat) : Obj:={ cls:=.type "list", data:=.seq (List.toArray its) k }
structure CIn (Y : Cx) (tn : Nat -> Heap -> Prop) (fp : List Addr) (D : Addr) (σ : St) (i : Nat) (H : Hp) (o : Obj) (s : Shared) : Prop where
  I : Inv Y [] σ H s
  t : tn i s.heap
  f : ∀ b ∈ fp, H b = none
  l : s.heap.get? D = some o
  n : H D = none
inductive CI (Y : Cx) (tn : Nat -> Heap -> Prop) (fp : List Addr) (D : Addr) (σ : St) (W : Nat -> Nat -> List V -> Hp -> Prop) (m : Nat) (s : Shared) : Prop
  | mk (i : Nat) (H : Hp) (ys : List V) (its : List Value) (k : Nat) (c : CIn Y tn fp D σ i H (lob its k) s) (r : X5 ys its) (w : W i m ys H)
structure CAt (Y : Cx) (fp : List Addr) (D : Addr) : Prop where
  calm : Y.calm = true
  pn : Y.pn = []
  ne : D ≠ Y.env.locals
  fs : D ∉ Y.fs
  sz : Y.s₀.heap.objs.size <= D
  cl : ∀ x c, Y.env.cells.lookup x = some c -> c ≠ D
  fpn : ∀ b ∈ fp, b ≠ D
  ok : ∀ b ∈ fp, ∀ H : Hp, H b = none -> Gr Y [] H b
section
variable {Y : Cx} {tn : Nat -> Heap -> Prop} {fp : List Addr} {D it : Addr} {σ : St} {tg elt iter : Expr} {ifs : List Expr} {J : It} {g : TG} {tt : TT} {te : TE} {n i : Nat} {H : Hp} {s : Shared} {o : Obj} {Kn : Shared -> Prop}
theorem CAt.pins (c : CAt Y fp D) (hn : ∀ b ∈ fp, H b = none) : ∀ b ∈ fp, Gr Y [(D, o)] H b:=fun b hb=>
  have z:=c.ok b hb H (hn b hb)
  ⟨z.1, z.2.1, z.2.2.1, z.2.2.2.1, z.2.2.2.2.1, fun p hp e=>by
    rw [c.pn] at hp
    cases List.mem_singleton.mp hp
    exact c.fpn b hb e.symm⟩
theorem KU (T : Turn Y.prog Y.w Y.K tg J fp it tn) {h5 : Heap} (t : tn i h5) (I : Inv Y ([(D, o)] ++ Up fp h5) σ H s) : CIn Y tn fp D σ i H o s:=
  have p:=I.pin (D, o) (List.mem_append_right _ (.head _))
  have q : ∀ b ∈ fp, ∀ o', h5.get? b = some o' -> s.heap.get? b = some o' /\ H b = none:=fun b hb o' e=>have z:=I.pin (b, o') (List.mem_append_right _ (.tail _ (QN hb e))); ⟨z.1, z.2.1⟩
  ⟨I.pins_of (pins':=[]) fun _ h=>Ky h, T.keep _ _ _ t fun b hb o' e=>(q b hb o' e).1, fun b hb=>(T.obj _ _ t b hb).elim fun o' e=>(q b hb o' e.1).2, p.1, p.2.1⟩
theorem LJ (T : Turn Y.prog Y.w Y.K tg J fp it tn) (a : CAt Y fp D) {its : List Value} {k : Nat} {v : Value} {E : Value -> Shared -> Prop} (c : CIn Y tn fp D σ i H (lob its k) s) (hz : its.length <= sizeLine)
    (hQ : ∀ k' s', CIn Y tn fp D σ i H (lob (its ++ [v]) k') s' -> Kn s') : wpAny (model Y.prog Y.w) Y.A (call (.builtin "list.append") [.ref D, v]) (fun _ s=>Kn s) E s:=by
  refine call_meets F.slot_list_append ⟨_, c.l, rfl⟩ F.entry_list_append (F.args_list_append_2 _ _) (PySem.list_append D (List.toArray its) k v hz) ⟨c.l, ?_⟩
  have q : ∃ k', PySem.IsL (s.heap.update D (Obj.mapSeq (·.push v))) D ((List.toArray its).push v) k':=⟨_, PySem.IsL.update c.l (·.push v)⟩
  rw [List.push_toArray] at q
  obtain ⟨k', q⟩:=q
  exact hQ k' _ ⟨c.I.turned (t':=s.toks) (h':=s.heap.update D (Obj.mapSeq (·.push v))) (it:=D) (fun b o hb' e=>(Heap.get?_update_other s.heap _ (Ne.symm hb')).trans e) c.n a.ne (.inr a.sz) a.cl (fun p hp=>by rw [a.pn] at hp; exact Ky hp),
    T.keep _ _ _ c.t fun b hb o e=>(Heap.get?_update_other s.heap _ (Ne.symm (a.fpn b hb))).trans e, c.f, q, c.n⟩
theorem Bs {acc : Value} {pins : List (Addr × Obj)} {N : List V -> Hp -> Prop} {ys : List V} {x : V} {u : Value} (hg : PG Y tg g) (ht : PTs Y ifs tt) (he : PE Y elt te) (hG : UO n g) (h0 : ∀ (j : Nat) v, σ[j]? = some (some v) -> n <= j)
    (I : Inv Y pins σ H s) (r : X4 x u) (st : g x σ H fun σ4 H4=>tt σ4 H4 fun c H5=>if c = true then te σ4 H5 fun v H6=>N (ys ++ [v]) H6 else N ys H5)
    (hF : ∀ H7 s7, Inv Y pins σ H7 s7 -> N ys H7 -> Kn s7) (hT : ∀ H8 s8 y v, Inv Y pins σ H8 s8 -> X4 y v -> N (ys ++ [y]) H8 -> wpAny (model Y.prog Y.w) Y.A (call (.builtin "list.append") [acc, v]) (fun _ s=>Kn s) Y.xe s8) :
    HC (model Y.prog Y.w) Y.A elt tg ifs acc Y.env Y.xe Kn u s:=by
  refine thn (hg _ s _ H x u _ I r (hG _ _ _ _ st)) fun _ s6 ⟨σ6, H6, I6, q6, l6, k6⟩=>?_
  have wk : ∀ (j : Nat) v, σ[j]? = some (some v) -> σ6[j]? = some (some v):=fun j v e=>(k6 j (h0 j v e)).trans e
  refine thn (ht _ s6 σ6 H6 _ I6 q6) fun c s7 ⟨H7, I7, q7⟩=>?_
  cases c with
  | false=>exact hF _ _ (I7.weak l6.symm wk) q7
  | true=>exact thn (he _ s7 σ6 H7 _ I7 q7) fun v8 s8 ⟨y8, H8, I8, r8, n8⟩=>hT _ _ _ _ (I8.weak l6.symm wk) r8 n8
theorem GK {scope : Scope} {pos : Pos} {Q : V -> Hp -> Prop} {R : Result -> Shared -> Prop} (hE : (notedBy (model Y.prog Y.w) Y.A Y.env fun e s'=>R (.error e) s') = Y.xe)
    (T : Turn Y.prog Y.w Y.K tg J fp it tn) (hG : UO n g) (hg : PG Y tg g) (ht : PTs Y ifs tt) (he : PE Y elt te) (a : CAt Y fp D) (h0 : ∀ (j : Nat) v, σ[j]? = some (some v) -> n <= j)
    {W : Nat -> Nat -> List V -> Hp -> Prop} (turn : BV g tt te σ Q J W)
    (hEnd : ∀ ys its k H3 s4, Inv Y [(D, lob its k)] σ H3 s4 -> X5 ys its -> ys.length <= sizeLine -> Q (.ref D) (upd H3 D (.lst ys)) -> R (.ok .next) s4) {m0 : Nat} (hi : CI Y tn fp D σ W m0 s) :
    codeAny (model Y.prog Y.w) Y.A (.compLoop (.ListComp elt [⟨tg, iter, ifs, 0⟩] scope pos) 0 (.ref it) (.ref D) Y.env) R s:=by
  refine Ug (CI Y tn fp D σ W) hE (fun m s3 c=>?_) m0 hi
  cases c with
  | mk i H3 ys its k c rv w3=>
  have I3 : Inv Y [(D, lob its k)] σ H3 s3:=c.I.pins_of fun p hp=>List.mem_singleton.mp hp ▸ ⟨c.l, c.n, a.ne, a.fs, fun _ z=>by cases z⟩
  have t:=turn i m ys H3 w3
  refine t.2.elim (fun q=>?_) fun q=>?_
  . exact thn (T.done Y rfl rfl rfl a.calm i _ s3 _ H3 Y.xe I3 (a.pins c.f) c.t q.1) fun r s4 h=>.inl ⟨h.1, hEnd ys its k H3 s4 h.2 rv t.1 (q.2 D c.n)⟩
  . refine q.2.elim fun NN h => ?_
    refine thn (T.item Y rfl rfl rfl a.calm i _ s3 _ H3 Y.xe I3 (a.pins c.f) c.t q.1) fun r s4 h4=>.inr (h4.elim fun u h4=>⟨u, h4.1, thn h4.2 fun _ s5 h5=>h5.elim fun x h5=>h5.elim fun H5 h5=>?_⟩)
    exact Bs hg ht he hG h0 (h5.1.pinned (a.pins h5.2.2.2.2) (T.obj _ _ h5.2.2.2.1)) h5.2.1 (h.2 x H5 h5.2.2.1)
      (fun H7 s7 I7 q7=>(h.1 _ _ q7).elim fun m' z=>⟨m', z.1, .mk (i + 1) H7 ys its k (KU T h5.2.2.2.1 I7) rv z.2⟩)
      fun H8 s8 y v I8 r8 q8=>(h.1 _ _ q8).elim fun m' z=>LJ T a (KU T h5.2.2.2.1 I8) (rv.length ▸ t.1) fun k' s' c'=>⟨m', z.1, .mk (i + 1) H8 (ys ++ [y]) (its ++ [v]) k' c' (rv.append (.cons r8 .nil)) z.2⟩
end
section
variable {X : Cx} {elt tg iter : Expr} {ifs : List Expr} {scope sc : Scope} {pos : Pos} {n : Nat} {tns : List Str} {caps : List (Nat × Str)} {wi : TI} {g : TG} {tt : TT} {te : TE}
structure CompEnd (X : Cx) (pins : List (Addr × Obj)) (σ : St) (H3 : Hp) (D C : Addr) (ys : List V) (s' : Shared) : Prop where
  inv : Inv X pins σ (upd H3 D (.lst ys)) s'
  fresh : H3 D = none
  fp : Gr X pins (upd H3 D (.lst ys)) C
  ns : ∃ m, s'.heap.Ns C m
theorem Bq {pins : List (Addr × Obj)} {σ σ' : St} {H H3 : Hp} {s s4 : Shared} {D C : Addr} {fp : List Addr} {its : List Value} {k : Nat} {ys : List V} {Y : Cx} (I : Inv X pins σ H s) (hf : ∀ b ∈ fp, Gr X pins H b) (hD : s.heap.objs.size <= D) (hDlt : D < C)
    (I4 : Inv Y [(D, lob its k)] σ' H3 s4) (hos : s4.os = s.os) (u : Un (frs X.stack) fp H H3 s.heap s4.heap) (hok : HOk X.prog X.w H3 s4.heap) (hC : Y.env.locals = C) (rv : X5 ys its) (hz : ys.length <= sizeLine) : CompEnd X pins σ H3 D C ys s4:=by
  subst hC
  have p:=I4.pin (D, lob its k) (List.mem_append_right _ (.head _))
  have hDn : H3 D = none:=p.2.1
  have up : ∀ {b : Addr} {o : HO}, H3 b = some o -> upd H3 D (.lst ys) b = some o:=fun e=>(XT (Yi e hDn)).trans e
  refine ⟨I.call' (ch:=fp) hos ⟨u.keep, u.slot, fun b o e nn hx=>(XT (Nat.ne_of_lt (Nat.lt_of_lt_of_le (Heap.lt_size e) hD))).trans (u.free b o e nn hx), u.there, fun b xs e=>up (u.tups b xs e), fun b o xs e=>up (u.frzs b o xs e), fun b ps e=>(u.tbls b ps e).elim fun more z=>⟨more, up z⟩⟩ (fun a o e=>?_) I4.bare fun b hb=>have z:=hf b hb; ⟨z.2.2.2.1, z.2.1, z.2.2.2.2.1, z.2.2.2.2.2⟩, hDn, I.fpOk (Nat.le_trans hD (Nat.le_of_lt hDlt)) ((XT (Nat.ne_of_gt hDlt)).trans I4.free), I4.loc.elim fun m z=>⟨m, z.1⟩⟩
  by_cases ha : a = D
  . subst ha
    rw [Yb] at e; cases e
    exact ⟨hz, its, k, rv, p.1⟩
  . rw [XT ha] at e
    exact (hok a o e).stay (fun b u _ q=>q) (fun b q=>up q) fun b xs q=>up q
noncomputable def LG (X : Cx) (elt tg iter : Expr) (ifs : List Expr) (scope : Scope) (pos : Pos) (it : Value) (cl : List (Str × Addr)) (RR : Value -> Addr -> Result -> Shared -> Prop) (E : Value -> Shared -> Prop) (s : Shared) : Prop:=
  wpAny (model X.prog X.w) X.A (newList []) (fun acc s₃=>wpAny (model X.prog X.w) X.A (newFunctionEnv scope X.env.globals cl [] X.env.qual none .none (some X.env)) (fun cenv s₄=>
      codeAny (model X.prog X.w) X.A (.compStart (.ListComp elt [⟨tg, iter, ifs, 0⟩] scope pos) 0 it acc { cenv with scope:=relabel scope X.env }) (RR acc cenv.locals) s₄) E s₃) E s
theorem Ur {σ : St} {i : Nat} {v : V} (e : (QG n caps σ)[i]? = some (some v)) : n <= i /\ ∃ p, caps[i - n]? = some p /\ σ[p.1]? = some (some v):=by
  unfold QG at e
  by_cases h : i < n
  . rw [List.getElem?_append_left (by simpa using h), List.getElem?_replicate, if_pos h] at e
    cases e
  . have hi := Nat.le_of_not_lt h
    rw [List.getElem?_append_right (by simpa using hi), List.length_replicate, List.getElem?_map] at e
    refine ⟨hi, ?_⟩
    cases hcp : caps[i - n]? with
    | none=>rw [hcp] at e; cases e
    | some p=>
      rw [hcp] at e
      exact ⟨p, rfl, Option.join_eq_some_iff.mp (Option.some.inj e)⟩
structure COk (X : Cx) (scope : Scope) (caps : List (Nat × Str)) : Prop where
  kind : scope.kind = .function
  cell : ∀ y ∈ scope.names, y.2 ≠ NameKind.cell
  loc : ∀ y ∈ scope.names, y.2 = .local -> scope.names.lookup y.1 = some .local
  free : ∀ y ∈ scope.names, y.2 = .free -> X.env.scope.names.lookup y.1 = some .cell
  caps : ∀ p ∈ caps, (X.N[p.1]? = some p.2 /\ X.env.scope.names.lookup p.2 = some .cell) /\ scope.names.lookup p.2 = some .free
theorem COk.of {N0 : List Str} (hsc : X.env.scope = sc) (hN0 : X.N = N0) (ok : V9 sc scope N0 tns caps = true) : COk X scope caps:=by
  subst hsc
  subst hN0
  unfold V9 at ok
  simp only [Bool.and_eq_true, List.all_eq_true, beq_iff_eq, Bool.or_eq_true, Bool.not_eq_true', beq_eq_false_iff_ne] at ok
  exact ⟨ok.1.1.1.1, ok.1.1.1.2, fun y hy e=>(ok.1.1.2 y hy).resolve_left (absurd e), fun y hy e=>(ok.1.2 y hy).resolve_left (absurd e), ok.2⟩
section
variable {pins : List (Addr × Obj)} {σ : St} {H : Hp} {s : Shared} {fp : List Addr} {cl : List (Str × Addr)} {C : Addr} {E : Value -> Shared -> Prop} {N : List Str} {h₁ : Heap}
theorem BO (ok : COk X scope caps) (I : Inv X pins σ H s) (hf : ∀ b ∈ fp, Gr X pins H b) (hlt : ∀ b ∈ fp, b < s.heap.objs.size)
    (hsub : ∀ x c, cl.lookup x = some c -> X.env.cells.lookup x = some c) (hall : ∀ x, (x, NameKind.free) ∈ scope.names -> ∃ c, cl.lookup x = some c) (hC : s.heap.objs.size < C) : (X.comp N scope cl C s H fp E).Ok:=
  ⟨I.ok.mod, ok.kind, I.ok.glob, I.ok.blt, Nat.le_of_lt hC, fun x y c h1 h2=>I.ok.inj x y c (hsub x c h1) (hsub y c h2), fun x hx=>hall x (hx.elim (fun z=>Qp ok.cell z (.inl rfl)) fun z=>Qp ok.cell z (.inr rfl)), (fun x c hx=>by cases hx), I.ok.hd, I.ok.frames, .inl rfl,
    fun b hb=>⟨Nat.ne_of_lt (Nat.lt_trans (hlt b hb) hC), fun x c e=>(hf b hb).2.2.2.2.1 x c (hsub x c e)⟩, I.bs, Nat.le_trans I.ok.bsz I.sz, fun b o e hb=>(hf b hb).2.2.2.1.elim (I.ok.noex b o e) fun z=>absurd (Nat.lt_of_lt_of_le (Heap.lt_size e) (Nat.le_trans I.ok.bsz z)) (Nat.lt_irrefl _),
    fun b hb hz=>(List.mem_cons.mp (I.stkSub b hz)).elim (hf b hb).2.1 (hf b hb).2.2.1, I.stack, I.stkFree⟩
theorem Cj (okc : COk X scope caps) (hn : tns.length = n) (ok : (X.comp (tns ++ caps.map (·.2)) scope cl C s H fp E).Ok) (I : Inv X pins σ H s)
    (hsub : ∀ x c, cl.lookup x = some c -> X.env.cells.lookup x = some c) (hall : ∀ x, (x, NameKind.free) ∈ scope.names -> ∃ c, cl.lookup x = some c) (hC : s.heap.objs.size < C) (hns : h₁.Ns C fun _=>none) (old : ∀ b o, s.heap.get? b = some o -> h₁.get? b = some o) {tk : Nat} :
    Inv (X.comp (tns ++ caps.map (·.2)) scope cl C s H fp E) [] (QG n caps σ) H { s with heap:=h₁, toks:=tk }:=by
  refine ⟨ok, rfl, I.bare, Un.kept old, ⟨_, hns, fun i x v e1 e2 _=>?_⟩, fun x c e=>(I.cell x c (hsub x c e)).elim fun v z=>z.elim fun o z=>⟨v, o, old _ _ z.1, z.2⟩, I.hok.fresh (Nat.le_of_lt hC), fun x c e=>I.freeC x c (hsub x c e), fun p hp=>Ky (α:=Addr × Obj) hp, I.hok.kept old, by simp [QG, hn]⟩
  obtain ⟨hi, p, hp, hσ⟩:=Ur e2
  have e1' : (tns ++ caps.map (·.2))[i]? = some x:=e1
  rw [List.getElem?_append_right (hn ▸ hi), hn, List.getElem?_map, hp] at e1'
  cases Option.some.inj e1'
  have p5:=okc.caps p (List.mem_of_getElem? hp)
  obtain ⟨m, hm, hl⟩:=I.loc
  obtain ⟨u, r, l⟩:=hl p.1 p.2 v p5.1.1 hσ (.inr (.inl p5.1.2))
  refine ⟨u, r, .inr ?_⟩
  rcases l with ⟨k, _⟩ | ⟨k, c, e, z⟩
  . cases p5.1.2.symm.trans k
  . obtain ⟨c', e'⟩ := hall p.2 (PySem.mem_of_lookup p5.2)
    cases e.symm.trans (hsub _ _ e')
    exact ⟨Q3 (env:=X.env) p5.2, c, e', z.elim fun o z=>⟨o, old _ _ z.1, z.2⟩⟩
variable {J : It} {it : Addr} {tn : Nat -> Heap -> Prop} {Q : V -> Hp -> Prop} {RR : Value -> Addr -> Result -> Shared -> Prop} {W : Nat -> Nat -> List V -> Hp -> Prop} {m0 : Nat}
theorem Ei (ok : COk X scope caps) (hc : X.calm = true) (hn : tns.length = n) (hG : UO n g)
    (hb : ∀ cl C s H ex E, PG (X.comp (tns ++ caps.map (·.2)) scope cl C s H ex E) tg g /\ PTs (X.comp (tns ++ caps.map (·.2)) scope cl C s H ex E) ifs tt /\ PE (X.comp (tns ++ caps.map (·.2)) scope cl C s H ex E) elt te)
    (I : Inv X pins σ H s) (T : Turn X.prog X.w X.K tg J fp it tn) (t0 : tn 0 s.heap) (hf : ∀ b ∈ fp, Gr X pins H b)
    (hsub : ∀ x c, cl.lookup x = some c -> X.env.cells.lookup x = some c) (hall : ∀ x, (x, NameKind.free) ∈ scope.names -> ∃ c, cl.lookup x = some c)
    (w0 : W 0 m0 [] H) (turn : BV g tt te (QG n caps σ) Q J W)
    (hRR : ∀ D C ys H3 s', CompEnd X pins σ H3 D C ys s' -> Q (.ref D) (upd H3 D (.lst ys)) -> RR (.ref D) C (.ok .next) s')
    (hC : s.heap.objs.size < C) (hns : h₁.Ns C fun _=>none) (old : ∀ b o, s.heap.get? b = some o -> h₁.get? b = some o) (hacc : h₁.get? s.heap.objs.size = some (lob [] 0)) {tk : Nat} :
    codeAny (model X.prog X.w) X.A (.compStart (.ListComp elt [⟨tg, iter, ifs, 0⟩] scope pos) 0 (.ref it) (.ref s.heap.objs.size) (compEnvC scope cl C X.env)) (RR (.ref s.heap.objs.size) C) { s with heap:=h₁, toks:=tk }:=by
  have hlt : ∀ b ∈ fp, b < s.heap.objs.size:=fun b hb=>(T.obj _ _ t0 b hb).elim fun o e=>Heap.lt_size e.1
  have okY : ∀ E, (X.comp (tns ++ caps.map (·.2)) scope cl C s H fp E).Ok:=fun E=>BO ok I hf hlt hsub hall hC
  have t1 : tn 0 h₁:=T.keep _ _ _ t0 fun b _ o e=>old b o e
  have loop : ∀ tk, codeAny (model X.prog X.w) X.A (.compLoop (.ListComp elt [⟨tg, iter, ifs, 0⟩] scope pos) 0 (.ref it) (.ref s.heap.objs.size) (compEnvC scope cl C X.env)) (RR (.ref s.heap.objs.size) C) { s with heap:=h₁, toks:=tk }:=fun tk=>
    have z:=hb cl C s H fp (notedBy (model X.prog X.w) X.A (compEnvC scope cl C X.env) fun e s'=>RR (.ref s.heap.objs.size) C (.error e) s')
    GK (Y:=X.comp (tns ++ caps.map (·.2)) scope cl C s H fp _) rfl T hG z.1 z.2.1 z.2.2
      ⟨hc, rfl, Nat.ne_of_lt hC, fun hz=>(I.stack.mem hz).2.elim fun o ho=>absurd (Heap.lt_size ho.1) (Nat.lt_irrefl _), Nat.le_refl _, fun x c e=>(I.cell x c (hsub x c e)).elim fun v z=>Nat.ne_of_lt z.lt, fun b hb=>Nat.ne_of_lt (hlt b hb),
        fun b hb H' h'=>⟨h', Nat.ne_of_lt (Nat.lt_trans (hlt b hb) hC), (okY fun _ _=>True).exfs b hb, .inl hb, fun x c e=>(hf b hb).2.2.2.2.1 x c (hsub x c e), fun p hp=>Ky (α:=Addr × Obj) hp⟩⟩
      (fun j v e=>(Ur e).1) turn (fun ys its k H3 s4 I4 rv hz q=>hRR _ C ys H3 s4 (Bq I hf (Nat.le_refl _) hC I4 I4.os I4.base I4.hok rfl rv hz) q)
      (.mk 0 H [] [] 0 ⟨Cj ok hn (okY _) I hsub hall hC hns old, t1, fun b hb=>(hf b hb).1, hacc, I.hok.fresh (Nat.le_refl _)⟩ .nil w0)
  exact codeAny_compStart_list (loop _) (T.self _ 0 _ _ _ t1 (loop _))
theorem Vm (ok : COk X scope caps) (hc : X.calm = true) (hn : tns.length = n) (hG : UO n g)
    (hb : ∀ cl C s H ex E, PG (X.comp (tns ++ caps.map (·.2)) scope cl C s H ex E) tg g /\ PTs (X.comp (tns ++ caps.map (·.2)) scope cl C s H ex E) ifs tt /\ PE (X.comp (tns ++ caps.map (·.2)) scope cl C s H ex E) elt te)
    {itv : Value} (h : PIE X pins σ tg (fun J H1=>By n caps g tt te σ Q J H1) itv s)
    (hsub : ∀ x c, cl.lookup x = some c -> X.env.cells.lookup x = some c) (hall : ∀ x, (x, NameKind.free) ∈ scope.names -> ∃ c, cl.lookup x = some c)
    (hRR : ∀ D C ys H3 s', CompEnd X pins σ H3 D C ys s' -> Q (.ref D) (upd H3 D (.lst ys)) -> RR (.ref D) C (.ok .next) s') :
    LG X elt tg iter ifs scope pos itv cl RR E s:=by
  obtain ⟨it, fp, tn, J, H', rfl, I, T, t0, hf, W, ⟨m0, w0⟩, turn⟩:=h
  refine wpAny_newObj_type (wpAny_newFunctionEnv ok.cell (by intro y hy; simp at hy) (fun h₁ hns₁ hsb₁=>?_) ok.kind)
  have hs : ∀ o, (s.heap.push o).objs.size = s.heap.objs.size + 1:=fun o=>Heap.size_push ..
  exact Ei ok hc hn hG hb I T t0 hf hsub hall w0 turn hRR (Nat.lt_of_lt_of_eq (Nat.lt_succ_self _) (hs _).symm) hns₁
    (fun b o e=>hsb₁.extBut b o (Nat.ne_of_lt (Nat.lt_trans (Heap.lt_size e) (Nat.lt_of_lt_of_eq (Nat.lt_succ_self _) (hs _).symm))) (Heap.get?_push_of_some _ (Heap.get?_push_of_some _ e)))
    (hsb₁.extBut _ _ (Nat.ne_of_lt (Nat.lt_of_lt_of_eq (Nat.lt_succ_self _) (hs _).symm)) (Heap.get?_push_of_some _ (Heap.get?_push_size _ rfl)))
end
theorem BW (sc : Scope) (N0 : List Str) (tns : List Str) (caps : List (Nat × Str)) (hc : X.calm = true) (hi : PI X tg iter wi) (hG : UO tns.length g)
    (hb : ∀ cl C s H ex E, PG (X.comp (tns ++ caps.map (·.2)) scope cl C s H ex E) tg g /\ PTs (X.comp (tns ++ caps.map (·.2)) scope cl C s H ex E) ifs tt /\ PE (X.comp (tns ++ caps.map (·.2)) scope cl C s H ex E) elt te)
    (hsc : X.env.scope = sc:=by rfl) (hN0 : X.N = N0:=by rfl) (ok : V9 sc scope N0 tns caps = true:=by decide +kernel)
    (hs : ∀ x, foldedSetIterable iter X.env x = pure x:=by intro _; rfl) :
    PE X (.ListComp elt [⟨tg, iter, ifs, 0⟩] scope pos) (DQ tns.length caps wi g tt te):=by
  intro pins s σ H Q I h
  have okc:=COk.of hsc hN0 ok
  obtain ⟨cl, ecl, hsub, hall⟩:=FH (scope:=scope) (env:=X.env) fun x hx hfr=>I.ok.has x.1 (.inl (okc.free x hx hfr))
  rw [eval_ListComp]
  exact wpAny_comprehension_free (use:=none) rfl hs ecl okc.kind okc.loc (thn (hi pins s σ H _ I h) fun xv s₁ h₁=>thn h₁ fun itv s₂ h₂=>
    Vm (RR:=fun acc C=>compPost (model X.prog X.w) X.A X.xe none (EP X pins σ Q) acc C) okc hc rfl hG hb h₂ hsub hall fun D C ys H3 s' ce q=>ce.ns.elim fun mm hns=>
      ⟨mm, hns, fun h' hs'=>⟨.ref D, _, ce.inv.turned (t':=s'.toks) (fun b o hb' e=>(hs'.extBut b o hb' e)) ce.fp.1 ce.fp.2.1 ce.fp.2.2.2.1 ce.fp.2.2.2.2.1 ce.fp.2.2.2.2.2, rfl, q⟩⟩)
theorem BN {x : Str} {px spos : Pos} (j : Nat) (sc : Scope) (N0 : List Str) (tns : List Str) (caps : List (Nat × Str)) (hc : X.calm = true) (hN : X.N.Nodup) (hj : X.N[j]? = some x) (hx : X.env.scope.names.lookup x = some .local) (hi : PI X tg iter wi) (hG : UO tns.length g)
    (hb : ∀ cl C s H ex E, PG (X.comp (tns ++ caps.map (·.2)) scope cl C s H ex E) tg g /\ PTs (X.comp (tns ++ caps.map (·.2)) scope cl C s H ex E) ifs tt /\ PE (X.comp (tns ++ caps.map (·.2)) scope cl C s H ex E) elt te)
    (hsc : X.env.scope = sc:=by rfl) (hN0 : X.N = N0:=by rfl) (ok : V9 sc scope N0 tns caps = true:=by decide +kernel)
    (hsw : swapsWith (.ListComp elt [⟨tg, iter, ifs, 0⟩] scope pos) (some (.Name x px)) spos.line X.env = pure true:=by rfl)
    (hs : ∀ x, foldedSetIterable iter X.env x = pure x:=by intro _; rfl) :
    PS X (.Assign [.Name x px] (.ListComp elt [⟨tg, iter, ifs, 0⟩] scope pos) spos) (CS (DQ tns.length caps wi g tt te) (ZV j)):=by
  intro pins s σ H D I h
  have okc:=COk.of hsc hN0 ok
  obtain ⟨cl, ecl, hsub, hall⟩:=FH (scope:=scope) (env:=X.env) fun x hx hfr=>I.ok.has x.1 (.inl (okc.free x hx hfr))
  rw [exec_Assign_Name_used _ _ _ _ hsw]
  refine wpAny_bind (wpAny_standAt (wpAny_bind ?_))
  show wpAny _ _ (do let _ ← comprehension (.ListComp elt [⟨tg, iter, ifs, 0⟩] scope pos) scope X.env _ (newList []) false (eval iter X.env) (some (assign (.Name x px) X.env))) _ _ s
  refine wpAny_bind (thn (wpAny_comprehension_free (use:=some (assign (.Name x px) X.env)) (Q:=fun _ s'=>SP X pins D .next s') rfl hs ecl okc.kind okc.loc
    (thn (hi pins s σ H _ I h) fun xv s₁ h₁=>thn h₁ fun itv s₂ h₂=>?_)) fun _ s' hq=>wpAny_pure (wpAny_pure hq))
  refine Vm (Q:=fun v H1=>ZV j v σ H1 D.nx) (RR:=fun acc C=>compPost (model X.prog X.w) X.A X.xe (some (assign (.Name x px) X.env)) (fun _ s'=>SP X pins D .next s') acc C) okc hc rfl hG hb h₂ hsub hall ?_
  intro DD C ys H3 s' ce q
  obtain ⟨mm, hns⟩:=ce.ns
  obtain ⟨c0, c1, c2, c3, c4, c5⟩:=ce.fp
  show wpAny _ _ (assign (.Name x px) X.env (.ref DD)) _ _ _
  refine wpAny_assign_Name (UM ce.inv hN hj (.inl hx) (v:=.ref DD) rfl (fun s2 I2 chg=>?_) (.inr hx))
  obtain ⟨c, hsb, hcc⟩:=chg
  have hCc : C ≠ c:=by
    rcases hcc with z | z
    . rw [z]; exact c1
    . exact fun e=>c4 x c z e.symm
  refine ⟨mm, ?_, fun h' hs'=>?_⟩
  . obtain ⟨o, es, ep, ho, r⟩ := hns
    exact ⟨o, es, ep, (hsb.2 C hCc).trans ho, r⟩
  . exact ⟨_, _, I2.turned (t':=s2.toks) (fun b o hb' e=>(hs'.extBut b o hb' e)) c0 c1 c3 c4 c5, q⟩
end
section
variable {K : PySem.W.Frag} {a : Addr} {xs : List V} {n : Nat} {caps : List (Nat × Str)} {g : TG} {tt : TT} {te : TE} {σ : St} {H : Hp} {Q : V -> Hp -> Prop}
end
section
variable {X : Cx} {pos : Pos}
noncomputable def Fi (K : PySem.W.Frag) : List V -> Hp -> VK -> Prop:=fun xs H Q=>∃ p ys, xs = [.ref p] /\ (SqL K H p ys ∨ SqT K H p ys) /\ ∀ l, H l = none -> Q (.ref l) (upd H l (.lst ys))
noncomputable def KA (K : PySem.W.Frag) : List V -> Hp -> VK -> Prop:=fun xs H Q=>∃ p ys, xs = [.ref p] /\ (SqL K H p ys ∨ SqT K H p ys) /\ Q (.int ys.length) H
theorem Zc (K : PySem.W.Frag) (h : X.K = K) : Zk X (.type "list") (Fi K):=by subst h; exact UB
theorem Xi (K : PySem.W.Frag) (h : X.K = K) : Zk X (.builtin "len") (KA K):=by subst h; exact Uq
theorem Xl (K : PySem.W.Frag) (h : X.K = K) : IxR X (HL K):=by subst h; exact EG
theorem Zw (K : PySem.W.Frag) (h : X.K = K) : IxR X (E9 K):=by subst h; exact Hr
theorem Zq (K : PySem.W.Frag) (h : X.K = K) : SlR X (IE K):=by subst h; exact E6
end
end L2
namespace L2
open PySem PySem.Spec PyProof.Rows
structure Fn (P : Program) (w : World) (K : PySem.W.Frag) (mg : Str -> Option Value) (base : Heap) (k : Nat) (x : Str) (ps : List Str) (sp : Sp) : Prop where
  ex : ∃ f fd, FnOk P w K mg base CX0 k f fd ps sp /\ Kj K fd ps [] /\ PySem.W.keepIn K (.ref f) = true /\ mg x = some (.ref f)
section
variable {X : Cx} {k j : Nat} {x : Str} {ps : List Str} {sp : Sp} {e : Expr} {es : List Expr} {t : TA} {p pos : Pos}
theorem X2 (G : Fn X.prog X.w X.K X.mg X.base k x ps sp) (hr : Room j X.A) (hj : k <= j) (ha : PA X (e :: es) t) (hg : Gl X x:=by rfl) (hdb : (x == ("__debug__" : Str)) = false:=by decide)
    (he : starEach (e :: es) X.env = (false, eval e X.env) :: starEach es X.env:=by rfl) (hpl : (backTo pos (starEach es X.env)).any (·.1) = false:=by rfl) :
    PE X (.Call (.Name x p) (e :: es) [] pos) (GQ sp [] E0 t):=by
  obtain ⟨f, fd, F, b, kp, m⟩:=G.ex
  exact Em F (hr.mono hj) hg m kp b .nil IV ha hdb he hpl
end
noncomputable def Def (K : PySem.W.Frag) (mg : Str -> Option Value) (x : Str) (st : Stmt) (ps : List Str) : Prop:=∃ f fd, Fun K x x st f fd /\ Kj K fd ps [] /\ mg x = some (.ref f)
theorem YG {P : Program} {w : World} {K : PySem.W.Frag} {mg : Str -> Option Value} {base : Heap} {x : Str} {st : Stmt} {N ps : List Str} {k : Nat} {sp : Sp} (D : Def K mg x st ps) (S : FnScope N ps (Xk st)) (len : ∀ vs H Q E, sp vs H Q E -> vs.length = ps.length)
    (hbody : ∀ (f : Addr) (cdv : Value) (A : Around) (outer : List Env) (s : Shared) (H : Hp) (vs : List V) (Q : VK) (E : XK), Room k (A.deeper (envOfC x (Xk st) s.heap.objs.size f cdv)) -> sp vs H Q E ->
      ∃ t, PSs (Ew CX0 P w K mg base N x (Xk st) f cdv A outer s H E).nox (Yy st) t /\ t { nx:=fun _ H'=>Q .non H', rt:=Q } (VY N vs) H) : Fn P w K mg base (k + 1) x ps sp:=by
  obtain ⟨f, fd, F, b, m⟩:=D
  exact ⟨f, fd, F.ok S len (hbody f), b, F.kp, m⟩
theorem Be {a d c : Nat} (h : d <= 8) (hu : a + 8 < c) : a + d < c:=by omega
theorem XF {H : Hp} {p : Addr} (h : H p = none) (o : HO) : Xx H (upd H p o):=fun b u q=>by rw [XT (Yi q h)]; exact q
theorem Xx.own {H H2 : Hp} {p : Addr} (s : Xx H H2) (h : H p = none) (o : HO) : Xx H (upd H2 p o):=fun b u q=>by rw [XT (Yi q h)]; exact s b u q
theorem Xx.new {H H2 : Hp} {p : Addr} (s : Xx H H2) (h : H2 p = none) (o : HO) : Xx H (upd H2 p o):=s.trans (XF h o)
theorem Xx.seqT {K : PySem.W.Frag} {H H' : Hp} {a : Addr} {xs : List V} (e : Xx H H') (h : SqT K H a xs) : SqT K H' a xs:=by
  rcases h with (h | ⟨o, h⟩) | h
  . exact .inl (.inl (e _ _ h))
  . exact .inl (.inr ⟨o, e _ _ h⟩)
  . exact .inr h
theorem hu8 {A : Around} {k : Nat} (hr : Room k A) : A.units + 8 < cLine:=Nat.lt_of_le_of_lt (Nat.add_le_add_left (by decide : 8 <= 64) _) hr.units
noncomputable abbrev Enc (α : Type):=PySem.W.Frag -> Hp -> V -> α -> Prop
noncomputable def Xa : Enc Int:=fun _ _ v i=>v = .int i
noncomputable def rL {α : Type} (r : Enc α) : Enc (List α):=fun K H v as=>∃ a xs, v = .ref a /\ SqL K H a xs /\ Paired (r K H) xs as
theorem Paired.getL {α β : Type} {F : α -> β -> Prop} : ∀ {l : List α} {m : List β} {i : Nat} {a : α}, Paired F l m -> l[i]? = some a -> ∃ b, m[i]? = some b /\ F a b
  | _, _, _, _, .nil, e=>by simp at e
  | _, _, 0, _, .cons r _, e=>by simp at e; subst e; exact ⟨_, rfl, r⟩
  | _, _, i + 1, a, .cons _ t, e=>by
    obtain ⟨b, h1, h2⟩:=Paired.getL (i:=i) (a:=a) t (by simpa using e)
    exact ⟨b, by simpa using h1, h2⟩
theorem Paired.getR {α β : Type} {F : α -> β -> Prop} : ∀ {l : List α} {m : List β} {i : Nat} {b : β}, Paired F l m -> m[i]? = some b -> ∃ a, l[i]? = some a /\ F a b
  | _, _, _, _, .nil, e=>by simp at e
  | _, _, 0, _, .cons r _, e=>by simp at e; subst e; exact ⟨_, rfl, r⟩
  | _, _, i + 1, b, .cons _ t, e=>by
    obtain ⟨a, h1, h2⟩:=Paired.getR (i:=i) (b:=b) t (by simpa using e)
    exact ⟨a, by simpa using h1, h2⟩
theorem Paired.len {α β : Type} {F : α -> β -> Prop} {l : List α} {m : List β} (h : Paired F l m) : l.length = m.length:=Paired.length h
theorem Paired.app {α β : Type} {F : α -> β -> Prop} : ∀ {l l' : List α} {m m' : List β}, Paired F l m -> Paired F l' m' -> Paired F (l ++ l') (m ++ m')
  | _, _, _, _, .nil, h=>h
  | _, _, _, _, .cons r t, h=>.cons r (Paired.app t h)
theorem UX (ns : List Int) : ∀ {K : PySem.W.Frag} {H : Hp}, Paired (Xa K H) (ns.map V.int) ns:=by
  intro K H
  induction ns with
  | nil=>exact .nil
  | cons n r ih=>exact .cons rfl ih
structure EqOk {α : Type} [DecidableEq α] (r : Enc α) (d : Nat) : Prop where
  uniq : ∀ {X : Cx} {pins : List (Addr × Obj)} {σ : St} {H : Hp} {s : Shared} {x : V} {a b : α}, Inv X pins σ H s -> r X.K H x a -> r X.K H x b -> a = b
  eq : ∀ {X : Cx} {pins : List (Addr × Obj)} {σ : St} {H : Hp} {s : Shared} {x y : V} {v u : Value} {a b : α} {A : Around}, Inv X pins σ H s -> X4 x v -> X4 y u -> r X.K H x a -> r X.K H y b -> A.units + d < cLine -> SeqAt.EqAt A s v u (decide (a = b))
  rc : ∀ {X : Cx} {pins : List (Addr × Obj)} {σ : St} {H : Hp} {s : Shared} {x y : V} {v u : Value} {a b : α} {A : Around}, Inv X pins σ H s -> X4 x v -> X4 y u -> r X.K H x a -> r X.K H y b -> A.units + d < cLine -> SeqAt.RcAt A s v u (decide (a = b))
  ne : ∀ {X : Cx} {pins : List (Addr × Obj)} {σ : St} {H : Hp} {s : Shared} {x y : V} {v u : Value} {a b : α} {A : Around}, Inv X pins σ H s -> X4 x v -> X4 y u -> r X.K H x a -> r X.K H y b -> A.units + d < cLine -> SeqAt.RcNeAt A s v u (!decide (a = b))
  keep : ∀ {K : PySem.W.Frag} {H H' : Hp} {x : V} {a : α}, Xx H H' -> r K H x a -> r K H' x a
theorem EqOk.up {α : Type} [DecidableEq α] {r : Enc α} {d e : Nat} (E : EqOk r d) (h : d <= e) : EqOk r e:=
  ⟨E.uniq, fun I rx ry h1 h2 hu=>E.eq I rx ry h1 h2 (by omega), fun I rx ry h1 h2 hu=>E.rc I rx ry h1 h2 (by omega), fun I rx ry h1 h2 hu=>E.ne I rx ry h1 h2 (by omega), E.keep⟩
theorem ZY (A : Around) : A.in1.units = A.units + 1:=rfl
theorem FI {a b : Int} : (a == b) = decide (a = b):=by rw [Bool.eq_iff_iff]; simp
theorem eq_int : EqOk Xa 0 where
  uniq:=fun _ h1 h2=>by
    have h1' : _ = V.int _:=h1
    have h2' : _ = V.int _:=h2
    rw [h1'] at h2'; injection h2'
  eq:=fun {X pins σ H s x y v u a b A} I rx ry h1 h2 _=>by
    have h1' : x = V.int a:=h1
    have h2' : y = V.int b:=h2
    subst h1' h2'
    obtain ⟨t, rfl⟩:=rx
    obtain ⟨t', rfl⟩:=ry
    rw [← FI]; exact SeqAt.EqAt.int_int a t b t'
  rc:=fun {X pins σ H s x y v u a b A} I rx ry h1 h2 _=>by
    have h1' : x = V.int a:=h1
    have h2' : y = V.int b:=h2
    subst h1' h2'
    obtain ⟨t, rfl⟩:=rx
    obtain ⟨t', rfl⟩:=ry
    rw [← FI]; exact SeqAt.RcAt.int_int a t b t'
  ne:=fun {X pins σ H s x y v u a b A} I rx ry h1 h2 _=>by
    have h1' : x = V.int a:=h1
    have h2' : y = V.int b:=h2
    subst h1' h2'
    obtain ⟨t, rfl⟩:=rx
    obtain ⟨t', rfl⟩:=ry
    rw [← FI]; exact SeqAt.RcNeAt.int_int a t b t'
  keep:=fun _ h=>h
theorem U6 {α : Type} [DecidableEq α] {as bs : List α} (h : as.length = bs.length) : (List.range as.length).all (fun j=>decide (as[j]? = bs[j]?)) = decide (as = bs):=by
  rw [Bool.eq_iff_iff]
  simp only [List.all_eq_true, List.mem_range, decide_eq_true_eq]
  constructor
  . intro hh
    apply List.ext_getElem?
    intro i
    by_cases hi : i < as.length
    . exact hh i hi
    . rw [List.getElem?_eq_none (by omega), List.getElem?_eq_none (by omega)]
  . rintro rfl; intros; rfl
theorem Paired.uniq {α β : Type} {F : α -> β -> Prop} (hu : ∀ a b c, F a b -> F a c -> b = c) : ∀ {l : List α} {m m' : List β}, Paired F l m -> Paired F l m' -> m = m'
  | _, _, _, .nil, .nil=>rfl
  | _, _, _, .cons r t, .cons r' t'=>by rw [hu _ _ _ r r', Paired.uniq hu t t']
theorem Paired.imp2 {α β : Type} {F G : α -> β -> Prop} (h : ∀ a b, F a b -> G a b) : ∀ {l : List α} {m : List β}, Paired F l m -> Paired G l m
  | _, _, .nil=>.nil
  | _, _, .cons r t=>.cons (h _ _ r) (Paired.imp2 h t)
section
variable {α : Type} [DecidableEq α] {r : Enc α} {d : Nat}
theorem Qe (E : EqOk r d) {X : Cx} {pins : List (Addr × Obj)} {σ : St} {H : Hp} {s : Shared} {A : Around} (I : Inv X pins σ H s) (hu : A.units + (d + 1) < cLine) {xs ys : List V} {as bs : List α} {its its2 : List Value}
    (r1 : X5 xs its) (r2 : X5 ys its2) (p1 : Paired (r X.K H) xs as) (p2 : Paired (r X.K H) ys bs) :
    ∀ j (h1 : j < its.toArray.size) (h2 : j < its2.toArray.size), SeqAt.EqAt A.in1 s its.toArray[j] its2.toArray[j] (decide (as[j]? = bs[j]?)):=by
  intro j h1 h2
  have h1' : j < its.length:=by simpa using h1
  have h2' : j < its2.length:=by simpa using h2
  obtain ⟨x, ex, rx⟩:=Paired.getR (i:=j) (b:=its[j]) r1 (by simp [h1'])
  obtain ⟨y, ey, ry⟩:=Paired.getR (i:=j) (b:=its2[j]) r2 (by simp [h2'])
  obtain ⟨a, ea, ra⟩:=Paired.getL p1 ex
  obtain ⟨b, eb, rb⟩:=Paired.getL p2 ey
  have:=E.eq (A:=A.in1) I rx ry ra rb (by rw [ZY]; omega)
  rw [ea, eb]
  simpa using this
theorem B0 (E : EqOk r d) : EqOk (rL r) (d + 1):=by
  have un : ∀ {X : Cx} {pins : List (Addr × Obj)} {σ : St} {H : Hp} {s : Shared} {x : V} {a b : List α}, Inv X pins σ H s -> rL r X.K H x a -> rL r X.K H x b -> a = b:=by
    intro X pins σ H s x as bs I h1 h2
    obtain ⟨a, xs, rfl, q1, p1⟩:=h1
    obtain ⟨b, ys, e, q2, p2⟩:=h2
    cases e
    cases I.list_inj q1 q2
    exact Paired.uniq (F:=r X.K H) (fun _ _ _ z z'=>E.uniq I z z') p1 p2
  have rc : ∀ {X : Cx} {pins : List (Addr × Obj)} {σ : St} {H : Hp} {s : Shared} {x y : V} {v u : Value} {a b : List α} {A : Around}, Inv X pins σ H s -> X4 x v -> X4 y u -> rL r X.K H x a -> rL r X.K H y b -> A.units + (d + 1) < cLine -> SeqAt.RcAt A s v u (decide (a = b)):=by
    intro X pins σ H s x y v u as bs A I rx ry h1 h2 hu
    obtain ⟨a, xs, rfl, q1, p1⟩:=h1
    obtain ⟨b, ys, rfl, q2, p2⟩:=h2
    cases rx; cases ry
    obtain ⟨its, r1, l1, _⟩:=I.list q1
    obtain ⟨its2, r2, l2, _⟩:=I.list q2
    have n1:=r1.length
    have n2:=r2.length
    have m1:=Paired.len p1
    have m2:=Paired.len p2
    by_cases hl : as.length = bs.length
    . have := SeqAt.RcAt.lists (A := A) (e := fun j => decide (as[j]? = bs[j]?)) l1.isList l2.isList (by simp only [List.size_toArray]; omega) (by omega) (Qe E I hu r1 r2 p1 p2)
      rw [show its.toArray.size = as.length by simp only [List.size_toArray]; omega, U6 hl] at this
      exact this
    . rw [decide_eq_false (fun e => hl (congrArg List.length e))]
      exact SeqAt.RcAt.lists_lengths l1.isList l2.isList (by simp only [List.size_toArray, bne_iff_ne]; omega) (by omega)
  refine ⟨un, ?_, rc, ?_, ?_⟩
  . intro X pins σ H s x y v u as bs A I rx ry h1 h2 hu
    obtain ⟨a, xs, rfl, q1, p1⟩:=id h1
    obtain ⟨b, ys, rfl, q2, p2⟩:=id h2
    have R:=rc (A:=A) I rx ry h1 h2 hu
    cases rx; cases ry
    by_cases e : a = b
    . subst e
      rw [decide_eq_true (un I h1 h2)]
      exact SeqAt.EqAt.same _
    . exact SeqAt.EqAt.of_refs e R
  . intro X pins σ H s x y v u as bs A I rx ry h1 h2 hu
    obtain ⟨a, xs, rfl, q1, p1⟩:=h1
    obtain ⟨b, ys, rfl, q2, p2⟩:=h2
    cases rx; cases ry
    obtain ⟨its, r1, l1, _⟩:=I.list q1
    obtain ⟨its2, r2, l2, _⟩:=I.list q2
    have n1:=r1.length
    have n2:=r2.length
    have m1:=Paired.len p1
    have m2:=Paired.len p2
    by_cases hl : as.length = bs.length
    . have := SeqAt.RcNeAt.lists (A := A) (e := fun j => decide (as[j]? = bs[j]?)) l1.isList l2.isList (by simp only [List.size_toArray]; omega) (by omega) (Qe E I hu r1 r2 p1 p2)
      rw [show its.toArray.size = as.length by simp only [List.size_toArray]; omega, U6 hl] at this
      exact this
    . rw [decide_eq_false (fun e => hl (congrArg List.length e))]
      exact SeqAt.RcNeAt.lists_lengths l1.isList l2.isList (by simp only [List.size_toArray, bne_iff_ne]; omega) (by omega)
  . intro K H H' x as e h
    obtain ⟨a, xs, rfl, q1, p1⟩:=h
    exact ⟨a, xs, rfl, e.seq q1, Paired.imp2 (fun _ _ z=>E.keep e z) p1⟩
end
section
variable {α β : Type} [DecidableEq α] [DecidableEq β] {r : Enc α} {q : Enc β} {d : Nat}
end
section
variable {X : Cx} {α : Type} [DecidableEq α] {r : Enc α} {d : Nat}
noncomputable def LA (K : PySem.W.Frag) (r : Enc α) : R2:=fun x y H Q=>∃ a b, r K H x a /\ r K H y b /\ Q (.bl (!decide (a = b))) H
theorem DM (E : EqOk r d) (hu : X.A.units + d < cLine) : OpR X (compareOp .NotEq) (LA X.K r):=by
  intro pins s σ H x y v u Q I rx ry h
  obtain ⟨a, b, h1, h2, q⟩:=h
  exact E.ne (A:=X.A) I rx ry h1 h2 hu _ _ _ _ ⟨.bl _, H, I, rfl, q⟩
theorem UV : Zk X (.builtin "isinstance") (fun xs H Q=>∃ x n t b, xs = [x, .ty n] /\ TyOf X.K H x t /\ PySem.W.kitOne X.K t (.type n) = some b /\ Q (.bl b) H):=by
  intro pins s σ H xs us Q I r h
  obtain ⟨x, n, t, b, rfl, ty, e, q⟩:=h
  obtain ⟨u, v, rfl, ru, rv⟩:=X5.two r
  cases (show v = Value.type n from rv)
  exact Dh I ru ty e fun tk=>⟨.bl b, H, I.tok tk, rfl, q⟩
theorem V5 : OpR X (binaryOp .FloorDiv) (rI (fun _ j=>0 < j /\ j.natAbs.log2 < 9000) fun i j=>.int (i / j)):=opI fun i j _ _ _ _ _ hc q=>by
  refine floordiv_int (by omega) ?_ (.inl (PyProof.noPylong_of_log2 hc.2))
  rw [Int.fdiv_eq_ediv_of_nonneg i (by omega)]
  exact q
end
end L2
namespace PySem
open Sem (wp)
section
variable {prog : Program} {w : World} {A : Around} {E : Value -> Shared -> Prop} {s : Shared}
end
end PySem
namespace L2
open PySem PySem.Spec PyProof.Rows
theorem U2 {α β : Type} {F : α -> β -> Prop} : ∀ {l : List α} {m : List β} {i : Nat} {b : β}, Paired F l m -> m[i]? = some b -> ∃ a, l[i]? = some a /\ F a b
  | _, _, _, _, .nil, e=>by simp at e
  | _, _, 0, _, .cons r _, e=>by simp at e; subst e; exact ⟨_, rfl, r⟩
  | _, _, i + 1, b, .cons _ t, e=>by
    obtain ⟨a, h1, h2⟩:=U2 (i:=i) (b:=b) t (by simpa using e)
    exact ⟨a, by simpa using h1, h2⟩
section
variable {X : Cx} {e : Expr} {te : TE}
end
end L2
namespace L2
open PySem PySem.Spec PyProof.Rows
section
variable {X : Cx} {pins : List (Addr × Obj)} {σ : St} {H : Hp} {s : Shared} {h' : Heap}
end
section
variable {X : Cx} {elts : List Expr} {k : Nat} {pos0 : Pos}
end
section
variable {X : Cx}
end
noncomputable def rTL {α : Type} (r : Enc α) : Enc (List α):=fun K H v as=>∃ a xs, v = .ref a /\ SqT K H a xs /\ Paired (r K H) xs as
section
variable {α : Type} [DecidableEq α] {r : Enc α} {d : Nat}
theorem Dx {as bs : List α} : ((List.range (min as.length bs.length)).all (fun j=>decide (as[j]? = bs[j]?)) && as.length == bs.length) = decide (as = bs):=by
  by_cases hl : as.length = bs.length
  . rw [show min as.length bs.length = as.length by omega, U6 hl]
    simp [hl]
  . rw [decide_eq_false (fun e => hl (congrArg List.length e))]
    simp [hl]
theorem Ej (E : EqOk r d) : EqOk (rTL r) (d + 1):=by
  have un : ∀ {X : Cx} {pins : List (Addr × Obj)} {σ : St} {H : Hp} {s : Shared} {x : V} {a b : List α}, Inv X pins σ H s -> rTL r X.K H x a -> rTL r X.K H x b -> a = b:=by
    intro X pins σ H s x as bs I h1 h2
    obtain ⟨a, xs, rfl, q1, p1⟩:=h1
    obtain ⟨b, ys, e, q2, p2⟩:=h2
    cases e
    cases I.tuple_inj q1 q2
    exact Paired.uniq (F:=r X.K H) (fun _ _ _ z z'=>E.uniq I z z') p1 p2
  have rc : ∀ {X : Cx} {pins : List (Addr × Obj)} {σ : St} {H : Hp} {s : Shared} {x y : V} {v u : Value} {a b : List α} {A : Around}, Inv X pins σ H s -> X4 x v -> X4 y u -> rTL r X.K H x a -> rTL r X.K H y b -> A.units + (d + 1) < cLine -> SeqAt.RcAt A s v u (decide (a = b)):=by
    intro X pins σ H s x y v u as bs A I rx ry h1 h2 hu
    obtain ⟨a, xs, rfl, q1, p1⟩:=h1
    obtain ⟨b, ys, rfl, q2, p2⟩:=h2
    cases rx; cases ry
    obtain ⟨its, r1, l1, _⟩:=I.tuple q1
    obtain ⟨its2, r2, l2, _⟩:=I.tuple q2
    have n1:=r1.length
    have n2:=r2.length
    have m1:=Paired.len p1
    have m2:=Paired.len p2
    have:=SeqAt.RcAt.tuples (A:=A) (e:=fun j=>decide (as[j]? = bs[j]?)) l1 l2 (by omega) (Qe E I hu r1 r2 p1 p2)
    rw [show its.toArray.size = as.length by simp only [List.size_toArray]; omega, show its2.toArray.size = bs.length by simp only [List.size_toArray]; omega, Dx] at this
    exact this
  refine ⟨un, ?_, rc, ?_, ?_⟩
  . intro X pins σ H s x y v u as bs A I rx ry h1 h2 hu
    obtain ⟨a, xs, rfl, q1, p1⟩:=id h1
    obtain ⟨b, ys, rfl, q2, p2⟩:=id h2
    have R:=rc (A:=A) I rx ry h1 h2 hu
    cases rx; cases ry
    by_cases e : a = b
    . subst e
      rw [decide_eq_true (un I h1 h2)]
      exact SeqAt.EqAt.same _
    . exact SeqAt.EqAt.of_refs e R
  . intro X pins σ H s x y v u as bs A I rx ry h1 h2 hu
    obtain ⟨a, xs, rfl, q1, p1⟩:=h1
    obtain ⟨b, ys, rfl, q2, p2⟩:=h2
    cases rx; cases ry
    obtain ⟨its, r1, l1, _⟩:=I.tuple q1
    obtain ⟨its2, r2, l2, _⟩:=I.tuple q2
    have n1:=r1.length
    have n2:=r2.length
    have m1:=Paired.len p1
    have m2:=Paired.len p2
    have:=SeqAt.RcNeAt.tuples (A:=A) (e:=fun j=>decide (as[j]? = bs[j]?)) l1 l2 (by omega) (Qe E I hu r1 r2 p1 p2)
    rw [show its.toArray.size = as.length by simp only [List.size_toArray]; omega, show its2.toArray.size = bs.length by simp only [List.size_toArray]; omega, Dx] at this
    exact this
  . intro K H H' x as e h
    obtain ⟨a, xs, rfl, q1, p1⟩:=h
    exact ⟨a, xs, rfl, e.seqT q1, Paired.imp2 (fun _ _ z=>E.keep e z) p1⟩
end
end L2
namespace L2
open PySem PySem.Spec PyProof.Rows
section
variable {X : Cx} {o e f : Expr} {td ty tx : TE} {apos cpos : Pos}
end
end L2
namespace L2
open PySem PySem.Spec PyProof.Rows
section
variable {X : Cx} {elt tg iter : Expr} {ifs : List Expr} {scope sc : Scope} {pos : Pos} {n : Nat} {tns : List Str} {caps : List (Nat × Str)} {wi : TI} {g : TG} {tt : TT} {te : TE}
end
end L2
namespace L2
open PySem PySem.Spec PyProof.Rows
theorem J0 : ∀ (xs : List V) (us : List Value), xs.length = us.length -> (∀ (j : Nat) x u, xs[j]? = some x -> us[j]? = some u -> X4 x u) -> X5 xs us
  | [], [], _, _=>.nil
  | [], _ :: _, h, _=>by simp at h
  | _ :: _, [], h, _=>by simp at h
  | x :: xs, u :: us, h, r=>.cons (r 0 x u rfl rfl) (J0 xs us (by simpa using h) fun j y v e1 e2=>r (j + 1) y v (by simpa using e1) (by simpa using e2))
noncomputable def Kz (ta : TA) : TE:=fun σ H Q=>ta σ H fun vs H1=>∃ j : Int, vs = [.int j] /\ 0 <= j /\ j <= 1000 /\ ∀ p, H1 p = none -> Q (.ref p) (upd H1 p (.lst ((List.range j.toNat).map fun i=>V.int ((i : Nat) : Int))))
variable {X : Cx}
theorem Uv {e : Expr} {ta : TA} {p q q2 pos : Pos} (hc : X.calm = true) (hg : Gl X "list") (hg2 : Gl X "range") (hm : X.mg "list" = none) (hm2 : X.mg "range" = none) (ha : PA X [e] ta)
    (hs : starEach [.Call (.Name "range" q) [e] [] q2] X.env = [(false, eval (.Call (.Name "range" q) [e] [] q2) X.env)]:=by rfl) (hs2 : starEach [e] X.env = [(false, eval e X.env)]:=by rfl) :
    PE X (.Call (.Name "list" p) [.Call (.Name "range" q) [e] [] q2] [] pos) (Kz ta):=by
  intro pins s σ H Q I h
  refine wpAny_Call_Name_kw (Ve I hg hm PyProof.Rows.boot_list ?_)
  refine PyProof.Rows.callWith_type1 ?_ hs rfl
  rw [hs]
  show wpAny _ _ (spliced ((false, eval (.Call (.Name "range" q) [e] [] q2) X.env) :: backTo pos [])) _ _ s
  refine Calls.spliced_cons ?_
  refine wpAny_Call_Name_kw (Ve I hg2 hm2 boot_range ?_)
  refine PyProof.Rows.callWith_type1 (thn (ha q2 pins s σ H _ I h) fun us s1 ⟨vs, H1, I1, r1, q1⟩=>?_) hs2 rfl
  obtain ⟨j, e, h0, h1, k⟩:=q1
  subst e
  cases r1 with
  | cons r rr=>
    cases rr
    obtain ⟨t, rfl⟩:=r
    refine call_range_1 ?_
    refine Calls.spliced_nil ?_
    refine call_list_range (n:=j.toNat) (I.ok.hd hc) (IsRange.new ..) (small_one (by omega) (by omega) (by omega) (by omega)) (by rw [rangeSize_one]; split <;> omega) (by omega) fun h' tk acc' c' hk hS hacc=>?_
    refine ⟨.ref _, _, I1.laid (h':=h') (t':=tk) (o:=.lst ((List.range j.toNat).map fun i=>V.int ((i : Nat) : Int))) (fun b o e=>hk b o (Heap.get?_push_of_some _ e)) (by rw [Heap.size_push]; exact Nat.le_succ _) ?_, rfl, k _ (I1.hok.fresh (by rw [Heap.size_push]; exact Nat.le_succ _))⟩
    refine ⟨by rw [List.length_map, List.length_range]; exact Nat.le_of_lt (FV (by omega)), acc'.toList, c', J0 _ _ (by simp [hacc.1]) fun i x u e1 e2=>?_, hS⟩
    have e2' : acc'[i]? = some u:=by simpa using e2
    obtain ⟨tk, rfl⟩:=hacc.2 i u e2'
    rw [List.getElem?_map] at e1
    cases e3 : (List.range j.toNat)[i]? with
    | none=>rw [e3] at e1; cases e1
    | some z=>
      rw [e3] at e1
      have hz : z = i:=by
        have hi : i < j.toNat:=by have:=(List.getElem?_eq_some_iff.mp e3).1; simpa using this
        rw [List.getElem?_range hi] at e3
        exact (Option.some.inj e3).symm
      subst hz
      have : x = V.int (z : Int):=(Option.some.inj e1).symm
      subst this
      exact ⟨tk, by simp⟩
end L2
namespace L2
open PySem PySem.Spec PyProof.Rows
theorem Ze {l : List Expr} {p : Pos} {es : List Expr} {env : Env} : starEach (.List l p :: es) env = (false, eval (.List l p) env) :: starEach es env:=rfl
theorem VW {X : Cx} {l : List Expr} {p : Pos} {es : List Expr} {te : TE} {t : TA} (ha : PE X (.List l p) te) (hr : PA X es t) : PA X (.List l p :: es) (XG te t):=Xc ha hr Ze
end L2
namespace L2
open PySem PySem.Spec PyProof.Rows
end L2
namespace L2
open PySem PySem.Spec PyProof.Rows
variable {X : Cx} {o e : Expr} {es : List Expr} {to : TE} {t : TA} {name : Str} {apos cpos : Pos} {T id : String} {r : V -> List V -> Hp -> VK -> Prop}
end L2
namespace PySem
open PySem.Spec
namespace SeqAt
open MeetsSeq
end SeqAt
end PySem
namespace L2
open PySem PySem.Spec PyProof.Rows
section
variable {X : Cx}
end
end L2
namespace L2
open PySem PySem.Spec PyProof.Rows
noncomputable def LB (K : PySem.W.Frag) : List V -> Hp -> VK -> Prop:=fun xs H Q=>∃ (a : Addr) (bs : List Bool), xs = [.ref a] /\ SqL K H a (bs.map V.bl) /\ Q (.bl (bs.all id)) H
section
variable {X : Cx}
theorem Ik : ∀ (bs : List Bool), ((List.range bs.length).all fun i=>(bs[i]?).getD true) = bs.all id:=fun bs=>by
  rw [Bool.eq_iff_iff, List.all_eq_true, List.all_eq_true]
  constructor
  . intro h b hb
    obtain ⟨i, hi, rfl⟩:=List.getElem_of_mem hb
    have:=h i (List.mem_range.mpr hi)
    simpa [List.getElem?_eq_getElem hi] using this
  . intro h i hi
    have hi':=List.mem_range.mp hi
    simpa [List.getElem?_eq_getElem hi'] using h _ (List.getElem_mem hi')
theorem UA (hc : X.calm = true) : Zk X (.builtin "all") (LB X.K):=by
  intro pins s σ H xs us Q I r h
  obtain ⟨a, bs, rfl, hq, q⟩:=h
  obtain ⟨u, rfl, ru⟩:=JO r
  cases ru
  obtain ⟨its, rv, pl, hz⟩:=I.list hq
  have hlen : bs.length = its.length:=by have:=rv.length; rwa [List.length_map] at this
  have hlt : a < s.heap.objs.size:=by obtain ⟨o, n, ho, _⟩:=pl; exact Heap.lt_size ho
  refine call_all_walk (wpAny_pyIter_list pl.isList ?_)
  refine ⟨s.heap.objs.size, [s.heap.objs.size, a], [s.heap.objs.size], its.toArray.size, _, _, fun i=>(bs[i]?).getD true, rfl, Walks.list (A:=X.A.in1) (I.ok.hd hc) _ a (Nat.ne_of_lt hlt) its.toArray,
    ⟨⟨_, Heap.get?_push_size _ rfl, rfl, rfl⟩, pl.isList.at fun o e=>Heap.get?_push_of_some _ e⟩, fun i v s' Q' E' hP hQ=>?_, fun h' tk hk=>?_⟩
  . have hv' : its[i]? = some v := by simpa using hP
    obtain ⟨x, ex, rx⟩:=U2 rv hv'
    rw [List.getElem?_map] at ex
    cases e : bs[i]? with
    | none=>rw [e] at ex; cases ex
    | some z=>
      rw [e] at ex
      have ex' : V.bl z = x:=Option.some.inj ex
      subst ex'
      cases rx
      simp only [e, Option.getD_some] at hQ
      exact wpAny_truthy_bool hQ
  . have e : ((List.range its.toArray.size).all fun i=>(bs[i]?).getD true) = bs.all id:=by
      rw [List.size_toArray, ← hlen]; exact Ik bs
    rw [e]
    have I2 : Inv X pins σ H { s with heap:=h', toks:=tk }:=I.kept (t':=tk) fun b o e=>hk b o (fun hm=>by
      rw [List.mem_singleton.mp hm] at e
      exact absurd (Heap.lt_size e) (Nat.lt_irrefl _)) (Heap.get?_push_of_some _ e)
    exact ⟨.bl (bs.all id), H, I2, rfl, q⟩
noncomputable def Ht (i j k : Nat) (ta : TA) : TS:=fun D σ H=>ta σ H fun vs H1=>∃ v w z, vs = [v, w, z] /\ D.nx (((σ.set i (some v)).set j (some w)).set k (some z)) H1
theorem BS {i j k : Nat} {x y z : Str} {a b c : Expr} {ta : TA} {px py pz pt pos : Pos} {kt k2 pt2} (hc : X.calm = true) (hN : X.N.Nodup) (hi : X.N[i]? = some x) (hj : X.N[j]? = some y) (hk : X.N[k]? = some z) (hij : i ≠ j) (hik : i ≠ k) (hjk : j ≠ k)
    (hx : X.env.scope.names.lookup x = some .local) (hy : X.env.scope.names.lookup y = some .local) (hz : X.env.scope.names.lookup z = some .local) (ha : PA X [a, b, c] ta)
    (hw : swappedStores [.Tuple [.Name x px, .Name y py, .Name z pz] kt pt] (.Tuple [a, b, c] k2 pt2) X.env = pure (some [x, y, z]))
    (hs : swapsWithSole [.Tuple [.Name x px, .Name y py, .Name z pz] kt pt] (.Tuple [a, b, c] k2 pt2) pos.line X.env = pure false:=by rfl) :
    PS X (.Assign [.Tuple [.Name x px, .Name y py, .Name z pz] kt pt] (.Tuple [a, b, c] k2 pt2) pos) (Ht i j k ta):=by
  intro pins s σ H D I h
  rw [exec_Assign_arm]
  refine wpAny_bind (wpAny_standAt ?_)
  rw [hs]
  refine wpAny_bind (wpAny_pure ?_)
  rw [if_neg (by decide)]
  refine wpAny_bind (Tuple_ (thn (ha _ pins s σ H _ I h) fun us s1 ⟨vs, H1, I1, r1, q1⟩=>?_))
  obtain ⟨v, w, t, e1, q1⟩:=q1
  subst e1
  obtain ⟨u1, u2, u3, rfl, rv, rw', rt⟩ : ∃ u1 u2 u3, us = [u1, u2, u3] /\ X4 v u1 /\ X4 w u2 /\ X4 t u3:=by
    cases r1 with
    | cons p q=>
      cases q with
      | cons p' q'=>
        cases q' with
        | cons p'' q''=>
          cases q''
          exact ⟨_, _, _, rfl, p, p', p''⟩
  refine wpAny_newObj_type ?_ (by show 3 <= sizeLine; decide)
  have I2 : Inv X pins σ H1 { s1 with heap:=s1.heap.push { cls:=.type "tuple", data:=.seq [u1, u2, u3].toArray } }:=I1.kept (t':=s1.toks) fun b o e=>Heap.get?_push_of_some _ e
  rw [hw]
  refine wpAny_bind (wpAny_pure ?_)
  show wpAny (model X.prog X.w) X.A (do rule "assign.swapped-stores"; let items ← unpackItems (.ref s1.heap.objs.size) 3 none; assignInOrder [fun v=>bindName X.env z v, fun v=>bindName X.env y v, fun v=>bindName X.env x v] items.reverse; pure Flow.next) _ _ _
  refine wpAny_bind (wpAny_rule (wpAny_bind (unpackItems_tuple (items:=#[u1, u2, u3]) (I.ok.hd hc) (IsTup.new s1.heap _) fun h' hx'=>?_)))
  have I3:=I2.kept (h':=h') (t':=s1.toks) fun b o e=>hx' b o (Nat.ne_of_lt (Heap.lt_size e)) e
  show wpAny _ _ (assignInOrder [fun v=>bindName X.env z v, fun v=>bindName X.env y v, fun v=>bindName X.env x v] [u3, u2, u1] >>= fun _=>pure Flow.next) _ _ _
  refine wpAny_bind (assignInOrder_cons (wpAny_bindName (ZC I3 hN hk (.inl hz) rt (fun s2 I4=>?_) (.inr hz))))
  refine assignInOrder_cons (wpAny_bindName (ZC I4 hN hj (.inl hy) rw' (fun s3 I5=>?_) (.inr hy)))
  refine assignInOrder_cons (wpAny_bindName (ZC I5 hN hi (.inl hx) rv (fun s4 I6=>assignInOrder_nil (wpAny_pure ?_)) (.inr hx)))
  have e : (((σ.set k (some t)).set j (some w)).set i (some v)) = (((σ.set i (some v)).set j (some w)).set k (some t)):=by
    rw [List.set_comm _ _ hjk.symm, List.set_comm _ _ hik.symm, List.set_comm _ _ hij.symm]
  rw [e] at I6
  exact ⟨_, H1, I6, q1⟩
end
end L2
namespace L2
open PySem PySem.Spec PyProof.Rows
section
variable {X : Cx} {α : Type} [DecidableEq α] {r : Enc α} {d : Nat}
end
section
variable {X : Cx}
end
section
variable {X : Cx}
theorem V1 (K : PySem.W.Frag) (h : X.K = K) : OpR X (compareOp .NotIn) (rIn K true):=by subst h; exact QZ
variable {T : String} {name : Str} {id : String} {r : V -> List V -> Hp -> VK -> Prop} {o e : Expr} {es : List Expr} {to : TE} {t : TA} {apos cpos : Pos}
end
section
variable {X : Cx} {elt tg iter : Expr} {ifs : List Expr} {scope : Scope} {pos : Pos} {wi : TI} {g : TG} {tt : TT} {te : TE}
theorem Zn {sc : Scope} {N0 : List Str} {tns : List Str} {caps : List (Nat × Str)} (hc : X.calm = true) (hi : PI X tg iter wi) (hG : UO tns.length g)
    (hb : ∀ cl C s H ex E, PG (X.comp (tns ++ caps.map (·.2)) scope cl C s H ex E) tg g /\ PTs (X.comp (tns ++ caps.map (·.2)) scope cl C s H ex E) ifs tt /\ PE (X.comp (tns ++ caps.map (·.2)) scope cl C s H ex E) elt te)
    (hsc : X.env.scope = sc:=by rfl) (hN0 : X.N = N0:=by rfl) (ok : V9 sc scope N0 tns caps = true:=by decide +kernel)
    (hs : ∀ x, foldedSetIterable iter X.env x = pure x:=by intro _; rfl) :
    PE X (.ListComp elt [⟨tg, iter, ifs, 0⟩] scope pos) (DQ tns.length caps wi g tt te):=BW sc N0 tns caps hc hi hG hb hsc hN0 ok hs
end
section
variable {X : Cx} {tg l : Expr} {tl : TE} {p pos : Pos} {K : PySem.W.Frag}
theorem Ym (h : X.K = K) (hl : PE X l tl) : PI X tg l (CF K tl):=by subst h; exact Eg hl
theorem F8 (h : X.K = K) (hl : PE X l tl) : PI X tg l (I9 K tl):=by subst h; exact Hz hl
end
end L2
namespace L2
open PySem PySem.Spec PyProof.Rows
section
variable {X : Cx}
theorem DS (K : PySem.W.Frag) (h : X.K = K) : SlR X (IX K):=by subst h; exact Hl
end
end L2
namespace L2
open PySem PySem.Spec PyProof.Rows
inductive Pay where
  | non | int (i : Int) | tag (t : Str) (xs : List Int)
  deriving DecidableEq
structure Exc where
  cls : Str
  pay : Pay
inductive Res (α : Type) where
  | bad | err (x : Exc) | ok (a : α)
noncomputable def Res.bind {α β : Type} : Res α -> (α -> Res β) -> Res β
  | .bad, _=>.bad
  | .err x, _=>.err x
  | .ok a, f=>f a
theorem Res.ok_bind {α β : Type} (a : α) (f : α -> Res β) : (Res.ok a).bind f = f a:=rfl
noncomputable def chk {α : Type} (c : Prop) [Decidable c] (m : Res α) : Res α:=if c then m else .bad
theorem Xv {α : Type} {c : Prop} [Decidable c] {m : Res α} (h : c) : chk c m = m:=if_pos h
noncomputable abbrev XA:=Addr × HO
noncomputable def Hc : HO -> Bool
  | .lst _=>true
  | .dK _=>true
  | .dT _=>true
  | _=>false
noncomputable def fl (OO : List (List XA)) : List Addr:=OO.flatten.map (·.1)
open Classical in
noncomputable def hid (H : Hp) (OO : List (List XA)) : Hp:=fun b=>if b ∈ fl OO then none else H b
structure W (OO : List (List XA)) (H : Hp) : Prop where
  tr : ∀ c ∈ OO.flatten, H c.1 = some c.2
  nd : (fl OO).Nodup
  mu : ∀ c ∈ OO.flatten, Hc c.2 = true
theorem YO {H : Hp} {OO} {b : Addr} {o : HO} (h : hid H OO b = some o) : H b = some o /\ b ∉ fl OO:=by
  unfold hid at h
  split at h
  . cases h
  . exact ⟨h, by assumption⟩
theorem QA {H : Hp} {OO} {b : Addr} {o : HO} (h : H b = some o) (n : b ∉ fl OO) : hid H OO b = some o:=by
  unfold hid; rw [if_neg n]; exact h
theorem XL {H : Hp} {OO} : Xx (hid H OO) H:=fun b o h=>(YO h).1
theorem Xm {H H' : Hp} {OO} (s : Xx H H') : Xx (hid H OO) (hid H' OO):=fun b o h=>QA (s _ _ (YO h).1) (YO h).2
theorem Qo {H H' : Hp} {OO OO'} (s : Xx H H') (h : ∀ b, b ∈ fl OO' -> b ∈ fl OO) : Xx (hid H OO) (hid H' OO'):=fun b o q=>QA (s _ _ (YO q).1) fun z=>(YO q).2 (h b z)
theorem Y7 {C : List XA} {OO} : fl (C :: OO) = C.map (·.1) ++ fl OO:=by simp [fl]
theorem Du {OO} : fl ([] :: OO) = fl OO:=by simp [fl]
theorem YX {H : Hp} {OO} : hid H ([] :: OO) = hid H OO:=by unfold hid; rw [Du]
theorem W.keep {OO} {H H' : Hp} (w : W OO H) (s : Xx H H') : W OO H':=⟨fun c hc=>s _ _ (w.tr c hc), w.nd, w.mu⟩
theorem W.of {OO OO' : List (List XA)} {H : Hp} (w : W OO H) (h : OO'.flatten.Perm OO.flatten) : W OO' H:=
  ⟨fun c hc=>w.tr c (h.mem_iff.mp hc), (h.map _).nodup_iff.mpr w.nd, fun c hc=>w.mu c (h.mem_iff.mp hc)⟩
theorem W.sub {OO OO' : List (List XA)} {H : Hp} (w : W OO H) (h : OO'.flatten.Sublist OO.flatten) : W OO' H:=
  ⟨fun c hc=>w.tr c (h.mem hc), (h.map _).nodup w.nd, fun c hc=>w.mu c (h.mem hc)⟩
theorem W.tail {C OO} {H : Hp} (w : W (C :: OO) H) : W OO H:=w.sub (by simp)
theorem W.nil {OO} {H : Hp} (w : W OO H) : W ([] :: OO) H:=w.of (by simp)
theorem W.cell {C OO} {H : Hp} (w : W (C :: OO) H) : ∀ c ∈ C, H c.1 = some c.2:=fun c hc=>w.tr c (by simp [hc])
theorem Vo {OO : List (List XA)} {c : XA} (h : c ∈ OO.flatten) : c.1 ∈ fl OO:=List.mem_map.mpr ⟨c, h, rfl⟩
theorem Dp {OO : List (List XA)} {b : Addr} (h : b ∈ fl OO) : ∃ o, (b, o) ∈ OO.flatten:=by
  obtain ⟨⟨a, o⟩, hc, rfl⟩:=List.mem_map.mp h
  exact ⟨o, hc⟩
theorem W.fresh {OO} {H : Hp} (w : W OO H) {p : Addr} (h : H p = none) : p ∉ fl OO:=fun z=>by
  obtain ⟨o, ho⟩:=Dp z
  have:=w.tr _ ho
  rw [h] at this; cases this
theorem W.new {OO} {H : Hp} (w : W OO H) {p : Addr} (h : H p = none) {o : HO} (m : Hc o = true) : W ([(p, o)] :: OO) (upd H p o):=by
  have hf:=w.fresh h
  refine ⟨fun c hc=>?_, ?_, fun c hc=>?_⟩
  . simp only [List.flatten_cons, List.cons_append, List.nil_append, List.mem_cons] at hc
    rcases hc with rfl | hc
    . exact Yb
    . rw [XT (fun e=>hf (by rw [← e]; exact Vo hc))]; exact w.tr c hc
  . rw [Y7]; simpa using ⟨hf, w.nd⟩
  . simp only [List.flatten_cons, List.cons_append, List.nil_append, List.mem_cons] at hc
    rcases hc with rfl | hc
    . exact m
    . exact w.mu c hc
theorem JK {OO} {H : Hp} {p : Addr} (h : H p = none) {o : HO} : Xx (hid H OO) (hid (upd H p o) ([(p, o)] :: OO)):=fun b u q=>by
  obtain ⟨q1, q2⟩:=YO q
  have hb : b ≠ p:=Yi q1 h
  refine QA (by rw [XT hb]; exact q1) ?_
  rw [Y7]; simpa using ⟨hb, q2⟩
theorem QB {OO} {H : Hp} (w : W OO H) {p : Addr} (h : H p = none) {o : HO} : hid (upd H p o) OO p = some o:=QA Yb (w.fresh h)
class MonoE {α : Type} (r : Enc α) : Prop where
  mono : ∀ {K : PySem.W.Frag} {H H' : Hp} {v : V} {a : α}, Xx H H' -> r K H v a -> r K H' v a
noncomputable def Ls : HO -> Bool
  | .tup _=>true
  | .frz _ _=>true
  | _=>false
noncomputable def JC (H H' : Hp) : Prop:=∀ b o, H b = some o -> Ls o = true -> H' b = some o
theorem Xx.i {H H' : Hp} (s : Xx H H') : JC H H':=fun b o h _=>s b o h
theorem W.i {OO} {H : Hp} (w : W OO H) : JC H (hid H OO):=fun b o h i=>QA h fun z=>by
  obtain ⟨u, hu⟩:=Dp z
  have h1:=w.tr _ hu
  have h2:=w.mu _ hu
  rw [h] at h1
  have e : o = u:=Option.some.inj h1
  subst e
  revert i h2; cases o <;> simp [Ls, Hc]
theorem JC.trans {H H1 H2 : Hp} (a : JC H H1) (b : JC H1 H2) : JC H H2:=fun c o h i=>b c o (a c o h i) i
class FlatE {α : Type} (r : Enc α) : Prop where
  flat : ∀ {K : PySem.W.Frag} {H H' : Hp} {v : V} {a : α}, JC H H' -> r K H v a -> r K H' v a
instance {α : Type} {r : Enc α} [f : FlatE r] : MonoE r:=⟨fun s h=>f.flat s.i h⟩
theorem JC.seqT {K : PySem.W.Frag} {H H' : Hp} {a : Addr} {xs : List V} (e : JC H H') (h : SqT K H a xs) : SqT K H' a xs:=by
  rcases h with (h | ⟨o, h⟩) | h
  . exact .inl (.inl (e _ _ h rfl))
  . exact .inl (.inr ⟨o, e _ _ h rfl⟩)
  . exact .inr h
noncomputable def XC : Enc Bool:=fun _ _ v b=>v = .bl b
noncomputable def KL {α : Type} (r : Enc α) : Enc (Option α):=fun K H v a=>match a with
  | none=>v = .non
  | some a=>v ≠ .non /\ r K H v a
noncomputable def rV {α : Type} (r : Enc α) : Enc (List α):=fun K H v as=>∃ a xs, v = .ref a /\ H a = some (.lst xs) /\ Paired (r K H) xs as
noncomputable def rPL {α : Type} (r : Enc α) : Enc (List α):=fun K H v as=>∃ a xs, v = .ref a /\ H a = some (.tup xs) /\ Paired (r K H) xs as
noncomputable def rP2 {α β : Type} (r : Enc α) (q : Enc β) : Enc (α × β):=fun K H v p=>∃ a x y, v = .ref a /\ H a = some (.tup [x, y]) /\ r K H x p.1 /\ q K H y p.2
noncomputable def rP3 {α β γ : Type} (r : Enc α) (q : Enc β) (t : Enc γ) : Enc (α × β × γ):=fun K H v p=>∃ a x y z, v = .ref a /\ H a = some (.tup [x, y, z]) /\ r K H x p.1 /\ q K H y p.2.1 /\ t K H z p.2.2
instance {α : Type} {r : Enc α} [m : MonoE r] : MonoE (rV r):=⟨fun s h9=>(by obtain ⟨a, xs, e, q, p⟩:=h9; exact ⟨a, xs, e, s _ _ q, Paired.imp2 (fun _ _ z=>m.mono s z) p⟩)⟩
instance {α : Type} {r : Enc α} [m : MonoE r] : MonoE (rPL r):=⟨fun s h9=>(by obtain ⟨a, xs, e, q, p⟩:=h9; exact ⟨a, xs, e, s _ _ q, Paired.imp2 (fun _ _ z=>m.mono s z) p⟩)⟩
instance {α : Type} {r : Enc α} [m : FlatE r] : FlatE (rPL r):=⟨fun s h9=>(by obtain ⟨a, xs, e, q, p⟩:=h9; exact ⟨a, xs, e, s _ _ q rfl, Paired.imp2 (fun _ _ z=>m.flat s z) p⟩)⟩
instance {α β : Type} {r : Enc α} {q : Enc β} [m : MonoE r] [n : MonoE q] : MonoE (rP2 r q):=⟨fun s h9=>(by obtain ⟨a, x, y, e, h, p1, p2⟩:=h9; exact ⟨a, x, y, e, s _ _ h, m.mono s p1, n.mono s p2⟩)⟩
instance {α β : Type} {r : Enc α} {q : Enc β} [m : FlatE r] [n : FlatE q] : FlatE (rP2 r q):=⟨fun s h9=>(by obtain ⟨a, x, y, e, h, p1, p2⟩:=h9; exact ⟨a, x, y, e, s _ _ h rfl, m.flat s p1, n.flat s p2⟩)⟩
instance {α β γ : Type} {r : Enc α} {q : Enc β} {t : Enc γ} [m : MonoE r] [n : MonoE q] [k : MonoE t] : MonoE (rP3 r q t):=⟨fun s h9=>(by obtain ⟨a, x, y, z, e, h, p1, p2, p3⟩:=h9; exact ⟨a, x, y, z, e, s _ _ h, m.mono s p1, n.mono s p2, k.mono s p3⟩)⟩
instance {α β γ : Type} {r : Enc α} {q : Enc β} {t : Enc γ} [m : FlatE r] [n : FlatE q] [k : FlatE t] : FlatE (rP3 r q t):=⟨fun s h9=>(by obtain ⟨a, x, y, z, e, h, p1, p2, p3⟩:=h9; exact ⟨a, x, y, z, e, s _ _ h rfl, m.flat s p1, n.flat s p2, k.flat s p3⟩)⟩
instance : FlatE Xa:=⟨fun _ h=>h⟩
instance : FlatE XC:=⟨fun _ h=>h⟩
instance {α : Type} {r : Enc α} [m : MonoE r] : MonoE (rL r):=⟨fun s h9=>(by obtain ⟨a, xs, e, q, p⟩:=h9; exact ⟨a, xs, e, s.seq q, Paired.imp2 (fun _ _ z=>m.mono s z) p⟩)⟩
instance {α : Type} {r : Enc α} [m : MonoE r] : MonoE (KL r):=⟨fun {K H H' v a} s h=>by cases a with
  | none=>exact h
  | some a=>exact ⟨h.1, m.mono s h.2⟩⟩
instance {α : Type} {r : Enc α} [m : FlatE r] : FlatE (KL r):=⟨fun {K H H' v a} s h=>by cases a with
  | none=>exact h
  | some a=>exact ⟨h.1, m.flat s h.2⟩⟩
noncomputable abbrev OE (α : Type):=PySem.W.Frag -> Hp -> V -> α -> List XA -> Prop
inductive P3 {α β γ : Type} (F : α -> β -> γ -> Prop) : List α -> List β -> List γ -> Prop where
  | nil : P3 F [] [] []
  | cons {a b c l m n} : F a b c -> P3 F l m n -> P3 F (a :: l) (b :: m) (c :: n)
noncomputable def oF {α : Type} (r : Enc α) : OE α:=fun K h v a C=>C = [] /\ r K h v a
noncomputable def oL {α : Type} (o : OE α) : OE (List α):=fun K h v as C=>∃ p xs Cs, v = .ref p /\ P3 (o K h) xs as Cs /\ C = (p, .lst xs) :: Cs.flatten
noncomputable def oT2 {α β : Type} (o : OE α) (q : OE β) : OE (α × β):=fun K h v a C=>∃ p x y C1 C2, v = .ref p /\ h p = some (.tup [x, y]) /\ o K h x a.1 C1 /\ q K h y a.2 C2 /\ C = C1 ++ C2
noncomputable def IZ {α : Type} (o : OE α) : OE (Option α):=fun K h v a C=>match a with
  | none=>v = .non /\ C = []
  | some a=>v ≠ .non /\ o K h v a C
section
variable {α β γ δ : Type}
theorem P3.imp {F G : α -> β -> γ -> Prop} (h : ∀ a b c, F a b c -> G a b c) : ∀ {l m n}, P3 F l m n -> P3 G l m n:=fun p=>by
  induction p with
  | nil=>exact .nil
  | cons r _ ih=>exact .cons (h _ _ _ r) ih
theorem P3.app {F : α -> β -> γ -> Prop} : ∀ {l m n l' m' n'}, P3 F l m n -> P3 F l' m' n' -> P3 F (l ++ l') (m ++ m') (n ++ n'):=fun p h=>by
  induction p with
  | nil=>exact h
  | cons r _ ih=>exact .cons r ih
theorem P3.snoc {F : α -> β -> γ -> Prop} {l m n a b c} (h : P3 F l m n) (r : F a b c) : P3 F (l ++ [a]) (m ++ [b]) (n ++ [c]):=h.app (.cons r .nil)
theorem P3.len {F : α -> β -> γ -> Prop} : ∀ {l m n}, P3 F l m n -> l.length = m.length /\ n.length = m.length
  | _, _, _, .nil=>⟨rfl, rfl⟩
  | _, _, _, .cons _ t=>by simp [(P3.len t).1, (P3.len t).2]
theorem P3.pair {F : α -> β -> γ -> Prop} {G : α -> β -> Prop} : ∀ {l m n}, P3 F l m n -> (∀ a b c, c ∈ n -> F a b c -> G a b) -> Paired G l m:=fun p h=>by
  induction p with
  | nil=>exact .nil
  | cons r _ ih=>exact .cons (h _ _ _ List.mem_cons_self r) (ih fun a b c hc=>h a b c (List.mem_cons_of_mem _ hc))
theorem P3.get {F : α -> β -> γ -> Prop} : ∀ {l m n} {i : Nat} {b : β}, P3 F l m n -> m[i]? = some b -> ∃ a c, l[i]? = some a /\ n[i]? = some c /\ F a b c
  | _, _, _, _, _, .nil, e=>by simp at e
  | _, _, _, 0, _, .cons r _, e=>by simp at e; subst e; exact ⟨_, _, rfl, rfl, r⟩
  | _, _, _, i + 1, b, .cons _ t, e=>by
    obtain ⟨a, c, h1, h2, h3⟩:=P3.get (i:=i) (b:=b) t (by simpa using e)
    exact ⟨a, c, by simpa using h1, by simpa using h2, h3⟩
theorem P3.set {F : α -> β -> γ -> Prop} {a : α} {b : β} {c : γ} (r : F a b c) : ∀ {l m n} (i : Nat), P3 F l m n -> P3 F (l.set i a) (m.set i b) (n.set i c)
  | _, _, _, _, .nil=>.nil
  | _, _, _, 0, .cons _ t=>.cons r t
  | _, _, _, i + 1, .cons q t=>.cons q (P3.set r i t)
theorem P3.flat {F : α -> β -> Prop} : ∀ {l : List α} {m : List β} {n : List (List XA)}, P3 (fun a b c=>c = [] /\ F a b) l m n -> Paired F l m /\ n.flatten = []:=fun p=>by
  induction p with
  | nil=>exact ⟨.nil, rfl⟩
  | cons r _ ih=>exact ⟨.cons r.2 ih.1, by rw [List.flatten_cons, r.1, ih.2]; rfl⟩
theorem P3.of {F : α -> β -> Prop} : ∀ {l : List α} {m : List β}, Paired F l m -> P3 (fun a b (c : List XA)=>c = [] /\ F a b) l m (List.replicate m.length [])
  | _, _, .nil=>.nil
  | _, _, .cons r t=>.cons ⟨rfl, r⟩ (P3.of t)
theorem Yt : ∀ n : Nat, (List.replicate n ([] : List XA)).flatten = []
  | 0=>rfl
  | n + 1=>by simp [List.replicate_succ, Yt n]
end
class MonoO {α : Type} (o : OE α) : Prop where
  mono : ∀ {K : PySem.W.Frag} {H H' : Hp} {v : V} {a : α} {C : List XA}, Xx H H' -> o K H v a C -> o K H' v a C
class FlatO {α : Type} (o : OE α) : Prop where
  flat : ∀ {K : PySem.W.Frag} {H H' : Hp} {v : V} {a : α} {C : List XA}, JC H H' -> o K H v a C -> o K H' v a C
class FrzC {α : Type} (o : OE α) (r : outParam (Enc α)) : Prop where
  frz : ∀ {K : PySem.W.Frag} {H H' : Hp} {v : V} {a : α} {C : List XA}, o K H v a C -> Xx H H' -> (∀ c ∈ C, H' c.1 = some c.2) -> r K H' v a
instance {α : Type} {r : Enc α} [m : MonoE r] : MonoO (oF r):=⟨fun s h=>⟨h.1, m.mono s h.2⟩⟩
instance {α : Type} {r : Enc α} [m : FlatE r] : FlatO (oF r):=⟨fun s h=>⟨h.1, m.flat s h.2⟩⟩
instance {α : Type} {r : Enc α} [m : MonoE r] : FrzC (oF r) r:=⟨fun h s _=>m.mono s h.2⟩
instance {α : Type} {o : OE α} [m : MonoO o] : MonoO (oL o):=⟨fun s h9=>(by obtain ⟨p, xs, Cs, e, q, c⟩:=h9; exact ⟨p, xs, Cs, e, q.imp fun _ _ _ z=>m.mono s z, c⟩)⟩
instance {α : Type} {o : OE α} [m : FlatO o] : FlatO (oL o):=⟨fun s h9=>(by obtain ⟨p, xs, Cs, e, q, c⟩:=h9; exact ⟨p, xs, Cs, e, q.imp fun _ _ _ z=>m.flat s z, c⟩)⟩
instance {α : Type} {o : OE α} {r : Enc α} [m : FrzC o r] : FrzC (oL o) (rV r):=⟨fun ⟨p, xs, Cs, e, q, c⟩ s hc=>by
  subst c
  exact ⟨p, xs, e, hc _ List.mem_cons_self, q.pair fun a b c hm z=>m.frz z s fun x hx=>hc x (List.mem_cons_of_mem _ (List.mem_flatten.mpr ⟨c, hm, hx⟩))⟩⟩
instance {α β : Type} {o : OE α} {q : OE β} [m : MonoO o] [n : MonoO q] : MonoO (oT2 o q):=⟨fun s h9=>(by obtain ⟨p, x, y, C1, C2, e, h, h1, h2, c⟩:=h9; exact ⟨p, x, y, C1, C2, e, s _ _ h, m.mono s h1, n.mono s h2, c⟩)⟩
instance {α β : Type} {o : OE α} {q : OE β} [m : FlatO o] [n : FlatO q] : FlatO (oT2 o q):=⟨fun s h9=>(by obtain ⟨p, x, y, C1, C2, e, h, h1, h2, c⟩:=h9; exact ⟨p, x, y, C1, C2, e, s _ _ h rfl, m.flat s h1, n.flat s h2, c⟩)⟩
instance {α β : Type} {o : OE α} {q : OE β} {r : Enc α} {t : Enc β} [m : FrzC o r] [n : FrzC q t] : FrzC (oT2 o q) (rP2 r t):=⟨fun ⟨p, x, y, C1, C2, e, h, h1, h2, c⟩ s hc=>by
  subst c
  exact ⟨p, x, y, e, s _ _ h, m.frz h1 s fun c hm=>hc c (by simp [hm]), n.frz h2 s fun c hm=>hc c (by simp [hm])⟩⟩
instance {α : Type} {o : OE α} [m : MonoO o] : MonoO (IZ o):=⟨fun {K H H' v a C} s h=>by cases a with
  | none=>exact h
  | some a=>exact ⟨h.1, m.mono s h.2⟩⟩
instance {α : Type} {o : OE α} [m : FlatO o] : FlatO (IZ o):=⟨fun {K H H' v a C} s h=>by cases a with
  | none=>exact h
  | some a=>exact ⟨h.1, m.flat s h.2⟩⟩
instance {α : Type} {o : OE α} {r : Enc α} [m : FrzC o r] : FrzC (IZ o) (KL r):=⟨fun {K H H' v a C} h s hc=>by cases a with
  | none=>exact h.1
  | some a=>exact ⟨h.1, m.frz h.2 s hc⟩⟩
structure SC where
  p : Hp -> Prop
  mono : ∀ h h', Xx h h' -> p h -> p h'
noncomputable def SC.nil : SC:=⟨fun _=>True, fun _ _ _ _=>True.intro⟩
noncomputable def SC.and (S T : SC) : SC:=⟨fun h=>S.p h /\ T.p h, fun _ _ s q=>⟨S.mono _ _ s q.1, T.mono _ _ s q.2⟩⟩
noncomputable def SC.one {α : Type} (K : PySem.W.Frag) (r : Enc α) [m : MonoE r] (v : V) (a : α) : SC:=⟨fun h=>r K h v a, fun _ _ s q=>m.mono s q⟩
noncomputable def SC.oneO {α : Type} (K : PySem.W.Frag) (o : OE α) [m : MonoO o] (v : V) (a : α) (C : List XA) : SC:=⟨fun h=>o K h v a C, fun _ _ s q=>m.mono s q⟩
noncomputable abbrev SC.add {α : Type} (S : SC) (K : PySem.W.Frag) (r : Enc α) [m : MonoE r] (v : V) (a : α) : SC:=S.and (SC.one K r v a)
noncomputable abbrev SC.addO {α : Type} (S : SC) (K : PySem.W.Frag) (o : OE α) [m : MonoO o] (v : V) (a : α) (C : List XA) : SC:=S.and (SC.oneO K o v a C)
theorem SC.l {S T : SC} {h : Hp} (q : (S.and T).p h) : S.p h:=q.1
theorem SC.r {S T : SC} {h : Hp} (q : (S.and T).p h) : T.p h:=q.2
theorem SC.i {S T : SC} {h : Hp} (q : S.p h) (p : T.p h) : (S.and T).p h:=⟨q, p⟩
theorem SC.t {h : Hp} : SC.nil.p h:=True.intro
noncomputable def PZ {β : Type} (Er : Exc -> Hp -> Prop) (F : β -> Hp -> Prop) (H : Hp) (m : Res β) : Prop:=
  match m with
  | .bad=>False
  | .err x=>∀ H', Xx H H' -> Er x H'
  | .ok b=>F b H
section
variable (K : PySem.W.Frag) (Er : Exc -> Hp -> Prop) (S : SC) (OO OO' : List (List XA)) (σ : St)
noncomputable def FB {α : Type} (r : Enc α) (Q : VK) (a : α) (H : Hp) : Prop:=∀ v H', Xx H H' -> r K H' v a -> Q v H'
noncomputable def FO {α : Type} (o : OE α) (Q : VK) (a : α) (H : Hp) : Prop:=∀ v C H', Xx H H' -> W (C :: OO') H' -> Xx (hid H OO) (hid H' (C :: OO')) -> o K (hid H' (C :: OO')) v a C -> Q v H'
noncomputable def FT (Q : Bool -> Hp -> Prop) (b : Bool) (H : Hp) : Prop:=∀ H', Xx H H' -> Q b H'
noncomputable def EvB {α : Type} (te : TE) (r : Enc α) (m : Res α) : Prop:=∀ H Q, W OO H -> S.p (hid H OO) -> PZ Er (FB K r Q) H m -> te σ H Q
noncomputable def Ev {α : Type} (te : TE) (o : OE α) (m : Res α) : Prop:=∀ H Q, W OO H -> S.p (hid H OO) -> PZ Er (FO K OO OO' o Q) H m -> te σ H Q
noncomputable def EvT (tt : TT) (m : Res Bool) : Prop:=∀ H Q, W OO H -> S.p (hid H OO) -> PZ Er (FT Q) H m -> tt σ H Q
end
section
variable {K : PySem.W.Frag} {Er : Exc -> Hp -> Prop} {S : SC} {OO OO' OO2 : List (List XA)} {σ : St} {α β γ : Type}
theorem FB.tr {r : Enc α} {Q : VK} : ∀ a H H', Xx H H' -> FB K r Q a H -> FB K r Q a H':=fun a H H' s h v H2 s2 q=>h v H2 (s.trans s2) q
theorem FO.tr {o : OE α} {Q : VK} : ∀ a H H', Xx H H' -> FO K OO OO' o Q a H -> FO K OO OO' o Q a H':=fun a H H' s h v C H2 s2 w m q=>h v C H2 (s.trans s2) w ((Xm s).trans m) q
theorem FT.tr {Q : Bool -> Hp -> Prop} : ∀ b H H', Xx H H' -> FT Q b H -> FT Q b H':=fun a H H' s h H2 s2=>h H2 (s.trans s2)
theorem EvB.run {te : TE} {r : Enc α} {m : Res α} (he : EvB K Er S OO σ te r m) {H : Hp} {Q : VK} (w : W OO H) (s : S.p (hid H OO)) {f : α -> Res β} {F : β -> Hp -> Prop} (hF : ∀ b H H', Xx H H' -> F b H -> F b H') (P : PZ Er F H (m.bind f))
    (hk : ∀ a v H', Xx H H' -> W OO H' -> S.p (hid H' OO) -> r K H' v a -> PZ Er F H' (f a) -> Q v H') : te σ H Q:=by
  refine he H Q w s ?_
  cases m with
  | bad=>exact P
  | err x=>exact P
  | ok a=>
    intro v H' s' hr
    refine hk a v H' s' (w.keep s') (S.mono _ _ (Xm s') s) hr ?_
    have P' : PZ Er F H (f a):=P
    revert P'
    cases f a with
    | bad=>exact fun z=>z
    | err x=>exact fun z H2 s2=>z H2 (s'.trans s2)
    | ok b=>exact fun z=>hF b H H' s' z
theorem Ev.run {te : TE} {o : OE α} {m : Res α} (he : Ev K Er S OO OO' σ te o m) {H : Hp} {Q : VK} (w : W OO H) (s : S.p (hid H OO)) {f : α -> Res β} {F : β -> Hp -> Prop} (hF : ∀ b H H', Xx H H' -> F b H -> F b H') (P : PZ Er F H (m.bind f))
    (hk : ∀ a v C H', Xx H H' -> W (C :: OO') H' -> Xx (hid H OO) (hid H' (C :: OO')) -> S.p (hid H' (C :: OO')) -> o K (hid H' (C :: OO')) v a C -> PZ Er F H' (f a) -> Q v H') : te σ H Q:=by
  refine he H Q w s ?_
  cases m with
  | bad=>exact P
  | err x=>exact P
  | ok a=>
    intro v C H' s' w' m' ho
    refine hk a v C H' s' w' m' (S.mono _ _ m' s) ho ?_
    have P' : PZ Er F H (f a):=P
    revert P'
    cases f a with
    | bad=>exact fun z=>z
    | err x=>exact fun z H2 s2=>z H2 (s'.trans s2)
    | ok b=>exact fun z=>hF b H H' s' z
theorem EvT.run {tt : TT} {m : Res Bool} (he : EvT Er S OO σ tt m) {H : Hp} {Q : Bool -> Hp -> Prop} (w : W OO H) (s : S.p (hid H OO)) {f : Bool -> Res β} {F : β -> Hp -> Prop} (hF : ∀ b H H', Xx H H' -> F b H -> F b H') (P : PZ Er F H (m.bind f))
    (hk : ∀ b H', Xx H H' -> W OO H' -> S.p (hid H' OO) -> PZ Er F H' (f b) -> Q b H') : tt σ H Q:=by
  refine he H Q w s ?_
  cases m with
  | bad=>exact P
  | err x=>exact P
  | ok a=>
    intro H' s'
    refine hk a H' s' (w.keep s') (S.mono _ _ (Xm s') s) ?_
    have P' : PZ Er F H (f a):=P
    revert P'
    cases f a with
    | bad=>exact fun z=>z
    | err x=>exact fun z H2 s2=>z H2 (s'.trans s2)
    | ok b=>exact fun z=>hF b H H' s' z
theorem Ev.toB {te : TE} {o : OE α} {r : Enc α} [z : FrzC o r] {m : Res α} (he : Ev K Er S OO OO σ te o m) : EvB K Er S OO σ te r m:=fun H Q w s P=>by
  refine he H Q w s ?_
  cases m with
  | bad=>exact P
  | err x=>exact P
  | ok a=>exact fun v C H' s' w' m' ho=>P v H' s' (z.frz ho XL w'.cell)
theorem Ev.frz {te : TE} {o : OE α} {r : Enc α} [z : FrzC o r] {m : Res α} (he : Ev K Er S OO OO' σ te o m) : Ev K Er S OO OO' σ te (oF r) m:=fun H Q w s P=>by
  refine he H Q w s ?_
  cases m with
  | bad=>exact P
  | err x=>exact P
  | ok a=>
    intro v C H' s' w' m' ho
    have hs : Xx (hid H' (C :: OO')) (hid H' ([] :: OO')):=Qo (Xx.refl _) fun b hb=>by rw [Du] at hb; rw [Y7]; simp [hb]
    refine P v [] H' s' w'.tail.nil (m'.trans hs) ⟨rfl, z.frz ho hs fun c hc=>QA (w'.cell c hc) ?_⟩
    rw [Du]
    have:=w'.nd
    rw [Y7] at this
    intro hb
    exact (List.nodup_append.mp this).2.2 c.1 (List.mem_map.mpr ⟨c, hc, rfl⟩) c.1 hb rfl
theorem EvB.flat {te : TE} {r : Enc α} [z : FlatE r] {m : Res α} (he : EvB K Er S OO σ te r m) : Ev K Er S OO OO σ te (oF r) m:=fun H Q w s P=>by
  refine he H Q w s ?_
  cases m with
  | bad=>exact P
  | err x=>exact P
  | ok a=>
    intro v H' s' hr
    have w':=w.keep s'
    exact P v [] H' s' w'.nil (by rw [YX]; exact Xm s') ⟨rfl, by rw [YX]; exact z.flat w'.i hr⟩
theorem Xb {r : Enc α} [z : MonoE r] {v : V} {a : α} (i : Nat) (hσ : σ[i]? = some (some v)) (h : ∀ x, S.p x -> r K x v a) : EvB K Er S OO σ (US i) r (.ok a):=fun H Q w s P=>
  ⟨v, hσ, P v H (Xx.refl _) (z.mono XL (h _ s))⟩
theorem Yk {o : OE α} {r : Enc α} [z : FrzC o r] {v : V} {a : α} {C : List XA} (i k : Nat) (hσ : σ[i]? = some (some v)) (hk : OO[k]? = some C) (h : ∀ x, S.p x -> o K x v a C) : EvB K Er S OO σ (US i) r (.ok a):=fun H Q w s P=>
  ⟨v, hσ, P v H (Xx.refl _) (z.frz (h _ s) XL fun c hc=>w.tr c (List.mem_flatten.mpr ⟨C, List.mem_of_getElem? hk, hc⟩))⟩
theorem X1 : ∀ {OO : List (List XA)} {k : Nat} {C : List XA}, OO[k]? = some C -> (C :: OO.set k []).flatten.Perm OO.flatten
  | [], _, _, h=>by simp at h
  | D :: OO, 0, C, h=>by simp at h; subst h; simp
  | D :: OO, k + 1, C, h=>by
    have:=X1 (OO:=OO) (k:=k) (C:=C) (by simpa using h)
    simp only [List.set_cons_succ, List.flatten_cons] at this ⊢
    refine List.Perm.trans ?_ (this.append_left D)
    rw [← List.append_assoc, ← List.append_assoc]
    exact List.perm_append_comm.append_right _
theorem G8 {OO OO' : List (List XA)} (h : OO'.flatten.Perm OO.flatten) (b : Addr) : b ∈ fl OO' ↔ b ∈ fl OO:=(h.map (·.1)).mem_iff
theorem XU {H : Hp} {OO OO' : List (List XA)} (h : OO'.flatten.Perm OO.flatten) : hid H OO' = hid H OO:=by
  funext b; unfold hid
  by_cases hb : b ∈ fl OO
  . rw [if_pos hb, if_pos ((G8 h b).mpr hb)]
  . rw [if_neg hb, if_neg fun z=>hb ((G8 h b).mp z)]
theorem X3 {o : OE α} {v : V} {a : α} {C : List XA} (i k : Nat) (hσ : σ[i]? = some (some v)) (hk : OO[k]? = some C) (h : ∀ x, S.p x -> o K x v a C) : Ev K Er S OO (OO.set k []) σ (US i) o (.ok a):=fun H Q w s P=>by
  have hp:=X1 hk
  exact ⟨v, hσ, P v C H (Xx.refl _) (w.of hp) (by rw [XU hp]; exact Xx.refl _) (by rw [XU hp]; exact h _ s)⟩
theorem Xe (n : Int) : EvB K Er S OO σ (tC (.int n)) Xa (.ok n):=fun H Q w s P=>P _ H (Xx.refl _) rfl
theorem ZZ (b : Bool) : EvB K Er S OO σ (tC (.bl b)) XC (.ok b):=fun H Q w s P=>P _ H (Xx.refl _) rfl
theorem Jr {ta tb : TE} {g : Int -> Int -> V} {r : Enc β} {f : Int -> Int -> β} {ma mb : Res Int} (hg : ∀ K H i j, r K H (g i j) (f i j)) (ha : EvB K Er S OO σ ta Xa ma) (hb : EvB K Er S OO σ tb Xa mb) :
    EvB K Er S OO σ (tOp (rI0 g) ta tb) r (ma.bind fun a=>mb.bind fun b=>.ok (f a b)):=fun H Q w s P=>
  ha.run w s FB.tr P fun a x H1 s1 w1 q1 r1 P1=>hb.run w1 q1 FB.tr P1 fun b y H2 s2 w2 q2 r2 P2=>⟨a, b, r1, r2, P2 _ H2 (Xx.refl _) (hg K H2 a b)⟩
theorem V2 {ta tb : TE} {Cc : Int -> Int -> Prop} {g : Int -> Int -> V} {r : Enc β} {f : Int -> Int -> Res β} {ma mb : Res Int} (hg : ∀ K H i j c, f i j = .ok c -> Cc i j /\ r K H (g i j) c) (he : ∀ i j x, f i j ≠ .err x)
    (ha : EvB K Er S OO σ ta Xa ma) (hb : EvB K Er S OO σ tb Xa mb) :
    EvB K Er S OO σ (tOp (rI Cc g) ta tb) r (ma.bind fun a=>mb.bind fun b=>f a b):=fun H Q w s P=>
  ha.run w s FB.tr P fun a x H1 s1 w1 q1 r1 P1=>hb.run w1 q1 FB.tr P1 fun b y H2 s2 w2 q2 r2 P2=>by
    cases e : f a b with
    | bad=>rw [e] at P2; exact P2.elim
    | err x=>exact absurd e (he a b x)
    | ok c=>
      rw [e] at P2
      obtain ⟨h1, h2⟩:=hg K H2 a b c e
      exact ⟨a, b, r1, r2, h1, P2 _ H2 (Xx.refl _) h2⟩
noncomputable def V7 (a b : Int) : Res Int:=chk ((-(2 ^ 64) < a /\ a < 2 ^ 64) ∨ (-(2 ^ 64) < b /\ b < 2 ^ 64)) (.ok (a * b))
noncomputable def QK (a b : Int) : Res Int:=chk (0 < b) (.ok (a % b))
noncomputable def Hb (a b : Int) : Res Int:=chk (0 < b /\ b.natAbs.log2 < 9000) (.ok (a / b))
noncomputable def HE (a b : Int) : Res Int:=chk (0 <= b /\ b <= 1000000 /\ a.natAbs < 2 ^ 64) (.ok (a ^ b.toNat))
theorem Zf {c : Prop} [Decidable c] {m : Res α} {a : α} (h : chk c m = .ok a) : c /\ m = .ok a:=by
  unfold chk at h; split at h
  . exact ⟨by assumption, h⟩
  . cases h
theorem Qi {c : Prop} [Decidable c] {a : α} {x : Exc} : chk c (Res.ok a) ≠ .err x:=by
  unfold chk; split <;> exact fun z=>nomatch z
theorem YT {ta tb : TE} {ma mb : Res Int} (ha : EvB K Er S OO σ ta Xa ma) (hb : EvB K Er S OO σ tb Xa mb) : EvB K Er S OO σ (tOp (rI IG fun i j=>.int (i * j)) ta tb) Xa (ma.bind fun a=>mb.bind fun b=>V7 a b):=
  V2 (fun K H i j c h=>by obtain ⟨h1, h2⟩:=Zf h; cases h2; exact ⟨h1, rfl⟩) (fun i j x=>Qi) ha hb
theorem XY {ta tb : TE} {ma mb : Res Int} (ha : EvB K Er S OO σ ta Xa ma) (hb : EvB K Er S OO σ tb Xa mb) : EvB K Er S OO σ (tOp (rI (fun _ j=>0 < j) fun i j=>.int (i % j)) ta tb) Xa (ma.bind fun a=>mb.bind fun b=>QK a b):=
  V2 (fun K H i j c h=>by obtain ⟨h1, h2⟩:=Zf h; cases h2; exact ⟨h1, rfl⟩) (fun i j x=>Qi) ha hb
theorem U0 {ta tb : TE} {ma mb : Res Int} (ha : EvB K Er S OO σ ta Xa ma) (hb : EvB K Er S OO σ tb Xa mb) : EvB K Er S OO σ (tOp (rI (fun _ j=>0 < j /\ j.natAbs.log2 < 9000) fun i j=>.int (i / j)) ta tb) Xa (ma.bind fun a=>mb.bind fun b=>Hb a b):=
  V2 (fun K H i j c h=>by obtain ⟨h1, h2⟩:=Zf h; cases h2; exact ⟨h1, rfl⟩) (fun i j x=>Qi) ha hb
theorem U3 {ta tb : TE} {ma mb : Res Int} (ha : EvB K Er S OO σ ta Xa ma) (hb : EvB K Er S OO σ tb Xa mb) : EvB K Er S OO σ (tOp (rI Lz fun i j=>.int (i ^ j.toNat)) ta tb) Xa (ma.bind fun a=>mb.bind fun b=>HE a b):=
  V2 (fun K H i j c h=>by obtain ⟨h1, h2⟩:=Zf h; cases h2; exact ⟨h1, rfl⟩) (fun i j x=>Qi) ha hb
theorem XV {ta tb : TE} {ma mb : Res Int} (ha : EvB K Er S OO σ ta Xa ma) (hb : EvB K Er S OO σ tb Xa mb) : EvB K Er S OO σ (tOp (rI0 fun i j=>.int (i + j)) ta tb) Xa (ma.bind fun a=>mb.bind fun b=>.ok (a + b)):=Jr (fun _ _ _ _=>rfl) ha hb
theorem Yd {ta tb : TE} {ma mb : Res Int} (ha : EvB K Er S OO σ ta Xa ma) (hb : EvB K Er S OO σ tb Xa mb) : EvB K Er S OO σ (tOp (rI0 fun i j=>.int (i - j)) ta tb) Xa (ma.bind fun a=>mb.bind fun b=>.ok (a - b)):=Jr (fun _ _ _ _=>rfl) ha hb
theorem Zp {ta tb : TE} {ma mb : Res Int} (ha : EvB K Er S OO σ ta Xa ma) (hb : EvB K Er S OO σ tb Xa mb) : EvB K Er S OO σ (tOp (rI0 fun i j=>.bl (decide (i < j))) ta tb) XC (ma.bind fun a=>mb.bind fun b=>.ok (decide (a < b))):=Jr (fun _ _ _ _=>rfl) ha hb
theorem Qh {ta tb : TE} {ma mb : Res Int} (ha : EvB K Er S OO σ ta Xa ma) (hb : EvB K Er S OO σ tb Xa mb) : EvB K Er S OO σ (tOp (rI0 fun i j=>.bl (decide (j < i))) ta tb) XC (ma.bind fun a=>mb.bind fun b=>.ok (decide (b < a))):=Jr (fun _ _ _ _=>rfl) ha hb
theorem KZ {ta tb : TE} {ma mb : Res Int} (ha : EvB K Er S OO σ ta Xa ma) (hb : EvB K Er S OO σ tb Xa mb) : EvB K Er S OO σ (tOp (rI0 fun i j=>.bl (decide (j <= i))) ta tb) XC (ma.bind fun a=>mb.bind fun b=>.ok (decide (b <= a))):=Jr (fun _ _ _ _=>rfl) ha hb
theorem VX {ta : TE} {ma : Res Int} (ha : EvB K Er S OO σ ta Xa ma) : EvB K Er S OO σ (tUn (rU fun i=>.int (-i)) ta) Xa (ma.bind fun a=>.ok (-a)):=fun H Q w s P=>
  ha.run w s FB.tr P fun a x H1 s1 w1 q1 r1 P1=>⟨a, r1, P1 _ H1 (Xx.refl _) rfl⟩
class Scal {α : Type} [DecidableEq α] (r : Enc α) : Prop where
  to : ∀ {K : PySem.W.Frag} {H H' : Hp} {x y : V} {a b : α}, r K H x a -> r K H' y b -> IQ x y = true /\ decide (x = y) = decide (a = b)
instance : Scal Xa:=⟨fun {K H H' x y a b} h1 h2=>by cases (show x = .int a from h1); cases (show y = .int b from h2); exact ⟨rfl, by simp⟩⟩
instance : Scal XC:=⟨fun {K H H' x y a b} h1 h2=>by cases (show x = .bl a from h1); cases (show y = .bl b from h2); exact ⟨rfl, by simp⟩⟩
theorem Yh [DecidableEq α] {r : Enc α} [z : Scal r] [MonoE r] {ta tb : TE} {ma mb : Res α} (ha : EvB K Er S OO σ ta r ma) (hb : EvB K Er S OO σ tb r mb) : EvB K Er S OO σ (tOp rEq ta tb) XC (ma.bind fun a=>mb.bind fun b=>.ok (decide (a = b))):=fun H Q w s P=>
  ha.run w s FB.tr P fun a x H1 s1 w1 q1 r1 P1=>hb.run w1 q1 FB.tr P1 fun b y H2 s2 w2 q2 r2 P2=>by
    obtain ⟨h1, h2⟩:=z.to r1 r2
    exact ⟨h1, P2 _ H2 (Xx.refl _) (by rw [h2]; rfl)⟩
theorem ZP [DecidableEq α] {r : Enc α} [z : Scal r] [MonoE r] {ta tb : TE} {ma mb : Res α} (ha : EvB K Er S OO σ ta r ma) (hb : EvB K Er S OO σ tb r mb) : EvB K Er S OO σ (tOp rNe ta tb) XC (ma.bind fun a=>mb.bind fun b=>.ok (!decide (a = b))):=fun H Q w s P=>
  ha.run w s FB.tr P fun a x H1 s1 w1 q1 r1 P1=>hb.run w1 q1 FB.tr P1 fun b y H2 s2 w2 q2 r2 P2=>by
    obtain ⟨h1, h2⟩:=z.to r1 r2
    exact ⟨h1, P2 _ H2 (Xx.refl _) (by rw [h2]; rfl)⟩
theorem UW [DecidableEq α] {r : Enc α} [z : MonoE r] {ta tb : TE} {ma mb : Res α} (ha : EvB K Er S OO σ ta r ma) (hb : EvB K Er S OO σ tb r mb) : EvB K Er S OO σ (tOp (LA K r) ta tb) XC (ma.bind fun a=>mb.bind fun b=>.ok (!decide (a = b))):=fun H Q w s P=>
  ha.run w s FB.tr P fun a x H1 s1 w1 q1 r1 P1=>hb.run w1 q1 FB.tr P1 fun b y H2 s2 w2 q2 r2 P2=>⟨a, b, z.mono s2 r1, r2, P2 _ H2 (Xx.refl _) rfl⟩
theorem Uo {te : TE} {m : Res Bool} (h : EvB K Er S OO σ te XC m) : EvT Er S OO σ (tB te) m:=fun H Q w s P=>h H _ w s (by
  cases m with
  | bad=>exact P
  | err x=>exact P
  | ok a=>exact fun v H' s' r=>⟨a, r, P H' s'⟩)
theorem Xj {te : TE} {m : Res Bool} (h : EvB K Er S OO σ te XC m) : EvT Er S OO σ (Ez te) m:=Uo h
theorem U8 {t : TT} {m : Res Bool} (h : EvT Er S OO σ t m) : EvT Er S OO σ (LE t) (m.bind fun b=>.ok (!b)):=fun H Q w s P=>h.run w s FT.tr P fun b H1 s1 w1 q1 P1=>P1 H1 (Xx.refl _)
noncomputable def QW (a b : Res Bool) : Res Bool:=a.bind fun x=>if x = true then b else .ok false
noncomputable def orR (a b : Res Bool) : Res Bool:=a.bind fun x=>if x = true then .ok true else b
theorem Yq {t u : TT} {m n : Res Bool} (h : EvT Er S OO σ t m) (k : EvT Er S OO σ u n) : EvT Er S OO σ (Lp t u) (QW m n):=fun H Q w s P=>h.run w s FT.tr P fun b H1 s1 w1 q1 P1=>by
  cases b with
  | true=>rw [if_pos rfl] at P1 ⊢; exact k H1 Q w1 q1 P1
  | false=>exact P1 H1 (Xx.refl _)
theorem JM {t u : TT} {m n : Res Bool} (h : EvT Er S OO σ t m) (k : EvT Er S OO σ u n) : EvT Er S OO σ (tOr t u) (orR m n):=fun H Q w s P=>h.run w s FT.tr P fun b H1 s1 w1 q1 P1=>by
  cases b with
  | true=>exact P1 H1 (Xx.refl _)
  | false=>exact k H1 Q w1 q1 P1
theorem Ct {t : TE} {m : Res Bool} (h : EvB K Er S OO σ t XC m) : EvB K Er S OO σ (HI t) XC (m.bind fun b=>.ok (!b)):=fun H Q w s P=>h.run w s FB.tr P fun b x H1 s1 w1 q1 r1 P1=>⟨b, r1, P1 _ H1 (Xx.refl _) rfl⟩
theorem Jg {t u : TE} {m n : Res Bool} (h : EvB K Er S OO σ t XC m) (k : EvB K Er S OO σ u XC n) : EvB K Er S OO σ (Hq t u) XC (QW m n):=fun H Q w s P=>h.run w s FB.tr P fun b x H1 s1 w1 q1 r1 P1=>⟨b, r1, by
  cases b with
  | true=>rw [if_pos rfl] at P1 ⊢; exact k H1 Q w1 q1 P1
  | false=>exact P1 _ H1 (Xx.refl _) rfl⟩
theorem BT {t u : TE} {m n : Res Bool} (h : EvB K Er S OO σ t XC m) (k : EvB K Er S OO σ u XC n) : EvB K Er S OO σ (LD t u) XC (orR m n):=fun H Q w s P=>h.run w s FB.tr P fun b x H1 s1 w1 q1 r1 P1=>⟨b, r1, by
  cases b with
  | true=>exact P1 _ H1 (Xx.refl _) rfl
  | false=>exact k H1 Q w1 q1 P1⟩
end
end L2
namespace L2
open PySem PySem.Spec PyProof.Rows
section
variable (K : PySem.W.Frag) (Er : Exc -> Hp -> Prop) (S : SC) (OO : List (List XA)) (σ : St)
noncomputable def FS {α : Type} (r : Enc α) (Q : VK) (a : α) (H : Hp) : Prop:=∀ v H', Xx H H' -> r K (hid H' OO) v a -> Q v H'
noncomputable def EvS {α : Type} (te : TE) (r : Enc α) (m : Res α) : Prop:=∀ H Q, W OO H -> S.p (hid H OO) -> PZ Er (FS K OO r Q) H m -> te σ H Q
noncomputable def rE {α : Type} (r : Enc α) (H : Hp) (v : V) (as : List α) : Prop:=∃ p xs, v = .ref p /\ H p = some (.lst xs) /\ Paired (r K (hid H OO)) xs as
noncomputable def FL {α : Type} (r : Enc α) (Q : VK) (as : List α) (H : Hp) : Prop:=∀ v H', Xx H H' -> rE K OO r H' v as -> Q v H'
noncomputable def EvL {α : Type} (te : TE) (r : Enc α) (m : Res (List α)) : Prop:=∀ H Q, W OO H -> S.p (hid H OO) -> PZ Er (FL K OO r Q) H m -> te σ H Q
end
section
variable {K : PySem.W.Frag} {Er : Exc -> Hp -> Prop} {S : SC} {OO OO' OO2 : List (List XA)} {σ : St} {α β γ : Type}
theorem FS.tr {r : Enc α} {Q : VK} : ∀ a H H', Xx H H' -> FS K OO r Q a H -> FS K OO r Q a H':=fun a H H' s h v H2 s2 q=>h v H2 (s.trans s2) q
theorem FL.tr {r : Enc α} {Q : VK} : ∀ a H H', Xx H H' -> FL K OO r Q a H -> FL K OO r Q a H':=fun a H H' s h v H2 s2 q=>h v H2 (s.trans s2) q
theorem PZ.run {F : β -> Hp -> Prop} {f : α -> Res β} {H H' : Hp} {a : α} {m : Res α} (hm : m = .ok a) (hF : ∀ b H H', Xx H H' -> F b H -> F b H') (s : Xx H H') (P : PZ Er F H (m.bind f)) : PZ Er F H' (f a):=by
  subst hm
  have P' : PZ Er F H (f a):=P
  revert P'
  cases f a with
  | bad=>exact fun z=>z
  | err x=>exact fun z H2 s2=>z H2 (s.trans s2)
  | ok b=>exact fun z=>hF b H H' s z
theorem EvS.run {te : TE} {r : Enc α} {m : Res α} (he : EvS K Er S OO σ te r m) {H : Hp} {Q : VK} (w : W OO H) (s : S.p (hid H OO)) {f : α -> Res β} {F : β -> Hp -> Prop} (hF : ∀ b H H', Xx H H' -> F b H -> F b H') (P : PZ Er F H (m.bind f))
    (hk : ∀ a v H', Xx H H' -> W OO H' -> S.p (hid H' OO) -> r K (hid H' OO) v a -> PZ Er F H' (f a) -> Q v H') : te σ H Q:=by
  refine he H Q w s ?_
  cases e : m with
  | bad=>rw [e] at P; exact P
  | err x=>rw [e] at P; exact P
  | ok a=>exact fun v H' s' hr=>hk a v H' s' (w.keep s') (S.mono _ _ (Xm s') s) hr (PZ.run e hF s' P)
theorem EvL.run {te : TE} {r : Enc α} {m : Res (List α)} (he : EvL K Er S OO σ te r m) {H : Hp} {Q : VK} (w : W OO H) (s : S.p (hid H OO)) {f : List α -> Res β} {F : β -> Hp -> Prop} (hF : ∀ b H H', Xx H H' -> F b H -> F b H') (P : PZ Er F H (m.bind f))
    (hk : ∀ a v H', Xx H H' -> W OO H' -> S.p (hid H' OO) -> rE K OO r H' v a -> PZ Er F H' (f a) -> Q v H') : te σ H Q:=by
  refine he H Q w s ?_
  cases e : m with
  | bad=>rw [e] at P; exact P
  | err x=>rw [e] at P; exact P
  | ok a=>exact fun v H' s' hr=>hk a v H' s' (w.keep s') (S.mono _ _ (Xm s') s) hr (PZ.run e hF s' P)
theorem PZ.imp {F G : β -> Hp -> Prop} {H : Hp} {m : Res β} (P : PZ Er F H m) (h : ∀ b, m = .ok b -> F b H -> G b H) : PZ Er G H m:=by
  cases m with
  | bad=>exact P
  | err x=>exact P
  | ok b=>exact h b rfl P
theorem EvS.toB {te : TE} {r : Enc α} [z : MonoE r] {m : Res α} (he : EvS K Er S OO σ te r m) : EvB K Er S OO σ te r m:=fun H Q w s P=>he H Q w s (P.imp fun b _ h v H' s' q=>h v H' s' (z.mono XL q))
theorem EvS.ev {te : TE} {r : Enc α} {m : Res α} (he : EvS K Er S OO σ te r m) : Ev K Er S OO OO σ te (oF r) m:=fun H Q w s P=>he H Q w s (P.imp fun b _ h v H' s' q=>
  h v [] H' s' (w.keep s').nil (by rw [YX]; exact Xm s') ⟨rfl, by rw [YX]; exact q⟩)
theorem EvB.sh {te : TE} {r : Enc α} [z : FlatE r] {m : Res α} (he : EvB K Er S OO σ te r m) : EvS K Er S OO σ te r m:=fun H Q w s P=>he H Q w s (P.imp fun b _ h v H' s' q=>h v H' s' (z.flat (w.keep s').i q))
theorem Ev.sh {te : TE} {o : OE α} {r : Enc α} [z : FrzC o r] {m : Res α} (he : Ev K Er S OO OO σ te o m) : EvS K Er S OO σ te r m:=fun H Q w s P=>he.frz H Q w s (P.imp fun b _ h v C H' s' w' m' q=>by
  obtain ⟨rfl, q⟩:=q
  rw [YX] at q
  exact h v H' s' q)
theorem Xr {r : Enc α} {v : V} {a : α} (i : Nat) (hσ : σ[i]? = some (some v)) (h : ∀ x, S.p x -> r K x v a) : EvS K Er S OO σ (US i) r (.ok a):=fun H Q w s P=>⟨v, hσ, P v H (Xx.refl _) (h _ s)⟩
theorem EvS.ls {te : TE} {r : Enc α} {m : Res (List α)} (he : EvS K Er S OO σ te (rV r) m) : EvL K Er S OO σ te r m:=fun H Q w s P=>he H Q w s (P.imp fun b _ h v H' s' ⟨p, xs, e, q, pr⟩=>h v H' s' ⟨p, xs, e, XL _ _ q, pr⟩)
theorem EvB.ls {te : TE} {r : Enc α} [z : FlatE r] {m : Res (List α)} (he : EvB K Er S OO σ te (rV r) m) : EvL K Er S OO σ te r m:=fun H Q w s P=>he H Q w s (P.imp fun b _ h v H' s' ⟨p, xs, e, q, pr⟩=>h v H' s' ⟨p, xs, e, q, Paired.imp2 (fun _ _ z'=>z.flat (w.keep s').i z') pr⟩)
theorem Ev.ls {te : TE} {r : Enc α} [z : MonoE r] {m : Res (List α)} (he : Ev K Er S OO OO σ te (oL (oF r)) m) : EvL K Er S OO σ te r m:=he.sh.ls
theorem Cd {r : Enc α} [z : MonoE r] {v : V} {as : List α} {C : List XA} (i k : Nat) (hσ : σ[i]? = some (some v)) (hk : OO[k]? = some C) (h : ∀ x, S.p x -> oL (oF r) K x v as C) : EvL K Er S OO σ (US i) r (.ok as):=fun H Q w s P=>by
  obtain ⟨p, xs, Cs, e, q, c⟩:=h _ s
  refine ⟨v, hσ, P v H (Xx.refl _) ⟨p, xs, e, ?_, (P3.flat q).1⟩⟩
  exact w.tr (p, .lst xs) (List.mem_flatten.mpr ⟨C, List.mem_of_getElem? hk, by rw [c]; exact List.mem_cons_self⟩)
noncomputable def atR (as : List α) (i : Int) : Res α:=match atI as i with
  | some a=>.ok a
  | none=>.bad
theorem K9 {as : List α} {i : Int} {a : α} (h : atR as i = .ok a) : atI as i = some a:=by
  unfold atR at h; split at h
  . cases h; assumption
  . cases h
theorem KJ {as : List α} {i : Int} {x : Exc} : atR as i ≠ .err x:=by unfold atR; split <;> exact fun z=>nomatch z
theorem QV {F : V -> α -> Prop} {xs : List V} {as : List α} {i : Int} {a : α} (p : Paired F xs as) (h : atI as i = some a) : ∃ x, atI xs i = some x /\ F x a:=by
  unfold atI at h ⊢
  rw [Paired.len p]
  cases e : ixN as.length i with
  | none=>rw [e] at h; cases h
  | some j=>
    rw [e] at h
    obtain ⟨x, h1, h2⟩:=Paired.getR p h
    exact ⟨x, h1, h2⟩
theorem PZ.okOf {F : β -> Hp -> Prop} {H : Hp} {m : Res β} (he : ∀ x, m ≠ .err x) (P : PZ Er F H m) : ∃ b, m = .ok b /\ F b H:=by
  cases m with
  | bad=>exact P.elim
  | err x=>exact absurd rfl (he x)
  | ok b=>exact ⟨b, rfl, P⟩
theorem Xy {ta tb : TE} {r : Enc α} [z : MonoE r] {ma : Res (List α)} {mb : Res Int} (ha : EvB K Er S OO σ ta (rV r) ma) (hb : EvB K Er S OO σ tb Xa mb) : EvB K Er S OO σ (tOp (HL K) ta tb) r (ma.bind fun as=>mb.bind fun i=>atR as i):=fun H Q w s P=>
  ha.run w s FB.tr P fun a x H1 s1 w1 q1 ⟨p, xs, e, q, pr⟩ P1=>hb.run w1 q1 FB.tr P1 fun b y H2 s2 w2 q2 r2 P2=>by
    obtain ⟨c, hc, P3⟩:=P2.okOf fun x=>KJ
    obtain ⟨u, h1, h2⟩:=QV pr (K9 hc)
    exact ⟨p, xs, b, u, e, r2, SqL.of (s2 _ _ q), h1, P3 u H2 (Xx.refl _) (z.mono s2 h2)⟩
theorem QM {ta tb : TE} {r : Enc α} [z : MonoE r] {ma : Res (List α)} {mb : Res Int} (ha : EvB K Er S OO σ ta (rPL r) ma) (hb : EvB K Er S OO σ tb Xa mb) : EvB K Er S OO σ (tOp (E9 K) ta tb) r (ma.bind fun as=>mb.bind fun i=>atR as i):=fun H Q w s P=>
  ha.run w s FB.tr P fun a x H1 s1 w1 q1 ⟨p, xs, e, q, pr⟩ P1=>hb.run w1 q1 FB.tr P1 fun b y H2 s2 w2 q2 r2 P2=>by
    obtain ⟨c, hc, P3⟩:=P2.okOf fun x=>KJ
    obtain ⟨u, h1, h2⟩:=QV pr (K9 hc)
    exact ⟨p, xs, b, u, e, r2, SqT.of (s2 _ _ q), h1, P3 u H2 (Xx.refl _) (z.mono s2 h2)⟩
theorem XI {ta : TE} {r : Enc α} {m : Res (List α)} (ha : EvB K Er S OO σ ta (rV r) m) : EvB K Er S OO σ (tCB (KA K) (XG ta ZB)) Xa (m.bind fun as=>.ok (as.length : Int)):=fun H Q w s P=>
  ha.run w s FB.tr P fun a x H1 s1 w1 q1 ⟨p, xs, e, q, pr⟩ P1=>⟨p, xs, by rw [e], .inl (SqL.of q), P1 _ H1 (Xx.refl _) (by rw [Paired.len pr]; rfl)⟩
theorem ZD {ta : TE} {r : Enc α} {m : Res (List α)} (ha : EvB K Er S OO σ ta (rPL r) m) : EvB K Er S OO σ (tCB (KA K) (XG ta ZB)) Xa (m.bind fun as=>.ok (as.length : Int)):=fun H Q w s P=>
  ha.run w s FB.tr P fun a x H1 s1 w1 q1 ⟨p, xs, e, q, pr⟩ P1=>⟨p, xs, by rw [e], .inr (SqT.of q), P1 _ H1 (Xx.refl _) (by rw [Paired.len pr]; rfl)⟩
theorem EN {r : Enc α} [z : MonoE r] {xs : List V} {as : List α} {H : Hp} {Q : VK} (w : W OO H) (pr : Paired (r K (hid H OO)) xs as) (P : FO K OO OO (oL (oF r)) Q as H) : ∀ p, H p = none -> Q (.ref p) (upd H p (.lst xs)):=fun p hp=>by
  have hn:=JK (OO:=OO) hp (o:=.lst xs)
  refine P (.ref p) [(p, .lst xs)] _ (XF hp _) (w.new hp rfl) hn ?_
  refine ⟨p, xs, List.replicate as.length [], rfl, (P3.of (Paired.imp2 (fun _ _ h=>z.mono hn h) pr)).imp fun _ _ _ h=>h, by rw [Yt]⟩
theorem Paired.take' {F : α -> β -> Prop} : ∀ {l : List α} {m : List β} (n : Nat), Paired F l m -> Paired F (l.take n) (m.take n)
  | _, _, 0, _=>.nil
  | _, _, _ + 1, .nil=>.nil
  | _, _, n + 1, .cons r t=>.cons r (Paired.take' n t)
theorem Paired.drop' {F : α -> β -> Prop} : ∀ {l : List α} {m : List β} (n : Nat), Paired F l m -> Paired F (l.drop n) (m.drop n)
  | _, _, 0, h=>h
  | _, _, _ + 1, .nil=>.nil
  | _, _, n + 1, .cons _ t=>Paired.drop' n t
theorem Paired.rev' {F : α -> β -> Prop} : ∀ {l : List α} {m : List β}, Paired F l m -> Paired F l.reverse m.reverse
  | _, _, .nil=>.nil
  | _, _, .cons r t=>by rw [List.reverse_cons, List.reverse_cons]; exact Paired.app (Paired.rev' t) (.cons r .nil)
theorem Paired.rep' {F : α -> β -> Prop} {l : List α} {m : List β} (h : Paired F l m) : ∀ n : Nat, Paired F (List.replicate n l).flatten (List.replicate n m).flatten
  | 0=>.nil
  | n + 1=>by simp only [List.replicate_succ, List.flatten_cons]; exact Paired.app h (Paired.rep' h n)
noncomputable def Qj (as : List α) (lo hi : Option Int) : List α:=(as.drop (HT.sIx as.length 0 lo)).take (HT.sIx as.length as.length hi - HT.sIx as.length 0 lo)
theorem QO {F : V -> α -> Prop} {xs : List V} {as : List α} (p : Paired F xs as) (lo hi : Option Int) : Paired F (BK xs lo hi) (Qj as lo hi):=by
  unfold BK Qj; rw [Paired.len p]; exact Paired.take' _ (Paired.drop' _ p)
noncomputable def FP (Q : Option Int -> Hp -> Prop) (a : Option Int) (H : Hp) : Prop:=∀ H', Xx H H' -> Q a H'
noncomputable def EvP (Er : Exc -> Hp -> Prop) (S : SC) (OO : List (List XA)) (σ : St) (t : TO) (m : Res (Option Int)) : Prop:=∀ H Q, W OO H -> S.p (hid H OO) -> PZ Er (FP Q) H m -> t σ H Q
theorem EvP.run {t : TO} {m : Res (Option Int)} (he : EvP Er S OO σ t m) {H : Hp} {Q : Option Int -> Hp -> Prop} (w : W OO H) (s : S.p (hid H OO)) {f : Option Int -> Res β} {F : β -> Hp -> Prop} (hF : ∀ b H H', Xx H H' -> F b H -> F b H') (P : PZ Er F H (m.bind f))
    (hk : ∀ a H', Xx H H' -> W OO H' -> S.p (hid H' OO) -> PZ Er F H' (f a) -> Q a H') : t σ H Q:=by
  refine he H Q w s ?_
  cases e : m with
  | bad=>rw [e] at P; exact P
  | err x=>rw [e] at P; exact P
  | ok a=>exact fun H' s'=>hk a H' s' (w.keep s') (S.mono _ _ (Xm s') s) (PZ.run e hF s' P)
theorem Zu : EvP Er S OO σ FX (.ok none):=fun H Q w s P=>P H (Xx.refl _)
theorem YF {te : TE} {m : Res Int} (h : EvB K Er S OO σ te Xa m) : EvP Er S OO σ (HN te) (m.bind fun i=>.ok (some i)):=fun H Q w s P=>
  h.run w s (fun _ _ _ s h H2 s2=>h H2 (s.trans s2)) P fun a v H1 s1 w1 q1 r1 P1=>⟨a, r1, P1 H1 (Xx.refl _)⟩
theorem ZM {te : TE} {tl th : TO} {r : Enc α} [z : MonoE r] {m : Res (List α)} {ml mh : Res (Option Int)} (he : EvL K Er S OO σ te r m) (hl : EvP Er S OO σ tl ml) (hh : EvP Er S OO σ th mh) :
    Ev K Er S OO OO σ (tSl (IE K) te tl th) (oL (oF r)) (m.bind fun as=>ml.bind fun lo=>mh.bind fun hi=>.ok (Qj as lo hi)):=fun H Q w s P=>
  he.run w s FO.tr P fun as x H1 s1 w1 q1 ⟨p, xs, e, q, pr⟩ P1=>hl.run w1 q1 FO.tr P1 fun lo H2 s2 w2 q2 P2=>hh.run w2 q2 FO.tr P2 fun hi H3 s3 w3 q3 P3'=>
    ⟨p, xs, e, SqL.of (s3 _ _ (s2 _ _ q)), EN w3 (QO (Paired.imp2 (fun _ _ h=>z.mono ((Xm s2).trans (Xm s3)) h) pr) lo hi) P3'⟩
theorem CT {ta : TE} {r : Enc α} {m : Res (List α)} (ha : EvB K Er S OO σ ta (rL r) m) : EvB K Er S OO σ (tCB (KA K) (XG ta ZB)) Xa (m.bind fun as=>.ok (as.length : Int)):=fun H Q w s P=>
  ha.run w s FB.tr P fun a x H1 s1 w1 q1 ⟨p, xs, e, q, pr⟩ P1=>⟨p, xs, by rw [e], .inl q, P1 _ H1 (Xx.refl _) (by rw [Paired.len pr]; rfl)⟩
theorem EH {ta tb : TE} {ma : Res (List Int)} {mb : Res Int} (ha : EvB K Er S OO σ ta (rL Xa) ma) (hb : EvB K Er S OO σ tb Xa mb) : EvB K Er S OO σ (tOp (HL K) ta tb) Xa (ma.bind fun as=>mb.bind fun i=>atR as i):=fun H Q w s P=>
  ha.run w s FB.tr P fun a x H1 s1 w1 q1 ⟨p, xs, e, q, pr⟩ P1=>hb.run w1 q1 FB.tr P1 fun b y H2 s2 w2 q2 r2 P2=>by
    obtain ⟨c, hc, P3⟩:=P2.okOf fun x=>KJ
    obtain ⟨u, h1, h2⟩:=QV pr (K9 hc)
    exact ⟨p, xs, b, u, e, r2, s2.seq q, h1, P3 u H2 (Xx.refl _) h2⟩
theorem Do {te : TE} {tl th : TO} {m : Res (List Int)} {ml mh : Res (Option Int)} (he : EvB K Er S OO σ te (rL Xa) m) (hl : EvP Er S OO σ tl ml) (hh : EvP Er S OO σ th mh) :
    Ev K Er S OO OO σ (tSl (IE K) te tl th) (oL (oF Xa)) (m.bind fun as=>ml.bind fun lo=>mh.bind fun hi=>.ok (Qj as lo hi)):=fun H Q w s P=>
  he.run w s FO.tr P fun as x H1 s1 w1 q1 ⟨p, xs, e, q, pr⟩ P1=>hl.run w1 q1 FO.tr P1 fun lo H2 s2 w2 q2 P2=>hh.run w2 q2 FO.tr P2 fun hi H3 s3 w3 q3 P3'=>
    ⟨p, xs, e, s3.seq (s2.seq q), EN w3 (QO (Paired.imp2 (fun _ _ h=>h) pr) lo hi) P3'⟩
noncomputable def UR (as bs : List α) : Res (List α):=chk (as.length + bs.length <= sizeLine) (.ok (as ++ bs))
theorem QY {ta tb : TE} {r : Enc α} [z : MonoE r] {ma mb : Res (List α)} (ha : EvL K Er S OO σ ta r ma) (hb : EvL K Er S OO σ tb r mb) : Ev K Er S OO OO σ (tOp Lv ta tb) (oL (oF r)) (ma.bind fun as=>mb.bind fun bs=>UR as bs):=fun H Q w s P=>
  ha.run w s FO.tr P fun as x H1 s1 w1 q1 ⟨p, xs, e, q, pr⟩ P1=>hb.run w1 q1 FO.tr P1 fun bs y H2 s2 w2 q2 ⟨p', ys, e', q', pr'⟩ P2=>by
    obtain ⟨c, hc, P3⟩:=P2.okOf fun x=>Qi
    obtain ⟨h1, h2⟩:=Zf hc
    cases h2
    exact ⟨p, p', xs, ys, e, e', s2 _ _ q, q', by rw [Paired.len pr, Paired.len pr']; exact h1, EN w2 (Paired.app (Paired.imp2 (fun _ _ h=>z.mono (Xm s2) h) pr) pr') P3⟩
noncomputable def CO (as : List α) (n : Int) : Res (List α):=chk (-(2 ^ 63) <= n /\ n < 2 ^ 63 /\ as.length * n.toNat <= sizeLine) (.ok (List.replicate n.toNat as).flatten)
theorem Kx {ta tb : TE} {r : Enc α} [z : MonoE r] {ma : Res (List α)} {mb : Res Int} (ha : EvL K Er S OO σ ta r ma) (hb : EvB K Er S OO σ tb Xa mb) : Ev K Er S OO OO σ (tOp Ly ta tb) (oL (oF r)) (ma.bind fun as=>mb.bind fun n=>CO as n):=fun H Q w s P=>
  ha.run w s FO.tr P fun as x H1 s1 w1 q1 ⟨p, xs, e, q, pr⟩ P1=>hb.run w1 q1 FO.tr P1 fun n y H2 s2 w2 q2 r2 P2=>by
    obtain ⟨c, hc, P3⟩:=P2.okOf fun x=>Qi
    obtain ⟨⟨h0, h1, h3⟩, h2⟩:=Zf hc
    cases h2
    exact ⟨p, n, xs, e, r2, s2 _ _ q, h0, h1, by rw [Paired.len pr]; exact h3, EN w2 (Paired.rep' (Paired.imp2 (fun _ _ h=>z.mono (Xm s2) h) pr) _) P3⟩
theorem Vz {ta : TE} {r : Enc α} [z : MonoE r] {ma : Res (List α)} (ha : EvL K Er S OO σ ta r ma) : Ev K Er S OO OO σ (tCB (Fi K) (XG ta ZB)) (oL (oF r)) (ma.bind fun as=>.ok as):=fun H Q w s P=>
  ha.run w s FO.tr P fun as x H1 s1 w1 q1 ⟨p, xs, e, q, pr⟩ P1=>⟨p, xs, by rw [e], .inl (SqL.of q), EN w1 pr P1⟩
noncomputable def ZT (lo hi : Int) : List Int:=(List.range (hi - lo).toNat).map fun (i : Nat)=>lo + (i : Int)
theorem UF {ta : TE} {ma : Res Int} (ha : EvB K Er S OO σ ta Xa ma) : Ev K Er S OO OO σ (Kz (XG ta ZB)) (oL (oF Xa)) (ma.bind fun n=>chk (0 <= n /\ n <= 1000) (.ok (ZT 0 n))):=fun H Q w s P=>
  ha.run w s FO.tr P fun n x H1 s1 w1 q1 r1 P1=>by
    obtain ⟨c, hc, P3⟩:=P1.okOf fun x=>Qi
    obtain ⟨⟨h0, h1⟩, h2⟩:=Zf hc
    cases h2
    refine ⟨n, by rw [show x = .int n from r1], h0, h1, EN w1 ?_ P3⟩
    unfold ZT
    rw [Int.sub_zero]
    have : ∀ l : List Nat, Paired (Xa K (hid H1 OO)) (l.map fun (i : Nat)=>V.int (i : Int)) (l.map fun (i : Nat)=>(0 : Int) + (i : Int)):=fun l=>by
      induction l with
      | nil=>exact .nil
      | cons a l ih=>exact .cons (by show V.int (a : Int) = V.int (0 + (a : Int)); rw [Int.zero_add]) ih
    exact this _
theorem ZR {o : OE α} : Ev K Er S OO OO σ (CY ZB) (oL o) (.ok []):=fun H Q w s P=>⟨Nat.zero_le _, fun p hp=>P (.ref p) [(p, .lst [])] _ (XF hp _) (w.new hp rfl) (JK hp) ⟨p, [], [], rfl, .nil, rfl⟩⟩
noncomputable def FA {α : Type} (K : PySem.W.Frag) (OO : List (List XA)) (r : Enc α) (Q : List V -> Hp -> Prop) (as : List α) (H : Hp) : Prop:=∀ vs H', Xx H H' -> Paired (r K (hid H' OO)) vs as -> Q vs H'
noncomputable def EvA {α : Type} (K : PySem.W.Frag) (Er : Exc -> Hp -> Prop) (S : SC) (OO : List (List XA)) (σ : St) (t : TA) (r : Enc α) (m : Res (List α)) : Prop:=∀ H Q, W OO H -> S.p (hid H OO) -> PZ Er (FA K OO r Q) H m -> t σ H Q
theorem X9 {r : Enc α} : EvA K Er S OO σ ZB r (.ok []):=fun H Q w s P=>P [] H (Xx.refl _) .nil
theorem Xo {te : TE} {t : TA} {r : Enc α} [z : MonoE r] {m : Res α} {n : Res (List α)} (he : EvS K Er S OO σ te r m) (ht : EvA K Er S OO σ t r n) : EvA K Er S OO σ (XG te t) r (m.bind fun a=>n.bind fun as=>.ok (a :: as)):=fun H Q w s P=>
  he.run w s (fun b H H' s h vs H2 s2 p=>h vs H2 (s.trans s2) p) P fun a x H1 s1 w1 q1 r1 P1=>by
    refine ht H1 _ w1 q1 ?_
    cases e : n with
    | bad=>rw [e] at P1; exact P1
    | err x=>rw [e] at P1; exact P1
    | ok as=>rw [e] at P1; exact fun vs H2 s2 p=>P1 (x :: vs) H2 s2 (.cons (z.mono (Xm s2) r1) p)
theorem YU {t : TA} {r : Enc α} [z : MonoE r] {m : Res (List α)} (h : EvA K Er S OO σ t r m) : Ev K Er S OO OO σ (CY t) (oL (oF r)) (m.bind fun as=>chk (as.length <= sizeLine) (.ok as)):=fun H Q w s P=>by
  refine h H _ w s ?_
  cases e : m with
  | bad=>rw [e] at P; exact P
  | err x=>rw [e] at P; exact P
  | ok as=>
    rw [e] at P
    intro vs H1 s1 p
    obtain ⟨c, hc, P3⟩:=PZ.okOf (fun x=>Qi) (show PZ Er _ H (chk (as.length <= sizeLine) (.ok as)) from P)
    obtain ⟨h1, h2⟩:=Zf hc
    cases h2
    exact ⟨by rw [Paired.len p]; exact h1, EN (w.keep s1) p (FO.tr _ _ _ s1 P3)⟩
theorem VV {t : TA} {r : Enc α} [z : MonoE r] {m : Res (List α)} (h : EvA K Er S OO σ t r m) : EvS K Er S OO σ (E8 t) (rPL r) (m.bind fun as=>chk (as.length <= sizeLine) (.ok as)):=fun H Q w s P=>by
  refine h H _ w s ?_
  cases e : m with
  | bad=>rw [e] at P; exact P
  | err x=>rw [e] at P; exact P
  | ok as=>
    rw [e] at P
    intro vs H1 s1 p
    obtain ⟨c, hc, P3⟩:=PZ.okOf (fun x=>Qi) (show PZ Er _ H (chk (as.length <= sizeLine) (.ok as)) from P)
    obtain ⟨h1, h2⟩:=Zf hc
    cases h2
    have w1:=w.keep s1
    refine ⟨by rw [Paired.len p]; exact h1, fun a ha=>P3 _ _ (s1.trans (XF ha _)) ⟨a, vs, rfl, QB w1 ha, Paired.imp2 (fun _ _ q=>z.mono (Xm (XF ha _)) q) p⟩⟩
theorem CB {ta tb : TE} {r : Enc α} {q : Enc β} [z : MonoE r] [y : MonoE q] {ma : Res α} {mb : Res β} (ha : EvS K Er S OO σ ta r ma) (hb : EvS K Er S OO σ tb q mb) : EvS K Er S OO σ (E8 (XG ta (XG tb ZB))) (rP2 r q) (ma.bind fun a=>mb.bind fun b=>.ok (a, b)):=fun H Q w s P=>
  ha.run w s FS.tr P fun a x H1 s1 w1 q1 r1 P1=>hb.run w1 q1 FS.tr P1 fun b y' H2 s2 w2 q2 r2 P2=>
    ⟨by show 2 <= sizeLine; decide, fun p hp=>P2 _ _ (XF hp _) ⟨p, x, y', rfl, QB w2 hp, z.mono ((Xm s2).trans (Xm (XF hp _))) r1, y.mono (Xm (XF hp _)) r2⟩⟩
theorem Y1 {ta tb tc : TE} {r : Enc α} {q : Enc β} {t : Enc γ} [z : MonoE r] [y : MonoE q] [x : MonoE t] {ma : Res α} {mb : Res β} {mc : Res γ} (ha : EvS K Er S OO σ ta r ma) (hb : EvS K Er S OO σ tb q mb) (hc : EvS K Er S OO σ tc t mc) :
    EvS K Er S OO σ (E8 (XG ta (XG tb (XG tc ZB)))) (rP3 r q t) (ma.bind fun a=>mb.bind fun b=>mc.bind fun c=>.ok (a, b, c)):=fun H Q w s P=>
  ha.run w s FS.tr P fun a x' H1 s1 w1 q1 r1 P1=>hb.run w1 q1 FS.tr P1 fun b y' H2 s2 w2 q2 r2 P2=>hc.run w2 q2 FS.tr P2 fun c z' H3 s3 w3 q3 r3 P3=>
    ⟨by show 3 <= sizeLine; decide, fun p hp=>P3 _ _ (XF hp _) ⟨p, x', y', z', rfl, QB w3 hp, z.mono (((Xm s2).trans (Xm s3)).trans (Xm (XF hp _))) r1, y.mono ((Xm s3).trans (Xm (XF hp _))) r2, x.mono (Xm (XF hp _)) r3⟩⟩
end
end L2
namespace L2
open PySem PySem.Spec PyProof.Rows
section
variable {K : PySem.W.Frag} {Er : Exc -> Hp -> Prop} {S : SC} {OO OO' OO2 : List (List XA)} {σ : St} {α β γ ρ ι : Type} {α1 α2 α3 α4 α5 α6 : Type}
noncomputable def noE (m : Res α) : Res α:=match m with
  | .ok a=>.ok a
  | _=>.bad
theorem K8 {m : Res α} {a : α} (h : noE m = .ok a) : m = .ok a:=by
  cases m with
  | ok b=>exact h
  | bad=>cases h
  | err x=>cases h
theorem KR {m : Res α} {x : Exc} : noE m ≠ .err x:=by cases m <;> exact fun z=>nomatch z
noncomputable def FF (K : PySem.W.Frag) (o : OE α) (Q : VK) (a : α) (H : Hp) : Prop:=∀ v C H', W [C] H' -> Xx H (hid H' [C]) -> o K (hid H' [C]) v a C -> Q v H'
noncomputable def sp1 (r1 : Enc α1) (o : OE ρ) (f : α1 -> Res ρ) (K : PySem.W.Frag) : Sp:=fun vs H Q _=>∃ v1 a1 b, vs = [v1] /\ r1 K H v1 a1 /\ f a1 = .ok b /\ FF K o Q b H
noncomputable def sp2 (r1 : Enc α1) (r2 : Enc α2) (o : OE ρ) (f : α1 -> α2 -> Res ρ) (K : PySem.W.Frag) : Sp:=fun vs H Q _=>∃ v1 v2 a1 a2 b, vs = [v1, v2] /\ r1 K H v1 a1 /\ r2 K H v2 a2 /\ f a1 a2 = .ok b /\ FF K o Q b H
noncomputable def sp3 (r1 : Enc α1) (r2 : Enc α2) (r3 : Enc α3) (o : OE ρ) (f : α1 -> α2 -> α3 -> Res ρ) (K : PySem.W.Frag) : Sp:=fun vs H Q _=>∃ v1 v2 v3 a1 a2 a3 b, vs = [v1, v2, v3] /\ r1 K H v1 a1 /\ r2 K H v2 a2 /\ r3 K H v3 a3 /\ f a1 a2 a3 = .ok b /\ FF K o Q b H
noncomputable def sp5 (r1 : Enc α1) (r2 : Enc α2) (r3 : Enc α3) (r4 : Enc α4) (r5 : Enc α5) (o : OE ρ) (f : α1 -> α2 -> α3 -> α4 -> α5 -> Res ρ) (K : PySem.W.Frag) : Sp:=fun vs H Q _=>∃ v1 v2 v3 v4 v5 a1 a2 a3 a4 a5 b, vs = [v1, v2, v3, v4, v5] /\ r1 K H v1 a1 /\ r2 K H v2 a2 /\ r3 K H v3 a3 /\ r4 K H v4 a4 /\ r5 K H v5 a5 /\ f a1 a2 a3 a4 a5 = .ok b /\ FF K o Q b H
theorem IR {C : List XA} {H H' : Hp} (w : W OO H) (w' : W [C] H') (m' : Xx H (hid H' [C])) : W (C :: OO) H' /\ Xx (hid H OO) (hid H' (C :: OO)) /\ JC (hid H' [C]) (hid H' (C :: OO)):=by
  have s : Xx H H':=m'.trans XL
  have f1 : fl [C] = C.map (·.1):=by simp [fl]
  have hd : ∀ b, b ∈ fl OO -> b ∉ C.map (·.1):=fun b hb hc=>by
    obtain ⟨u, hu⟩:=Dp hb
    exact (YO (m' _ _ (w.tr _ hu))).2 (by rw [f1]; exact hc)
  have w2 : W (C :: OO) H':=by
    refine ⟨fun c hc=>?_, ?_, fun c hc=>?_⟩
    . rw [List.flatten_cons, List.mem_append] at hc
      rcases hc with hc | hc
      . exact w'.tr c (by simp [hc])
      . exact s _ _ (w.tr c hc)
    . rw [Y7]
      refine List.nodup_append.mpr ⟨by rw [← f1]; exact w'.nd, w.nd, fun a ha b hb e=>?_⟩
      subst e; exact hd a hb ha
    . rw [List.flatten_cons, List.mem_append] at hc
      rcases hc with hc | hc
      . exact w'.mu c (by simp [hc])
      . exact w.mu c hc
  refine ⟨w2, fun b u q=>?_, fun b u q i=>?_⟩
  . obtain ⟨q1, q2⟩ := YO q
    obtain ⟨q3, q4⟩:=YO (m' _ _ q1)
    refine QA q3 ?_
    rw [Y7, List.mem_append]
    exact fun z=>z.elim (fun z=>q4 (by rw [f1]; exact z)) q2
  . exact w2.i b u (YO q).1 i
theorem Vv {o : OE α} [z : FlatO o] {Q : VK} {b : α} {H : Hp} (w : W OO H) (P : FO K OO OO o Q b H) : FF K o Q b H:=fun v C H' w' m' ho=>by
  obtain ⟨w2, h2, h3⟩:=IR w w' m'
  exact P v C H' (m'.trans XL) w2 h2 (z.flat h3 ho)
theorem Jj {ta : TE} {r1 : Enc α1} {o : OE ρ} [FlatO o] {f : α1 -> Res ρ} {ma : Res α1} (ha : EvB K Er S OO σ ta r1 ma) : Ev K Er S OO OO σ (GQ (sp1 r1 o f K) [] E0 (XG ta ZB)) o (ma.bind fun a=>noE (f a)):=fun H Q w s P=>
  ha.run w s FO.tr P fun a x H1 s1 w1 q1 r1 P1=>by
    obtain ⟨b, hb, P2⟩:=P1.okOf fun x=>KR
    exact ⟨x, a, b, rfl, r1, K8 hb, Vv w1 P2⟩
theorem XN {ta tb : TE} {r1 : Enc α1} {r2 : Enc α2} [z1 : MonoE r1] {o : OE ρ} [FlatO o] {f : α1 -> α2 -> Res ρ} {ma : Res α1} {mb : Res α2} (ha : EvB K Er S OO σ ta r1 ma) (hb : EvB K Er S OO σ tb r2 mb) :
    Ev K Er S OO OO σ (GQ (sp2 r1 r2 o f K) [] E0 (XG ta (XG tb ZB))) o (ma.bind fun a=>mb.bind fun b=>noE (f a b)):=fun H Q w s P=>
  ha.run w s FO.tr P fun a x H1 s1 w1 q1 r1 P1=>hb.run w1 q1 FO.tr P1 fun b y H2 s2 w2 q2 r2 P2=>by
    obtain ⟨c, hc, P3⟩:=P2.okOf fun x=>KR
    exact ⟨x, y, a, b, c, rfl, z1.mono s2 r1, r2, K8 hc, Vv w2 P3⟩
theorem Yl {ta tb tc : TE} {r1 : Enc α1} {r2 : Enc α2} {r3 : Enc α3} [z1 : MonoE r1] [z2 : MonoE r2] {o : OE ρ} [FlatO o] {f : α1 -> α2 -> α3 -> Res ρ} {ma : Res α1} {mb : Res α2} {mc : Res α3} (ha : EvB K Er S OO σ ta r1 ma) (hb : EvB K Er S OO σ tb r2 mb) (hc : EvB K Er S OO σ tc r3 mc) :
    Ev K Er S OO OO σ (GQ (sp3 r1 r2 r3 o f K) [] E0 (XG ta (XG tb (XG tc ZB)))) o (ma.bind fun a=>mb.bind fun b=>mc.bind fun c=>noE (f a b c)):=fun H Q w s P=>
  ha.run w s FO.tr P fun a x H1 s1 w1 q1 r1 P1=>hb.run w1 q1 FO.tr P1 fun b y H2 s2 w2 q2 r2 P2=>hc.run w2 q2 FO.tr P2 fun c z H3 s3 w3 q3 r3 P3=>by
    obtain ⟨d, hd, P4⟩:=P3.okOf fun x=>KR
    exact ⟨x, y, z, a, b, c, d, rfl, z1.mono (s2.trans s3) r1, z2.mono s3 r2, r3, K8 hd, Vv w3 P4⟩
theorem Jm {ta tb tc td te : TE} {r1 : Enc α1} {r2 : Enc α2} {r3 : Enc α3} {r4 : Enc α4} {r5 : Enc α5} [z1 : MonoE r1] [z2 : MonoE r2] [z3 : MonoE r3] [z4 : MonoE r4] {o : OE ρ} [FlatO o] {f : α1 -> α2 -> α3 -> α4 -> α5 -> Res ρ} {ma : Res α1} {mb : Res α2} {mc : Res α3} {md : Res α4} {me : Res α5} (ha : EvB K Er S OO σ ta r1 ma) (hb : EvB K Er S OO σ tb r2 mb) (hc : EvB K Er S OO σ tc r3 mc) (hd : EvB K Er S OO σ td r4 md) (he : EvB K Er S OO σ te r5 me) :
    Ev K Er S OO OO σ (GQ (sp5 r1 r2 r3 r4 r5 o f K) [] E0 (XG ta (XG tb (XG tc (XG td (XG te ZB)))))) o (ma.bind fun a=>mb.bind fun b=>mc.bind fun c=>md.bind fun d=>me.bind fun e=>noE (f a b c d e)):=fun H Q w s P=>
  ha.run w s FO.tr P fun a x H1 s1 w1 q1 r1 P1=>hb.run w1 q1 FO.tr P1 fun b y H2 s2 w2 q2 r2 P2=>hc.run w2 q2 FO.tr P2 fun c z H3 s3 w3 q3 r3 P3=>hd.run w3 q3 FO.tr P3 fun d u H4 s4 w4 q4 r4 P4=>he.run w4 q4 FO.tr P4 fun e t H5 s5 w5 q5 r5 P5=>by
    obtain ⟨g, hg, P6⟩:=P5.okOf fun x=>KR
    exact ⟨x, y, z, u, t, a, b, c, d, e, g, rfl, z1.mono (s2.trans (s3.trans (s4.trans s5))) r1, z2.mono (s3.trans (s4.trans s5)) r2, z3.mono (s4.trans s5) r3, z4.mono s5 r4, r5, K8 hg, Vv w5 P6⟩
structure Jn (γ ι : Type) where
  oo : ι -> List (List XA)
  ss : ι -> St
  sc : γ -> ι -> SC
inductive Ctl (ρ γ : Type) where
  | ret (r : ρ) | nx (g : γ)
noncomputable def FTd (K : PySem.W.Frag) (o : OE ρ) (D : Ends) (r : ρ) (h : Hp) : Prop:=∀ v C OO' H', W (C :: OO') H' -> Xx h (hid H' (C :: OO')) -> o K (hid H' (C :: OO')) v r C -> D.rt v H'
noncomputable def FNd (J : Jn γ ι) (D : Ends) (g : γ) (h : Hp) : Prop:=∀ x H', W (J.oo x) H' -> Xx h (hid H' (J.oo x)) -> (J.sc g x).p (hid H' (J.oo x)) -> D.nx (J.ss x) H'
noncomputable def FCd (K : PySem.W.Frag) (o : OE ρ) (J : Jn γ ι) (D : Ends) (c : Ctl ρ γ) (h : Hp) : Prop:=match c with
  | .ret r=>FTd K o D r h
  | .nx g=>FNd J D g h
class FdOk (Fd : Ends -> β -> Hp -> Prop) : Prop where
  tr : ∀ D b h h', Xx h h' -> Fd D b h -> Fd D b h'
instance {o : OE ρ} : FdOk (FTd K o):=⟨fun D b h h' s q v C O H' w m x=>q v C O H' w (s.trans m) x⟩
instance {J : Jn γ ι} : FdOk (FNd J):=⟨fun D b h h' s q x H' w m y=>q x H' w (s.trans m) y⟩
instance {o : OE ρ} {J : Jn γ ι} : FdOk (FCd K o J):=⟨fun D b h h' s q=>by
  cases b with
  | ret r=>exact fun v C O H' w m x=>q v C O H' w (s.trans m) x
  | nx g=>exact fun x H' w m y=>q x H' w (s.trans m) y⟩
theorem PZ.tr {F : β -> Hp -> Prop} (hF : ∀ b H H', Xx H H' -> F b H -> F b H') {H H' : Hp} {m : Res β} (s : Xx H H') (P : PZ Er F H m) : PZ Er F H' m:=by
  cases m with
  | bad=>exact P
  | err x=>exact fun H2 s2=>P H2 (s.trans s2)
  | ok b=>exact hF b H H' s P
noncomputable def Sv (Er : Exc -> Hp -> Prop) (S : SC) (OO : List (List XA)) (σ : St) (t : TS) (Fd : Ends -> β -> Hp -> Prop) (m : Res β) : Prop:=∀ H D, W OO H -> S.p (hid H OO) -> PZ Er (Fd D) (hid H OO) m -> t D σ H
variable {Fd : Ends -> β -> Hp -> Prop} [fd : FdOk Fd] {u : TS}
theorem Ev.st {te : TE} {o : OE α} {m : Res α} (he : Ev K Er S OO OO' σ te o m) {H : Hp} {D : Ends} {Q : VK} (w : W OO H) (s : S.p (hid H OO)) {f : α -> Res β} (P : PZ Er (Fd D) (hid H OO) (m.bind f))
    (hk : ∀ a v C H', W (C :: OO') H' -> S.p (hid H' (C :: OO')) -> o K (hid H' (C :: OO')) v a C -> PZ Er (Fd D) (hid H' (C :: OO')) (f a) -> Q v H') : te σ H Q:=by
  refine he H Q w s ?_
  cases m with
  | bad=>exact P
  | err x=>exact fun H' s'=>P H' (XL.trans s')
  | ok a=>exact fun v C H' s' w' m' ho=>hk a v C H' w' (S.mono _ _ m' s) ho (PZ.tr (fd.tr D) m' P)
theorem EvB.st {te : TE} {r : Enc α} {m : Res α} (he : EvB K Er S OO σ te r m) {H : Hp} {D : Ends} {Q : VK} (w : W OO H) (s : S.p (hid H OO)) {f : α -> Res β} (P : PZ Er (Fd D) (hid H OO) (m.bind f))
    (hk : ∀ a v H', Xx H H' -> W OO H' -> S.p (hid H' OO) -> r K H' v a -> PZ Er (Fd D) (hid H' OO) (f a) -> Q v H') : te σ H Q:=by
  refine he H Q w s ?_
  cases m with
  | bad=>exact P
  | err x=>exact fun H' s'=>P H' (XL.trans s')
  | ok a=>exact fun v H' s' hr=>hk a v H' s' (w.keep s') (S.mono _ _ (Xm s') s) hr (PZ.tr (fd.tr D) (Xm s') P)
theorem EvS.st {te : TE} {r : Enc α} {m : Res α} (he : EvS K Er S OO σ te r m) {H : Hp} {D : Ends} {Q : VK} (w : W OO H) (s : S.p (hid H OO)) {f : α -> Res β} (P : PZ Er (Fd D) (hid H OO) (m.bind f))
    (hk : ∀ a v H', Xx H H' -> W OO H' -> S.p (hid H' OO) -> r K (hid H' OO) v a -> PZ Er (Fd D) (hid H' OO) (f a) -> Q v H') : te σ H Q:=by
  refine he H Q w s ?_
  cases m with
  | bad=>exact P
  | err x=>exact fun H' s'=>P H' (XL.trans s')
  | ok a=>exact fun v H' s' hr=>hk a v H' s' (w.keep s') (S.mono _ _ (Xm s') s) hr (PZ.tr (fd.tr D) (Xm s') P)
theorem EvT.st {tt : TT} {m : Res Bool} (he : EvT Er S OO σ tt m) {H : Hp} {D : Ends} {Q : Bool -> Hp -> Prop} (w : W OO H) (s : S.p (hid H OO)) {f : Bool -> Res β} (P : PZ Er (Fd D) (hid H OO) (m.bind f))
    (hk : ∀ b H', W OO H' -> S.p (hid H' OO) -> PZ Er (Fd D) (hid H' OO) (f b) -> Q b H') : tt σ H Q:=by
  refine he H Q w s ?_
  cases m with
  | bad=>exact P
  | err x=>exact fun H' s'=>P H' (XL.trans s')
  | ok a=>exact fun H' s'=>hk a H' (w.keep s') (S.mono _ _ (Xm s') s) (PZ.tr (fd.tr D) (Xm s') P)
theorem set_set {OO : List (List XA)} {k : Nat} {C : List XA} : (OO.set k C).set k [] = OO.set k []:=by simp
theorem LN {C : List XA} {H : Hp} {k : Nat} (w : W (C :: OO) H) (hk : k < OO.length) : W (OO.set k C) H /\ Xx (hid H (C :: OO)) (hid H (OO.set k C)):=by
  have h1:=X1 (OO:=OO) (k:=k) (C:=OO[k]) (by simp [hk])
  have h2:=X1 (OO:=OO.set k C) (k:=k) (C:=C) (by simp [hk])
  rw [set_set] at h2
  have h3 : (OO.set k C).flatten.Perm (C ++ (OO.set k []).flatten):=by simpa using h2.symm
  have h4 : (C :: OO).flatten.Perm (C ++ (OO[k] ++ (OO.set k []).flatten)):=by
    rw [List.flatten_cons]; exact (by simpa using h1.symm : OO.flatten.Perm (OO[k] ++ (OO.set k []).flatten)).append_left C
  have h5 : (C ++ (OO.set k []).flatten).Sublist (C ++ (OO[k] ++ (OO.set k []).flatten)):=List.Sublist.append (List.Sublist.refl _) (List.sublist_append_right _ _)
  have w1 : W [C ++ (OO[k] ++ (OO.set k []).flatten)] H:=w.of (by simpa using h4.symm)
  have w2 : W [C ++ (OO.set k []).flatten] H:=w1.sub (by simpa using h5)
  refine ⟨w2.of (by simpa using h3), Qo (Xx.refl _) fun b hb=>?_⟩
  obtain ⟨o, ho⟩:=Dp hb
  exact Vo (h4.mem_iff.mpr (h5.mem (h3.mem_iff.mp ho)))
theorem XR {te : TE} {o : OE α} [MonoO o] {m : Res α} {f : α -> Res β} (i k : Nat) (he : Ev K Er S OO OO' σ te o m) (hk : k < OO'.length) (hr : ∀ a v C, Sv Er (S.addO K o v a C) (OO'.set k C) (σ.set i (some v)) u Fd (f a)) : Sv Er S OO σ (JL (CS te (ZV i)) u) Fd (m.bind f):=fun H D w s P=>
  he.st w s P fun a v C H' w' s' ho P'=>by
    obtain ⟨w2, h2⟩:=LN w' hk
    exact hr a v C H' D w2 ⟨S.mono _ _ h2 s', MonoO.mono h2 ho⟩ (PZ.tr (fd.tr D) h2 P')
theorem XS {te : TE} {r : Enc α} [MonoE r] {m : Res α} {f : α -> Res β} (i : Nat) (he : EvS K Er S OO σ te r m) (hr : ∀ a v, Sv Er (S.add K r v a) OO (σ.set i (some v)) u Fd (f a)) : Sv Er S OO σ (JL (CS te (ZV i)) u) Fd (m.bind f):=fun H D w s P=>
  he.st w s P fun a v H' s1 w' s' ho P'=>hr a v H' D w' ⟨s', ho⟩ P'
theorem XD {te : TE} {o : OE ρ} {m : Res ρ} (he : Ev K Er S OO OO' σ te o m) : Sv Er S OO σ (JL (Ln te) u) (FTd K o) m:=fun H D w s P=>
  he H _ w s (by
    cases m with
    | bad=>exact P
    | err x=>exact fun H' s'=>P H' (XL.trans s')
    | ok a=>exact fun v C H' s' w' m' ho=>P v C OO' H' w' m' ho)
theorem Vk {J : Jn γ ι} {t : TS} {o : OE ρ} {m : Res γ} (h : Sv Er S OO σ t (FNd J) m) : Sv Er S OO σ t (FCd K o J) (m.bind fun r=>.ok (.nx r)):=fun H D w s P=>h H D w s (by
  cases m with
  | bad=>exact P
  | err x=>exact P
  | ok a=>exact P)
theorem Xq {J : Jn γ ι} (x : ι) (g : γ) (h1 : OO = J.oo x) (h2 : σ = J.ss x) (h3 : ∀ h, S.p h -> (J.sc g x).p h) : Sv Er S OO σ Fq (FNd J) (.ok g):=fun H D w s P=>by
  subst h1 h2
  exact P x H w (Xx.refl _) (h3 _ s)
theorem YQ {o : OE ρ} {c : TT} {t1 : TS} {mc : Res Bool} {m1 m2 : Res ρ} (hc : EvT Er S OO σ c mc) (h1 : Sv Er S OO σ t1 (FTd K o) m1) (h2 : Sv Er S OO σ u (FTd K o) m2) : Sv Er S OO σ (JL (Hj c t1 Fq) u) (FTd K o) (mc.bind fun b=>if b = true then m1 else m2):=fun H D w s P=>
  hc.st (Fd:=FTd K o) w s P fun b H' w' s' P'=>by
    cases b with
    | true=>rw [if_pos rfl] at P' ⊢; exact h1 H' _ w' s' P'
    | false=>exact h2 H' D w' s' P'
theorem V4 {o : OE ρ} {J : Jn γ ι} {c : TT} {t1 : TS} {mc : Res Bool} {m1 : Res ρ} {m2 : Res (Ctl ρ γ)} (hc : EvT Er S OO σ c mc) (h1 : Sv Er S OO σ t1 (FTd K o) m1) (h2 : Sv Er S OO σ u (FCd K o J) m2) : Sv Er S OO σ (JL (Hj c t1 Fq) u) (FCd K o J) (mc.bind fun b=>if b = true then m1.bind (fun r=>.ok (.ret r)) else m2):=fun H D w s P=>
  hc.st (Fd:=FCd K o J) w s P fun b H' w' s' P'=>by
    cases b with
    | true=>
      rw [if_pos rfl] at P' ⊢
      refine h1 H' _ w' s' ?_
      cases m1 with
      | bad=>exact P'
      | err x=>exact P'
      | ok a=>exact P'
    | false=>exact h2 H' D w' s' P'
theorem YS {c : TT} {t1 t2 : TS} {mc : Res Bool} {m1 m2 : Res β} (hc : EvT Er S OO σ c mc) (h1 : Sv Er S OO σ t1 Fd m1) (h2 : Sv Er S OO σ t2 Fd m2) : Sv Er S OO σ (Hj c t1 t2) Fd (mc.bind fun b=>if b = true then m1 else m2):=fun H D w s P=>
  hc.st w s P fun b H' w' s' P'=>by
    cases b with
    | true=>rw [if_pos rfl] at P' ⊢; exact h1 H' _ w' s' P'
    | false=>exact h2 H' D w' s' P'
theorem Yf {J : Jn γ ι} {t : TS} {m : Res γ} {f : γ -> Res β} (hb : Sv Er S OO σ t (FNd J) m) (hr : ∀ g x, Sv Er (J.sc g x) (J.oo x) (J.ss x) u Fd (f g)) : Sv Er S OO σ (JL t u) Fd (m.bind f):=fun H D w s P=>
  hb H _ w s (by
    cases m with
    | bad=>exact P
    | err x=>exact P
    | ok g=>exact fun x H' w' m' q=>hr g x H' D w' q (PZ.tr (fd.tr D) m' P))
noncomputable def Js (f : γ -> Res ρ) : Ctl ρ γ -> Res ρ
  | .ret r=>.ok r
  | .nx g=>f g
noncomputable def ZN {δ : Type} (f : γ -> Res (Ctl ρ δ)) : Ctl ρ γ -> Res (Ctl ρ δ)
  | .ret r=>.ok (.ret r)
  | .nx g=>f g
theorem Sv.weak {S2 : SC} {t : TS} {m : Res β} (h : Sv Er S2 OO σ t Fd m) (hs : ∀ x, S.p x -> S2.p x) : Sv Er S OO σ t Fd m:=fun H D w s P=>h H D w (hs _ s) P
theorem DN {t : TS} {o : OE α} {r : Enc α} [z : FrzC o r] [MonoE r] {v : V} {a : α} {C : List XA} {m : Res β} (k : Nat) (hk : OO[k]? = some C) (h : ∀ x, S.p x -> o K x v a C) (hr : Sv Er (S.add K r v a) (OO.set k []) σ t Fd m) : Sv Er S OO σ t Fd m:=fun H D w s P=>by
  have hp:=X1 hk
  have w1 : W (C :: OO.set k []) H:=w.of hp
  have hs : Xx (hid H OO) (hid H (OO.set k [])):=by
    rw [← XU hp]
    exact Qo (Xx.refl _) fun b hb=>by rw [Y7]; simp [hb]
  refine hr H D w1.tail ⟨S.mono _ _ hs s, z.frz (h _ s) hs fun c hc=>QA (w1.cell c hc) ?_⟩ (PZ.tr (fd.tr D) hs P)
  have:=w1.nd
  rw [Y7] at this
  exact fun hb=>(List.nodup_append.mp this).2.2 c.1 (List.mem_map.mpr ⟨c, hc, rfl⟩) c.1 hb rfl
theorem LP {C D C' : List XA} {H : Hp} {k : Nat} {p : Addr} {o : HO} (w : W (D :: OO) H) (hk : OO[k]? = some C) (hp : p ∈ C.map (·.1)) (hC : (C'.map (·.1)).Perm ((C ++ D).map (·.1))) (ht : ∀ c ∈ C', upd H p o c.1 = some c.2) (hm : ∀ c ∈ C', Hc c.2 = true) :
    W (OO.set k C') (upd H p o) /\ hid (upd H p o) (OO.set k C') = hid H (D :: OO):=by
  have hlt : k < OO.length:=by
    rcases Nat.lt_or_ge k OO.length with h | h
    . exact h
    . rw [List.getElem?_eq_none h] at hk; cases hk
  have h1:=X1 hk
  have h2:=X1 (OO:=OO.set k C') (k:=k) (C:=C') (by simp [hlt])
  rw [set_set] at h2
  have h3 : (OO.set k C').flatten.Perm (C' ++ (OO.set k []).flatten):=by simpa using h2.symm
  have h4 : (D :: OO).flatten.Perm (D ++ (C ++ (OO.set k []).flatten)):=by
    rw [List.flatten_cons]; exact (by simpa using h1.symm : OO.flatten.Perm (C ++ (OO.set k []).flatten)).append_left D
  have hfl : (fl (OO.set k C')).Perm (fl (D :: OO)):=by
    unfold fl
    refine (h3.map _).trans (List.Perm.trans ?_ (h4.map _).symm)
    simp only [List.map_append]
    refine (hC.append_right _).trans ?_
    simp only [List.map_append]
    rw [← List.append_assoc]
    exact List.perm_append_comm.append_right _
  have nd:=w.nd
  refine ⟨⟨fun c hc=>?_, hfl.nodup_iff.mpr nd, fun c hc=>?_⟩, ?_⟩
  . rcases List.mem_append.mp (h3.mem_iff.mp hc) with hc | hc
    . exact ht c hc
    . have hne : c.1 ≠ p:=fun e=>by
        have nd2 : ((D ++ (C ++ (OO.set k []).flatten)).map (·.1)).Nodup:=(h4.map _).nodup_iff.mp nd
        simp only [List.map_append] at nd2
        have nd3:=(List.nodup_append.mp nd2).2.1
        exact (List.nodup_append.mp nd3).2.2 p hp c.1 (List.mem_map.mpr ⟨c, hc, rfl⟩) e.symm
      rw [XT hne]
      exact w.tr c (h4.mem_iff.mpr (by simp [hc]))
  . rcases List.mem_append.mp (h3.mem_iff.mp hc) with hc | hc
    . exact hm c hc
    . exact w.mu c (h4.mem_iff.mpr (by simp [hc]))
  . funext b
    unfold hid
    by_cases hb : b ∈ fl (D :: OO)
    . rw [if_pos hb, if_pos (hfl.mem_iff.mpr hb)]
    . rw [if_neg hb, if_neg fun z => hb (hfl.mem_iff.mp z)]
      refine XT fun e=>hb ?_
      rw [e]
      obtain ⟨c, hc, rfl⟩:=List.mem_map.mp hp
      exact Vo (h4.mem_iff.mpr (by simp [hc]))
theorem ZA {Cs : List (List XA)} {D : List XA} : (Cs ++ [D]).flatten = Cs.flatten ++ D:=by simp
theorem ZO {ta : TE} {o : OE α} [MonoO o] {m : Res α} {f : List α -> Res β} {v : V} {as : List α} {C : List XA} (i k : Nat) (hσ : σ[i]? = some (some v)) (hk : OO[k]? = some C) (hk' : OO'[k]? = some C) (h : ∀ x, S.p x -> oL o K x v as C) (he : Ev K Er S OO OO' σ ta o m)
    (hr : ∀ a C', Sv Er (S.addO K (oL o) v (as ++ [a]) C') (OO'.set k C') σ u Fd (f (as ++ [a]))) : Sv Er S OO σ (JL (Ba (tBM K "list" Ko (US i) (XG ta ZB))) u) Fd (m.bind fun a=>chk (as.length < sizeLine) (f (as ++ [a]))):=fun H D w s P=>by
  obtain ⟨p, xs, Cs, e, q, c⟩:=h _ s
  subst c
  have hH : H p = some (.lst xs):=w.tr (p, .lst xs) (List.mem_flatten.mpr ⟨_, List.mem_of_getElem? hk, List.mem_cons_self⟩)
  refine ⟨v, hσ, by rw [e]; exact .inl ⟨rfl, _, SqL.of hH⟩, he.st w s P fun a y D' H' w' s' ho P'=>?_⟩
  obtain ⟨p', xs', Cs', e2, q2, c2⟩:=h _ s'
  rw [e] at e2; cases e2
  have c3 : (p, HO.lst xs) = (p, HO.lst xs') /\ Cs.flatten = Cs'.flatten:=by
    injection c2 with h1 h2
    exact ⟨h1, h2⟩
  obtain ⟨c3, c4⟩:=c3
  cases c3
  have hH' : H' p = some (.lst xs):=w'.tr (p, .lst xs) (by rw [List.flatten_cons]; exact List.mem_append_right _ (List.mem_flatten.mpr ⟨_, List.mem_of_getElem? hk', List.mem_cons_self⟩))
  cases hlt : decide (as.length < sizeLine) with
  | false=>rw [chk, if_neg (by simpa using hlt)] at P'; exact P'.elim
  | true=>
    have hlt' : as.length < sizeLine:=by simpa using hlt
    rw [Xv hlt'] at P'
    have wnd:=w'.nd
    have hcell : ∀ c ∈ (p, HO.lst (xs ++ [y])) :: (Cs' ++ [D']).flatten, upd H' p (.lst (xs ++ [y])) c.1 = some c.2:=fun c hc=>by
      rcases List.mem_cons.mp hc with rfl | hc
      . exact Yb
      . have hp1 := X1 hk'
        have w3 : W [D' ++ (((p, HO.lst xs) :: Cs.flatten) ++ (OO'.set k []).flatten)] H':=w'.of (by
          simp only [List.flatten_cons, List.flatten_nil, List.append_nil]
          exact (by simpa using hp1 : (((p, HO.lst xs) :: Cs.flatten) ++ (OO'.set k []).flatten).Perm OO'.flatten).append_left D')
        have hin : c ∈ D' ++ (((p, HO.lst xs) :: Cs.flatten) ++ (OO'.set k []).flatten):=by
          rw [ZA, List.mem_append] at hc
          rcases hc with hc | hc
          . rw [← c4] at hc; simp [hc]
          . simp [hc]
        have hne : c.1 ≠ p:=fun ee=>by
          have nd3:=w3.nd
          rw [ZA, List.mem_append, ← c4] at hc
          simp only [fl, List.flatten_cons, List.flatten_nil, List.append_nil, List.map_append, List.cons_append, List.map_cons] at nd3
          rw [List.nodup_append] at nd3
          obtain ⟨_, n2, n3⟩:=nd3
          rcases hc with hc | hc
          . exact (List.nodup_cons.mp n2).1 (List.mem_append_left _ (List.mem_map.mpr ⟨c, hc, ee⟩))
          . exact n3 c.1 (List.mem_map.mpr ⟨c, hc, rfl⟩) p List.mem_cons_self ee
        rw [XT hne]
        exact w3.tr c (by simpa using hin)
    obtain ⟨w4, h4⟩:=LP (C':=(p, .lst (xs ++ [y])) :: (Cs' ++ [D']).flatten) w' hk' List.mem_cons_self (by simp [ZA, c4]) hcell (fun c hc=>by
      rcases List.mem_cons.mp hc with rfl | hc
      . rfl
      . rw [ZA, List.mem_append, ← c4] at hc
        rcases hc with hc | hc
        . exact w'.mu c (by rw [List.flatten_cons]; exact List.mem_append_right _ (List.mem_flatten.mpr ⟨_, List.mem_of_getElem? hk', List.mem_cons_of_mem _ hc⟩))
        . exact w'.mu c (by rw [List.flatten_cons]; exact List.mem_append_left _ hc))
    refine ⟨p, xs, y, e, rfl, hH', by rw [(P3.len q).1]; exact hlt', ?_⟩
    refine hr a _ _ D w4 ?_ (by rw [h4]; exact P')
    rw [h4]
    exact ⟨s', ⟨p, xs ++ [y], Cs' ++ [D'], e, q2.snoc ho, rfl⟩⟩
end
end L2
namespace L2
open PySem PySem.Spec PyProof.Rows
section
variable {K : PySem.W.Frag} {Er : Exc -> Hp -> Prop} {S : SC} {OO OO' OO2 : List (List XA)} {σ : St} {α β γ ρ ι δ ε : Type}
variable {Fd : Ends -> β -> Hp -> Prop} [fd : FdOk Fd] {u : TS}
noncomputable def forN : List α -> γ -> (γ -> α -> Res γ) -> Res γ
  | [], g, _=>.ok g
  | a :: as, g, f=>(f g a).bind fun g'=>forN as g' f
noncomputable def forC : List α -> γ -> (γ -> α -> Res (Ctl ρ γ)) -> Res (Ctl ρ γ)
  | [], g, _=>.ok (.nx g)
  | a :: as, g, f=>(f g a).bind fun c=>match c with
    | .ret r=>.ok (.ret r)
    | .nx g'=>forC as g' f
theorem X6 {m : Res α} {f : α -> Res β} {g : β -> Res γ} : (m.bind f).bind g = m.bind fun a=>(f a).bind g:=by cases m <;> rfl
structure Tgt (K : PySem.W.Frag) (OO : List (List XA)) (g : TG) (r : Enc α) (κ : Type) where
  set : κ -> St -> St
  sc : α -> κ -> SC -> SC
  ok : ∀ {H : Hp} {v : V} {a : α} {σ : St} {S : SC} {Q : St -> Hp -> Prop}, r K (hid H OO) v a -> S.p (hid H OO) -> (∀ x, (sc a x S).p (hid H OO) -> Q (set x σ) H) -> g v σ H Q
noncomputable def tg1 {r : Enc α} [MonoE r] (i : Nat) : Tgt K OO (ZV i) r V where
  set:=fun v σ=>σ.set i (some v)
  sc:=fun a v S=>S.add K r v a
  ok:=fun {H v a σ S Q} hr hs hq=>hq v ⟨hs, hr⟩
noncomputable def tg3 {r : Enc α} {q : Enc β} {t : Enc γ} [MonoE r] [MonoE q] [MonoE t] (i j k : Nat) : Tgt K OO (IF K 3 (Vx (ZV i) (Vx (ZV j) (Vx (ZV k) II)))) (rP3 r q t) (V × V × V) where
  set:=fun v σ=>((σ.set i (some v.1)).set j (some v.2.1)).set k (some v.2.2)
  sc:=fun a v S=>((S.add K r v.1 a.1).add K q v.2.1 a.2.1).add K t v.2.2 a.2.2
  ok:=fun {H v a σ S Q} ⟨p, x, y, z, e, h, h1, h2, h3⟩ hs hq=>⟨p, _, e, SqT.of (XL _ _ h), rfl, x, [y, z], rfl, y, [z], rfl, z, [], rfl, rfl, hq (x, y, z) ⟨⟨⟨hs, h1⟩, h2⟩, h3⟩⟩
structure Walk (K : PySem.W.Frag) (Er : Exc -> Hp -> Prop) (S : SC) (OO : List (List XA)) (σ : St) (wi : TI) (r : Enc α) (m : Res (List α)) : Prop where
  ok : ∀ {H : Hp} {R : It -> Hp -> Prop}, W OO H -> S.p (hid H OO) -> PZ Er (fun as H=>∀ J H', Xx H H' ->
      (∀ (i : Nat) a, as[i]? = some a -> ∀ OO2 H2, W OO2 H2 -> Xx (hid H' OO) (hid H2 OO2) -> J.go i H2 /\ ∀ x H3, J.yld i H2 x H3 -> Xx H2 H3 /\ r K (hid H3 OO2) x a) ->
      (∀ OO2 H2, W OO2 H2 -> Xx (hid H' OO) (hid H2 OO2) -> J.stop as.length H2) -> R J H') H m -> wi σ H R
theorem Yo {te : TE} {r : Enc α} [z : MonoE r] {m : Res (List α)} (he : EvS K Er S OO σ te (rV r) m) : Walk K Er S OO σ (CF K te) r m:=⟨fun {H R} w s P=>by
  refine he H _ w s (P.imp fun as _ h v H' s' ⟨p, xs, e, hp, pr⟩=>⟨p, e, ⟨xs, SqL.of (XL _ _ hp)⟩, h _ H' s' ?_ ?_⟩)
  . intro i a ha OO2 H2 w2 m2
    obtain ⟨x, hx, rx⟩:=Paired.getR pr ha
    have hq : SqL K H2 p xs:=SqL.of (XL _ _ (m2 _ _ hp))
    refine ⟨⟨xs, x, hq, hx⟩, fun y H3 ⟨e3, hy⟩=>?_⟩
    subst e3
    refine ⟨Xx.refl _, ?_⟩
    have:=hy xs hq
    rw [hx] at this
    cases this
    exact z.mono m2 rx
  . intro OO2 H2 w2 m2
    exact ⟨xs, SqL.of (XL _ _ (m2 _ _ hp)), by rw [Paired.len pr]; exact Nat.le_refl _⟩⟩
theorem KW {te : TE} {r : Enc α} [z : MonoE r] {m : Res (List α)} (he : EvS K Er S OO σ te (rPL r) m) : Walk K Er S OO σ (I9 K te) r m:=⟨fun {H R} w s P=>by
  refine he H _ w s (P.imp fun as _ h v H' s' ⟨p, xs, e, hp, pr⟩=>⟨p, e, ⟨xs, SqT.of (XL _ _ hp)⟩, h _ H' s' ?_ ?_⟩)
  . intro i a ha OO2 H2 w2 m2
    obtain ⟨x, hx, rx⟩:=Paired.getR pr ha
    have hq : SqT K H2 p xs:=SqT.of (XL _ _ (m2 _ _ hp))
    refine ⟨⟨xs, x, hq, hx⟩, fun y H3 ⟨e3, hy⟩=>?_⟩
    subst e3
    refine ⟨Xx.refl _, ?_⟩
    have:=hy xs hq
    rw [hx] at this
    cases this
    exact z.mono m2 rx
  . intro OO2 H2 w2 m2
    exact ⟨xs, SqT.of (XL _ _ (m2 _ _ hp)), by rw [Paired.len pr]; exact Nat.le_refl _⟩⟩
theorem Gp {lo hi : Int} {i : Nat} {a : Int} (h : (ZT lo hi)[i]? = some a) : a = lo + i /\ i < (hi - lo).toNat:=by
  unfold ZT at h
  rw [List.getElem?_map] at h
  rcases Nat.lt_or_ge i (hi - lo).toNat with q | q
  . rw [List.getElem?_range q] at h; exact ⟨(Option.some.inj h).symm, q⟩
  . rw [List.getElem?_eq_none (by simpa using q)] at h; cases h
theorem Gv {lo hi : Int} : (ZT lo hi).length = (hi - lo).toNat:=by simp [ZT]
noncomputable def QU (lo hi : Int) : Res (List Int):=chk (-(2 ^ 62) <= lo /\ lo < 2 ^ 62 /\ -(2 ^ 62) <= hi /\ hi < 2 ^ 62) (.ok (ZT lo hi))
theorem XB {te : TE} {m : Res Int} (he : EvB K Er S OO σ te Xa m) : Walk K Er S OO σ (Ii (XG te ZB)) Xa (m.bind fun n=>QU 0 n):=⟨fun {H R} w s P=>
  he.run w s (fun as H H' s' h J H2 s2=>h J H2 (s'.trans s2)) P fun n v H1 s1 w1 q1 r1 P1=>by
    obtain ⟨c, hc, P2⟩:=P1.okOf fun x=>Qi
    obtain ⟨⟨_, _, h1, h2⟩, h3⟩:=Zf hc
    cases h3
    refine ⟨n, by rw [show v = .int n from r1], h1, h2, P2 _ H1 (Xx.refl _) (fun i a ha OO2 H2 w2 m2=>?_) fun OO2 H2 w2 m2=>?_⟩
    . obtain ⟨e1, e2⟩ := Gp ha
      rw [Int.sub_zero] at e2
      refine ⟨e2, fun x H3 ⟨e3, e4⟩=>?_⟩
      subst e3
      exact ⟨Xx.refl _, by rw [e4, e1]; rfl⟩
    . show n.toNat <= _
      rw [Gv, Int.sub_zero]; exact Nat.le_refl _⟩
theorem YR {wi : TI} {g : TG} {tb : TS} {r : Enc α} {κ : Type} {m : Res (List α)} {body : γ -> α -> Res γ} {f : γ -> Res β} (J : Jn γ ι) (T : ∀ OO, Tgt K OO g r κ) (x0 : ι) (g0 : γ) (he : Walk K Er S OO σ wi r m) (h1 : OO = J.oo x0) (h2 : σ = J.ss x0) (h3 : ∀ h, S.p h -> (J.sc g0 x0).p h)
    (hb : ∀ g x a v, Sv Er ((T (J.oo x)).sc a v (J.sc g x)) (J.oo x) ((T (J.oo x)).set v (J.ss x)) tb (FNd J) (body g a))
    (hr : ∀ g x, Sv Er (J.sc g x) (J.oo x) (J.ss x) u Fd (f g)) : Sv Er S OO σ (JL (HA wi g tb) u) Fd (m.bind fun as=>(forN as g0 body).bind f):=fun H D w s P=>by
  refine he.ok w s ?_
  cases em : m with
  | bad=>rw [em] at P; exact P
  | err x=>rw [em] at P; exact fun H' s'=>P H' (XL.trans s')
  | ok as=>
    rw [em] at P
    have P : PZ Er (Fd D) (hid H OO) ((forN as g0 body).bind f):=P
    intro It H' s' hgo hstop
    refine ⟨fun i mm σ' H2=>mm = as.length - i /\ i <= as.length /\ ∃ x gg, σ' = J.ss x /\ W (J.oo x) H2 /\ Xx (hid H' OO) (hid H2 (J.oo x)) /\ (J.sc gg x).p (hid H2 (J.oo x)) /\ PZ Er (Fd D) (hid H2 (J.oo x)) ((forN (as.drop i) gg body).bind f), ⟨as.length, rfl, Nat.zero_le _, x0, g0, h2, ?_, ?_, ?_, ?_⟩, ?_⟩
    . rw [← h1]; exact w.keep s'
    . rw [← h1]; exact Xx.refl _
    . rw [← h1]; exact h3 _ (S.mono _ _ (Xm s') s)
    . rw [← h1, List.drop_zero]; exact PZ.tr (fd.tr D) (Xm s') P
    . rintro i mm σ' H2 ⟨rfl, hi, x, gg, rfl, w2, m2, sc2, P2⟩
      by_cases hlt : i < as.length
      . right
        have ha : as[i]? = some as[i]:=by simp [hlt]
        obtain ⟨h4, h5⟩:=hgo i _ ha (J.oo x) H2 w2 m2
        refine ⟨h4, fun σ3 H3=>∃ x gg, σ3 = J.ss x /\ W (J.oo x) H3 /\ Xx (hid H' OO) (hid H3 (J.oo x)) /\ (J.sc gg x).p (hid H3 (J.oo x)) /\ PZ Er (Fd D) (hid H3 (J.oo x)) ((forN (as.drop (i + 1)) gg body).bind f), fun σ3 H3 q=>⟨as.length - (i + 1), Nat.sub_lt_sub_left hlt (Nat.lt_succ_self i), rfl, hlt, q⟩, fun y H3 hy=>?_⟩
        obtain ⟨s3, r3⟩:=h5 y H3 hy
        have w3:=w2.keep s3
        have m3:=Xm (OO:=J.oo x) s3
        refine (T (J.oo x)).ok r3 ((J.sc gg x).mono _ _ m3 sc2) fun v hv=>hb gg x as[i] v H3 _ w3 hv ?_
        rw [List.drop_eq_getElem_cons hlt] at P2
        have P3 : PZ Er (Fd D) (hid H2 (J.oo x)) ((body gg as[i]).bind fun g'=>(forN (as.drop (i + 1)) g' body).bind f):=by rw [← X6]; exact P2
        cases eb : body gg as[i] with
        | bad=>rw [eb] at P3; exact P3
        | err x=>rw [eb] at P3; exact fun H4 s4=>P3 H4 (m3.trans s4)
        | ok g'=>
          rw [eb] at P3
          exact fun x' H4 w4 m4 sc4=>⟨x', g', rfl, w4, m2.trans (m3.trans m4), sc4, PZ.tr (fd.tr D) (m3.trans m4) P3⟩
      . left
        have e : i = as.length:=Nat.le_antisymm hi (Nat.not_lt.mp hlt)
        subst e
        refine ⟨hstop (J.oo x) H2 w2 m2, hr gg x H2 D w2 sc2 ?_⟩
        rw [List.drop_length] at P2
        exact P2
theorem VG {o : OE ρ} {wi : TI} {g : TG} {tb : TS} {r : Enc α} {κ : Type} {m : Res (List α)} {body : γ -> α -> Res (Ctl ρ γ)} {f : γ -> Res ρ} (J : Jn γ ι) (T : ∀ OO, Tgt K OO g r κ) (x0 : ι) (g0 : γ) (he : Walk K Er S OO σ wi r m) (h1 : OO = J.oo x0) (h2 : σ = J.ss x0) (h3 : ∀ h, S.p h -> (J.sc g0 x0).p h)
    (hb : ∀ g x a v, Sv Er ((T (J.oo x)).sc a v (J.sc g x)) (J.oo x) ((T (J.oo x)).set v (J.ss x)) tb (FCd K o J) (body g a))
    (hr : ∀ g x, Sv Er (J.sc g x) (J.oo x) (J.ss x) u (FTd K o) (f g)) : Sv Er S OO σ (JL (HA wi g tb) u) (FTd K o) (m.bind fun as=>(forC as g0 body).bind (Js f)):=fun H D w s P=>by
  refine he.ok w s ?_
  cases em : m with
  | bad=>rw [em] at P; exact P
  | err x=>rw [em] at P; exact fun H' s'=>P H' (XL.trans s')
  | ok as=>
    rw [em] at P
    have P : PZ Er (FTd K o D) (hid H OO) ((forC as g0 body).bind (Js f)):=P
    intro It H' s' hgo hstop
    refine ⟨fun i mm σ' H2=>mm = as.length - i /\ i <= as.length /\ ∃ x gg, σ' = J.ss x /\ W (J.oo x) H2 /\ Xx (hid H' OO) (hid H2 (J.oo x)) /\ (J.sc gg x).p (hid H2 (J.oo x)) /\ PZ Er (FTd K o D) (hid H2 (J.oo x)) ((forC (as.drop i) gg body).bind (Js f)), ⟨as.length, rfl, Nat.zero_le _, x0, g0, h2, ?_, ?_, ?_, ?_⟩, ?_⟩
    . rw [← h1]; exact w.keep s'
    . rw [← h1]; exact Xx.refl _
    . rw [← h1]; exact h3 _ (S.mono _ _ (Xm s') s)
    . rw [← h1, List.drop_zero]; exact PZ.tr (FdOk.tr D) (Xm s') P
    . rintro i mm σ' H2 ⟨rfl, hi, x, gg, rfl, w2, m2, sc2, P2⟩
      by_cases hlt : i < as.length
      . right
        have ha : as[i]? = some as[i]:=by simp [hlt]
        obtain ⟨h4, h5⟩:=hgo i _ ha (J.oo x) H2 w2 m2
        refine ⟨h4, fun σ3 H3=>∃ x gg, σ3 = J.ss x /\ W (J.oo x) H3 /\ Xx (hid H' OO) (hid H3 (J.oo x)) /\ (J.sc gg x).p (hid H3 (J.oo x)) /\ PZ Er (FTd K o D) (hid H3 (J.oo x)) ((forC (as.drop (i + 1)) gg body).bind (Js f)), fun σ3 H3 q=>⟨as.length - (i + 1), Nat.sub_lt_sub_left hlt (Nat.lt_succ_self i), rfl, hlt, q⟩, fun y H3 hy=>?_⟩
        obtain ⟨s3, r3⟩:=h5 y H3 hy
        have w3:=w2.keep s3
        have m3:=Xm (OO:=J.oo x) s3
        refine (T (J.oo x)).ok r3 ((J.sc gg x).mono _ _ m3 sc2) fun v hv=>hb gg x as[i] v H3 _ w3 hv ?_
        rw [List.drop_eq_getElem_cons hlt] at P2
        have P3 : PZ Er (FTd K o D) (hid H2 (J.oo x)) ((body gg as[i]).bind fun c=>(match c with
          | .ret r=>Res.ok (Ctl.ret r)
          | .nx g'=>forC (as.drop (i + 1)) g' body).bind (Js f)):=by rw [← X6]; exact P2
        cases eb : body gg as[i] with
        | bad=>rw [eb] at P3; exact P3
        | err x=>rw [eb] at P3; exact fun H4 s4=>P3 H4 (m3.trans s4)
        | ok c=>
          rw [eb] at P3
          cases c with
          | ret r=>exact FdOk.tr (Fd:=FTd K o) D r _ _ m3 P3
          | nx g'=>exact fun x' H4 w4 m4 sc4=>⟨x', g', rfl, w4, m2.trans (m3.trans m4), sc4, PZ.tr (FdOk.tr D) (m3.trans m4) P3⟩
      . left
        have e : i = as.length:=Nat.le_antisymm hi (Nat.not_lt.mp hlt)
        subst e
        refine ⟨hstop (J.oo x) H2 w2 m2, hr gg x H2 D w2 sc2 ?_⟩
        rw [List.drop_length] at P2
        exact P2
theorem KH {κ2 : Type} {o : OE ρ} {J2 : Jn δ κ2} {wi : TI} {g : TG} {tb : TS} {r : Enc α} {κ : Type} {m : Res (List α)} {body : γ -> α -> Res (Ctl ρ γ)} {f : γ -> Res (Ctl ρ δ)} (J : Jn γ ι) (T : ∀ OO, Tgt K OO g r κ) (x0 : ι) (g0 : γ) (he : Walk K Er S OO σ wi r m) (h1 : OO = J.oo x0) (h2 : σ = J.ss x0) (h3 : ∀ h, S.p h -> (J.sc g0 x0).p h)
    (hb : ∀ g x a v, Sv Er ((T (J.oo x)).sc a v (J.sc g x)) (J.oo x) ((T (J.oo x)).set v (J.ss x)) tb (FCd K o J) (body g a))
    (hr : ∀ g x, Sv Er (J.sc g x) (J.oo x) (J.ss x) u (FCd K o J2) (f g)) : Sv Er S OO σ (JL (HA wi g tb) u) (FCd K o J2) (m.bind fun as=>(forC as g0 body).bind (ZN f)):=fun H D w s P=>by
  refine he.ok w s ?_
  cases em : m with
  | bad=>rw [em] at P; exact P
  | err x=>rw [em] at P; exact fun H' s'=>P H' (XL.trans s')
  | ok as=>
    rw [em] at P
    have P : PZ Er (FCd K o J2 D) (hid H OO) ((forC as g0 body).bind (ZN f)):=P
    intro It H' s' hgo hstop
    refine ⟨fun i mm σ' H2=>mm = as.length - i /\ i <= as.length /\ ∃ x gg, σ' = J.ss x /\ W (J.oo x) H2 /\ Xx (hid H' OO) (hid H2 (J.oo x)) /\ (J.sc gg x).p (hid H2 (J.oo x)) /\ PZ Er (FCd K o J2 D) (hid H2 (J.oo x)) ((forC (as.drop i) gg body).bind (ZN f)), ⟨as.length, rfl, Nat.zero_le _, x0, g0, h2, ?_, ?_, ?_, ?_⟩, ?_⟩
    . rw [← h1]; exact w.keep s'
    . rw [← h1]; exact Xx.refl _
    . rw [← h1]; exact h3 _ (S.mono _ _ (Xm s') s)
    . rw [← h1, List.drop_zero]; exact PZ.tr (FdOk.tr D) (Xm s') P
    . rintro i mm σ' H2 ⟨rfl, hi, x, gg, rfl, w2, m2, sc2, P2⟩
      by_cases hlt : i < as.length
      . right
        have ha : as[i]? = some as[i]:=by simp [hlt]
        obtain ⟨h4, h5⟩:=hgo i _ ha (J.oo x) H2 w2 m2
        refine ⟨h4, fun σ3 H3=>∃ x gg, σ3 = J.ss x /\ W (J.oo x) H3 /\ Xx (hid H' OO) (hid H3 (J.oo x)) /\ (J.sc gg x).p (hid H3 (J.oo x)) /\ PZ Er (FCd K o J2 D) (hid H3 (J.oo x)) ((forC (as.drop (i + 1)) gg body).bind (ZN f)), fun σ3 H3 q=>⟨as.length - (i + 1), Nat.sub_lt_sub_left hlt (Nat.lt_succ_self i), rfl, hlt, q⟩, fun y H3 hy=>?_⟩
        obtain ⟨s3, r3⟩:=h5 y H3 hy
        have w3:=w2.keep s3
        have m3:=Xm (OO:=J.oo x) s3
        refine (T (J.oo x)).ok r3 ((J.sc gg x).mono _ _ m3 sc2) fun v hv=>hb gg x as[i] v H3 _ w3 hv ?_
        rw [List.drop_eq_getElem_cons hlt] at P2
        have P3 : PZ Er (FCd K o J2 D) (hid H2 (J.oo x)) ((body gg as[i]).bind fun c=>(match c with
          | .ret r=>Res.ok (Ctl.ret r)
          | .nx g'=>forC (as.drop (i + 1)) g' body).bind (ZN f)):=by rw [← X6]; exact P2
        cases eb : body gg as[i] with
        | bad=>rw [eb] at P3; exact P3
        | err x=>rw [eb] at P3; exact fun H4 s4=>P3 H4 (m3.trans s4)
        | ok c=>
          rw [eb] at P3
          cases c with
          | ret r=>exact FdOk.tr (Fd:=FTd K o) D r _ _ m3 P3
          | nx g'=>exact fun x' H4 w4 m4 sc4=>⟨x', g', rfl, w4, m2.trans (m3.trans m4), sc4, PZ.tr (FdOk.tr D) (m3.trans m4) P3⟩
      . left
        have e : i = as.length:=Nat.le_antisymm hi (Nat.not_lt.mp hlt)
        subst e
        refine ⟨hstop (J.oo x) H2 w2 m2, hr gg x H2 D w2 sc2 ?_⟩
        rw [List.drop_length] at P2
        exact P2
noncomputable def Q6 : Nat -> γ -> (γ -> Res Bool) -> (γ -> Res γ) -> Res γ
  | 0, _, _, _=>.bad
  | n + 1, g, c, f=>(c g).bind fun b=>if b = true then (f g).bind fun g'=>Q6 n g' c f else .ok g
theorem K6 {c : TT} {tb : TS} {mc : γ -> Res Bool} {body : γ -> Res γ} {f : γ -> Res β} (J : Jn γ ι) (n : Nat) (x0 : ι) (g0 : γ) (h1 : OO = J.oo x0) (h2 : σ = J.ss x0) (h3 : ∀ h, S.p h -> (J.sc g0 x0).p h)
    (hc : ∀ g x, EvT Er (J.sc g x) (J.oo x) (J.ss x) c (mc g)) (hb : ∀ g x, Sv Er (J.sc g x) (J.oo x) (J.ss x) tb (FNd J) (body g))
    (hr : ∀ g x, Sv Er (J.sc g x) (J.oo x) (J.ss x) u Fd (f g)) : Sv Er S OO σ (JL (BC c tb) u) Fd ((Q6 n g0 mc body).bind f):=fun H D w s P=>by
  refine ⟨fun mm σ' H2=>∃ x gg, σ' = J.ss x /\ W (J.oo x) H2 /\ (J.sc gg x).p (hid H2 (J.oo x)) /\ PZ Er (Fd D) (hid H2 (J.oo x)) ((Q6 mm gg mc body).bind f), ⟨n, x0, g0, h2, by rw [← h1]; exact w, by rw [← h1]; exact h3 _ s, by rw [← h1]; exact P⟩, ?_⟩
  rintro mm σ' H2 ⟨x, gg, rfl, w2, sc2, P2⟩
  cases mm with
  | zero=>exact P2.elim
  | succ mm=>
    have P3 : PZ Er (Fd D) (hid H2 (J.oo x)) ((mc gg).bind fun b=>(if b = true then (body gg).bind fun g'=>Q6 mm g' mc body else .ok gg).bind f):=by rw [← X6]; exact P2
    refine (hc gg x).st w2 sc2 P3 fun b H3 w3 sc3 P4=>?_
    cases b with
    | false=>exact hr gg x H3 D w3 sc3 P4
    | true=>
      rw [if_pos rfl] at P4 ⊢
      refine ⟨fun σ3 H4=>∃ x gg, σ3 = J.ss x /\ W (J.oo x) H4 /\ (J.sc gg x).p (hid H4 (J.oo x)) /\ PZ Er (Fd D) (hid H4 (J.oo x)) ((Q6 mm gg mc body).bind f), fun σ3 H4 q=>⟨mm, Nat.lt_succ_self _, q⟩, hb gg x H3 _ w3 sc3 ?_⟩
      rw [X6] at P4
      cases eb : body gg with
      | bad=>rw [eb] at P4; exact P4
      | err x=>rw [eb] at P4; exact P4
      | ok g'=>
        rw [eb] at P4
        exact fun x' H5 w5 m5 sc5=>⟨x', g', rfl, w5, sc5, PZ.tr (fd.tr D) m5 P4⟩
noncomputable def GV (as : List α) (f : α -> Res β) : Res (List β):=match as with
  | []=>.ok []
  | a :: as=>(f a).bind fun b=>(GV as f).bind fun bs=>.ok (b :: bs)
noncomputable def G3 (as : List α) (f : α -> Res β) : Res (List β):=chk (as.length <= sizeLine) (GV as f)
noncomputable def Gh (as : List α) (c : α -> Res Bool) (f : α -> Res β) : Res (List β):=match as with
  | []=>.ok []
  | a :: as=>(c a).bind fun b=>if b = true then (f a).bind fun b=>(Gh as c f).bind fun bs=>.ok (b :: bs) else Gh as c f
noncomputable def Il (as : List α) (c : α -> Res Bool) (f : α -> Res β) : Res (List β):=chk (as.length <= sizeLine) (Gh as c f)
theorem PZ.chk {F : β -> Hp -> Prop} {H : Hp} {c : Prop} [Decidable c] {m : Res β} (P : PZ Er F H (chk c m)) : c /\ PZ Er F H m:=by
  unfold L2.chk at P; split at P
  . exact ⟨by assumption, P⟩
  . exact P.elim
theorem EL {o : OE α} [z : MonoO o] {xs : List V} {as : List α} {Cs : List (List XA)} {H H0 : Hp} {Q : VK} (w : W (Cs.flatten :: OO) H) (m0 : Xx (hid H0 OO) (hid H (Cs.flatten :: OO))) (s0 : Xx H0 H) (pr : P3 (o K (hid H (Cs.flatten :: OO))) xs as Cs) (P : FO K OO OO (oL o) Q as H0) : ∀ p, H p = none -> Q (.ref p) (upd H p (.lst xs)):=fun p hp=>by
  have hn:=JK (OO:=Cs.flatten :: OO) hp (o:=.lst xs)
  have wn:=w.new hp (o:=.lst xs) rfl
  have pe : (((p, HO.lst xs) :: Cs.flatten) :: OO).flatten.Perm ([(p, HO.lst xs)] :: Cs.flatten :: OO).flatten:=by simp
  refine P (.ref p) ((p, .lst xs) :: Cs.flatten) _ (s0.trans (XF hp _)) (wn.of pe) ?_ ?_
  . rw [XU pe]; exact m0.trans hn
  . rw [XU pe]
    exact ⟨p, xs, Cs, rfl, pr.imp fun _ _ _ h=>z.mono hn h, rfl⟩
theorem Qq {o : OE β} [z : MonoO o] {wi : TI} {g : TG} {te : TE} {r : Enc α} {κ : Type} {m : Res (List α)} {f : α -> Res β} {n : Nat} {caps : List (Nat × Str)} (T : ∀ OO, Tgt K OO g r κ) (he : Walk K Er S OO σ wi r m)
    (hb : ∀ C a v, Ev K Er ((T (C :: OO)).sc a v S) (C :: OO) (C :: OO) ((T (C :: OO)).set v (QG n caps σ)) te o (f a)) : Ev K Er S OO OO σ (DQ n caps wi g VD te) (oL o) (m.bind fun as=>G3 as f):=fun H Q w s P=>by
  refine he.ok w s ?_
  cases em : m with
  | bad=>rw [em] at P; exact P
  | err x=>rw [em] at P; exact P
  | ok as=>
    rw [em] at P
    obtain ⟨hsz, P⟩:=PZ.chk (show PZ Er _ H (chk (as.length <= sizeLine) (GV as f)) from P)
    intro It H' s' hgo hstop
    -- what is left: the ZG of the items, then all
    refine ⟨fun i mm ys H2=>mm = as.length - i /\ i <= as.length /\ ∃ bs Cs, Xx H H2 /\ W (Cs.flatten :: OO) H2 /\ Xx (hid H' OO) (hid H2 (Cs.flatten :: OO)) /\ P3 (o K (hid H2 (Cs.flatten :: OO))) ys bs Cs /\ bs.length = i /\ PZ Er (FO K OO OO (oL o) Q) H ((GV (as.drop i) f).bind fun ZG=>.ok (bs ++ ZG)),
      ⟨as.length, rfl, Nat.zero_le _, [], [], s', (w.keep s').nil, by show Xx _ (hid H' ([] :: OO)); rw [YX]; exact Xx.refl _, .nil, rfl, ?_⟩, ?_⟩
    . rw [List.drop_zero]
      revert P
      cases GV as f <;> exact fun z=>z
    . rintro i mm ys H2 ⟨rfl, hi, bs, Cs, s2, w2, m2, pr, hlen, P2⟩
      refine ⟨by rw [pr.len.1, hlen]; omega, ?_⟩
      by_cases hlt : i < as.length
      . right
        have ha : as[i]? = some as[i]:=by simp [hlt]
        obtain ⟨h4, h5⟩:=hgo i _ ha (Cs.flatten :: OO) H2 w2 m2
        refine ⟨h4, fun ys' H3=>∃ bs Cs, Xx H H3 /\ W (Cs.flatten :: OO) H3 /\ Xx (hid H' OO) (hid H3 (Cs.flatten :: OO)) /\ P3 (o K (hid H3 (Cs.flatten :: OO))) ys' bs Cs /\ bs.length = i + 1 /\ PZ Er (FO K OO OO (oL o) Q) H ((GV (as.drop (i + 1)) f).bind fun ZG=>.ok (bs ++ ZG)), fun ys' H3 q=>⟨as.length - (i + 1), Nat.sub_lt_sub_left hlt (Nat.lt_succ_self i), rfl, hlt, q⟩, fun y H3 hy=>?_⟩
        obtain ⟨s3, r3⟩:=h5 y H3 hy
        have w3:=w2.keep s3
        have m3:=Xm (OO:=Cs.flatten :: OO) s3
        have sS : S.p (hid H3 (Cs.flatten :: OO)):=S.mono _ _ ((Xm s').trans (m2.trans m3)) s
        refine (T (Cs.flatten :: OO)).ok r3 sS fun v hv=>?_
        show VD _ _ _
        refine He ?_
        rw [List.drop_eq_getElem_cons hlt] at P2
        have P3' : PZ Er (FO K OO OO (oL o) Q) H ((f as[i]).bind fun b=>(GV (as.drop (i + 1)) f).bind fun ZG=>.ok (bs ++ b :: ZG)):=by
          have : ((f as[i]).bind fun b=>(GV (as.drop (i + 1)) f).bind fun ZG=>Res.ok (bs ++ b :: ZG)) = (GV (as[i] :: as.drop (i + 1)) f).bind fun ZG=>.ok (bs ++ ZG):=by
            show _ = ((f as[i]).bind fun b=>(GV (as.drop (i + 1)) f).bind fun bs=>Res.ok (b :: bs)).bind _
            rw [X6]; congr 1; funext b; rw [X6]; rfl
          rw [this]; exact P2
        refine hb Cs.flatten as[i] v H3 _ w3 hv ?_
        cases eb : f as[i] with
        | bad=>rw [eb] at P3'; exact P3'
        | err x=>rw [eb] at P3'; exact fun H4 s4=>P3' H4 (s2.trans (s3.trans s4))
        | ok b=>
          rw [eb] at P3'
          intro v' C' H4 s4 w4 m4 ho
          have pe : ((Cs ++ [C']).flatten :: OO).flatten.Perm (C' :: Cs.flatten :: OO).flatten:=by
            simp only [ZA, List.flatten_cons]
            rw [List.append_assoc, ← List.append_assoc, ← List.append_assoc]
            exact List.perm_append_comm.append_right _
          refine ⟨bs ++ [b], Cs ++ [C'], s2.trans (s3.trans s4), w4.of pe, ?_, ?_, by simp [hlen], ?_⟩
          . rw [XU pe]; exact m2.trans (m3.trans m4)
          . rw [XU pe]; exact P3.snoc (pr.imp fun _ _ _ h=>z.mono (m3.trans m4) h) ho
          . have P4 : PZ Er (FO K OO OO (oL o) Q) H ((GV (as.drop (i + 1)) f).bind fun ZG => .ok (bs ++ b :: ZG)) := P3'
            simpa using P4
      . left
        have e : i = as.length:=Nat.le_antisymm hi (Nat.not_lt.mp hlt)
        subst e
        refine ⟨hstop (Cs.flatten :: OO) H2 w2 m2, ?_⟩
        rw [List.drop_length] at P2
        have P3' : FO K OO OO (oL o) Q (bs ++ []) H:=P2
        rw [List.append_nil] at P3'
        exact EL (H0:=H) w2 ((Xm s').trans m2) s2 pr P3'
theorem Gg {o : OE β} [z : MonoO o] {wi : TI} {g : TG} {tt : TT} {te : TE} {r : Enc α} {κ : Type} {m : Res (List α)} {c : α -> Res Bool} {f : α -> Res β} {n : Nat} {caps : List (Nat × Str)} (T : ∀ OO, Tgt K OO g r κ) (he : Walk K Er S OO σ wi r m)
    (hc : ∀ C a v, EvT Er ((T (C :: OO)).sc a v S) (C :: OO) ((T (C :: OO)).set v (QG n caps σ)) tt (c a))
    (hb : ∀ C a v, Ev K Er ((T (C :: OO)).sc a v S) (C :: OO) (C :: OO) ((T (C :: OO)).set v (QG n caps σ)) te o (f a)) : Ev K Er S OO OO σ (DQ n caps wi g tt te) (oL o) (m.bind fun as=>Il as c f):=fun H Q w s P=>by
  refine he.ok w s ?_
  cases em : m with
  | bad=>rw [em] at P; exact P
  | err x=>rw [em] at P; exact P
  | ok as=>
    rw [em] at P
    obtain ⟨hsz, P⟩:=PZ.chk (show PZ Er _ H (chk (as.length <= sizeLine) (Gh as c f)) from P)
    intro It H' s' hgo hstop
    refine ⟨fun i mm ys H2=>mm = as.length - i /\ i <= as.length /\ ∃ bs Cs, Xx H H2 /\ W (Cs.flatten :: OO) H2 /\ Xx (hid H' OO) (hid H2 (Cs.flatten :: OO)) /\ P3 (o K (hid H2 (Cs.flatten :: OO))) ys bs Cs /\ bs.length <= i /\ PZ Er (FO K OO OO (oL o) Q) H ((Gh (as.drop i) c f).bind fun ZG=>.ok (bs ++ ZG)),
      ⟨as.length, rfl, Nat.zero_le _, [], [], s', (w.keep s').nil, by show Xx _ (hid H' ([] :: OO)); rw [YX]; exact Xx.refl _, .nil, Nat.zero_le _, ?_⟩, ?_⟩
    . rw [List.drop_zero]
      revert P
      cases Gh as c f <;> exact fun z=>z
    . rintro i mm ys H2 ⟨rfl, hi, bs, Cs, s2, w2, m2, pr, hlen, P2⟩
      refine ⟨by rw [pr.len.1]; omega, ?_⟩
      by_cases hlt : i < as.length
      . right
        have ha : as[i]? = some as[i]:=by simp [hlt]
        obtain ⟨h4, h5⟩:=hgo i _ ha (Cs.flatten :: OO) H2 w2 m2
        refine ⟨h4, fun ys' H3=>∃ bs Cs, Xx H H3 /\ W (Cs.flatten :: OO) H3 /\ Xx (hid H' OO) (hid H3 (Cs.flatten :: OO)) /\ P3 (o K (hid H3 (Cs.flatten :: OO))) ys' bs Cs /\ bs.length <= i + 1 /\ PZ Er (FO K OO OO (oL o) Q) H ((Gh (as.drop (i + 1)) c f).bind fun ZG=>.ok (bs ++ ZG)), fun ys' H3 q=>⟨as.length - (i + 1), Nat.sub_lt_sub_left hlt (Nat.lt_succ_self i), rfl, hlt, q⟩, fun y H3 hy=>?_⟩
        obtain ⟨s3, r3⟩:=h5 y H3 hy
        have w3:=w2.keep s3
        have m3:=Xm (OO:=Cs.flatten :: OO) s3
        have sS : S.p (hid H3 (Cs.flatten :: OO)):=S.mono _ _ ((Xm s').trans (m2.trans m3)) s
        refine (T (Cs.flatten :: OO)).ok r3 sS fun v hv=>?_
        rw [List.drop_eq_getElem_cons hlt] at P2
        have P3' : PZ Er (FO K OO OO (oL o) Q) H ((c as[i]).bind fun b=>(if b = true then (f as[i]).bind fun b=>(Gh (as.drop (i + 1)) c f).bind fun bs=>.ok (b :: bs) else Gh (as.drop (i + 1)) c f).bind fun ZG=>.ok (bs ++ ZG)):=by
          rw [← X6]; exact P2
        refine hc Cs.flatten as[i] v H3 _ w3 hv ?_
        cases ec : c as[i] with
        | bad=>rw [ec] at P3'; exact P3'
        | err x=>rw [ec] at P3'; exact fun H4 s4=>P3' H4 (s2.trans (s3.trans s4))
        | ok b=>
          rw [ec] at P3'
          intro H4 s4
          have w4:=w3.keep s4
          have m4:=Xm (OO:=Cs.flatten :: OO) s4
          cases b with
          | false=>exact ⟨bs, Cs, s2.trans (s3.trans s4), w4, m2.trans (m3.trans m4), pr.imp fun _ _ _ h=>z.mono (m3.trans m4) h, Nat.le_succ_of_le hlen, P3'⟩
          | true=>
            rw [if_pos rfl]
            have P4 : PZ Er (FO K OO OO (oL o) Q) H ((f as[i]).bind fun b=>(Gh (as.drop (i + 1)) c f).bind fun ZG=>.ok (bs ++ b :: ZG)):=by
              have : ((f as[i]).bind fun b=>(Gh (as.drop (i + 1)) c f).bind fun ZG=>Res.ok (bs ++ b :: ZG)) = ((f as[i]).bind fun b=>(Gh (as.drop (i + 1)) c f).bind fun bs=>Res.ok (b :: bs)).bind fun ZG=>.ok (bs ++ ZG):=by
                rw [X6]; congr 1; funext b; rw [X6]; rfl
              rw [this]; exact P3'
            refine hb Cs.flatten as[i] v H4 _ w4 (((T (Cs.flatten :: OO)).sc as[i] v S).mono _ _ m4 hv) ?_
            cases eb : f as[i] with
            | bad=>rw [eb] at P4; exact P4
            | err x=>rw [eb] at P4; exact fun H5 s5=>P4 H5 (s2.trans (s3.trans (s4.trans s5)))
            | ok b=>
              rw [eb] at P4
              intro v' C' H5 s5 w5 m5 ho
              have pe : ((Cs ++ [C']).flatten :: OO).flatten.Perm (C' :: Cs.flatten :: OO).flatten:=by
                simp only [ZA, List.flatten_cons]
                rw [List.append_assoc, ← List.append_assoc, ← List.append_assoc]
                exact List.perm_append_comm.append_right _
              refine ⟨bs ++ [b], Cs ++ [C'], s2.trans (s3.trans (s4.trans s5)), w5.of pe, ?_, ?_, by simpa using hlen, ?_⟩
              . rw [XU pe]; exact m2.trans (m3.trans (m4.trans m5))
              . rw [XU pe]; exact P3.snoc (pr.imp fun _ _ _ h=>z.mono (m3.trans (m4.trans m5)) h) ho
              . have P5 : PZ Er (FO K OO OO (oL o) Q) H ((Gh (as.drop (i + 1)) c f).bind fun ZG => .ok (bs ++ b :: ZG)) := P4
                simpa using P5
      . left
        have e : i = as.length:=Nat.le_antisymm hi (Nat.not_lt.mp hlt)
        subst e
        refine ⟨hstop (Cs.flatten :: OO) H2 w2 m2, ?_⟩
        rw [List.drop_length] at P2
        have P3' : FO K OO OO (oL o) Q (bs ++ []) H:=P2
        rw [List.append_nil] at P3'
        exact EL (H0:=H) w2 ((Xm s').trans m2) s2 pr P3'
noncomputable def Q2 (as : List α) (i : Int) (a : α) : Res (List α):=match ixN as.length i with
  | some j=>.ok (as.set j a)
  | none=>.bad
end
end L2
namespace L2
open PySem PySem.Spec PyProof.Rows
section
variable {K : PySem.W.Frag} {Er : Exc -> Hp -> Prop} {S : SC} {OO OO' OO2 : List (List XA)} {σ : St} {α β γ ρ ι δ ε : Type}
variable {Fd : Ends -> β -> Hp -> Prop} [fd : FdOk Fd] {u : TS}
theorem En {C D C' : List XA} {H : Hp} {k : Nat} {p : Addr} {o : HO} (w : W (D :: OO) H) (hk : OO[k]? = some C) (hp : p ∈ C.map (·.1)) (hp' : p ∈ C'.map (·.1)) (hnd : (C'.map (·.1)).Nodup) (hin : ∀ b ∈ C'.map (·.1), b ∈ (C ++ D).map (·.1)) (ht : ∀ c ∈ C', upd H p o c.1 = some c.2) (hm : ∀ c ∈ C', Hc c.2 = true) :
    W (OO.set k C') (upd H p o) /\ Xx (hid H (D :: OO)) (hid (upd H p o) (OO.set k C')):=by
  have hlt : k < OO.length:=by
    rcases Nat.lt_or_ge k OO.length with h | h
    . exact h
    . rw [List.getElem?_eq_none h] at hk; cases hk
  have h1:=X1 hk
  have h2:=X1 (OO:=OO.set k C') (k:=k) (C:=C') (by simp [hlt])
  rw [set_set] at h2
  have h3 : (OO.set k C').flatten.Perm (C' ++ (OO.set k []).flatten):=by simpa using h2.symm
  have h4 : (D :: OO).flatten.Perm ((C ++ D) ++ (OO.set k []).flatten):=by
    rw [List.flatten_cons]
    refine ((by simpa using h1.symm : OO.flatten.Perm (C ++ (OO.set k []).flatten)).append_left D).trans ?_
    rw [← List.append_assoc]
    exact List.perm_append_comm.append_right _
  have nd2 : (((C ++ D) ++ (OO.set k []).flatten).map (·.1)).Nodup:=(h4.map _).nodup_iff.mp w.nd
  rw [List.map_append] at nd2
  obtain ⟨n1, n2, n3⟩:=List.nodup_append.mp nd2
  refine ⟨⟨fun c hc=>?_, ?_, fun c hc=>?_⟩, fun b v q=>?_⟩
  . rcases List.mem_append.mp (h3.mem_iff.mp hc) with hc | hc
    . exact ht c hc
    . have hne : c.1 ≠ p := fun e => n3 p (hin p hp') c.1 (List.mem_map.mpr ⟨c, hc, rfl⟩) e.symm
      rw [XT hne]
      exact w.tr c (h4.mem_iff.mpr (by simp [hc]))
  . refine ((h3.map _).nodup_iff).mpr ?_
    rw [List.map_append]
    exact List.nodup_append.mpr ⟨hnd, n2, fun a ha b hb=>n3 a (hin a ha) b hb⟩
  . rcases List.mem_append.mp (h3.mem_iff.mp hc) with hc | hc
    . exact hm c hc
    . exact w.mu c (h4.mem_iff.mpr (by simp [hc]))
  . obtain ⟨q1, q2⟩ := YO q
    have hbp : b ≠ p:=fun e=>q2 (by
      rw [e]
      obtain ⟨c, hc, rfl⟩:=List.mem_map.mp hp
      exact Vo (h4.mem_iff.mpr (by simp [hc])))
    refine QA (by rw [XT hbp]; exact q1) fun z=>q2 ?_
    obtain ⟨o', ho'⟩:=Dp z
    rcases List.mem_append.mp (h3.mem_iff.mp ho') with hc | hc
    . obtain ⟨c, hc2, e⟩ := List.mem_map.mp (hin b (List.mem_map.mpr ⟨_, hc, rfl⟩))
      rw [← e]
      exact Vo (h4.mem_iff.mpr (List.mem_append_left _ hc2))
    . exact Vo (c:=(b, o')) (h4.mem_iff.mpr (by simp [hc]))
theorem Lj {D : List XA} {Cs Cs' : List (List XA)} {H : Hp} {k : Nat} {p : Addr} {xs xs' : List V} (w : W (D :: OO) H) (hk : OO[k]? = some ((p, .lst xs) :: Cs.flatten)) (hin : ∀ c ∈ Cs'.flatten, c ∈ Cs.flatten ++ D) (hnd : (Cs'.flatten.map (·.1)).Nodup) :
    W (OO.set k ((p, .lst xs') :: Cs'.flatten)) (upd H p (.lst xs')) /\ Xx (hid H (D :: OO)) (hid (upd H p (.lst xs')) (OO.set k ((p, .lst xs') :: Cs'.flatten))):=by
  have h1:=X1 hk
  have w3 : W [((p, HO.lst xs) :: (Cs.flatten ++ D)) ++ (OO.set k []).flatten] H:=w.of (by
    simp only [List.flatten_cons, List.flatten_nil, List.append_nil]
    refine List.Perm.trans ?_ ((by simpa using h1 : (((p, HO.lst xs) :: Cs.flatten) ++ (OO.set k []).flatten).Perm OO.flatten).append_left D)
    rw [← List.append_assoc]
    refine List.Perm.append_right _ ?_
    exact (List.perm_append_comm (l₁:=(p, HO.lst xs) :: Cs.flatten) (l₂:=D)))
  have nd:=w3.nd
  simp only [fl, List.flatten_cons, List.flatten_nil, List.append_nil, List.map_append, List.cons_append, List.map_cons] at nd
  have hne : ∀ c ∈ Cs'.flatten, c.1 ≠ p:=fun c hc e=>by
    refine (List.nodup_cons.mp nd).1 ?_
    rw [← e]
    refine List.mem_append_left _ ?_
    rw [← List.map_append]
    exact List.mem_map.mpr ⟨c, hin c hc, rfl⟩
  refine En w hk List.mem_cons_self List.mem_cons_self ?_ ?_ ?_ ?_
  . rw [List.map_cons, List.nodup_cons]
    refine ⟨fun z=>?_, hnd⟩
    obtain ⟨c, hc, e⟩:=List.mem_map.mp z
    exact hne c hc e
  . intro b hb
    rcases List.mem_cons.mp hb with rfl | hb
    . exact List.mem_cons_self
    . obtain ⟨c, hc, rfl⟩ := List.mem_map.mp hb
      rw [List.cons_append, List.map_cons]
      exact List.mem_cons_of_mem _ (List.mem_map.mpr ⟨c, hin c hc, rfl⟩)
  . intro c hc
    rcases List.mem_cons.mp hc with rfl | hc
    . exact Yb
    . rw [XT (hne c hc)]
      exact w3.tr c (by
        rw [List.flatten_cons, List.flatten_nil, List.append_nil]
        exact List.mem_append_left _ (List.mem_cons_of_mem _ (hin c hc)))
  . intro c hc
    rcases List.mem_cons.mp hc with rfl | hc
    . rfl
    . exact w3.mu c (by
        rw [List.flatten_cons, List.flatten_nil, List.append_nil]
        exact List.mem_append_left _ (List.mem_cons_of_mem _ (hin c hc)))
theorem Dc {o : OE α} {h : Hp} {p : Addr} {xs : List V} {as : List α} {R : List XA} (q : oL o K h (.ref p) as ((p, .lst xs) :: R)) : ∃ Cs, P3 (o K h) xs as Cs /\ R = Cs.flatten:=by
  obtain ⟨p', xs', Cs, e, q, c⟩:=q
  injection c with c1 c2
  injection c1 with c3 c4
  injection c4 with c5
  subst c5
  exact ⟨Cs, q, c2⟩
theorem Fh {as : List α} {i : Int} {a : α} {bs : List α} (h : Q2 as i a = .ok bs) : ∃ j, ixN as.length i = some j /\ bs = as.set j a:=by
  unfold Q2 at h; split at h
  . cases h; exact ⟨_, by assumption, rfl⟩
  . cases h
theorem Fm {as : List α} {i : Int} {a : α} {x : Exc} : Q2 as i a ≠ .err x:=by unfold Q2; split <;> exact fun z=>nomatch z
theorem QQ {l r m : List XA} (h : (l ++ r).Perm m) (n : (m.map (·.1)).Nodup) : (l.map (·.1)).Nodup:=by
  have : ((l ++ r).map (·.1)).Nodup:=(h.map _).nodup_iff.mpr n
  rw [List.map_append] at this
  exact (List.nodup_append.mp this).1
theorem KQ {Cs : List (List XA)} {j : Nat} {D : List XA} (hj : j < Cs.length) : ((Cs.set j D).flatten ++ Cs[j]).Perm (Cs.flatten ++ D):=by
  have h1:=X1 (OO:=Cs) (k:=j) (C:=Cs[j]) (by simp [hj])
  have h2:=X1 (OO:=Cs.set j D) (k:=j) (C:=D) (by simp [hj])
  rw [set_set] at h2
  have h3 : (Cs.set j D).flatten.Perm (D ++ (Cs.set j []).flatten):=by simpa using h2.symm
  have h4 : Cs.flatten.Perm (Cs[j] ++ (Cs.set j []).flatten):=by simpa using h1.symm
  refine (h3.append_right _).trans (List.Perm.trans ?_ (h4.append_right _).symm)
  refine List.perm_append_comm.trans ((List.perm_append_comm.append_left _).trans ?_)
  rw [List.append_assoc]
theorem JA {D : List XA} {Cs : List (List XA)} {H : Hp} {k : Nat} {p : Addr} {xs : List V} (w : W (D :: OO) H) (hk : OO[k]? = some ((p, .lst xs) :: Cs.flatten)) : ((Cs.flatten ++ D).map (·.1)).Nodup:=by
  have h1:=X1 hk
  have w3 : W [((p, HO.lst xs) :: (Cs.flatten ++ D)) ++ (OO.set k []).flatten] H:=w.of (by
    simp only [List.flatten_cons, List.flatten_nil, List.append_nil]
    refine List.Perm.trans ?_ ((by simpa using h1 : (((p, HO.lst xs) :: Cs.flatten) ++ (OO.set k []).flatten).Perm OO.flatten).append_left D)
    rw [← List.append_assoc]
    refine List.Perm.append_right _ ?_
    exact (List.perm_append_comm (l₁:=(p, HO.lst xs) :: Cs.flatten) (l₂:=D)))
  have nd:=w3.nd
  simp only [fl, List.flatten_cons, List.flatten_nil, List.append_nil, List.cons_append, List.map_cons] at nd
  have n2:=(List.nodup_cons.mp nd).2
  rw [List.map_append] at n2
  exact (List.nodup_append.mp n2).1
theorem ZK {ta ti : TE} {o : OE α} [MonoO o] {m : Res α} {mi : Res Int} {f : List α -> Res β} {v : V} {as : List α} {C : List XA} (i k : Nat) (hσ : σ[i]? = some (some v)) (hk' : OO'[k]? = some C) (h : ∀ x, S.p x -> oL o K x v as C) (he : Ev K Er S OO OO' σ ta o m)
    (hi : ∀ D, EvB K Er S (D :: OO') σ ti Xa mi)
    (hr : ∀ bs C', Sv Er (S.addO K (oL o) v bs C') (OO'.set k C') σ u Fd (f bs)) : Sv Er S OO σ (JL (CS ta (IP (US i) ti EO)) u) Fd (m.bind fun a=>mi.bind fun j=>(Q2 as j a).bind f):=fun H D w s P=>
  he.st w s P fun a y D' H' w' s' ho P'=>⟨v, hσ, (hi D').st w' s' P' fun j z H2 s2 w2 q2 r2 P2=>by
    obtain ⟨p, xs, Cs, e, q, c⟩:=h _ q2
    subst c
    have hH : H2 p = some (.lst xs):=w2.tr (p, .lst xs) (by rw [List.flatten_cons]; exact List.mem_append_right _ (List.mem_flatten.mpr ⟨_, List.mem_of_getElem? hk', List.mem_cons_self⟩))
    cases es : Q2 as j a with
    | bad=>rw [es] at P2; exact P2.elim
    | err x=>exact absurd es Fm
    | ok bs=>
      rw [es] at P2
      obtain ⟨jj, h1, rfl⟩:=Fh es
      have hjl : jj < as.length:=by
        unfold ixN at h1
        split at h1
        . split at h1
          . cases h1; omega
          . cases h1
        . split at h1
          . cases h1; omega
          . cases h1
      have hjC : jj < Cs.length:=by rw [q.len.2]; exact hjl
      have hp:=KQ (Cs:=Cs) (j:=jj) (D:=D') hjC
      obtain ⟨w3, m3⟩:=Lj (xs':=xs.set jj y) (Cs':=Cs.set jj D') w2 hk' (fun c hc=>hp.mem_iff.mp (List.mem_append_left _ hc)) (QQ hp (JA w2 hk'))
      refine ⟨p, xs, j, jj, e, r2, hH, by rw [q.len.1]; exact h1, hr _ _ _ D w3 ⟨S.mono _ _ m3 q2, ⟨p, _, _, e, P3.imp (fun _ _ _ z=>MonoO.mono m3 z) (P3.set (MonoO.mono (Xm s2) ho) jj q), rfl⟩⟩ (PZ.tr (fd.tr D) m3 P2)⟩⟩
noncomputable def Bl (as : List α) (i : Int) : Res (α × List α):=chk (-(2 ^ 63) <= i /\ i < 2 ^ 63) (match seqIndex? i as.length with
  | none=>.bad
  | some k=>match as[k]? with
    | none=>.bad
    | some a=>.ok (a, as.eraseIdx k))
theorem BQ {as : List α} {i : Int} {p : α × List α} (h : Bl as i = .ok p) : (-(2 ^ 63) <= i /\ i < 2 ^ 63) /\ ∃ k, seqIndex? i as.length = some k /\ as[k]? = some p.1 /\ p.2 = as.eraseIdx k:=by
  obtain ⟨h1, h2⟩:=Zf h
  refine ⟨h1, ?_⟩
  split at h2
  . cases h2
  . split at h2
    . cases h2
    . cases h2; exact ⟨_, by assumption, by assumption, rfl⟩
theorem EZ {as : List α} {i : Int} {x : Exc} : Bl as i ≠ .err x:=by
  unfold Bl chk; split
  . split
    . exact fun z=>nomatch z
    . split <;> exact fun z=>nomatch z
  . exact fun z=>nomatch z
theorem Paired.erase' {F : α -> γ -> Prop} : ∀ {l : List α} {m : List γ} (n : Nat), Paired F l m -> Paired F (l.eraseIdx n) (m.eraseIdx n)
  | _, _, _, .nil=>.nil
  | _, _, 0, .cons _ t=>t
  | _, _, n + 1, .cons r t=>.cons r (Paired.erase' n t)
theorem Eo {te ti : TE} {r : Enc α} [MonoE r] {mi : Res Int} {f : α × List α -> Res β} {v : V} {as : List α} {C : List XA} {D : Ends} {H : Hp} {Q : VK} (i k : Nat) (hσ : σ[i]? = some (some v)) (hk : OO[k]? = some C) (h : ∀ x, S.p x -> oL (oF r) K x v as C) (hi : EvB K Er S OO σ ti Xa mi)
    (w : W OO H) (s : S.p (hid H OO)) (P : PZ Er (Fd D) (hid H OO) (mi.bind fun j=>(Bl as j).bind f))
    (hr : ∀ a bs y C' H', W (OO.set k C') H' -> ((S.add K r y a).addO K (oL (oF r)) v bs C').p (hid H' (OO.set k C')) -> PZ Er (Fd D) (hid H' (OO.set k C')) (f (a, bs)) -> Q y H') : tBM K "list" Fe (US i) (XG ti ZB) σ H Q:=by
  obtain ⟨p, xs, Cs, e, q, c⟩:=h _ s
  subst c
  have hH : H p = some (.lst xs):=w.tr (p, .lst xs) (List.mem_flatten.mpr ⟨_, List.mem_of_getElem? hk, List.mem_cons_self⟩)
  refine ⟨v, hσ, by rw [e]; exact .inl ⟨rfl, _, SqL.of hH⟩, hi.st w s P fun j z H' s1 w' s' ho P'=>?_⟩
  subst e
  obtain ⟨Cs2, q2, c2⟩:=Dc (h _ s')
  obtain ⟨pr, hfl⟩:=P3.flat q2
  cases es : Bl as j with
  | bad=>rw [es] at P'; exact P'.elim
  | err x=>exact absurd es EZ
  | ok pp=>
    rw [es] at P'
    obtain ⟨a, bs⟩:=pp
    obtain ⟨h1, kk, h2, h3, h4⟩:=BQ es
    obtain ⟨y, hy, ry⟩:=Paired.getR pr h3
    have w0 : W ([] :: OO) H':=w'.nil
    have hk0 : OO[k]? = some ((p, .lst xs) :: ([] : List (List XA)).flatten):=by rw [hk, c2, hfl]; rfl
    obtain ⟨w3, m3⟩:=Lj (D:=[]) (Cs:=[]) (xs':=xs.eraseIdx kk) (Cs':=List.replicate bs.length []) w0 hk0 (fun c hc=>by rw [Yt] at hc; cases hc) (by rw [Yt]; exact List.nodup_nil)
    rw [YX] at m3
    refine ⟨p, xs, j, kk, y, rfl, by rw [show z = .int j from ho], s1 _ _ hH, h1.1, h1.2, by rw [Paired.len pr]; exact h2, hy, ?_⟩
    have pr2 : Paired (r K (hid H' OO)) (xs.eraseIdx kk) bs:=by rw [show bs = as.eraseIdx kk from h4]; exact Paired.erase' kk pr
    exact hr a bs y _ _ w3 ⟨⟨S.mono _ _ m3 s', MonoE.mono m3 ry⟩, ⟨p, _, _, rfl, (P3.of (Paired.imp2 (fun _ _ z=>MonoE.mono m3 z) pr2)).imp fun _ _ _ z=>z, rfl⟩⟩ (PZ.tr (fd.tr D) m3 P')
theorem CN {ti : TE} {r : Enc α} [MonoE r] {mi : Res Int} {f : List α -> List α -> Res β} {v v2 : V} {as zs : List α} {C C2 : List XA} (i k i2 k2 : Nat) (hne : k2 ≠ k) (hσ : σ[i]? = some (some v)) (hk : OO[k]? = some C) (h : ∀ x, S.p x -> oL (oF r) K x v as C)
    (hσ2 : σ[i2]? = some (some v2)) (hk2 : OO[k2]? = some C2) (h2 : ∀ x, S.p x -> oL (oF r) K x v2 zs C2) (hi : EvB K Er S OO σ ti Xa mi)
    (hr : ∀ a bs C' C2', Sv Er ((S.addO K (oL (oF r)) v bs C').addO K (oL (oF r)) v2 (zs ++ [a]) C2') ((OO.set k C').set k2 C2') σ u Fd (f bs (zs ++ [a]))) :
    Sv Er S OO σ (JL (Ba (tBM K "list" Ko (US i2) (XG (tBM K "list" Fe (US i) (XG ti ZB)) ZB))) u) Fd (mi.bind fun j=>(Bl as j).bind fun p=>chk (zs.length < sizeLine) (f p.2 (zs ++ [p.1]))):=fun H D w s P=>by
  obtain ⟨p2, xs2, Cs2, e2, q2, c2⟩:=h2 _ s
  subst c2
  have hH2 : H p2 = some (.lst xs2):=w.tr (p2, .lst xs2) (List.mem_flatten.mpr ⟨_, List.mem_of_getElem? hk2, List.mem_cons_self⟩)
  refine ⟨v2, hσ2, by rw [e2]; exact .inl ⟨rfl, _, SqL.of hH2⟩, Eo (te:=ti) i k hσ hk h hi w s P fun a bs y C' H' w' s' P'=>?_⟩
  obtain ⟨hsz, P'⟩:=PZ.chk P'
  subst e2
  obtain ⟨Cs3, q3, c3⟩:=Dc (h2 _ s'.1.1)
  obtain ⟨pr, hfl⟩:=P3.flat q3
  have hkk : (OO.set k C')[k2]? = some ((p2, HO.lst xs2) :: ([] : List (List XA)).flatten):=by
    rw [List.getElem?_set_ne (fun e=>hne e.symm), hk2, c3, hfl]; rfl
  have hH3 : H' p2 = some (.lst xs2):=w'.tr (p2, .lst xs2) (List.mem_flatten.mpr ⟨_, List.mem_of_getElem? hkk, List.mem_cons_self⟩)
  obtain ⟨w3, m3⟩:=Lj (D:=[]) (Cs:=[]) (xs':=xs2 ++ [y]) (Cs':=List.replicate (zs ++ [a]).length []) w'.nil hkk (fun c hc=>by rw [Yt] at hc; cases hc) (by rw [Yt]; exact List.nodup_nil)
  rw [YX] at m3
  refine ⟨p2, xs2, y, rfl, rfl, hH3, by rw [Paired.len pr]; exact hsz, ?_⟩
  refine hr a bs C' _ _ D w3 ⟨⟨S.mono _ _ m3 s'.1.1, (SC.oneO K (oL (oF r)) v bs C').mono _ _ m3 s'.2⟩, ⟨p2, _, _, rfl, (P3.of (Paired.app (Paired.imp2 (fun _ _ z=>MonoE.mono m3 z) pr) (.cons (MonoE.mono m3 (show r K _ y a from s'.1.2)) .nil))).imp fun _ _ _ z=>z, rfl⟩⟩ (PZ.tr (fd.tr D) m3 P')
theorem BA {ta tb : TE} {r : Enc α} {q : Enc γ} [z : MonoE r] [MonoE q] {ma : Res α} {mb : Res γ} {f : α -> γ -> Res β} (i j : Nat) (ha : EvS K Er S OO σ ta r ma) (hb : EvS K Er S OO σ tb q mb)
    (hr : ∀ a b v w, Sv Er ((S.add K r v a).add K q w b) OO ((σ.set i (some v)).set j (some w)) u Fd (f a b)) : Sv Er S OO σ (JL (LC i j (XG ta (XG tb ZB))) u) Fd (ma.bind fun a=>mb.bind fun b=>f a b):=fun H D w s P=>
  ha.st w s P fun a x H1 s1 w1 q1 r1 P1=>hb.st w1 q1 P1 fun b y H2 s2 w2 q2 r2 P2=>⟨x, y, rfl, hr a b x y H2 D w2 ⟨⟨q2, z.mono (Xm s2) r1⟩, r2⟩ P2⟩
theorem Ho {te : TE} {r : Enc α} {q : Enc γ} [MonoE r] [MonoE q] {m : Res (α × γ)} {f : α × γ -> Res β} (i j : Nat) (he : EvS K Er S OO σ te (rP2 r q) m)
    (hr : ∀ a v w, Sv Er ((S.add K r v a.1).add K q w a.2) OO ((σ.set i (some v)).set j (some w)) u Fd (f a)) : Sv Er S OO σ (JL (CS te (IF K 2 (Vx (ZV i) (Vx (ZV j) II)))) u) Fd (m.bind f):=fun H D w s P=>
  he.st w s P fun a v H1 s1 w1 q1 ⟨p, x, y, e, h, h1, h2⟩ P1=>⟨p, _, e, SqT.of (XL _ _ h), rfl, x, [y], rfl, y, [], rfl, rfl, hr a x y H1 D w1 ⟨⟨q1, h1⟩, h2⟩ P1⟩
theorem FK {ta tb : TE} {ma mb : Res Int} (ha : EvB K Er S OO σ ta Xa ma) (hb : EvB K Er S OO σ tb Xa mb) : EvB K Er S OO σ (tCB (fun xs H Q=>∃ i j : Int, xs = [.int i, .int j] /\ Q (.int (if j > i then j else i)) H) (XG ta (XG tb ZB))) Xa (ma.bind fun a=>mb.bind fun b=>.ok (max a b)):=fun H Q w s P=>
  ha.run w s FB.tr P fun a x H1 s1 w1 q1 r1 P1=>hb.run w1 q1 FB.tr P1 fun b y H2 s2 w2 q2 r2 P2=>⟨a, b, by rw [show x = .int a from r1, show y = .int b from r2], P2 _ H2 (Xx.refl _) (by show V.int _ = V.int _; congr 1; omega)⟩
theorem Eb {ta tb : TE} {ma mb : Res Int} (ha : EvB K Er S OO σ ta Xa ma) (hb : EvB K Er S OO σ tb Xa mb) : EvB K Er S OO σ (tCB (fun xs H Q=>∃ i j : Int, xs = [.int i, .int j] /\ Q (.int (if j < i then j else i)) H) (XG ta (XG tb ZB))) Xa (ma.bind fun a=>mb.bind fun b=>.ok (min a b)):=fun H Q w s P=>
  ha.run w s FB.tr P fun a x H1 s1 w1 q1 r1 P1=>hb.run w1 q1 FB.tr P1 fun b y H2 s2 w2 q2 r2 P2=>⟨a, b, by rw [show x = .int a from r1, show y = .int b from r2], P2 _ H2 (Xx.refl _) (by show V.int _ = V.int _; congr 1; omega)⟩
theorem ZW : ∀ {xs : List V} {bs : List Bool} {H : Hp}, Paired (XC K H) xs bs -> xs = bs.map V.bl
  | _, _, _, .nil=>rfl
  | _, _, _, .cons r t=>by rw [show _ = V.bl _ from r, ZW t]; rfl
theorem Df {ta : TE} {ma : Res (List Bool)} (ha : EvB K Er S OO σ ta (rV XC) ma) : EvB K Er S OO σ (tCB (LB K) (XG ta ZB)) XC (ma.bind fun a=>.ok (a.all id)):=fun H Q w s P=>
  ha.run w s FB.tr P fun a x H1 s1 w1 q1 ⟨p, xs, e, q, pr⟩ P1=>⟨p, a, by rw [e], by rw [← ZW pr]; exact SqL.of q, P1 _ H1 (Xx.refl _) rfl⟩
class TyE {α : Type} (r : Enc α) (n : outParam String) : Prop where
  ty : ∀ {K : PySem.W.Frag} {H : Hp} {v : V} {a : α}, r K H v a -> TyOf K H v (.type n)
instance : TyE Xa "int":=⟨fun {K H v a} h=>by cases (show v = .int a from h); exact .int a⟩
instance : TyE XC "bool":=⟨fun {K H v a} h=>by cases (show v = .bl a from h); exact .bl a⟩
instance {r : Enc α} : TyE (rV r) "list":=⟨fun ⟨p, xs, e, q, _⟩=>by subst e; exact .lst q⟩
instance {r : Enc α} : TyE (rPL r) "tuple":=⟨fun h9=>(by obtain ⟨p, xs, e, q, _⟩:=h9; subst e; exact .tup q)⟩
instance {r : Enc α} {q : Enc γ} : TyE (rP2 r q) "tuple":=⟨fun h9=>(by obtain ⟨p, x, y, e, q, _⟩:=h9; subst e; exact .tup q)⟩
instance {r : Enc α} {q : Enc γ} {t : Enc δ} : TyE (rP3 r q t) "tuple":=⟨fun h9=>(by obtain ⟨p, x, y, z, e, q, _⟩:=h9; subst e; exact .tup q)⟩
theorem GF {te : TE} {r : Enc α} {n : String} [z : TyE r n] {m : Res α} (t : String) (b : Bool) (hk : PySem.W.kitOne K (.type n) (.type t) = some b) (he : EvB K Er S OO σ te r m) :
    EvB K Er S OO σ (tCB (fun xs H Q=>∃ x n t b, xs = [x, .ty n] /\ TyOf K H x t /\ PySem.W.kitOne K t (.type n) = some b /\ Q (.bl b) H) (XG te (XG (tC (.ty t)) ZB))) XC (m.bind fun _=>.ok b):=fun H Q w s P=>
  he.run w s FB.tr P fun a x H1 s1 w1 q1 r1 P1=>⟨x, t, .type n, b, rfl, z.ty r1, hk, P1 _ H1 (Xx.refl _) rfl⟩
theorem DV {ta : TE} {ma : Res Int} (ha : EvB K Er S OO σ ta Xa ma) : EvB K Er S OO σ (tCB (fun xs H Q=>∃ i : Int, xs = [.int i] /\ Q (.int (if i < 0 then -i else i)) H) (XG ta ZB)) Xa (ma.bind fun a=>.ok (a.natAbs : Int)):=fun H Q w s P=>
  ha.run w s FB.tr P fun a x H1 s1 w1 q1 r1 P1=>⟨a, by rw [show x = .int a from r1], P1 _ H1 (Xx.refl _) (by show V.int _ = V.int _; congr 1; omega)⟩
end
end L2
namespace L2
open PySem PySem.Spec PyProof.Rows
section
variable {K : PySem.W.Frag} {Er : Exc -> Hp -> Prop} {S : SC} {OO OO' OO1 OO2 : List (List XA)} {σ : St} {α β γ ρ ι δ ε : Type}
variable {Fd : Ends -> β -> Hp -> Prop} [fd : FdOk Fd] {u : TS}
theorem HH (n : Nat) (H : Hp) : W (List.replicate n []) H:=⟨fun c hc=>(by rw [Yt] at hc; cases hc), (by unfold fl; rw [Yt]; exact List.nodup_nil), fun c hc=>(by rw [Yt] at hc; cases hc)⟩
theorem Bc (n : Nat) (H : Hp) : hid H (List.replicate n []) = H:=by funext b; unfold hid fl; rw [Yt]; simp
theorem Iv {o : OE ρ} [z : MonoO o] {Q : VK} {b : ρ} {H : Hp} (q : FF K o Q b H) : ∀ v C OO' H', W (C :: OO') H' -> Xx H (hid H' (C :: OO')) -> o K (hid H' (C :: OO')) v b C -> Q v H':=fun v C OO' H' w m ho=>by
  have hs : Xx (hid H' (C :: OO')) (hid H' [C]):=Qo (Xx.refl _) fun b hb=>by
    rw [Y7]
    refine List.mem_append_left _ ?_
    simpa [fl] using hb
  exact q v C H' (w.sub (by simp)) (m.trans hs) (z.mono hs ho)
theorem YM {o : OE ρ} [MonoO o] {t : TS} {m : Res ρ} {Q : VK} {b : ρ} {H : Hp} {D : Ends} (n : Nat) (h : Sv (fun _ _=>False) S (List.replicate n []) σ t (FTd K o) m) (hs : S.p H) (hm : m = .ok b) (q : FF K o Q b H) (hD : D.rt = Q) : t D σ H:=by
  refine h H D (HH n H) (by rw [Bc]; exact hs) ?_
  subst hm
  rw [Bc]
  intro v C OO' H' w mm ho
  rw [hD]
  exact Iv q v C OO' H' w mm ho
noncomputable def oU : OE Unit:=fun _ _ v _ C=>v = .non /\ C = []
instance : MonoO oU:=⟨fun _ h=>h⟩
instance : FlatO oU:=⟨fun _ h=>h⟩
noncomputable def rU0 : Enc Unit:=fun _ _ v _=>v = .non
instance : FlatE rU0:=⟨fun _ h=>h⟩
instance : FrzC oU rU0:=⟨fun h _ _=>h.1⟩
theorem HJ {J : Jn Unit ι} {t : TS} {m : Res Unit} {Q : VK} {b : Unit} {H : Hp} {D : Ends} (n : Nat) (h : Sv (fun _ _=>False) S (List.replicate n []) σ t (FNd J) m) (hs : S.p H) (hm : m = .ok b) (q : FF K oU Q b H) (hD : ∀ σ H, D.nx σ H = Q .non H) : t D σ H:=by
  refine h H D (HH n H) (by rw [Bc]; exact hs) ?_
  subst hm
  rw [Bc]
  intro x H' w mm ho
  rw [hD]
  have hs : Xx (hid H' (J.oo x)) (hid H' [[]]):=Qo (Xx.refl _) fun b hb=>by simp [fl] at hb
  exact q .non [] H' ⟨fun c hc=>by simp at hc, by simp [fl], fun c hc=>by simp at hc⟩ (mm.trans hs) ⟨rfl, rfl⟩
theorem UU {t : TS} {m : Res β} (k : Nat) (hr : Sv Er S (OO.set k []) σ t Fd m) : Sv Er S OO σ t Fd m:=fun H D w s P=>by
  cases hk : OO[k]? with
  | none=>
    rw [List.set_eq_of_length_le (List.getElem?_eq_none_iff.mp hk)] at hr
    exact hr H D w s P
  | some C=>
    have hp:=X1 hk
    have w1 : W (C :: OO.set k []) H:=w.of hp
    have hs : Xx (hid H OO) (hid H (OO.set k [])):=by
      rw [← XU hp]
      exact Qo (Xx.refl _) fun b hb=>by rw [Y7]; simp [hb]
    exact hr H D w1.tail (S.mono _ _ hs s) (PZ.tr (fd.tr D) hs P)
theorem Dz {te : TE} {r : Enc α} {m : Res α} {f : Res β} (he : EvB K Er S OO σ te r m) (hr : Sv Er S OO σ u Fd f) : Sv Er S OO σ (JL (Ba te) u) Fd (m.bind fun _=>f):=fun H D w s P=>
  he.st w s P fun a v H' s1 w' s' ho P'=>hr H' D w' s' P'
noncomputable def FAO {α : Type} (K : PySem.W.Frag) (OO OO' : List (List XA)) (o : OE α) (Q : List V -> Hp -> Prop) (as : List α) (H : Hp) : Prop:=∀ vs Cs H', Xx H H' -> W (Cs.flatten :: OO') H' -> Xx (hid H OO) (hid H' (Cs.flatten :: OO')) -> P3 (o K (hid H' (Cs.flatten :: OO'))) vs as Cs -> Q vs H'
noncomputable def IH {α : Type} (K : PySem.W.Frag) (Er : Exc -> Hp -> Prop) (S : SC) (OO OO' : List (List XA)) (σ : St) (t : TA) (o : OE α) (m : Res (List α)) : Prop:=∀ H Q, W OO H -> S.p (hid H OO) -> PZ Er (FAO K OO OO' o Q) H m -> t σ H Q
theorem QF {o : OE α} : IH K Er S OO OO σ ZB o (.ok []):=fun H Q w s P=>P [] [] H (Xx.refl _) w.nil (by show Xx _ (hid H ([] :: OO)); rw [YX]; exact Xx.refl _) .nil
theorem Y6 {te : TE} {t : TA} {o : OE α} [z : MonoO o] {m : Res α} {n : Res (List α)} (he : Ev K Er S OO OO1 σ te o m) (ht : ∀ C, IH K Er S (C :: OO1) (C :: OO2) σ t o n) : IH K Er S OO OO2 σ (XG te t) o (m.bind fun a=>n.bind fun as=>.ok (a :: as)):=fun H Q w s P=>by
  refine he H _ w s ?_
  cases em : m with
  | bad=>rw [em] at P; exact P
  | err x=>rw [em] at P; exact P
  | ok a=>
    rw [em] at P
    intro v C H1 s1 w1 m1 ho
    refine ht C H1 _ w1 (S.mono _ _ m1 s) ?_
    have P1 : PZ Er (FAO K OO OO2 o Q) H (n.bind fun as=>.ok (a :: as)):=P
    cases en : n with
    | bad=>rw [en] at P1; exact P1
    | err x=>rw [en] at P1; exact fun H2 s2=>P1 H2 (s1.trans s2)
    | ok as=>
      rw [en] at P1
      have P1 : FAO K OO OO2 o Q (a :: as) H:=P1
      intro vs Cs H2 s2 w2 m2 pr
      have pe : ((C :: Cs).flatten :: OO2).flatten.Perm (Cs.flatten :: C :: OO2).flatten:=by
        simp only [List.flatten_cons]
        rw [← List.append_assoc]
        exact List.perm_append_comm.append_right _
      refine P1 (v :: vs) (C :: Cs) H2 (s1.trans s2) (w2.of pe) ?_ ?_
      . rw [XU pe]; exact m1.trans m2
      . rw [XU pe]; exact .cons (z.mono m2 ho) pr
theorem Jx {t : TA} {o : OE α} [z : MonoO o] {m : Res (List α)} (h : IH K Er S OO OO σ t o m) : Ev K Er S OO OO σ (CY t) (oL o) (m.bind fun as=>chk (as.length <= sizeLine) (.ok as)):=fun H Q w s P=>by
  refine h H _ w s ?_
  cases e : m with
  | bad=>rw [e] at P; exact P
  | err x=>rw [e] at P; exact P
  | ok as=>
    rw [e] at P
    obtain ⟨hsz, P⟩:=PZ.chk (show PZ Er _ H (chk (as.length <= sizeLine) (.ok as)) from P)
    intro vs Cs H1 s1 w1 m1 p
    exact ⟨by rw [p.len.1]; exact hsz, EL w1 m1 s1 p P⟩
class InE {α : Type} [DecidableEq α] (r : Enc α) : Prop where
  fl : ∀ {K : PySem.W.Frag} {H : Hp} {x : V} {a : α}, r K H x a -> J6 x = true
  eq : ∀ {K : PySem.W.Frag} {H H' : Hp} {x y : V} {a b : α}, r K H x a -> r K H' y b -> eqV x y = decide (a = b)
instance : InE Xa:=⟨fun {K H x a} h=>by cases (show x = .int a from h); rfl, fun {K H H' x y a b} h h'=>by
  cases (show x = .int a from h); cases (show y = .int b from h'); show (a == b) = _; rw [FI]⟩
theorem Uy [DecidableEq α] {r : Enc α} [z : InE r] {H H' : Hp} {x : V} {a : α} (hx : r K H x a) : ∀ {xs : List V} {as : List α}, Paired (r K H') xs as -> xs.all J6 = true /\ inV x xs = decide (a ∈ as)
  | _, _, .nil=>⟨rfl, by simp [inV]⟩
  | _, _, .cons h t=>by
    obtain ⟨h1, h2⟩:=Uy hx t
    refine ⟨by rw [List.all_cons, h1, z.fl h]; rfl, ?_⟩
    unfold inV at h2 ⊢
    rw [List.any_cons, h2, z.eq h hx, Bool.eq_iff_iff, Bool.or_eq_true, decide_eq_true_eq, decide_eq_true_eq, decide_eq_true_eq, List.mem_cons]
    exact or_congr ⟨Eq.symm, Eq.symm⟩ Iff.rfl
theorem F3 [DecidableEq α] {ta tb : TE} {r : Enc α} [z : InE r] {ma : Res α} {mb : Res (List α)} (ha : EvB K Er S OO σ ta r ma) (hb : EvB K Er S OO σ tb (rV r) mb) : EvB K Er S OO σ (tOp (rIn K true) ta tb) XC (ma.bind fun a=>mb.bind fun as=>.ok (!decide (a ∈ as))):=fun H Q w s P=>
  ha.run w s FB.tr P fun a x H1 s1 w1 q1 r1 P1=>hb.run w1 q1 FB.tr P1 fun b y H2 s2 w2 q2 ⟨p, xs, e, q, pr⟩ P2=>by
    obtain ⟨h1, h2⟩:=Uy r1 pr
    exact ⟨p, xs, e, .inl (SqL.of q), z.fl r1, h1, P2 _ H2 (Xx.refl _) (by rw [h2]; rfl)⟩
theorem EU {ta tb : TE} {r : Enc α} {m : Res (Option α)} (ha : EvB K Er S OO σ ta (KL r) m) : EvB K Er S OO σ (tOp (fun x y H Q=>y = .non /\ Q (.bl (decide (x = .non))) H) ta (tC .non)) XC (m.bind fun a=>.ok a.isNone):=fun H Q w s P=>
  ha.run w s FB.tr P fun a x H1 s1 w1 q1 r1 P1=>⟨rfl, P1 _ H1 (Xx.refl _) (by
    cases a with
    | none=>rw [show x = .non from r1]; rfl
    | some a=>show V.bl _ = V.bl _; rw [decide_eq_false r1.1]; rfl)⟩
theorem J4 {ta tb tc : TE} {p q : Int -> Int -> Bool} {ma mb mc : Res Int} (ha : EvB K Er S OO σ ta Xa ma) (hb : EvB K Er S OO σ tb Xa mb) (hc : EvB K Er S OO σ tc Xa mc) :
    EvB K Er S OO σ (DY (rI0 fun i j=>.bl (p i j)) (rI0 fun i j=>.bl (q i j)) ta tb tc) XC (ma.bind fun a=>mb.bind fun b=>if p a b = true then mc.bind fun c=>.ok (q b c) else .ok false):=fun H Q w s P=>
  ha.run w s FB.tr P fun a x H1 s1 w1 q1 r1 P1=>hb.run w1 q1 FB.tr P1 fun b y H2 s2 w2 q2 r2 P2=>⟨a, b, r1, r2, p a b, rfl, by
    cases h : p a b with
    | false=>rw [h] at P2; exact P2 _ H2 (Xx.refl _) rfl
    | true=>
      rw [h, if_pos rfl] at P2
      rw [if_pos rfl]
      exact hc.run w2 q2 FB.tr P2 fun c z H3 s3 w3 q3 r3 P3=>⟨b, c, r2, r3, P3 _ H3 (Xx.refl _) rfl⟩⟩
theorem Da {α : Type} [DecidableEq α] {r r' : Enc α} {d : Nat} (E : EqOk r d) (h : ∀ {K : PySem.W.Frag} {H : Hp} {v : V} {a : α}, r' K H v a -> r K H v a) (m : MonoE r') : EqOk r' d where
  uniq:=fun I h1 h2=>E.uniq I (h h1) (h h2)
  eq:=fun I rx ry h1 h2 hu=>E.eq I rx ry (h h1) (h h2) hu
  rc:=fun I rx ry h1 h2 hu=>E.rc I rx ry (h h1) (h h2) hu
  ne:=fun I rx ry h1 h2 hu=>E.ne I rx ry (h h1) (h h2) hu
  keep:=fun s q=>m.mono s q
theorem Iq {α : Type} [DecidableEq α] {r : Enc α} {d : Nat} [m : MonoE r] (E : EqOk r d) : EqOk (rV r) (d + 1):=Da (B0 E) (fun ⟨a, xs, e, q, p⟩=>⟨a, xs, e, SqL.of q, p⟩) inferInstance
theorem Lm {α : Type} [DecidableEq α] {r : Enc α} {d : Nat} [m : MonoE r] (E : EqOk r d) : EqOk (rPL r) (d + 1):=Da (Ej E) (fun ⟨a, xs, e, q, p⟩=>⟨a, xs, e, SqT.of q, p⟩) inferInstance
end
end L2
namespace L2
open PySem PySem.Spec PyProof.Rows
section
variable {K : PySem.W.Frag} {Er : Exc -> Hp -> Prop} {S : SC} {OO OO' OO1 OO2 : List (List XA)} {σ : St} {α β γ ρ ι δ ε : Type}
variable {Fd : Ends -> β -> Hp -> Prop} [fd : FdOk Fd] {u : TS}
theorem Bf {ta tb : TE} {o : OE α} {q : OE β} [z : MonoO o] [y : MonoO q] {ma : Res α} {mb : Res β} (ha : Ev K Er S OO OO1 σ ta o ma) (hb : ∀ C, Ev K Er S (C :: OO1) (C :: OO2) σ tb q mb) : Ev K Er S OO OO2 σ (E8 (XG ta (XG tb ZB))) (oT2 o q) (ma.bind fun a=>mb.bind fun b=>.ok (a, b)):=fun H Q w s P=>by
  refine ha H _ w s ?_
  cases em : ma with
  | bad=>rw [em] at P; exact P
  | err x=>rw [em] at P; exact P
  | ok a=>
    rw [em] at P
    intro v C H1 s1 w1 m1 ho
    refine hb C H1 _ w1 (S.mono _ _ m1 s) ?_
    have P1 : PZ Er (FO K OO OO2 (oT2 o q) Q) H (mb.bind fun b=>.ok (a, b)):=P
    cases en : mb with
    | bad=>rw [en] at P1; exact P1
    | err x=>rw [en] at P1; exact fun H2 s2=>P1 H2 (s1.trans s2)
    | ok b=>
      rw [en] at P1
      have P1 : FO K OO OO2 (oT2 o q) Q (a, b) H:=P1
      intro v2 C2 H2 s2 w2 m2 ho2
      refine ⟨by show 2 <= sizeLine; decide, fun p hp=>?_⟩
      have pe : ((C ++ C2) :: OO2).flatten.Perm (C2 :: C :: OO2).flatten:=by
        simp only [List.flatten_cons]
        rw [← List.append_assoc]
        exact List.perm_append_comm.append_right _
      have s3 : Xx H2 (upd H2 p (.tup [v, v2])):=XF hp _
      have w3:=(w2.keep s3).of pe
      have m3 : Xx (hid H2 (C2 :: C :: OO2)) (hid (upd H2 p (.tup [v, v2])) ((C ++ C2) :: OO2)):=by rw [XU pe]; exact Xm s3
      refine P1 (.ref p) (C ++ C2) _ (s1.trans (s2.trans s3)) w3 (m1.trans (m2.trans m3)) ⟨p, v, v2, C, C2, rfl, ?_, z.mono (m2.trans m3) ho, y.mono m3 ho2, rfl⟩
      rw [XU pe]
      exact QB w2 hp
theorem HS {c : TT} {t1 : TS} {mc : Res Bool} {m2 : Res β} (hc : EvT Er S OO σ c mc) (h2 : Sv Er S OO σ u Fd m2) : Sv Er S OO σ (JL (Hj c t1 Fq) u) Fd (mc.bind fun b=>if b = true then .bad else m2):=fun H D w s P=>
  hc.st w s P fun b H' w' s' P'=>by
    cases b with
    | true=>rw [if_pos rfl] at P'; exact P'.elim
    | false=>exact h2 H' D w' s' P'
theorem Ux : ∀ {l : List XA} {a b : XA}, (l.map (·.1)).Nodup -> a ∈ l -> b ∈ l -> a.1 = b.1 -> a = b
  | [], _, _, _, h, _, _=>by cases h
  | c :: l, a, b, n, ha, hb, e=>by
    rw [List.map_cons, List.nodup_cons] at n
    cases ha with
    | head=>cases hb with
      | head=>rfl
      | tail _ hb=>exact absurd (List.mem_map.mpr ⟨b, hb, e.symm⟩) n.1
    | tail _ ha=>cases hb with
      | head=>exact absurd (List.mem_map.mpr ⟨a, ha, e⟩) n.1
      | tail _ hb=>exact Ux n.2 ha hb e
theorem Gk {Cs : List (List XA)} {k : Nat} {C : List XA} (h : Cs[k]? = some C) : ∀ c ∈ C, c ∈ Cs.flatten:=fun c hc=>List.mem_flatten.mpr ⟨C, List.mem_of_getElem? h, hc⟩
theorem Ip {as : List α} {i : Int} {a : α} (h : atR as i = .ok a) : ∃ k, ixN as.length i = some k /\ as[k]? = some a:=by
  have:=K9 h
  unfold atI at this
  cases e : ixN as.length i with
  | none=>rw [e] at this; cases this
  | some k=>rw [e] at this; exact ⟨k, rfl, this⟩
theorem EE {r : Enc α} [z : MonoE r] {v : V} {as : List (List α)} {row row' : List α} {H : Hp} {p q : Addr} {xs ys ys' : List V} {Cs : List (List XA)} {k kk : Nat} (w : W OO H) (hk : OO[k]? = some ((p, .lst xs) :: Cs.flatten)) (hP : P3 (oL (oF r) K (hid H OO)) xs as Cs) (hrow : as[kk]? = some row)
    (hx : xs[kk]? = some (.ref q)) (hq : H q = some (.lst ys)) (hcs : Cs[kk]? = some [(q, .lst ys)]) (pr : Paired (r K (hid H OO)) ys' row') :
    ∃ C', W (OO.set k C') (upd H q (.lst ys')) /\ Xx (hid H OO) (hid (upd H q (.lst ys')) (OO.set k C')) /\ oL (oL (oF r)) K (hid (upd H q (.lst ys')) (OO.set k C')) (.ref p) (as.set kk row') C':=by
  have hkl : kk < Cs.length:=by
    rcases Nat.lt_or_ge kk Cs.length with h | h
    . exact h
    . rw [List.getElem?_eq_none h] at hcs; cases hcs
  have hin : ∀ c ∈ (p, HO.lst xs) :: Cs.flatten, c ∈ OO.flatten:=fun c hc=>List.mem_flatten.mpr ⟨_, List.mem_of_getElem? hk, hc⟩
  have w0 : W ([] :: OO) H:=w.nil
  have cn0:=JA w0 hk
  rw [List.append_nil] at cn0
  have e0 : Cs[kk] = [(q, .lst ys)]:=by
    rw [List.getElem?_eq_getElem hkl] at hcs; exact Option.some.inj hcs
  have hp:=KQ (Cs:=Cs) (j:=kk) (D:=[(q, HO.lst ys')]) hkl
  rw [e0] at hp
  have hpm : ((Cs.set kk [(q, HO.lst ys')]).flatten.map (·.1)).Perm (Cs.flatten.map (·.1)):=by
    have:=hp.map (·.1)
    simp only [List.map_append, List.map_cons, List.map_nil] at this
    exact (List.perm_append_right_iff _).mp this
  have hpne : p ∉ Cs.flatten.map (·.1):=by
    have h1:=X1 hk
    have:=(w.of (OO':=((p, HO.lst xs) :: Cs.flatten) :: OO.set k []) h1).nd
    rw [Y7, List.map_cons, List.cons_append, List.nodup_cons] at this
    exact fun z=>this.1 (List.mem_append_left _ z)
  have hqC : q ∈ Cs.flatten.map (·.1):=List.mem_map.mpr ⟨(q, .lst ys), Gk hcs _ (by simp), rfl⟩
  have hpq : p ≠ q:=fun e=>hpne (e ▸ hqC)
  have hcells : ∀ c ∈ (p, HO.lst xs) :: (Cs.set kk [(q, HO.lst ys')]).flatten, upd H q (.lst ys') c.1 = some c.2 /\ Hc c.2 = true:=fun c hc=>by
    rcases List.mem_cons.mp hc with rfl | hc
    . rw [XT hpq]; exact ⟨w.tr _ (hin _ List.mem_cons_self), rfl⟩
    . obtain ⟨D, hD, hcD⟩ := List.mem_flatten.mp hc
      rcases List.mem_or_eq_of_mem_set hD with hD | hD
      . by_cases hcq : c.1 = q
        . -- a cell at q in another place: then it is this one
          have hc2 : c ∈ (Cs.set kk [(q, HO.lst ys')]).flatten:=hc
          have n1 : ((Cs.set kk [(q, HO.lst ys')]).flatten.map (·.1)).Nodup:=hpm.nodup_iff.mpr cn0
          have hm : (q, HO.lst ys') ∈ (Cs.set kk [(q, HO.lst ys')]).flatten:=List.mem_flatten.mpr ⟨[(q, .lst ys')], List.mem_set (by simpa using hkl) _, by simp⟩
          have e1 : c = (q, HO.lst ys'):=by
            have:=Ux n1 hc2 hm hcq
            exact this
          rw [e1]; exact ⟨Yb, rfl⟩
        . rw [XT hcq]
          have : c ∈ OO.flatten:=hin c (List.mem_cons_of_mem _ (List.mem_flatten.mpr ⟨D, hD, hcD⟩))
          exact ⟨w.tr c this, w.mu c this⟩
      . rw [hD] at hcD
        have e1 : c = (q, HO.lst ys'):=by simpa using hcD
        rw [e1]; exact ⟨Yb, rfl⟩
  have hq' : q ∈ (Cs.set kk [(q, HO.lst ys')]).flatten.map (·.1):=hpm.mem_iff.mpr hqC
  obtain ⟨w2, m2⟩:=En (C':=(p, .lst xs) :: (Cs.set kk [(q, HO.lst ys')]).flatten) (p:=q) (o:=.lst ys') w0 hk (List.mem_cons_of_mem _ hqC) (List.mem_cons_of_mem _ hq') (by
      rw [List.map_cons, List.nodup_cons]
      exact ⟨fun z=>hpne (hpm.mem_iff.mp z), hpm.nodup_iff.mpr cn0⟩) (fun b hb=>by
      rw [List.append_nil]
      rcases List.mem_cons.mp hb with rfl | hb
      . exact List.mem_cons_self
      . exact List.mem_cons_of_mem _ (hpm.mem_iff.mp hb)) (fun c hc=>(hcells c hc).1) fun c hc=>(hcells c hc).2
  rw [YX] at m2
  have e3 : xs.set kk (.ref q) = xs:=by
    apply List.ext_getElem?
    intro n
    by_cases hn : n = kk
    . subst hn
      rw [hx, List.getElem?_set_self (by
        rcases Nat.lt_or_ge n xs.length with h | h
        . exact h
        . rw [List.getElem?_eq_none h] at hx; cases hx)]
    . rw [List.getElem?_set_ne (fun e=>hn e.symm)]
  refine ⟨_, w2, m2, ⟨p, xs, Cs.set kk [(q, HO.lst ys')], rfl, ?_, rfl⟩⟩
  have:=P3.set (F:=oL (oF r) K (hid (upd H q (.lst ys')) (OO.set k ((p, .lst xs) :: (Cs.set kk [(q, HO.lst ys')]).flatten)))) (a:=V.ref q) (b:=row') (c:=[(q, HO.lst ys')])
    ⟨q, ys', List.replicate row'.length [], rfl, (P3.of (Paired.imp2 (fun _ _ h=>z.mono m2 h) pr)).imp fun _ _ _ h=>h, by rw [Yt]⟩ kk (P3.imp (fun _ _ _ h=>MonoO.mono m2 h) hP)
  rw [e3] at this
  exact this
theorem EW {r : Enc α} {h : Hp} {as : List (List α)} {xs : List V} {Cs : List (List XA)} {kk : Nat} {row : List α} (q : P3 (oL (oF r) K h) xs as Cs) (hrow : as[kk]? = some row) : ∃ q0 ys, xs[kk]? = some (.ref q0) /\ Cs[kk]? = some [(q0, .lst ys)] /\ Paired (r K h) ys row:=by
  obtain ⟨x, c, h1, h2, p, ys, Ds, e, h3, h4⟩:=q.get hrow
  obtain ⟨h5, h6⟩:=P3.flat h3
  rw [h6] at h4
  exact ⟨p, ys, by rw [h1, e], by rw [h2, h4], h5⟩
theorem Vd {F : V -> α -> Prop} {y : V} {a : α} (r : F y a) : ∀ {l : List V} {m : List α} (i : Nat), Paired F l m -> Paired F (l.set i y) (m.set i a)
  | _, _, _, .nil=>.nil
  | _, _, 0, .cons _ t=>.cons r t
  | _, _, i + 1, .cons q t=>.cons q (Vd r i t)
theorem DG {ta ti tj : TE} {r : Enc α} [z : MonoE r] {m : Res α} {mi mj : Res Int} {f : List (List α) -> Res β} {v : V} {as : List (List α)} {C : List XA} (i k : Nat) (hσ : σ[i]? = some (some v)) (hk : OO[k]? = some C) (h : ∀ x, S.p x -> oL (oL (oF r)) K x v as C) (he : EvS K Er S OO σ ta r m)
    (hi : EvB K Er S OO σ ti Xa mi) (hj : EvB K Er S OO σ tj Xa mj)
    (hr : ∀ bs C', Sv Er (S.addO K (oL (oL (oF r))) v bs C') (OO.set k C') σ u Fd (f bs)) :
    Sv Er S OO σ (JL (CS ta (IP (tOp (HL K) (US i) ti) tj EO)) u) Fd (m.bind fun a=>mi.bind fun x=>(atR as x).bind fun row=>mj.bind fun y=>(Q2 row y a).bind fun row'=>(Q2 as x row').bind f):=fun H D w s P=>
  he.st w s P fun a va H1 s1 w1 q1 r1 P1=>⟨v, hσ, hi.st w1 q1 P1 fun x vx H2 s2 w2 q2 r2 P2=>by
    cases ea : atR as x with
    | bad=>rw [ea] at P2; exact P2.elim
    | err ex=>exact absurd ea KJ
    | ok row=>
      rw [ea] at P2
      obtain ⟨kk, hkk, hrow⟩:=Ip ea
      obtain ⟨p, xs, Cs, e, q, c⟩:=h _ q2
      subst c e
      obtain ⟨q0, ys, g1, g2, g3⟩:=EW q hrow
      have hin : ∀ c ∈ (p, HO.lst xs) :: Cs.flatten, c ∈ OO.flatten:=fun c hc=>List.mem_flatten.mpr ⟨_, List.mem_of_getElem? hk, hc⟩
      have hH : H2 p = some (.lst xs):=w2.tr (p, .lst xs) (hin _ List.mem_cons_self)
      have hq0 : H2 q0 = some (.lst ys):=w2.tr (q0, .lst ys) (hin _ (List.mem_cons_of_mem _ (Gk g2 _ (by simp))))
      refine ⟨p, xs, x, .ref q0, rfl, r2, SqL.of hH, by unfold atI; rw [q.len.1, hkk]; exact g1, hj.st w2 q2 (f:=fun y=>(Q2 row y a).bind fun row'=>(Q2 as x row').bind f) P2 fun y vy H3 s3 w3 q3 r3 P3'=>?_⟩
      cases eb : Q2 row y a with
      | bad=>rw [eb] at P3'; exact P3'.elim
      | err ex=>exact absurd eb Fm
      | ok row'=>
        rw [eb] at P3'
        obtain ⟨jj, hjj, rfl⟩:=Fh eb
        have P4 : PZ Er (Fd D) (hid H3 OO) (f (as.set kk (row.set jj a))):=by
          have e5 : Q2 as x (row.set jj a) = .ok (as.set kk (row.set jj a)):=by unfold Q2; rw [hkk]
          have : PZ Er (Fd D) (hid H3 OO) ((Q2 as x (row.set jj a)).bind f):=P3'
          rw [e5] at this
          exact this
        have m3:=Xm (OO:=OO) s3
        obtain ⟨C', w4, m4, o4⟩:=EE (ys':=ys.set jj va) (row':=row.set jj a) (v:=.ref p) w3 hk (P3.imp (fun _ _ _ h=>MonoO.mono m3 h) q) hrow g1 (s3 _ _ hq0) g2 (Vd (z.mono ((Xm s2).trans m3) r1) jj (Paired.imp2 (fun _ _ h=>z.mono m3 h) g3))
        exact ⟨q0, ys, y, jj, rfl, r3, s3 _ _ hq0, by rw [Paired.len g3]; exact hjj, hr _ C' _ D w4 ⟨S.mono _ _ m4 q3, o4⟩ (PZ.tr (fd.tr D) m4 P4)⟩⟩
theorem CK (K : PySem.W.Frag) (T : String) : PySem.W.kitOne K (.type T) (.type T) = some true:=by
  unfold PySem.W.kitOne
  rw [if_pos (beq_self_eq_true _)]
end
end L2
namespace L2
open PySem PySem.Spec PyProof.Rows
section
variable {K : PySem.W.Frag} {Er : Exc -> Hp -> Prop} {S : SC} {OO OO' OO1 OO2 : List (List XA)} {σ : St} {α β γ ρ ι δ ε : Type}
variable {Fd : Ends -> β -> Hp -> Prop} [fd : FdOk Fd] {u : TS}
noncomputable def LF : Option α -> Res α
  | some a=>.ok a
  | none=>.bad
theorem H9 {te : TE} {r : Enc α} {m : Res (Option α)} (he : EvB K Er S OO σ te (KL r) m) : EvB K Er S OO σ te r (m.bind LF):=fun H Q w s P=>by
  refine he H Q w s ?_
  cases m with
  | bad=>exact P
  | err x=>exact P
  | ok a=>
    cases a with
    | none=>exact P.elim
    | some a=>exact fun v H' s' hr=>P v H' s' hr.2
theorem IW {r : Enc α} {q : Enc γ} {t : Enc δ} {K : PySem.W.Frag} {h : Hp} {v : V} {a : α × γ × δ} {C : List XA} (q : oF (rP3 r q t) K h v a C) : v ≠ .non:=by
  obtain ⟨_, p, x, y, z, e, _⟩:=q
  rw [e]; exact fun z=>nomatch z
end
end L2
namespace L2
open PySem PySem.Spec PyProof.Rows
section
variable {K : PySem.W.Frag} {Er : Exc -> Hp -> Prop} {S : SC} {OO OO' OO1 OO2 : List (List XA)} {σ : St} {α β γ ρ ι δ ε : Type}
variable {α1 α2 α3 α4 α5 : Type}
noncomputable def rP4 (r1 : Enc α1) (r2 : Enc α2) (r3 : Enc α3) (r4 : Enc α4) : Enc (α1 × α2 × α3 × α4):=fun K H v p=>∃ a x1 x2 x3 x4, v = .ref a /\ H a = some (.tup [x1, x2, x3, x4]) /\ r1 K H x1 p.1 /\ r2 K H x2 p.2.1 /\ r3 K H x3 p.2.2.1 /\ r4 K H x4 p.2.2.2
instance {r1 : Enc α1} {r2 : Enc α2} {r3 : Enc α3} {r4 : Enc α4} [m1 : MonoE r1] [m2 : MonoE r2] [m3 : MonoE r3] [m4 : MonoE r4] : MonoE (rP4 r1 r2 r3 r4):=⟨fun s h9=>(by obtain ⟨a, x1, x2, x3, x4, e, h, p1, p2, p3, p4⟩:=h9; exact ⟨a, x1, x2, x3, x4, e, s _ _ h, m1.mono s p1, m2.mono s p2, m3.mono s p3, m4.mono s p4⟩)⟩
instance {r1 : Enc α1} {r2 : Enc α2} {r3 : Enc α3} {r4 : Enc α4} [m1 : FlatE r1] [m2 : FlatE r2] [m3 : FlatE r3] [m4 : FlatE r4] : FlatE (rP4 r1 r2 r3 r4):=⟨fun s h9=>(by obtain ⟨a, x1, x2, x3, x4, e, h, p1, p2, p3, p4⟩:=h9; exact ⟨a, x1, x2, x3, x4, e, s _ _ h rfl, m1.flat s p1, m2.flat s p2, m3.flat s p3, m4.flat s p4⟩)⟩
instance {r1 : Enc α1} {r2 : Enc α2} {r3 : Enc α3} {r4 : Enc α4} : TyE (rP4 r1 r2 r3 r4) "tuple":=⟨fun h9=>(by obtain ⟨p, x1, x2, x3, x4, e, q, _⟩:=h9; subst e; exact .tup q)⟩
noncomputable def rP5 (r1 : Enc α1) (r2 : Enc α2) (r3 : Enc α3) (r4 : Enc α4) (r5 : Enc α5) : Enc (α1 × α2 × α3 × α4 × α5):=fun K H v p=>∃ a x1 x2 x3 x4 x5, v = .ref a /\ H a = some (.tup [x1, x2, x3, x4, x5]) /\ r1 K H x1 p.1 /\ r2 K H x2 p.2.1 /\ r3 K H x3 p.2.2.1 /\ r4 K H x4 p.2.2.2.1 /\ r5 K H x5 p.2.2.2.2
instance {r1 : Enc α1} {r2 : Enc α2} {r3 : Enc α3} {r4 : Enc α4} {r5 : Enc α5} [m1 : MonoE r1] [m2 : MonoE r2] [m3 : MonoE r3] [m4 : MonoE r4] [m5 : MonoE r5] : MonoE (rP5 r1 r2 r3 r4 r5):=⟨fun s h9=>(by obtain ⟨a, x1, x2, x3, x4, x5, e, h, p1, p2, p3, p4, p5⟩:=h9; exact ⟨a, x1, x2, x3, x4, x5, e, s _ _ h, m1.mono s p1, m2.mono s p2, m3.mono s p3, m4.mono s p4, m5.mono s p5⟩)⟩
instance {r1 : Enc α1} {r2 : Enc α2} {r3 : Enc α3} {r4 : Enc α4} {r5 : Enc α5} [m1 : FlatE r1] [m2 : FlatE r2] [m3 : FlatE r3] [m4 : FlatE r4] [m5 : FlatE r5] : FlatE (rP5 r1 r2 r3 r4 r5):=⟨fun s h9=>(by obtain ⟨a, x1, x2, x3, x4, x5, e, h, p1, p2, p3, p4, p5⟩:=h9; exact ⟨a, x1, x2, x3, x4, x5, e, s _ _ h rfl, m1.flat s p1, m2.flat s p2, m3.flat s p3, m4.flat s p4, m5.flat s p5⟩)⟩
instance {r1 : Enc α1} {r2 : Enc α2} {r3 : Enc α3} {r4 : Enc α4} {r5 : Enc α5} : TyE (rP5 r1 r2 r3 r4 r5) "tuple":=⟨fun h9=>(by obtain ⟨p, x1, x2, x3, x4, x5, e, q, _⟩:=h9; subst e; exact .tup q)⟩
theorem DE {ta : TE} {r1 : Enc α1} {r2 : Enc α2} {r3 : Enc α3} {m : Res (α1 × α2 × α3)} (ha : EvB K Er S OO σ ta (rP3 r1 r2 r3) m) : EvB K Er S OO σ (tOp (E9 K) ta (tC (.int 0))) r1 (m.bind fun p=>.ok p.1):=fun H Q w s P=>
  ha.run w s FB.tr P fun a x H1 s1 w1 q1 ⟨p, x1, x2, x3, e, q, h1, h2, h3⟩ P1=>⟨p, _, 0, x1, e, rfl, SqT.of q, rfl, P1 _ H1 (Xx.refl _) h1⟩
theorem EB {ta : TE} {r1 : Enc α1} {r2 : Enc α2} {r3 : Enc α3} {m : Res (α1 × α2 × α3)} (ha : EvB K Er S OO σ ta (rP3 r1 r2 r3) m) : EvB K Er S OO σ (tOp (E9 K) ta (tC (.int 1))) r2 (m.bind fun p=>.ok p.2.1):=fun H Q w s P=>
  ha.run w s FB.tr P fun a x H1 s1 w1 q1 ⟨p, x1, x2, x3, e, q, h1, h2, h3⟩ P1=>⟨p, _, 1, x2, e, rfl, SqT.of q, rfl, P1 _ H1 (Xx.refl _) h2⟩
theorem Ee {ta : TE} {r1 : Enc α1} {r2 : Enc α2} {r3 : Enc α3} {m : Res (α1 × α2 × α3)} (ha : EvB K Er S OO σ ta (rP3 r1 r2 r3) m) : EvB K Er S OO σ (tOp (E9 K) ta (tC (.int 2))) r3 (m.bind fun p=>.ok p.2.2):=fun H Q w s P=>
  ha.run w s FB.tr P fun a x H1 s1 w1 q1 ⟨p, x1, x2, x3, e, q, h1, h2, h3⟩ P1=>⟨p, _, 2, x3, e, rfl, SqT.of q, rfl, P1 _ H1 (Xx.refl _) h3⟩
theorem Vf {te : TE} {tl th : TO} {r : Enc α} [z : MonoE r] {m : Res (List α)} {ml mh : Res (Option Int)} (he : EvB K Er S OO σ te (rPL r) m) (hl : EvP Er S OO σ tl ml) (hh : EvP Er S OO σ th mh) :
    EvB K Er S OO σ (tSl (IX K) te tl th) (rPL r) (m.bind fun as=>ml.bind fun lo=>mh.bind fun hi=>chk (¬ (HT.sIx as.length 0 lo = 0 /\ HT.sIx as.length as.length hi = as.length)) (.ok (Qj as lo hi))):=fun H Q w s P=>
  he.run w s FB.tr P fun as x H1 s1 w1 q1 ⟨p, xs, e, q, pr⟩ P1=>hl.run w1 q1 FB.tr P1 fun lo H2 s2 w2 q2 P2=>hh.run w2 q2 FB.tr P2 fun hi H3 s3 w3 q3 P3'=>by
    obtain ⟨hn, P3'⟩:=PZ.chk P3'
    have pr2:=QO (Paired.imp2 (G:=r K H3) (fun _ _ h=>z.mono (s2.trans s3) h) pr) lo hi
    exact ⟨p, xs, e, SqT.of (s3 _ _ (s2 _ _ q)), by rw [Paired.len pr]; exact hn, fun a ha=>P3' _ _ (XF ha _) ⟨a, _, rfl, Yb, Paired.imp2 (fun _ _ h=>z.mono (XF ha _) h) pr2⟩⟩
variable {Fd : Ends -> β -> Hp -> Prop} [fd : FdOk Fd] {u : TS}
end
end L2
namespace L2
open PySem PySem.Spec PyProof.Rows
theorem Yz.ex {P : Program} {w : World} {H : Hp} {h : Heap} {a : Addr} {o : HO} (x : Yz P w H h a o) : ∃ u, h.get? a = some u:=by
  cases o with
  | lst xs=>obtain ⟨_, _, _, _, e⟩:=x; exact ⟨_, e⟩
  | tup xs=>obtain ⟨_, _, _, p⟩:=x; obtain ⟨o, e, _⟩:=p; exact ⟨_, e⟩
  | dK kvs=>obtain ⟨_, _, _, _, o, _, _, e, _⟩:=x; exact ⟨_, e⟩
  | dT kvs=>obtain ⟨_, _, _, _, o, _, _, e, _⟩:=x; exact ⟨_, e⟩
  | set S n=>obtain ⟨o, _, _, _, e, _⟩:=x; exact ⟨_, e⟩
  | ins C dx fs=>obtain ⟨_, _, _, e, _⟩:=x; exact ⟨_, e⟩
  | own y=>exact x
  | xd fs=>obtain ⟨_, ⟨_, _, _, e, _⟩, _⟩:=x; exact ⟨_, e⟩
  | rng lo hi=>obtain ⟨_, _, _, e⟩:=x; exact ⟨_, e⟩
  | frz ob u=>exact ⟨_, x.1⟩
  | tbl ps=>exact ⟨_, x⟩
  | met f y=>exact ⟨_, x⟩
  | ext φ=>exact x.2.1
theorem HOk.un0 {P : Program} {w : World} {H : Hp} {h : Heap} {a : Addr} (x : HOk P w H h) (e : h.get? a = none) : H a = none:=by
  cases q : H a with
  | none=>rfl
  | some u=>obtain ⟨v, hv⟩:=(x a u q).ex; rw [e] at hv; cases hv
structure Fl (h0 h : Heap) (H : Hp) (a T : Addr) (cls : Value) : Prop where
  na : h0.get? a = none
  nT : h0.get? T = none
  fa : H a = none
  fT : H T = none
  ne : T ≠ a
  obj : ∃ oe vs oT ts a0, h.get? a = some oe /\ oe.cls = cls /\ vs[0]? = some a0 /\ oe.data = .fields vs /\ vs[1]? = some (.ref T) /\ h.get? T = some oT /\ oT.data = .fields ts /\ ts[3]? = some Value.none
noncomputable def Lf (h : Heap) (fs : List Addr) (a T : Addr) : Heap:=Cf h (fun b=>if b ∈ fs ∨ b = a ∨ b = T then some (.own 0) else none)
theorem KN {h : Heap} {fs : List Addr} {a T b : Addr} {o : Obj} (e : h.get? b = some o) (n1 : b ∉ fs) (n2 : b ≠ a) (n3 : b ≠ T) : (Lf h fs a T).get? b = some o:=
  KS e (if_neg fun z=>z.elim n1 fun z=>z.elim n2 n3)
section
variable {P : Program} {w : World} {h0 h h' base : Heap} {H : Hp} {a T : Addr} {cls a0 : Value} {l : List Env}
theorem Un.traced (hl : h.FunFrames base l) (keep : ∀ b o, b ∉ frs l -> b ≠ a -> b ≠ T -> h.get? b = some o -> h'.get? b = some o) (up : h.UpToSlots h') : Un (frs l) [a, T] H H h h' where
  keep:=fun b o e _ hb hx=>keep b o hb (fun z=>hx (by simp [z])) (fun z=>hx (by simp [z])) e
  slot:=fun b o e _ hb _=>by
    obtain ⟨_, o2, ho2, hd2⟩:=hl.mem hb
    rw [e] at ho2; cases ho2
    exact up b o e hd2
  free:=fun b o e n _=>n
  there:=fun b o e hx=>by
    by_cases hb : b ∈ frs l
    . obtain ⟨_, o2, ho2, hd2⟩ := hl.mem hb
      obtain ⟨sl, q⟩:=up b o2 ho2 hd2
      exact ⟨_, q⟩
    . exact ⟨o, keep b o hb (fun z=>hx (by simp [z])) (fun z=>hx (by simp [z])) e⟩
  tups:=fun _ _ q=>q
  frzs:=fun _ _ _ q=>q
  tbls:=fun _ ps q=>⟨#[], by simpa using q⟩
theorem HOk.traced (hok : HOk P w H h) (hfn : ∀ b ∈ frs l, H b = none) (fa : H a = none) (fT : H T = none) (keep : ∀ b o, b ∉ frs l -> b ≠ a -> b ≠ T -> h.get? b = some o -> h'.get? b = some o) : HOk P w H h':=fun b o e=>by
  refine (hok b o e).stay (fun c u hc q=>?_) (fun _ q=>q) fun _ _ q=>q
  have hn : H c ≠ none:=by
    rcases hc with z | z
    . rw [z, e]; exact fun y=>nomatch y
    . rw [z]; exact fun y=>nomatch y
  exact keep c u (fun z=>hn (hfn c z)) (fun z=>hn (z ▸ fa)) (fun z=>hn (z ▸ fT)) q
theorem Fl.after (x : Fl h0 h H a T cls) (hl : h.FunFrames base l) (hfn : ∀ b ∈ frs l, H b = none) (hok : HOk P w H h) (th : ∀ b o, h0.get? b = some o -> ∃ o', h.get? b = some o')
    (st : (Lf h (frs l) a T).StaysIn h') (tr : h'.TracedW (Lf h (frs l) a T) a cls a0) (up : h.UpToSlots h') : ∃ T', Fl h0 h' H a T' cls /\ HOk P w H h' /\ Un (frs l) [a, T] H H h h':=by
  obtain ⟨oe, vs, T', oT, ts, ha, ⟨hc, h0'⟩, hd, h1, hnT, hne, hT, hdT, h3⟩:=tr
  have key : T' = T ∨ h.get? T' = none:=by
    cases q : h.get? T' with
    | none=>exact .inr rfl
    | some o=>
      by_cases hf : T' ∈ frs l
      . obtain ⟨_, o2, ho2, hd2⟩ := hl.mem hf
        obtain ⟨sl, e2⟩:=up T' o2 ho2 hd2
        rw [hT] at e2; cases e2
        exact absurd hdT (hd2 ts)
      . by_cases hz : T' = T
        . exact .inl hz
        . rw [KN q hf hne hz] at hnT; cases hnT
  have keep : ∀ b o, b ∉ frs l -> b ≠ a -> b ≠ T -> h.get? b = some o -> h'.get? b = some o:=fun b o n1 n2 n3 e=>st b o (KN e n1 n2 n3)
  refine ⟨T', ⟨x.na, ?_, x.fa, ?_, hne, oe, vs, oT, ts, a0, ha, hc, h0', hd, h1, hT, hdT, h3⟩, hok.traced hfn x.fa x.fT keep, Un.traced hl keep up⟩
  . rcases key with e | e
    . rw [e]; exact x.nT
    . cases q : h0.get? T' with
      | none=>rfl
      | some o=>obtain ⟨o', e'⟩:=th _ _ q; rw [e] at e'; cases e'
  . rcases key with e | e
    . rw [e]; exact x.fT
    . exact hok.un0 e
end
section
variable {fs fs2 ex ex2 : List Addr} {H0 H H' : Hp} {h0 h h' : Heap}
end
section
variable {P : Program} {w : World} {K : PySem.W.Frag} {mg : Str -> Option Value} {base : Heap} {N : List Str} {qual : Str} {scope : Scope} {f : Addr} {cd : Value} {A : Around} {outer : List Env} {s0 : Shared} {H0 : Hp} {E : XK}
end
section
variable {X : Cx} {k j : Nat} {x : Str} {ps : List Str} {sp : Sp} {e : Expr} {es : List Expr} {t : TA} {p pos : Pos} {E : XK}
end
section
variable {X : Cx} {E : XK} {C : Addr} {x : Str} {e : Expr} {es : List Expr} {t : TA} {np cpos pos : Pos}
end
end L2
namespace L2
open PySem PySem.Spec PyProof.Rows
noncomputable abbrev TJ:=St -> Hp -> (Hp -> Prop) -> Prop
section
variable {X : Cx} {e : Expr} {es : List Expr} {te : TE} {t : TJ} {n : Nat} {pos p : Pos}
end
noncomputable abbrev Cx.held (X : Cx) (a : Addr) (pn : List (Addr × Obj)) : Cx:={ X with A:=X.A.mark (some (.ref a)), calm:=false, pn:=pn, xe:=fun _ _=>False }
theorem Cx.Ok.held {X : Cx} (ok : X.Ok) (a : Addr) (pn : List (Addr × Obj)) : (X.held a pn).Ok:=
  ⟨ok.mod, ok.kind, ok.glob, ok.blt, ok.above, ok.inj, ok.has, ok.cab, (fun z=>nomatch z), ok.frames, ok.stk, ok.exf, ok.bs, ok.bsz, ok.noex, ok.exfs, ok.funs, ok.frf⟩
section
variable {X : Cx} {pins : List (Addr × Obj)} {σ : St} {H : Hp} {s : Shared} {h' : Heap}
end
section
variable {X : Cx} {body suite : List Stmt} {b₀ : Stmt} {cn n : Str} {Ch : Addr} {i : Nat} {tb : XK -> TS} {ts : Addr -> Addr -> TS} {np hpos pos : Pos}
end
end L2
namespace L2
open PySem PySem.Spec PyProof.Rows
section
variable {K : PySem.W.Frag} {Er : Exc -> Hp -> Prop} {S : SC} {OO OO' OO2 : List (List XA)} {σ : St} {α β γ ρ ι : Type} {α1 α2 α3 α4 α5 α6 : Type} {mg : Str -> Option Value} {E : XK}
noncomputable def FJ (Q : Hp -> Prop) (_ : Unit) (H : Hp) : Prop:=∀ H', Xx H H' -> Q H'
theorem FJ.tr {Q : Hp -> Prop} : ∀ (b : Unit) (H H' : Hp), Xx H H' -> FJ Q b H -> FJ Q b H':=fun _ _ _ s h H2 s2=>h H2 (s.trans s2)
variable {Fd : Ends -> β -> Hp -> Prop} [fd : FdOk Fd] {u : TS}
section
variable {te : XK -> TE} {m : Res α} {ts : Addr -> Addr -> TS} {N i : Nat} {Ch : Addr} {o : OE ρ} {g : Exc -> Res ρ} {ns : List Str} {d : Str}
end
end
end L2
namespace L2
open PySem PySem.Spec PyProof.Rows PySem.W PySem.Builtin PySem.Builtin.ObjectAttr PySem.Builtin.Getset_descriptor
section
variable {prog : Program} {w : World} {A : Around} {E : Value -> Shared -> Prop} {K : Frag} {x D : Addr} {s : Shared}
end
theorem HZ {X : Cx} {x : Str} {v : V} {pos : Pos} (h : ∃ u, X.mg x = some u /\ X4 v u) (hg : Gl X x) (hd : (x == ("__debug__" : Str)) = false:=by decide) : PE X (.Name x pos) (tC v):=by
  obtain ⟨u, hm, r⟩:=h
  exact El hg hm r hd
theorem PS.nox {X : Cx} {st : Stmt} {t : TS} (h : PS X.nox st t) : PS X st t:=fun pins s σ H D I hw=>
  wpAny_mono (h pins s σ H D (I.wish _) hw) (fun _ _ q=>q.unwish) fun _ _ z=>False.elim z
section
variable {K : PySem.W.Frag} {C D : Addr} {b : Bool}
end
end L2
namespace L2
open PySem PySem.Spec PyProof.Rows
section
variable {α β : Type} {K : PySem.W.Frag} {Er : Exc -> Hp -> Prop} {S : SC} {OO : List (List XA)} {σ : St} {Fd : Ends -> β -> Hp -> Prop} [fd : FdOk Fd] {u : TS}
end
end L2
namespace L2
open PySem PySem.Spec PyProof.Rows
section
variable {α β γ δ ε : Type}
structure Crs (r : Enc α) (q : Enc β) (d : Nat) : Prop where
  no : ∀ {X : Cx} {pins : List (Addr × Obj)} {σ : St} {H : Hp} {s : Shared} {x : V} {a : α} {b : β}, Inv X pins σ H s -> r X.K H x a -> q X.K H x b -> False
  lr : ∀ {X : Cx} {pins : List (Addr × Obj)} {σ : St} {H : Hp} {s : Shared} {x y : V} {v u : Value} {a : α} {b : β} {A : Around}, Inv X pins σ H s -> X4 x v -> X4 y u -> r X.K H x a -> q X.K H y b -> A.units + d < cLine -> SeqAt.EqAt A s v u false /\ SeqAt.RcAt A s v u false /\ SeqAt.RcNeAt A s v u true
  rl : ∀ {X : Cx} {pins : List (Addr × Obj)} {σ : St} {H : Hp} {s : Shared} {x y : V} {v u : Value} {a : α} {b : β} {A : Around}, Inv X pins σ H s -> X4 x v -> X4 y u -> q X.K H x b -> r X.K H y a -> A.units + d < cLine -> SeqAt.EqAt A s v u false /\ SeqAt.RcAt A s v u false /\ SeqAt.RcNeAt A s v u true
theorem Crs.up {r : Enc α} {q : Enc β} {d e : Nat} (c : Crs r q d) (h : d <= e) : Crs r q e:=⟨c.no, fun I rx ry h1 h2 hu=>c.lr I rx ry h1 h2 (by omega), fun I rx ry h1 h2 hu=>c.rl I rx ry h1 h2 (by omega)⟩
theorem HM {x y z : V} {its : List Value} (h : X5 [x, y, z] its) : ∃ u1 u2 u3, its = [u1, u2, u3] /\ X4 x u1 /\ X4 y u2 /\ X4 z u3:=by
  cases h with
  | cons a t=>
    obtain ⟨u, v, rfl, b, c⟩:=X5.two t
    exact ⟨_, u, v, rfl, a, b, c⟩
theorem Ld [DecidableEq α] [DecidableEq β] [DecidableEq γ] {r : Enc α} {q : Enc β} {t : Enc γ} {d : Nat} [m : MonoE r] [n : MonoE q] [k : MonoE t] (E : EqOk r d) (F : EqOk q d) (G : EqOk t d) : EqOk (rP3 r q t) (d + 1):=by
  have un : ∀ {X : Cx} {pins : List (Addr × Obj)} {σ : St} {H : Hp} {s : Shared} {x : V} {a b : α × β × γ}, Inv X pins σ H s -> rP3 r q t X.K H x a -> rP3 r q t X.K H x b -> a = b:=by
    rintro X pins σ H s x ⟨a1, a2, a3⟩ ⟨b1, b2, b3⟩ I ⟨a, x1, x2, x3, rfl, q1, p1, p2, p3⟩ ⟨b, y1, y2, y3, e, q2, p4, p5, p6⟩
    cases e
    cases I.tuple_inj (SqT.of q1) (SqT.of q2)
    rw [show a1 = b1 from E.uniq I p1 p4, show a2 = b2 from F.uniq I p2 p5, show a3 = b3 from G.uniq I p3 p6]
  have both : ∀ {X : Cx} {pins : List (Addr × Obj)} {σ : St} {H : Hp} {s : Shared} {x y : V} {v u : Value} {a b : α × β × γ} {A : Around}, Inv X pins σ H s -> X4 x v -> X4 y u -> rP3 r q t X.K H x a -> rP3 r q t X.K H y b -> A.units + (d + 1) < cLine -> SeqAt.RcAt A s v u (decide (a = b)) /\ SeqAt.RcNeAt A s v u (!decide (a = b)):=by
    rintro X pins σ H s x y v u ⟨a1, a2, a3⟩ ⟨b1, b2, b3⟩ A I rx ry ⟨a, x1, x2, x3, rfl, q1, p1, p2, p3⟩ ⟨b, y1, y2, y3, rfl, q2, p4, p5, p6⟩ hu
    cases rx; cases ry
    obtain ⟨i1, z1, l1, _⟩:=I.tuple (SqT.of q1)
    obtain ⟨i2, z2, l2, _⟩:=I.tuple (SqT.of q2)
    obtain ⟨u1, u2, u3, rfl, e1, e2, e3⟩:=HM z1
    obtain ⟨w1, w2, w3, rfl, g1, g2, g3⟩:=HM z2
    have it : ∀ j (h1 : j < [u1, u2, u3].toArray.size) (h2 : j < [w1, w2, w3].toArray.size), SeqAt.EqAt A.in1 s [u1, u2, u3].toArray[j] [w1, w2, w3].toArray[j] ((fun j=>if j = 0 then decide (a1 = b1) else if j = 1 then decide (a2 = b2) else decide (a3 = b3)) j):=by
      intro j h1 h2
      have hj : j = 0 ∨ j = 1 ∨ j = 2:=by
        have h1' : j < 3:=h1
        omega
      rcases hj with rfl | rfl | rfl
      . exact E.eq (A:=A.in1) I e1 g1 p1 p4 (by rw [ZY]; omega)
      . exact F.eq (A:=A.in1) I e2 g2 p2 p5 (by rw [ZY]; omega)
      . exact G.eq (A:=A.in1) I e3 g3 p3 p6 (by rw [ZY]; omega)
    have R:=SeqAt.RcAt.tuples (A:=A) l1 l2 (by omega) it
    have N:=SeqAt.RcNeAt.tuples (A:=A) l1 l2 (by omega) it
    have ed : decide ((a1, a2, a3) = (b1, b2, b3)) = (decide (a1 = b1) && (decide (a2 = b2) && decide (a3 = b3))):=by rw [Bool.eq_iff_iff]; simp
    rw [ed]
    exact ⟨by simpa [List.range_succ, Bool.and_assoc] using R, by simpa [List.range_succ, Bool.and_assoc, Bool.not_and] using N⟩
  refine ⟨un, ?_, fun I rx ry h1 h2 hu=>(both I rx ry h1 h2 hu).1, fun I rx ry h1 h2 hu=>(both I rx ry h1 h2 hu).2, fun s q=>MonoE.mono s q⟩
  intro X pins σ H s x y v u as bs A I rx ry h1 h2 hu
  have R:=(both (A:=A) I rx ry h1 h2 hu).1
  obtain ⟨a, x1, x2, x3, rfl, q1, _⟩:=id h1
  obtain ⟨b, y1, y2, y3, rfl, q2, _⟩:=id h2
  cases rx; cases ry
  by_cases e : a = b
  . subst e
    rw [decide_eq_true (un I h1 h2)]
    exact SeqAt.EqAt.same _
  . exact SeqAt.EqAt.of_refs e R
end
end L2
namespace L2
open PySem PySem.Spec PyProof.Rows
section
variable {K : PySem.W.Frag} {Er : Exc -> Hp -> Prop} {S : SC} {OO OO' OO1 OO2 : List (List XA)} {σ : St} {α β γ ρ ι δ ε ζ : Type}
variable {Fd : Ends -> β -> Hp -> Prop} [fd : FdOk Fd] {u : TS}
noncomputable def getL : α ⊕ γ -> Res α
  | .inl a=>.ok a
  | .inr _=>.bad
noncomputable def getR : α ⊕ γ -> Res γ
  | .inl _=>.bad
  | .inr b=>.ok b
end
end L2
namespace L2
theorem HU {α : Type} {us : List α} (h : us.length = 1) : ∃ a, us = [a]:=List.length_eq_one_iff.mp h
theorem Ix {α : Type} {us : List α} (h : us.length = 2) : ∃ a0 a1, us = [a0, a1]:=by
  cases us with
  | nil=>cases h
  | cons a0 t=>
    obtain ⟨a1, rfl⟩:=HU (Nat.succ.inj h)
    exact ⟨a0, a1, rfl⟩
theorem Ij {α : Type} {us : List α} (h : us.length = 3) : ∃ a0 a1 a2, us = [a0, a1, a2]:=by
  cases us with
  | nil=>cases h
  | cons a0 t=>
    obtain ⟨a1, a2, rfl⟩:=Ix (Nat.succ.inj h)
    exact ⟨a0, a1, a2, rfl⟩
theorem Li {α : Type} {us : List α} (h : us.length = 4) : ∃ a0 a1 a2 a3, us = [a0, a1, a2, a3]:=by
  cases us with
  | nil=>cases h
  | cons a0 t=>
    obtain ⟨a1, a2, a3, rfl⟩:=Ij (Nat.succ.inj h)
    exact ⟨a0, a1, a2, a3, rfl⟩
theorem Le {α : Type} {us : List α} (h : us.length = 5) : ∃ a0 a1 a2 a3 a4, us = [a0, a1, a2, a3, a4]:=by
  cases us with
  | nil=>cases h
  | cons a0 t=>
    obtain ⟨a1, a2, a3, a4, rfl⟩:=Li (Nat.succ.inj h)
    exact ⟨a0, a1, a2, a3, a4, rfl⟩
end L2
namespace L2
open PySem PySem.Spec PyProof.Rows
section
variable {prog : Program} {w : World} {A : Around} {E : Value -> Shared -> Prop}
end
section
variable {X : Cx} {pos : Pos}
end
section
variable {K : PySem.W.Frag} {Er : Exc -> Hp -> Prop} {S : SC} {OO OO' OO1 OO2 : List (List XA)} {σ : St} {α β γ ρ ι δ ε ζ : Type}
variable {Fd : Ends -> β -> Hp -> Prop} [fd : FdOk Fd] {u : TS}
theorem E1 {r : Enc α} : Ev K Er S OO OO σ (tC .non) (oF (KL r)) (.ok none):=fun H Q w s P=>P _ [] H (Xx.refl _) w.nil (by rw [YX]; exact Xx.refl _) ⟨rfl, rfl⟩
theorem C9 {te : TE} {r : Enc α} {m : Res α} (hn : ∀ {K h v a C}, oF r K h v a C -> v ≠ .non) (he : Ev K Er S OO OO' σ te (oF r) m) : Ev K Er S OO OO' σ te (oF (KL r)) (m.bind fun a=>.ok (some a)):=fun H Q w s P=>by
  refine he H Q w s ?_
  cases m with
  | bad=>exact P
  | err x=>exact P
  | ok a=>exact fun v C H' s' w' m' ho=>P v C H' s' w' m' ⟨ho.1, hn ho, ho.2⟩
end
end L2
namespace L2
open PySem PySem.Spec PyProof.Rows
section
variable {X : Cx}
end
section
variable {K : PySem.W.Frag} {Er : Exc -> Hp -> Prop} {S : SC} {OO OO' OO1 OO2 : List (List XA)} {σ : St} {α β γ ρ ι δ ε ζ : Type}
variable {Fd : Ends -> β -> Hp -> Prop} [fd : FdOk Fd] {u : TS}
end
end L2
namespace L2
open PySem PySem.Spec PyProof.Rows
set_option maxRecDepth 100000
section
variable {prog : Program} {w : World} {A : Around} {E : Value -> Shared -> Prop} {s : Shared}
theorem Kf : typeLookup (.type "list") "keys" = pure none:=by rw [typeLookup_type, builtinLookup_eq_fast]; kernel_rfl
theorem Bt {a : Addr} {o : Obj} {xs : Array Value} {k : Nat} {R : Option Value -> Shared -> Prop} (hx : s.heap.get? a = some o) (hc : o.cls = .type "list") (hdat : o.data = .seq xs k) (hd : o.dict = none) (hA : A.handled = none)
    (h : ∀ g tk, (∀ b u, s.heap.get? b = some u -> g.get? b = some u) -> R none { s with heap:=g, toks:=tk }) : wpAny (model prog w) A (getAttr? (.ref a) "keys") R E s:=by
  obtain ⟨c, dct, dat, sl⟩:=o
  simp only at hc hdat hd
  subst hc hdat hd
  obtain ⟨hp, g, d, tk, os⟩:=s
  have hT : ∀ tk', (⟨hp, g, d, tk', os⟩ : Shared).TypeIs (.ref a) "list":=fun _=>⟨_, hx, rfl⟩
  have f1:=sub_AttributeError
  have f3:=F.slot_list_getattribute.lookup
  have f4:=F.slot_list_getattribute.bind (.ref a)
  have f5:=am_list_getattr_none
  unfold getAttr? getAttrBy? getAttrBy
  repeat (any_goals (first
    | assumption
    | exact hT _
    | ((with_reducible show wpAny _ _ (call (Value.builtin "list.__getattribute__") _ _) _ _ _)
       refine call_meets F.slot_list_getattribute (hT _) am_entry_list_getattribute (F.args_list_getattribute_2 _ _) (meets_getattribute_miss_list a xs k sl "keys" _ Kf (by decide +kernel)) ⟨hx, hA, fun h' tk' e hx'=>?_⟩)
    | wp_step))
  obtain ⟨t', u', he⟩:=hx'.there
  show wpAny _ _ (getattributeRaised _ _ _ _ _ _ _) _ _ _
  unfold getattributeRaised
  repeat (any_goals (first | wp_step | assumption))
  exact h _ _ hx'.keeps
theorem ZH : plainId "dict.update.loop" = true:=by decide +kernel
theorem Ju : entryFor table "dict.update.loop" = some Builtin.«dict.update.loop»:=entryFor_of_fast (by kernel_rfl)
end
section
variable {prog : Program} {w : World} {A : Around} {R : Result -> Shared -> Prop} {K : Type} [DecidableEq K] {knd : KeyKind prog w K}
noncomputable def CD (acc kv : List (K × Value)) : List (K × Value):=kv.foldl (fun a p=>stored a p.1 p.2) acc
end
end L2
namespace L2
open PySem PySem.Spec PyProof.Rows
section
variable {X : Cx}
noncomputable def Hg (acc kvs : List (Key × V)) : List (Key × V):=kvs.foldl (fun a p=>Q5 a p.1 p.2) acc
theorem KV.all {kvs : List (Key × V)} {vs : List (Key × Value)} (t : KV kvs vs) : ∀ {acc : List (Key × V)} {acc' : List (Key × Value)}, KV acc acc' -> KV (Hg acc kvs) (CD acc' vs):=by
  induction t with
  | nil=>intro acc acc' h; exact h
  | @cons p q kvs vs r _ ih=>
    intro acc acc' h
    have h2:=h.put p.1 r.2
    have e : stored acc' p.1 q.2 = stored acc' q.1 q.2:=by rw [r.1]
    rw [e] at h2
    exact ih h2
theorem K1 : ∀ {ns : List Int} {vs : List Value}, X5 (ns.map V.int) vs -> IntsAre vs ns:=fun {ns}=>by
  induction ns with
  | nil=>intro vs h; cases h; exact .nil
  | cons n ns ih=>
    intro vs h
    cases h with
    | cons r t=>
      obtain ⟨k, rfl⟩:=r
      exact .cons n k (ih t)
end
end L2
namespace L2
open PySem PySem.Spec PyProof.Rows
section
variable {X : Cx} {pins : List (Addr × Obj)} {σ : St} {H : Hp} {s : Shared} {d : Addr} {o : Obj} {kvs : List (Key × V)}
theorem KV.key {kvs : List (Key × V)} {vs : List (Key × Value)} (h : KV kvs vs) : ∀ {i : Nat} (h1 : i < kvs.length) (h2 : i < vs.length), (kvs[i]).1 = (vs[i]).1:=by
  induction h with
  | nil=>intro i h1; exact absurd h1 (Nat.not_lt_zero _)
  | cons r _ ih=>
    intro i h1 h2
    cases i with
    | zero=>exact r.1
    | succ i=>exact ih (Nat.lt_of_succ_lt_succ h1) (Nat.lt_of_succ_lt_succ h2)
end
section
variable {X : Cx}
end
end L2
namespace L2
open PySem PySem.Spec PyProof.Rows
section
variable {K : PySem.W.Frag} {Er : Exc -> Hp -> Prop} {S : SC} {OO OO' OO2 : List (List XA)} {σ : St} {α β γ ρ ι δ ε : Type}
variable {Fd : Ends -> β -> Hp -> Prop} [fd : FdOk Fd] {u : TS}
theorem Z9 {H : Hp} {xs : List V} {ns : List Int} (h : Paired (Xa K H) xs ns) : xs = ns.map V.int:=by
  induction h with
  | nil=>rfl
  | cons r _ ih=>rw [List.map_cons, ih, show _ = V.int _ from r]
theorem BU {te : TE} {r1 : Enc α} {r2 : Enc γ} {r3 : Enc δ} [MonoE r1] [MonoE r2] [MonoE r3] {m : Res (α × γ × δ)} {f : α × γ × δ -> Res β} (i j k : Nat) (he : EvS K Er S OO σ te (rP3 r1 r2 r3) m)
    (hr : ∀ a v w x, Sv Er (((S.add K r1 v a.1).add K r2 w a.2.1).add K r3 x a.2.2) OO (((σ.set i (some v)).set j (some w)).set k (some x)) u Fd (f a)) : Sv Er S OO σ (JL (CS te (IF K 3 (Vx (ZV i) (Vx (ZV j) (Vx (ZV k) II))))) u) Fd (m.bind f):=fun H D w s P=>
  he.st w s P fun a v H1 s1 w1 q1 r1 P1=>(tg3 (K:=K) (OO:=OO) i j k).ok (S:=S) r1 q1 fun x hx=>hr a _ _ _ H1 D w1 hx P1
end
end L2
namespace L2
open PySem PySem.Spec PyProof.Rows
section
variable {prog : Program} {w : World} {A : Around}
end
section
variable {X : Cx}
end
end L2
namespace L2
open PySem PySem.Spec PyProof.Rows
section
variable {K : PySem.W.Frag} {Er : Exc -> Hp -> Prop} {S : SC} {OO OO' OO1 OO2 : List (List XA)} {σ : St} {α β γ ρ ι δ ε : Type}
variable {Fd : Ends -> β -> Hp -> Prop} [fd : FdOk Fd] {u : TS}
end
end L2
namespace L2
open PySem PySem.Spec PyProof.Rows
theorem int_at {ns : List Int} {xs : Array Value} (hx : X5 (ns.map V.int) xs.toList) (i : Nat) : (ns[i]? = none /\ xs[i]? = none) ∨ ∃ a t, ns[i]? = some a /\ xs[i]? = some (.int a t):=by
  have hl : ns.length = xs.size:=by have:=hx.length; simpa using this
  rcases Nat.lt_or_ge i ns.length with h | h
  . obtain ⟨u, hu, ru⟩ := hx.get (i := i) (x := .int ns[i]) (by simp [h])
    obtain ⟨t, rfl⟩:=ru
    exact .inr ⟨ns[i], t, by simp [h], by simpa using hu⟩
  . exact .inl ⟨List.getElem?_eq_none h, by simp; omega⟩
section
variable {X : Cx}
end
end L2
namespace L2
open PySem PySem.Spec PyProof.Rows
section
variable {K : PySem.W.Frag} {Er : Exc -> Hp -> Prop} {S : SC} {OO OO' OO1 OO2 : List (List XA)} {σ : St} {α β γ ρ ι δ ε : Type}
end
end L2
namespace L2
open PySem PySem.Spec PyProof.Rows
section
variable {K : PySem.W.Frag} {Er : Exc -> Hp -> Prop} {S : SC} {OO OO' OO1 OO2 : List (List XA)} {σ : St} {α β γ ρ ι δ ε : Type}
noncomputable def Bw (K : PySem.W.Frag) : List V -> Hp -> VK -> Prop:=fun xs H Q=>∃ p ys, xs = [.ref p] /\ ((SqL K H p ys /\ ∀ l, H l = none -> Q (.ref l) (upd H l (.tup ys))) ∨ (SqT K H p ys /\ Q (.ref p) H))
theorem Y0 {X : Cx} (K : PySem.W.Frag) (h : X.K = K) : Zk X (.type "tuple") (Bw K):=by subst h; exact VH
theorem Qa {ta : TE} {r : Enc α} [z : MonoE r] {ma : Res (List α)} (ha : EvB K Er S OO σ ta (rV r) ma) : EvB K Er S OO σ (tCB (Bw K) (XG ta ZB)) (rPL r) (ma.bind fun a=>.ok a):=fun H Q w s P=>
  ha.run w s FB.tr P fun a x H1 s1 w1 q1 ⟨p, xs, e, q, pr⟩ P1=>⟨p, xs, by rw [e], .inl ⟨SqL.of q, fun l hl=>P1 (.ref l) _ (XF hl _) ⟨l, xs, rfl, Yb, Paired.imp2 (fun _ _ h=>z.mono (XF hl _) h) pr⟩⟩⟩
noncomputable def tk (k : List Int) : List Key:=k.map Sum.inl
theorem DX {a b : List Int} (h : tk a = tk b) : a = b:=(List.map_inj_right (fun _ _ h=>Sum.inl.inj h)).mp h
theorem Bj (k : List Int) : (tk k).map kV = k.map V.int:=by unfold tk; rw [List.map_map]; rfl
noncomputable def G7 {α : Type} (r : Enc α) (K : PySem.W.Frag) (H : Hp) (kv : List Key × V) (kx : List Int × α) : Prop:=kv.1 = tk kx.1 /\ r K H kv.2 kx.2
noncomputable def rDT {α : Type} (r : Enc α) : Enc (List (List Int × α)):=fun K H v d=>∃ p kvs, v = .ref p /\ H p = some (.dT kvs) /\ Paired (G7 r K H) kvs d
noncomputable def oDT {α : Type} (r : Enc α) : OE (List (List Int × α)):=fun K h v d C=>∃ p kvs, v = .ref p /\ Paired (G7 r K h) kvs d /\ C = [(p, .dT kvs)]
instance {r : Enc α} [m : MonoE r] : MonoE (rDT r):=⟨fun s ⟨p, kvs, e, q, pr⟩=>⟨p, kvs, e, s _ _ q, Paired.imp2 (fun _ _ z=>⟨z.1, m.mono s z.2⟩) pr⟩⟩
instance {r : Enc α} [m : MonoE r] : MonoO (oDT r):=⟨fun s ⟨p, kvs, e, pr, c⟩=>⟨p, kvs, e, Paired.imp2 (fun _ _ z=>⟨z.1, m.mono s z.2⟩) pr, c⟩⟩
instance {r : Enc α} [m : FlatE r] : FlatO (oDT r):=⟨fun s ⟨p, kvs, e, pr, c⟩=>⟨p, kvs, e, Paired.imp2 (fun _ _ z=>⟨z.1, m.flat s z.2⟩) pr, c⟩⟩
instance {r : Enc α} [m : MonoE r] : FrzC (oDT r) (rDT r):=⟨fun ⟨p, kvs, e, pr, c⟩ s hc=>⟨p, kvs, e, hc (p, .dT kvs) (by rw [c]; simp), Paired.imp2 (fun _ _ z=>⟨z.1, m.mono s z.2⟩) pr⟩⟩
noncomputable def Qg (d : List (List Int × α)) (k : List Int) : Option α:=(d.find? fun kv=>decide (kv.1 = k)).map (·.2)
noncomputable def J8 (d : List (List Int × α)) (k : List Int) (v : α) : List (List Int × α):=if (d.any fun kv=>decide (kv.1 = k)) = true then d.map (fun kv=>if kv.1 = k then (kv.1, v) else kv) else d ++ [(k, v)]
theorem JT {r : Enc α} {H : Hp} {k : List Int} {kvs : List (List Key × V)} {d : List (List Int × α)} (h : Paired (G7 r K H) kvs d) : (Kb kvs (tk k)).isSome = (Qg d k).isSome:=by
  induction h with
  | nil=>rfl
  | @cons kv kx _ d h t ih=>
    by_cases e : kx.1 = k
    . rw [Jo (show kv.1 = tk k by rw [h.1, e]), show Qg (kx :: d) k = some kx.2 by simp [Qg, List.find?_cons, e]]
      rfl
    . rw [Je (show ¬ kv.1 = tk k from fun z => e (DX (h.1.symm.trans z))), show Qg (kx :: d) k = Qg d k by simp [Qg, List.find?_cons, e]]
      exact ih
theorem U1 {r : Enc α} {H : Hp} {k : List Int} {kvs : List (List Key × V)} {d : List (List Int × α)} (h : Paired (G7 r K H) kvs d) : (kvs.any fun kv=>decide (kv.1 = tk k)) = d.any fun kx=>decide (kx.1 = k):=by
  induction h with
  | nil=>rfl
  | @cons kv kx _ _ h t ih=>
    rw [List.any_cons, List.any_cons, ih, h.1]
    congr 1
    rw [Bool.eq_iff_iff, decide_eq_true_eq, decide_eq_true_eq]
    exact ⟨DX, fun z=>by rw [z]⟩
theorem JZ {r : Enc α} {H : Hp} {k : List Int} {v : V} {a : α} (hv : r K H v a) {kvs : List (List Key × V)} {d : List (List Int × α)} (h : Paired (G7 r K H) kvs d) : Paired (G7 r K H) (Q5 kvs (tk k) v) (J8 d k a):=by
  unfold Q5 J8
  rw [U1 h]
  by_cases e : (d.any fun kx=>decide (kx.1 = k)) = true
  . rw [if_pos e, if_pos e]
    clear e
    induction h with
    | nil=>exact .nil
    | @cons kv kx l m h t ih=>
      refine .cons ?_ ih
      show G7 r K H (if kv.1 = tk k then (kv.1, v) else kv) (if kx.1 = k then (kx.1, a) else kx)
      by_cases e : kx.1 = k
      . rw [if_pos (show kv.1 = tk k by rw [h.1, e]), if_pos e]; exact ⟨h.1, hv⟩
      . rw [if_neg (show ¬ kv.1 = tk k from fun z=>e (DX (h.1.symm.trans z))), if_neg e]; exact h
  . rw [if_neg e, if_neg e]
    exact Paired.app h (.cons ⟨rfl, hv⟩ .nil)
theorem CH {r : Enc α} : Ev K Er S OO OO σ BG (oDT r) (.ok []):=fun H Q w s P=>fun p hp=>P (.ref p) [(p, .dT [])] _ (XF hp _) (w.new hp rfl) (JK hp) ⟨p, [], rfl, .nil, rfl⟩
theorem Co {td ty : TE} {r : Enc α} {md : Res (List (List Int × α))} {mk : Res (List Int)} (hk : EvB K Er S OO σ ty (rPL Xa) mk) (hd : EvB K Er S OO σ td (rDT r) md) : EvB K Er S OO σ (Lu ty td) XC (mk.bind fun k=>md.bind fun d=>.ok (Qg d k).isSome):=fun H Q w s P=>
  hk.run w s FB.tr P fun k y H1 s1 w1 q1 ⟨b, xs, eb, hb, pk⟩ P1=>hd.run w1 q1 FB.tr P1 fun d x H2 s2 w2 q2 ⟨p, kvs, e, q, pr⟩ P2=>⟨p, Kb kvs (tk k), e, .inr ⟨kvs, tk k, b, .inl q, eb, by rw [Bj, ← Z9 pk]; exact s2 _ _ hb, rfl⟩, P2 _ H2 (Xx.refl _) (by rw [JT (k:=k) pr]; rfl)⟩
theorem Dk {td ty : TE} {r : Enc α} {md : Res (List (List Int × α))} {mk : Res (List Int)} (hk : EvB K Er S OO σ ty (rPL Xa) mk) (hd : EvB K Er S OO σ td (rDT r) md) : EvB K Er S OO σ (Dn ty td) XC (mk.bind fun k=>md.bind fun d=>.ok (!(Qg d k).isSome)):=fun H Q w s P=>
  hk.run w s FB.tr P fun k y H1 s1 w1 q1 ⟨b, xs, eb, hb, pk⟩ P1=>hd.run w1 q1 FB.tr P1 fun d x H2 s2 w2 q2 ⟨p, kvs, e, q, pr⟩ P2=>⟨p, Kb kvs (tk k), e, .inr ⟨kvs, tk k, b, .inl q, eb, by rw [Bj, ← Z9 pk]; exact s2 _ _ hb, rfl⟩, P2 _ H2 (Xx.refl _) (by rw [JT (k:=k) pr]; rfl)⟩
variable {Fd : Ends -> β -> Hp -> Prop} [fd : FdOk Fd] {u : TS}
theorem CA {tv ty : TE} {r : Enc α} [z : MonoE r] {mv : Res α} {mk : Res (List Int)} {f : List (List Int × α) -> Res β} {v : V} {d : List (List Int × α)} {C : List XA} (i k : Nat) (hσ : σ[i]? = some (some v)) (hk : OO[k]? = some C) (h : ∀ x, S.p x -> oDT r K x v d C) (hv : EvS K Er S OO σ tv r mv) (hy : EvB K Er S OO σ ty (rPL Xa) mk)
    (hr : ∀ d' C', Sv Er (S.addO K (oDT r) v d' C') (OO.set k C') σ u Fd (f d')) : Sv Er S OO σ (JL (Ih (US i) ty tv) u) Fd (mv.bind fun a=>mk.bind fun n=>chk (d.length < sizeLine) (f (J8 d n a))):=fun H D w s P=>
  hv.st w s P fun a va H1 s1 w1 q1 r1 P1=>⟨v, hσ, hy.st w1 q1 P1 fun n vn H2 s2 w2 q2 r2 P2=>by
    obtain ⟨hsz, P2⟩:=PZ.chk P2
    obtain ⟨b, xs, eb, hb, pk⟩:=r2
    obtain ⟨p, kvs, e, pr, c⟩:=h _ q2
    subst c e
    have hH : H2 p = some (.dT kvs):=w2.tr (p, .dT kvs) (List.mem_flatten.mpr ⟨_, List.mem_of_getElem? hk, by simp⟩)
    obtain ⟨w3, m3⟩:=En (D:=[]) (C':=[(p, .dT (Q5 kvs (tk n) va))]) (p:=p) (o:=.dT (Q5 kvs (tk n) va)) w2.nil hk (by simp) (by simp) (by simp) (fun b hb=>by simpa using hb) (fun c hc=>by
      have : c = (p, .dT (Q5 kvs (tk n) va)):=by simpa using hc
      rw [this]; exact Yb) (fun c hc=>by
      have : c = (p, .dT (Q5 kvs (tk n) va)):=by simpa using hc
      rw [this]; rfl)
    rw [YX] at m3
    refine ⟨p, _, rfl, .inr ⟨kvs, tk n, b, hH, eb, by rw [Bj, ← Z9 pk]; exact hb, by rw [Paired.len pr]; exact hsz, rfl⟩, ?_⟩
    exact hr _ _ _ D w3 ⟨S.mono _ _ m3 q2, ⟨p, _, rfl, JZ (z.mono ((Xm s2).trans m3) r1) (Paired.imp2 (fun _ _ h=>⟨h.1, z.mono m3 h.2⟩) pr), rfl⟩⟩ (PZ.tr (fd.tr D) m3 P2)⟩
end
end L2
namespace L2
open PySem PySem.Spec PyProof.Rows
section
variable {X : Cx} {α : Type} [DecidableEq α] {r : Enc α} {d : Nat}
end
section
variable {K : PySem.W.Frag} {Er : Exc -> Hp -> Prop} {S : SC} {OO OO' OO1 OO2 : List (List XA)} {σ : St} {α β γ ρ ι δ ε : Type}
end
end L2
namespace L2
open PySem PySem.Spec PyProof.Rows
section
variable {X : Cx} {pins : List (Addr × Obj)} {σ : St} {H : Hp} {s : Shared} {h' : Heap}
theorem Inv.turns {t' : Nat} {ch : List Addr} (I : Inv X pins σ H s) (k : ∀ b o, b ∉ ch -> s.heap.get? b = some o -> h'.get? b = some o) (hf : ∀ b ∈ ch, Gr X pins H b) : Inv X pins σ H { s with heap:=h', toks:=t' }:=by
  have nit : ∀ b o, H b = some o -> b ∉ ch:=fun b o e z=>by rw [(hf b z).1] at e; cases e
  refine I.step (g':=s.gens) (d':=s.drawn) (ch:=ch) (fun b hb=>?_) (fun b o _ _ hc e _=>k b o hc e) (fun b o _ _ hc e _=>⟨o.slots, k b o hc e⟩)
    (fun b o _ e n=>n) (fun b o hc e=>⟨o, k b o hc e⟩) (fun b xs e=>e) (fun b o xs e=>e) (fun b ps e=>⟨#[], by rw [e]; simp⟩) (fun m hm=>?_) (fun b v e=>?_) I.bare
  . obtain ⟨f0, f1, f2, f3, f4, f5⟩ := hf b hb
    exact ⟨f3, f1, f4, f5⟩
  . obtain ⟨o, es, ep, ho, r⟩ := hm
    exact ⟨o, es, ep, k _ o (fun z=>(hf _ z).2.1 rfl) ho, r⟩
  . refine (I.hok b v e).stay (fun c o hc q => k c o ?_ q) (fun c q => q) fun c xs q => q
    rcases hc with z | z
    . rw [z]; exact nit b v e
    . exact nit c _ z
end
section
variable {X : Cx} {elts : List Expr} {k : Nat} {pos0 : Pos}
end
end L2
namespace L2
open PySem PySem.Spec PyProof.Rows
section
variable {K : PySem.W.Frag} {Er : Exc -> Hp -> Prop} {S : SC} {OO OO' OO1 OO2 : List (List XA)} {σ : St} {α β γ ρ ι δ ε : Type}
end
end L2
namespace L2
open PySem PySem.Spec PyProof.Rows
section
variable {X : Cx}
end
section
variable {K : PySem.W.Frag} {Er : Exc -> Hp -> Prop} {S : SC} {OO OO' OO1 OO2 : List (List XA)} {σ : St} {α β γ ρ ι δ ε : Type}
variable {Fd : Ends -> β -> Hp -> Prop} [fd : FdOk Fd] {u : TS}
end
end L2
namespace L2
open PySem PySem.Spec PyProof.Rows
section
variable {K : PySem.W.Frag} {Er : Exc -> Hp -> Prop} {S : SC} {OO OO' OO1 OO2 : List (List XA)} {σ : St} {α β γ ρ ι δ ε : Type} {u : TS}
end
end L2
namespace L2
open PySem PySem.Spec PyProof.Rows
section
variable {X : Cx}
end
section
variable {K : PySem.W.Frag} {Er : Exc -> Hp -> Prop} {S : SC} {OO : List (List XA)} {σ : St}
end
end L2
namespace L2
open PySem PySem.Spec PyProof.Rows
section
variable {X : Cx} {pins : List (Addr × Obj)} {σ : St} {H : Hp} {s : Shared} {d : Addr} {o : Obj} {kvs : List (Key × V)}
end
end L2
namespace L2
open PySem PySem.Spec PyProof.Rows
section
variable {X : Cx}
end
section
variable {K : PySem.W.Frag} {Er : Exc -> Hp -> Prop} {S : SC} {OO OO' OO1 OO2 OO3 : List (List XA)} {σ : St} {α β γ ρ ι δ ε ζ : Type}
variable {Fd : Ends -> β -> Hp -> Prop} [fd : FdOk Fd] {u : TS}
noncomputable def oT3 (o : OE α) (q : OE β) (t : OE γ) : OE (α × β × γ):=fun K h v a C=>∃ p x y z C1 C2 C3, v = .ref p /\ h p = some (.tup [x, y, z]) /\ o K h x a.1 C1 /\ q K h y a.2.1 C2 /\ t K h z a.2.2 C3 /\ C = C1 ++ (C2 ++ C3)
instance {o : OE α} {q : OE β} {t : OE γ} [m : MonoO o] [n : MonoO q] [k : MonoO t] : MonoO (oT3 o q t):=⟨fun s h9=>(by obtain ⟨p, x, y, z, C1, C2, C3, e, h, h1, h2, h3, c⟩:=h9; exact ⟨p, x, y, z, C1, C2, C3, e, s _ _ h, m.mono s h1, n.mono s h2, k.mono s h3, c⟩)⟩
instance {o : OE α} {q : OE β} {t : OE γ} [m : FlatO o] [n : FlatO q] [k : FlatO t] : FlatO (oT3 o q t):=⟨fun s h9=>(by obtain ⟨p, x, y, z, C1, C2, C3, e, h, h1, h2, h3, c⟩:=h9; exact ⟨p, x, y, z, C1, C2, C3, e, s _ _ h rfl, m.flat s h1, n.flat s h2, k.flat s h3, c⟩)⟩
instance {o : OE α} {q : OE β} {t : OE γ} {ro : Enc α} {rq : Enc β} {rt : Enc γ} [m : FrzC o ro] [n : FrzC q rq] [k : FrzC t rt] : FrzC (oT3 o q t) (rP3 ro rq rt):=⟨fun ⟨p, x, y, z, C1, C2, C3, e, h, h1, h2, h3, c⟩ s hc=>by
  subst c
  exact ⟨p, x, y, z, e, s _ _ h, m.frz h1 s fun c hm=>hc c (by simp [hm]), n.frz h2 s fun c hm=>hc c (by simp [hm]), k.frz h3 s fun c hm=>hc c (by simp [hm])⟩⟩
end
end L2
namespace L2
open PySem PySem.Spec PyProof.Rows
section
variable {K : PySem.W.Frag} {Er : Exc -> Hp -> Prop} {S : SC} {OO OO' OO1 OO2 : List (List XA)} {σ : St} {α β γ ρ ι δ ε ζ : Type}
variable {Fd : Ends -> β -> Hp -> Prop} [fd : FdOk Fd] {u : TS}
theorem Cr {ta : TE} {ma : Res Bool} (ha : EvB K Er S OO σ ta XC ma) : EvB K Er S OO σ (tCB (fun xs H Q=>(∃ i, xs = [.int i] /\ Q (.int i) H) ∨ ∃ k, xs = [.bl k] /\ Q (.int (if k then 1 else 0)) H) (XG ta ZB)) Xa (ma.bind fun b=>.ok (if b = true then (1 : Int) else 0)):=fun H Q w s P=>
  ha.run w s FB.tr P fun b x H1 s1 w1 q1 r1 P1=>.inr ⟨b, by rw [show x = .bl b from r1], P1 _ H1 (Xx.refl _) rfl⟩
end
end L2
namespace L2
open PySem PySem.Spec PyProof.Rows
section
variable {K : PySem.W.Frag} {Er : Exc -> Hp -> Prop} {S : SC} {OO OO' OO1 OO2 : List (List XA)} {σ : St} {α β γ ρ ι δ ε ζ : Type}
variable {Fd : Ends -> β -> Hp -> Prop} [fd : FdOk Fd] {u : TS}
end
end L2
namespace L2
open PySem PySem.Spec PyProof.Rows
section
variable {K : PySem.W.Frag} {Er : Exc -> Hp -> Prop} {S : SC} {OO OO' OO1 OO2 : List (List XA)} {σ : St} {α β γ ρ ι δ ε ζ α1 α3 α4 : Type}
variable {Fd : Ends -> β -> Hp -> Prop} [fd : FdOk Fd] {u : TS}
end
end L2
namespace L2
open PySem
noncomputable def Inc (xs : Array Nat) : Prop:=xs.toList.Pairwise (· < ·)
theorem Inc.lt {xs : Array Nat} (h : Inc xs) {i j v u : Nat} (hij : i < j) (hi : xs[i]? = some v) (hj : xs[j]? = some u) : v < u:=by
  rw [← Array.getElem?_toList] at hi hj
  obtain ⟨a, rfl⟩:=List.getElem?_eq_some_iff.mp hi
  obtain ⟨b, rfl⟩:=List.getElem?_eq_some_iff.mp hj
  exact List.pairwise_iff_getElem.mp h i j a b hij
theorem Inc.le {xs : Array Nat} (h : Inc xs) {i j v u : Nat} (hij : i <= j) (hi : xs[i]? = some v) (hj : xs[j]? = some u) : v <= u:=by
  rcases Nat.lt_or_eq_of_le hij with z | z
  . exact Nat.le_of_lt (h.lt z hi hj)
  . subst z; rw [hi] at hj; cases hj; exact Nat.le_refl _
theorem VP {xs : Array Nat} (hx : Inc xs) (j : Nat) : ∀ (fuel lo hi : Nat), hi - lo <= fuel -> lo <= hi -> hi <= xs.size -> (∀ i v, i < lo -> xs[i]? = some v -> v < j) -> (∀ i v, hi <= i -> xs[i]? = some v -> j <= v) ->
    SetTable.below.go xs j fuel lo hi <= hi /\ (∀ i v, i < SetTable.below.go xs j fuel lo hi -> xs[i]? = some v -> v < j) /\ (∀ i v, SetTable.below.go xs j fuel lo hi <= i -> xs[i]? = some v -> j <= v)
  | 0, lo, hi, h, h1, h2, a, b=>by
    have e : lo = hi:=by omega
    subst e
    exact ⟨Nat.le_refl _, a, b⟩
  | fuel + 1, lo, hi, h, h1, h2, a, b=>by
    unfold SetTable.below.go
    by_cases hlt : lo < hi
    . have hm : (lo + hi) / 2 < xs.size := by omega
      have hg : xs[(lo + hi) / 2]? = some (xs.getD ((lo + hi) / 2) j):=by simp [hm]
      simp only [if_pos hlt]
      by_cases hc : xs.getD ((lo + hi) / 2) j < j
      . rw [if_pos hc]
        exact VP hx j fuel _ hi (by omega) (by omega) h2 (fun i v hi' e=>Nat.lt_of_le_of_lt (hx.le (by omega) e hg) hc) b
      . rw [if_neg hc]
        obtain ⟨p, q, r⟩:=VP hx j fuel lo ((lo + hi) / 2) (by omega) (by omega) (by omega) a (fun i v hi' e=>Nat.le_trans (Nat.le_of_not_lt hc) (hx.le hi' hg e))
        exact ⟨by omega, q, r⟩
    . simp only [if_neg hlt]
      have e : lo = hi:=by omega
      subst e
      exact ⟨Nat.le_refl _, a, b⟩
theorem GH {xs : Array Nat} (hx : Inc xs) (j : Nat) : SetTable.below xs j <= xs.size /\ (∀ i v, i < SetTable.below xs j -> xs[i]? = some v -> v < j) /\ (∀ i v, SetTable.below xs j <= i -> xs[i]? = some v -> j <= v):=
  VP hx j xs.size 0 xs.size (by omega) (Nat.zero_le _) (Nat.le_refl _) (fun i v h=>absurd h (Nat.not_lt_zero _)) fun i v h e=>by
    rw [Array.getElem?_eq_none h] at e; cases e
theorem GU {xs : Array Nat} (hx : Inc xs) {j : Nat} (hn : xs[SetTable.below xs j]? ≠ some j) : Inc (SetTable.insertAt xs (SetTable.below xs j) j):=by
  obtain ⟨a, b, c⟩:=GH hx j
  generalize SetTable.below xs j = p at *
  unfold Inc
  rw [SetTable.toList_insertAt, List.pairwise_append, List.pairwise_cons]
  have hd : ∀ u ∈ xs.toList.drop p, j < u:=fun u hu=>by
    obtain ⟨k, e⟩:=List.getElem?_of_mem hu
    rw [List.getElem?_drop, Array.getElem?_toList] at e
    have h1:=c (p + k) u (Nat.le_add_right _ _) e
    rcases Nat.lt_or_eq_of_le h1 with z | z
    . exact z
    . subst z
      rcases Nat.eq_zero_or_pos k with z | z
      . subst z; exact absurd e hn
      . have hs : p < xs.size:=by
          have:=(Array.getElem?_eq_some_iff.mp e).1
          omega
        have g : xs[p]? = some xs[p]:=by simp [hs]
        have h2:=c p _ (Nat.le_refl _) g
        have h3:=hx.lt (show p < p + k by omega) g e
        omega
  have ht : ∀ u ∈ xs.toList.take p, u < j:=fun u hu=>by
    obtain ⟨k, e⟩:=List.getElem?_of_mem hu
    rw [List.getElem?_take] at e
    split at e
    . rename_i hk
      rw [Array.getElem?_toList] at e
      exact b k u hk e
    . cases e
  refine ⟨List.Pairwise.sublist (List.take_sublist _ _) hx, ⟨hd, List.Pairwise.sublist (List.drop_sublist _ _) hx⟩, fun u hu y hy=>?_⟩
  rcases List.mem_cons.mp hy with z | z
  . rw [z]; exact ht u hu
  . exact Nat.lt_trans (ht u hu) (hd y z)
structure TOk (t : SetTable) (led : Bool) : Prop where
  inc : Inc t.place
  dum : t.dummies = #[]
  led : t.led = led
theorem TOk.fresh (f m : Nat) (led : Bool) : TOk (.fresh f m led) led:=⟨List.Pairwise.nil, rfl, rfl⟩
theorem TOk.standIn {t : SetTable} {led : Bool} (h : TOk t led) (n : Nat) : TOk (t.standIn n) led:=⟨by unfold Inc SetTable.standIn; simpa using List.pairwise_lt_range, rfl, h.led⟩
theorem Uj {t : SetTable} (hd : t.dummies = #[]) (j : Nat) : (t.slot j = .empty -> t.place[SetTable.below t.place j]? ≠ some j) /\ t.slot j ≠ .dummy:=by
  unfold SetTable.slot
  have hh : SetTable.has t.dummies j = false:=by rw [hd]; simp [SetTable.has]
  simp only [hh]
  by_cases h : t.place[SetTable.below t.place j]? = some j
  . simp [h]
  . simp [h]
theorem JH {t : SetTable} (hd : t.dummies = #[]) {f : Nat -> Int} {h : Int} {j : Nat} {d : Option Nat} : ∀ (fuel : Nat) (p : SetTable.Probe), p.dummy = none -> SetTable.probe.go t f h fuel p = some (.empty j d) -> d = none /\ t.slot j = .empty
  | 0, p, _, e=>by cases e
  | fuel + 1, p, hp, e=>by
    unfold SetTable.probe.go at e
    have adv : (t.advance p).dummy = none:=by unfold SetTable.advance; split <;> exact hp
    cases hs : t.slot p.j with
    | empty=>rw [hs] at e; cases e; exact ⟨hp, hs⟩
    | dummy=>exact absurd hs (Uj hd _).2
    | live i=>
      rw [hs] at e
      dsimp only at e
      split at e
      . cases e
      . exact JH hd fuel _ adv e
theorem Dj {t : SetTable} {led : Bool} (h : TOk t led) (es : Array (Int × Value)) (k : Int) (x : Value) : TOk (layNew t es k x).2.1 led:=by
  unfold layNew
  cases hf : t.freeSlot k with
  | none=>exact h.standIn _
  | some q=>
    obtain ⟨sl, wd⟩:=q
    dsimp only
    have hk : TOk (t.put sl).1 led:=by
      unfold SetTable.freeSlot at hf
      cases hp : t.probe (fun _=>k + 1) k (t.probeStart k) with
      | none=>rw [hp] at hf; cases hf
      | some m=>
        rw [hp] at hf
        cases m with
        | candidate=>cases hf
        | empty j d=>
          obtain ⟨rfl, hs⟩:=JH h.dum _ _ rfl hp
          cases hf
          have hh : SetTable.has t.dummies j = false:=by rw [h.dum]; simp [SetTable.has]
          refine ⟨GU h.inc ((Uj h.dum j).1 hs), ?_, h.led⟩
          show (if SetTable.has t.dummies j then _ else t.dummies) = #[]
          rw [hh]; exact h.dum
    unfold SetTable.orStandIn
    split
    . exact hk
    . exact hk.standIn _
theorem U5 {t : SetTable} {led : Bool} (h : TOk t led) (es : Array (Int × Value)) (k : Nat) : TOk (relayAll t es k).2.1 led:=by
  unfold relayAll
  cases hr : t.relaid (es.map (·.1)) k with
  | none=>exact h.standIn _
  | some q=>
    obtain ⟨t', ord⟩:=q
    dsimp only
    split
    . unfold SetTable.relaid SetTable.laid at hr
      cases ho : SetTable.layClean (SetTable.sizeAbove k - 1) (es.map (·.1)) with
      | none=>rw [ho] at hr; cases hr
      | some ow=>
        rw [ho] at hr
        cases hr
        refine ⟨?_, rfl, h.led⟩
        unfold Inc
        show List.Pairwise (· < ·) (List.map (·.1) ((List.range _).filterMap fun j=>(ow.getD j none).map (j, ·)))
        rw [List.map_filterMap]
        have e : (fun j=>Option.map (fun x : Nat × Nat=>x.1) ((ow.getD j none).map (j, ·))) = fun j=>if (ow.getD j none).isSome then some j else none:=by
          funext j
          cases ow.getD j none <;> rfl
        rw [e]
        refine List.Pairwise.filterMap _ (fun a a' hlt b hb b' hb'=>?_) List.pairwise_lt_range
        split at hb
        . split at hb'
          . cases hb; cases hb'; exact hlt
          . cases hb'
        . cases hb
    . exact h.standIn _
end L2
namespace L2
open PySem PySem.Spec PyProof.Rows
theorem Cy {vs : List Value} {ms : List Int} (h : IntsAre vs ms) (k : Int) : (∃ v ∈ vs, Value.isInt k v = true) ↔ k ∈ ms:=by
  induction h with
  | nil=>simp
  | cons n t _ ih=>
    rw [List.mem_cons, ← ih]
    constructor
    . rintro ⟨v, hv, e⟩
      rcases List.mem_cons.mp hv with z | z
      . subst z; obtain ⟨t', e'⟩:=Value.isInt_shape e; cases e'; exact .inl rfl
      . exact .inr ⟨v, z, e⟩
    . rintro (z | ⟨v, hv, e⟩)
      . subst z; exact ⟨_, .head _, beq_self_eq_true _⟩
      . exact ⟨v, .tail _ hv, e⟩
theorem UL {vs vs' : List Value} (p : vs'.Perm vs) : ∀ {ms : List Int}, IntsAre vs ms -> ∃ ms', IntsAre vs' ms' /\ ms'.Perm ms:=by
  induction p with
  | nil=>intro ms h; exact ⟨ms, h, .refl _⟩
  | cons x _ ih=>
    intro ms h
    cases h with
    | cons n t h=>obtain ⟨m, a, b⟩:=ih h; exact ⟨n :: m, .cons n t a, b.cons _⟩
  | swap x y l=>
    intro ms h
    cases h with
    | cons n t h=>cases h with
      | cons m u h=>exact ⟨_, .cons m u (.cons n t h), .swap ..⟩
  | trans _ _ ih1 ih2=>
    intro ms h
    obtain ⟨m, a, b⟩:=ih2 h
    obtain ⟨m', a', b'⟩:=ih1 a
    exact ⟨m', a', b'.trans b⟩
theorem G4 {vs : List Value} {ms : List Int} (h : IntsAre vs ms) (k : Int) (t : Tok) : IntsAre (vs ++ [.int k t]) (ms ++ [k]):=by
  induction h with
  | nil=>exact .cons k t .nil
  | cons n u _ ih=>exact .cons n u ih
noncomputable def dd (l : List Int) : List Int:=l.foldl step_dedup []
structure SCore (prog : Program) (w : World) (es : Array (Int × Value)) (t : SetTable) (ns : List Int) : Prop where
  el : ElemsOf (intKind prog w) es.toList
  pm : ∃ ms, IntsAre (es.toList.map (·.2)) ms /\ ms.Perm ns
  sz : es.size < scanBound
  fit : t.fits es.size = true
  tok : TOk t (!w.params.followText "set-order")
noncomputable def VB (prog : Program) (w : World) (h : Heap) (a : Addr) (ns : List Int) : Prop:=
  ∃ o es ep t, h.get? a = some o /\ o.ExactSet /\ o.data = .set es ep t /\ SCore prog w es t ns
section
variable {prog : Program} {w : World} {A : Around} {E : Value -> Shared -> Prop} {s : Shared} {a : Addr} {ns : List Int}
theorem SCore.len {es : Array (Int × Value)} {t : SetTable} (c : SCore prog w es t ns) : es.size = ns.length:=by
  obtain ⟨ms, a, b⟩:=c.pm
  rw [← b.length_eq, ← IntsAre.length a, List.length_map, Array.length_toList]
theorem SCore.mem {es : Array (Int × Value)} {t : SetTable} (c : SCore prog w es t ns) (k : Int) : (∃ e ∈ es.toList, Value.isInt k e.2 = true) ↔ k ∈ ns:=by
  obtain ⟨ms, a, b⟩:=c.pm
  rw [← b.mem_iff, ← Cy a k]
  constructor
  . rintro ⟨e, h, z⟩; exact ⟨e.2, List.mem_map_of_mem h, z⟩
  . rintro ⟨v, h, z⟩
    obtain ⟨e, h1, rfl⟩:=List.mem_map.mp h
    exact ⟨e, h1, z⟩
theorem SCore.perm {es es' : Array (Int × Value)} {t t' : SetTable} (c : SCore prog w es t ns) (p : es'.toList.Perm es.toList) (f : t'.fits es'.size = true) (k : TOk t' (!w.params.followText "set-order")) : SCore prog w es' t' ns:=by
  obtain ⟨ms, a, b⟩:=c.pm
  obtain ⟨m, a', b'⟩:=UL (p.map (·.2)) a
  have e : es'.size = es.size:=by rw [← Array.length_toList, p.length_eq, Array.length_toList]
  exact ⟨c.el.perm p, ⟨m, a', b'.trans b⟩, by rw [e]; exact c.sz, f, k⟩
theorem VB.put {h : Heap} {o : Obj} {es es' : Array (Int × Value)} {ep : Nat} {t t' : SetTable} (ho : h.get? a = some o) (hx : o.ExactSet) (hd : o.data = .set es ep t) :
    (h.update a (Obj.putSet es' t')).get? a = some { o with data:=.set es' (ep + 1) t' } /\ (SCore prog w es' t' ns -> VB prog w (h.update a (Obj.putSet es' t')) a ns):=by
  have g:=Heap.get?_update_self (Obj.putSet es' t') ho (by rw [putSet_of es' t' hd]; rfl)
  rw [putSet_of es' t' hd] at g
  exact ⟨g, fun c=>⟨_, _, _, _, g, hx, rfl, c⟩⟩
theorem EV {k : Int} {tk : Tok} {Q : Bool -> Shared -> Prop} (hS : VB prog w s.heap a ns) (hr : ns.length + 1 < scanBound)
    (h : ∀ b h', Heap.SameBut a s.heap h' -> VB prog w h' a (step_dedup ns k) -> Q b { s with heap:=h' }) : wpAny (model prog w) A (setAddHashed a (.int k tk) ((intKind prog w).hash k)) Q E s:=by
  obtain ⟨o, es, ep, t, ho, hx, hd, c⟩:=id hS
  have hk : (intKind prog w).is k (.int k tk) = true:=intKind_is _ _ _ _
  unfold setAddHashed setAddHashedIn
  refine wpAny_holding (wpAny_bind (wpAny_setState_of ho hd c.fit ?_))
  dsimp only
  rw [byScan_of (knd:=intKind prog w) rfl c.sz c.el]
  simp only [↓reduceIte]
  unfold setAddByScan
  refine wpAny_bind (wpAny_bind (wpAny_rule (wpAny_bind (wpAny_setScan_of hk ho hd c.fit c.el ?_))))
  cases hf : List.findIdx? (fun e=>(intKind prog w).is k e.2) es.toList with
  | some j=>
    obtain ⟨hj, hp, _⟩:=List.findIdx?_eq_some_iff_getElem.mp hf
    have hm : k ∈ ns:=(c.mem k).mp ⟨_, List.getElem_mem hj, hp⟩
    have e : step_dedup ns k = ns:=if_pos (List.any_eq_true.mpr ⟨k, hm, by simp⟩)
    exact wpAny_pure (wpAny_pure (h _ s.heap (Heap.SameBut.refl a s.heap) (by rw [e]; exact hS)))
  | none=>
    have hm : k ∉ ns:=fun hm=>by
      obtain ⟨e, he, hp⟩:=(c.mem k).mpr hm
      have:=List.findIdx?_eq_none_iff.mp hf e he
      rw [show (intKind prog w).is k e.2 = true from hp] at this
      cases this
    have e : step_dedup ns k = ns ++ [k]:=if_neg (fun z=>by
      obtain ⟨x, hx, ex⟩:=List.any_eq_true.mp z
      rw [beq_iff_eq] at ex; subst ex; exact hm hx)
    rw [e] at h
    dsimp only
    have hg : ∀ (b : Bool) {s₁ : Shared} {Q' : Unit -> Shared -> Prop}, Q' () s₁ -> wpAny (model prog w) A (match b with | true=>rule "set.scan.the-table-gave-way" | false=>pure ()) Q' E s₁:=
      fun b s₁ Q' q=>by cases b <;> first | exact wpAny_pure q | exact wpAny_rule q
    have hp:=layNew_perm t es ((intKind prog w).hash k) (.int k tk)
    have hfit:=layNew_fits t es ((intKind prog w).hash k) (.int k tk)
    have ht:=Dj c.tok es ((intKind prog w).hash k) (.int k tk)
    generalize layNew t es ((intKind prog w).hash k) (.int k tk) = L at hp hfit ht ⊢
    obtain ⟨es1, t1, wd, gv⟩:=L
    dsimp only at hp hfit ht ⊢
    have hsz : es1.size = es.size + 1:=by rw [← Array.length_toList, hp.length_eq]; simp
    have c1 : SCore prog w es1 t1 (ns ++ [k]):=by
      obtain ⟨ms, i1, i2⟩:=c.pm
      rw [Array.toList_push] at hp
      have hp2:=hp.map (·.2)
      rw [List.map_append] at hp2
      obtain ⟨m, j1, j2⟩:=UL hp2 (G4 i1 k tk)
      exact ⟨(c.el.push hk rfl).perm hp, ⟨m, j1, j2.trans (i2.append_right _)⟩, by rw [hsz, c.len]; exact hr, hfit, ht⟩
    refine wpAny_bind (hg gv ?_)
    have tail : ∀ {Q1 : Option Bool -> Shared -> Prop}, (∀ h', Heap.SameBut a s.heap h' -> VB prog w h' a (ns ++ [k]) -> Q1 (some true) { s with heap:=h' }) -> wpAny (model prog w) A (do
        storeSet a es1 t1
        if (!wd && t1.tooFull) = true then do
            (match (relayAll t1 es1 (SetTable.grown es1.size)).2.2 with | true=>rule "set.scan.the-table-gave-way" | false=>pure ())
            storeSet a (relayAll t1 es1 (SetTable.grown es1.size)).1 (relayAll t1 es1 (SetTable.grown es1.size)).2.1
            pure (some true)
          else pure (some true)) Q1 E s:=fun {Q1} q=>by
      obtain ⟨g1, s1⟩:=VB.put (prog:=prog) (w:=w) (ns:=ns ++ [k]) (es':=es1) (t':=t1) ho hx hd
      refine wpAny_bind (wpAny_storeSet_of ho hd ?_ (fits_of_scanBound c1.sz))
      split
      . refine wpAny_bind (hg _ ?_)
        have p2:=relayAll_perm t1 es1 (SetTable.grown es1.size)
        have f2:=relayAll_fits t1 es1 (SetTable.grown es1.size)
        have k2:=U5 ht es1 (SetTable.grown es1.size)
        generalize relayAll t1 es1 (SetTable.grown es1.size) = Z at p2 f2 k2 ⊢
        obtain ⟨es2, t2, gv2⟩:=Z
        have c2:=c1.perm p2 f2 k2
        refine wpAny_bind (wpAny_storeSet_of g1 rfl ?_ (fits_of_scanBound c2.sz))
        exact wpAny_pure (q _ ((Heap.SameBut.update s.heap a _).trans (Heap.SameBut.update _ a _)) ((VB.put g1 hx rfl).2 c2))
      . exact wpAny_pure (q _ (Heap.SameBut.update s.heap a _) (s1 c1))
    have fin : ∀ h', Heap.SameBut a s.heap h' -> VB prog w h' a (ns ++ [k]) -> Q true { s with heap:=h' }:=fun h' sb z=>h true h' sb z
    split
    . refine wpAny_bind ?_
      rw [hashByValue_scannable 8 (x:=.int k tk) rfl]
      refine wpAny_pure ?_
      exact tail fun h' sb z=>wpAny_pure (fin h' sb z)
    . refine wpAny_bind (wpAny_pure ?_)
      exact tail fun h' sb z=>wpAny_pure (fin h' sb z)
end
end L2
namespace L2
open PySem PySem.Spec PyProof.Rows
section
variable {prog : Program} {w : World} {A : Around} {E : Value -> Shared -> Prop} {s : Shared}
theorem VB.at {h h' : Heap} {a : Addr} {ns : List Int} (x : VB prog w h a ns) (k : ∀ o, h.get? a = some o -> h'.get? a = some o) : VB prog w h' a ns:=
  let ⟨o, es, ep, t, ho, r⟩:=x; ⟨o, es, ep, t, k o ho, r⟩
theorem E4 (l : List Int) (k : Int) : dd (l ++ [k]) = step_dedup (dd l) k:=by unfold dd; rw [List.foldl_append]; rfl
theorem Uw (l : List Int) : (dd l).length <= l.length:=by
  suffices h : ∀ (l a : List Int), (l.foldl step_dedup a).length <= a.length + l.length by unfold dd; simpa using h l []
  intro l
  induction l with
  | nil=>intro a; exact Nat.le_refl _
  | cons x l ih=>
    intro a
    refine Nat.le_trans (ih _) ?_
    rw [step_length, List.length_cons]
    split <;> omega
theorem Cl (v : Value) {Q : Value -> Shared -> Prop}
    (h : Q (.ref s.heap.objs.size) { s with heap:=s.heap.push { cls:=.type "set", dict:=none, data:=.set #[] 0 (.fresh 0 0 (!w.params.followText "set-order")) } }) :
    codeAny (model prog w) A (.call (.builtin "set.__new__") ⟨[.type "set", v], []⟩) (wants Q E) s:=by
  refine codeAny_of_tree ?_
  show wpAny _ A.in1 (do checkBuiltinCall "set.__new__" ⟨[.type "set", v], []⟩; again (.builtin "set.__new__" ⟨[.type "set", v], []⟩)) _ _ s
  refine wpAny_bind (wpAny_of_eq (F.newCall_set_1 v) (wpAny_pure ⟨plainId_quiet F.plain_set_new _, codeAny_builtin F.entry_set_new ?_⟩))
  rw [Around.under_plainId F.plain_set_new _]
  unfold Builtin.«set.__new__» Builtin.Frozenset.newClass
  have hsub:=sub_set_self
  obtain ⟨hp, g, d, tk, os⟩:=s
  dsimp only
  wp_walk
  refine wpAny_askSetting (wpAny_pure ?_)
  dsimp only
  simp only [newObj]
  refine wpAny_bind (wpAny_alloc (wpAny_pure ?_))
  exact wpAny_pure h
end
end L2
namespace L2
open PySem PySem.Spec PyProof.Rows
section
variable {M : Model} {A : Around} {E : Value -> Shared -> Prop} {s : Shared}
end
section
variable {prog : Program} {w : World} {A : Around} {E : Value -> Shared -> Prop} {s : Shared} {a : Addr} {o : Obj} {es : Array (Int × Value)} {ep : Nat} {t : SetTable}
end
end L2
namespace L2
open PySem PySem.Spec PyProof.Rows
section
variable {prog : Program} {w : World} {A : Around} {E : Value -> Shared -> Prop} {s : Shared} {a I tp : Addr} {o : Obj} {es : Array (Int × Value)} {ep : Nat} {t : SetTable} {L : List (Int × Value)}
inductive SMode (w : World) (a : Addr) (es : Array (Int × Value)) (ep : Nat) (t : SetTable) (tp : Addr) (L : List (Int × Value)) (h : Heap) (i : Nat) : Value -> Prop
  | text (sl : Nat) (hT : w.params.followText "set-order" = true) (hL : L = (pickOrder (w.params.setOrder a ep) es).toList) : SMode w a es ep t tp L h i (.int sl 0)
  | plain (sl : Nat) (hT : w.params.followText "set-order" = false) (hp : (!t.plain && decide (es.size > 1)) = false) (hL : L = es.toList) (hb : SetTable.below t.place sl = i) : SMode w a es ep t tp L h i (.int sl 0)
  | drawn (ps : List Nat) (hg : h.get? tp = some { cls:=.type "tuple", data:=.seq (ps.map fun i=>Value.int (i : Nat) 0).toArray }) (hn : ps.length = L.length) (hL : ∀ (i : Nat) pl, ps[i]? = some pl -> L[i]? = es[pl]?) : SMode w a es ep t tp L h i (.ref tp)
structure SIt (w : World) (I a : Addr) (es : Array (Int × Value)) (ep : Nat) (t : SetTable) (tp : Addr) (L : List (Int × Value)) (o : Obj) (i : Nat) (h : Heap) : Prop where
  it : ∃ ob first, h.get? I = some ob /\ ob.cls = .type "set_iterator" /\ ob.data = .fields #[first, .int i 0, .ref a, .int es.size 0, .int ep 0] /\ SMode w a es ep t tp L h i first
  st : h.get? a = some o
theorem SMode.at {h h' : Heap} {i : Nat} {v : Value} (m : SMode w a es ep t tp L h i v) (k : ∀ o, h.get? tp = some o -> h'.get? tp = some o) : SMode w a es ep t tp L h' i v:=by
  cases m with
  | text sl hT hL=>exact .text sl hT hL
  | plain sl hT hp hL hb=>exact .plain sl hT hp hL hb
  | drawn ps hg hn hL=>exact .drawn ps (k _ hg) hn hL
end
end L2
namespace L2
open PySem PySem.Spec PyProof.Rows
section
variable {prog : Program} {w : World} {A : Around} {E : Value -> Shared -> Prop} {s : Shared} {a I tp : Addr} {o : Obj} {es : Array (Int × Value)} {ep : Nat} {t : SetTable} {L : List (Int × Value)} {ns : List Int}
theorem SIt.frame {i : Nat} {h h' : Heap} (x : SIt w I a es ep t tp L o i h) (k : ∀ b ∈ [I, a, tp], ∀ o, h.get? b = some o -> h'.get? b = some o) : SIt w I a es ep t tp L o i h':=by
  obtain ⟨⟨ob, f, h1, h2, h3, m⟩, h4⟩:=x
  exact ⟨⟨ob, f, k I (by simp) _ h1, h2, h3, m.at fun o e=>k tp (by simp) o e⟩, k a (by simp) _ h4⟩
end
section
variable {X : Cx}
noncomputable def IC (P : Program) (w : World) (p : Addr) (ns : List Int) : HO:=.ext fun h=>VB P w h p ns
end
end L2
namespace L2
open PySem PySem.Spec PyProof.Rows
section
variable {K : PySem.W.Frag} {Er : Exc -> Hp -> Prop} {S : SC} {OO : List (List XA)} {σ : St}
variable {u : TS} {α γ ρ ι : Type}
variable {β : Type} {Fd : Ends -> β -> Hp -> Prop} [fd : FdOk Fd]
end
section
variable {α β γ : Type}
end
section
variable {K : PySem.W.Frag} {Er : Exc -> Hp -> Prop} {S : SC} {OO : List (List XA)} {σ : St} {α1 α2 α3 α4 ρ : Type} {mg : Str -> Option Value} {E : XK}
end
end L2
namespace L2
open PySem PySem.Spec PyProof.Rows
section
variable {X : Cx} {tg : Expr}
noncomputable def BJ (K : PySem.W.Frag) : R2:=fun x y H Q=>∃ a b xs ys, x = .ref a /\ y = .ref b /\ SqT K H a xs /\ SqT K H b ys /\ ys ≠ [] /\ xs.length + ys.length <= sizeLine /\
  (xs = [] -> Q (.ref b) H) /\ (xs ≠ [] -> ∀ p, H p = none -> Q (.ref p) (upd H p (.tup (xs ++ ys))))
theorem KM (K : PySem.W.Frag) (hK : X.K = K) : OpR X (binaryOp .Add) (BJ K):=by
  subst hK
  intro pins s σ H x y v u Q I rx ry h
  obtain ⟨a, b, xs, ys, e1, e2, ha, hb, hy, hz, q1, q2⟩:=h
  by_cases hx : xs = []
  . subst e1 e2
    cases rx
    cases ry
    obtain ⟨its, r1, p1, _⟩:=I.tuple ha
    obtain ⟨its2, r2, p2, _⟩:=I.tuple hb
    obtain ⟨⟨cls, dd, data, sl⟩, ho, hc, n, hd⟩:=id p1
    obtain ⟨⟨cls2, dd2, data2, sl2⟩, ho2, hc2, n2, hd2⟩:=id p2
    simp only at hc hd hc2 hd2
    subst hc hd hc2 hd2
    have e0 : its = []:=r1.nil_iff.mpr hx
    exact concat_meets ⟨_, ho, rfl⟩ ⟨_, ho2, rfl⟩ noFill_tuple_add seq_tuple_add PySem.F.slot_tuple_add PySem.F.entry_tuple_add (PySem.F.args_tuple_add_2 _ _)
      (tuple_addW0 a b its.toArray its2.toArray n n2 dd dd2 sl sl2 (by simp [e0])) ⟨ho, ho2, ⟨.ref b, H, I, rfl, q1 hx⟩⟩
  . exact EX pins s σ H x y v u Q I rx ry ⟨a, b, xs, ys, e1, e2, ha, hb, hx, hz, fun z=>absurd z hy, fun _=>q2 hx⟩
end
end L2
namespace L2
open PySem PySem.Spec PyProof.Rows
section
variable {K : PySem.W.Frag} {Er : Exc -> Hp -> Prop} {S : SC} {OO OO' : List (List XA)} {σ : St} {α β γ : Type}
theorem KI {ta tb : TE} {r : Enc α} [z : MonoE r] {ma mb : Res (List α)} (ha : EvB K Er S OO σ ta (rPL r) ma) (hb : EvB K Er S OO σ tb (rPL r) mb) : EvB K Er S OO σ (tOp (BJ K) ta tb) (rPL r) (ma.bind fun as=>mb.bind fun bs=>chk (0 < bs.length /\ as.length + bs.length <= sizeLine) (.ok (as ++ bs))):=fun H Q w s P=>
  ha.run w s FB.tr P fun as x H1 s1 w1 q1 ⟨p, xs, e, q, pr⟩ P1=>hb.run w1 q1 FB.tr P1 fun bs y H2 s2 w2 q2 ⟨p', ys, e', q', pr'⟩ P2=>by
    obtain ⟨⟨h1, h2⟩, P3⟩:=PZ.chk P2
    have hl:=Paired.len pr
    have hl':=Paired.len pr'
    have pr2 : Paired (r K H2) xs as:=Paired.imp2 (fun _ _ h=>z.mono s2 h) pr
    refine ⟨p, p', xs, ys, e, e', SqT.of (s2 _ _ q), SqT.of q', fun z=>by rw [z] at hl'; simp at hl'; omega, by rw [hl, hl']; exact h2, fun hz=>?_, fun _ a ha=>P3 _ _ (XF ha _) ⟨a, _, rfl, Yb, Paired.imp2 (fun _ _ h=>z.mono (XF ha _) h) (Paired.app pr2 pr')⟩⟩
    subst hz
    have ha : as = []:=List.length_eq_zero_iff.mp (by rw [← hl]; rfl)
    subst ha
    exact P3 _ H2 (Xx.refl _) ⟨p', ys, rfl, q', pr'⟩
theorem P3.reverse {δ : Type} {F : α -> γ -> δ -> Prop} : ∀ {l m n}, P3 F l m n -> P3 F l.reverse m.reverse n.reverse:=fun p=>by
  induction p with
  | nil=>exact .nil
  | cons r _ ih=>rw [List.reverse_cons, List.reverse_cons, List.reverse_cons]; exact ih.snoc r
variable {u : TS} {Fd : Ends -> β -> Hp -> Prop} [fd : FdOk Fd]
end
end L2
namespace L2
open PySem PySem.Spec PyProof.Rows
section
variable {K : PySem.W.Frag} {Er : Exc -> Hp -> Prop} {S : SC} {OO : List (List XA)} {σ : St} {α β γ ι : Type} {u : TS} {Fd : Ends -> β -> Hp -> Prop} [fd : FdOk Fd]
noncomputable def Jn.wR (J : Jn γ ι) (k : Nat) (R : List XA) : Jn γ ι:={ oo:=fun x=>(J.oo x).set k R, ss:=J.ss, sc:=J.sc }
theorem BM {k : Nat} {C : List XA} (hk : OO[k]? = some []) : (OO.set k C).flatten.Perm (C :: OO).flatten:=by
  have hlt : k < OO.length:=(List.getElem?_eq_some_iff.mp hk).1
  have h1 : (OO.set k C)[k]? = some C:=by simp [hlt]
  have h2:=X1 h1
  rw [List.set_set] at h2
  have h3 : OO.set k [] = OO:=by
    refine List.ext_getElem? fun i=>?_
    by_cases e : k = i
    . subst e; rw [hk]; simp [hlt]
    . simp [e]
  rw [h3] at h2
  exact h2.symm
theorem Kc {te : TE} {tb : TS} {o : OE α} [z : MonoO o] {m : Res (List α)} {body : γ -> α -> Res γ} {f : γ -> Res β} (J : Jn γ ι) (kx kr ix : Nat) (x0 : ι) (g0 : γ) (he : Ev K Er S OO OO σ te (oL o) m) (h1 : OO = J.oo x0) (h2 : σ = J.ss x0) (h3 : ∀ h, S.p h -> (J.sc g0 x0).p h)
    (hkx : ∀ x, (J.oo x)[kx]? = some []) (hkr : ∀ x, (J.oo x)[kr]? = some []) (hne : kr ≠ kx)
    (hb : ∀ R g x a v C, Sv Er ((J.sc g x).addO K o v a C) (((J.oo x).set kr R).set kx C) ((J.ss x).set ix (some v)) tb (FNd (J.wR kr R)) (body g a))
    (hr : ∀ g x, Sv Er (J.sc g x) (J.oo x) (J.ss x) u Fd (f g)) : Sv Er S OO σ (JL (HA (CF K te) (ZV ix) tb) u) Fd (m.bind fun as=>(forN as g0 body).bind f):=fun H D w s P=>by
  refine he H _ w s ?_
  cases em : m with
  | bad=>rw [em] at P; exact P
  | err x=>rw [em] at P; exact fun H' s'=>P H' (XL.trans s')
  | ok as=>
    rw [em] at P
    have P : PZ Er (Fd D) (hid H OO) ((forN as g0 body).bind f):=P
    intro v C H' s' w' m' ⟨p, xs, Cs, e, q, c⟩
    subst c e
    have hp':=w'.cell (p, .lst xs) List.mem_cons_self
    have hlen:=q.len
    let R : Nat -> List XA:=fun i=>(p, HO.lst xs) :: (Cs.drop i).flatten
    have e0 : R 0 = (p, HO.lst xs) :: Cs.flatten:=by show _ :: (Cs.drop 0).flatten = _; rw [List.drop_zero]
    have pm0 : ∀ x i, ((J.oo x).set kr (R i)).flatten.Perm (R i :: J.oo x).flatten:=fun x i=>BM (hkr x)
    have hin : ∀ {x i H2}, W ((J.oo x).set kr (R i)) H2 -> SqL K H2 p xs:=fun {x i H2} w2=>SqL.of ((w2.of (pm0 x i).symm).cell (p, .lst xs) List.mem_cons_self)
    refine ⟨p, rfl, ⟨xs, SqL.of hp'⟩, fun i mm σ' H2=>mm = as.length - i /\ i <= as.length /\ ∃ x gg, σ' = J.ss x /\ W ((J.oo x).set kr (R i)) H2 /\ Xx (hid H' (((p, HO.lst xs) :: Cs.flatten) :: OO)) (hid H2 ((J.oo x).set kr (R i))) /\ (J.sc gg x).p (hid H2 ((J.oo x).set kr (R i))) /\ PZ Er (Fd D) (hid H2 ((J.oo x).set kr (R i))) ((forN (as.drop i) gg body).bind f), ⟨as.length, rfl, Nat.zero_le _, x0, g0, h2, ?_⟩, ?_⟩
    . have pm : ((J.oo x0).set kr (R 0)).flatten.Perm (((p, HO.lst xs) :: Cs.flatten) :: OO).flatten := by rw [h1, ← e0]; exact pm0 x0 0
      rw [XU pm, List.drop_zero]
      exact ⟨w'.of pm, Xx.refl _, h3 _ (S.mono _ _ m' s), PZ.tr (fd.tr D) m' P⟩
    . rintro i mm σ' H2 ⟨rfl, hi, x, gg, rfl, w2, m2, sc2, P2⟩
      by_cases hlt : i < as.length
      . right
        have ha : as[i]? = some as[i]:=by simp [hlt]
        obtain ⟨y0, c0, hy0, hc0, ho0⟩:=P3.get q ha
        have hq:=hin w2
        refine ⟨⟨xs, y0, hq, hy0⟩, fun σ3 H3=>∃ x gg, σ3 = J.ss x /\ W ((J.oo x).set kr (R (i + 1))) H3 /\ Xx (hid H' (((p, HO.lst xs) :: Cs.flatten) :: OO)) (hid H3 ((J.oo x).set kr (R (i + 1)))) /\ (J.sc gg x).p (hid H3 ((J.oo x).set kr (R (i + 1)))) /\ PZ Er (Fd D) (hid H3 ((J.oo x).set kr (R (i + 1)))) ((forN (as.drop (i + 1)) gg body).bind f), fun σ3 H3 q=>⟨as.length - (i + 1), Nat.sub_lt_sub_left hlt (Nat.lt_succ_self i), rfl, hlt, q⟩, fun y H3 ⟨e3, hy⟩=>?_⟩
        subst e3
        have hyy:=hy xs hq
        rw [hy0] at hyy
        cases hyy
        have hkx2 : ((J.oo x).set kr (R (i + 1)))[kx]? = some []:=by rw [List.getElem?_set_ne hne]; exact hkx x
        have hcl : i < Cs.length:=(List.getElem?_eq_some_iff.mp hc0).1
        have hc1 : Cs[i] = c0:=(List.getElem?_eq_some_iff.mp hc0).2
        have pm : (((J.oo x).set kr (R (i + 1))).set kx c0).flatten.Perm ((J.oo x).set kr (R i)).flatten:=by
          refine (BM hkx2).trans (List.Perm.trans ?_ (pm0 x i).symm)
          rw [List.flatten_cons]
          refine ((pm0 x (i + 1)).append_left c0).trans ?_
          show (c0 ++ (((p, HO.lst xs) :: (Cs.drop (i + 1)).flatten) :: J.oo x).flatten).Perm (((p, HO.lst xs) :: (Cs.drop i).flatten) :: J.oo x).flatten
          rw [List.drop_eq_getElem_cons hcl, hc1]
          simp only [List.flatten_cons, List.cons_append, List.append_assoc]
          exact List.perm_middle
        have w3:=w2.of pm
        have eh:=XU (H:=H3) pm
        refine hb (R (i + 1)) gg x as[i] y0 c0 H3 _ w3 ⟨by rw [eh]; exact sc2, by rw [eh]; exact z.mono m2 ho0⟩ ?_
        rw [eh]
        rw [List.drop_eq_getElem_cons hlt] at P2
        have P3 : PZ Er (Fd D) (hid H3 ((J.oo x).set kr (R i))) ((body gg as[i]).bind fun g'=>(forN (as.drop (i + 1)) g' body).bind f):=by rw [← X6]; exact P2
        cases eb : body gg as[i] with
        | bad=>rw [eb] at P3; exact P3
        | err x=>rw [eb] at P3; exact P3
        | ok g'=>
          rw [eb] at P3
          exact fun x' H4 w4 m4 sc4=>⟨x', g', rfl, w4, m2.trans m4, sc4, PZ.tr (fd.tr D) m4 P3⟩
      . left
        have e : i = as.length:=Nat.le_antisymm hi (Nat.not_lt.mp hlt)
        subst e
        have hs : Xx (hid H2 ((J.oo x).set kr (R as.length))) (hid H2 (J.oo x)):=by
          rw [XU (pm0 x as.length)]
          exact Qo (Xx.refl _) fun b hb=>by rw [Y7]; exact List.mem_append_right _ hb
        refine ⟨⟨xs, hin w2, by rw [hlen.1]; exact Nat.le_refl _⟩, hr gg x H2 D ((w2.of (pm0 x as.length).symm).tail) ((J.sc gg x).mono _ _ hs sc2) ?_⟩
        rw [List.drop_length] at P2
        exact PZ.tr (fd.tr D) hs P2
end
end L2
namespace L2
open PySem PySem.Spec PyProof.Rows
section
variable {K : PySem.W.Frag} {Er : Exc -> Hp -> Prop} {S : SC} {OO : List (List XA)} {σ : St} {α β : Type}
theorem C5 {te : TE} {o : OE α} {q : OE β} [z : MonoO o] [y : MonoO q] {v : V} {a : α} {C : List XA} {m : Res β} (i k : Nat) (hσ : σ[i]? = some (some v)) (hk : OO[k]? = some C) (h : ∀ x, S.p x -> o K x v a C) (he : Ev K Er S OO OO σ te q m) :
    Ev K Er S OO (OO.set k []) σ (E8 (XG (US i) (XG te ZB))) (oT2 o q) ((Res.ok a).bind fun a=>m.bind fun b=>.ok (a, b)):=fun H Q w s P=>by
  refine ⟨v, hσ, he H _ w s ?_⟩
  have P1 : PZ Er (FO K OO (OO.set k []) (oT2 o q) Q) H (m.bind fun b=>.ok (a, b)):=P
  cases en : m with
  | bad=>rw [en] at P1; exact P1
  | err x=>rw [en] at P1; exact P1
  | ok b=>
    rw [en] at P1
    have P2 : FO K OO (OO.set k []) (oT2 o q) Q (a, b) H:=P1
    intro v2 C2 H2 s2 w2 m2 ho2
    have pm : ((C ++ C2) :: OO.set k []).flatten.Perm (C2 :: OO).flatten:=by
      have h1:=X1 hk
      simp only [List.flatten_cons] at h1 ⊢
      refine List.Perm.trans ?_ (h1.append_left C2)
      rw [List.append_assoc]
      exact List.perm_append_comm_assoc ..
    refine ⟨by show 2 <= sizeLine; decide, fun p hp=>P2 (.ref p) (C ++ C2) _ (s2.trans (XF hp _)) ((w2.of pm).keep (XF hp _)) ?_ ?_⟩
    . rw [XU pm]
      exact m2.trans (Xm (XF hp _))
    . rw [XU pm]
      exact ⟨p, v, v2, C, C2, rfl, QB w2 hp, z.mono (m2.trans (Xm (XF hp _))) (h _ s), y.mono (Xm (XF hp _)) ho2, rfl⟩
end
end L2
namespace L2
open PySem PySem.Spec PyProof.Rows
noncomputable def LI (A : Around) (s : Shared) (v u : Value) (b : Bool) : Prop:=
  ∀ (prog : Program) (w : World) (E : Value -> Shared -> Prop) (Q : Value -> Shared -> Prop), Q (.bool b) s -> wpAny (model prog w) A (richCompare .Lt v u) Q E s
structure LtOk {α : Type} (r : Enc α) (lt : α -> α -> Bool) (d : Nat) : Prop where
  at' : ∀ {X : Cx} {pins : List (Addr × Obj)} {σ : St} {H : Hp} {s : Shared} {x y : V} {v u : Value} {a b : α} {A : Around}, Inv X pins σ H s -> X4 x v -> X4 y u -> r X.K H x a -> r X.K H y b -> A.units + d < cLine -> LI A s v u (lt a b)
noncomputable def ltI (a b : Int) : Bool:=decide (a < b)
theorem lt_int : LtOk Xa ltI 0:=⟨fun {X pins σ H s x y v u a b A} I rx ry h1 h2 _ prog w E Q q=>by
  have e1 : x = V.int a:=h1
  have e2 : y = V.int b:=h2
  subst e1 e2
  obtain ⟨t, rfl⟩:=rx
  obtain ⟨t', rfl⟩:=ry
  exact CmpOf.ints_lt (P:=fun j v=>∃ t, v = .int (if j = 0 then a else b) t) (fun j=>if j = 0 then a else b) (fun _ _ h=>h) 0 1 _ _ _ _ _ ⟨t, rfl⟩ ⟨t', rfl⟩ q⟩
section
variable {α : Type} [DecidableEq α] {r : Enc α} {lt : α -> α -> Bool} {d : Nat}
theorem LtOk.imp {q : Enc α} (L : LtOk r lt d) (h : ∀ {K : PySem.W.Frag} {H : Hp} {v : V} {a : α}, q K H v a -> r K H v a) : LtOk q lt d:=⟨fun I rx ry h1 h2 hu=>L.at' I rx ry (h h1) (h h2) hu⟩
end
end L2
namespace L2
open PySem PySem.Spec PyProof.Rows
section
variable {α : Type}
noncomputable def kp (kf : Value -> α) (d : α) (xs : Array Keyed) (i : Nat) : α:=(xs[i]?.map fun p=>kf p.1).getD d
structure Ord (lt : α -> α -> Bool) : Prop where
  irr : ∀ a, lt a a = false
  tr : ∀ {a b c}, lt a b = true -> lt b c = true -> lt a c = true
structure Asks (prog : Program) (w : World) (A : Around) (E : Value -> Shared -> Prop) (s : Shared) (lt : α -> α -> Bool) (kf : Value -> α) (d : α) (a0 : Array Keyed) : Prop extends Ord lt where
  ask : ∀ {st : SortSt} {i j : Nat} {Q : Option Bool -> SortSt -> Prop}, SBase a0 st -> i < a0.size -> j < a0.size -> Q (some (lt (kp kf d (arrOf st) i) (kp kf d (arrOf st) j))) st -> wpS (model prog w) A E s (ltAt' i j) Q st
  two : ∀ {st : SortSt} {i j : Nat}, SBase a0 st -> i < a0.size -> j < a0.size -> i ≠ j -> lt (kp kf d (arrOf st) i) (kp kf d (arrOf st) j) = true ∨ lt (kp kf d (arrOf st) j) (kp kf d (arrOf st) i) = true
variable {prog : Program} {w : World} {A : Around} {E : Value -> Shared -> Prop} {s : Shared} {lt : α -> α -> Bool} {kf : Value -> α} {d : α} {a0 : Array Keyed}
noncomputable def Ris (lt : α -> α -> Bool) (k : Nat -> α) (n : Nat) : Prop:=∀ i j, i < j -> j < n -> lt (k i) (k j) = true
noncomputable def Fal (lt : α -> α -> Bool) (k : Nat -> α) (n : Nat) : Prop:=∀ i j, i < j -> j < n -> lt (k j) (k i) = true
theorem Ris.more (O : Ord lt) {k : Nat -> α} {n : Nat} (h : Ris lt k n) (q : 0 < n -> lt (k (n - 1)) (k n) = true) : Ris lt k (n + 1):=fun i j hij hj=>by
  rcases Nat.lt_or_ge j n with z | z
  . exact h i j hij z
  . have e : j = n := by omega
    subst e
    rcases Nat.lt_or_ge i (j - 1) with y | y
    . exact O.tr (h i (j - 1) y (by omega)) (q (by omega))
    . rw [show i = j - 1 by omega]; exact q (by omega)
theorem Fal.more (O : Ord lt) {k : Nat -> α} {n : Nat} (h : Fal lt k n) (q : 0 < n -> lt (k n) (k (n - 1)) = true) : Fal lt k (n + 1):=fun i j hij hj=>by
  rcases Nat.lt_or_ge j n with z | z
  . exact h i j hij z
  . have e : j = n := by omega
    subst e
    rcases Nat.lt_or_ge i (j - 1) with y | y
    . exact O.tr (q (by omega)) (h i (j - 1) y (by omega))
    . rw [show i = j - 1 by omega]; exact q (by omega)
theorem Asks.other (L : Asks prog w A E s lt kf d a0) {st : SortSt} {i j : Nat} (B : SBase a0 st) (hi : i < a0.size) (hj : j < a0.size) (n : i ≠ j) (h : lt (kp kf d (arrOf st) i) (kp kf d (arrOf st) j) = false) : lt (kp kf d (arrOf st) j) (kp kf d (arrOf st) i) = true:=(L.two B hi hj n).resolve_left (by rw [h]; decide)
end
end L2
namespace L2
open PySem PySem.Spec PyProof.Rows
section
variable {α β γ : Type}
theorem Db {f : α -> β} {l' k : List β} (h : l'.Perm k) : ∀ {l : List α}, k = l.map f -> ∃ m : List α, m.Perm l /\ m.map f = l':=by
  induction h with
  | nil=>intro l e; cases l with
    | nil=>exact ⟨[], .nil, rfl⟩
    | cons a l=>cases e
  | cons x _ ih=>intro l e; cases l with
    | nil=>cases e
    | cons a l=>
      injection e with e1 e2
      obtain ⟨m, hm, em⟩:=ih e2
      exact ⟨a :: m, hm.cons a, by rw [List.map_cons, em, e1]⟩
  | swap x y t=>intro l e; cases l with
    | nil=>cases e
    | cons a l=>cases l with
      | nil=>cases e
      | cons b l=>
        injection e with e1 e2
        injection e2 with e2 e3
        exact ⟨b :: a :: l, .swap .., by rw [List.map_cons, List.map_cons, e1, e2, e3]⟩
  | trans _ _ ih1 ih2=>
    intro l e
    obtain ⟨m2, h2, e2⟩:=ih2 e
    obtain ⟨m1, h1, e1⟩:=ih1 e2.symm
    exact ⟨m1, h1.trans h2, e1⟩
section
variable [DecidableEq α] {lt : α -> α -> Bool}
end
end
section
variable {prog : Program} {w : World} {A : Around} {E : Value -> Shared -> Prop} {s : Shared} {α : Type}
end
section
variable {X : Cx} {β : Type} [DecidableEq β] {r : Enc β} {lt : β -> β -> Bool} {d : Nat}
end
end L2
namespace L2
open PySem PySem.Spec PyProof.Rows
section
variable {X : Cx} {α : Type}
end
section
variable {K : PySem.W.Frag} {Er : Exc -> Hp -> Prop} {S : SC} {OO OO' : List (List XA)} {σ : St} {α β γ δ : Type}
theorem P3.tri {F : α -> β -> γ -> Prop} : ∀ {l m n}, P3 F l m n -> ∃ T : List (α × β × γ), T.map (·.1) = l /\ T.map (·.2.1) = m /\ T.map (·.2.2) = n /\ ∀ t ∈ T, F t.1 t.2.1 t.2.2:=fun p=>by
  induction p with
  | nil=>exact ⟨[], rfl, rfl, rfl, fun t h=>nomatch h⟩
  | cons r _ ih=>
    obtain ⟨T, e1, e2, e3, h⟩:=ih
    exact ⟨(_, _, _) :: T, by rw [List.map_cons, e1], by rw [List.map_cons, e2], by rw [List.map_cons, e3], fun t ht=>(List.mem_cons.mp ht).elim (fun z=>z ▸ r) (h t)⟩
theorem P3.oft {F : α -> β -> γ -> Prop} : ∀ {T : List (α × β × γ)}, (∀ t ∈ T, F t.1 t.2.1 t.2.2) -> P3 F (T.map (·.1)) (T.map (·.2.1)) (T.map (·.2.2)):=fun {T}=>by
  induction T with
  | nil=>intro _; exact .nil
  | cons t T ih=>intro h; exact .cons (h t List.mem_cons_self) (ih fun u hu=>h u (List.mem_cons_of_mem _ hu))
theorem EJ {a a' : List α} {b b' : List β} (h : a.zip b = a'.zip b') (h1 : a.length = b.length) (h2 : a'.length = b'.length) : a = a' /\ b = b':=by
  have e1:=congrArg (List.map Prod.fst) h
  have e2:=congrArg (List.map Prod.snd) h
  rw [List.map_fst_zip (by omega), List.map_fst_zip (by omega)] at e1
  rw [List.map_snd_zip (by omega), List.map_snd_zip (by omega)] at e2
  exact ⟨e1, e2⟩
theorem P3.perm {F : α -> β -> γ -> Prop} {l zs : List α} {m bs : List β} {n : List γ} (p : P3 F l m n) (h : (zs.zip bs).Perm (l.zip m)) (hl : zs.length = bs.length) : ∃ n', P3 F zs bs n' /\ n'.Perm n:=by
  obtain ⟨T, e1, e2, e3, hT⟩:=p.tri
  have ez : T.map (fun t=>(t.1, t.2.1)) = l.zip m:=by rw [← e1, ← e2, List.zip_map']
  obtain ⟨T', hp, e⟩:=Db h ez.symm
  have : (T'.map (·.1)).zip (T'.map (·.2.1)) = zs.zip bs:=by rw [List.zip_map']; exact e
  obtain ⟨f1, f2⟩:=EJ this (by simp) hl
  refine ⟨T'.map (·.2.2), ?_, by rw [← e3]; exact hp.map _⟩
  rw [← f1, ← f2]
  exact P3.oft fun t ht=>hT t (hp.mem_iff.mp ht)
end
section
variable {K : PySem.W.Frag} {Er : Exc -> Hp -> Prop} {S : SC} {OO OO' : List (List XA)} {σ : St} {α β : Type} {u : TS} {Fd : Ends -> β -> Hp -> Prop} [fd : FdOk Fd]
end
end L2
namespace L2
open PySem PySem.Spec PyProof.Rows
section
variable {K : PySem.W.Frag} {Er : Exc -> Hp -> Prop} {S : SC} {OO OO' : List (List XA)} {σ : St} {α1 α2 β ρ : Type} {u : TS}
theorem W.one {H : Hp} (w : W OO H) : W [OO.flatten] H:=w.of (by simp)
end
end L2
namespace L2
open PySem PySem.Spec PyProof.Rows
section
variable {K : PySem.W.Frag} {Er : Exc -> Hp -> Prop} {S : SC} {OO OO' : List (List XA)} {σ : St} {α α2 β γ ρ : Type}
variable {Fd : Ends -> β -> Hp -> Prop} [fd : FdOk Fd] {u : TS}
end
end L2
namespace L2
open PySem PySem.Spec PyProof.Rows
section
variable {prog : Program} {w : World} {A : Around} {E : Value -> Shared -> Prop} {s : Shared}
theorem Br {R : Result -> Shared -> Prop} {I l S : Addr} {items : List Value} {ns : List Int} (hh : A.in1.handled = none) (hi : IntsAre items ns) (hb : ns.length + 1 < scanBound) (h1 : S ≠ I) (h2 : S ≠ l) (h3 : l ≠ I) :
    ∀ (k i : Nat) (s : Shared), items.length - i = k -> i <= items.length -> s.heap.IsTupleIter I l i -> s.heap.IsTuple l items.toArray -> VB prog w s.heap S (dd (ns.take i)) ->
      (∀ h' tk, VB prog w h' S (dd ns) -> (∀ b o, b ≠ S -> b ≠ I -> s.heap.get? b = some o -> h'.get? b = some o) -> R (.ok (.ret .none)) { s with heap:=h', toks:=tk }) ->
      codeAny (model prog w) A (.builtin "set.update.loop" ⟨[.ref S, .ref I], []⟩) R s:=by
  have hln:=IntsAre.length hi
  intro k
  induction k with
  | zero=>
    intro i s hk hle hit hl hS hR
    have e : i = items.length:=by omega
    subst e
    refine codeAny_builtin PyProof.Rows.F.entry_set_update_loop ?_
    rw [Around.under_plainId PyProof.Rows.F.plain_set_update_loop _]
    show wpAny _ A.in1 (pyNext (.ref I) >>= _) _ _ s
    refine wpAny_bind (wpAny_pyNext_tuple_end hh hit hl (by simp) fun h' ext=>?_)
    show wpAny _ A.in1 (ret Value.none) _ _ _
    rw [List.take_of_length_le (by omega)] at hS
    exact wpAny_pure (hR h' _ (hS.at fun o ho=>ext S o h1 ho) fun b o _ hbI e=>ext b o hbI e)
  | succ k ih=>
    intro i s hk hle hit hl hS hR
    have hlt : i < items.length:=by omega
    obtain ⟨tk, ev⟩:=IntsAre.int_at hi i items[i] (List.getElem?_eq_getElem hlt)
    have hi2 : i < ns.length:=by omega
    have eg : ns.getD i 0 = ns[i]:=by simp [hi2]
    rw [eg] at ev
    refine codeAny_builtin PyProof.Rows.F.entry_set_update_loop ?_
    rw [Around.under_plainId PyProof.Rows.F.plain_set_update_loop _]
    show wpAny _ A.in1 (pyNext (.ref I) >>= _) _ _ s
    refine wpAny_bind (wpAny_pyNext_tuple_item hit hl (x:=items[i]) (by simp [hlt]) fun h' hit' sb=>?_)
    rw [ev]
    show wpAny _ A.in1 (holding [Value.int ns[i] tk] (setAdd S (.int ns[i] tk)) >>= _) _ _ _
    refine wpAny_bind (wpAny_holding ?_)
    unfold setAdd
    refine wpAny_holding (wpAny_bind ((intKind prog w).pyHash (k:=ns[i]) (intKind_is _ _ _ _) ?_))
    have hS' : VB prog w h' S (dd (ns.take i)):=hS.at fun o ho=>(sb.2 S h1).trans ho
    refine EV (s:={ s with heap:=h', toks:=s.toks + 1 }) hS' (by have:=Uw (ns.take i); rw [List.length_take] at this; omega) fun b h2' sb2 hS2=>?_
    rw [← E4, ← List.take_succ_eq_append_getElem hi2] at hS2
    refine wpAny_pure ⟨plainId_quiet PyProof.Rows.F.plain_set_update_loop _, ih (i + 1) _ (by omega) hlt (hit'.at fun o ho=>(sb2.2 I (Ne.symm h1)).trans ho) (hl.at fun o ho=>(sb2.2 l (Ne.symm h2)).trans ((sb.2 l h3).trans ho)) hS2 fun h3' tk' hS3 keep=>?_⟩
    exact hR h3' tk' hS3 fun b o hbS hbI e=>keep b o hbS hbI ((sb2.2 b hbS).trans ((sb.2 b hbI).trans e))
set_option maxHeartbeats 3200000 in
theorem DO {l : Addr} {items : List Value} {ns : List Int} {Q : Value -> Shared -> Prop} (hh : A.handled = none) (hl : s.heap.IsTuple l items.toArray) (hi : IntsAre items ns) (hb : ns.length + 1 < scanBound)
    (h : ∀ h' tk, VB prog w h' s.heap.objs.size (dd ns) -> (∀ b o, s.heap.get? b = some o -> h'.get? b = some o) -> Q (.ref s.heap.objs.size) { s with heap:=h', toks:=tk }) :
    wpAny (model prog w) A (call (.type "set") [.ref l]) Q E s:=by
  obtain ⟨c, tl, hmro⟩:=F.called_set.mro
  have hmade:=F.called_set.made
  have hsub:=F.called_set.sub
  refine wpAny_call (codeAny_of_tree ?_)
  show wpAny _ _ (callAny (.type "set") _) _ _ _
  refine wpAny_pure ⟨Code.quiet_builtin _ (by decide +kernel), codeAny_builtin F.entry_type_call ?_⟩
  rw [Around.under_plain (weight_type_call_type "set" [.ref l] []) rfl]
  have h1:=F.called_set.notType
  have h2:=F.called_set.canCreate
  have hct:=F.typeCall_set_1 (.ref l)
  repeat (any_goals (first | assumption | wp_step))
  generalize hob : ({ cls:=.type "set", dict:=none, data:=.set #[] 0 (.fresh 0 0 (!w.params.followText "set-order")) } : Obj) = ob
  refine codeAny_mono (Cl (.ref l) (E:=E) (Q:=fun obj s₁=>obj = .ref s.heap.objs.size /\ s₁ = { s with heap:=s.heap.push ob }) ⟨rfl, by rw [hob]⟩) fun r s₁ hr=>?_
  cases r with
  | error e=>exact hr
  | ok fl=>
    cases fl with
    | ret obj=>
      obtain ⟨rfl, rfl⟩:=hr
      have hS : (s.heap.push ob).get? s.heap.objs.size = some ob:=Heap.get?_push_size _ (by rw [← hob]; rfl)
      have hT : Shared.TypeIs { s with heap:=s.heap.push ob } (.ref s.heap.objs.size) "set":=⟨_, hS, by rw [← hob]⟩
      have hli:=F.called_set.init.lookup
      have hbi:=F.called_set.init.bind (.ref s.heap.objs.size)
      repeat (any_goals (first | assumption | wp_step))
      refine codeAny_mono (codeAny_call_builtin (R:=wants (fun r s₂=>r = .none /\ ∃ h' tk, s₂ = { s with heap:=h', toks:=tk } /\ VB prog w h' s.heap.objs.size (dd ns) /\ (∀ b o, s.heap.get? b = some o -> h'.get? b = some o)) E) F.called_set.init.plain F.entry_set_init (check_set_init_1 hT ?_)) fun r₂ s₂ hr₂=>?_
      . have hS0 : VB prog w (s.heap.push ob) s.heap.objs.size [] := ⟨_, #[], 0, _, hS, by rw [← hob]; exact ⟨rfl, rfl, rfl⟩, by rw [← hob], ⟨fun e he => by simp at he, ⟨[], .nil, .refl _⟩, by decide, by rfl, .fresh ..⟩⟩
        obtain ⟨ol, hol, hcl, nl, hdl⟩:=hl
        obtain ⟨ocls, odict, odata, oslots⟩:=ol
        simp only at hcl hdl
        subst hcl; subst hdl
        have hol' : (s.heap.push ob).get? l = some { cls:=.type "tuple", dict:=odict, data:=.seq items.toArray nl, slots:=oslots }:=Heap.get?_push_of_some _ hol
        have hsls:=F.sub_tuple_set
        have hslf:=F.sub_tuple_frozenset
        have hne : (Value.type "tuple" == Value.type "dict") = false:=by decide
        have hl1 : (s.heap.push ob).IsTuple l items.toArray:=⟨_, hol', rfl, nl, rfl⟩
        subst hob
        unfold Builtin.«set.__init__» noKeywords Builtin.Frozenset.updateFrom
        generalize hPI : pyIter = PI
        wp_walk
        subst hPI
        refine wpAny_pyIter_tuple hl1 ?_
        refine wpAny_bind (wpAny_runValue ?_)
        have hlS : l < s.heap.objs.size:=Heap.lt_size hol
        generalize hob : ({ cls:=.type "set", dict:=none, data:=.set #[] 0 (.fresh 0 0 (!w.params.followText "set-order")) } : Obj) = ob at *
        have hI : (s.heap.push ob).objs.size = s.heap.objs.size + 1:=Heap.size_push ..
        refine Br (ns:=ns) (l:=l) (by simp [hh]) hi hb (by rw [hI]; exact Nat.ne_of_lt (Nat.lt_succ_self _)) (Nat.ne_of_gt hlS) (by rw [hI]; exact Nat.ne_of_lt (Nat.lt_succ_of_lt hlS)) (items.length - 0) 0 _ rfl (Nat.zero_le _)
          ⟨_, Heap.get?_push_size _ rfl, rfl, rfl⟩ (hl1.push _) (hS0.at fun o ho=>Heap.get?_push_of_some _ ho) fun h' tk hS' keep=>?_
        show wpAny _ _ _ _ _ _
        refine wpAny_pure ?_
        show wpAny _ _ (ret Value.none) _ _ _
        exact wpAny_pure ⟨rfl, h', tk, rfl, hS', fun b o e=>keep b o (Nat.ne_of_lt (Heap.lt_size e)) (by rw [hI]; exact Nat.ne_of_lt (Nat.lt_succ_of_lt (Heap.lt_size e))) (Heap.get?_push_of_some _ (Heap.get?_push_of_some _ e))⟩
      . cases r₂ with
        | error e=>exact hr₂
        | ok fl₂=>
          cases fl₂ with
          | ret r=>
            obtain ⟨rfl, h', tk, rfl, hS', hk'⟩:=hr₂
            repeat (any_goals (first | assumption | wp_step))
            exact h _ _ hS' hk'
          | _=>exact hr₂.elim
    | _=>exact hr.elim
end
section
variable {X : Cx}
noncomputable def DR (K : PySem.W.Frag) (P : Program) (w : World) : List V -> Hp -> VK -> Prop:=fun xs H Q=>∃ l ns, xs = [.ref l] /\ SqT K H l (ns.map V.int) /\ ns.length < 64 /\ ∀ p, H p = none -> Q (.ref p) (upd H p (IC P w p (dd ns)))
theorem V8 (K : PySem.W.Frag) (hK : X.K = K) (hc : X.calm = true) : Zk X (.type "set") (DR K X.prog X.w):=by
  subst hK
  intro pins s σ H xs us Q I r h
  obtain ⟨l, ns, rfl, hq, h64, q⟩:=h
  obtain ⟨u, rfl, ru⟩:=JO r
  cases ru
  obtain ⟨its, rv, pl, hz⟩:=I.tuple hq
  refine DO (I.ok.hd hc) pl (K1 rv) (by have : scanBound = 4096:=rfl; omega) fun h' tk hS old=>?_
  have hfr : H s.heap.objs.size = none:=I.hok.fresh (Nat.le_refl _)
  refine ⟨.ref s.heap.objs.size, _, I.laid (t':=tk) old (Nat.le_refl _) (show Yz X.prog X.w _ _ _ (IC X.prog X.w s.heap.objs.size (dd ns)) from ⟨hS, ?_, fun h1 h2 x k=>x.at k⟩), rfl, q _ hfr⟩
  obtain ⟨o, _, _, _, ho, _⟩:=hS
  exact ⟨o, ho⟩
noncomputable def Hn (P : Program) (w : World) : List V -> Hp -> VK -> Prop:=fun xs H Q=>∃ l ns, xs = [.ref l] /\ H l = some (IC P w l ns) /\ ns.length < 64 /\ Q (.int ns.length) H
theorem VU : Zk X (.builtin "len") (Hn X.prog X.w):=by
  intro pins s σ H xs us Q I r h
  obtain ⟨l, ns, rfl, he, h64, q⟩:=h
  obtain ⟨u, rfl, ru⟩:=JO r
  cases ru
  have hS : VB X.prog X.w s.heap l ns:=(show Yz X.prog X.w H s.heap l (IC X.prog X.w l ns) from I.hok l _ he).1
  obtain ⟨o, es, ep, t, ho, hex, hd, c⟩:=hS
  have hl:=c.len
  exact call_len_set ho hex hd c.fit (by omega) ⟨.int ns.length, H, I.tok _, ⟨_, by rw [hl]⟩, q⟩
noncomputable def Ig (K : PySem.W.Frag) : List V -> Hp -> VK -> Prop:=fun xs H Q=>∃ (a : Addr) (bs : List Bool), xs = [.ref a] /\ SqL K H a (bs.map V.bl) /\ Q (.bl (bs.any id)) H
theorem Ir (bs : List Bool) : ((List.range bs.length).any fun i=>(bs[i]?).getD true) = bs.any id:=by
  rw [Bool.eq_iff_iff, List.any_eq_true, List.any_eq_true]
  constructor
  . rintro ⟨i, hi, h⟩
    have hi':=List.mem_range.mp hi
    exact ⟨bs[i], List.getElem_mem hi', by simpa [List.getElem?_eq_getElem hi'] using h⟩
  . rintro ⟨b, hb, h⟩
    obtain ⟨i, hi, rfl⟩:=List.getElem_of_mem hb
    exact ⟨i, List.mem_range.mpr hi, by simpa [List.getElem?_eq_getElem hi] using h⟩
theorem Ff (hc : X.calm = true) : Zk X (.builtin "any") (Ig X.K):=by
  intro pins s σ H xs us Q I r h
  obtain ⟨a, bs, rfl, hq, q⟩:=h
  obtain ⟨u, rfl, ru⟩:=JO r
  cases ru
  obtain ⟨its, rv, pl, hz⟩:=I.list hq
  have hlen : bs.length = its.length:=by have:=rv.length; rwa [List.length_map] at this
  have hlt : a < s.heap.objs.size:=by obtain ⟨o, n, ho, _⟩:=pl; exact Heap.lt_size ho
  refine call_any_walk (wpAny_pyIter_list pl.isList ?_)
  refine ⟨s.heap.objs.size, [s.heap.objs.size, a], [s.heap.objs.size], its.toArray.size, _, _, fun i=>(bs[i]?).getD true, rfl, Walks.list (A:=X.A.in1) (I.ok.hd hc) _ a (Nat.ne_of_lt hlt) its.toArray,
    ⟨⟨_, Heap.get?_push_size _ rfl, rfl, rfl⟩, pl.isList.at fun o e=>Heap.get?_push_of_some _ e⟩, fun i v s' Q' E' hP hQ=>?_, fun h' tk hk=>?_⟩
  . have hv' : its[i]? = some v := by simpa using hP
    obtain ⟨x, ex, rx⟩:=U2 rv hv'
    rw [List.getElem?_map] at ex
    cases e : bs[i]? with
    | none=>rw [e] at ex; cases ex
    | some z=>
      rw [e] at ex
      have ex' : V.bl z = x:=Option.some.inj ex
      subst ex'
      cases rx
      simp only [e, Option.getD_some] at hQ
      exact wpAny_truthy_bool hQ
  . have e : ((List.range its.toArray.size).any fun i=>(bs[i]?).getD true) = bs.any id:=by
      rw [List.size_toArray, ← hlen]; exact Ir bs
    rw [e]
    have I2 : Inv X pins σ H { s with heap:=h', toks:=tk }:=I.kept (t':=tk) fun b o e=>hk b o (fun hm=>by
      rw [List.mem_singleton.mp hm] at e
      exact absurd (Heap.lt_size e) (Nat.lt_irrefl _)) (Heap.get?_push_of_some _ e)
    exact ⟨.bl (bs.any id), H, I2, rfl, q⟩
end
end L2
namespace L2
open PySem PySem.Spec PyProof.Rows
section
variable {K : PySem.W.Frag} {Er : Exc -> Hp -> Prop} {S : SC} {OO OO' : List (List XA)} {σ : St} {α β γ : Type}
theorem Kk {P : Program} {w0 : World} {ta : TE} {ma : Res (List Int)} (ha : EvB K Er S OO σ ta (rPL Xa) ma) : EvB K Er S OO σ (tCB (Hn P w0) (XG (tCB (DR K P w0) (XG ta ZB)) ZB)) Xa (ma.bind fun as=>chk (as.length < 64) (.ok ((dd as).length : Int))):=fun H Q w s Pz=>
  ha.run w s FB.tr Pz fun as x H1 s1 w1 q1 ⟨p, xs, e, q, pr⟩ P1=>by
    obtain ⟨hl, P2⟩:=PZ.chk P1
    have P3 : FB K Xa Q ((dd as).length : Int) H1:=P2
    refine ⟨p, as, by rw [e], SqT.of (by rw [← Z9 pr]; exact q), hl, fun S hS=>?_⟩
    exact ⟨S, dd as, rfl, Yb, Nat.lt_of_le_of_lt (Uw as) hl, P3 _ _ (XF hS _) rfl⟩
theorem B9 {ta : TE} {ma : Res (List Bool)} (ha : EvB K Er S OO σ ta (rV XC) ma) : EvB K Er S OO σ (tCB (Ig K) (XG ta ZB)) XC (ma.bind fun a=>.ok (a.any id)):=fun H Q w s P=>
  ha.run w s FB.tr P fun a x H1 s1 w1 q1 ⟨p, xs, e, q, pr⟩ P1=>⟨p, a, by rw [e], by rw [← ZW pr]; exact SqL.of q, P1 _ H1 (Xx.refl _) rfl⟩
end
end L2
namespace L2
open PySem PySem.Spec PyProof.Rows
section
variable {X : Cx} {α : Type} {r : Enc α} {lt : α -> α -> Bool} {d : Nat}
end
section
variable {K : PySem.W.Frag} {Er : Exc -> Hp -> Prop} {S : SC} {OO OO' : List (List XA)} {σ : St} {α : Type}
end
end L2
namespace L2
open PySem PySem.Spec PyProof.Rows
section
variable {X : Cx} {pins : List (Addr × Obj)} {σ : St} {H : Hp} {s0 : Shared}
noncomputable def Zz (acc kvs : List (List Key × V)) : List (List Key × V):=kvs.foldl (fun a p=>Q5 a p.1 p.2) acc
theorem Ua (kvs : List (List Key × V)) (k : List Key) (v : V) : (Q5 kvs k v).length <= kvs.length + 1:=by
  unfold Q5
  split <;> simp
theorem JU : ∀ (kvs acc : List (List Key × V)), (Zz acc kvs).length <= acc.length + kvs.length
  | [], acc=>by simp [Zz]
  | p :: kvs, acc=>by
    have h1:=JU kvs (Q5 acc p.1 p.2)
    have h2:=Ua acc p.1 p.2
    show (Zz (Q5 acc p.1 p.2) kvs).length <= _
    rw [List.length_cons]
    omega
noncomputable def Dg (X : Cx) (g : Heap) (d : Addr) (xs : List (List Key × Addr × Value)) : Prop:=∃ o es ep, g.get? d = some o /\ o.ExactDict /\ o.data = .dict es ep /\ es.toList = xs.map (entryOfKey (tupleKind (Yr X.prog X.w))) /\ (xs.map (·.1)).Nodup
theorem Dg.h {g : Heap} {tk : Nat} {d : Addr} {acc : List (List Key × V)} {xs : List (List Key × Addr × Value)} (D : Dg X g d xs) (I : Inv X pins σ H { s0 with heap:=g, toks:=tk }) (r : KT H acc xs) : g.DictOfH (tupleKind (Yr X.prog X.w)) d xs:=by
  obtain ⟨o, es, ep, h1, h2, h3, h4, h5⟩:=D
  refine ⟨o, es, ep, h1, h2, h3, h4, fun x hx=>?_, h5⟩
  have all : ∀ {l : List (List Key × V)} {m : List (List Key × Addr × Value)}, KT H l m -> ∀ x ∈ m, (tupleKind (Yr X.prog X.w)).is g x.1 x.2.1:=by
    intro l m q
    induction q with
    | nil=>intro x hx; exact nomatch hx
    | @cons p q ps qs hq t ih=>
      intro x hx
      rcases List.mem_cons.mp hx with e | hx
      . subst e
        exact Vg I.hok (by rw [← hq.1]; exact hq.2.1)
      . exact ih x hx
  exact all r x hx
theorem Dg.of {g : Heap} {d : Addr} {xs : List (List Key × Addr × Value)} (D : g.DictOfH (tupleKind (Yr X.prog X.w)) d xs) : Dg X g d xs:=by
  obtain ⟨o, es, ep, h1, h2, h3, h4, _, h5⟩:=D
  exact ⟨o, es, ep, h1, h2, h3, h4, h5⟩
theorem Dg.at {g g' : Heap} {d : Addr} {xs : List (List Key × Addr × Value)} (D : Dg X g d xs) (k : ∀ o, g.get? d = some o -> g'.get? d = some o) : Dg X g' d xs:=by
  obtain ⟨o, es, ep, h1, r⟩:=D
  exact ⟨o, es, ep, k o h1, r⟩
noncomputable def IN (K : PySem.W.Frag) (H : Hp) (ps : List V) (kvs : List (List Key × V)) : Prop:=Paired (fun p (kv : List Key × V)=>∃ t b, p = .ref t /\ SqT K H t [.ref b, kv.2] /\ H b = some (.tup (kv.1.map kV))) ps kvs
theorem Hx (I0 : Inv X pins σ H s0) {A : Around} {R : Result -> Shared -> Prop} (hh : A.in1.handled = none) (hu : A.units + 1 < cLine) {d I l : Addr} (hdI : d ≠ I) (hI0 : s0.heap.objs.size <= I) (hd0 : s0.heap.objs.size <= d) {its : List Value} {ps : List V} {kvs : List (List Key × V)} (rv : X5 ps its) (pr : IN X.K H ps kvs) (hl0 : s0.heap.IsList l its.toArray) :
    ∀ (k i : Nat) (g : Heap) (tk : Nat) (acc : List (List Key × V)) (xs : List (List Key × Addr × Value)), its.length - i = k -> i <= its.length -> g.IsListIter I l i -> (∀ b o, s0.heap.get? b = some o -> g.get? b = some o) -> KT H acc xs -> Dg X g d xs -> acc.length + its.length <= sizeLine + i ->
    (∀ g tk xs, KT H (Zz acc (kvs.drop i)) xs -> Dg X g d xs -> (∀ b o, s0.heap.get? b = some o -> g.get? b = some o) -> R (.ok (.ret .none)) { s0 with heap:=g, toks:=tk }) ->
    codeAny (model X.prog X.w) A (.builtin "dict.update.loop" ⟨[.ref d, .ref I, rawInt i, .none], []⟩) R { s0 with heap:=g, toks:=tk }:=by
  have hlen : kvs.length = its.length:=by rw [← Paired.len pr]; exact rv.length
  intro k
  induction k with
  | zero=>
    intro i g tk acc xs hk hi it kp r D hz q
    refine codeAny_builtin Ju ?_
    rw [Around.under_plainId ZH _]
    show wpAny _ A.in1 (pyNext (.ref I) >>= _) _ _ _
    refine wpAny_bind (wpAny_pyNext_list_end (s:={ s0 with heap:=g, toks:=tk }) hh it (hl0.at fun o e=>kp _ _ e) (by simp; omega) fun g2 hx=>?_)
    show wpAny _ _ (Builtin.Dict.addKeywords d [] >>= fun _=>ret Value.none) _ _ _
    rw [List.drop_eq_nil_of_le (by omega)] at q
    exact wpAny_bind (wpAny_pure (wpAny_pure (q g2 tk xs r (D.at fun o e=>hx d o hdI e) fun b o e=>hx b o (Nat.ne_of_lt (Nat.lt_of_lt_of_le (Heap.lt_size e) hI0)) (kp b o e))))
  | succ k ih=>
    intro i g tk acc xs hk hi it kp r D hz q
    have lt : i < its.length:=by omega
    refine codeAny_builtin Ju ?_
    rw [Around.under_plainId ZH _]
    show wpAny _ A.in1 (pyNext (.ref I) >>= _) _ _ _
    refine wpAny_bind (wpAny_pyNext_list_item (s:={ s0 with heap:=g, toks:=tk }) it (hl0.at fun o e=>kp _ _ e) (x:=its[i]) (by simp [lt]) fun g2 it' hx=>?_)
    have lt2 : i < kvs.length:=by omega
    have kp2 : ∀ b o, s0.heap.get? b = some o -> g2.get? b = some o:=fun b o e=>hx.extBut b o (Nat.ne_of_lt (Nat.lt_of_lt_of_le (Heap.lt_size e) hI0)) (kp b o e)
    have I2 : Inv X pins σ H { s0 with heap:=g2, toks:=tk }:=I0.kept kp2
    obtain ⟨x, ex, rx⟩:=Paired.getR (i:=i) (b:=its[i]) rv (by simp [lt])
    obtain ⟨kv, ek, t, b, rfl, ht, hb⟩:=Paired.getL pr ex
    have ekv : kvs[i] = kv:=(List.getElem?_eq_some_iff.mp ek).2
    have et : its[i] = .ref t:=rx
    obtain ⟨i2, v2, tp, _⟩:=I2.tuple ht
    obtain ⟨key, val, rfl, e1, e2⟩:=X5.two v2
    have e1' : key = .ref b:=e1
    subst e1'
    obtain ⟨o, ho, hc, n, hdt⟩:=id tp
    rw [et]
    show wpAny _ _ (holding [Value.ref t] _ >>= fun _=>again (.builtin "dict.update.loop" ⟨[.ref d, .ref I, rawInt ((i : Int) + 1), .none], []⟩)) _ _ _
    refine wpAny_bind (wpAny_holding ?_)
    refine wpAny_bind (wpAny_tryCatch ?_)
    unfold Builtin.Dict.pairItems
    refine wpAny_bind (wpAny_typeOf (s:={ s0 with heap:=g2, toks:=tk }) ⟨o, ho, hc⟩ ?_)
    rw [if_pos (by decide)]
    refine wpAny_bind (wpAny_seqItems (s:={ s0 with heap:=g2, toks:=tk }) ho hdt (wpAny_pure ?_))
    show wpAny _ _ (holding [Value.ref b, val] (dictSet d (.ref b) val)) _ _ _
    have D2 : Dg X g2 d xs:=D.at fun o e=>hx.extBut d o hdI e
    have hxl : xs.length = acc.length:=(Paired.length r).symm
    refine wpAny_holding (wpAny_dictSet_heap (s:={ s0 with heap:=g2, toks:=tk }) (tupleKind_room_in1 hu) (Vg I2.hok hb) (D2.h I2 r) (fun g3 hd3 hx3=>?_) (by omega))
    refine wpAny_pure ⟨plainId_quiet ZH _, ?_⟩
    have kp3 : ∀ b o, s0.heap.get? b = some o -> g3.get? b = some o:=fun b o e=>(hx3.2 b (Nat.ne_of_lt (Nat.lt_of_lt_of_le (Heap.lt_size e) hd0))).trans (kp2 b o e)
    refine ih (i + 1) g3 _ (Q5 acc kv.1 kv.2) _ (by omega) (by omega) (it'.extBut hx3.extBut (fun e=>hdI e.symm)) kp3 (r.put kv.1 hb e2) (Dg.of hd3) ?_ ?_
    . have := Ua acc kv.1 kv.2
      omega
    . rw [List.drop_eq_getElem_cons lt2, ekv] at q
      exact q
noncomputable def BE (K : PySem.W.Frag) : List V -> Hp -> VK -> Prop:=fun xs H Q=>∃ l ps kvs, xs = [.ref l] /\ SqL K H l ps /\ IN K H ps kvs /\ ∀ d, H d = none -> Q (.ref d) (upd H d (.dT (Zz [] kvs)))
theorem Gs (K : PySem.W.Frag) (hK : X.K = K) (hc : X.calm = true) (hu : X.A.units + 4 < cLine) : Zk X (.type "dict") (BE K):=by
  subst hK
  intro pins s σ H xs us Q I rr h
  obtain ⟨l, ps, kvs, rfl, hq, hp, q⟩:=h
  obtain ⟨u, rfl, ru⟩:=JO rr
  cases ru
  obtain ⟨its, rv, ⟨o, n, ho, hcl, hdn, hdat⟩, hz⟩:=I.list hq
  have hlen : kvs.length = its.length:=by rw [← Paired.len hp]; exact rv.length
  have hpl:=rv.length
  refine callType_codes (Q₁:=fun obj s₁=>obj = .ref s.heap.objs.size /\ s₁ = { s with heap:=s.heap.push { cls:=.type "dict", data:=.dict #[] } }) F.kt_called_dict (F.kt_typeCall_dict_1 _) F.entry_dict_init (kt_code_dict_new _ ⟨rfl, rfl⟩) ?_
  rintro obj s₁ ⟨rfl, rfl⟩
  have hT : Shared.TypeIs { s with heap:=s.heap.push { cls:=.type "dict", data:=.dict #[] } } (.ref s.heap.objs.size) "dict":=⟨_, Heap.get?_push_size _ rfl, rfl⟩
  have hx1 : (s.heap.push { cls:=.type "dict", data:=.dict #[] }).get? l = some o:=Heap.get?_push_of_some _ ho
  refine ⟨hT, F.args_dict_init_2 _ _, ?_⟩
  unfold Builtin.«dict.__init__»
  refine wpAny_bind ?_
  unfold Builtin.Dict.selfAndRest
  refine wpAny_bind (wpAny_notOrdered_dict hT ?_)
  show wpAny _ _ (pure (s.heap.objs.size, [Value.ref l])) _ _ _
  refine wpAny_pure ?_
  show wpAny _ _ (Builtin.Dict.updateFrom "dict.__init__" s.heap.objs.size (.ref l) [] .none) _ _ _
  unfold Builtin.Dict.updateFrom
  refine wpAny_bind (wpAny_typeOf ⟨o, hx1, hcl⟩ ?_)
  rw [if_pos (by decide)]
  have hh : X.A.handled = none:=I.ok.hd hc
  refine wpAny_bind (Bt hx1 hcl hdat hdn hh fun g tk kp=>?_)
  rw [if_pos (show (none : Option Value).isNone = true from rfl)]
  refine wpAny_bind (wpAny_rule ?_)
  have hlg : g.IsList l its.toArray:=⟨o, kp _ _ hx1, hcl, n, hdat⟩
  have hd0 : g.get? s.heap.objs.size = some { cls:=.type "dict", data:=.dict #[] }:=kp _ _ (Heap.get?_push_size _ rfl)
  have hdlt : s.heap.objs.size < g.objs.size:=Heap.lt_size hd0
  have hll : s.heap.IsList l its.toArray:=⟨o, ho, hcl, n, hdat⟩
  refine wpAny_bind (wpAny_pyIter_list (s:={ s with heap:=g, toks:=tk }) hlg ?_)
  refine wpAny_pure ⟨plainId_quiet ZH _, ?_⟩
  refine Hx I (show X.A.in1.in1.handled = none from hh) (by rw [ZY]; omega) (d:=s.heap.objs.size) (I:=g.objs.size) (l:=l) (Nat.ne_of_lt hdlt) (Nat.le_of_lt hdlt) (Nat.le_refl _) rv hp hll its.length 0 _ tk [] [] rfl (Nat.zero_le _) ⟨_, Heap.get?_push_size _ rfl, rfl, rfl⟩ (fun b u e=>Heap.get?_push_of_some _ (kp _ _ (Heap.get?_push_of_some _ e))) .nil ?_ (by simp; omega) ?_
  . exact ⟨_, #[], _, Heap.get?_push_of_some _ hd0, ⟨rfl, rfl, rfl⟩, rfl, rfl, List.nodup_nil⟩
  . intro g2 tk2 xs2 r2 D2 kp2
    obtain ⟨o2, es, ep, h1, h2, h3, h4, h5⟩:=D2
    have hfr : H s.heap.objs.size = none:=I.hok.fresh (Nat.le_refl _)
    rw [List.drop_zero] at r2
    have hkl:=JU kvs []
    refine ⟨rfl, .ref s.heap.objs.size, _, I.laid (t':=tk2) kp2 (Nat.le_refl _) (show Yz X.prog X.w _ g2 _ (.dT (Zz [] kvs)) from ⟨?_, beq_eq_false_iff_ne.mpr (Ne.symm (Nat.ne_of_lt I.big)), xs2, r2.keeps fun b ys hb=>?_, o2, es, ep, h1, h2, h3, h4, h5⟩), rfl, q _ hfr⟩
    . simp at hkl; omega
    . rw [XT (Yi hb hfr)]; exact hb
end
end L2
namespace L2
open PySem PySem.Spec PyProof.Rows
section
variable {K : PySem.W.Frag} {Er : Exc -> Hp -> Prop} {S : SC} {OO OO' : List (List XA)} {σ : St} {α β γ : Type}
noncomputable def Vs (acc ps : List (List Int × α)) : List (List Int × α):=ps.foldl (fun a p=>J8 a p.1 p.2) acc
theorem Go {r : Enc α} {h H : Hp} (s : Xx h H) {xs : List V} {ps : List (List Int × α)} (p : Paired (rP2 (rPL Xa) r K h) xs ps) : ∃ kvs, IN K H xs kvs /\ Paired (G7 r K h) kvs ps:=by
  induction p with
  | nil=>exact ⟨[], .nil, .nil⟩
  | @cons v kx xs ps hr t ih=>
    obtain ⟨kvs, h1, h2⟩:=ih
    obtain ⟨a, x, y, rfl, ha, ⟨b, zs, rfl, hb, pz⟩, ry⟩:=hr
    refine ⟨(tk kx.1, y) :: kvs, .cons ⟨a, b, rfl, SqT.of (s _ _ ha), ?_⟩ h1, .cons ⟨rfl, ry⟩ h2⟩
    rw [Bj, ← Z9 pz]
    exact s _ _ hb
theorem VJ {r : Enc α} {h : Hp} {kvs : List (List Key × V)} {ps : List (List Int × α)} (p : Paired (G7 r K h) kvs ps) : ∀ {acc : List (List Key × V)} {d : List (List Int × α)}, Paired (G7 r K h) acc d -> Paired (G7 r K h) (Zz acc kvs) (Vs d ps):=by
  induction p with
  | nil=>intro acc d h; exact h
  | @cons kv kx kvs ps hr t ih=>
    intro acc d h
    show Paired _ (Zz (Q5 acc kv.1 kv.2) kvs) (Vs (J8 d kx.1 kx.2) ps)
    rw [hr.1]
    exact ih (JZ hr.2 h)
theorem CG {ta : TE} {r : Enc α} [z : MonoE r] {ma : Res (List (List Int × α))} (ha : EvL K Er S OO σ ta (rP2 (rPL Xa) r) ma) : Ev K Er S OO OO σ (tCB (BE K) (XG ta ZB)) (oDT r) (ma.bind fun ps=>.ok (Vs [] ps)):=fun H Q w s P=>
  ha.run w s FO.tr P fun ps x H1 s1 w1 q1 ⟨p, xs, e, q, pr⟩ P1=>by
    obtain ⟨kvs, h1, h2⟩:=Go (XL (H:=H1) (OO:=OO)) pr
    refine ⟨p, xs, kvs, by rw [e], SqL.of q, h1, fun d hd=>?_⟩
    have hn:=JK (OO:=OO) hd (o:=.dT (Zz [] kvs))
    exact P1 (.ref d) [(d, .dT (Zz [] kvs))] _ (XF hd _) (w1.new hd rfl) hn ⟨d, _, rfl, Paired.imp2 (fun _ _ h=>⟨h.1, z.mono hn h.2⟩) (VJ h2 .nil), rfl⟩
end
end L2
namespace L2
open PySem PySem.Spec PyProof.Rows
section
variable {K : PySem.W.Frag} {Er : Exc -> Hp -> Prop} {S : SC} {OO : List (List XA)} {σ : St} {α1 α2 α3 α4 α5 ρ : Type} {mg : Str -> Option Value} {E : XK}
end
end L2
namespace L2
open PySem PySem.Spec PyProof.Rows
section
variable {X : Cx} {o e : Expr} {es : List Expr} {to : TE} {t : TA} {name : Str} {apos cpos : Pos} {id : String} {r : V -> List V -> Hp -> VK -> Prop}
noncomputable def Lq (r : V -> List V -> Hp -> VK -> Prop) (to : TE) (t : TA) : TE:=fun σ H Q=>to σ H fun x H1=>(∃ p xs, x = .ref p /\ H1 p = some (.tup xs)) /\ t σ H1 fun xs H2=>r x xs H2 Q
theorem Iz (pa : PlainAttrs "tuple") (slot : Slot "tuple" name id) (hty : typeOf (.builtin id) = pure (.type "method_descriptor")) (hm : MtR X id r) (ho : PE X o to) (ha : PA X (e :: es) t)
    (hbase : attributeBase o name X.env (eval o X.env) = eval o X.env:=by rfl)
    (hfew : ((backTo cpos (starEach (e :: es) X.env)).all (fun x=>!x.1) && (backToKw cpos (keywordEach [] X.env)).all (fun x=>x.1.isSome) && decide ((e :: es).length + ([] : List Keyword).length + (if ([] : List Keyword).isEmpty then 0 else 1) < 30)) = true:=by rfl)
    (hline : (apos.endLine == cpos.line) = true:=by rfl) (hs : starEach (e :: es) X.env = (false, eval e X.env) :: starEach es X.env:=by rfl) (hplain : (backTo cpos (starEach es X.env)).any (·.1) = false:=by rfl) :
    PE X (.Call (.Attribute o name apos) (e :: es) [] cpos) (Lq r to t):=by
  intro pins s σ H Q I h
  refine wpAny_Call_method_late hbase hfew hline rfl (thn (ho pins s σ H _ I h) fun v s1 ⟨x, H1, I1, r1, ty, q1⟩=>?_)
  obtain ⟨p, xs, rfl, hp⟩:=ty
  cases r1
  obtain ⟨_, its, _, ob, ho', ⟨hc, hd⟩, n, hdat⟩:=(show Yz X.prog X.w H1 s1.heap p (.tup xs) from I1.hok p _ hp)
  refine ⟨"tuple", id, pa, slot, hty, ⟨ob, ho', hc⟩, fun a e=>by cases e; exact ⟨ob, ho', hd⟩, ?_⟩
  have hA:=ha cpos pins s1 σ H1 _ I1 q1
  rw [hs] at hA ⊢
  refine Calls.callWith_builtin (by show (false || (backTo cpos (starEach es X.env)).any (·.1)) = false; rw [hplain] <;> rfl) (Calls.evalArgs_plain ?_)
  exact thn hA fun us s2 ⟨vs, H2, I2, r2, q2⟩=>hm pins s2 σ H2 (.ref p) vs (.ref p) us Q I2 rfl r2 q2
noncomputable def Fg (K : PySem.W.Frag) : V -> List V -> Hp -> VK -> Prop:=fun x vs H Q=>∃ (p : Addr) (ns : List Int) (n : Int), x = .ref p /\ vs = [.int n] /\ SqT K H p (ns.map V.int) /\ Q (.int (ns.count n : Nat)) H
theorem DZ (K : PySem.W.Frag) (hK : X.K = K) : MtR X "tuple.count" (Fg K):=by
  subst hK
  intro pins s σ H x vs v us Q I rx rv h
  obtain ⟨p, ns, n, rfl, rfl, hq, q⟩:=h
  cases rx
  obtain ⟨u, rfl, ru⟩:=X5.one rv
  obtain ⟨t, rfl⟩:=ru
  obtain ⟨its, rr, ⟨ob, ho, hc, m, hd⟩, hz⟩:=I.tuple hq
  obtain ⟨cls, dict, data, slots⟩:=ob
  simp only at hc hd
  subst hc hd
  have ii:=K1 rr
  refine call_meets F.slot_tuple_count ⟨_, ho, rfl⟩ F.entry_tuple_count (F.args_tuple_count_2 _ _) (SeqAt.tuple_countAt p its.toArray m dict slots (.int n t) (fun w=>match w with | .int k _=>decide (k = n) | _=>false)) ⟨ho, fun y hy=>?_, ?_⟩
  . obtain ⟨k, t', rfl⟩ := ii.all y (by simpa using hy)
    show SeqAt.EqAt X.A.in1 s (Value.int k t') (Value.int n t) (decide (k = n))
    rw [← FI]
    exact SeqAt.EqAt.int_int k t' n t
  . have : ∀ {vs : List Value} {ms : List Int}, IntsAre vs ms -> vs.countP (fun w=>match w with | .int k _=>decide (k = n) | _=>false) = ms.count n:=fun {vs ms} h=>by
      induction h with
      | nil=>rfl
      | cons k t' h ih=>
        rw [List.countP_cons, List.count_cons, ih]
        congr 1
    refine ⟨.int (ns.count n : Nat), H, I.tok _, ?_, q⟩
    rw [← this ii]
    exact ⟨_, rfl⟩
end
section
variable {K : PySem.W.Frag} {Er : Exc -> Hp -> Prop} {S : SC} {OO : List (List XA)} {σ : St}
theorem GG {ta tb : TE} {ma : Res (List Int)} {mb : Res Int} (ha : EvB K Er S OO σ ta (rPL Xa) ma) (hb : EvB K Er S OO σ tb Xa mb) : EvB K Er S OO σ (Lq (Fg K) ta (XG tb ZB)) Xa (ma.bind fun a=>mb.bind fun n=>.ok ((a.count n : Nat) : Int)):=fun H Q w s P=>
  ha.run w s FB.tr P fun a x H1 s1 w1 q1 ⟨p, xs, e, q, pr⟩ P1=>⟨⟨p, xs, e, q⟩, hb.run w1 q1 FB.tr P1 fun n y H2 s2 w2 q2 r2 P2=>⟨p, a, n, e, by rw [show y = .int n from r2], SqT.of (by rw [← Z9 pr]; exact s2 _ _ q), P2 _ H2 (Xx.refl _) rfl⟩⟩
end
end L2
namespace L2
open PySem PySem.Spec PyProof.Rows
section
variable {α β γ δ : Type} {K : PySem.W.Frag} {Er : Exc -> Hp -> Prop} {S : SC} {OO : List (List XA)} {σ : St} {Fd : Ends -> β -> Hp -> Prop} [fd : FdOk Fd] {u : TS}
theorem Eu {ta tb tc : TE} {r : Enc α} {q : Enc γ} {t : Enc δ} [z : MonoE r] [y : MonoE q] [MonoE t] {ma : Res α} {mb : Res γ} {mc : Res δ} {f : α -> γ -> δ -> Res β} (i j k : Nat) (ha : EvS K Er S OO σ ta r ma) (hb : EvS K Er S OO σ tb q mb) (hc : EvS K Er S OO σ tc t mc)
    (hr : ∀ a b c v w x, Sv Er (((S.add K r v a).add K q w b).add K t x c) OO (((σ.set i (some v)).set j (some w)).set k (some x)) u Fd (f a b c)) : Sv Er S OO σ (JL (Ht i j k (XG ta (XG tb (XG tc ZB)))) u) Fd (ma.bind fun a=>mb.bind fun b=>mc.bind fun c=>f a b c):=fun H D w s P=>
  ha.st w s P fun a v1 H1 s1 w1 q1 r1 P1=>hb.st w1 q1 P1 fun b v2 H2 s2 w2 q2 r2 P2=>hc.st w2 q2 P2 fun c v3 H3 s3 w3 q3 r3 P3=>
    ⟨v1, v2, v3, rfl, hr a b c v1 v2 v3 H3 D w3 ⟨⟨⟨q3, z.mono (Xm s3) (z.mono (Xm s2) r1)⟩, y.mono (Xm s3) r2⟩, r3⟩ P3⟩
end
end L2
namespace HT
open PySem PySem.Spec PyProof PyProof.Rows
section
variable {prog : Program} {w : World} {A : Around} {E : Value -> Shared -> Prop} {s : Shared}
theorem Gu (n : Nat) : Builtin.Slice.sliceAdjust none none (-1) (n : Int) = ((n : Int) - 1, -1):=by
  unfold Builtin.Slice.sliceAdjust
  rfl
theorem GN (n : Nat) : Builtin.Slice.slicePlaces ((n : Int) - 1) (-1) (-1) = n:=by
  unfold Builtin.Slice.slicePlaces
  have h1 : ¬ (-1 : Int) > 0:=by omega
  simp only [h1, if_false]
  have e : ((n : Int) - 1 - -1) = n:=by omega
  split <;> simp <;> omega
theorem DI {α β : Type} {f : α -> Option β} {g : α -> β} : ∀ {l : List α}, (∀ a ∈ l, f a = some (g a)) -> l.filterMap f = l.map g
  | [], _=>rfl
  | a :: l, h=>by
    rw [List.filterMap_cons, h a List.mem_cons_self, DI fun x hx=>h x (List.mem_cons_of_mem _ hx)]; rfl
theorem Bi (xs : Array Value) : ((List.range xs.size).filterMap fun (m : Nat)=>xs[(((xs.size : Int) - 1) + (m : Int) * (-1)).toNat]?).toArray = xs.toList.reverse.toArray:=by
  have e : (List.range xs.size).filterMap (fun (m : Nat)=>xs[(((xs.size : Int) - 1) + (m : Int) * (-1)).toNat]?) = (List.range xs.size).map fun m=>xs.toList.reverse.getD m .none:=by
    refine DI fun m hm=>?_
    have hm:=List.mem_range.mp hm
    have e1 : (((xs.size : Int) - 1) + (m : Int) * (-1)).toNat = xs.size - 1 - m:=by omega
    rw [e1, List.getD_eq_getElem?_getD, List.getElem?_reverse (by simpa using hm)]
    have hlt : xs.size - 1 - m < xs.size:=by omega
    simp [hlt]
  rw [e]
  congr 1
  refine List.ext_getElem (by simp) fun i h1 h2=>?_
  simp at h1
  rw [List.getElem_map, List.getElem_range, List.getD_eq_getElem?_getD, List.getElem?_eq_getElem h2]
  rfl
theorem Jb {sl : Addr} {n : Nat} {tk : Tok} {Q : Int × Int × Nat -> Shared -> Prop} (hs : s.heap.IsSliceOf sl .none .none (.int (-1) tk)) (h : Q ((n : Int) - 1, -1, n) s) : wpAny (model prog w) A (Builtin.Slice.sliceApplied (.ref sl) (pure (n : Int))) Q E s:=by
  obtain ⟨os, hos, hcs, hds⟩:=id hs
  unfold Builtin.Slice.sliceApplied Builtin.Slice.sliceFields
  refine wpAny_bind (wpAny_bind (wpAny_field hos hds (x:=.none) rfl (wpAny_bind (wpAny_field hos hds (x:=.none) rfl (wpAny_bind (wpAny_field hos hds (x:=.int (-1) tk) rfl (wpAny_pure ?_)))))))
  refine wpAny_bind (slicePart_int ?_)
  show wpAny _ _ (if ((-1 : Int) == 0) = true then _ else _) _ _ s
  rw [if_neg (by decide)]
  refine wpAny_bind (Qd .none (wpAny_bind (Qd .none (wpAny_bind (wpAny_pure ?_)))))
  show wpAny _ _ (match Builtin.Slice.sliceAdjust none none (-1) (n : Int) with | (lo, hi)=>pure (lo, (-1 : Int), Builtin.Slice.slicePlaces lo hi (-1))) _ _ s
  rw [Gu]
  show wpAny _ _ (pure ((n : Int) - 1, (-1 : Int), Builtin.Slice.slicePlaces ((n : Int) - 1) (-1) (-1))) _ _ s
  rw [GN]
  exact wpAny_pure h
theorem getItem_tuple_rev {t sl : Addr} {items : Array Value} {tk : Tok} {Q : Value -> Shared -> Prop} (ht : IsTup s.heap t items) (hs : s.heap.IsSliceOf sl .none .none (.int (-1) tk))
    (h : Q (.ref s.heap.objs.size) { s with heap:=s.heap.push { cls:=.type "tuple", data:=.seq items.toList.reverse.toArray } })
    (hsz : items.size <= sizeLine) : wpAny (model prog w) A (getItem (.ref t) (.ref sl)) Q E s:=by
  have htake : sizeOk (.seq items.toList.reverse.toArray):=by
    show items.toList.reverse.toArray.size <= sizeLine
    rw [List.size_toArray, List.length_reverse, Array.length_toList]
    exact hsz
  obtain ⟨os, hos, hcs, hds⟩:=id hs
  have hTs : s.TypeIs (.ref sl) "slice":=⟨os, hos, hcs⟩
  unfold getItem
  try with_reducible refine wpAny_holding ?_
  first | refine wpAny_bind (wpAny_pure ?_) | skip
  refine wpAny_bind (wpAny_sequenceKey ht.typeIs (by decide) ?_)
  refine wpAny_bind (wpAny_callSpecial?_slot (name:=Str.ofString "__getitem__") ht.typeIs PyProof.Rows.slot_tuple_getitem
    (wpAny_call_entry PyProof.Rows.slot_tuple_getitem ht.typeIs entry_tuple_getitem ?_ (args_tuple_getitem _ _)))
  show wpAny _ _ (Builtin.Tuple.tupleItemsOf (.ref t) >>= _) _ _ s
  refine wpAny_bind (tupleItemsOf_ ht ?_)
  refine wpAny_bind (wpAny_typeOf hTs ?_)
  rw [if_pos (by decide)]
  refine wpAny_bind (Jb hs ?_)
  show wpAny _ _ (if (((items.size : Int) - 1) == 0 && (-1 : Int) == 1 && items.size == items.size) = true then _ else _) _ _ s
  rw [if_neg (by rw [show ((-1 : Int) == 1) = false from rfl, Bool.and_false, Bool.false_and]; decide), Bi]
  first
    | exact wpAny_bind (m:=Builtin.Tuple.tupleExact _) (wpAny_newObj_type (wpAny_pure ⟨_, rfl, wpAny_pure h⟩) htake)
    | exact wpAny_bind (m:=Builtin.Tuple.tupleExact _) (wpAny_newObj_type (wpAny_bind (wpAny_pure (wpAny_pure ⟨_, rfl, wpAny_pure h⟩))) htake)
    | exact wpAny_bind (wpAny_bind (m:=Builtin.Tuple.tupleExact _) (wpAny_newObj_type (wpAny_pure (wpAny_pure ⟨_, rfl, wpAny_pure h⟩)) htake))
    | exact wpAny_bind (wpAny_bind (m:=Builtin.Tuple.tupleExact _) (wpAny_newObj_type (wpAny_pure ⟨_, rfl, wpAny_pure h⟩) htake))
end
end HT
namespace L2
open PySem PySem.Spec PyProof.Rows
section
variable {X : Cx} {e : Expr} {te : TE}
noncomputable def Io (K : PySem.W.Frag) (te ts : TE) : TE:=fun σ H Q=>te σ H fun x H1=>ts σ H1 fun y H2=>y = .int (-1) /\ ∃ a xs, x = .ref a /\ SqT K H2 a xs /\ ∀ p, H2 p = none -> Q (.ref p) (upd H2 p (.tup xs.reverse))
theorem GE {st : Expr} {ts : TE} {p2 pos : Pos} (K : PySem.W.Frag) (hK : X.K = K) (he : PE X e te) (hst : PE X st ts) : PE X (.Subscript e (.Slice none none (some st) p2) pos) (Io K te ts):=by
  intro pins s σ H Q I h
  subst hK
  refine Subscript_ (thn (he pins s σ H _ I h) fun v s1 ⟨x, H1, I1, r1, q1⟩=>?_)
  refine wpAny_Slice ?_
  rw [evalPart_none]
  refine wpAny_pure ?_
  refine wpAny_pure ?_
  rw [evalPart_some]
  refine thn (hst pins s1 σ H1 _ I1 q1) fun vk s3 ⟨y, H3, I3, r3, ey, a, xs, ex, hx, q⟩=>?_
  subst ey ex
  cases r1
  obtain ⟨t, rfl⟩:=r3
  have I4 : Inv X pins σ H3 { s3 with heap:=s3.heap.push { cls:=.type "slice", data:=.fields #[.none, .none, .int (-1) t] } }:=I3.kept (t':=s3.toks) fun b ob q=>Heap.get?_push_of_some _ q
  obtain ⟨its, r, ht, hz⟩:=I4.tuple hx
  have hlen:=r.length
  have hg : wpAny (model X.prog X.w) X.A (getItem (.ref a) (.ref s3.heap.objs.size)) (EP X pins σ Q) X.xe { s3 with heap:=s3.heap.push { cls:=.type "slice", data:=.fields #[.none, .none, .int (-1) t] } }:=by
    refine HT.getItem_tuple_rev ht (Heap.IsSliceOf.new ..) ?_ (by rw [List.size_toArray]; omega)
    refine ⟨.ref _, _, I4.laid (t':=s3.toks) (o:=.tup xs.reverse) (fun b ob q=>Heap.get?_push_of_some _ q) (Nat.le_refl _) ?_, rfl, q _ (I4.hok.fresh (Nat.le_refl _))⟩
    exact ⟨by rw [List.length_reverse]; exact hz, its.reverse, r.reverse, QE.new _ _⟩
  show wpAny (model X.prog X.w) X.A (subscriptTail e (.Slice none none (some st) p2) (.ref a) (.ref s3.heap.objs.size)) (EP X pins σ Q) X.xe _
  exact tail_any (ops:=[.ref a, .ref s3.heap.objs.size]) ht.typeIs slot_tuple_getitem.lookup hg (by with_unfolding_all rfl)
end
end L2
namespace L2
open PySem PySem.Spec PyProof.Rows
section
variable {α β : Type} {K : PySem.W.Frag} {Er : Exc -> Hp -> Prop} {S : SC} {OO : List (List XA)} {σ : St}
theorem Ku {te ts : TE} {r : Enc α} [z : MonoE r] {m : Res (List α)} {ms : Res Int} (he : EvB K Er S OO σ te (rPL r) m) (hs : EvB K Er S OO σ ts Xa ms) :
    EvB K Er S OO σ (Io K te ts) (rPL r) (m.bind fun as=>ms.bind fun k=>chk (k = -1) (.ok as.reverse)):=fun H Q w s P=>
  he.run w s FB.tr P fun as x H1 s1 w1 q1 ⟨p, xs, e, q, pr⟩ P1=>hs.run w1 q1 FB.tr P1 fun k y H2 s2 w2 q2 r2 P2=>by
    obtain ⟨hn, P3⟩:=PZ.chk P2
    have pr2:=L2.Paired.rev' (Paired.imp2 (G:=r K H2) (fun _ _ h=>z.mono s2 h) pr)
    exact ⟨by rw [show y = .int k from r2, hn], p, xs, e, SqT.of (s2 _ _ q), fun a ha=>P3 _ _ (XF ha _) ⟨a, _, rfl, Yb, Paired.imp2 (fun _ _ h=>z.mono (XF ha _) h) pr2⟩⟩
end
end L2
namespace L2
open PySem PySem.Spec PyProof.Rows
section
variable {α β : Type} {K : PySem.W.Frag} {Er : Exc -> Hp -> Prop} {S : SC} {OO : List (List XA)} {σ : St} {Fd : Ends -> β -> Hp -> Prop} [fd : FdOk Fd] {u : TS}
end
end L2
namespace My
open PySem L2
noncomputable def Yj (a_0 : Int) (a_1 : Int) : Res Unit:=(Res.bind (Res.bind (Res.ok a_1) fun x5=>(Res.bind (Res.ok a_0) fun x6=>(Res.ok (decide (x6 < x5))))) fun x7=>(if x7 = true then Res.bad else (Res.ok ())))
noncomputable def Yx (a_0 : (List Int)) (a_1 : Int) : Res Bool:=(Res.bind (Res.bind (Res.ok a_0) fun x5=>(G3 x5 (fun a3=>(Res.bind (Res.ok (0 : Int)) fun x6=>(Res.bind (Res.ok a3) fun x7=>(if (decide (x6 <= x7)) = true then (Res.bind (Res.ok a_1) fun x8=>(Res.ok (decide (x7 < x8)))) else Res.ok false)))))) fun x9=>(Res.ok (x9.all id)))
noncomputable def X0 (a_0 : (List (List Int))) (a_1 : Int) : Res (List (List Int)):=(Res.bind (Res.ok []) fun a1=>(Res.bind (Res.ok a_0) fun x37=>(Res.bind (forN x37 (a1) (fun g6 a8=>(Res.bind (Res.bind (Res.ok a_1) fun x10=>(QU 0 x10)) fun x34=>(Res.bind (forN x34 (g6) (fun g13 a15=>(Res.bind (Res.bind (Res.bind (Res.ok a15) fun x17=>(Res.bind (Res.ok a8) fun x18=>(Res.ok (!(decide (x17 ∈ x18)))))) fun x19=>(if x19 = true then (Res.bind (Res.bind (Res.ok a8) fun x22=>(Res.bind (Res.bind (Res.bind (Res.ok a15) fun x25=>(Res.bind (Res.ok []) fun x26=>(Res.ok (x25 :: x26)))) fun x24=>(chk (x24.length <= sizeLine) (Res.ok x24))) fun x23=>(UR x22 x23))) fun a27=>(chk (g13.length < sizeLine) ((fun a29=>(Res.ok (a29))) (g13 ++ [a27])))) else (Res.ok (g13)))) fun g31=>(Res.ok (g31))))) fun g32=>(Res.ok (g32)))))) fun g35=>(Res.ok g35))))
noncomputable def YW (a_0 : Int) : Res (List (List Int)):=(Res.bind (Res.bind (Res.bind (Res.ok []) fun x5=>(Res.bind (Res.ok []) fun x6=>(Res.ok (x5 :: x6)))) fun x4=>(chk (x4.length <= sizeLine) (Res.ok x4))) fun a1=>(Res.bind (Res.bind (Res.ok a_0) fun x7=>(QU 0 x7)) fun x22=>(Res.bind (forN x22 (a1) (fun g10 a12=>(Res.bind (Res.bind (Res.ok g10) fun x18=>(Res.bind (Res.ok a_0) fun x19=>(noE (X0 x18 x19)))) fun a14=>(Res.ok (a14))))) fun g20=>(Res.ok g20))))
noncomputable def YK (a_0 : (List (List Int))) (a_1 : (List (List Int))) : Res Unit:=(Res.bind (Res.bind (Res.ok (6 : Int)) fun x10=>(Res.bind (Res.bind (Res.bind (Res.ok a_0) fun x6=>(Res.ok (x6.length : Int))) fun x8=>(Res.bind (Res.bind (Res.ok a_1) fun x7=>(Res.ok (x7.length : Int))) fun x9=>(Res.ok (max x8 x9)))) fun x11=>(noE (Yj x10 x11)))) fun x12=>(Res.ok ()))
noncomputable def XW (a_0 : (List (List Int))) (a_1 : (List (List Int))) (a_2 : (List Int)) (a_3 : Int) (a_4 : Int) : Res Bool:=(Res.bind (Res.bind (Res.bind (Res.ok a_0) fun x3=>(Res.bind (Res.ok a_3) fun x4=>(atR x3 x4))) fun x5=>(Res.bind (Res.ok a_4) fun x6=>(atR x5 x6))) fun a1=>(QW (Res.bind (Res.ok a1) fun x8=>(Res.bind (Res.bind (Res.ok a_2) fun x7=>(Res.ok (x7.length : Int))) fun x9=>(Res.ok (decide (x8 < x9))))) (Res.bind (Res.bind (Res.bind (Res.ok a_1) fun x12=>(Res.bind (Res.bind (Res.ok a_2) fun x10=>(Res.bind (Res.ok a_3) fun x11=>(atR x10 x11))) fun x13=>(atR x12 x13))) fun x16=>(Res.bind (Res.bind (Res.ok a_2) fun x14=>(Res.bind (Res.ok a_4) fun x15=>(atR x14 x15))) fun x17=>(atR x16 x17))) fun x20=>(Res.bind (Res.bind (Res.ok a_2) fun x18=>(Res.bind (Res.ok a1) fun x19=>(atR x18 x19))) fun x21=>(Res.ok (!(decide (x20 = x21))))))))
noncomputable def XX (a_0 : (List Int)) (a_1 : (List ((List Int) × Bool))) : Res Bool:=(Res.bind (Res.bind (Res.bind (Res.bind (Res.bind (Res.ok a_0) fun x2=>(Res.ok (x2.length : Int))) fun x3=>(Res.bind (Res.ok (1 : Int)) fun x4=>(Res.ok (x3 + x4)))) fun x5=>(QU 0 x5)) fun x9=>(G3 x9 (fun a7=>(Res.bind (Res.bind (Res.bind (Res.ok a_0) fun x11=>(Res.bind (Res.ok none) fun x12=>(Res.bind (Res.bind (Res.ok a7) fun x10=>(Res.ok (some x10))) fun x13=>(Res.ok (Qj x11 x12 x13))))) fun x14=>(Res.ok x14)) fun x15=>(Res.bind (Res.ok a_1) fun x16=>(Res.ok (Qg x16 x15).isSome)))))) fun x17=>(Res.ok (x17.any id)))
noncomputable def YV (a_0 : (List Int)) (a_1 : Int) : Res Bool:=(Res.bind (Res.ok (0 : Int)) fun x2=>(Res.bind (Res.ok a_1) fun x3=>(if (decide (x2 <= x3)) = true then (Res.bind (Res.bind (Res.ok a_0) fun x1=>(Res.ok (x1.length : Int))) fun x4=>(Res.ok (decide (x3 < x4)))) else Res.ok false)))
noncomputable def Z8 (a_0 : (List (List Int))) (a_1 : (List (List Int))) (a_2 : ((List Int) × Int × Int)) : Res Bool:=(Res.bind (Res.bind (Res.ok a_2) fun x3=>(Res.ok x3.1)) fun a1=>(Res.bind (Res.bind (Res.ok a_2) fun x6=>(Res.ok x6.2.1)) fun a4=>(Res.bind (Res.bind (Res.ok a_2) fun x9=>(Res.ok x9.2.2)) fun a7=>(Res.bind (orR (Res.bind (Res.bind (Res.ok a1) fun x10=>(chk (x10.length < 64) (Res.ok ((dd x10).length : Int)))) fun x12=>(Res.bind (Res.bind (Res.ok a1) fun x11=>(Res.ok (x11.length : Int))) fun x13=>(Res.ok (!(decide (x12 = x13)))))) (Res.bind (Res.bind (Res.ok a1) fun x16=>(Res.bind (Res.bind (Res.ok a_1) fun x15=>(Res.ok (x15.length : Int))) fun x17=>(noE (Yx x16 x17)))) fun x18=>(Res.ok (!x18)))) fun x19=>(if x19 = true then (Res.ok false) else (QW (Res.bind (Res.ok a1) fun x21=>(Res.bind (Res.ok a4) fun x22=>(noE (YV x21 x22)))) (QW (Res.bind (Res.ok a1) fun x24=>(Res.bind (Res.ok a7) fun x25=>(noE (YV x24 x25)))) (Res.bind (Res.ok a_0) fun x27=>(Res.bind (Res.ok a_1) fun x28=>(Res.bind (Res.ok a1) fun x29=>(Res.bind (Res.ok a4) fun x30=>(Res.bind (Res.ok a7) fun x31=>(noE (XW x27 x28 x29 x30 x31))))))))))))))
noncomputable def Z0 (a_0 : (List (List Int))) (a_1 : (List (List Int))) (a_2 : (List ((List Int) × Int × Int))) : Res Bool:=(Res.bind (Res.bind (Res.ok a_0) fun x2=>(Res.bind (Res.ok a_1) fun x3=>(noE (YK x2 x3)))) fun x4=>(Res.bind (Res.bind (Res.bind (Res.ok a_0) fun x5=>(Res.ok (x5.length : Int))) fun x7=>(Res.bind (Res.bind (Res.ok a_1) fun x6=>(Res.ok (x6.length : Int))) fun x8=>(Res.ok (!(decide (x7 = x8)))))) fun x9=>(if x9 = true then (Res.ok true) else (Res.bind (Res.bind (Res.bind (Res.ok a_2) fun x16=>(Il x16 (fun a14=>(Res.bind (Res.ok a_0) fun x21=>(Res.bind (Res.ok a_1) fun x22=>(Res.bind (Res.ok a14) fun x23=>(noE (Z8 x21 x22 x23)))))) (fun a14=>(Res.bind (Res.bind (Res.ok a14) fun x17=>(Res.ok x17.1)) fun x18=>(Res.bind (Res.ok true) fun x19=>(Res.ok (x18, x19))))))) fun x12=>(Res.ok (Vs [] x12))) fun a10=>(Res.bind (Res.bind (Res.bind (Res.bind (Res.ok a_0) fun x26=>(Res.ok (x26.length : Int))) fun x27=>(noE (YW x27))) fun x31=>(G3 x31 (fun a29=>(Res.bind (Res.ok a29) fun x33=>(Res.bind (Res.ok a10) fun x34=>(noE (XX x33 x34))))))) fun x35=>(Res.ok (x35.all id)))))))
noncomputable def JF (a_0 : (List Int)) (a_1 : Int) : Res Int:=(Res.bind (Res.bind (Res.ok a_1) fun x2=>(Res.bind (Res.bind (Res.ok a_0) fun x1=>(Res.ok (x1.length : Int))) fun x3=>(Res.ok (decide (x2 < x3))))) fun x4=>(if x4 = true then (Res.bind (Res.ok a_0) fun x5=>(Res.bind (Res.ok a_1) fun x6=>(atR x5 x6))) else (Res.bind (Res.ok (5 : Int)) fun a7=>(Res.bind (Res.bind (Res.ok a_0) fun x10=>(Res.bind (Res.ok none) fun x11=>(Res.bind (Res.bind (Res.ok (63 : Int)) fun x9=>(Res.ok (some x9))) fun x12=>(Res.ok (Qj x10 x11 x12))))) fun x39=>(Res.bind (forN x39 (a7) (fun g15 a17=>(Res.bind (Res.bind (Res.bind (Res.bind (Res.bind (Res.ok g15) fun x21=>(Res.bind (Res.ok (48271 : Int)) fun x22=>(V7 x21 x22))) fun x25=>(Res.bind (Res.bind (Res.ok a17) fun x23=>(Res.bind (Res.ok (1000003 : Int)) fun x24=>(QK x23 x24))) fun x26=>(Res.ok (x25 + x26)))) fun x27=>(Res.bind (Res.ok (1 : Int)) fun x28=>(Res.ok (x27 + x28)))) fun x29=>(Res.bind (Res.ok (2147483647 : Int)) fun x30=>(QK x29 x30))) fun a19=>(Res.ok (a19))))) fun g31=>(Res.bind (Res.bind (Res.ok g31) fun x35=>(Res.bind (Res.bind (Res.ok (7919 : Int)) fun x33=>(Res.bind (Res.ok a_1) fun x34=>(V7 x33 x34))) fun x36=>(Res.ok (x35 + x36)))) fun x37=>(Res.bind (Res.ok (1000003 : Int)) fun x38=>(QK x37 x38))))))))
noncomputable def Ks (a_0 : Int) (a_1 : Int) : Res Int:=(Res.bind (Res.bind (Res.bind (Res.bind (Res.bind (Res.bind (Res.ok a_0) fun x3=>(Res.bind (Res.ok (2147483629 : Int)) fun x4=>(QK x3 x4))) fun x7=>(Res.bind (Res.bind (Res.ok (1013 : Int)) fun x5=>(Res.bind (Res.ok a_1) fun x6=>(V7 x5 x6))) fun x8=>(Res.ok (x7 + x8)))) fun x9=>(Res.bind (Res.ok (7919 : Int)) fun x10=>(Res.ok (x9 + x10)))) fun x11=>(Res.bind (Res.ok (3 : Int)) fun x12=>(HE x11 x12))) fun x13=>(Res.bind (Res.ok (2147483647 : Int)) fun x14=>(QK x13 x14))) fun a1=>(Res.bind (Res.bind (Res.bind (Res.bind (Res.bind (Res.ok a1) fun x17=>(Res.bind (Res.ok (40699 : Int)) fun x18=>(V7 x17 x18))) fun x23=>(Res.bind (Res.bind (Res.bind (Res.ok (3793 : Int)) fun x19=>(Res.bind (Res.ok a_1) fun x20=>(V7 x19 x20))) fun x21=>(Res.bind (Res.ok a_1) fun x22=>(V7 x21 x22))) fun x24=>(Res.ok (x23 + x24)))) fun x25=>(Res.bind (Res.ok (11 : Int)) fun x26=>(Res.ok (x25 + x26)))) fun x27=>(Res.bind (Res.ok (2147483399 : Int)) fun x28=>(QK x27 x28))) fun a15=>(Res.bind (Res.ok a15) fun x29=>(Res.bind (Res.ok (101 : Int)) fun x30=>(Hb x29 x30)))))
noncomputable def Jd (a_0 : (List Int)) (a_1 : Int) (a_2 : (List Int)) : Res (List Int):=(Res.bind (Res.bind (Res.ok a_0) fun x4=>(Res.bind (Res.ok a_1) fun x5=>(noE (JF x4 x5)))) fun a1=>(Res.bind (Res.ok a1) fun a6=>(Res.bind (Res.ok []) fun a8=>(Res.bind (Res.bind (Res.bind (Res.ok a_2) fun x11=>(Res.ok (x11.length : Int))) fun x12=>(QU 0 x12)) fun x81=>(Res.bind (forN x81 (a8, a6) (fun g15 a17=>(Res.bind (Res.bind (Res.bind (Res.ok a1) fun x21=>(Res.bind (Res.bind (Res.ok (10 : Int)) fun x19=>(Res.bind (Res.ok (18 : Int)) fun x20=>(HE x19 x20))) fun x22=>(Res.ok (decide (x21 < x22))))) fun x23=>(if x23 = true then (Res.bind (Res.bind (Res.bind (Res.ok a1) fun x27=>(Res.bind (Res.ok a17) fun x28=>(noE (Ks x27 x28)))) fun x31=>(Res.bind (Res.bind (Res.ok a_2) fun x29=>(Res.bind (Res.ok a17) fun x30=>(atR x29 x30))) fun x32=>(QK x31 x32))) fun a33=>(chk (g15.1.length < sizeLine) ((fun a35=>(Res.ok (a35, g15.2))) (g15.1 ++ [a33])))) else (Res.bind (Res.bind (Res.bind (Res.ok g15.2) fun x36=>(Res.bind (Res.ok (0 : Int)) fun x37=>(Res.ok (decide (x37 < x36))))) fun x38=>(if x38 = true then (Res.bind (Res.bind (Res.ok g15.2) fun x43=>(Res.bind (Res.bind (Res.ok a_2) fun x41=>(Res.bind (Res.ok a17) fun x42=>(atR x41 x42))) fun x44=>(QK x43 x44))) fun a45=>(chk (g15.1.length < sizeLine) ((fun a47=>(Res.bind (Res.bind (Res.ok g15.2) fun x52=>(Res.bind (Res.bind (Res.ok a_2) fun x50=>(Res.bind (Res.ok a17) fun x51=>(atR x50 x51))) fun x53=>(Hb x52 x53))) fun a48=>(Res.ok (a48, a47)))) (g15.1 ++ [a45])))) else (Res.bind (Res.bind (Res.ok a_0) fun x63=>(Res.bind (Res.bind (Res.bind (Res.bind (Res.ok a_1) fun x57=>(Res.bind (Res.ok (1 : Int)) fun x58=>(Res.ok (x57 + x58)))) fun x59=>(Res.bind (Res.ok a17) fun x60=>(Res.ok (x59 + x60)))) fun x61=>(Res.bind (Res.ok (63 : Int)) fun x62=>(QK x61 x62))) fun x64=>(noE (JF x63 x64)))) fun a54=>(Res.bind (Res.bind (Res.bind (Res.ok a54) fun x66=>(Res.bind (Res.ok a17) fun x67=>(noE (Ks x66 x67)))) fun x70=>(Res.bind (Res.bind (Res.ok a_2) fun x68=>(Res.bind (Res.ok a17) fun x69=>(atR x68 x69))) fun x71=>(QK x70 x71))) fun a72=>(chk (g15.1.length < sizeLine) ((fun a74=>(Res.ok (g15.2, a74))) (g15.1 ++ [a72]))))))) fun g76=>(Res.ok (g76.2, g76.1))))) fun g78=>(Res.ok (g78.1, g78.2))))) fun g79=>(Res.ok g79.1))))))
noncomputable def Zi (a_0 : Int) (a_1 : Int) (a_2 : Int) (a_3 : Int) (a_4 : Int) : Res Int:=(Res.bind (Res.bind (Res.ok a_1) fun x3=>(Res.bind (Res.ok (2 : Int)) fun x4=>(Hb x3 x4))) fun a1=>(Res.bind (Res.bind (Res.ok a_0) fun x5=>(Res.bind (Res.ok (1 : Int)) fun x6=>(Res.ok (decide (x5 = x6))))) fun x7=>(if x7 = true then (Res.bind (Res.bind (Res.bind (Res.ok (2 : Int)) fun x8=>(Res.bind (Res.ok a_4) fun x9=>(V7 x8 x9))) fun x10=>(Res.bind (Res.ok a_3) fun x11=>(Res.ok (x10 - x11)))) fun x12=>(Res.bind (Res.ok a_1) fun x13=>(QK x12 x13))) else (Res.bind (Res.bind (Res.ok a_0) fun x14=>(Res.bind (Res.ok (2 : Int)) fun x15=>(Res.ok (decide (x14 = x15))))) fun x16=>(if x16 = true then (Res.bind (Res.bind (Res.bind (Res.ok a_2) fun x17=>(Res.bind (Res.ok a_3) fun x18=>(V7 x17 x18))) fun x23=>(Res.bind (Res.bind (Res.bind (Res.ok (1 : Int)) fun x19=>(Res.bind (Res.ok a_2) fun x20=>(Res.ok (x19 - x20)))) fun x21=>(Res.bind (Res.ok a_4) fun x22=>(V7 x21 x22))) fun x24=>(Res.ok (x23 + x24)))) fun x25=>(Res.bind (Res.ok a_1) fun x26=>(QK x25 x26))) else (Res.bind (QW (Res.bind (Res.ok a_0) fun x27=>(Res.bind (Res.ok (3 : Int)) fun x28=>(Res.ok (decide (x27 = x28))))) (QW (Res.bind (Res.ok a_1) fun x29=>(Res.bind (Res.ok (2 : Int)) fun x30=>(Res.ok (decide (x30 < x29))))) (QW (Res.bind (Res.ok a_3) fun x31=>(Res.bind (Res.ok (2 : Int)) fun x32=>(Res.ok (decide (x31 < x32))))) (Res.bind (Res.ok a_4) fun x35=>(Res.bind (Res.bind (Res.ok a_1) fun x33=>(Res.bind (Res.ok (1 : Int)) fun x34=>(Res.ok (x33 - x34)))) fun x36=>(Res.ok (decide (x35 = x36)))))))) fun x37=>(if x37 = true then (Res.bind (Res.ok (1 : Int)) fun x38=>(Res.bind (Res.ok a_3) fun x39=>(Res.ok (x38 - x39)))) else (Res.bind (QW (Res.bind (Res.ok a_0) fun x40=>(Res.bind (Res.ok (6 : Int)) fun x41=>(Res.ok (decide (x40 = x41))))) (QW (Res.bind (Res.ok a_3) fun x44=>(Res.bind (Res.bind (Res.ok a_1) fun x42=>(Res.bind (Res.ok (1 : Int)) fun x43=>(Res.ok (x42 - x43)))) fun x45=>(Res.ok (decide (x44 < x45))))) (Res.bind (Res.ok a_4) fun x48=>(Res.bind (Res.bind (Res.ok a_1) fun x46=>(Res.bind (Res.ok (1 : Int)) fun x47=>(Res.ok (x46 - x47)))) fun x49=>(Res.ok (decide (x48 = x49))))))) fun x50=>(if x50 = true then (Res.bind (Res.bind (Res.ok a_3) fun x51=>(Res.bind (Res.ok (1 : Int)) fun x52=>(Res.ok (x51 + x52)))) fun x55=>(Res.bind (Res.bind (Res.ok a_1) fun x53=>(Res.bind (Res.ok (1 : Int)) fun x54=>(Res.ok (x53 - x54)))) fun x56=>(QK x55 x56))) else (Res.bind (QW (Res.bind (Res.ok a_0) fun x57=>(Res.bind (Res.ok (4 : Int)) fun x58=>(Res.ok (decide (x57 = x58))))) (QW (Res.bind (Res.ok a_3) fun x59=>(Res.bind (Res.ok a1) fun x60=>(Res.ok (decide (x59 < x60))))) (Res.bind (Res.ok a_4) fun x61=>(Res.bind (Res.ok a1) fun x62=>(Res.ok (decide (x61 < x62))))))) fun x63=>(if x63 = true then (Res.bind (Res.bind (Res.bind (Res.ok (2 : Int)) fun x64=>(Res.bind (Res.ok a_4) fun x65=>(V7 x64 x65))) fun x66=>(Res.bind (Res.ok a_3) fun x67=>(Res.ok (x66 - x67)))) fun x68=>(Res.bind (Res.ok a1) fun x69=>(QK x68 x69))) else (Res.bind (QW (Res.bind (Res.ok a_0) fun x70=>(Res.bind (Res.ok (4 : Int)) fun x71=>(Res.ok (decide (x70 = x71))))) (QW (Res.bind (Res.ok a_3) fun x72=>(Res.bind (Res.ok a1) fun x73=>(Res.ok (decide (x73 <= x72))))) (Res.bind (Res.ok a_4) fun x74=>(Res.bind (Res.ok a1) fun x75=>(Res.ok (decide (x75 <= x74))))))) fun x76=>(if x76 = true then (Res.bind (Res.ok a1) fun x87=>(Res.bind (Res.bind (Res.bind (Res.bind (Res.bind (Res.ok (2 : Int)) fun x77=>(Res.bind (Res.ok a_4) fun x78=>(V7 x77 x78))) fun x79=>(Res.bind (Res.ok a_3) fun x80=>(Res.ok (x79 - x80)))) fun x81=>(Res.bind (Res.ok a1) fun x82=>(Res.ok (x81 - x82)))) fun x85=>(Res.bind (Res.bind (Res.ok a_1) fun x83=>(Res.bind (Res.ok a1) fun x84=>(Res.ok (x83 - x84)))) fun x86=>(QK x85 x86))) fun x88=>(Res.ok (x87 + x88)))) else (Res.ok a_3))))))))))))))
noncomputable def Z7 (a_0 : Int) (a_1 : Int) : Res Int:=(Res.bind (Res.bind (Res.ok a_0) fun x1=>(Res.ok (x1.natAbs : Int))) fun a3=>(Res.bind (Res.bind (Res.ok a_1) fun x2=>(Res.ok (x2.natAbs : Int))) fun a4=>(Res.bind (Q6 (a3.natAbs + a4.natAbs + 2) (a3, a4) (fun g9=>(Res.bind (Res.ok g9.2) fun x11=>(Res.bind (Res.ok (0 : Int)) fun x12=>(Res.ok (decide (x12 < x11)))))) (fun g9=>(Res.bind (Res.ok g9.2) fun a15=>(Res.bind (Res.bind (Res.ok g9.1) fun x13=>(Res.bind (Res.ok g9.2) fun x14=>(QK x13 x14))) fun a16=>(Res.ok (a15, a16)))))) fun g19=>(Res.ok g19.1))))
noncomputable def Q7 (a_0 : Int) (a_1 : Int) (a_2 : Int) : Res (List (List Int)):=(Res.bind (QW (Res.bind (Res.ok a_0) fun x1=>(Res.bind (Res.ok (5 : Int)) fun x2=>(Res.ok (decide (x1 = x2))))) (Res.bind (Res.ok a_1) fun x3=>(Res.bind (Res.ok (4 : Int)) fun x4=>(Res.ok (decide (x3 = x4)))))) fun x5=>(if x5 = true then (Res.bind (Res.bind (Res.bind (Res.bind (Res.ok (0 : Int)) fun x14=>(Res.bind (Res.bind (Res.ok (3 : Int)) fun x12=>(Res.bind (Res.bind (Res.ok (1 : Int)) fun x10=>(Res.bind (Res.bind (Res.ok (2 : Int)) fun x8=>(Res.bind (Res.ok []) fun x9=>(Res.ok (x8 :: x9)))) fun x11=>(Res.ok (x10 :: x11)))) fun x13=>(Res.ok (x12 :: x13)))) fun x15=>(Res.ok (x14 :: x15)))) fun x7=>(chk (x7.length <= sizeLine) (Res.ok x7))) fun x49=>(Res.bind (Res.bind (Res.bind (Res.bind (Res.ok (2 : Int)) fun x23=>(Res.bind (Res.bind (Res.ok (1 : Int)) fun x21=>(Res.bind (Res.bind (Res.ok (3 : Int)) fun x19=>(Res.bind (Res.bind (Res.ok (0 : Int)) fun x17=>(Res.bind (Res.ok []) fun x18=>(Res.ok (x17 :: x18)))) fun x20=>(Res.ok (x19 :: x20)))) fun x22=>(Res.ok (x21 :: x22)))) fun x24=>(Res.ok (x23 :: x24)))) fun x16=>(chk (x16.length <= sizeLine) (Res.ok x16))) fun x47=>(Res.bind (Res.bind (Res.bind (Res.bind (Res.ok (3 : Int)) fun x32=>(Res.bind (Res.bind (Res.ok (0 : Int)) fun x30=>(Res.bind (Res.bind (Res.ok (2 : Int)) fun x28=>(Res.bind (Res.bind (Res.ok (1 : Int)) fun x26=>(Res.bind (Res.ok []) fun x27=>(Res.ok (x26 :: x27)))) fun x29=>(Res.ok (x28 :: x29)))) fun x31=>(Res.ok (x30 :: x31)))) fun x33=>(Res.ok (x32 :: x33)))) fun x25=>(chk (x25.length <= sizeLine) (Res.ok x25))) fun x45=>(Res.bind (Res.bind (Res.bind (Res.bind (Res.ok (1 : Int)) fun x41=>(Res.bind (Res.bind (Res.ok (2 : Int)) fun x39=>(Res.bind (Res.bind (Res.ok (0 : Int)) fun x37=>(Res.bind (Res.bind (Res.ok (3 : Int)) fun x35=>(Res.bind (Res.ok []) fun x36=>(Res.ok (x35 :: x36)))) fun x38=>(Res.ok (x37 :: x38)))) fun x40=>(Res.ok (x39 :: x40)))) fun x42=>(Res.ok (x41 :: x42)))) fun x34=>(chk (x34.length <= sizeLine) (Res.ok x34))) fun x43=>(Res.bind (Res.ok []) fun x44=>(Res.ok (x43 :: x44)))) fun x46=>(Res.ok (x45 :: x46)))) fun x48=>(Res.ok (x47 :: x48)))) fun x50=>(Res.ok (x49 :: x50)))) fun x6=>(chk (x6.length <= sizeLine) (Res.ok x6))) else (Res.bind (Q6 (a_1.natAbs + 2) (a_2) (fun g53=>(Res.bind (Res.bind (Res.ok g53) fun x56=>(Res.bind (Res.ok a_1) fun x57=>(noE (Z7 x56 x57)))) fun x58=>(Res.bind (Res.ok (1 : Int)) fun x59=>(Res.ok (!(decide (x58 = x59))))))) (fun g53=>(Res.bind (Res.bind (Res.ok g53) fun x62=>(Res.bind (Res.ok (1 : Int)) fun x63=>(Res.ok (x62 + x63)))) fun a60=>(Res.ok (a60))))) fun g64=>(Res.bind (Res.ok []) fun a66=>(Res.bind (Res.bind (Res.ok a_1) fun x69=>(QU 0 x69)) fun x92=>(Res.bind (forN x92 (a66) (fun g72 a74=>(Res.bind (Res.bind (Res.bind (Res.ok a_1) fun x76=>(QU 0 x76)) fun x80=>(G3 x80 (fun a78=>(Res.bind (Res.ok a_0) fun x82=>(Res.bind (Res.ok a_1) fun x83=>(Res.bind (Res.ok g64) fun x84=>(Res.bind (Res.ok a74) fun x85=>(Res.bind (Res.ok a78) fun x86=>(noE (Zi x82 x83 x84 x85 x86)))))))))) fun a87=>(chk (g72.length < sizeLine) ((fun a89=>(Res.ok (a89))) (g72 ++ [a87])))))) fun g90=>(Res.ok g90)))))))
noncomputable def Y5 (a_0 : (List Int)) (a_1 : Int) : Res (List Int):=(Res.bind (Res.bind (Res.ok a_1) fun x4=>(chk (0 <= x4 /\ x4 <= 1000) (Res.ok (ZT 0 x4)))) fun a1=>(Res.bind (Res.ok []) fun a5=>(Res.bind (Res.bind (Res.ok a_1) fun x8=>(QU 0 x8)) fun x29=>(Res.bind (forN x29 (a5, a1) (fun g11 a13=>(Res.bind (Res.bind (Res.bind (Res.ok a_0) fun x15=>(Res.bind (Res.ok a13) fun x16=>(atR x15 x16))) fun x18=>(Res.bind (Res.bind (Res.ok g11.2) fun x17=>(Res.ok (x17.length : Int))) fun x19=>(QK x18 x19))) fun x25=>(Res.bind (Bl g11.2 x25) fun p26=>(chk (g11.1.length < sizeLine) ((fun a21 a22=>(Res.ok (a22, a21))) p26.2 (g11.1 ++ [p26.1]))))))) fun g27=>(Res.ok g27.1)))))
noncomputable def Zv (a_0 : (List (List Int))) (a_1 : (List Int)) : Res (List (List Int)):=(Res.bind (Res.bind (Res.ok a_0) fun x7=>(G3 x7 (fun a5=>(Res.bind (Res.ok a5) fun x8=>(Res.ok x8))))) fun a1=>(Res.bind (Res.bind (Res.bind (Res.ok a_0) fun x9=>(Res.ok (x9.length : Int))) fun x10=>(QU 0 x10)) fun x47=>(Res.bind (forN x47 (a1) (fun g13 a15=>(Res.bind (Res.bind (Res.bind (Res.ok a_0) fun x17=>(Res.ok (x17.length : Int))) fun x18=>(QU 0 x18)) fun x44=>(Res.bind (forN x44 (g13) (fun g21 a23=>(Res.bind (Res.bind (Res.ok a_1) fun x29=>(Res.bind (Res.bind (Res.bind (Res.ok a_0) fun x25=>(Res.bind (Res.ok a15) fun x26=>(atR x25 x26))) fun x27=>(Res.bind (Res.ok a23) fun x28=>(atR x27 x28))) fun x30=>(atR x29 x30))) fun x35=>(Res.bind (Res.bind (Res.ok a_1) fun x31=>(Res.bind (Res.ok a15) fun x32=>(atR x31 x32))) fun x36=>(Res.bind (atR g21 x36) fun x40=>(Res.bind (Res.bind (Res.ok a_1) fun x33=>(Res.bind (Res.ok a23) fun x34=>(atR x33 x34))) fun x37=>(Res.bind (Q2 x40 x37 x35) fun x41=>(Res.bind (Q2 g21 x36 x41) fun a38=>(Res.ok (a38)))))))))) fun g42=>(Res.ok (g42)))))) fun g45=>(Res.ok g45))))
noncomputable def Qv (a_0 : (List Int)) (a_1 : Int) (a_2 : Int) : Res (List (List Int)):=(Res.bind (Res.bind (Res.ok a_0) fun x20=>(Res.bind (Res.ok a_1) fun x21=>(Res.bind (Res.bind (Res.bind (Res.bind (Res.ok (7 : Int)) fun x13=>(Res.bind (Res.bind (Res.ok (24 : Int)) fun x11=>(Res.bind (Res.bind (Res.ok (6 : Int)) fun x9=>(Res.bind (Res.bind (Res.ok (2 : Int)) fun x7=>(Res.bind (Res.ok []) fun x8=>(Res.ok (x7 :: x8)))) fun x10=>(Res.ok (x9 :: x10)))) fun x12=>(Res.ok (x11 :: x12)))) fun x14=>(Res.ok (x13 :: x14)))) fun x6=>(chk (x6.length <= sizeLine) (Res.ok x6))) fun x4=>(Res.bind (Res.bind (Res.bind (Res.bind (Res.ok (24 : Int)) fun x18=>(Res.bind (Res.ok []) fun x19=>(Res.ok (x18 :: x19)))) fun x17=>(chk (x17.length <= sizeLine) (Res.ok x17))) fun x15=>(Res.bind (Res.ok (24 : Int)) fun x16=>(CO x15 x16))) fun x5=>(UR x4 x5))) fun x22=>(noE (Jd x20 x21 x22))))) fun a1=>(Res.bind (Res.bind (Res.ok (1 : Int)) fun x29=>(Res.bind (Res.bind (Res.bind (Res.ok a1) fun x25=>(Res.bind (Res.ok (1 : Int)) fun x26=>(atR x25 x26))) fun x27=>(Res.bind (Res.ok a_2) fun x28=>(QK x27 x28))) fun x30=>(Res.ok (x29 + x30)))) fun a23=>(Res.bind (Res.bind (Res.bind (Res.ok a1) fun x35=>(Res.bind (Res.ok (0 : Int)) fun x36=>(atR x35 x36))) fun x41=>(Res.bind (Res.ok a23) fun x42=>(Res.bind (Res.bind (Res.ok (2 : Int)) fun x39=>(Res.bind (Res.bind (Res.ok a1) fun x37=>(Res.bind (Res.ok (2 : Int)) fun x38=>(atR x37 x38))) fun x40=>(Res.ok (x39 + x40)))) fun x43=>(noE (Q7 x41 x42 x43))))) fun a31=>(Res.bind (Res.bind (Res.bind (Res.ok a1) fun x44=>(Res.bind (Res.ok (3 : Int)) fun x45=>(atR x44 x45))) fun x46=>(Res.bind (Res.ok (0 : Int)) fun x47=>(Res.ok (decide (x46 = x47))))) fun x48=>(if x48 = true then (Res.ok a31) else (Res.bind (Res.ok a31) fun x57=>(Res.bind (Res.bind (Res.bind (Res.ok a1) fun x52=>(Res.bind (Res.bind (Res.ok (4 : Int)) fun x51=>(Res.ok (some x51))) fun x53=>(Res.bind (Res.ok none) fun x54=>(Res.ok (Qj x52 x53 x54))))) fun x55=>(Res.bind (Res.ok a23) fun x56=>(noE (Y5 x55 x56)))) fun x58=>(noE (Zv x57 x58)))))))))
noncomputable def Qf (a_0 : (List (List Int))) (a_1 : (List (List Int))) (a_2 : (List Int)) : Res Bool:=(Res.bind (Res.bind (Res.ok a_2) fun x3=>(Res.ok (x3.length : Int))) fun a1=>(Res.bind (Res.bind (Res.ok a1) fun x4=>(QU 0 x4)) fun x47=>(Res.bind (forC x47 () (fun g7 a9=>(Res.bind (Res.bind (Res.ok a1) fun x11=>(QU 0 x11)) fun x44=>(Res.bind (forC x44 () (fun g14 a16=>(Res.bind (Res.bind (Res.bind (Res.ok a_0) fun x20=>(Res.bind (Res.ok a9) fun x21=>(atR x20 x21))) fun x22=>(Res.bind (Res.ok a16) fun x23=>(atR x22 x23))) fun a18=>(Res.bind (QW (Res.bind (Res.ok a18) fun x24=>(Res.bind (Res.ok a1) fun x25=>(Res.ok (decide (x24 < x25))))) (Res.bind (Res.bind (Res.bind (Res.ok a_1) fun x28=>(Res.bind (Res.bind (Res.ok a_2) fun x26=>(Res.bind (Res.ok a9) fun x27=>(atR x26 x27))) fun x29=>(atR x28 x29))) fun x32=>(Res.bind (Res.bind (Res.ok a_2) fun x30=>(Res.bind (Res.ok a16) fun x31=>(atR x30 x31))) fun x33=>(atR x32 x33))) fun x36=>(Res.bind (Res.bind (Res.ok a_2) fun x34=>(Res.bind (Res.ok a18) fun x35=>(atR x34 x35))) fun x37=>(Res.ok (!(decide (x36 = x37))))))) fun x38=>(if x38 = true then (Res.bind (Res.ok false) fun x40=>(Res.ok (Ctl.ret x40))) else (Res.bind (Res.ok ()) fun x39=>(Res.ok (Ctl.nx x39)))))))) (ZN fun g41=>(Res.bind (Res.ok ()) fun x43=>(Res.ok (Ctl.nx x43)))))))) (Js fun g45=>(Res.ok true)))))
noncomputable def YZ (a_0 : (List Int)) (a_1 : Int) : Res (List (List Int)):=(Res.bind (Res.bind (Res.ok a_1) fun x1=>(QU 0 x1)) fun x5=>(Il x5 (fun a3=>(Res.bind (Res.ok a3) fun x11=>(Res.bind (Res.ok a_0) fun x12=>(Res.ok (!(decide (x11 ∈ x12))))))) (fun a3=>(Res.bind (Res.ok a_0) fun x6=>(Res.bind (Res.bind (Res.bind (Res.ok a3) fun x9=>(Res.bind (Res.ok []) fun x10=>(Res.ok (x9 :: x10)))) fun x8=>(chk (x8.length <= sizeLine) (Res.ok x8))) fun x7=>(UR x6 x7))))))
noncomputable def ZF (a_0 : (List (List Int))) (a_1 : (List (List Int))) : Res (List (List Int)):=(Res.bind (Res.bind (Res.bind (Res.ok a_0) fun x1=>(Res.ok (x1.length : Int))) fun x3=>(Res.bind (Res.bind (Res.ok a_1) fun x2=>(Res.ok (x2.length : Int))) fun x4=>(Res.ok (!(decide (x3 = x4)))))) fun x5=>(if x5 = true then (Res.ok []) else (Res.bind (Res.bind (Res.bind (Res.ok []) fun x10=>(Res.bind (Res.ok []) fun x11=>(Res.ok (x10 :: x11)))) fun x9=>(chk (x9.length <= sizeLine) (Res.ok x9))) fun a6=>(Res.bind (Res.bind (Res.bind (Res.ok a_0) fun x12=>(Res.ok (x12.length : Int))) fun x13=>(QU 0 x13)) fun x64=>(Res.bind (forN x64 (a6) (fun g16 a18=>(Res.bind (Res.ok []) fun a20=>(Res.bind (Res.ok g16) fun x61=>(Res.bind (forN x61 (a20) (fun g25 a27=>(Res.bind (Res.bind (Res.ok a27) fun x31=>(Res.bind (Res.bind (Res.ok a_0) fun x30=>(Res.ok (x30.length : Int))) fun x32=>(noE (YZ x31 x32)))) fun x55=>(Res.bind (forN x55 (g25) (fun g35 a37=>(Res.bind (Res.bind (Res.bind (Res.ok a_0) fun x42=>(Res.bind (Res.ok a_1) fun x43=>(Res.bind (Res.ok a37) fun x44=>(noE (Qf x42 x43 x44))))) fun x45=>(if x45 = true then (Res.bind (Res.ok a37) fun a48=>(chk (g35.length < sizeLine) ((fun a50=>(Res.ok (a50))) (g35 ++ [a48])))) else (Res.ok (g35)))) fun g52=>(Res.ok (g52))))) fun g53=>(Res.ok (g53)))))) fun g56=>(Res.bind (Res.ok g56) fun a58=>(Res.ok (a58)))))))) fun g62=>(Res.ok g62))))))
noncomputable def ZE (a_0 : (List (List Int))) : Res (List (List Int)):=(Res.bind (Res.ok a_0) fun x4=>(G3 x4 (fun a2=>(Res.bind (Res.ok a2) fun x5=>(Res.ok x5)))))
noncomputable def Vn (a_0 : Int) (a_1 : Int) : Res (List (List Int)):=(Res.bind (Res.ok []) fun a1=>(Res.bind (Res.bind (Res.ok a_1) fun x4=>(QU 0 x4)) fun x70=>(Res.bind (forN x70 (a1) (fun g7 a9=>(Res.bind (Res.ok []) fun a11=>(Res.bind (Res.bind (Res.ok a_1) fun x14=>(QU 0 x14)) fun x67=>(Res.bind (forN x67 (a11) (fun g17 a19=>(Res.bind (Res.ok a9) fun a21=>(Res.bind (Res.bind (QW (Res.bind (Res.ok a_0) fun x23=>(Res.bind (Res.ok (0 : Int)) fun x24=>(Res.ok (decide (x23 = x24))))) (QW (Res.bind (Res.ok a9) fun x25=>(Res.bind (Res.ok (2 : Int)) fun x26=>(Res.ok (decide (x25 < x26))))) (Res.bind (Res.ok a19) fun x29=>(Res.bind (Res.bind (Res.ok a_1) fun x27=>(Res.bind (Res.ok (2 : Int)) fun x28=>(Res.ok (x27 - x28)))) fun x30=>(Res.ok (decide (x30 <= x29))))))) fun x31=>(if x31 = true then (Res.bind (Res.bind (Res.ok (1 : Int)) fun x36=>(Res.bind (Res.ok a9) fun x37=>(Res.ok (x36 - x37)))) fun a34=>(Res.ok (a34))) else (Res.ok (a21)))) fun g39=>(Res.bind (Res.bind (QW (Res.bind (Res.ok a_0) fun x40=>(Res.bind (Res.ok (1 : Int)) fun x41=>(Res.ok (decide (x40 = x41))))) (QW (Res.bind (Res.ok a9) fun x42=>(Res.bind (Res.ok (3 : Int)) fun x43=>(Res.ok (decide (x42 < x43))))) (Res.bind (Res.ok a19) fun x44=>(Res.bind (Res.ok (3 : Int)) fun x45=>(Res.ok (decide (x44 < x45))))))) fun x46=>(if x46 = true then (Res.bind (Res.bind (Res.bind (Res.bind (Res.ok (2 : Int)) fun x51=>(Res.bind (Res.ok a19) fun x52=>(V7 x51 x52))) fun x53=>(Res.bind (Res.ok a9) fun x54=>(Res.ok (x53 - x54)))) fun x55=>(Res.bind (Res.ok (3 : Int)) fun x56=>(QK x55 x56))) fun a49=>(Res.ok (a49))) else (Res.ok (g39)))) fun g58=>(Res.bind (Res.ok g58) fun a59=>(chk (g17.length < sizeLine) ((fun a61=>(Res.ok (a61))) (g17 ++ [a59]))))))))) fun g62=>(Res.bind (Res.ok g62) fun a64=>(chk (g7.length < sizeLine) ((fun a66=>(Res.ok (a66))) (g7 ++ [a64]))))))))) fun g68=>(Res.ok g68))))
noncomputable def Vi (a_0 : (List Int)) (a_1 : Int) : Res ((List (List Int)) × (List (List Int))):=(Res.bind (Res.bind (Res.ok a_0) fun x14=>(Res.bind (Res.ok (2 : Int)) fun x15=>(Res.bind (Res.bind (Res.bind (Res.bind (Res.ok (3 : Int)) fun x7=>(Res.bind (Res.ok []) fun x8=>(Res.ok (x7 :: x8)))) fun x6=>(chk (x6.length <= sizeLine) (Res.ok x6))) fun x4=>(Res.bind (Res.bind (Res.bind (Res.bind (Res.ok (24 : Int)) fun x12=>(Res.bind (Res.ok []) fun x13=>(Res.ok (x12 :: x13)))) fun x11=>(chk (x11.length <= sizeLine) (Res.ok x11))) fun x9=>(Res.bind (Res.ok (8 : Int)) fun x10=>(CO x9 x10))) fun x5=>(UR x4 x5))) fun x16=>(noE (Jd x14 x15 x16))))) fun a1=>(Res.bind (Res.bind (Res.ok a_0) fun x21=>(Res.bind (Res.ok (0 : Int)) fun x22=>(Res.bind (Res.ok a_1) fun x23=>(noE (Qv x21 x22 x23))))) fun a17=>(Res.bind (Res.bind (Res.ok a_0) fun x32=>(Res.bind (Res.ok (6 : Int)) fun x33=>(Res.bind (Res.bind (Res.bind (Res.ok (5 : Int)) fun x30=>(Res.bind (Res.bind (Res.ok (2 : Int)) fun x28=>(Res.bind (Res.ok []) fun x29=>(Res.ok (x28 :: x29)))) fun x31=>(Res.ok (x30 :: x31)))) fun x27=>(chk (x27.length <= sizeLine) (Res.ok x27))) fun x34=>(noE (Jd x32 x33 x34))))) fun a24=>(Res.bind (Res.bind (QW (Res.bind (Res.bind (Res.ok a24) fun x35=>(Res.bind (Res.ok (0 : Int)) fun x36=>(atR x35 x36))) fun x37=>(Res.bind (Res.ok (0 : Int)) fun x38=>(Res.ok (decide (x37 = x38))))) (Res.bind (Res.bind (Res.ok a17) fun x39=>(Res.ok (x39.length : Int))) fun x40=>(Res.bind (Res.ok (3 : Int)) fun x41=>(Res.ok (decide (x41 < x40)))))) fun x42=>(if x42 = true then (Res.bind (Res.bind (Res.bind (Res.ok a24) fun x49=>(Res.bind (Res.ok (1 : Int)) fun x50=>(atR x49 x50))) fun x52=>(Res.bind (Res.bind (Res.ok a17) fun x51=>(Res.ok (x51.length : Int))) fun x53=>(noE (Vn x52 x53)))) fun a45=>(Res.ok (a45))) else (Res.ok (a17)))) fun g55=>(Res.bind (Res.bind (Res.bind (Res.ok a1) fun x56=>(Res.bind (Res.ok (0 : Int)) fun x57=>(atR x56 x57))) fun x58=>(Res.bind (Res.ok (0 : Int)) fun x59=>(Res.ok (decide (x59 < x58))))) fun x60=>(if x60 = true then (Res.bind (Res.ok g55) fun x72=>(Res.bind (Res.bind (Res.ok g55) fun x70=>(Res.bind (Res.bind (Res.bind (Res.ok a1) fun x64=>(Res.bind (Res.bind (Res.ok (1 : Int)) fun x63=>(Res.ok (some x63))) fun x65=>(Res.bind (Res.ok none) fun x66=>(Res.ok (Qj x64 x65 x66))))) fun x68=>(Res.bind (Res.bind (Res.ok g55) fun x67=>(Res.ok (x67.length : Int))) fun x69=>(noE (Y5 x68 x69)))) fun x71=>(noE (Zv x70 x71)))) fun x73=>(Res.ok (x72, x73)))) else (Res.bind (Res.bind (Res.ok a_0) fun x78=>(Res.bind (Res.ok (1 : Int)) fun x79=>(Res.bind (Res.ok a_1) fun x80=>(noE (Qv x78 x79 x80))))) fun a74=>(Res.bind (Res.bind (QW (Res.bind (Res.bind (Res.ok a74) fun x81=>(Res.ok (x81.length : Int))) fun x83=>(Res.bind (Res.bind (Res.ok g55) fun x82=>(Res.ok (x82.length : Int))) fun x84=>(Res.ok (!(decide (x83 = x84)))))) (Res.bind (Res.bind (Res.bind (Res.ok a1) fun x85=>(Res.bind (Res.ok (1 : Int)) fun x86=>(atR x85 x86))) fun x87=>(Res.bind (Res.ok (3 : Int)) fun x88=>(QK x87 x88))) fun x89=>(Res.bind (Res.ok (0 : Int)) fun x90=>(Res.ok (decide (x90 < x89)))))) fun x91=>(if x91 = true then (Res.bind (Res.bind (Res.bind (Res.bind (Res.ok a1) fun x98=>(Res.bind (Res.ok (2 : Int)) fun x99=>(atR x98 x99))) fun x100=>(Res.bind (Res.ok (7 : Int)) fun x101=>(QK x100 x101))) fun x107=>(Res.bind (Res.bind (Res.ok g55) fun x102=>(Res.ok (x102.length : Int))) fun x108=>(Res.bind (Res.bind (Res.ok (1 : Int)) fun x105=>(Res.bind (Res.bind (Res.ok a1) fun x103=>(Res.bind (Res.ok (3 : Int)) fun x104=>(atR x103 x104))) fun x106=>(Res.ok (x105 + x106)))) fun x109=>(noE (Q7 x107 x108 x109))))) fun a94=>(Res.ok (a94))) else (Res.ok (a74)))) fun g111=>(Res.bind (Res.ok g55) fun x112=>(Res.bind (Res.ok g111) fun x113=>(Res.ok (x112, x113))))))))))))
noncomputable def YJ (a_0 : (List (List Int))) (a_1 : (List (List Int))) (a_2 : (List Int)) (a_3 : Int) (a_4 : Int) : Res Bool:=(Res.bind (Res.ok a_2) fun x52=>(Res.bind (forC x52 () (fun g3 a5=>(Res.bind (orR (Res.bind (Res.bind (Res.ok (0 : Int)) fun x8=>(Res.bind (Res.ok a5) fun x9=>(if (decide (x8 <= x9)) = true then (Res.bind (Res.bind (Res.ok a_1) fun x7=>(Res.ok (x7.length : Int))) fun x10=>(Res.ok (decide (x9 < x10)))) else Res.ok false))) fun x11=>(Res.ok (!x11))) (Res.bind (Res.bind (Res.ok a_2) fun x12=>(Res.bind (Res.ok a5) fun x13=>(Res.ok ((List.count x13 x12 : Nat) : Int)))) fun x14=>(Res.bind (Res.ok (1 : Int)) fun x15=>(Res.ok (decide (x15 < x14)))))) fun x16=>(if x16 = true then (Res.bind (Res.ok false) fun x18=>(Res.ok (Ctl.ret x18))) else (Res.bind (Res.ok ()) fun x17=>(Res.ok (Ctl.nx x17))))))) (Js fun g19=>(Res.bind (orR (Res.bind (Res.bind (Res.ok a_3) fun x21=>(Res.bind (Res.ok a_4) fun x22=>(Res.ok (min x21 x22)))) fun x23=>(Res.bind (Res.ok (0 : Int)) fun x24=>(Res.ok (decide (x23 < x24))))) (Res.bind (Res.bind (Res.ok a_3) fun x25=>(Res.bind (Res.ok a_4) fun x26=>(Res.ok (max x25 x26)))) fun x28=>(Res.bind (Res.bind (Res.ok a_2) fun x27=>(Res.ok (x27.length : Int))) fun x29=>(Res.ok (decide (x29 <= x28)))))) fun x30=>(if x30 = true then (Res.ok false) else (Res.bind (Res.bind (Res.bind (Res.ok a_0) fun x33=>(Res.bind (Res.ok a_3) fun x34=>(atR x33 x34))) fun x35=>(Res.bind (Res.ok a_4) fun x36=>(atR x35 x36))) fun a31=>(QW (Res.bind (Res.ok a31) fun x38=>(Res.bind (Res.bind (Res.ok a_2) fun x37=>(Res.ok (x37.length : Int))) fun x39=>(Res.ok (decide (x38 < x39))))) (Res.bind (Res.bind (Res.bind (Res.ok a_1) fun x42=>(Res.bind (Res.bind (Res.ok a_2) fun x40=>(Res.bind (Res.ok a_3) fun x41=>(atR x40 x41))) fun x43=>(atR x42 x43))) fun x46=>(Res.bind (Res.bind (Res.ok a_2) fun x44=>(Res.bind (Res.ok a_4) fun x45=>(atR x44 x45))) fun x47=>(atR x46 x47))) fun x50=>(Res.bind (Res.bind (Res.ok a_2) fun x48=>(Res.bind (Res.ok a31) fun x49=>(atR x48 x49))) fun x51=>(Res.ok (!(decide (x50 = x51)))))))))))))
noncomputable def QX (a_0 : (List (List Int))) (a_1 : (List (List Int))) (a_2 : (List ((List Int) × Int × Int))) : Res Bool:=(Res.bind (Res.bind (Res.bind (Res.ok a_0) fun x1=>(Res.ok (x1.length : Int))) fun x3=>(Res.bind (Res.bind (Res.ok a_1) fun x2=>(Res.ok (x2.length : Int))) fun x4=>(Res.ok (!(decide (x3 = x4)))))) fun x5=>(if x5 = true then (Res.ok true) else (Res.bind (Res.ok []) fun a6=>(Res.bind (Res.ok a_2) fun x93=>(Res.bind (forN x93 (a6) (fun g11 a13=>(Res.bind (Res.bind (Res.bind (Res.ok a_0) fun x16=>(Res.bind (Res.ok a_1) fun x17=>(Res.bind (Res.ok a13.1) fun x18=>(Res.bind (Res.ok a13.2.1) fun x19=>(Res.bind (Res.ok a13.2.2) fun x20=>(noE (YJ x16 x17 x18 x19 x20))))))) fun x21=>(if x21 = true then (Res.bind (Res.ok true) fun x24=>(Res.bind (Res.ok a13.1) fun x25=>(chk (g11.length < sizeLine) ((fun a26=>(Res.ok (a26))) (J8 g11 x25 x24))))) else (Res.ok (g11)))) fun g29=>(Res.ok (g29))))) fun g30=>(Res.bind (Res.bind (Res.bind (Res.ok []) fun x36=>(Res.bind (Res.ok []) fun x37=>(Res.ok (x36 :: x37)))) fun x35=>(chk (x35.length <= sizeLine) (Res.ok x35))) fun a32=>(Res.bind (Res.bind (Res.bind (Res.ok a_0) fun x38=>(Res.ok (x38.length : Int))) fun x39=>(QU 0 x39)) fun x92=>(Res.bind (forN x92 (a32) (fun g42 a44=>(Res.bind (Res.ok []) fun a46=>(Res.bind (Res.ok g42) fun x86=>(Res.bind (forN x86 (a46) (fun g51 a53=>(Res.bind (Res.bind (Res.ok a53) fun x57=>(Res.bind (Res.bind (Res.ok a_0) fun x56=>(Res.ok (x56.length : Int))) fun x58=>(noE (YZ x57 x58)))) fun x80=>(Res.bind (forN x80 (g51) (fun g61 a63=>(Res.bind (Res.bind (Res.bind (Res.bind (Res.ok a63) fun x67=>(Res.ok x67)) fun x68=>(Res.bind (Res.ok g30) fun x69=>(Res.ok (!(Qg x69 x68).isSome)))) fun x70=>(if x70 = true then (Res.bind (Res.ok a63) fun a73=>(chk (g61.length < sizeLine) ((fun a75=>(Res.ok (a75))) (g61 ++ [a73])))) else (Res.ok (g61)))) fun g77=>(Res.ok (g77))))) fun g78=>(Res.ok (g78)))))) fun g81=>(Res.bind (Res.ok g81) fun a83=>(Res.ok (a83)))))))) fun g87=>(Res.bind (Res.bind (Res.ok g87) fun x89=>(Res.ok (x89.length : Int))) fun x90=>(Res.bind (Res.ok (0 : Int)) fun x91=>(Res.ok (decide (x90 = x91)))))))))))))
noncomputable def Qc (a_0 : (List (List Int))) (a_1 : (List (List Int))) (a_2 : (List Int)) : Res (Option ((List Int) × Int × Int)):=(Res.bind (Res.bind (Res.bind (Res.ok a_2) fun x1=>(Res.ok (x1.length : Int))) fun x2=>(QU 0 x2)) fun x36=>(Res.bind (forC x36 () (fun g5 a7=>(Res.bind (Res.bind (Res.bind (Res.ok a_2) fun x9=>(Res.ok (x9.length : Int))) fun x10=>(QU 0 x10)) fun x33=>(Res.bind (forC x33 () (fun g13 a15=>(Res.bind (Res.bind (Res.ok a_0) fun x18=>(Res.bind (Res.ok a_1) fun x19=>(Res.bind (Res.ok a_2) fun x20=>(Res.bind (Res.ok a7) fun x21=>(Res.bind (Res.ok a15) fun x22=>(noE (YJ x18 x19 x20 x21 x22))))))) fun x23=>(if x23 = true then (Res.bind (Res.bind (Res.bind (Res.ok a_2) fun x24=>(Res.bind (Res.ok a7) fun x25=>(Res.bind (Res.ok a15) fun x26=>(Res.ok (x24, x25, x26))))) fun x27=>(Res.ok (some x27))) fun x29=>(Res.ok (Ctl.ret x29))) else (Res.bind (Res.ok ()) fun x28=>(Res.ok (Ctl.nx x28))))))) (ZN fun g30=>(Res.bind (Res.ok ()) fun x32=>(Res.ok (Ctl.nx x32)))))))) (Js fun g34=>(Res.ok none))))
noncomputable def Yv (a_0 : (List (List Int))) (a_1 : (List (List Int))) : Res (List ((List Int) × Int × Int)):=(Res.bind (Res.bind (Res.bind (Res.ok a_0) fun x1=>(Res.ok (x1.length : Int))) fun x3=>(Res.bind (Res.bind (Res.ok a_1) fun x2=>(Res.ok (x2.length : Int))) fun x4=>(Res.ok (!(decide (x3 = x4)))))) fun x5=>(if x5 = true then (Res.ok []) else (Res.bind (Res.ok []) fun a6=>(Res.bind (Res.bind (Res.bind (Res.ok []) fun x13=>(Res.bind (Res.ok []) fun x14=>(Res.ok (x13 :: x14)))) fun x12=>(chk (x12.length <= sizeLine) (Res.ok x12))) fun a9=>(Res.bind (Res.bind (Res.bind (Res.ok a_0) fun x15=>(Res.ok (x15.length : Int))) fun x16=>(QU 0 x16)) fun x74=>(Res.bind (forN x74 (a9, a6) (fun g19 a21=>(Res.bind (Res.ok []) fun a23=>(Res.bind (Res.ok g19.1) fun x71=>(Res.bind (forN x71 (a23, g19.2) (fun g28 a30=>(Res.bind (Res.bind (Res.ok a30) fun x34=>(Res.bind (Res.bind (Res.ok a_0) fun x33=>(Res.ok (x33.length : Int))) fun x35=>(noE (YZ x34 x35)))) fun x65=>(Res.bind (forN x65 (g28.1, g28.2) (fun g38 a40=>(Res.bind (Res.bind (Res.ok a_0) fun x48=>(Res.bind (Res.ok a_1) fun x49=>(Res.bind (Res.bind (Res.ok a40) fun x47=>(Res.ok x47)) fun x50=>(noE (Qc x48 x49 x50))))) fun a44=>(Res.bind (Res.bind (Res.bind (Res.ok a44) fun x51=>(Res.ok x51.isNone)) fun x52=>(if x52 = true then (Res.bind (Res.ok a40) fun a55=>(chk (g38.1.length < sizeLine) ((fun a57=>(Res.ok (a57, g38.2))) (g38.1 ++ [a55])))) else (Res.bind (Res.bind (Res.ok a44) LF) fun a58=>(chk (g38.2.length < sizeLine) ((fun a60=>(Res.ok (g38.1, a60))) (g38.2 ++ [a58])))))) fun g62=>(Res.ok (g62.1, g62.2)))))) fun g63=>(Res.ok (g63.1, g63.2)))))) fun g66=>(Res.bind (Res.ok g66.1) fun a68=>(Res.ok (a68, g66.2)))))))) fun g72=>(Res.ok g72.2)))))))
noncomputable def Vc (a_0 : (List ((List Int) × Int × Int))) (a_1 : (List Int)) : Res (List ((List Int) × Int × Int)):=(Res.bind (Res.bind (Res.ok a_0) fun x4=>(Res.ok x4)) fun a1=>(Res.bind (orR (Res.bind (Res.bind (Res.ok a1) fun x5=>(Res.ok (x5.length : Int))) fun x6=>(Res.bind (Res.ok (0 : Int)) fun x7=>(Res.ok (decide (x6 = x7))))) (Res.bind (Res.bind (Res.ok a_1) fun x8=>(Res.bind (Res.ok (0 : Int)) fun x9=>(atR x8 x9))) fun x10=>(Res.bind (Res.ok (9 : Int)) fun x11=>(Res.ok (decide (x11 < x10)))))) fun x12=>(if x12 = true then (Res.ok a1) else (Res.bind (Res.bind (Res.bind (Res.ok a_1) fun x15=>(Res.bind (Res.ok (1 : Int)) fun x16=>(atR x15 x16))) fun x18=>(Res.bind (Res.bind (Res.ok a1) fun x17=>(Res.ok (x17.length : Int))) fun x19=>(QK x18 x19))) fun a13=>(Res.bind (Res.bind (Res.ok a1) fun x20=>(Res.bind (Res.ok a13) fun x21=>(atR x20 x21))) fun a22=>(Res.bind (Res.bind (Res.bind (Res.ok a_1) fun x26=>(Res.bind (Res.ok (0 : Int)) fun x27=>(atR x26 x27))) fun x28=>(Res.bind (Res.ok (0 : Int)) fun x29=>(Res.ok (decide (x28 = x29))))) fun x30=>(if x30 = true then (Res.bind (Res.bind (Res.ok a1) fun x34=>(Res.bind (Res.ok none) fun x35=>(Res.bind (Res.bind (Res.ok a13) fun x33=>(Res.ok (some x33))) fun x36=>(Res.ok (Qj x34 x35 x36))))) fun x31=>(Res.bind (Res.bind (Res.ok a1) fun x40=>(Res.bind (Res.bind (Res.bind (Res.ok a13) fun x37=>(Res.bind (Res.ok (1 : Int)) fun x38=>(Res.ok (x37 + x38)))) fun x39=>(Res.ok (some x39))) fun x41=>(Res.bind (Res.ok none) fun x42=>(Res.ok (Qj x40 x41 x42))))) fun x32=>(UR x31 x32))) else (Res.bind (Res.bind (Res.bind (Res.bind (Res.ok a_1) fun x43=>(Res.bind (Res.ok (0 : Int)) fun x44=>(atR x43 x44))) fun x45=>(Res.bind (Res.ok (4 : Int)) fun x46=>(Res.ok (decide (x45 < x46))))) fun x47=>(if x47 = true then (Res.bind (Res.bind (Res.ok a22.1) fun x80=>(Res.bind (Res.bind (Res.bind (Res.bind (Res.ok a22.2.2) fun x57=>(Res.bind (Res.bind (Res.ok a22.2.1) fun x55=>(Res.bind (Res.bind (Res.bind (Res.ok a22.2.1) fun x51=>(Res.bind (Res.ok (1 : Int)) fun x52=>(Res.ok (x51 + x52)))) fun x53=>(Res.bind (Res.ok []) fun x54=>(Res.ok (x53 :: x54)))) fun x56=>(Res.ok (x55 :: x56)))) fun x58=>(Res.ok (x57 :: x58)))) fun x50=>(chk (x50.length <= sizeLine) (Res.ok x50))) fun x63=>(Res.bind (Res.bind (Res.bind (Res.ok a_1) fun x59=>(Res.bind (Res.ok (0 : Int)) fun x60=>(atR x59 x60))) fun x61=>(Res.bind (Res.ok (1 : Int)) fun x62=>(Res.ok (x61 - x62)))) fun x64=>(atR x63 x64))) fun x81=>(Res.bind (Res.bind (Res.bind (Res.bind (Res.ok a22.2.1) fun x72=>(Res.bind (Res.bind (Res.bind (Res.ok a22.2.2) fun x66=>(Res.bind (Res.ok (1 : Int)) fun x67=>(Res.ok (x66 + x67)))) fun x70=>(Res.bind (Res.bind (Res.ok a22.2.2) fun x68=>(Res.bind (Res.ok []) fun x69=>(Res.ok (x68 :: x69)))) fun x71=>(Res.ok (x70 :: x71)))) fun x73=>(Res.ok (x72 :: x73)))) fun x65=>(chk (x65.length <= sizeLine) (Res.ok x65))) fun x78=>(Res.bind (Res.bind (Res.bind (Res.ok a_1) fun x74=>(Res.bind (Res.ok (0 : Int)) fun x75=>(atR x74 x75))) fun x76=>(Res.bind (Res.ok (1 : Int)) fun x77=>(Res.ok (x76 - x77)))) fun x79=>(atR x78 x79))) fun x82=>(Res.ok (x80, x81, x82))))) fun x83=>(Res.bind (Res.ok a13) fun x84=>(Res.bind (Q2 a1 x84 x83) fun a85=>(Res.ok (a85))))) else (Res.ok (a1)))) fun g88=>(Res.bind (Res.bind (Res.bind (Res.bind (Res.ok a_1) fun x89=>(Res.bind (Res.ok (0 : Int)) fun x90=>(atR x89 x90))) fun x91=>(Res.bind (Res.ok (4 : Int)) fun x92=>(Res.ok (decide (x91 = x92))))) fun x93=>(if x93 = true then (Res.bind (Res.bind (Res.bind (Res.ok a22.1) fun x98=>(Res.bind (Res.ok none) fun x99=>(Res.bind (Res.bind (Res.bind (Res.ok (1 : Int)) fun x96=>(Res.ok (-x96))) fun x97=>(Res.ok (some x97))) fun x100=>(chk (¬ (HT.sIx x98.length 0 x99 = 0 /\ HT.sIx x98.length x98.length x100 = x98.length)) (Res.ok (Qj x98 x99 x100)))))) fun x101=>(Res.bind (Res.ok a22.2.1) fun x102=>(Res.bind (Res.ok a22.2.2) fun x103=>(Res.ok (x101, x102, x103))))) fun x104=>(Res.bind (Res.ok a13) fun x105=>(Res.bind (Q2 g88 x105 x104) fun a106=>(Res.ok (a106))))) else (Res.ok (g88)))) fun g109=>(Res.bind (Res.bind (Res.bind (Res.bind (Res.ok a_1) fun x110=>(Res.bind (Res.ok (0 : Int)) fun x111=>(atR x110 x111))) fun x112=>(Res.bind (Res.ok (5 : Int)) fun x113=>(Res.ok (decide (x112 = x113))))) fun x114=>(if x114 = true then (Res.bind (Res.bind (Res.bind (Res.ok a22.1) fun x124=>(Res.bind (Res.bind (Res.bind (Res.bind (Res.bind (Res.ok a_1) fun x117=>(Res.bind (Res.ok (2 : Int)) fun x118=>(atR x117 x118))) fun x119=>(Res.bind (Res.ok (6 : Int)) fun x120=>(QK x119 x120))) fun x121=>(Res.bind (Res.ok []) fun x122=>(Res.ok (x121 :: x122)))) fun x123=>(chk (x123.length <= sizeLine) (Res.ok x123))) fun x125=>(chk (0 < x125.length /\ x124.length + x125.length <= sizeLine) (Res.ok (x124 ++ x125))))) fun x126=>(Res.bind (Res.ok a22.2.1) fun x127=>(Res.bind (Res.ok a22.2.2) fun x128=>(Res.ok (x126, x127, x128))))) fun x129=>(Res.bind (Res.ok a13) fun x130=>(Res.bind (Q2 g109 x130 x129) fun a131=>(Res.ok (a131))))) else (Res.ok (g109)))) fun g134=>(Res.bind (Res.bind (Res.bind (Res.bind (Res.ok a_1) fun x135=>(Res.bind (Res.ok (0 : Int)) fun x136=>(atR x135 x136))) fun x137=>(Res.bind (Res.ok (6 : Int)) fun x138=>(Res.ok (decide (x137 = x138))))) fun x139=>(if x139 = true then (Res.bind (Res.bind (Res.bind (Res.bind (Res.ok a22.1) fun x144=>(Res.bind (Res.ok none) fun x145=>(Res.bind (Res.bind (Res.bind (Res.ok (1 : Int)) fun x142=>(Res.ok (-x142))) fun x143=>(Res.ok (some x143))) fun x146=>(chk (¬ (HT.sIx x144.length 0 x145 = 0 /\ HT.sIx x144.length x144.length x146 = x144.length)) (Res.ok (Qj x144 x145 x146)))))) fun x154=>(Res.bind (Res.bind (Res.bind (Res.bind (Res.bind (Res.ok a_1) fun x147=>(Res.bind (Res.ok (2 : Int)) fun x148=>(atR x147 x148))) fun x149=>(Res.bind (Res.ok (2 : Int)) fun x150=>(Res.ok (x149 - x150)))) fun x151=>(Res.bind (Res.ok []) fun x152=>(Res.ok (x151 :: x152)))) fun x153=>(chk (x153.length <= sizeLine) (Res.ok x153))) fun x155=>(chk (0 < x155.length /\ x154.length + x155.length <= sizeLine) (Res.ok (x154 ++ x155))))) fun x156=>(Res.bind (Res.ok a22.2.1) fun x157=>(Res.bind (Res.ok a22.2.2) fun x158=>(Res.ok (x156, x157, x158))))) fun x159=>(Res.bind (Res.ok a13) fun x160=>(Res.bind (Q2 g134 x160 x159) fun a161=>(Res.ok (a161))))) else (Res.ok (g134)))) fun g164=>(Res.bind (Res.bind (Res.bind (Res.bind (Res.ok a_1) fun x165=>(Res.bind (Res.ok (0 : Int)) fun x166=>(atR x165 x166))) fun x167=>(Res.bind (Res.ok (7 : Int)) fun x168=>(Res.ok (decide (x167 = x168))))) fun x169=>(if x169 = true then (Res.bind (Res.bind (Res.bind (Res.ok a22.1) fun x173=>(Res.bind (Res.bind (Res.ok (1 : Int)) fun x172=>(Res.ok (-x172))) fun x174=>(chk (x174 = -1) (Res.ok x173.reverse)))) fun x175=>(Res.bind (Res.ok a22.2.1) fun x176=>(Res.bind (Res.ok a22.2.2) fun x177=>(Res.ok (x175, x176, x177))))) fun x178=>(Res.bind (Res.ok a13) fun x179=>(Res.bind (Q2 g164 x179 x178) fun a180=>(Res.ok (a180))))) else (Res.ok (g164)))) fun g183=>(Res.bind (Res.bind (Res.bind (Res.bind (Res.ok a_1) fun x184=>(Res.bind (Res.ok (0 : Int)) fun x185=>(atR x184 x185))) fun x186=>(Res.bind (Res.ok (8 : Int)) fun x187=>(Res.ok (decide (x186 = x187))))) fun x188=>(if x188 = true then (Res.bind (Res.bind (Res.ok a22.1) fun x192=>(Res.bind (Res.bind (Res.ok (1 : Int)) fun x191=>(Res.ok (-x191))) fun x193=>(Res.bind (Res.ok a22.2.2) fun x194=>(Res.ok (x192, x193, x194))))) fun x195=>(Res.bind (Res.ok a13) fun x196=>(Res.bind (Q2 g183 x196 x195) fun a197=>(Res.ok (a197))))) else (Res.ok (g183)))) fun g200=>(Res.bind (Res.bind (Res.bind (Res.bind (Res.ok a_1) fun x201=>(Res.bind (Res.ok (0 : Int)) fun x202=>(atR x201 x202))) fun x203=>(Res.bind (Res.ok (9 : Int)) fun x204=>(Res.ok (decide (x203 = x204))))) fun x205=>(if x205 = true then (Res.bind (Res.bind (Res.ok a22.1) fun x212=>(Res.bind (Res.ok a22.2.1) fun x213=>(Res.bind (Res.bind (Res.bind (Res.ok (10 : Int)) fun x208=>(Res.bind (Res.ok (59 : Int)) fun x209=>(HE x208 x209))) fun x210=>(Res.bind (Res.ok a22.2.2) fun x211=>(Res.ok (x210 + x211)))) fun x214=>(Res.ok (x212, x213, x214))))) fun x215=>(Res.bind (Res.ok a13) fun x216=>(Res.bind (Q2 g200 x216 x215) fun a217=>(Res.ok (a217))))) else (Res.ok (g200)))) fun g220=>(Res.ok g220)))))))))))))))
noncomputable def Vu (a_0 : (List Int)) : Res (List ((List Int) × Int × Int)):=(Res.bind (Res.ok []) fun a1=>(Res.bind (Res.bind (Res.bind (Res.ok a_0) fun x4=>(Res.bind (Res.ok (0 : Int)) fun x5=>(atR x4 x5))) fun x6=>(QU 0 x6)) fun x62=>(Res.bind (forN x62 (a1) (fun g9 a11=>(Res.bind (Res.bind (Res.ok a_0) fun x25=>(Res.bind (Res.bind (Res.bind (Res.ok (1 : Int)) fun x17=>(Res.bind (Res.bind (Res.ok (8 : Int)) fun x15=>(Res.bind (Res.ok a11) fun x16=>(V7 x15 x16))) fun x18=>(Res.ok (x17 + x18)))) fun x19=>(Res.ok (some x19))) fun x26=>(Res.bind (Res.bind (Res.bind (Res.ok (9 : Int)) fun x22=>(Res.bind (Res.bind (Res.ok (8 : Int)) fun x20=>(Res.bind (Res.ok a11) fun x21=>(V7 x20 x21))) fun x23=>(Res.ok (x22 + x23)))) fun x24=>(Res.ok (some x24))) fun x27=>(Res.ok (Qj x25 x26 x27))))) fun a13=>(Res.bind (Res.bind (Res.bind (Res.bind (Res.ok a13) fun x36=>(Res.bind (Res.bind (Res.ok (3 : Int)) fun x30=>(Res.ok (some x30))) fun x37=>(Res.bind (Res.bind (Res.bind (Res.ok (3 : Int)) fun x33=>(Res.bind (Res.bind (Res.ok a13) fun x31=>(Res.bind (Res.ok (0 : Int)) fun x32=>(atR x31 x32))) fun x34=>(Res.ok (x33 + x34)))) fun x35=>(Res.ok (some x35))) fun x38=>(Res.ok (Qj x36 x37 x38))))) fun x42=>(G3 x42 (fun a40=>(Res.bind (Res.ok a40) fun x43=>(Res.bind (Res.ok (1 : Int)) fun x44=>(Res.ok (x43 - x44))))))) fun x45=>(Res.ok x45)) fun a28=>(Res.bind (Res.bind (Res.ok a28) fun x54=>(Res.bind (Res.bind (Res.bind (Res.ok a13) fun x46=>(Res.bind (Res.ok (1 : Int)) fun x47=>(atR x46 x47))) fun x48=>(Res.bind (Res.ok (1 : Int)) fun x49=>(Res.ok (x48 - x49)))) fun x55=>(Res.bind (Res.bind (Res.bind (Res.ok a13) fun x50=>(Res.bind (Res.ok (2 : Int)) fun x51=>(atR x50 x51))) fun x52=>(Res.bind (Res.ok (1 : Int)) fun x53=>(Res.ok (x52 - x53)))) fun x56=>(Res.ok (x54, x55, x56))))) fun a57=>(chk (g9.length < sizeLine) ((fun a59=>(Res.ok (a59))) (g9 ++ [a57])))))))) fun g60=>(Res.ok g60))))
noncomputable def Kp (a_0 : (List Int)) : Res Bool:=(Res.bind (Res.bind (Res.ok a_0) fun x13=>(Res.bind (Res.ok (3 : Int)) fun x14=>(Res.bind (Res.bind (Res.bind (Res.ok (12 : Int)) fun x11=>(Res.bind (Res.bind (Res.ok (400 : Int)) fun x9=>(Res.bind (Res.bind (Res.ok (8 : Int)) fun x7=>(Res.bind (Res.bind (Res.ok (8 : Int)) fun x5=>(Res.bind (Res.ok []) fun x6=>(Res.ok (x5 :: x6)))) fun x8=>(Res.ok (x7 :: x8)))) fun x10=>(Res.ok (x9 :: x10)))) fun x12=>(Res.ok (x11 :: x12)))) fun x4=>(chk (x4.length <= sizeLine) (Res.ok x4))) fun x15=>(noE (Jd x13 x14 x15))))) fun a1=>(Res.bind (Res.bind (Res.ok a_0) fun x29=>(Res.bind (Res.bind (Res.bind (Res.bind (Res.ok (4 : Int)) fun x20=>(Res.bind (Res.bind (Res.ok (5 : Int)) fun x18=>(Res.bind (Res.ok []) fun x19=>(Res.ok (x18 :: x19)))) fun x21=>(Res.ok (x20 :: x21)))) fun x17=>(chk (x17.length <= sizeLine) (Res.ok x17))) fun x27=>(Res.bind (Res.bind (Res.bind (Res.bind (Res.ok a1) fun x22=>(Res.bind (Res.ok (3 : Int)) fun x23=>(atR x22 x23))) fun x24=>(Res.bind (Res.ok (0 : Int)) fun x25=>(Res.ok (decide (x24 = x25))))) fun x26=>(Res.ok (if x26 = true then (1 : Int) else 0))) fun x28=>(atR x27 x28))) fun x30=>(noE (Vi x29 x30)))) fun a31=>(Res.bind (Res.bind (Res.bind (Res.ok a31.1) fun x38=>(Res.bind (Res.ok a31.2) fun x39=>(noE (Yv x38 x39)))) fun x40=>(Res.bind (Res.ok a1) fun x41=>(noE (Vc x40 x41)))) fun a34=>(Res.bind (Res.bind (Res.bind (Res.bind (Res.ok a1) fun x42=>(Res.bind (Res.ok (3 : Int)) fun x43=>(atR x42 x43))) fun x44=>(Res.bind (Res.ok (1 : Int)) fun x45=>(Res.ok (decide (x44 = x45))))) fun x46=>(if x46 = true then (Res.bind (Res.bind (Res.bind (Res.bind (Res.bind (Res.bind (Res.bind (Res.bind (Res.ok (0 : Int)) fun x58=>(Res.bind (Res.bind (Res.ok (0 : Int)) fun x56=>(Res.bind (Res.ok []) fun x57=>(Res.ok (x56 :: x57)))) fun x59=>(Res.ok (x58 :: x59)))) fun x60=>(chk (x60.length <= sizeLine) (Res.ok x60))) fun x61=>(Res.bind (Res.ok (0 : Int)) fun x62=>(Res.bind (Res.ok (0 : Int)) fun x63=>(Res.ok (x61, x62, x63))))) fun x64=>(Res.bind (Res.ok []) fun x65=>(Res.ok (x64 :: x65)))) fun x55=>(chk (x55.length <= sizeLine) (Res.ok x55))) fun x53=>(Res.bind (Res.ok (970 : Int)) fun x54=>(CO x53 x54))) fun x51=>(Res.bind (Res.ok a34) fun x52=>(UR x51 x52))) fun a49=>(Res.ok (a49))) else (Res.ok (a34)))) fun g67=>(Res.bind (Res.bind (Res.ok g67) fun x70=>(Res.bind (Res.bind (Res.bind (Res.ok a_0) fun x98=>(Res.bind (Res.ok (4 : Int)) fun x99=>(Res.bind (Res.bind (Res.bind (Res.bind (Res.ok (5 : Int)) fun x77=>(Res.bind (Res.ok []) fun x78=>(Res.ok (x77 :: x78)))) fun x76=>(chk (x76.length <= sizeLine) (Res.ok x76))) fun x74=>(Res.bind (Res.bind (Res.bind (Res.bind (Res.ok (5 : Int)) fun x96=>(Res.bind (Res.bind (Res.ok (6 : Int)) fun x94=>(Res.bind (Res.bind (Res.ok (6 : Int)) fun x92=>(Res.bind (Res.bind (Res.ok (6 : Int)) fun x90=>(Res.bind (Res.bind (Res.ok (6 : Int)) fun x88=>(Res.bind (Res.bind (Res.ok (6 : Int)) fun x86=>(Res.bind (Res.bind (Res.ok (6 : Int)) fun x84=>(Res.bind (Res.bind (Res.ok (6 : Int)) fun x82=>(Res.bind (Res.ok []) fun x83=>(Res.ok (x82 :: x83)))) fun x85=>(Res.ok (x84 :: x85)))) fun x87=>(Res.ok (x86 :: x87)))) fun x89=>(Res.ok (x88 :: x89)))) fun x91=>(Res.ok (x90 :: x91)))) fun x93=>(Res.ok (x92 :: x93)))) fun x95=>(Res.ok (x94 :: x95)))) fun x97=>(Res.ok (x96 :: x97)))) fun x81=>(chk (x81.length <= sizeLine) (Res.ok x81))) fun x79=>(Res.bind (Res.ok (4 : Int)) fun x80=>(CO x79 x80))) fun x75=>(UR x74 x75))) fun x100=>(noE (Jd x98 x99 x100))))) fun x101=>(noE (Vu x101))) fun x71=>(UR x70 x71))) fun a68=>(Res.bind (Res.bind (Res.ok a31.1) fun x105=>(Res.bind (Res.ok a31.2) fun x106=>(Res.bind (Res.ok a68) fun x107=>(noE (QX x105 x106 x107))))) fun a102=>(Res.bind (Res.bind (Res.ok a31.1) fun x109=>(noE (ZE x109))) fun a113=>(Res.bind (Res.bind (Res.ok a31.2) fun x111=>(noE (ZE x111))) fun a114=>(Res.bind (Res.bind (Res.ok a68) fun x112=>(Res.ok x112)) fun a115=>(Res.bind (Res.bind (Res.ok (2 : Int)) fun x119=>(QU 0 x119)) fun x157=>(Res.bind (forC x157 () (fun g122 a124=>(Res.bind (Res.bind (Res.ok a113) fun x129=>(Res.bind (Res.ok a114) fun x130=>(Res.bind (Res.ok a115) fun x131=>(noE (Z0 x129 x130 x131))))) fun a126=>(Res.bind (orR (Res.bind (Res.bind (Res.ok a126) fun x132=>(Res.ok true)) fun x133=>(Res.ok (!x133))) (Res.bind (Res.ok a126) fun x134=>(Res.bind (Res.ok a102) fun x135=>(Res.ok (!(decide (x134 = x135))))))) fun x136=>(if x136 = true then (Res.bind (Res.ok false) fun x138=>(Res.ok (Ctl.ret x138))) else (Res.bind (Res.ok ()) fun x137=>(Res.ok (Ctl.nx x137)))))))) (Js fun g139=>(Res.bind (orR (Res.bind (Res.ok a113) fun x141=>(Res.bind (Res.ok a31.1) fun x142=>(Res.ok (!(decide (x141 = x142)))))) (orR (Res.bind (Res.ok a114) fun x143=>(Res.bind (Res.ok a31.2) fun x144=>(Res.ok (!(decide (x143 = x144)))))) (Res.bind (Res.ok a115) fun x145=>(Res.bind (Res.ok a68) fun x146=>(Res.ok (!(decide (x145 = x146)))))))) fun x147=>(if x147 = true then (Res.ok false) else (orR (Res.bind (Res.ok a102) fun x154=>(Res.bind (Res.bind (Res.bind (Res.bind (Res.ok a31.1) fun x149=>(Res.bind (Res.ok a31.2) fun x150=>(noE (ZF x149 x150)))) fun x151=>(Res.ok (x151.length : Int))) fun x152=>(Res.bind (Res.ok (0 : Int)) fun x153=>(Res.ok (decide (x153 < x152))))) fun x155=>(Res.ok (!(decide (x154 = x155)))))) (Res.bind (Res.ok a102) fun x156=>(Res.ok (!x156))))))))))))))))))
end My
namespace L2
open PySem
section
variable {α β γ ρ : Type}
theorem Res.okb (a : α) (f : α -> Res β) : (Res.ok a).bind f = f a:=(Eq.refl (f a)).symm.symm
theorem Fb {f : α -> Res β} {h : α -> β} : ∀ {as : List α}, (∀ a ∈ as, f a = .ok (h a)) -> GV as f = .ok (as.map h)
  | [], _=>rfl
  | a :: as, hf=>by
    show (f a).bind _ = _
    rw [hf a (by simp), Res.ok_bind, Fb fun b hb=>hf b (by simp [hb])]; rfl
theorem Qt {f : α -> Res β} {h : α -> β} {as : List α} (hl : as.length <= sizeLine) (hf : ∀ a ∈ as, f a = .ok (h a)) : G3 as f = .ok (as.map h):=by
  unfold G3; rw [Xv hl]; exact Fb hf
theorem GX {c : α -> Res Bool} {f : α -> Res β} {p : α -> Bool} {h : α -> β} : ∀ {as : List α}, (∀ a ∈ as, c a = .ok (p a)) -> (∀ a ∈ as, p a = true -> f a = .ok (h a)) -> Gh as c f = .ok ((as.filter p).map h)
  | [], _, _=>rfl
  | a :: as, hc, hf=>by
    show (c a).bind _ = _
    rw [hc a (by simp), Res.ok_bind]
    have ih:=GX (as:=as) (fun b hb=>hc b (by simp [hb])) fun b hb=>hf b (by simp [hb])
    cases hp : p a with
    | false=>rw [if_neg (by simp), ih, List.filter_cons, hp]; rfl
    | true=>rw [if_pos rfl, hf a (by simp) hp, Res.ok_bind, ih, List.filter_cons, hp]; rfl
theorem Dv {c : α -> Res Bool} {f : α -> Res β} {p : α -> Bool} {h : α -> β} {as : List α} (hl : as.length <= sizeLine) (hc : ∀ a ∈ as, c a = .ok (p a)) (hf : ∀ a ∈ as, p a = true -> f a = .ok (h a)) : Il as c f = .ok ((as.filter p).map h):=by
  unfold Il; rw [Xv hl]; exact GX hc hf
theorem Ul {f : γ -> α -> Res γ} (P : Nat -> γ -> Prop) : ∀ (as : List α) (k : Nat) (g : γ), P k g -> (∀ i a g, as[i]? = some a -> P (k + i) g -> ∃ g', f g a = .ok g' /\ P (k + i + 1) g') -> ∃ g', forN as g f = .ok g' /\ P (k + as.length) g'
  | [], k, g, h0, _=>⟨g, rfl, h0⟩
  | a :: as, k, g, h0, hs=>by
    obtain ⟨g1, e1, p1⟩:=hs 0 a g rfl h0
    obtain ⟨g2, e2, p2⟩:=Ul P as (k + 1) g1 p1 fun i b g hb hp=>by
      obtain ⟨g', e', p'⟩:=hs (i + 1) b g (by simpa using hb) (by rw [show k + (i + 1) = k + 1 + i by omega]; exact hp)
      exact ⟨g', e', by rw [show k + 1 + i + 1 = k + (i + 1) + 1 by omega]; exact p'⟩
    refine ⟨g2, ?_, by rw [List.length_cons, show k + (as.length + 1) = k + 1 + as.length by omega]; exact p2⟩
    show (f g a).bind _ = _
    rw [e1, Res.ok_bind]; exact e2
theorem Gf {f : γ -> α -> Res γ} (P : Nat -> γ -> Prop) {as : List α} {g : γ} (h0 : P 0 g) (hs : ∀ i a g, as[i]? = some a -> P i g -> ∃ g', f g a = .ok g' /\ P (i + 1) g') : ∃ g', forN as g f = .ok g' /\ P as.length g':=by
  have:=Ul P as 0 g h0 (by simpa using hs)
  simpa using this
theorem QC {f : List β -> α -> Res (List β)} {h : α -> β} : ∀ {as : List α} {g : List β}, g.length + as.length <= sizeLine -> (∀ g : List β, g.length < sizeLine -> ∀ a ∈ as, f g a = .ok (g ++ [h a])) -> forN as g f = .ok (g ++ as.map h)
  | [], g, _, _=>by simp [forN]
  | a :: as, g, hl, hf=>by
    show (f g a).bind _ = _
    rw [List.length_cons] at hl
    rw [hf g (by omega) a (by simp), Res.ok_bind, QC (by simp; omega) fun g hg b hb=>hf g hg b (by simp [hb])]
    simp
theorem UD {f : γ -> α -> Res (Ctl ρ γ)} (P : Nat -> γ -> Prop) : ∀ (as : List α) (k : Nat) (g : γ), P k g -> (∀ i a g, as[i]? = some a -> P (k + i) g -> ∃ g', f g a = .ok (.nx g') /\ P (k + i + 1) g') -> ∃ g', forC as g f = .ok (.nx g') /\ P (k + as.length) g'
  | [], k, g, h0, _=>⟨g, rfl, h0⟩
  | a :: as, k, g, h0, hs=>by
    obtain ⟨g1, e1, p1⟩:=hs 0 a g rfl h0
    obtain ⟨g2, e2, p2⟩:=UD P as (k + 1) g1 p1 fun i b g hb hp=>by
      obtain ⟨g', e', p'⟩:=hs (i + 1) b g (by simpa using hb) (by rw [show k + (i + 1) = k + 1 + i by omega]; exact hp)
      exact ⟨g', e', by rw [show k + 1 + i + 1 = k + (i + 1) + 1 by omega]; exact p'⟩
    refine ⟨g2, ?_, by rw [List.length_cons, show k + (as.length + 1) = k + 1 + as.length by omega]; exact p2⟩
    show (f g a).bind _ = _
    rw [e1, Res.ok_bind]; exact e2
theorem Bp {f : γ -> α -> Res (Ctl ρ γ)} (P : Nat -> γ -> Prop) {as : List α} {g : γ} (h0 : P 0 g) (hs : ∀ i a g, as[i]? = some a -> P i g -> ∃ g', f g a = .ok (.nx g') /\ P (i + 1) g') : ∃ g', forC as g f = .ok (.nx g') /\ P as.length g':=by
  have:=UD P as 0 g h0 (by simpa using hs)
  simpa using this
theorem Yp {a b : Int} (h : 0 < b) : QK a b = .ok (a % b):=Xv h
theorem QR {a b : Int} (h1 : -(2 ^ 64) < a) (h2 : a < 2 ^ 64) : V7 a b = .ok (a * b):=Xv (.inl ⟨h1, h2⟩)
theorem JI {a b : Int} (h1 : -(2 ^ 64) < b) (h2 : b < 2 ^ 64) : V7 a b = .ok (a * b):=Xv (.inr ⟨h1, h2⟩)
theorem Fv {a b : Int} (h : 0 < b) (h2 : b < 2 ^ 250) : Hb a b = .ok (a / b):=Xv ⟨h, by
  have h3 : b.natAbs < 2 ^ 250:=by omega
  rcases Nat.eq_zero_or_pos b.natAbs with h0 | h0
  . omega
  . have := (Nat.log2_lt (by omega)).mpr h3
    omega⟩
theorem G2 {a b : Int} (h0 : 0 <= b) (h1 : b <= 1000000) (h2 : -(2 ^ 64) < a) (h3 : a < 2 ^ 64) : HE a b = .ok (a ^ b.toNat):=Xv ⟨h0, h1, by omega⟩
theorem Z2 {as : List α} {i : Nat} {a : α} (h : as[i]? = some a) : atR as (i : Int) = .ok a:=by
  have hlt:=(List.getElem?_eq_some_iff.mp h).1
  unfold atR atI ixN
  rw [if_pos (by omega), if_pos (by omega)]
  simp [h]
theorem Hy {as : List α} {i : Int} {a : α} (h0 : 0 <= i) (h : as[i.toNat]? = some a) : atR as i = .ok a:=by
  have : i = (i.toNat : Int):=by omega
  rw [this]; exact Z2 h
theorem Za {n : Nat} (h : n < 2 ^ 62) : QU 0 (n : Int) = .ok ((List.range n).map fun (i : Nat)=>(i : Int)):=by
  unfold QU
  rw [Xv (by omega)]
  unfold ZT
  congr 1
  rw [Int.sub_zero, Int.toNat_natCast]
  exact List.map_congr_left fun i _=>by omega
theorem YB {n i : Nat} {a : Int} (h : ((List.range n).map fun (i : Nat)=>(i : Int))[i]? = some a) : a = (i : Int) /\ i < n:=by
  have hlt:=(List.getElem?_eq_some_iff.mp h).1
  simp only [List.length_map, List.length_range] at hlt
  rw [List.getElem?_map, List.getElem?_range hlt] at h
  exact ⟨(Option.some.inj h).symm, hlt⟩
theorem YA {n : Nat} {a : Int} (h : a ∈ (List.range n).map fun (i : Nat)=>(i : Int)) : ∃ i : Nat, i < n /\ a = (i : Int):=by
  obtain ⟨i, hi, rfl⟩:=List.mem_map.mp h
  exact ⟨i, List.mem_range.mp hi, rfl⟩
theorem YC {n : Nat} : ((List.range n).map fun (i : Nat)=>(i : Int)).length = n:=by simp
theorem UP {a : Bool} {b : Res Bool} {c : Bool} (h : a = true -> b = .ok c) : QW (.ok a) b = .ok (a && c):=by
  cases a with
  | false=>rfl
  | true=>
    show (if true = true then b else Res.ok false) = _
    rw [if_pos rfl, h rfl]; rfl
theorem Lc {a : Bool} {b : Res Bool} {c : Bool} (h : a = false -> b = .ok c) : orR (.ok a) b = .ok (a || c):=by
  cases a with
  | true=>rfl
  | false=>
    show (if false = true then Res.ok true else b) = _
    rw [if_neg Bool.false_ne_true, h rfl]; rfl
theorem sz {n : Nat} (h : n <= 100000) : n <= sizeLine:=Nat.le_trans h (by decide)
theorem BB {n : Nat} (h : n <= 100000) : n < sizeLine:=Nat.lt_of_le_of_lt h (by decide)
noncomputable def Ok (m : Res β) (R : β -> Prop) : Prop:=∃ r, m = .ok r /\ R r
theorem Ok.pure {R : β -> Prop} {a : β} (h : R a) : Ok (.ok a) R:=⟨a, rfl, h⟩
theorem Ok.bind {m : Res α} {f : α -> Res β} {R : α -> Prop} {T : β -> Prop} (h : Ok m R) (hf : ∀ a, R a -> Ok (f a) T) : Ok (m.bind f) T:=by
  obtain ⟨a, e, ha⟩:=h
  rw [e]; exact hf a ha
theorem Ok.imp {m : Res α} {R T : α -> Prop} (h : Ok m R) (hf : ∀ a, R a -> T a) : Ok m T:=by
  obtain ⟨a, e, ha⟩:=h
  exact ⟨a, e, hf a ha⟩
theorem Ok.noE {m : Res α} {R : α -> Prop} (h : Ok m R) : Ok (noE m) R:=by
  obtain ⟨a, e, ha⟩:=h
  rw [e]; exact ⟨a, rfl, ha⟩
theorem Ok.chk {c : Prop} [Decidable c] {m : Res α} {R : α -> Prop} (hc : c) (h : Ok m R) : Ok (chk c m) R:=by rw [Xv hc]; exact h
theorem Ok.ite {b : Bool} {m n : Res α} {R : α -> Prop} (h1 : b = true -> Ok m R) (h2 : b = false -> Ok n R) : Ok (if b = true then m else n) R:=by
  cases b with
  | true=>rw [if_pos rfl]; exact h1 rfl
  | false=>rw [if_neg Bool.false_ne_true]; exact h2 rfl
theorem Ok.forN {f : γ -> α -> Res γ} (P : Nat -> γ -> Prop) {as : List α} {g : γ} (h0 : P 0 g) (hs : ∀ i a g, as[i]? = some a -> P i g -> Ok (f g a) (P (i + 1))) : Ok (forN as g f) (P as.length):=Gf P h0 hs
theorem Ok.forC {f : γ -> α -> Res (Ctl ρ γ)} (P : Nat -> γ -> Prop) {as : List α} {g : γ} (h0 : P 0 g) (hs : ∀ i a g, as[i]? = some a -> P i g -> ∃ g', f g a = .ok (.nx g') /\ P (i + 1) g') : Ok (forC as g f) (fun c=>∃ g', c = .nx g' /\ P as.length g'):=by
  obtain ⟨g', e, h⟩:=Bp P h0 hs
  exact ⟨_, e, g', rfl, h⟩
theorem VM {f : γ -> Res ρ} (g : γ) : Js f (.nx g) = f g:=(Eq.refl (f g)).symm.symm
theorem UI {f : γ -> Res ρ} (r : ρ) : Js f (.ret r) = .ok r:=(Eq.refl (Res.ok r)).symm.symm
theorem Fx {δ : Type} {f : γ -> Res (Ctl ρ δ)} (g : γ) : ZN f (.nx g) = f g:=(Eq.refl (f g)).symm.symm
theorem GI {δ : Type} {f : γ -> Res (Ctl ρ δ)} (r : ρ) : ZN f (.ret r) = .ok (.ret r):=(Eq.refl (Res.ok (Ctl.ret r))).symm.symm
theorem XO (a : α) : noE (Res.ok a) = .ok a:=(Eq.refl (Res.ok a)).symm.symm
theorem Ok.of {m : Res α} {a : α} (h : m = .ok a) : Ok m (fun b=>b = a):=⟨a, h, rfl⟩
theorem Ok.eq {m : Res α} {a : α} (h : Ok m (fun b=>b = a)) : m = .ok a:=by
  obtain ⟨b, e, rfl⟩:=h
  exact e
theorem Iu {m : Res α} {a : α} (h : m = .ok a) : noE m = .ok a:=by rw [h]; rfl
end
end L2
namespace My
noncomputable def ZQ (n : Nat) (f : Nat -> Nat -> Nat) (a : Nat) : List Int:=(List.range n).map fun b=>(f a b : Int)
noncomputable def XM (n : Nat) (f : Nat -> Nat -> Nat) : List (List Int):=(List.range n).map (ZQ n f)
theorem Zr (n : Nat) (f : Nat -> Nat -> Nat) (a : Nat) : (ZQ n f a).length = n:=by simp [ZQ]
theorem Xu (n : Nat) (f : Nat -> Nat -> Nat) : (XM n f).length = n:=by simp [XM]
theorem Jq {n : Nat} {f : Nat -> Nat -> Nat} {a b : Nat} (h : b < n) : (ZQ n f a)[b]? = some (f a b : Int):=by
  unfold ZQ; rw [List.getElem?_map, List.getElem?_range h]; rfl
theorem J3 {n : Nat} {f : Nat -> Nat -> Nat} {a : Nat} (h : a < n) : (XM n f)[a]? = some (ZQ n f a):=by
  unfold XM; rw [List.getElem?_map, List.getElem?_range h]; rfl
theorem J1 {n : Nat} {f g : Nat -> Nat -> Nat} {a : Nat} (h : ∀ b, b < n -> f a b = g a b) : ZQ n f a = ZQ n g a:=by
  unfold ZQ
  exact List.map_congr_left fun b hb=>by rw [h b (List.mem_range.mp hb)]
theorem Zj {n : Nat} {f g : Nat -> Nat -> Nat} (h : ∀ a b, a < n -> b < n -> f a b = g a b) : XM n f = XM n g:=by
  unfold XM
  exact List.map_congr_left fun a ha=>J1 fun b hb=>h a b (List.mem_range.mp ha) hb
structure Col (n : Nat) (f : Nat -> Nat -> Nat) : Prop where
  lt : ∀ a b, a < n -> b < n -> f a b < n
  r2 : ∀ x y b, x < n -> y < n -> b < n -> f x b = f y b -> x = y
structure GoodF (n : Nat) (f : Nat -> Nat -> Nat) : Prop extends Col n f where
  r1 : ∀ a, a < n -> f a a = a
  r3 : ∀ a b c, a < n -> b < n -> c < n -> f (f a b) c = f (f a c) (f b c)
theorem GoodF.congr {n : Nat} {f g : Nat -> Nat -> Nat} (h : GoodF n f) (e : ∀ a b, a < n -> b < n -> g a b = f a b) : GoodF n g where
  lt a b ha hb:=by rw [e a b ha hb]; exact h.lt a b ha hb
  r2 x y b hx hy hb q:=by rw [e x b hx hb, e y b hy hb] at q; exact h.r2 x y b hx hy hb q
  r1 a ha:=by rw [e a a ha ha]; exact h.r1 a ha
  r3 a b c ha hb hc:=by
    rw [e a b ha hb, e a c ha hc, e b c hb hc, e _ c (h.lt a b ha hb) hc, e _ _ (h.lt a c ha hc) (h.lt b c hb hc)]
    exact h.r3 a b c ha hb hc
theorem JS : ∀ (n : Nat) (p : Nat -> Nat), (∀ a, a < n -> p a < n) -> (∀ a b, a < n -> b < n -> p a = p b -> a = b) -> ∀ y, y < n -> ∃ x, x < n /\ p x = y
  | 0, _, _, _, y, hy=>absurd hy (Nat.not_lt_zero _)
  | n + 1, p, hl, hi, y, hy=>by
    by_cases hh : ∃ x, x < n + 1 /\ p x = y
    . exact hh
    . exfalso
      -- send n to y, and y's place away
      have hne : ∀ x, x < n + 1 -> p x ≠ y:=fun x hx e=>hh ⟨x, hx, e⟩
      -- among the first n: p', which skips y
      let s : Nat -> Nat:=fun v=>if v < y then v else v - 1
      have hs : ∀ a, a < n + 1 -> s (p a) < n:=fun a ha=>by
        have h1:=hl a ha; have h2:=hne a ha
        show (if p a < y then p a else p a - 1) < n
        split <;> omega
      have hsi : ∀ a b, a < n + 1 -> b < n + 1 -> s (p a) = s (p b) -> a = b:=fun a b ha hb e=>by
        have h1:=hne a ha; have h2:=hne b hb
        refine hi a b ha hb ?_
        have e' : (if p a < y then p a else p a - 1) = (if p b < y then p b else p b - 1):=e
        split at e' <;> split at e' <;> omega
      obtain ⟨x, hx, ex⟩:=JS n (fun a=>s (p a)) (fun a ha=>hs a (by omega)) (fun a b ha hb e=>hsi a b (by omega) (by omega) e) (s (p n)) (hs n (by omega))
      have:=hsi x n (by omega) (by omega) ex
      omega
structure PermN (n : Nat) (p q : Nat -> Nat) : Prop where
  lt : ∀ a, a < n -> p a < n
  qlt : ∀ a, a < n -> q a < n
  pq : ∀ a, a < n -> p (q a) = a
  qp : ∀ a, a < n -> q (p a) = a
theorem PermN.good {n : Nat} {p q : Nat -> Nat} {f : Nat -> Nat -> Nat} (h : PermN n p q) (g : GoodF n f) : GoodF n (fun x y=>p (f (q x) (q y))) where
  lt a b ha hb:=h.lt _ (g.lt _ _ (h.qlt a ha) (h.qlt b hb))
  r2 x y b hx hy hb e:=by
    have e1 : q (p (f (q x) (q b))) = q (p (f (q y) (q b))):=congrArg q e
    rw [h.qp _ (g.lt _ _ (h.qlt x hx) (h.qlt b hb)), h.qp _ (g.lt _ _ (h.qlt y hy) (h.qlt b hb))] at e1
    have:=g.r2 _ _ _ (h.qlt x hx) (h.qlt y hy) (h.qlt b hb) e1
    rw [← h.pq x hx, ← h.pq y hy, this]
  r1 a ha:=by
    show p (f (q a) (q a)) = a
    rw [g.r1 _ (h.qlt a ha), h.pq a ha]
  r3 a b c ha hb hc:=by
    have l1:=g.lt _ _ (h.qlt a ha) (h.qlt b hb)
    have l2:=g.lt _ _ (h.qlt a ha) (h.qlt c hc)
    have l3:=g.lt _ _ (h.qlt b hb) (h.qlt c hc)
    show p (f (q (p (f (q a) (q b)))) (q c)) = p (f (q (p (f (q a) (q c)))) (q (p (f (q b) (q c)))))
    rw [h.qp _ l1, h.qp _ l2, h.qp _ l3, g.r3 _ _ _ (h.qlt a ha) (h.qlt b hb) (h.qlt c hc)]
theorem E2 {n : Nat} {p : Nat -> Nat} (hl : ∀ a, a < n -> p a < n) (hi : ∀ a b, a < n -> b < n -> p a = p b -> a = b) : ∃ q, PermN n p q:=by
  have ho:=JS n p hl hi
  refine ⟨fun y=>if h : y < n then Classical.choose (ho y h) else 0, hl, fun a ha=>?_, fun a ha=>?_, fun a ha=>?_⟩
  . simp only [dif_pos ha]; exact (Classical.choose_spec (ho a ha)).1
  . simp only [dif_pos ha]; exact (Classical.choose_spec (ho a ha)).2
  . simp only [dif_pos (hl a ha)]
    have:=Classical.choose_spec (ho (p a) (hl a ha))
    exact hi _ _ this.1 ha this.2
theorem Ka {A B n z : Int} (h : A - B = n * z) : A % n = B % n:=by
  have : A = B + n * z:=by omega
  rw [this, Int.add_mul_emod_self_left]
noncomputable def G0 (k n a b : Int) : Int:=(k * a + (1 - k) * b) % n
noncomputable def Cg (k : Int) (n : Nat) (a b : Nat) : Nat:=(G0 k n a b).toNat
theorem Yc {k : Int} {n : Nat} (hn : 0 < n) (a b : Nat) : ((Cg k n a b : Nat) : Int) = G0 k n a b:=by
  unfold Cg
  have:=Int.emod_nonneg (k * a + (1 - k) * b) (show (n : Int) ≠ 0 by omega)
  unfold G0
  omega
theorem V3 {k : Int} {n : Nat} (hn : 0 < n) (hk : ∀ x : Int, (n : Int) ∣ k * x -> (n : Int) ∣ x) : GoodF n (Cg k n) where
  lt a b _ _:=by
    have h:=Yc (k:=k) hn a b
    have:=Int.emod_lt_of_pos (k * a + (1 - k) * b) (show 0 < (n : Int) by omega)
    unfold G0 at h
    omega
  r1 a ha:=by
    have h:=Yc (k:=k) hn a a
    have e : k * (a : Int) + (1 - k) * a = a:=by grind
    unfold G0 at h
    rw [e, Int.emod_eq_of_lt (by omega) (by omega)] at h
    omega
  r2 x y b hx hy hb e:=by
    have h1:=Yc (k:=k) hn x b
    have h2:=Yc (k:=k) hn y b
    rw [e, h2] at h1
    unfold G0 at h1
    have:=Int.emod_eq_emod_iff_emod_sub_eq_zero.mp h1
    have hd : (n : Int) ∣ k * ((y : Int) - x):=by
      have:=Int.dvd_of_emod_eq_zero this
      have e2 : (k * (y : Int) + (1 - k) * b) - (k * x + (1 - k) * b) = k * ((y : Int) - x):=by grind
      rwa [e2] at this
    obtain ⟨z, hz⟩:=hk _ hd
    have hz1 : z < 1:=by
      apply Int.lt_of_mul_lt_mul_left (a:=(n : Int)) _ (by omega)
      omega
    have hz2 : -1 < z:=by
      apply Int.lt_of_mul_lt_mul_left (a:=(n : Int)) _ (by omega)
      omega
    have : z = 0:=by omega
    subst this
    omega
  r3 a b c _ _ _:=by
    have e1:=Yc (k:=k) hn a b
    have e2:=Yc (k:=k) hn a c
    have e3:=Yc (k:=k) hn b c
    have e4:=Yc (k:=k) hn (Cg k n a b) c
    have e5:=Yc (k:=k) hn (Cg k n a c) (Cg k n b c)
    have hh : G0 k n (Cg k n a b : Nat) c = G0 k n (Cg k n a c : Nat) (Cg k n b c : Nat):=by
      rw [e1, e2, e3]
      unfold G0
      have q1:=Int.emod_add_mul_ediv (k * (a : Int) + (1 - k) * b) n
      have q2:=Int.emod_add_mul_ediv (k * (a : Int) + (1 - k) * c) n
      have q3:=Int.emod_add_mul_ediv (k * (b : Int) + (1 - k) * c) n
      generalize (k * (a : Int) + (1 - k) * b) / n = d1 at q1
      generalize (k * (a : Int) + (1 - k) * c) / n = d2 at q2
      generalize (k * (b : Int) + (1 - k) * c) / n = d3 at q3
      generalize (k * (a : Int) + (1 - k) * b) % n = m1 at *
      generalize (k * (a : Int) + (1 - k) * c) % n = m2 at *
      generalize (k * (b : Int) + (1 - k) * c) % n = m3 at *
      refine Ka (z:=-k * d1 + k * d2 + (1 - k) * d3) ?_
      grind
    omega
theorem GT {k : Int} {n : Nat} (h : Int.gcd k n = 1) (x : Int) (hd : (n : Int) ∣ k * x) : (n : Int) ∣ x:=by
  have h1:=Int.natAbs_dvd_natAbs.mpr hd
  rw [Int.natAbs_mul, Int.natAbs_natCast] at h1
  have h2 : Nat.Coprime n k.natAbs:=by
    have : Nat.gcd k.natAbs n = 1:=h
    rw [Nat.gcd_comm] at this
    exact this
  exact Int.natAbs_dvd_natAbs.mp (by rw [Int.natAbs_natCast]; exact h2.dvd_of_dvd_mul_left h1)
theorem KB {n : Nat} (x : Int) (hd : (n : Int) ∣ (-1) * x) : (n : Int) ∣ x:=by
  have : (-1) * x = -x:=by omega
  rw [this] at hd
  exact Int.dvd_neg.mp hd
theorem QS (n : Nat) : GoodF n (fun a _=>a):=⟨⟨fun _ _ h _=>h, fun _ _ _ _ _ _ e=>e⟩, fun _ _=>rfl, fun _ _ _ _ _ _=>rfl⟩
theorem Uc {n : Nat} {p : Nat -> Nat} (h1 : ∀ a, a < n -> p a < n) (h2 : ∀ a, a + 1 = n -> p a = a) (h3 : ∀ x y, x < n -> y < n -> p x = p y -> x = y) : GoodF n (fun a b=>if b + 1 = n then p a else a) where
  lt a b ha hb:=by
    show (if b + 1 = n then p a else a) < n
    split
    . exact h1 a ha
    . exact ha
  r1 a ha:=by
    show (if a + 1 = n then p a else a) = a
    split
    . next h=>exact h2 a h
    . rfl
  r2 x y b hx hy hb e:=by
    have e : (if b + 1 = n then p x else x) = if b + 1 = n then p y else y:=e
    by_cases h : b + 1 = n
    . rw [if_pos h, if_pos h] at e; exact h3 x y hx hy e
    . rw [if_neg h, if_neg h] at e; exact e
  r3 a b c ha hb hc:=by
    show (if c + 1 = n then p (if b + 1 = n then p a else a) else if b + 1 = n then p a else a) = if (if c + 1 = n then p b else b) + 1 = n then p (if c + 1 = n then p a else a) else if c + 1 = n then p a else a
    by_cases h : c + 1 = n
    . rw [if_pos h, if_pos h, if_pos h]
      by_cases g : b + 1 = n
      . rw [if_pos g, h2 b g, if_pos g]
      . rw [if_neg g, if_neg fun z => g ?_]
        have hp : p b = b:=by
          refine h3 _ _ (h1 b hb) hb (h2 _ z)
        rw [hp] at z
        exact z
    . rw [if_neg h, if_neg h, if_neg h]
theorem Fp (n : Nat) : GoodF n (fun a b=>if 2 < n /\ a < 2 /\ b + 1 = n then 1 - a else a):=by
  by_cases hn : 2 < n
  . refine (Uc (n := n) (p := fun a => if a < 2 then 1 - a else a) (fun a ha => ?_) (fun a ha => if_neg (by omega)) fun x y _ _ e => ?_).congr fun a b _ _ => ?_
    . show (if a < 2 then 1 - a else a) < n
      split
      . omega
      . exact ha
    . have e : (if x < 2 then 1 - x else x) = if y < 2 then 1 - y else y := e
      by_cases h : x < 2
      . by_cases g : y < 2
        . rw [if_pos h, if_pos g] at e; clear hn; omega
        . rw [if_pos h, if_neg g] at e; clear hn; omega
      . by_cases g : y < 2
        . rw [if_neg h, if_pos g] at e; clear hn; omega
        . rw [if_neg h, if_neg g] at e; exact e
    . show (if 2 < n /\ a < 2 /\ b + 1 = n then 1 - a else a) = if b + 1 = n then (if a < 2 then 1 - a else a) else a
      by_cases g : b + 1 = n
      . rw [if_pos g]
        by_cases h : a < 2
        . rw [if_pos h, if_pos ⟨hn, h, g⟩]
        . rw [if_neg h, if_neg fun z=>h z.2.1]
      . rw [if_neg g, if_neg fun z=>g z.2.2]
  . exact (QS n).congr fun a b _ _=>if_neg fun z=>hn z.1
theorem Gw (n : Nat) : GoodF n (fun a b=>if a + 1 < n /\ b + 1 = n then (if a + 2 < n then a + 1 else 0) else a):=by
  refine (Uc (n:=n) (p:=fun a=>if a + 1 < n then (if a + 2 < n then a + 1 else 0) else a) (fun a ha=>?_) (fun a ha=>if_neg (by omega)) fun x y hx hy e=>?_).congr fun a b _ _=>?_
  . show (if a + 1 < n then (if a + 2 < n then a + 1 else 0) else a) < n
    split
    . split
      . assumption
      . exact Nat.lt_of_le_of_lt (Nat.zero_le _) ha
    . exact ha
  . have e : (if x + 1 < n then (if x + 2 < n then x + 1 else 0) else x) = if y + 1 < n then (if y + 2 < n then y + 1 else 0) else y := e
    by_cases h : x + 1 < n
    . rw [if_pos h] at e
      by_cases g : y + 1 < n
      . rw [if_pos g] at e
        by_cases h' : x + 2 < n
        . rw [if_pos h'] at e
          by_cases g' : y + 2 < n
          . rw [if_pos g'] at e; exact Nat.succ.inj e
          . rw [if_neg g'] at e; exact nomatch e
        . rw [if_neg h'] at e
          by_cases g' : y + 2 < n
          . rw [if_pos g'] at e; exact nomatch e
          . clear e hx hy; omega
      . rw [if_neg g] at e
        by_cases h' : x + 2 < n
        . rw [if_pos h'] at e; clear hx hy h; omega
        . rw [if_neg h'] at e; clear hx hy h'; omega
    . rw [if_neg h] at e
      by_cases g : y + 1 < n
      . rw [if_pos g] at e
        by_cases h' : y + 2 < n
        . rw [if_pos h'] at e; clear hx hy g; omega
        . rw [if_neg h'] at e; clear hx hy h'; omega
      . rw [if_neg g] at e; exact e
  . show (if a + 1 < n /\ b + 1 = n then (if a + 2 < n then a + 1 else 0) else a) = if b + 1 = n then (if a + 1 < n then (if a + 2 < n then a + 1 else 0) else a) else a
    by_cases g : b + 1 = n
    . rw [if_pos g]
      by_cases h : a + 1 < n
      . rw [if_pos h, if_pos ⟨h, g⟩]
      . rw [if_neg h, if_neg fun z=>h z.1]
    . rw [if_neg g, if_neg fun z=>g z.2]
noncomputable def Va (h : Nat) (f g : Nat -> Nat -> Nat) (a b : Nat) : Nat:=if a < h /\ b < h then f a b else if h <= a /\ h <= b then h + g (a - h) (b - h) else a
theorem Fc {h m : Nat} {f g : Nat -> Nat -> Nat} (F : GoodF h f) (G : GoodF m g) : GoodF (h + m) (Va h f g):=by
  have s1 : ∀ a b, a < h -> b < h -> Va h f g a b = f a b:=fun a b ha hb=>by unfold Va; rw [if_pos ⟨ha, hb⟩]
  have s2 : ∀ a b, Va h f g (h + a) (h + b) = h + g a b:=fun a b=>by unfold Va; rw [if_neg (by omega), if_pos (by omega), Nat.add_sub_cancel_left, Nat.add_sub_cancel_left]
  have s3 : ∀ a b, a < h -> Va h f g a (h + b) = a:=fun a b ha=>by unfold Va; rw [if_neg (by omega), if_neg (by omega)]
  have s4 : ∀ a b, b < h -> Va h f g (h + a) b = h + a:=fun a b ha=>by unfold Va; rw [if_neg (by omega), if_neg (by omega)]
  have up : ∀ a, h <= a -> ∃ a', a = h + a':=fun a ha=>⟨a - h, by omega⟩
  refine ⟨⟨fun a b ha hb=>?_, fun x y b hx hy hb e=>?_⟩, fun a ha=>?_, fun a b c ha hb hc=>?_⟩
  . by_cases h1 : a < h <;> by_cases h2 : b < h
    . rw [s1 a b h1 h2]; have:=F.lt a b h1 h2; omega
    . obtain ⟨b, rfl⟩:=up b (by omega); rw [s3 a b h1]; omega
    . obtain ⟨a, rfl⟩:=up a (by omega); rw [s4 a b h2]; omega
    . obtain ⟨a, rfl⟩ := up a (by omega); obtain ⟨b, rfl⟩ := up b (by omega)
      rw [s2]; have:=G.lt a b (by omega) (by omega); omega
  . by_cases h1 : x < h <;> by_cases h2 : y < h <;> by_cases h3 : b < h
    . rw [s1 _ _ h1 h3, s1 _ _ h2 h3] at e; exact F.r2 x y b h1 h2 h3 e
    . obtain ⟨b, rfl⟩:=up b (by omega); rw [s3 _ _ h1, s3 _ _ h2] at e; exact e
    . obtain ⟨y, rfl⟩:=up y (by omega); rw [s1 _ _ h1 h3, s4 _ _ h3] at e; have:=F.lt x b h1 h3; omega
    . obtain ⟨y, rfl⟩:=up y (by omega); obtain ⟨b, rfl⟩:=up b (by omega); rw [s3 _ _ h1, s2] at e; omega
    . obtain ⟨x, rfl⟩:=up x (by omega); rw [s4 _ _ h3, s1 _ _ h2 h3] at e; have:=F.lt y b h2 h3; omega
    . obtain ⟨x, rfl⟩:=up x (by omega); obtain ⟨b, rfl⟩:=up b (by omega); rw [s2, s3 _ _ h2] at e; omega
    . obtain ⟨x, rfl⟩:=up x (by omega); obtain ⟨y, rfl⟩:=up y (by omega); rw [s4 _ _ h3, s4 _ _ h3] at e; exact e
    . obtain ⟨x, rfl⟩ := up x (by omega); obtain ⟨y, rfl⟩ := up y (by omega); obtain ⟨b, rfl⟩ := up b (by omega)
      rw [s2, s2] at e
      rw [G.r2 x y b (by omega) (by omega) (by omega) (by omega)]
  . by_cases h1 : a < h
    . rw [s1 _ _ h1 h1, F.r1 a h1]
    . obtain ⟨a, rfl⟩:=up a (by omega); rw [s2, G.r1 a (by omega)]
  . by_cases h1 : a < h <;> by_cases h2 : b < h <;> by_cases h3 : c < h
    . rw [s1 a b h1 h2, s1 a c h1 h3, s1 b c h2 h3, s1 _ _ (F.lt a b h1 h2) h3, s1 _ _ (F.lt a c h1 h3) (F.lt b c h2 h3)]; exact F.r3 a b c h1 h2 h3
    . obtain ⟨c, rfl⟩ := up c (by omega)
      rw [s1 a b h1 h2, s3 a c h1, s3 b c h2, s3 _ c (F.lt a b h1 h2), s1 a b h1 h2]
    . obtain ⟨b, rfl⟩ := up b (by omega)
      rw [s3 a b h1, s4 b c h3, s1 a c h1 h3, s3 _ b (F.lt a c h1 h3)]
    . obtain ⟨b, rfl⟩ := up b (by omega); obtain ⟨c, rfl⟩ := up c (by omega)
      rw [s3 a b h1, s3 a c h1, s2 b c, s3 _ _ h1]
    . obtain ⟨a, rfl⟩ := up a (by omega)
      rw [s4 a b h2, s4 a c h3, s1 b c h2 h3, s4 _ _ (F.lt b c h2 h3)]
    . obtain ⟨a, rfl⟩ := up a (by omega); obtain ⟨c, rfl⟩ := up c (by omega)
      rw [s4 a b h2, s2 a c, s3 b c h2, s4 _ _ h2]
    . obtain ⟨a, rfl⟩ := up a (by omega); obtain ⟨b, rfl⟩ := up b (by omega)
      rw [s2 a b, s4 _ c h3, s4 a c h3, s4 b c h3, s2 a b]
    . obtain ⟨a, rfl⟩ := up a (by omega); obtain ⟨b, rfl⟩ := up b (by omega); obtain ⟨c, rfl⟩ := up c (by omega)
      rw [s2 a b, s2 a c, s2 b c, s2, s2, G.r3 a b c (by omega) (by omega) (by omega)]
noncomputable def Gq (way n k a b : Int) : Int:=
  if way = 1 then (2 * b - a) % n else if way = 2 then (k * a + (1 - k) * b) % n else if way = 3 /\ n > 2 /\ a < 2 /\ b = n - 1 then 1 - a else
  if way = 6 /\ a < n - 1 /\ b = n - 1 then (a + 1) % (n - 1) else if way = 4 /\ a < n / 2 /\ b < n / 2 then (2 * b - a) % (n / 2) else
  if way = 4 /\ a ≥ n / 2 /\ b ≥ n / 2 then n / 2 + (2 * b - a - n / 2) % (n - n / 2) else a
noncomputable def UE (way k : Int) (n a b : Nat) : Nat:=(Gq way n k a b).toNat
theorem VN (n : Int) (a b : Int) : (2 * b - a) % n = G0 (-1) n a b:=by
  unfold G0
  congr 1
  omega
theorem DH {way k : Int} {n : Nat} (hn : 0 < n) (hk : Int.gcd k n = 1) : GoodF n (UE way k n) /\ ∀ a b, a < n -> b < n -> ((UE way k n a b : Nat) : Int) = Gq way n k a b:=by
  suffices h : ∃ f, GoodF n f /\ ∀ a b, a < n -> b < n -> ((f a b : Nat) : Int) = Gq way n k a b by
    obtain ⟨f, g, e⟩:=h
    have e2 : ∀ a b, a < n -> b < n -> UE way k n a b = f a b:=fun a b ha hb=>by unfold UE; rw [← e a b ha hb]; omega
    exact ⟨g.congr e2, fun a b ha hb=>by rw [e2 a b ha hb]; exact e a b ha hb⟩
  unfold Gq
  by_cases w1 : way = 1
  . refine ⟨_, V3 (k := -1) hn KB, fun a b ha hb => ?_⟩
    rw [if_pos w1, Yc hn, VN]
  by_cases w2 : way = 2
  . refine ⟨_, V3 (k := k) hn (GT hk), fun a b ha hb => ?_⟩
    rw [if_neg w1, if_pos w2, Yc hn]; rfl
  by_cases w3 : way = 3
  . refine ⟨_, Fp n, fun a b ha hb => ?_⟩
    rw [if_neg w1, if_neg w2]
    by_cases c : 2 < n /\ a < 2 /\ b + 1 = n
    . rw [if_pos c, if_pos ⟨w3, by omega, by omega, by omega⟩]; omega
    . rw [if_neg c, if_neg (fun z=>c ⟨by omega, by omega, by omega⟩), if_neg (fun z=>by omega), if_neg (fun z=>by omega), if_neg (fun z=>by omega)]
  by_cases w6 : way = 6
  . refine ⟨_, Gw n, fun a b ha hb => ?_⟩
    have n3 : ¬ (way = 3 /\ (n : Int) > 2 /\ (a : Int) < 2 /\ (b : Int) = n - 1):=fun z=>w3 z.1
    by_cases c : a + 1 < n /\ b + 1 = n
    . have y6 : way = 6 /\ (a : Int) < n - 1 /\ (b : Int) = n - 1 := ⟨w6, by omega, by omega⟩
      rw [if_pos c, if_neg w1, if_neg w2, if_neg n3, if_pos y6]
      by_cases c2 : a + 2 < n
      . rw [if_pos c2, Int.emod_eq_of_lt (by omega) (by omega)]; omega
      . rw [if_neg c2]
        have : (a : Int) + 1 = (n : Int) - 1:=by omega
        rw [this, Int.emod_self]; rfl
    . rw [if_neg c, if_neg w1, if_neg w2, if_neg n3, if_neg (fun z=>c ⟨by omega, by omega⟩), if_neg (fun z=>by omega), if_neg (fun z=>by omega)]
  by_cases w4 : way = 4
  . have hh : ∀ m : Nat, 0 < m -> GoodF m (Cg (-1) m) := fun m hm => V3 hm KB
    by_cases h0 : n / 2 = 0
    . have hn1 : n = 1 := by omega
      subst hn1
      refine ⟨_, QS 1, fun a b ha hb=>?_⟩
      have : a = 0:=by omega
      have : b = 0:=by omega
      subst a b
      rw [if_neg w1, if_neg w2, if_neg (fun z=>w3 z.1), if_neg (fun z=>w6 z.1), if_neg (fun z=>by omega), if_pos ⟨w4, by omega, by omega⟩]
      decide
    . have g := Fc (hh (n / 2) (by omega)) (hh (n - n / 2) (by omega))
      rw [show n / 2 + (n - n / 2) = n by omega] at g
      refine ⟨_, g, fun a b ha hb=>?_⟩
      have hc : ((n / 2 : Nat) : Int) = (n : Int) / 2:=by omega
      rw [if_neg w1, if_neg w2, if_neg (fun z=>w3 z.1), if_neg (fun z=>w6 z.1)]
      unfold Va
      by_cases c1 : a < n / 2 /\ b < n / 2
      . rw [if_pos c1, if_pos ⟨w4, by omega, by omega⟩, Yc (by omega), ← VN, hc]
      . have m4 : ¬ (way = 4 /\ (a : Int) < (n : Int) / 2 /\ (b : Int) < (n : Int) / 2) := fun z => c1 ⟨by omega, by omega⟩
        rw [if_neg c1, if_neg m4]
        by_cases c2 : n / 2 <= a /\ n / 2 <= b
        . have y4 : way = 4 /\ (a : Int) ≥ (n : Int) / 2 /\ (b : Int) ≥ (n : Int) / 2 := ⟨w4, by omega, by omega⟩
          rw [if_pos c2, if_pos y4]
          have hm : (((n - n / 2 : Nat)) : Int) = (n : Int) - (n : Int) / 2:=by omega
          have:=Yc (k:=-1) (n:=n - n / 2) (by omega) (a - n / 2) (b - n / 2)
          rw [← VN, hm] at this
          rw [show 2 * (b : Int) - a - (n : Int) / 2 = 2 * ((b - n / 2 : Nat) : Int) - ((a - n / 2 : Nat) : Int) by omega, ← this]
          omega
        . rw [if_neg c2, if_neg (fun z=>c2 ⟨by omega, by omega⟩)]
  refine ⟨_, QS n, fun a b ha hb=>?_⟩
  rw [if_neg w1, if_neg w2, if_neg (fun z=>w3 z.1), if_neg (fun z=>w6 z.1), if_neg (fun z=>w4 z.1), if_neg (fun z=>w4 z.1)]
noncomputable def Ja (a b : Nat) : Nat:=(([[0, 3, 1, 2], [2, 1, 3, 0], [3, 0, 2, 1], [1, 2, 0, 3]] : List (List Nat)).getD a []).getD b 0
theorem G5 : GoodF 4 Ja:=by
  have h1 : ∀ a, a < 4 -> ∀ b, b < 4 -> Ja a b < 4:=by decide +kernel
  have h2 : ∀ b, b < 4 -> ∀ x, x < 4 -> ∀ y, y < 4 -> Ja x b = Ja y b -> x = y:=by decide +kernel
  have h3 : ∀ a, a < 4 -> Ja a a = a:=by decide +kernel
  have h4 : ∀ a, a < 4 -> ∀ b, b < 4 -> ∀ c, c < 4 -> Ja (Ja a b) c = Ja (Ja a c) (Ja b c):=by decide +kernel
  exact ⟨⟨fun a b ha hb=>h1 a ha b hb, fun x y b hx hy hb=>h2 b hb x hx y hy⟩, h3, fun a b c ha hb hc=>h4 a ha b hb c hc⟩
theorem CP : XM 4 Ja = [[0, 3, 1, 2], [2, 1, 3, 0], [3, 0, 2, 1], [1, 2, 0, 3]]:=by decide +kernel
end My
namespace My
open PySem L2
theorem KO {n : Nat} {f : Nat -> Nat -> Nat} {a : Nat} (h : a < n) : atR (XM n f) (a : Int) = .ok (ZQ n f a):=Z2 (J3 h)
theorem Bx {n : Nat} {f : Nat -> Nat -> Nat} {a b : Nat} (h : b < n) : atR (ZQ n f a) (b : Int) = .ok (f a b : Int):=Z2 (Jq h)
theorem Ke {α : Type} {as : List α} {i : Nat} {a : α} (h : i < as.length) : Q2 as (i : Int) a = .ok (as.set i a):=by
  unfold Q2 ixN
  rw [if_pos (by omega), if_pos (by omega)]
  simp
theorem ET {n : Nat} {f : Nat -> Nat -> Nat} {a b v : Nat} : (ZQ n f a).set b (v : Int) = ZQ n (fun x y=>if x = a /\ y = b then v else f x y) a:=by
  apply List.ext_getElem?
  intro j
  by_cases hj : j < n
  . rw [Jq hj]
    by_cases e : j = b
    . subst e; rw [List.getElem?_set_self (by rw [Zr]; exact hj)]; simp
    . rw [List.getElem?_set_ne (fun z=>e z.symm), Jq hj]; simp [e]
  . rw [List.getElem?_eq_none (by rw [List.length_set, Zr]; omega), List.getElem?_eq_none (by rw [Zr]; omega)]
theorem Ed {n : Nat} {f : Nat -> Nat -> Nat} {a b v : Nat} (ha : a < n) : (XM n f).set a ((ZQ n f a).set b (v : Int)) = XM n (fun x y=>if x = a /\ y = b then v else f x y):=by
  apply List.ext_getElem?
  intro j
  by_cases hj : j < n
  . rw [J3 hj]
    by_cases e : j = a
    . subst e; rw [List.getElem?_set_self (by rw [Xu]; exact hj), ET]
    . rw [List.getElem?_set_ne (fun z => e z.symm), J3 hj]
      congr 1
      exact J1 fun y _=>by simp [e]
  . rw [List.getElem?_eq_none (by rw [List.length_set, Xu]; omega), List.getElem?_eq_none (by rw [Xu]; omega)]
noncomputable def Us (n : Nat) (sp : List Int) (p q : Nat -> Nat) : Prop:=PermN n p q /\ sp = (List.range n).map fun i=>((p i : Nat) : Int)
theorem Us.get {n : Nat} {sp : List Int} {p q : Nat -> Nat} (h : Us n sp p q) {i : Nat} (hi : i < n) : atR sp (i : Int) = .ok ((p i : Nat) : Int):=Z2 (by rw [h.2, List.getElem?_map, List.getElem?_range hi]; rfl)
theorem HQ {as : List Int} {i : Nat} (h : i < as.length) (hl : as.length <= 100000) : Bl as (i : Int) = .ok (as[i], as.eraseIdx i):=by
  unfold Bl
  rw [Xv (by omega)]
  have e : seqIndex? (i : Int) as.length = some i:=by
    unfold seqIndex?
    have h0 : ¬ ((i : Int) < 0):=by omega
    simp [h0, h]
  rw [e]
  simp [h]
theorem CU {n : Nat} {sp : List Int} (h : sp.Perm ((List.range n).map fun (i : Nat)=>(i : Int))) : ∃ p q, Us n sp p q:=by
  have hl : sp.length = n:=by have:=h.length_eq; simpa using this
  have hlt : ∀ i, i < n -> ∃ k : Nat, k < n /\ sp[i]? = some (k : Int):=fun i hi=>by
    have hm : sp[i]'(by omega) ∈ (List.range n).map fun (i : Nat)=>(i : Int):=h.mem_iff.mp (List.getElem_mem _)
    obtain ⟨k, hk, e⟩:=YA hm
    exact ⟨k, hk, by rw [List.getElem?_eq_getElem (by omega), e]⟩
  let p : Nat -> Nat:=fun i=>(sp[i]?.getD 0).toNat
  have hp : ∀ i, i < n -> p i < n /\ sp[i]? = some (p i : Int):=fun i hi=>by
    obtain ⟨k, hk, e⟩:=hlt i hi
    have : p i = k:=by simp [p, e]
    rw [this]; exact ⟨hk, e⟩
  have nd : sp.Nodup:=h.nodup_iff.mpr (by
    rw [List.nodup_iff_pairwise_ne, List.pairwise_map]
    exact List.nodup_range.imp fun {a b} h e=>h (by omega))
  obtain ⟨q, hq⟩:=E2 (n:=n) (p:=p) (fun a ha=>(hp a ha).1) fun a b ha hb e=>by
    have h1:=(hp a ha).2
    have h2:=(hp b hb).2
    rw [← e] at h2
    exact (List.getElem?_inj (by omega) nd).mp (h1.trans h2.symm)
  refine ⟨p, q, hq, ?_⟩
  apply List.ext_getElem?
  intro i
  by_cases hi : i < n
  . rw [(hp i hi).2, List.getElem?_map, List.getElem?_range hi]; rfl
  . rw [List.getElem?_eq_none (by omega), List.getElem?_eq_none (by simp; omega)]
theorem Vh : ∀ {as : List Int} {i : Nat} (h : i < as.length), (as[i] :: as.eraseIdx i).Perm as
  | a :: as, 0, _=>by simp
  | a :: as, i + 1, h=>by
    have:=Vh (as:=as) (i:=i) (by simpa using h)
    simp only [List.getElem_cons_succ, List.eraseIdx_cons_succ]
    exact (List.Perm.swap _ _ _).trans (this.cons a)
theorem V0 {α : Type} (as : List α) {k : Nat} (h : k <= as.length) : Qj as (some (k : Int)) none = as.drop k:=by
  unfold Qj
  rw [HT.sIx_nat, HT.sIx_none, Nat.min_eq_left h, List.take_of_length_le (by rw [List.length_drop]; omega)]
end My
namespace My
theorem mem_set {α : Type} : ∀ {l : List α} {j : Nat} {v x : α}, x ∈ l.set j v -> x ∈ l ∨ x = v
  | [], _, _, _, h=>by simp at h
  | a :: r, 0, v, x, h=>by
    rw [List.set_cons_zero] at h
    rcases List.mem_cons.mp h with h | h
    . exact .inr h
    . exact .inl (List.mem_cons_of_mem _ h)
  | a :: r, j + 1, v, x, h=>by
    rw [List.set_cons_succ] at h
    rcases List.mem_cons.mp h with h | h
    . exact .inl (by rw [h]; exact List.mem_cons_self)
    . rcases mem_set h with h | h
      . exact .inl (List.mem_cons_of_mem _ h)
      . exact .inr h
end My
namespace My
noncomputable def IB (S : Nat) : List Int:=(List.range S).map fun (k : Nat)=>(k : Int)
theorem Cp {S : Nat} {x : Int} : x ∈ IB S ↔ 0 <= x /\ x < (S : Int):=by
  unfold IB
  rw [List.mem_map]
  constructor
  . rintro ⟨k, hk, rfl⟩
    have:=List.mem_range.mp hk
    omega
  . rintro ⟨h0, h1⟩
    exact ⟨x.toNat, List.mem_range.mpr (by omega), by omega⟩
theorem QI {α β : Type} {f : α -> β} : ∀ {l : List α}, (∀ a b, a ∈ l -> b ∈ l -> f a = f b -> a = b) -> l.Nodup -> (l.map f).Nodup
  | [], _, _=>List.nodup_nil
  | a :: r, h, nd=>by
    rw [List.map_cons, List.nodup_cons]
    refine ⟨fun m=>?_, QI (fun x y hx hy=>h x y (List.mem_cons_of_mem _ hx) (List.mem_cons_of_mem _ hy)) (List.nodup_cons.mp nd).2⟩
    obtain ⟨b, hb, e⟩:=List.mem_map.mp m
    have:=h b a (List.mem_cons_of_mem _ hb) List.mem_cons_self e
    exact (List.nodup_cons.mp nd).1 (by rw [← this]; exact hb)
theorem Gm (S : Nat) : (IB S).Nodup:=QI (fun a b _ _ e=>by omega) List.nodup_range
theorem Vp {α : Type} [DecidableEq α] : ∀ {l m : List α}, l.Nodup -> m.Nodup -> (∀ x, x ∈ l ↔ x ∈ m) -> l.Perm m
  | [], m, _, _, h=>by
    cases m with
    | nil=>exact List.Perm.refl _
    | cons a r=>exact absurd ((h a).mpr List.mem_cons_self) (by simp)
  | a :: r, m, nl, nm, h=>by
    have ha : a ∈ m:=(h a).mp List.mem_cons_self
    have hp : m.Perm (a :: m.erase a):=List.perm_cons_erase ha
    refine List.Perm.trans (List.Perm.cons a ?_) hp.symm
    have nd2 : (a :: m.erase a).Nodup:=hp.nodup_iff.mp nm
    refine Vp (List.nodup_cons.mp nl).2 (List.nodup_cons.mp nd2).2 fun x=>?_
    constructor
    . intro hx
      have hxa : x ≠ a:=fun e=>(List.nodup_cons.mp nl).1 (by rw [← e]; exact hx)
      have : x ∈ a :: m.erase a:=hp.mem_iff.mp ((h x).mp (List.mem_cons_of_mem _ hx))
      exact (List.mem_cons.mp this).resolve_left hxa
    . intro hx
      have hxa : x ≠ a:=fun e=>(List.nodup_cons.mp nd2).1 (e ▸ hx)
      have : x ∈ a :: r:=(h x).mpr (hp.mem_iff.mpr (List.mem_cons_of_mem _ hx))
      exact (List.mem_cons.mp this).resolve_left hxa
theorem flatMap_nil {α β : Type} (f : α -> List β) : ∀ {l : List α}, (∀ x ∈ l, f x = []) -> l.flatMap f = []
  | [], _=>rfl
  | a :: r, h=>by rw [List.flatMap_cons, h a List.mem_cons_self, flatMap_nil f fun x hx=>h x (List.mem_cons_of_mem _ hx)]; rfl
end My
namespace My
structure Done (S : Int) (seen : List Bool) (ps : List Int) : Prop where
  nd : ps.Nodup
  at' : ∀ p ∈ ps, 0 <= p /\ p < S /\ seen[p.toNat]? = some true
  of : ∀ q : Nat, seen[q]? = some true -> (q : Int) ∈ ps
theorem Done.none (S : Int) (n : Nat) : Done S (List.replicate n false) []:=
  ⟨List.nodup_nil, fun p h=>by simp at h, fun q h=>by
    rw [List.getElem?_replicate] at h
    split at h <;> cases h⟩
theorem CZ {l : List Bool} {j q : Nat} (h : l[q]? = some true) : (l.set j true)[q]? = some true:=by
  by_cases e : j = q
  . subst e
    rw [List.getElem?_set_self (List.getElem?_eq_some_iff.mp h).1]
  . rw [List.getElem?_set_ne e]; exact h
theorem Done.snoc {S : Int} {seen : List Bool} {ps : List Int} {a : Int} (h : Done S seen ps) (a0 : 0 <= a) (a1 : a < S) (e : seen[a.toNat]? = some false) : Done S (seen.set a.toNat true) (ps ++ [a]):=by
  have hl : a.toNat < seen.length:=(List.getElem?_eq_some_iff.mp e).1
  have hn : a ∉ ps:=fun m=>by
    have:=(h.at' a m).2.2
    rw [e] at this; cases this
  refine ⟨?_, fun p hp=>?_, fun q hq=>?_⟩
  . rw [List.nodup_append]
    refine ⟨h.nd, by simp, fun x hx y hy=>?_⟩
    rw [List.mem_singleton.mp hy]
    exact fun e=>hn (e ▸ hx)
  . rcases List.mem_append.mp hp with hp | hp
    . obtain ⟨h1, h2, h3⟩ := h.at' p hp
      exact ⟨h1, h2, CZ h3⟩
    . rw [List.mem_singleton.mp hp]
      exact ⟨a0, a1, by rw [List.getElem?_set_self hl]⟩
  . by_cases hqa : a.toNat = q
    . exact List.mem_append_right _ (List.mem_singleton.mpr (by omega))
    . rw [List.getElem?_set_ne hqa] at hq
      exact List.mem_append_left _ (h.of q hq)
theorem Done.all {S : Int} {seen : List Bool} {ps : List Int} (h : Done S seen ps) (hl : seen.length = S.toNat) (h0 : 0 <= S) (ha : ∀ q : Nat, q < S.toNat -> seen[q]? = some true) : ps.Perm (IB S.toNat):=by
  refine Vp h.nd (Gm _) fun x=>?_
  rw [Cp]
  constructor
  . intro hx
    obtain ⟨h1, h2, _⟩:=h.at' x hx
    omega
  . rintro ⟨x0, x1⟩
    have:=h.of x.toNat (ha x.toNat (by omega))
    rw [show ((x.toNat : Nat) : Int) = x by omega] at this
    exact this
end My
namespace My
open PySem L2
theorem DT (ns : List Int) {p : Int} (hp : 0 <= p) : ∃ c, JF ns p = .ok c:=by
  unfold JF
  simp only [Res.okb]
  by_cases h : p < (ns.length : Int)
  . rw [decide_eq_true h, if_pos rfl]
    have hl : p.toNat < ns.length:=by omega
    exact ⟨ns[p.toNat], Hy hp (by simp [hl])⟩
  . rw [decide_eq_false h, if_neg Bool.false_ne_true]
    obtain ⟨g, e, _⟩:=Gf (as:=Qj ns none (some 63)) (g:=(5 : Int)) (f:=fun g15 a17=>(Res.bind (Res.bind (Res.bind (Res.bind (V7 g15 48271) fun x25=>(Res.bind (QK a17 1000003) fun x26=>(Res.ok (x25 + x26)))) fun x27=>Res.ok (x27 + 1)) fun x29=>QK x29 2147483647) fun a19=>(Res.ok (a19)))) (fun _ _=>True) True.intro fun i a g _ _=>by
      rw [JI (by decide) (by decide), Res.ok_bind, Yp (by decide), Res.ok_bind, Res.ok_bind, Res.ok_bind, Yp (by decide), Res.ok_bind]
      exact ⟨_, rfl, True.intro⟩
    rw [e, Res.ok_bind, QR (by decide) (by decide), Res.ok_bind, Res.ok_bind, Yp (by decide)]
    exact ⟨_, rfl⟩
theorem BI (c : Int) {k : Int} (h0 : 0 <= k) (h1 : k <= 100000) : ∃ y, Ks c k = .ok y /\ 0 <= y:=by
  unfold Ks
  simp only [Res.okb]
  have hm : 0 <= c % 2147483629 /\ c % 2147483629 < 2147483629:=⟨Int.emod_nonneg _ (by decide), Int.emod_lt_of_pos _ (by decide)⟩
  rw [Yp (by decide), Res.ok_bind, QR (by decide) (by decide), Res.ok_bind, Res.ok_bind, Res.ok_bind, G2 (by decide) (by decide) (by omega) (by omega), Res.ok_bind, Yp (by decide), Res.ok_bind]
  rw [JI (by decide) (by decide), Res.ok_bind, QR (by decide) (by decide), Res.ok_bind, JI (by omega) (by omega), Res.ok_bind, Res.ok_bind, Res.ok_bind, Yp (by decide), Res.ok_bind, Fv (by decide) (by decide)]
  exact ⟨_, rfl, Int.ediv_nonneg (Int.emod_nonneg _ (by decide)) (by decide)⟩
theorem UJ (ns : List Int) {p : Int} (hp : 0 <= p) (sizes : List Int) (hl : sizes.length <= 100000) (hs : ∀ x ∈ sizes, 0 < x /\ x < 2 ^ 250) :
    Ok (Jd ns p sizes) fun r=>r.length = sizes.length /\ ∀ (i : Nat) x s, r[i]? = some x -> sizes[i]? = some s -> 0 <= x /\ x < s:=by
  obtain ⟨c, ec⟩:=DT ns hp
  unfold Jd
  simp only [Res.okb]
  rw [ec, show noE (Res.ok c) = .ok c from rfl, Res.ok_bind, Za (by omega), Res.ok_bind, G2 (by decide) (by decide) (by decide) (by decide)]
  simp only [Res.okb]
  have key : ∀ (i : Nat) (a : Int) (g : List Int × Int), ((List.range sizes.length).map fun (i : Nat)=>(i : Int))[i]? = some a -> (g.1.length = i /\ ∀ (j : Nat) x s, g.1[j]? = some x -> sizes[j]? = some s -> 0 <= x /\ x < s) -> ∀ y z : Int, ∀ s, sizes[i]? = some s -> 0 <= y /\ y < s -> ((g.1 ++ [y], z).1.length = i + 1 /\ ∀ (j : Nat) x s, (g.1 ++ [y], z).1[j]? = some x -> sizes[j]? = some s -> 0 <= x /\ x < s):=by
    intro i a g ha ⟨hg, hq⟩ y z s hs1 hy
    refine ⟨by simp [hg], fun j x s' hx hs'=>?_⟩
    have hx : (g.1 ++ [y])[j]? = some x:=hx
    rcases Nat.lt_trichotomy j i with hj | hj | hj
    . rw [List.getElem?_append_left (by omega)] at hx; exact hq j x s' hx hs'
    . subst hj
      rw [List.getElem?_append_right (by omega), hg, Nat.sub_self] at hx
      have : y = x:=by simpa using hx
      rw [hs1] at hs'
      cases hs'
      rw [← this]; exact hy
    . rw [List.getElem?_eq_none (by simp; omega)] at hx; cases hx
  refine Ok.bind (Ok.forN (fun i (g : List Int × Int)=>g.1.length = i /\ ∀ (j : Nat) x s, g.1[j]? = some x -> sizes[j]? = some s -> 0 <= x /\ x < s) ⟨rfl, fun j x s h _=>by simp at h⟩ fun i a g ha hg=>?_) (T:=fun (r : List Int)=>r.length = sizes.length /\ ∀ (i : Nat) x s, r[i]? = some x -> sizes[i]? = some s -> 0 <= x /\ x < s) fun g ⟨hg, hq⟩=>?_
  . obtain ⟨rfl, hi⟩ := YB ha
    have hsz : sizes[i]? = some sizes[i]:=by simp [hi]
    have hsp:=hs _ (List.getElem_mem hi)
    have hgl : g.1.length < sizeLine:=BB (by have:=hg.1; omega)
    by_cases hc : c < 10 ^ (18 : Int).toNat
    . rw [decide_eq_true hc, if_pos rfl]
      obtain ⟨y, ey, hy⟩:=BI c (k:=(i : Int)) (by omega) (by omega)
      rw [ey, show noE (Res.ok y) = .ok y from rfl, Res.ok_bind, Z2 hsz, Res.ok_bind, Yp hsp.1, Res.ok_bind, Xv hgl]
      exact ⟨_, rfl, key i _ g ha hg _ _ _ hsz ⟨Int.emod_nonneg _ (by omega), Int.emod_lt_of_pos _ hsp.1⟩⟩
    . rw [decide_eq_false hc, if_neg Bool.false_ne_true]
      by_cases hq : 0 < g.2
      . rw [decide_eq_true hq, if_pos rfl, Z2 hsz, Res.ok_bind, Yp hsp.1, Res.ok_bind, Xv hgl]
        simp only [Res.okb]
        rw [Fv hsp.1 hsp.2]
        exact ⟨_, rfl, key i _ g ha hg _ _ _ hsz ⟨Int.emod_nonneg _ (by omega), Int.emod_lt_of_pos _ hsp.1⟩⟩
      . rw [decide_eq_false hq, if_neg Bool.false_ne_true, Yp (by decide), Res.ok_bind]
        obtain ⟨c2, ec2⟩:=DT ns (p:=(p + 1 + (i : Int)) % 63) (Int.emod_nonneg _ (by decide))
        obtain ⟨y, ey, hy⟩:=BI c2 (k:=(i : Int)) (by omega) (by omega)
        rw [ec2, show noE (Res.ok c2) = .ok c2 from rfl, Res.ok_bind, ey, show noE (Res.ok y) = .ok y from rfl, Res.ok_bind, Z2 hsz, Res.ok_bind, Yp hsp.1, Res.ok_bind, Xv hgl]
        exact ⟨_, rfl, key i _ g ha hg _ _ _ hsz ⟨Int.emod_nonneg _ (by omega), Int.emod_lt_of_pos _ hsp.1⟩⟩
  . rw [YC] at hg
    exact ⟨g.1, rfl, hg, hq⟩
end My
namespace My
open PySem L2
theorem YL {α : Type} {r : List α} {k : Int} {n : Nat} (e : k = (n : Int)) (h : n < r.length) : atR r k = .ok r[n]:=by
  subst e; exact Z2 (by simp [h])
theorem VS {γ : Type} {c : γ -> Res Bool} {f : γ -> Res γ} (P : γ -> Prop) (μ : γ -> Nat) (hs : ∀ g, P g -> ∃ b, c g = .ok b /\ (b = true -> Ok (f g) fun g'=>P g' /\ μ g' < μ g)) : ∀ (n : Nat) (g : γ), P g -> μ g < n -> Ok (Q6 n g c f) fun g'=>P g' /\ c g' = .ok false
  | 0, _, _, h=>by omega
  | n + 1, g, hp, hm=>by
    obtain ⟨b, hb, h⟩:=hs g hp
    show Ok ((c g).bind _) _
    rw [hb, Res.okb]
    cases b with
    | false=>rw [if_neg Bool.false_ne_true]; exact ⟨g, rfl, hp, hb⟩
    | true=>
      rw [if_pos rfl]
      exact Ok.bind (h rfl) fun g' h'=>VS P μ hs n g' h'.1 (by omega)
end My
namespace My
open PySem L2
theorem Vr {r : List Int} {n : Nat} (hn : n <= 1000) (hr : n <= r.length) : Ok (Y5 r (n : Int)) fun sp=>∃ p q, Us n sp p q:=by
  unfold Y5
  simp only [Res.okb]
  rw [Xv (by omega)]
  simp only [Res.okb]
  rw [Za (by omega)]
  simp only [Res.okb]
  have e0 : ZT 0 (n : Int) = (List.range n).map fun (i : Nat)=>(i : Int):=by
    unfold ZT
    rw [Int.sub_zero, Int.toNat_natCast]
    exact List.map_congr_left fun i _=>by omega
  refine Ok.bind (Ok.forN (fun i (g : List Int × List Int)=>g.1.length = i /\ (g.1 ++ g.2).Perm ((List.range n).map fun (i : Nat)=>(i : Int))) ⟨rfl, by rw [e0]; exact List.Perm.refl _⟩ fun i a g ha hg=>?_) fun g hg=>?_
  . obtain ⟨rfl, hi⟩ := YB ha
    obtain ⟨h1, h2⟩:=hg
    have hl:=h2.length_eq
    simp only [List.length_append, List.length_map, List.length_range] at hl
    have hri : r[i]? = some r[i]:=by simp [show i < r.length by omega]
    have hpos : (0 : Int) < (g.2.length : Int):=by omega
    have hm1:=Int.emod_nonneg r[i] (show (g.2.length : Int) ≠ 0 by omega)
    have hm2:=Int.emod_lt_of_pos r[i] hpos
    rw [Z2 hri, Res.okb, Yp hpos, Res.okb]
    generalize hk : r[i] % (g.2.length : Int) = k at hm1 hm2
    obtain ⟨j, rfl⟩ : ∃ j : Nat, k = j:=⟨k.toNat, by omega⟩
    have hj : j < g.2.length:=by omega
    rw [HQ hj (by omega), Res.okb, Xv (BB (by omega))]
    refine ⟨_, rfl, by simp [h1], ?_⟩
    refine List.Perm.trans ?_ h2
    show ((g.1 ++ [g.2[j]]) ++ g.2.eraseIdx j).Perm (g.1 ++ g.2)
    rw [List.append_assoc]
    exact (Vh hj).append_left _
  . obtain ⟨h1, h2⟩ := hg
    rw [YC] at h1
    have hl:=h2.length_eq
    simp only [List.length_append, List.length_map, List.length_range] at hl
    have : g.2 = []:=List.length_eq_zero_iff.mp (by omega)
    rw [this, List.append_nil] at h2
    exact ⟨_, rfl, CU h2⟩
theorem Ud {n : Nat} {f : Nat -> Nat -> Nat} {sp : List Int} {p q : Nat -> Nat} (hn : n <= 1000) (hf : ∀ a b, a < n -> b < n -> f a b < n) (hp : Us n sp p q) : Zv (XM n f) sp = .ok (XM n fun x y=>p (f (q x) (q y))):=by
  have P:=hp.1
  unfold Zv
  simp only [Res.okb]
  rw [Qt (h:=fun a=>a) (sz (by rw [Xu]; omega)) fun a _=>rfl, Res.okb]
  simp only [List.map_id', Xu]
  rw [Za (by omega), Res.okb]
  apply Ok.eq
  refine Ok.bind (Ok.forN (fun i g=>g = XM n fun x y=>if q x < i then p (f (q x) (q y)) else f x y) (Zj fun x y _ _=>by simp) fun i a g ha hg=>?_) fun g hg=>⟨g, rfl, ?_⟩
  . obtain ⟨rfl, hi⟩ := YB ha
    subst hg
    simp only [Res.okb]
    refine Ok.bind (Ok.forN (fun j g=>g = XM n fun x y=>if q x < i ∨ (q x = i /\ q y < j) then p (f (q x) (q y)) else f x y) (Zj fun x y _ _=>by simp) fun j b g hb hg=>?_) fun g hg=>⟨g, rfl, ?_⟩
    . obtain ⟨rfl, hj⟩ := YB hb
      subst hg
      have hv:=hf i j hi hj
      rw [KO hi, Res.okb, Bx hj, Res.okb, hp.get hv, Res.okb, hp.get hi, Res.okb, KO (P.lt i hi), Res.okb, hp.get hj, Res.okb, Ke (by rw [Zr]; exact P.lt j hj), Res.okb, Ke (by rw [Xu]; exact P.lt i hi), Res.okb]
      refine ⟨_, rfl, ?_⟩
      rw [Ed (P.lt i hi)]
      refine Zj fun x y hx hy=>?_
      by_cases e : x = p i /\ y = p j
      . rw [if_pos e, e.1, e.2, P.qp i hi, P.qp j hj, if_pos (by omega)]
      . rw [if_neg e]
        have : ¬ (q x = i /\ q y = j):=fun ⟨e1, e2⟩=>e ⟨by rw [← e1, P.pq x hx], by rw [← e2, P.pq y hy]⟩
        by_cases c : q x < i ∨ (q x = i /\ q y < j)
        . rw [if_pos c, if_pos (by omega)]
        . rw [if_neg c, if_neg (by omega)]
    . subst hg
      rw [YC]
      refine Zj fun x y hx hy=>?_
      have:=P.qlt y hy
      by_cases c : q x < i + 1
      . rw [if_pos c, if_pos (by omega)]
      . rw [if_neg c, if_neg (by omega)]
  . subst hg
    rw [YC]
    exact Zj fun x y hx hy=>by rw [if_pos (P.qlt x hx)]
end My
namespace My
open PySem L2
theorem Qm (a b : Bool) : QW (.ok a) (.ok b) = .ok (a && b):=UP fun _=>rfl
theorem Jt (a b : Bool) : orR (.ok a) (.ok b) = .ok (a || b):=Lc fun _=>rfl
theorem Gn {way k : Int} {n a b : Nat} (hn : 0 < n) (h1 : n <= 1000) (ha : a < n) (hb : b < n) : Zi way (n : Int) k (a : Int) (b : Int) = .ok (Gq way n k a b):=by
  unfold Zi Gq
  simp only [Res.okb, Qm, Bool.and_eq_true, decide_eq_true_eq, gt_iff_lt, ge_iff_le]
  rw [Fv (by decide) (by decide)]
  simp only [Res.okb, Qm, Bool.and_eq_true, decide_eq_true_eq]
  rw [QR (a:=2) (by decide) (by decide), JI (a:=k) (by omega) (by omega), JI (a:=1 - k) (by omega) (by omega)]
  simp only [Res.okb]
  by_cases c1 : way = 1
  . rw [if_pos c1, if_pos c1]; exact Yp (by omega)
  rw [if_neg c1, if_neg c1]
  by_cases c2 : way = 2
  . rw [if_pos c2, if_pos c2]; exact Yp (by omega)
  rw [if_neg c2, if_neg c2]
  by_cases c3 : way = 3 /\ 2 < (n : Int) /\ (a : Int) < 2 /\ (b : Int) = (n : Int) - 1
  . rw [if_pos c3, if_pos c3]
  rw [if_neg c3, if_neg c3]
  by_cases c4 : way = 6 /\ (a : Int) < (n : Int) - 1 /\ (b : Int) = (n : Int) - 1
  . rw [if_pos c4, if_pos c4]; exact Yp (by omega)
  rw [if_neg c4, if_neg c4]
  by_cases c5 : way = 4 /\ (a : Int) < (n : Int) / 2 /\ (b : Int) < (n : Int) / 2
  . rw [if_pos c5, if_pos c5]; exact Yp (by omega)
  rw [if_neg c5, if_neg c5]
  by_cases c6 : way = 4 /\ (n : Int) / 2 <= (a : Int) /\ (n : Int) / 2 <= (b : Int)
  . rw [if_pos c6, if_pos c6, Yp (by omega), Res.okb]
  rw [if_neg c6, if_neg c6]
theorem UK (x y : Int) : Z7 x y = .ok (Int.gcd x y : Int):=by
  unfold Z7
  simp only [Res.okb]
  apply Ok.eq
  refine Ok.bind (VS (fun g : Int × Int=>∃ u v : Nat, g = ((u : Int), (v : Int)) /\ Nat.gcd u v = Int.gcd x y) (fun g=>g.2.toNat) (fun g hg=>?_) _ ((x.natAbs : Int), (y.natAbs : Int)) ⟨x.natAbs, y.natAbs, rfl, rfl⟩ ?_) fun g hg=>?_
  . obtain ⟨u, v, rfl, h⟩ := hg
    refine ⟨_, rfl, fun c=>?_⟩
    have c' : (0 : Int) < (v : Int):=of_decide_eq_true c
    show Ok ((QK (u : Int) (v : Int)).bind _) _
    rw [Yp c', Res.okb]
    refine ⟨_, rfl, ⟨v, u % v, by rw [Int.natCast_emod], ?_⟩, ?_⟩
    . rw [← h, Nat.gcd_comm u v, Nat.gcd_rec v u, Nat.gcd_comm]
    . show ((u : Int) % (v : Int)).toNat < ((v : Int)).toNat
      have:=Int.emod_lt_of_pos (u : Int) c'
      have:=Int.emod_nonneg (u : Int) (show (v : Int) ≠ 0 by omega)
      omega
  . show ((y.natAbs : Int)).toNat < _
    omega
  . obtain ⟨⟨u, v, rfl, h⟩, hc⟩ := hg
    have hc' : ¬ (0 : Int) < (v : Int):=by
      have:=Res.ok.inj hc
      simpa using this
    have : v = 0:=by omega
    subst this
    rw [Nat.gcd_zero_right] at h
    exact ⟨_, rfl, by show (u : Int) = _; rw [h]⟩
theorem Ea {n : Nat} {t z : Int} (h : t = 1 + (n : Int) * z) : Int.gcd t n = 1:=by
  have h1 : ((Int.gcd t n : Nat) : Int) ∣ t:=Int.gcd_dvd_left ..
  have h2 : ((Int.gcd t n : Nat) : Int) ∣ (n : Int):=Int.gcd_dvd_right ..
  have h3 : ((Int.gcd t n : Nat) : Int) ∣ 1:=by
    have : (1 : Int) = t - (n : Int) * z:=by omega
    rw [this]
    exact Int.dvd_sub h1 (Int.dvd_trans h2 (Int.dvd_mul_right ..))
  have h4:=Int.eq_one_of_dvd_one (by omega) h3
  omega
theorem G1 {way k : Int} {n : Nat} (hn : 0 < n) (h1 : n <= 1000) : Ok (Q7 way (n : Int) k) fun t=>∃ f, GoodF n f /\ t = XM n f:=by
  unfold Q7
  simp only [Res.okb, Qm, Bool.and_eq_true, decide_eq_true_eq]
  by_cases c5 : way = 5 /\ (n : Int) = 4
  . rw [if_pos c5]
    have hn : n = 4:=by omega
    subst hn
    exact ⟨[[0, 3, 1, 2], [2, 1, 3, 0], [3, 0, 2, 1], [1, 2, 0, 3]], rfl, Ja, G5, CP.symm⟩
  rw [if_neg c5]
  have ht:=Int.emod_add_mul_ediv (1 - k) (n : Int)
  have ht0:=Int.emod_nonneg (1 - k) (show (n : Int) ≠ 0 by omega)
  have ht1:=Int.emod_lt_of_pos (1 - k) (show (0 : Int) < (n : Int) by omega)
  generalize hq : (1 - k) % (n : Int) = m at ht ht0 ht1
  have hcop : Int.gcd (k + m) n = 1:=Ea (z:=-((1 - k) / (n : Int))) (by rw [Int.mul_neg]; omega)
  refine Ok.bind (VS (fun g : Int=>k <= g /\ g <= k + m) (fun g=>(k + m - g).toNat) (fun g hg=>?_) _ k ⟨Int.le_refl _, by omega⟩ ?_) fun g hg=>?_
  . rw [UK, XO, Res.okb]
    refine ⟨_, rfl, fun c=>?_⟩
    have hne : g ≠ k + m:=fun e=>by
      rw [e, hcop] at c
      exact absurd c (by decide)
    refine ⟨_, rfl, ⟨by omega, by omega⟩, ?_⟩
    show (k + m - (g + 1)).toNat < (k + m - g).toNat
    omega
  . show (k + m - k).toNat < _
    omega
  . obtain ⟨_, hc⟩ := hg
    rw [UK, XO, Res.okb] at hc
    have hg1 : Int.gcd g n = 1:=by
      have:=Res.ok.inj hc
      simp at this
      omega
    obtain ⟨gd, hce⟩:=DH (way:=way) (k:=g) (n:=n) hn hg1
    refine ⟨XM n (UE way g n), ?_, _, gd, rfl⟩
    rw [Za (by omega), Res.okb]
    have hrow : ∀ a : Nat, a < n -> G3 ((List.range n).map fun (i : Nat)=>(i : Int)) (fun b=>noE (Zi way (n : Int) g (a : Int) b)) = .ok (ZQ n (UE way g n) a):=fun a ha=>by
      rw [Qt (h:=fun x=>((UE way g n a x.toNat : Nat) : Int)) (sz (by simp; omega)) fun x hx=>?_]
      . rw [List.map_map]; rfl
      . obtain ⟨b, hb, rfl⟩ := YA hx
        rw [Gn hn h1 ha hb, XO, Int.toNat_natCast, hce a b ha hb]
    rw [QC (h:=fun x=>ZQ n (UE way g n) x.toNat) (sz (by simp; omega)) fun l hl x hx=>?_]
    . rw [Res.okb, List.nil_append, List.map_map]; rfl
    . obtain ⟨a, ha, rfl⟩ := YA hx
      rw [Res.okb, hrow a ha, Res.okb, Xv hl, Int.toNat_natCast]
end My
namespace My
open PySem L2
theorem Kv (ns : List Int) {p : Int} (hp : 0 <= p) {most : Nat} (h0 : 0 < most) (hm : most <= 24) : Ok (Qv ns p (most : Int)) fun t=>∃ n f, 0 < n /\ n <= most /\ GoodF n f /\ t = XM n f:=by
  unfold Qv
  simp only [Res.okb]
  rw [Xv (sz (by simp))]
  simp only [Res.okb]
  rw [Xv (sz (by simp))]
  simp only [Res.okb]
  rw [show CO [(24 : Int)] 24 = .ok (List.replicate 24 24) from rfl]
  simp only [Res.okb]
  rw [show UR [(7 : Int), 24, 6, 2] (List.replicate 24 24) = .ok ([(7 : Int), 24, 6, 2] ++ List.replicate 24 24) from Xv (sz (by simp))]
  simp only [Res.okb]
  refine Ok.bind (Ok.noE (UJ ns hp _ (by simp) fun x hx=>?_)) fun r hr=>?_
  . rw [List.mem_append] at hx
    rcases hx with h | h
    . simp only [List.mem_cons, List.not_mem_nil, or_false] at h
      rcases h with rfl | rfl | rfl | rfl <;> decide
    . rw [(List.mem_replicate.mp h).2]; decide
  obtain ⟨hl, hv⟩:=hr
  have hl' : r.length = 28:=by rw [hl]; simp
  clear hl hv
  rw [YL (r:=r) (k:=0) (n:=0) rfl (by omega), YL (r:=r) (k:=1) (n:=1) rfl (by omega), YL (r:=r) (k:=2) (n:=2) rfl (by omega), YL (r:=r) (k:=3) (n:=3) rfl (by omega)]
  simp only [Res.okb, Qm]
  rw [Yp (by omega)]
  simp only [Res.okb]
  have a0:=Int.emod_nonneg r[1] (show (most : Int) ≠ 0 by omega)
  have a1:=Int.emod_lt_of_pos r[1] (show (0 : Int) < (most : Int) by omega)
  obtain ⟨s, es⟩ : ∃ s : Int, s = (1 : Int) + r[1] % (most : Int):=⟨_, rfl⟩
  rw [← es]
  have hs : 0 < s /\ s <= (most : Int):=by omega
  clear es
  obtain ⟨n, rfl⟩ : ∃ n : Nat, s = (n : Int):=⟨s.toNat, by omega⟩
  refine Ok.bind (Ok.noE (G1 (by omega) (by omega))) fun t ht=>?_
  obtain ⟨f, gd, rfl⟩:=ht
  refine Ok.ite (fun _=>⟨_, rfl, n, f, by omega, by omega, gd, rfl⟩) fun _=>?_
  rw [show Qj r (some 4) none = r.drop 4 from V0 r (k:=4) (by omega)]
  refine Ok.bind (Ok.noE (Vr (by omega) (by rw [List.length_drop]; omega))) fun sp hsp=>?_
  obtain ⟨q, q', hq⟩:=hsp
  rw [Ud (by omega) gd.lt hq, XO]
  exact ⟨_, rfl, n, _, by omega, by omega, hq.1.good gd, rfl⟩
end My
namespace My
open PySem L2
section
variable {n : Nat}
theorem JN {α : Type} [DecidableEq α] : ∀ {l m : List α}, l.Nodup -> (∀ x ∈ l, x ∈ m) -> l.length <= m.length
  | [], m, _, _=>Nat.zero_le _
  | x :: l, m, h, hs=>by
    have hx:=hs x (.head _)
    have h2:=List.nodup_cons.mp h
    have:=JN (l:=l) (m:=m.erase x) h2.2 fun y hy=>(List.mem_erase_of_ne fun e=>h2.1 (by rw [← e]; exact hy)).mpr (hs y (.tail _ hy))
    rw [List.length_erase_of_mem hx] at this
    have:=List.length_pos_of_mem hx
    rw [List.length_cons]
    omega
end
end My
namespace My
open PySem L2
theorem Fr (x : Int) : ∀ (l acc : List Int), x ∈ l.foldl PyProof.Rows.step_dedup acc ↔ x ∈ acc ∨ x ∈ l
  | [], acc=>by simp
  | y :: l, acc=>by
    rw [List.foldl_cons, Fr x l]
    unfold PyProof.Rows.step_dedup
    by_cases h : acc.any (· == y) = true
    . rw [if_pos h]
      obtain ⟨z, hz, e⟩:=List.any_eq_true.mp h
      rw [beq_iff_eq] at e
      subst e
      simp only [List.mem_cons]
      constructor
      . rintro (q | q)
        . exact .inl q
        . exact .inr (.inr q)
      . rintro (q | q | q)
        . exact .inl q
        . rw [q]; exact .inl hz
        . exact .inr q
    . rw [if_neg h]
      simp only [List.mem_append, List.mem_cons, List.not_mem_nil, or_false]
      constructor
      . rintro ((q | q) | q)
        . exact .inl q
        . exact .inr (.inl q)
        . exact .inr (.inr q)
      . rintro (q | q | q)
        . exact .inl (.inl q)
        . exact .inl (.inr q)
        . exact .inr q
theorem VT : ∀ (l acc : List Int), acc.Nodup -> (l.foldl PyProof.Rows.step_dedup acc).Nodup
  | [], acc, h=>h
  | y :: l, acc, h=>by
    rw [List.foldl_cons]
    refine VT l _ ?_
    unfold PyProof.Rows.step_dedup
    by_cases z : acc.any (· == y) = true
    . rw [if_pos z]; exact h
    . rw [if_neg z]
      refine List.nodup_append.mpr ⟨h, by simp, fun u hu v hv e=>z (List.any_eq_true.mpr ⟨u, hu, ?_⟩)⟩
      rw [e, List.mem_singleton.mp hv]; exact beq_self_eq_true y
end My
namespace My
open PySem L2
theorem Fs {a b : Int} (h : b <= a) : Yj a b = .ok ():=by
  unfold Yj
  simp only [Res.okb]
  rw [if_neg (show ¬ decide (a < b) = true by simpa using h)]
end My
namespace My
open PySem L2
theorem BZ {α ρ : Type} {g : Unit -> α -> Res (Ctl ρ Unit)} {P : α -> Prop} {R : ρ -> Prop} {as : List α} : (∀ a ∈ as, (g () a = .ok (.nx ()) /\ P a) ∨ ∃ r, g () a = .ok (.ret r) /\ R r /\ ¬ P a) -> (forC as () g = .ok (.nx ()) /\ ∀ a ∈ as, P a) ∨ ∃ r, forC as () g = .ok (.ret r) /\ R r /\ ¬ ∀ a ∈ as, P a:=by
  induction as with
  | nil=>intro _; exact .inl ⟨rfl, fun a h=>nomatch h⟩
  | cons a as ih=>
    intro h
    rcases h a List.mem_cons_self with ⟨e, p⟩ | ⟨r, e, hr, np⟩
    . rcases ih (fun b hb => h b (List.mem_cons_of_mem _ hb)) with ⟨e2, p2⟩ | ⟨r, e2, hr, np⟩
      . exact .inl ⟨by show (g () a).bind _ = _; rw [e, Res.okb]; exact e2, fun b hb=>(List.mem_cons.mp hb).elim (fun z=>z ▸ p) (p2 b)⟩
      . exact .inr ⟨r, by show (g () a).bind _ = _; rw [e, Res.okb]; exact e2, hr, fun z=>np fun b hb=>z b (List.mem_cons_of_mem _ hb)⟩
    . exact .inr ⟨r, by show (g () a).bind _ = _; rw [e, Res.okb], hr, fun z=>np (z a List.mem_cons_self)⟩
noncomputable def In (n : Nat) (ks : List Int) : Prop:=∀ x ∈ ks, 0 <= x /\ x < (n : Int)
theorem Lo {n : Nat} {f : Nat -> Nat -> Nat} {a b : Int} (ha : 0 <= a /\ a < n) (hb : 0 <= b /\ b < n) : ((atR (XM n f) a).bind fun r=>atR r b) = .ok (f a.toNat b.toNat : Int):=by
  obtain ⟨i, rfl⟩ : ∃ i : Nat, a = i:=⟨a.toNat, by omega⟩
  obtain ⟨j, rfl⟩ : ∃ j : Nat, b = j:=⟨b.toNat, by omega⟩
  rw [KO (by omega), Res.okb, Bx (by omega)]
  rfl
section
variable {n : Nat} {f g : Nat -> Nat -> Nat}
noncomputable def im1 (im : List Int) (a : Nat) : Int:=im.getD a 0
theorem Ep {im : List Int} {a : Nat} (h : a < im.length) : atR im (a : Int) = .ok (im1 im a):=Z2 (by unfold im1; simp [h])
theorem Hw {im : List Int} (hi : In n im) {a : Nat} (h : a < im.length) : 0 <= im1 im a /\ im1 im a < (n : Int):=hi _ (by
  unfold im1
  rw [List.getD_eq_getElem?_getD, List.getElem?_eq_getElem h]
  exact List.getElem_mem h)
noncomputable def bad (f g : Nat -> Nat -> Nat) (im : List Int) (a b : Nat) : Bool:=decide ((f a b : Int) < (im.length : Int)) && !(decide ((g (im1 im a).toNat (im1 im b).toNat : Int) = im1 im (f a b)))
noncomputable def stB (f g : Nat -> Nat -> Nat) (im : List Int) : Bool:=(List.range im.length).all fun a=>(List.range im.length).all fun b=>!(bad f g im a b)
theorem UZ {im : List Int} : stB f g im = true ↔ ∀ a b, a < im.length -> b < im.length -> bad f g im a b = false:=by
  unfold stB
  rw [List.all_eq_true]
  constructor
  . intro h a b ha hb
    have:=List.all_eq_true.mp (h a (List.mem_range.mpr ha)) b (List.mem_range.mpr hb)
    simpa using this
  . intro h a ha
    rw [List.all_eq_true]
    intro b hb
    rw [h a b (List.mem_range.mp ha) (List.mem_range.mp hb)]
    rfl
theorem DA {im : List Int} (hi : In n im) (hl : im.length <= n) {a b : Nat} (ha : a < im.length) (hb : b < im.length) :
    ((Res.bind (atR (XM n f) (a : Int)) fun x=>atR x (b : Int)).bind fun r=>QW (.ok (decide (r < (im.length : Int)))) (((Res.bind (atR im (a : Int)) fun x=>atR (XM n g) x).bind fun x=>Res.bind (atR im (b : Int)) fun y=>atR x y).bind fun x=>Res.bind (atR im r) fun y=>.ok (!(decide (x = y))))) = .ok (bad f g im a b):=by
  rw [Lo (n:=n) (f:=f) (by omega) (by omega), Res.okb, Int.toNat_natCast, Int.toNat_natCast]
  unfold bad
  refine UP fun h=>?_
  have h : (f a b : Int) < (im.length : Int):=of_decide_eq_true h
  have h1:=Hw hi ha
  have h2:=Hw hi hb
  rw [Ep ha, Ep hb, Res.okb]
  have h3:=Lo (n:=n) (f:=g) h1 h2
  obtain ⟨i, hi'⟩ : ∃ i : Nat, im1 im a = i:=⟨(im1 im a).toNat, by omega⟩
  rw [hi', KO (by omega), Res.okb] at h3 ⊢
  simp only [Res.okb] at h3 ⊢
  rw [h3, Res.okb, Ep (by omega), Res.okb]
theorem Lh {m : Res Int} {c : Int -> Res Bool} {b : Bool} (h : m.bind c = .ok b) : (m.bind fun r=>(c r).bind fun x=>if x = true then Res.ok (Ctl.ret false : Ctl Bool Unit) else Res.ok (Ctl.nx ())) = if b = true then .ok (.ret false) else .ok (.nx ()):=by
  rw [← X6, h, Res.okb]
theorem FE {im : List Int} (hi : In n im) (hl : im.length <= n) {a b : Nat} (ha : a < im.length) (hb : b < im.length) : XW (XM n f) (XM n g) im (a : Int) (b : Int) = .ok (bad f g im a b):=by
  unfold XW
  simp only [Res.okb]
  exact DA hi hl ha hb
theorem F9 {im : List Int} (hi : In n im) (hl : im.length <= n) (hn : n <= 1000) : Qf (XM n f) (XM n g) im = .ok (stB f g im):=by
  unfold Qf
  simp only [Res.okb]
  rw [Za (n:=im.length) (by omega)]
  simp only [Res.okb]
  have inner : ∀ {F : Unit -> Int -> Res (Ctl Bool Unit)} {i : Nat}, (∀ j : Nat, j < im.length -> F () (j : Int) = if bad f g im i j = true then .ok (.ret false) else .ok (.nx ())) -> (((forC ((List.range im.length).map fun (i : Nat)=>(i : Int)) () F).bind (ZN fun (_ : Unit)=>Res.ok (Ctl.nx ()))) = .ok (.nx ()) /\ ∀ b : Nat, b < im.length -> bad f g im i b = false) ∨ ∃ r : Bool, ((forC ((List.range im.length).map fun (i : Nat)=>(i : Int)) () F).bind (ZN fun (_ : Unit)=>Res.ok (Ctl.nx ()))) = .ok (.ret r) /\ r = false /\ ¬ ∀ b : Nat, b < im.length -> bad f g im i b = false:=fun {F i} hF=>by
    rcases BZ (g:=F) (P:=fun b : Int=>bad f g im i b.toNat = false) (R:=fun r : Bool=>r = false) (as:=(List.range im.length).map fun (i : Nat)=>(i : Int)) (fun b hb=>by
      obtain ⟨j, hj, rfl⟩:=YA hb
      rw [hF j hj, Int.toNat_natCast]
      cases q : bad f g im i j with
      | false=>exact .inl ⟨by rw [if_neg (by decide)], rfl⟩
      | true=>exact .inr ⟨_, by rw [if_pos rfl], rfl, by decide⟩) with ⟨e, p⟩ | ⟨r, e, hr, np⟩
    . refine .inl ⟨by rw [e, Res.okb, Fx], fun b hb => ?_⟩
      have:=p (b : Int) (List.mem_map.mpr ⟨b, List.mem_range.mpr hb, rfl⟩)
      simpa using this
    . refine .inr ⟨r, by rw [e, Res.okb, GI], hr, fun z => np fun b hb => ?_⟩
      obtain ⟨j, hj, rfl⟩:=YA hb
      simpa using z j hj
  rcases BZ (g:=fun (_ : Unit) (a9 : Int)=>(Res.bind (forC ((List.range im.length).map fun (i : Nat)=>(i : Int)) () (fun (_ : Unit) (a16 : Int)=>(Res.bind (Res.bind (atR (XM n f) a9) fun x22=>(atR x22 a16)) fun a18=>(Res.bind (QW (Res.ok (decide (a18 < (im.length : Int)))) (Res.bind (Res.bind (Res.bind (atR im a9) fun x29=>(atR (XM n g) x29)) fun x32=>(Res.bind (atR im a16) fun x33=>(atR x32 x33))) fun x36=>(Res.bind (atR im a18) fun x37=>(Res.ok (!(decide (x36 = x37))))))) fun x38=>(if x38 = true then (Res.ok (Ctl.ret false)) else (Res.ok (Ctl.nx ()))))))) (ZN fun (_ : Unit)=>(Res.ok (Ctl.nx ()))))) (P:=fun a : Int=>∀ b : Nat, b < im.length -> bad f g im a.toNat b = false) (R:=fun r : Bool=>r = false) (as:=(List.range im.length).map fun (i : Nat)=>(i : Int)) (fun a ha=>by
    obtain ⟨i, hi', rfl⟩:=YA ha
    rw [Int.toNat_natCast]
    exact inner fun j hj=>by
      have:=DA (f:=f) (g:=g) hi hl hi' hj
      have e:=Lh this
      exact e) with ⟨e, p⟩ | ⟨r, e, hr, np⟩
  . rw [e, Res.okb, VM, UZ.mpr fun a b ha hb=>by simpa using p (a : Int) (List.mem_map.mpr ⟨a, List.mem_range.mpr ha, rfl⟩) b hb]
  . rw [e, Res.okb, UI, hr]
    cases q : stB f g im with
    | false=>rfl
    | true=>
      refine absurd (fun a ha b hb=>?_) np
      obtain ⟨i, hi', rfl⟩:=YA ha
      simpa using UZ.mp q i b hi' hb
noncomputable def lon (n : Nat) (im : List Int) : List (List Int):=(((List.range n).map fun (i : Nat)=>(i : Int)).filter fun c=>!(decide (c ∈ im))).map fun c=>im ++ [c]
theorem JD {im : List Int} (hl : im.length <= 1000) (hn : n <= 1000) : YZ im (n : Int) = .ok (lon n im):=by
  unfold YZ
  simp only [Res.okb]
  rw [Za (by omega), Res.okb, Dv (p:=fun c=>!(decide (c ∈ im))) (h:=fun c=>im ++ [c]) (sz (by simp; omega)) (fun _ _=>rfl) fun a _ _=>?_]
  . rfl
  . rw [Xv (sz (by simp)), Res.okb]
    exact Xv (sz (by simp; omega))
theorem B1 {im w : List Int} (h : w ∈ lon n im) : ∃ c, w = im ++ [c] /\ c ∉ im /\ 0 <= c /\ c < (n : Int):=by
  obtain ⟨c, hc, rfl⟩:=List.mem_map.mp h
  obtain ⟨h1, h2⟩:=List.mem_filter.mp hc
  obtain ⟨i, hi, rfl⟩:=YA h1
  exact ⟨_, rfl, by simpa using h2, by omega, by omega⟩
theorem ZU (im : List Int) : (lon n im).length <= n:=by
  unfold lon
  rw [List.length_map]
  exact Nat.le_trans (List.length_filter_le ..) (by simp)
structure Im (n k : Nat) (im : List Int) : Prop where
  inn : In n im
  len : im.length = k
  nd : im.Nodup
theorem Im.lon {k : Nat} {im w : List Int} (h : Im n k im) (hw : w ∈ lon n im) : Im n (k + 1) w:=by
  obtain ⟨c, rfl, h1, h2, h3⟩:=B1 hw
  refine ⟨fun x hx=>?_, by rw [List.length_append, h.len]; rfl, ?_⟩
  . rcases List.mem_append.mp hx with z | z
    . exact h.inn x z
    . rw [List.mem_singleton.mp z]; exact ⟨h2, h3⟩
  . rw [List.nodup_append]
    exact ⟨h.nd, by simp, fun x hx y hy=>by rw [List.mem_singleton.mp hy]; exact fun z=>h1 (z ▸ hx)⟩
noncomputable def lvs (n : Nat) (f g : Nat -> Nat -> Nat) : Nat -> List Int -> List (List Int)
  | 0, im=>if stB f g im = true then [im] else []
  | d + 1, im=>if stB f g im = true then (lon n im).flatMap (lvs n f g d) else []
theorem Ib {d : Nat} {im : List Int} (h : stB f g im = false) : lvs n f g d im = []:=by
  cases d <;> (unfold lvs; rw [h]; rfl)
theorem GO (d : Nat) (ws : List (List Int)) : (ws.filter (stB f g)).flatMap (lvs n f g d) = ws.flatMap (lvs n f g d):=by
  induction ws with
  | nil=>rfl
  | cons w ws ih=>
    rw [List.flatMap_cons, List.filter_cons]
    cases q : stB f g w with
    | true=>rw [if_pos rfl, List.flatMap_cons, ih]
    | false=>rw [if_neg (by decide), ih, Ib q]; rfl
noncomputable def lev (n : Nat) (f g : Nat -> Nat -> Nat) : Nat -> List (List Int)
  | 0=>[[]]
  | k + 1=>(lev n f g k).flatMap fun im=>(lon n im).filter (stB f g)
theorem Kh {k : Nat} {w : List Int} (h : w ∈ lev n f g k) : Im n k w /\ stB f g w = true:=by
  induction k generalizing w with
  | zero=>rw [List.mem_singleton.mp h]; exact ⟨⟨fun x hx=>(nomatch hx), rfl, List.nodup_nil⟩, rfl⟩
  | succ k ih=>
    obtain ⟨v, hv, hw⟩:=List.mem_flatMap.mp h
    obtain ⟨h1, h2⟩:=List.mem_filter.mp hw
    exact ⟨(ih hv).1.lon h1, h2⟩
theorem B7 {k d : Nat} (h : k + d = n) : (lev n f g k).flatMap (lvs n f g d) = lvs n f g n []:=by
  induction k generalizing d with
  | zero=>
    have e : d = n:=by omega
    subst e
    show List.flatMap _ [[]] = _
    rw [List.flatMap_cons, List.flatMap_nil, List.append_nil]
  | succ k ih=>
    rw [← ih (d:=d + 1) (by omega)]
    show ((lev n f g k).flatMap fun im=>(lon n im).filter (stB f g)).flatMap (lvs n f g d) = _
    rw [List.flatMap_assoc]
    have : ∀ ws : List (List Int), (∀ w ∈ ws, stB f g w = true) -> (ws.flatMap fun x=>((lon n x).filter (stB f g)).flatMap (lvs n f g d)) = ws.flatMap (lvs n f g (d + 1)):=fun ws=>by
      induction ws with
      | nil=>intro _; rfl
      | cons w ws ih2=>
        intro hw
        rw [List.flatMap_cons, List.flatMap_cons, ih2 fun v hv=>hw v (List.mem_cons_of_mem _ hv), GO]
        congr 1
        conv=>rhs; unfold lvs
        rw [if_pos (hw w List.mem_cons_self)]
    exact this _ fun w hw=>(Kh hw).2
theorem Dw : lev n f g n = lvs n f g n []:=by
  rw [← B7 (k:=n) (d:=0) (by omega)]
  have : ∀ ws : List (List Int), (∀ w ∈ ws, stB f g w = true) -> ws = ws.flatMap (lvs n f g 0):=fun ws=>by
    induction ws with
    | nil=>intro _; rfl
    | cons w ws ih=>
      intro hw
      rw [List.flatMap_cons, ← ih fun v hv=>hw v (List.mem_cons_of_mem _ hv)]
      conv=>rhs; unfold lvs
      rw [if_pos (hw w List.mem_cons_self)]
      rfl
  exact this _ fun w hw=>(Kh hw).2
theorem G6 (k : Nat) : (lev n f g k).length <= n ^ k:=by
  induction k with
  | zero=>exact Nat.le_refl _
  | succ k ih=>
    have : ∀ ws : List (List Int), (ws.flatMap fun im=>(lon n im).filter (stB f g)).length <= ws.length * n:=fun ws=>by
      induction ws with
      | nil=>exact Nat.zero_le _
      | cons w ws ih2=>
        rw [List.flatMap_cons, List.length_append, List.length_cons, Nat.succ_mul]
        have:=Nat.le_trans (List.length_filter_le (stB f g) (lon n w)) (ZU w)
        omega
    exact Nat.le_trans (this _) (by rw [Nat.pow_succ]; exact Nat.mul_le_mul_right n ih)
end
end My
namespace My
open PySem L2
section
variable {n : Nat} {f g : Nat -> Nat -> Nat}
theorem Cz {F : List (List Int) -> List Int -> Res (List (List Int))} {ws : List (List Int)} (hF : ∀ acc : List (List Int), acc.length < sizeLine -> ∀ w ∈ ws, F acc w = .ok (if stB f g w = true then acc ++ [w] else acc)) : ∀ {acc : List (List Int)}, acc.length + ws.length <= 100000 -> forN ws acc F = .ok (acc ++ ws.filter (stB f g)):=by
  induction ws with
  | nil=>intro acc _; rw [List.filter_nil, List.append_nil]; rfl
  | cons w ws ih=>
    intro acc ha
    rw [List.length_cons] at ha
    rw [forN, hF acc (BB (by omega)) w List.mem_cons_self, Res.okb]
    have hx : (if stB f g w = true then acc ++ [w] else acc).length + ws.length <= 100000:=by
      split
      . rw [List.length_append, List.length_singleton]; omega
      . omega
    rw [ih (fun acc h v hv=>hF acc h v (List.mem_cons_of_mem _ hv)) hx, List.filter_cons]
    split
    . rw [List.append_assoc]; rfl
    . rfl
theorem Bd (hn : n <= 6) : ZF (XM n f) (XM n g) = .ok (lvs n f g n []):=by
  unfold ZF
  simp only [Res.okb, Xu]
  rw [if_neg (by simp), Xv (sz (by simp)), Res.okb, Za (by omega)]
  simp only [Res.okb]
  rw [← Dw]
  have hpow : ∀ k, k <= n -> n ^ k <= 46656:=fun k hk=>by
    rcases Nat.eq_zero_or_pos n with z | z
    . subst z
      have : k = 0:=by omega
      subst this; decide
    . exact Nat.le_trans (Nat.pow_le_pow_right z hk) (by
        have : n = 1 ∨ n = 2 ∨ n = 3 ∨ n = 4 ∨ n = 5 ∨ n = 6:=by omega
        rcases this with rfl | rfl | rfl | rfl | rfl | rfl <;> decide)
  apply Ok.eq
  refine Ok.bind (Ok.forN (fun k g'=>g' = lev n f g k) rfl fun k a g' ha hg=>?_) fun g' hg=>?_
  . obtain ⟨rfl, hk⟩ := YB ha
    subst hg
    have hlen:=Nat.le_trans (G6 (n:=n) (f:=f) (g:=g) k) (hpow k (by omega))
    have hlen2 : (lev n f g k).length * n <= 46656:=by
      have h1:=Nat.mul_le_mul_right n (G6 (n:=n) (f:=f) (g:=g) k)
      rw [← Nat.pow_succ] at h1
      exact Nat.le_trans h1 (hpow (k + 1) (by omega))
    have key : ∀ {F : List (List Int) -> List Int -> Res (List (List Int))} (ws : List (List Int)), (∀ w ∈ ws, Im n k w) -> (∀ acc : List (List Int), ∀ w, Im n k w -> acc.length <= 50000 -> F acc w = .ok (acc ++ (lon n w).filter (stB f g))) -> ∀ acc : List (List Int), acc.length + ws.length * n <= 46656 -> forN ws acc F = .ok (acc ++ ws.flatMap fun im=>(lon n im).filter (stB f g)):=fun {F} ws=>by
      induction ws with
      | nil=>intro _ _ acc _; rw [List.flatMap_nil, List.append_nil]; rfl
      | cons w ws ih=>
        intro hw hF acc ha
        rw [List.length_cons, Nat.succ_mul] at ha
        have hl:=Nat.le_trans (List.length_filter_le (stB f g) (lon n w)) (ZU (n:=n) w)
        rw [forN, hF acc w (hw w List.mem_cons_self) (by omega), Res.okb, ih (fun v hv=>hw v (List.mem_cons_of_mem _ hv)) hF _ (by rw [List.length_append]; omega), List.flatMap_cons, List.append_assoc]
    rw [key _ (fun w hw=>(Kh hw).1) (fun acc w hw ha=>?_) [] (by simpa using hlen2), Res.okb]
    . exact ⟨_, rfl, rfl⟩
    . have hwl := hw.len
      rw [JD (by omega) (by omega), XO, Res.okb, Cz (f:=f) (g:=g) (fun acc ha v hv=>?_) (by have:=ZU (n:=n) w; omega), Res.okb]
      have hI:=hw.lon hv
      rw [F9 hI.inn (by have:=hI.len; omega) (by omega), XO, Res.okb]
      cases stB f g v with
      | true=>rw [if_pos rfl, if_pos rfl, Xv ha, Res.okb]
      | false=>rw [if_neg (by decide), if_neg (by decide), Res.okb]
  . rw [YC] at hg
    exact ⟨g', rfl, hg⟩
theorem Bn {m : Nat} (h : n ≠ m) : ZF (XM n f) (XM m g) = .ok []:=by
  unfold ZF
  simp only [Res.okb, Xu]
  rw [if_pos (by rw [decide_eq_false (by omega)]; rfl)]
end
end My
namespace My
open PySem L2
noncomputable def JP (way n a b : Int) : Int:=if way = 1 /\ a < 3 /\ b < 3 then (2 * b - a) % 3 else if way = 0 /\ a < 2 /\ n - 2 <= b then 1 - a else a
theorem Ex {way : Int} {n : Nat} (h3 : 3 < n) (hn : n <= 1000) : Ok (Vn way (n : Int)) fun t=>∃ f, (∀ a b, a < n -> b < n -> f a b < n) /\ t = XM n f:=by
  have hr : ∀ a b : Nat, a < n -> b < n -> 0 <= JP way n a b /\ JP way n a b < (n : Int):=fun a b ha hb=>by
    unfold JP
    have m1:=Int.emod_nonneg (2 * (b : Int) - a) (show (3 : Int) ≠ 0 by decide)
    have m2:=Int.emod_lt_of_pos (2 * (b : Int) - a) (show (0 : Int) < 3 by decide)
    split
    . omega
    . split <;> omega
  refine ⟨XM n fun a b=>(JP way n a b).toNat, ?_, fun a b=>(JP way n a b).toNat, fun a b ha hb=>by
    have:=hr a b ha hb
    show (JP way n a b).toNat < n
    omega, rfl⟩
  unfold Vn
  simp only [Res.okb]
  rw [Za (by omega)]
  simp only [Res.okb]
  rw [QC (h:=fun a : Int=>((List.range n).map fun (i : Nat)=>(i : Int)).map fun b=>JP way n a b) (sz (by simp; omega)) fun acc hacc a ha=>?_]
  . rw [Res.okb, List.nil_append]
    congr 1
    unfold XM
    rw [List.map_map]
    refine List.map_congr_left fun a ha=>?_
    show ((List.range n).map fun (i : Nat)=>(i : Int)).map _ = ZQ n _ a
    unfold ZQ
    rw [List.map_map]
    refine List.map_congr_left fun b hb=>?_
    have:=hr a b (List.mem_range.mp ha) (List.mem_range.mp hb)
    show JP way n a b = ((JP way n a b).toNat : Int)
    omega
  . rw [QC (h := fun b : Int => JP way n a b) (sz (by simp; omega)) fun acc2 hacc2 b hb => ?_]
    . rw [Res.okb, List.nil_append, Xv hacc]
    . obtain ⟨i, hi, rfl⟩ := YA ha
      obtain ⟨j, hj, rfl⟩:=YA hb
      simp only [Qm, Res.okb]
      rw [QR (by decide) (by decide)]
      simp only [Res.okb]
      rw [Yp (by decide)]
      simp only [Res.okb]
      have hb : ∀ {p q t : Prop} [Decidable p] [Decidable q] [Decidable t] {α : Type} {x y : α}, (if (decide p && (decide q && decide t)) = true then x else y) = if p /\ q /\ t then x else y:=fun {p q t} _ _ _ {α x y}=>by
        by_cases c : p /\ q /\ t
        . rw [if_pos c, if_pos (by rw [decide_eq_true c.1, decide_eq_true c.2.1, decide_eq_true c.2.2]; rfl)]
        . rw [if_neg c, if_neg fun z=>c (by simpa only [Bool.and_eq_true, decide_eq_true_eq] using z)]
      simp only [hb]
      unfold JP
      by_cases c1 : way = 1 /\ (i : Int) < 3 /\ (j : Int) < 3
      . have c0 : ¬ (way = 0 /\ (i : Int) < 2 /\ (n : Int) - 2 <= (j : Int)) := by omega
        rw [if_pos c1, if_neg c0, Res.okb, if_pos c1, Res.okb]
        exact Xv hacc2
      . rw [if_neg c1]
        by_cases c0 : way = 0 /\ (i : Int) < 2 /\ (n : Int) - 2 <= (j : Int)
        . rw [if_pos c0, if_pos c0, Res.okb, if_neg c1, Res.okb]
          exact Xv hacc2
        . rw [if_neg c0, if_neg c0, Res.okb, if_neg c1, Res.okb]
          exact Xv hacc2
theorem EF (ns : List Int) {most : Nat} (h0 : 0 < most) (hm : most <= 6) : Ok (Vi ns (most : Int)) fun t=>∃ n m f g, (n <= 6 /\ m <= 6) /\ (∀ a b, a < n -> b < n -> f a b < n) /\ (∀ a b, a < m -> b < m -> g a b < m) /\ t = (XM n f, XM m g):=by
  unfold Vi
  simp only [Res.okb]
  rw [Xv (sz (by simp))]
  simp only [Res.okb]
  rw [Xv (sz (by simp))]
  simp only [Res.okb]
  rw [show CO [(24 : Int)] 8 = .ok (List.replicate 8 24) from rfl]
  simp only [Res.okb]
  rw [show UR [(3 : Int)] (List.replicate 8 24) = .ok ([(3 : Int)] ++ List.replicate 8 24) from Xv (sz (by simp))]
  simp only [Res.okb]
  refine Ok.bind (Ok.noE (UJ ns (by decide) _ (by simp) (by decide))) fun r hr=>?_
  obtain ⟨hl, hv⟩:=hr
  have hl' : r.length = 9:=by rw [hl]; simp
  clear hl hv
  refine Ok.bind (Ok.noE (Kv ns (p:=0) (by decide) h0 (by omega))) fun t ht=>?_
  obtain ⟨n, f, hn0, hnm, gd, rfl⟩:=ht
  rw [Xv (sz (by simp)), Res.okb]
  refine Ok.bind (Ok.noE (UJ ns (by decide) _ (by simp) (by decide))) fun r2 hr2=>?_
  obtain ⟨hl2, _⟩:=hr2
  have hl2' : r2.length = 2:=by rw [hl2]; simp
  rw [YL (r:=r) (k:=0) (n:=0) rfl (by omega), YL (r:=r) (k:=1) (n:=1) rfl (by omega), YL (r:=r) (k:=2) (n:=2) rfl (by omega), YL (r:=r) (k:=3) (n:=3) rfl (by omega), YL (r:=r2) (k:=0) (n:=0) rfl (by omega), YL (r:=r2) (k:=1) (n:=1) rfl (by omega)]
  simp only [Res.okb, Qm, Xu]
  refine Ok.bind (R:=fun t=>∃ f, (∀ a b, a < n -> b < n -> f a b < n) /\ t = XM n f) (Ok.ite (fun c=>?_) fun _=>⟨_, rfl, f, gd.lt, rfl⟩) fun t ht=>?_
  . rw [Bool.and_eq_true, decide_eq_true_eq, decide_eq_true_eq] at c
    exact Ok.bind (Ok.noE (Ex (by omega) (by omega))) fun t ht=>⟨t, rfl, ht⟩
  obtain ⟨f', hf', rfl⟩:=ht
  clear gd f
  rw [Xu]
  refine Ok.ite (fun _=>?_) fun _=>?_
  . rw [show Qj r (some 1) none = r.drop 1 from V0 r (k := 1) (by omega)]
    refine Ok.bind (R:=fun u=>∃ g, (∀ a b, a < n -> b < n -> g a b < n) /\ u = XM n g) (Ok.bind (Ok.noE (Vr (by omega) (by rw [List.length_drop]; omega))) fun sp hsp=>?_) fun u hu=>?_
    . obtain ⟨q, q', hq⟩ := hsp
      rw [Ud (by omega) hf' hq, XO]
      exact ⟨_, rfl, _, fun a b ha hb=>hq.1.lt _ (hf' _ _ (hq.1.qlt a ha) (hq.1.qlt b hb)), rfl⟩
    . obtain ⟨g, hg, rfl⟩ := hu
      exact ⟨_, rfl, n, n, f', g, by omega, hf', hg, rfl⟩
  . refine Ok.bind (Ok.noE (Kv ns (p := 1) (by decide) h0 (by omega))) fun t ht => ?_
    obtain ⟨m, g, hm0, hmm, gd2, rfl⟩:=ht
    rw [Yp (by decide), Yp (by decide)]
    simp only [Res.okb, Qm, Xu]
    refine Ok.bind (R:=fun u=>∃ m g, m <= 6 /\ (∀ a b, a < m -> b < m -> g a b < m) /\ u = XM m g) (Ok.ite (fun _=>?_) fun _=>⟨_, rfl, m, g, by omega, gd2.lt, rfl⟩) fun u hu=>?_
    . refine Ok.bind (Ok.noE (G1 (by omega) (by omega))) fun t ht => ?_
      obtain ⟨g', gd3, rfl⟩:=ht
      exact ⟨_, rfl, n, g', by omega, gd3.lt, rfl⟩
    . obtain ⟨m, g, h1, h2, rfl⟩ := hu
      exact ⟨_, rfl, n, m, f', g, by omega, hf', h2, rfl⟩
end My
namespace My
open PySem L2
section
variable {n m : Nat} {f g : Nat -> Nat -> Nat}
theorem Fo : ∀ {a b : List Int}, a.Nodup -> (∀ x ∈ a, x ∈ b) -> b.length <= a.length -> a.Perm b
  | [], b, _, _, h=>by rw [List.length_eq_zero_iff.mp (Nat.le_zero.mp h)]
  | x :: a, b, hn, hs, h=>by
    have hx:=hs x List.mem_cons_self
    have hp:=List.perm_cons_erase hx
    rw [List.nodup_cons] at hn
    have hl:=hp.length_eq
    rw [List.length_cons] at hl h
    refine List.Perm.trans (List.Perm.cons x (Fo hn.2 (fun y hy=>?_) (by omega))) hp.symm
    have:=hp.mem_iff.mp (hs y (List.mem_cons_of_mem _ hy))
    rcases List.mem_cons.mp this with z | z
    . exact absurd (z ▸ hy) hn.1
    . exact z
theorem Uz {im : List Int} (h : (dd im).length = im.length) : im.Nodup:=by
  have h1 : (dd im).Nodup:=VT im [] List.nodup_nil
  have h2 : ∀ x ∈ dd im, x ∈ im:=fun x hx=>by
    rcases (Fr x im []).mp hx with z | z
    . cases z
    . exact z
  exact (Fo h1 h2 (by omega)).nodup_iff.mp h1
theorem Bz (hn : n <= 6) (hm : m <= 6) : YK (XM n f) (XM m g) = .ok ():=by
  unfold YK
  simp only [Res.okb, Xu]
  rw [Fs (by omega)]; rfl
theorem Gz {im : List Int} (hl : im.length <= 1000) : Yx im (n : Int) = .ok (im.all fun x=>decide (0 <= x) && decide (x < (n : Int))):=by
  unfold Yx
  simp only [Res.okb]
  rw [Qt (h:=fun x=>decide (0 <= x) && decide (x < (n : Int))) (sz (by omega)) fun a _=>?_]
  . rw [Res.okb, List.all_map]; rfl
  . by_cases c : 0 <= a
    . rw [if_pos (decide_eq_true c), decide_eq_true c, Bool.true_and]
    . rw [if_neg (by rw [decide_eq_false c]; decide), decide_eq_false c, Bool.false_and]
theorem KD {im : List Int} {a : Int} : YV im a = .ok (decide (0 <= a) && decide (a < (im.length : Int))):=by
  unfold YV
  simp only [Res.okb]
  by_cases c : 0 <= a
  . rw [if_pos (decide_eq_true c), decide_eq_true c, Bool.true_and]
  . rw [if_neg (by rw [decide_eq_false c]; decide), decide_eq_false c, Bool.false_and]
end
end My
namespace My
open PySem L2
theorem IS {n i : Nat} (h6 : n <= 6) (hi : i <= n) : n ^ i <= 60000:=by
  rcases Nat.eq_zero_or_pos n with rfl | h0
  . rw [Nat.le_zero.mp hi]; decide
  . refine Nat.le_trans (Nat.pow_le_pow_right h0 hi) ?_
    rcases (show n = 1 ∨ n = 2 ∨ n = 3 ∨ n = 4 ∨ n = 5 ∨ n = 6 by omega) with rfl | rfl | rfl | rfl | rfl | rfl <;> decide
theorem K4 (j : Nat) (a : List Int) : lon (j + 1) a = lon j a ++ (if (!(decide ((j : Int) ∈ a))) = true then [a ++ [(j : Int)]] else []):=by
  unfold lon
  rw [List.range_succ, List.map_append, List.filter_append, List.map_append]
  congr 1
  by_cases c : (j : Int) ∈ a <;> simp [c]
theorem Jf {j : Nat} {a o : List Int} (h : o ∈ lon j a) : ∃ c : Int, o = a ++ [c] /\ 0 <= c /\ c < (j : Int) /\ c ∉ a:=by
  unfold lon at h
  obtain ⟨c, hc, rfl⟩:=List.mem_map.mp h
  rw [List.mem_filter, Bool.not_eq_true', decide_eq_false_iff_not] at hc
  obtain ⟨i, hi, rfl⟩:=List.mem_map.mp hc.1
  have:=List.mem_range.mp hi
  exact ⟨_, rfl, by omega, by omega, hc.2⟩
theorem FU (n : Nat) : ∀ ls : List (List Int), (ls.flatMap (lon n)).length <= ls.length * n
  | []=>Nat.zero_le _
  | a :: ls=>by
    rw [List.flatMap_cons, List.length_append, List.length_cons, Nat.add_mul, Nat.one_mul]
    have:=FU n ls
    have:=ZU (n:=n) a
    omega
theorem F6 {ls : List (List Int)} {n i : Nat} (hn : n <= 6) (hc : ls.length * n <= 60000) (hi : i <= 1000) (hl : ∀ o ∈ ls, o.length = i) : X0 ls (n : Int) = .ok (ls.flatMap (lon n)):=by
  unfold X0
  simp only [Res.okb]
  have key : Ok (forN ls [] (fun g6 a8=>Res.bind (QU 0 (n : Int)) fun x34=>Res.bind (forN x34 g6 (fun g13 a15=>Res.bind (if (!(decide (a15 ∈ a8))) = true then Res.bind (Res.bind (chk ([a15].length <= sizeLine) (Res.ok [a15])) fun x23=>UR a8 x23) fun a27=>chk (g13.length < sizeLine) (Res.ok (g13 ++ [a27])) else Res.ok g13) fun g31=>Res.ok g31)) fun g32=>Res.ok g32)) fun l=>l = ls.flatMap (lon n):=by
    have:=Ok.forN (f:=fun g6 a8=>Res.bind (QU 0 (n : Int)) fun x34=>Res.bind (forN x34 g6 (fun g13 a15=>Res.bind (if (!(decide (a15 ∈ a8))) = true then Res.bind (Res.bind (chk ([a15].length <= sizeLine) (Res.ok [a15])) fun x23=>UR a8 x23) fun a27=>chk (g13.length < sizeLine) (Res.ok (g13 ++ [a27])) else Res.ok g13) fun g31=>Res.ok g31)) fun g32=>Res.ok g32) (as:=ls) (g:=[]) (fun k l=>l = (ls.take k).flatMap (lon n)) rfl fun k a g hk hg=>by
      have hk' : k < ls.length:=(List.getElem?_eq_some_iff.mp hk).1
      have ha : a.length = i:=hl a (List.mem_of_getElem? hk)
      have hkn : (k + 1) * n <= ls.length * n:=Nat.mul_le_mul_right n hk'
      rw [Nat.add_mul, Nat.one_mul] at hkn
      have hgl : g.length <= k * n:=by
        rw [hg]
        refine Nat.le_trans (FU n _) (Nat.mul_le_mul_right n ?_)
        rw [List.length_take]; omega
      rw [Za (by omega), Res.okb]
      refine Ok.bind (Ok.forN (fun j l=>l = g ++ lon j a) (by show g = g ++ []; rw [List.append_nil]) fun j x g2 hj hg2=>?_) fun t ht=>⟨t, rfl, ?_⟩
      . obtain ⟨rfl, hjn⟩ := YB hj
        have hll:=ZU (n:=j) a
        have hg2l : g2.length <= k * n + j:=by rw [hg2, List.length_append]; omega
        refine Ok.bind (R:=fun l=>l = g ++ lon (j + 1) a) (Ok.ite (fun c=>?_) fun c=>⟨g2, rfl, ?_⟩) fun t ht=>⟨t, rfl, ht⟩
        . rw [Xv (sz (by simp)), Res.okb, show UR a [(j : Int)] = .ok (a ++ [(j : Int)]) from Xv (sz (by simp; omega)), Res.okb, Xv (BB (by omega))]
          exact ⟨_, rfl, by rw [K4, if_pos c, hg2, List.append_assoc]⟩
        . rw [K4, c, if_neg (by decide), List.append_nil, hg2]
      . rw [YC] at ht
        rw [ht, hg, List.take_succ, hk, List.flatMap_append]
        show _ = _ ++ (lon n a ++ [])
        rw [List.append_nil]
    rw [List.take_length] at this
    exact this
  obtain ⟨l, el, hl⟩:=key
  rw [el, Res.okb, hl]
noncomputable def Bo (n : Nat) : Nat -> List (List Int)
  | 0=>[[]]
  | k + 1=>(Bo n k).flatMap (lon n)
theorem VR (n : Nat) : ∀ k, (Bo n k).length <= n ^ k
  | 0=>Nat.le_refl 1
  | k + 1=>Nat.le_trans (FU n _) (by rw [Nat.pow_succ]; exact Nat.mul_le_mul_right n (VR n k))
theorem Y3 {n : Nat} : ∀ {k : Nat} {o : List Int}, o ∈ Bo n k -> o.length = k
  | 0, o, h=>by rw [List.mem_singleton.mp h]; rfl
  | k + 1, o, h=>by
    obtain ⟨a, ha, ho⟩:=List.mem_flatMap.mp h
    obtain ⟨c, rfl, _⟩:=Jf ho
    rw [List.length_append, Y3 ha]; rfl
theorem ED {n : Nat} (h6 : n <= 6) : YW (n : Int) = .ok (Bo n n):=by
  unfold YW
  simp only [Res.okb]
  rw [Xv (sz (by simp)), Res.okb, Za (by omega), Res.okb]
  have hp : ∀ i, i <= n -> n ^ i <= 60000:=fun i hi=>IS h6 hi
  obtain ⟨l, el, h1⟩:=Ok.forN (f:=fun g10 a12=>Res.bind (noE (X0 g10 (n : Int))) fun a14=>Res.ok a14) (as:=(List.range n).map fun (i : Nat)=>(i : Int)) (g:=[[]]) (fun i l=>l = Bo n i) rfl fun i x g hi hg=>by
    obtain ⟨rfl, hin⟩:=YB hi
    have hm : g.length * n <= n ^ (i + 1):=by rw [Nat.pow_succ, hg]; exact Nat.mul_le_mul_right n (VR n i)
    rw [F6 (i:=i) h6 (Nat.le_trans hm (hp (i + 1) (by omega))) (by omega) fun o ho=>Y3 (hg ▸ ho), XO, Res.okb]
    exact ⟨_, rfl, by rw [hg]; rfl⟩
  rw [YC] at h1
  rw [el, Res.okb, h1]
section
variable {n m : Nat} {f g : Nat -> Nat -> Nat}
noncomputable def brk (n : Nat) (f g : Nat -> Nat -> Nat) (e : List Int × Int × Int) : Bool:=
  decide ((dd e.1).length = e.1.length) && ((e.1.all fun x=>decide (0 <= x) && decide (x < (n : Int))) && ((decide (0 <= e.2.1) && decide (e.2.1 < (e.1.length : Int))) && ((decide (0 <= e.2.2) && decide (e.2.2 < (e.1.length : Int))) && bad f g e.1 e.2.1.toNat e.2.2.toNat)))
theorem Fy {e : List Int × Int × Int} (hl : e.1.length < 64) (hn : n <= 24) : Z8 (XM n f) (XM n g) e = .ok (brk n f g e):=by
  unfold Z8 brk
  simp only [Res.okb, Xu]
  rw [Xv hl, Res.okb, Gz (by omega), XO, Res.okb]
  by_cases c1 : ((dd e.1).length : Int) = (e.1.length : Int)
  . have c1' : (dd e.1).length = e.1.length := by omega
    rw [decide_eq_true c1, decide_eq_true c1', Bool.true_and]
    have hnd:=Uz c1'
    by_cases c2 : (e.1.all fun x=>decide (0 <= x) && decide (x < (n : Int))) = true
    . rw [c2, Bool.true_and, show orR (Res.ok (!true)) (Res.ok (!true)) = .ok false from rfl, Res.okb, if_neg (by decide), KD, KD, XO, XO]
      have hin : In n e.1:=fun x hx=>by
        have:=List.all_eq_true.mp c2 x hx
        rw [Bool.and_eq_true, decide_eq_true_eq, decide_eq_true_eq] at this
        exact this
      have hle : e.1.length <= n:=by
        have:=JN hnd (m:=(List.range n).map fun (i : Nat)=>(i : Int)) fun x hx=>by
          obtain ⟨h1, h2⟩:=hin x hx
          exact List.mem_map.mpr ⟨x.toNat, List.mem_range.mpr (by omega), by omega⟩
        simpa using this
      by_cases c3 : 0 <= e.2.1 /\ e.2.1 < (e.1.length : Int)
      . by_cases c4 : 0 <= e.2.2 /\ e.2.2 < (e.1.length : Int)
        . obtain ⟨a, ha⟩ : ∃ a : Nat, e.2.1 = a := ⟨e.2.1.toNat, by omega⟩
          obtain ⟨b, hb⟩ : ∃ b : Nat, e.2.2 = b:=⟨e.2.2.toNat, by omega⟩
          have ha' : a < e.1.length:=by omega
          have hb' : b < e.1.length:=by omega
          rw [ha, hb, FE hin hle ha' hb', XO, UP fun _=>UP fun _=>rfl, Int.toNat_natCast, Int.toNat_natCast]
        . have : (decide (0 <= e.2.2) && decide (e.2.2 < (e.1.length : Int))) = false:=by
            rw [Bool.and_eq_false_iff, decide_eq_false_iff_not, decide_eq_false_iff_not]; omega
          rw [this]
          exact UP fun _=>rfl
      . have : (decide (0 <= e.2.1) && decide (e.2.1 < (e.1.length : Int))) = false:=by
          rw [Bool.and_eq_false_iff, decide_eq_false_iff_not, decide_eq_false_iff_not]; omega
        rw [this]; rfl
    . rw [Bool.not_eq_true] at c2
      rw [c2]; rfl
  . have c1' : ¬(dd e.1).length = e.1.length := by omega
    rw [decide_eq_false c1, decide_eq_false c1']; rfl
end
theorem Gi {o : List Int} {k : Nat} (h : k <= o.length) : Qj o none (some (k : Int)) = o.take k:=by
  unfold Qj
  have e : HT.sIx o.length o.length (some (k : Int)) = k:=by
    unfold HT.sIx
    simp only []
    split <;> omega
  rw [e]
  show List.take (k - 0) (List.drop 0 o) = _
  rw [Nat.sub_zero, List.drop_zero]
theorem FQ {o : List Int} {d : List (List Int × Bool)} (h : o.length <= 1000) : XX o d = .ok ((List.range (o.length + 1)).any fun k=>(Qg d (o.take k)).isSome):=by
  unfold XX
  simp only [Res.okb]
  rw [show (o.length : Int) + 1 = ((o.length + 1 : Nat) : Int) by omega, Za (by omega), Res.okb, Qt (h:=fun a7=>(Qg d (Qj o none (some a7))).isSome) (sz (by simp; omega)) fun _ _=>rfl, Res.okb, List.map_map, List.any_map]
  congr 1
  rw [Bool.eq_iff_iff, List.any_eq_true, List.any_eq_true]
  constructor
  . rintro ⟨k, hk, p⟩
    have:=List.mem_range.mp hk
    exact ⟨k, hk, by rw [← Gi (by omega)]; exact p⟩
  . rintro ⟨k, hk, p⟩
    have:=List.mem_range.mp hk
    exact ⟨k, hk, by show (Qg d (Qj o none (some (k : Int)))).isSome = true; rw [Gi (by omega)]; exact p⟩
theorem Vq {d : List (List Int × Bool)} {k : List Int} : (Qg d k).isSome = true ↔ k ∈ d.map (·.1):=by
  unfold Qg
  rw [Option.isSome_map, List.find?_isSome, List.mem_map]
  constructor
  . rintro ⟨x, hx, p⟩; exact ⟨x, hx, of_decide_eq_true p⟩
  . rintro ⟨x, hx, p⟩; exact ⟨x, hx, decide_eq_true p⟩
theorem Vt {d : List (List Int × Bool)} {k x : List Int} {v : Bool} : x ∈ (J8 d k v).map (·.1) ↔ x ∈ d.map (·.1) ∨ x = k:=by
  unfold J8
  split
  . rename_i c
    rw [List.map_map, show ((·.1) ∘ fun kv : List Int × Bool=>if kv.1 = k then (kv.1, v) else kv) = (·.1) from funext fun kv=>by show (if kv.1 = k then (kv.1, v) else kv).1 = kv.1; split <;> rfl]
    constructor
    . exact .inl
    . rintro (h | rfl)
      . exact h
      . obtain ⟨kv, hk, e⟩ := List.any_eq_true.mp c
        exact List.mem_map.mpr ⟨kv, hk, of_decide_eq_true e⟩
  . rw [List.map_append, List.mem_append]
    simp
theorem JE : ∀ {ps d : List (List Int × Bool)} {x : List Int}, x ∈ (Vs d ps).map (·.1) ↔ x ∈ d.map (·.1) ∨ x ∈ ps.map (·.1)
  | [], d, x=>by show x ∈ d.map (·.1) ↔ _; simp
  | p :: ps, d, x=>by
    show x ∈ (Vs (J8 d p.1 p.2) ps).map (·.1) ↔ _
    rw [JE, Vt, List.map_cons, List.mem_cons, or_assoc]
noncomputable def Vy (n : Nat) (f g : Nat -> Nat -> Nat) (paper : List (List Int × Int × Int)) : List (List Int):=(paper.filter (brk n f g)).map (·.1)
section
variable {n m : Nat} {f g : Nat -> Nat -> Nat} {paper : List (List Int × Int × Int)}
theorem Bb : ([] : List Int) ∉ Vy n f g paper:=fun h=>by
  obtain ⟨e, he, z⟩:=List.mem_map.mp h
  have:=(List.mem_filter.mp he).2
  unfold brk at this
  simp only [z, Bool.and_eq_true, decide_eq_true_eq] at this
  have h1:=this.2.2.1.1
  have h2:=this.2.2.1.2
  rw [List.length_nil] at h2
  omega
theorem CW (hn : n <= 6) (hp : paper.length <= 100000) (hl : ∀ e ∈ paper, e.1.length < 64) : Z0 (XM n f) (XM n g) paper = .ok ((Bo n n).all fun o=>(List.range (o.length + 1)).any fun k=>decide (o.take k ∈ Vy n f g paper)):=by
  unfold Z0
  simp only [Res.okb, Xu]
  rw [Bz hn hn, XO, Res.okb, if_neg (by decide)]
  rw [Dv (as:=paper) (p:=brk n f g) (h:=fun e=>(e.1, true)) (sz (by omega)) (fun e he=>by rw [Fy (hl e he) (show n <= 24 by omega), XO]) fun e he _=>rfl, Res.okb, Res.okb, ED hn, XO, Res.okb]
  have hp : n ^ n <= 60000:=IS hn (Nat.le_refl _)
  have hol:=Nat.le_trans (VR n n) hp
  rw [Qt (h:=fun o=>(List.range (o.length + 1)).any fun k=>decide (o.take k ∈ Vy n f g paper)) (sz (by omega)) fun o ho=>?_, Res.okb, List.all_map]
  . rfl
  . have := Y3 ho
    rw [FQ (by omega), XO]
    congr 1
    congr 1
    funext k
    rw [Bool.eq_iff_iff, Vq, JE, decide_eq_true_eq]
    unfold Vy
    rw [List.map_map]
    simp
noncomputable def Dy (n : Nat) (p : List Int -> Bool) : Nat -> List (List Int)
  | 0=>[[]]
  | k + 1=>(Dy n p k).flatMap fun x=>(lon n x).filter p
theorem ZL {p : List Int -> Bool} : ∀ {k : Nat} {o : List Int}, o ∈ Dy n p k ↔ o ∈ Bo n k /\ ∀ i, 1 <= i -> i <= k -> p (o.take i) = true
  | 0, o=>by
    show o ∈ [[]] ↔ o ∈ [[]] /\ _
    exact ⟨fun h=>⟨h, fun i h1 h2=>absurd h1 (by omega)⟩, fun h=>h.1⟩
  | k + 1, o=>by
    show o ∈ (Dy n p k).flatMap (fun x=>(lon n x).filter p) ↔ o ∈ (Bo n k).flatMap (lon n) /\ _
    rw [List.mem_flatMap, List.mem_flatMap]
    constructor
    . rintro ⟨x, hx, ho⟩
      obtain ⟨hx1, hx2⟩:=ZL.mp hx
      obtain ⟨ho1, ho2⟩:=List.mem_filter.mp ho
      obtain ⟨c, rfl, _⟩:=Jf ho1
      have hxl:=Y3 hx1
      refine ⟨⟨x, hx1, ho1⟩, fun i h1 h2=>?_⟩
      by_cases c : i <= k
      . rw [List.take_append_of_le_length (by omega)]; exact hx2 i h1 c
      . rw [List.take_of_length_le (by simp; omega)]; exact ho2
    . rintro ⟨⟨x, hx, ho⟩, h⟩
      obtain ⟨c, rfl, _⟩:=Jf ho
      have hxl:=Y3 hx
      refine ⟨x, ZL.mpr ⟨hx, fun i h1 h2=>?_⟩, List.mem_filter.mpr ⟨ho, ?_⟩⟩
      . have := h i h1 (by omega)
        rwa [List.take_append_of_le_length (by omega)] at this
      . have := h (k + 1) (by omega) (by omega)
        rwa [List.take_of_length_le (by simp; omega)] at this
theorem GA : ((Bo n n).all fun o=>(List.range (o.length + 1)).any fun k=>decide (o.take k ∈ Vy n f g paper)) = decide (Dy n (fun o=>!(decide (o ∈ Vy n f g paper))) n = []):=by
  rw [Bool.eq_iff_iff, decide_eq_true_eq, List.all_eq_true, List.eq_nil_iff_forall_not_mem]
  constructor
  . intro h o ho
    obtain ⟨h1, h2⟩:=ZL.mp ho
    obtain ⟨k, hk, z⟩:=List.any_eq_true.mp (h o h1)
    rw [decide_eq_true_eq] at z
    have hk:=List.mem_range.mp hk
    have:=Y3 h1
    rcases Nat.eq_zero_or_pos k with rfl | hpos
    . rw [List.take_zero] at z; exact Bb z
    . have := h2 k hpos (by omega)
      rw [Bool.not_eq_true', decide_eq_false_iff_not] at this
      exact this z
  . intro h o ho
    have hno:=h o
    rw [ZL] at hno
    rw [List.any_eq_true]
    refine Classical.byContradiction fun hc=>hno ⟨ho, fun i h1 h2=>?_⟩
    rw [Bool.not_eq_true', decide_eq_false_iff_not]
    intro z
    have:=Y3 ho
    exact hc ⟨i, List.mem_range.mpr (by omega), decide_eq_true z⟩
theorem GL {o : List Int} (h : stB f g o = true) : o ∉ Vy n f g paper:=fun hm=>by
  obtain ⟨e, he, rfl⟩:=List.mem_map.mp hm
  have hb:=(List.mem_filter.mp he).2
  unfold brk at hb
  simp only [Bool.and_eq_true, decide_eq_true_eq] at hb
  obtain ⟨_, _, ⟨h1, h2⟩, ⟨h3, h4⟩, h5⟩:=hb
  rw [UZ] at h
  have:=h e.2.1.toNat e.2.2.toNat (by omega) (by omega)
  rw [h5] at this
  cases this
theorem GJ (h : Dy n (stB f g) n ≠ []) : Dy n (fun o=>!(decide (o ∈ Vy n f g paper))) n ≠ []:=by
  obtain ⟨o, ho⟩:=List.exists_mem_of_ne_nil _ h
  obtain ⟨h1, h2⟩:=ZL.mp ho
  refine List.ne_nil_of_mem (a:=o) (ZL.mpr ⟨h1, fun i a b=>?_⟩)
  rw [Bool.not_eq_true', decide_eq_false_iff_not]
  exact GL (h2 i a b)
end
end My
namespace My
open PySem L2
theorem CJ {α ρ β : Type} {g : Unit -> α -> Res (Ctl ρ Unit)} (P : α -> Prop) (R : ρ -> Prop) {as : List α} {K : Ctl ρ Unit -> Res β} {T : Res β -> Prop} (h : ∀ a ∈ as, (g () a = .ok (.nx ()) /\ P a) ∨ ∃ r, g () a = .ok (.ret r) /\ R r /\ ¬ P a)
    (h1 : (∀ a ∈ as, P a) -> T (K (.nx ()))) (h2 : ∀ r, R r -> (¬ ∀ a ∈ as, P a) -> T (K (.ret r))) : T ((forC as () g).bind K):=by
  rcases BZ h with ⟨e, p⟩ | ⟨r, e, hr, np⟩
  . rw [e, Res.okb]; exact h1 p
  . rw [e, Res.okb]; exact h2 r hr np
theorem Dr {im : List Int} (h : im.Nodup) : (dd im).length = im.length:=by
  have h1 : (dd im).Nodup:=VT im [] List.nodup_nil
  have hm : ∀ x, x ∈ dd im ↔ x ∈ im:=fun x=>(Fr x im []).trans ⟨fun z=>z.elim (fun y=>nomatch y) id, .inr⟩
  exact Nat.le_antisymm (JN h1 fun x hx=>(hm x).mp hx) (JN h fun x hx=>(hm x).mpr hx)
section
variable {n m : Nat} {f g : Nat -> Nat -> Nat}
theorem FG {im : List Int} {a b : Int} (hl : im.length < 64) : YJ (XM n f) (XM n g) im a b = .ok (brk n f g (im, a, b)):=by
  unfold YJ
  simp only [Res.okb, Xu]
  refine CJ (T:=fun r=>r = .ok (brk n f g (im, a, b))) (fun c : Int=>(0 <= c /\ c < (n : Int)) /\ im.count c <= 1) (fun r : Bool=>r = false) (fun c hc=>?_) (fun hp=>?_) fun r hr np=>?_
  . have e0 : (if decide (0 <= c) = true then Res.ok (decide (c < (n : Int))) else Res.ok false) = Res.ok (decide (0 <= c) && decide (c < (n : Int))):=by
      by_cases h : 0 <= c
      . rw [if_pos (decide_eq_true h), decide_eq_true h, Bool.true_and]
      . rw [if_neg (by rw [decide_eq_false h]; decide), decide_eq_false h, Bool.false_and]
    rw [e0, Res.okb, Jt, Res.okb]
    by_cases hP : (0 <= c /\ c < (n : Int)) /\ im.count c <= 1
    . refine .inl ⟨?_, hP⟩
      rw [decide_eq_true hP.1.1, decide_eq_true hP.1.2, decide_eq_false (by omega)]; rfl
    . refine .inr ⟨false, ?_, rfl, hP⟩
      have : (!(decide (0 <= c) && decide (c < (n : Int))) || decide (1 < ((im.count c : Nat) : Int))) = true:=by
        rw [Bool.or_eq_true, Bool.not_eq_true', Bool.and_eq_false_iff, decide_eq_false_iff_not, decide_eq_false_iff_not, decide_eq_true_eq]
        omega
      rw [if_pos this]
  . have hnd : im.Nodup:=by
      rw [List.nodup_iff_count]
      intro c
      by_cases hc : c ∈ im
      . exact (hp c hc).2
      . rw [List.count_eq_zero_of_not_mem hc]; omega
    have hin : In n im:=fun x hx=>(hp x hx).1
    have hle : im.length <= n:=by
      have:=JN hnd (m:=(List.range n).map fun (i : Nat)=>(i : Int)) fun x hx=>by
        obtain ⟨h1, h2⟩:=hin x hx
        exact List.mem_map.mpr ⟨x.toNat, List.mem_range.mpr (by omega), by omega⟩
      simpa using this
    have hall : (im.all fun x=>decide (0 <= x) && decide (x < (n : Int))) = true:=by
      rw [List.all_eq_true]
      intro x hx
      rw [decide_eq_true (hin x hx).1, decide_eq_true (hin x hx).2]; rfl
    unfold brk
    simp only [hall, decide_eq_true (Dr hnd), Bool.true_and]
    rw [VM, Jt, Res.okb]
    by_cases c3 : (0 <= a /\ a < (im.length : Int)) /\ (0 <= b /\ b < (im.length : Int))
    . obtain ⟨⟨h1, h2⟩, h3, h4⟩ := c3
      rw [if_neg (by rw [Bool.or_eq_true, decide_eq_true_eq, decide_eq_true_eq]; omega)]
      obtain ⟨a', rfl⟩ : ∃ a' : Nat, a = a':=⟨a.toNat, by omega⟩
      obtain ⟨b', rfl⟩ : ∃ b' : Nat, b = b':=⟨b.toNat, by omega⟩
      rw [decide_eq_true h1, decide_eq_true h2, decide_eq_true h3, decide_eq_true h4]
      simp only [Int.toNat_natCast, Bool.true_and]
      exact DA hin hle (by omega) (by omega)
    . rw [if_pos (by rw [Bool.or_eq_true, decide_eq_true_eq, decide_eq_true_eq]; omega)]
      congr 1
      symm
      rw [Bool.and_eq_false_iff, Bool.and_eq_false_iff, Bool.and_eq_false_iff, Bool.and_eq_false_iff, decide_eq_false_iff_not, decide_eq_false_iff_not, decide_eq_false_iff_not, decide_eq_false_iff_not]
      omega
  . rw [UI, hr]
    congr 1
    symm
    unfold brk
    by_cases c1 : (dd im).length = im.length
    . have hnd := Uz c1
      by_cases c2 : (im.all fun x=>decide (0 <= x) && decide (x < (n : Int))) = true
      . refine absurd (fun c hc => ?_) np
        have:=List.all_eq_true.mp c2 c hc
        rw [Bool.and_eq_true, decide_eq_true_eq, decide_eq_true_eq] at this
        exact ⟨this, List.nodup_iff_count.mp hnd c⟩
      . rw [Bool.not_eq_true] at c2
        simp only [c2, Bool.false_and, Bool.and_false]
    . simp only [decide_eq_false c1, Bool.false_and]
noncomputable def HV (im : List Int) (o : Option (List Int × Int × Int)) : Prop:=∀ e, o = some e -> e.1 = im
theorem GD {im : List Int} (hl : im.length < 64) : Ok (Qc (XM n f) (XM n g) im) (HV im):=by
  unfold Qc
  simp only [Res.okb]
  rw [Za (by omega), Res.okb]
  refine CJ (T:=fun r=>Ok r (HV im)) (fun a : Int=>∀ b ∈ (List.range im.length).map fun (i : Nat)=>(i : Int), brk n f g (im, a, b) = false) (HV im) (fun a _=>?_) (fun _=>⟨_, rfl, fun e h=>nomatch h⟩) fun r hr _=>⟨r, rfl, hr⟩
  rw [Res.okb]
  refine CJ (T:=fun (r : Res (Ctl (Option (List Int × Int × Int)) Unit))=>(r = .ok (.nx ()) /\ ∀ b ∈ (List.range im.length).map fun (i : Nat)=>(i : Int), brk n f g (im, a, b) = false) ∨ ∃ o, r = .ok (.ret o) /\ HV im o /\ ¬ ∀ b ∈ (List.range im.length).map fun (i : Nat)=>(i : Int), brk n f g (im, a, b) = false) (fun b : Int=>brk n f g (im, a, b) = false) (HV im) (fun b hb=>?_) (fun hp=>.inl ⟨rfl, hp⟩) fun r hr np=>.inr ⟨r, rfl, hr, np⟩
  rw [FG hl, XO, Res.okb]
  cases q : brk n f g (im, a, b) with
  | false=>exact .inl ⟨rfl, rfl⟩
  | true=>exact .inr ⟨_, rfl, fun e h=>by cases h; rfl, by decide⟩
end
end My
namespace My
open PySem L2
theorem JX {α β : Type} {f : List β -> α -> Res (List β)} {p : α -> Bool} {h : α -> β} : ∀ {as : List α} {g : List β}, g.length + as.length <= sizeLine -> (∀ g : List β, g.length < sizeLine -> ∀ a ∈ as, f g a = .ok (if p a = true then g ++ [h a] else g)) -> forN as g f = .ok (g ++ (as.filter p).map h)
  | [], g, _, _=>by rw [List.filter_nil, List.map_nil, List.append_nil]; rfl
  | a :: as, g, hl, hf=>by
    rw [List.length_cons] at hl
    show (f g a).bind _ = _
    rw [hf g (by omega) a (.head _), Res.okb]
    have hrest : ∀ g : List β, g.length < sizeLine -> ∀ b ∈ as, f g b = .ok (if p b = true then g ++ [h b] else g):=fun g hg b hb=>hf g hg b (.tail _ hb)
    cases hp : p a with
    | true=>
      rw [if_pos rfl, JX (by simp; omega) hrest, List.filter_cons_of_pos hp, List.map_cons, List.append_assoc]
      rfl
    | false=>
      rw [if_neg Bool.false_ne_true, JX (by omega) hrest, List.filter_cons_of_neg (by rw [hp]; exact Bool.false_ne_true)]
theorem Kg (n : Nat) (p : List Int -> Bool) : ∀ ls : List (List Int), (ls.flatMap fun x=>(lon n x).filter p).length <= ls.length * n
  | []=>Nat.zero_le _
  | a :: ls=>by
    rw [List.flatMap_cons, List.length_append, List.length_cons, Nat.add_mul, Nat.one_mul]
    have:=Kg n p ls
    have:=ZU (n:=n) a
    have:=List.length_filter_le p (lon n a)
    omega
theorem K5 (n : Nat) (p : List Int -> Bool) : ∀ k, (Dy n p k).length <= n ^ k
  | 0=>Nat.le_refl 1
  | k + 1=>Nat.le_trans (Kg n p _) (by rw [Nat.pow_succ]; exact Nat.mul_le_mul_right n (K5 n p k))
section
variable {n m : Nat} {f g : Nat -> Nat -> Nat} {paper : List (List Int × Int × Int)}
theorem FC {k : Nat} {e : List Int × Int × Int} (hk : paper[k]? = some e) : Vy n f g (paper.take (k + 1)) = Vy n f g (paper.take k) ++ (if brk n f g e = true then [e.1] else []):=by
  unfold Vy
  rw [List.take_succ, hk]
  show ((paper.take k ++ [e]).filter (brk n f g)).map (·.1) = _
  rw [List.filter_append, List.map_append]
  congr 1
  cases q : brk n f g e <;> simp [q]
theorem CM (hn : n <= 6) (hp : paper.length <= 90000) (hl : ∀ e ∈ paper, e.1.length < 64) : QX (XM n f) (XM n g) paper = .ok (decide (Dy n (fun o=>!(decide (o ∈ Vy n f g paper))) n = [])):=by
  unfold QX
  simp only [Res.okb, Xu]
  rw [if_neg (by simp)]
  apply Ok.eq
  refine Ok.bind (Ok.forN (fun k (d : List (List Int × Bool))=>(∀ x, x ∈ d.map (·.1) ↔ x ∈ Vy n f g (paper.take k)) /\ d.length <= k) ⟨fun x=>Iff.rfl, Nat.le_refl 0⟩ fun k e d hk hd=>?_) fun d hd=>?_
  . have hkl : k < paper.length := (List.getElem?_eq_some_iff.mp hk).1
    have hb:=FG (n:=n) (f:=f) (g:=g) (a:=e.2.1) (b:=e.2.2) (hl e (List.mem_of_getElem? hk))
    rw [hb, XO, Res.okb]
    have he : brk n f g (e.1, e.2.1, e.2.2) = brk n f g e:=rfl
    rw [he, FC hk]
    cases q : brk n f g e with
    | true=>
      rw [if_pos rfl, if_pos rfl, Xv (BB (by omega)), Res.okb]
      refine ⟨_, rfl, fun x=>?_, ?_⟩
      . rw [Vt, hd.1, List.mem_append, List.mem_singleton]
      . unfold J8
        split
        . rw [List.length_map]; omega
        . rw [List.length_append, List.length_singleton]; omega
    | false=>
      rw [if_neg (by decide), if_neg (by decide), Res.okb, List.append_nil]
      exact ⟨_, rfl, hd.1, by omega⟩
  . rw [List.take_length] at hd
    obtain ⟨hd, _⟩:=hd
    rw [Xv (sz (by simp)), Res.okb, Za (by omega), Res.okb]
    have hpe : ∀ o, (!(Qg d o).isSome) = !(decide (o ∈ Vy n f g paper)):=fun o=>by
      congr 1
      rw [Bool.eq_iff_iff, Vq, hd, decide_eq_true_eq]
    refine Ok.bind (Ok.forN (fun k l=>l = Dy n (fun o=>!(decide (o ∈ Vy n f g paper))) k) rfl fun k a l ha hlw=>?_) fun l hlw=>⟨_, rfl, ?_⟩
    . obtain ⟨rfl, hkn⟩ := YB ha
      have hlen : l.length * n <= 60000:=by
        have h1:=Nat.mul_le_mul_right n (K5 n (fun o=>!(decide (o ∈ Vy n f g paper))) k)
        rw [← Nat.pow_succ, ← hlw] at h1
        exact Nat.le_trans h1 (IS hn (by omega))
      refine Ok.bind (Ok.forN (fun j acc=>acc = (l.take j).flatMap fun x=>(lon n x).filter fun o=>!(decide (o ∈ Vy n f g paper))) rfl fun j x acc hj hacc=>?_) fun t ht=>⟨_, rfl, ?_⟩
      . have hjl : j < l.length := (List.getElem?_eq_some_iff.mp hj).1
        have hxl : x.length = k:=Y3 (ZL.mp (hlw ▸ List.mem_of_getElem? hj)).1
        have hal : acc.length <= j * n:=by
          rw [hacc]
          refine Nat.le_trans (Kg n _ _) (Nat.mul_le_mul_right n ?_)
          rw [List.length_take]; omega
        have hjn : (j + 1) * n <= l.length * n:=Nat.mul_le_mul_right n hjl
        rw [Nat.add_mul, Nat.one_mul] at hjn
        have hlo:=ZU (n:=n) x
        rw [JD (by omega) (by omega), XO, Res.okb, JX (p:=fun o=>!(decide (o ∈ Vy n f g paper))) (h:=fun o=>o) (sz (by omega)) fun g2 hg2 o ho=>?_, Res.okb]
        . refine ⟨_, rfl, ?_⟩
          rw [hacc, List.take_succ, hj, List.flatMap_append, List.map_id']
          show _ = _ ++ (_ ++ [])
          rw [List.append_nil]
        . rw [hpe]
          cases !(decide (o ∈ Vy n f g paper)) with
          | true=>rw [if_pos rfl, if_pos rfl, Xv hg2, Res.okb]
          | false=>rw [if_neg (by decide), if_neg (by decide), Res.okb]
      . rw [List.take_length] at ht
        rw [ht, hlw]; rfl
    . rw [YC] at hlw
      subst hlw
      show decide _ = decide _
      rw [Bool.eq_iff_iff, decide_eq_true_eq, decide_eq_true_eq, ← List.length_eq_zero_iff]
      omega
theorem KK : ∀ k, lev n f g k = Dy n (stB f g) k
  | 0=>rfl
  | k + 1=>by
    show (lev n f g k).flatMap _ = (Dy n (stB f g) k).flatMap _
    rw [KK k]
noncomputable def tT (n : Nat) : Nat -> Nat
  | 0=>0
  | k + 1=>tT n k + n ^ k * n
theorem HY {k : Nat} (hn : n <= 6) (hk : k <= n) : tT n k <= 60000:=by
  have : ∀ a b : Fin 7, b.1 <= a.1 -> tT a.1 b.1 <= 60000:=by decide +kernel
  exact this ⟨n, by omega⟩ ⟨k, by omega⟩ hk
noncomputable def Es (q : List (List Int × Int × Int)) : Prop:=∀ e ∈ q, 1 <= e.1.length /\ e.1.length <= 6
theorem HR (hn : n <= 6) : Ok (Yv (XM n f) (XM n g)) fun p=>p.length <= 60000 /\ Es p:=by
  unfold Yv
  simp only [Res.okb, Xu]
  rw [if_neg (by simp), Xv (sz (by simp)), Res.okb, Za (by omega), Res.okb]
  refine Ok.bind (Ok.forN (fun k (s : List (List Int) × List (List Int × Int × Int))=>(s.1.length <= n ^ k /\ ∀ o ∈ s.1, o.length = k) /\ s.2.length <= tT n k /\ Es s.2) ⟨⟨Nat.le_refl 1, fun o ho=>by rw [List.mem_singleton.mp ho]; rfl⟩, Nat.le_refl 0, fun e he=>nomatch he⟩ fun k a s ha hs=>?_) fun s hs=>⟨_, rfl, ?_⟩
  . obtain ⟨rfl, hkn⟩ := YB ha
    obtain ⟨⟨h1, h2⟩, h3, h4⟩:=hs
    have hsn : s.1.length * n <= n ^ k * n:=Nat.mul_le_mul_right n h1
    have hT:=HY (n:=n) (k:=k + 1) hn (by omega)
    have hTe : tT n (k + 1) = tT n k + n ^ k * n:=rfl
    refine Ok.bind (Ok.forN (fun j (t : List (List Int) × List (List Int × Int × Int))=>(t.1.length <= j * n /\ ∀ o ∈ t.1, o.length = k + 1) /\ t.2.length <= s.2.length + j * n /\ Es t.2) ⟨⟨Nat.zero_le _, fun o ho=>nomatch ho⟩, Nat.le_add_right _ _, h4⟩ fun j x t hj ht=>?_) fun t ht=>⟨_, rfl, ⟨?_, ht.1.2⟩, ?_, ht.2.2⟩
    . have hjl : j < s.1.length := (List.getElem?_eq_some_iff.mp hj).1
      have hxl : x.length = k:=h2 x (List.mem_of_getElem? hj)
      have hjn : (j + 1) * n <= s.1.length * n:=Nat.mul_le_mul_right n hjl
      rw [Nat.add_mul, Nat.one_mul] at hjn
      have hlo:=ZU (n:=n) x
      rw [JD (by omega) (by omega), XO, Res.okb]
      refine Ok.bind (Ok.forN (fun i (u : List (List Int) × List (List Int × Int × Int))=>(u.1.length <= j * n + i /\ ∀ o ∈ u.1, o.length = k + 1) /\ u.2.length <= s.2.length + (j * n + i) /\ Es u.2) ⟨⟨ht.1.1, ht.1.2⟩, ht.2.1, ht.2.2⟩ fun i w u hi hu=>?_) fun u hu=>⟨_, rfl, ⟨?_, hu.1.2⟩, ?_, hu.2.2⟩
      . have hil : i < (lon n x).length := (List.getElem?_eq_some_iff.mp hi).1
        obtain ⟨c, hw, _⟩:=Jf (List.mem_of_getElem? hi)
        have hwl : w.length = k + 1:=by rw [hw, List.length_append, hxl]; rfl
        refine Ok.bind (Ok.noE (GD (n:=n) (f:=f) (g:=g) (im:=w) (by omega))) fun o ho=>?_
        refine Ok.bind (R:=fun (u' : List (List Int) × List (List Int × Int × Int))=>(u'.1.length <= j * n + (i + 1) /\ ∀ o ∈ u'.1, o.length = k + 1) /\ u'.2.length <= s.2.length + (j * n + (i + 1)) /\ Es u'.2) ?_ fun u' hu'=>⟨_, rfl, hu'⟩
        cases o with
        | none=>
          show Ok (if true = true then _ else _) _
          rw [if_pos rfl, Xv (BB (by omega))]
          refine ⟨_, rfl, ⟨by simp; omega, fun o ho=>?_⟩, by show u.2.length <= _; omega, hu.2.2⟩
          rcases List.mem_append.mp ho with z | z
          . exact hu.1.2 o z
          . rw [List.mem_singleton.mp z]; exact hwl
        | some e=>
          show Ok (if false = true then _ else Res.bind (Res.ok e) _) _
          rw [if_neg (by decide), Res.okb, Xv (BB (by omega))]
          refine ⟨_, rfl, ⟨by show u.1.length <= _; omega, hu.1.2⟩, by simp; omega, fun e' he'=>?_⟩
          rcases List.mem_append.mp he' with z | z
          . exact hu.2.2 e' z
          . rw [List.mem_singleton.mp z, ho e rfl, hwl]; omega
      . have:=hu.1.1; show u.1.length <= _; rw [Nat.add_mul, Nat.one_mul]; omega
      . have:=hu.2.1; show u.2.length <= _; rw [Nat.add_mul, Nat.one_mul]; omega
    . have:=ht.1.1; show t.1.length <= _; rw [Nat.pow_succ]; omega
    . have:=ht.2.1; show t.2.length <= _; omega
  . rw [YC] at hs
    have:=HY (n:=n) hn (Nat.le_refl n)
    exact ⟨by have:=hs.2.1; omega, hs.2.2⟩
end
end My
namespace My
open PySem L2
theorem Ce {α : Type} {o : List α} {k : Nat} (h : k <= o.length) : Qj o none (some (k : Int)) = o.take k:=by
  unfold Qj
  have e : HT.sIx o.length o.length (some (k : Int)) = k:=by
    unfold HT.sIx
    simp only []
    split <;> omega
  rw [e]
  show List.take (k - 0) (List.drop 0 o) = _
  rw [Nat.sub_zero, List.drop_zero]
theorem E7 {α : Type} {o : List α} {i k : Nat} (h : i <= k) (hk : k <= o.length) : Qj o (some (i : Int)) (some (k : Int)) = (o.drop i).take (k - i):=by
  unfold Qj
  have e : ∀ d j : Nat, j <= o.length -> HT.sIx o.length d (some (j : Int)) = j:=fun d j hj=>by
    unfold HT.sIx
    simp only []
    split <;> omega
  rw [e _ _ hk, e _ _ (by omega)]
theorem U9 {α : Type} (o : List α) (lo hi : Option Int) : (Qj o lo hi).length <= o.length:=by
  unfold Qj
  rw [List.length_take, List.length_drop]; omega
noncomputable def Gd (k : Nat) (q : List (List Int × Int × Int)) : Prop:=q.length = k /\ ∀ e ∈ q, e.1.length <= 7
theorem EY {q : List (List Int × Int × Int)} {i k : Nat} {e : List Int × Int × Int} (hg : Gd k q) (hi : i < k) (he : e.1.length <= 7) : Ok (Q2 q (i : Int) e) (Gd k):=by
  rw [Ke (by rw [hg.1]; exact hi)]
  refine ⟨_, rfl, by rw [List.length_set]; exact hg.1, fun x hx=>?_⟩
  rcases List.mem_or_eq_of_mem_set hx with z | z
  . exact hg.2 x z
  . rw [z]; exact he
theorem Ga {im : List Int} (h : 1 <= im.length) : ¬ (HT.sIx im.length 0 none = 0 /\ HT.sIx im.length im.length (some (-1)) = im.length):=fun z=>by
  have:=z.2
  unfold HT.sIx at this
  simp only [] at this
  rw [if_pos (by decide)] at this
  omega
theorem B6 {p : List (List Int × Int × Int)} {s : List Int} (hp : p.length <= 60000) (he : Es p) (hs : s.length = 4) (h0 : 0 <= s.getD 0 0) : Ok (Vc p s) fun q=>q.length <= p.length /\ ∀ e ∈ q, e.1.length <= 7:=by
  have h0' : 0 <= s[0]:=by
    rw [List.getD_eq_getElem?_getD, List.getElem?_eq_getElem (show 0 < s.length by omega)] at h0; exact h0
  unfold Vc
  simp only [Res.okb]
  rw [YL (r:=s) (k:=0) (n:=0) rfl (by omega), YL (r:=s) (k:=1) (n:=1) rfl (by omega), YL (r:=s) (k:=2) (n:=2) rfl (by omega)]
  simp only [Res.okb]
  rw [Jt, Res.okb]
  refine Ok.ite (fun _=>⟨p, rfl, Nat.le_refl _, fun e h=>by have:=he e h; omega⟩) fun c=>?_
  rw [Bool.or_eq_false_iff, decide_eq_false_iff_not, decide_eq_false_iff_not] at c
  have hpl : 0 < p.length:=by omega
  rw [Yp (by omega), Res.okb]
  obtain ⟨i, hi⟩ : ∃ i : Nat, s[1] % (p.length : Int) = i:=⟨(s[1] % (p.length : Int)).toNat, by have:=Int.emod_nonneg s[1] (show (p.length : Int) ≠ 0 by omega); omega⟩
  have hil : i < p.length:=by have:=Int.emod_lt_of_pos s[1] (show (0 : Int) < p.length by omega); omega
  rw [hi, Z2 (List.getElem?_eq_getElem hil)]
  simp only [Res.okb]
  have hei:=he p[i] (List.getElem_mem hil)
  generalize p[i] = e at hei
  refine Ok.ite (fun _=>?_) fun c0=>?_
  . rw [Ce (by omega), show ((i : Int) + 1) = ((i + 1 : Nat) : Int) by omega, V0 p (by omega)]
    refine ⟨_, Xv (sz (by rw [List.length_take, List.length_drop]; omega)), by rw [List.length_append, List.length_take, List.length_drop]; omega, fun e h=>?_⟩
    rcases List.mem_append.mp h with z | z
    . have:=he e (List.mem_of_mem_take z); omega
    . have:=he e (List.mem_of_mem_drop z); omega
  rw [decide_eq_false_iff_not] at c0
  have hg0 : Gd p.length p:=⟨rfl, fun e h=>by have:=he e h; omega⟩
  refine Ok.bind (R:=Gd p.length) (Ok.ite (fun c=>?_) fun _=>⟨_, rfl, hg0⟩) fun q1 g1=>?_
  . rw [decide_eq_true_eq] at c
    rw [Xv (sz (by simp)), Xv (sz (by simp))]
    simp only [Res.okb]
    obtain ⟨k, hk⟩ : ∃ k : Nat, s[0] - 1 = k:=⟨(s[0] - 1).toNat, by omega⟩
    rw [hk, YL (n:=k) rfl (by simp; omega), YL (n:=k) rfl (by simp; omega)]
    simp only [Res.okb]
    exact Ok.bind (EY hg0 hil (by show e.1.length <= 7; omega)) fun a ha=>⟨_, rfl, ha⟩
  refine Ok.bind (R:=Gd p.length) (Ok.ite (fun _=>?_) fun _=>⟨_, rfl, g1⟩) fun q2 g2=>?_
  . rw [Xv (Ga hei.1)]
    simp only [Res.okb]
    exact Ok.bind (EY g1 hil (by have:=U9 e.1 none (some (-1)); show (Qj e.1 none (some (-1))).length <= 7; omega)) fun a ha=>⟨_, rfl, ha⟩
  refine Ok.bind (R:=Gd p.length) (Ok.ite (fun _=>?_) fun _=>⟨_, rfl, g2⟩) fun q3 g3=>?_
  . rw [Yp (by decide)]
    simp only [Res.okb]
    rw [Xv (sz (by simp))]
    simp only [Res.okb]
    rw [Xv ⟨by simp, sz (by simp; omega)⟩]
    simp only [Res.okb]
    exact Ok.bind (EY g2 hil (by show (e.1 ++ [_]).length <= 7; simp; omega)) fun a ha=>⟨_, rfl, ha⟩
  refine Ok.bind (R:=Gd p.length) (Ok.ite (fun _=>?_) fun _=>⟨_, rfl, g3⟩) fun q4 g4=>?_
  . have := U9 e.1 none (some (-1))
    rw [Xv (Ga hei.1)]
    simp only [Res.okb]
    rw [Xv (sz (by simp))]
    simp only [Res.okb]
    rw [Xv ⟨by simp, sz (by simp; omega)⟩]
    simp only [Res.okb]
    exact Ok.bind (EY g3 hil (by show (Qj e.1 none (some (-1)) ++ [_]).length <= 7; simp; omega)) fun a ha=>⟨_, rfl, ha⟩
  refine Ok.bind (R:=Gd p.length) (Ok.ite (fun _=>?_) fun _=>⟨_, rfl, g4⟩) fun q5 g5=>?_
  . rw [Xv trivial]
    simp only [Res.okb]
    exact Ok.bind (EY g4 hil (by show e.1.reverse.length <= 7; simp; omega)) fun a ha=>⟨_, rfl, ha⟩
  refine Ok.bind (R:=Gd p.length) (Ok.ite (fun _=>?_) fun _=>⟨_, rfl, g5⟩) fun q6 g6=>?_
  . exact Ok.bind (EY g5 hil (by show e.1.length <= 7; omega)) fun a ha=>⟨_, rfl, ha⟩
  refine Ok.bind (R:=Gd p.length) (Ok.ite (fun _=>?_) fun _=>⟨_, rfl, g6⟩) fun q7 g7=>⟨_, rfl, Nat.le_of_eq g7.1, g7.2⟩
  . rw [G2 (by decide) (by decide) (by decide) (by decide)]
    simp only [Res.okb]
    exact Ok.bind (EY g6 hil (by show e.1.length <= 7; omega)) fun a ha=>⟨_, rfl, ha⟩
theorem Ek {r : List Int} (hl : r.length = 33) (h0 : 0 <= r[0] /\ r[0] < 5) : Ok (Vu r) fun q=>q.length <= 4 /\ ∀ e ∈ q, e.1.length <= 8:=by
  unfold Vu
  simp only [Res.okb]
  rw [YL (r:=r) (k:=0) (n:=0) rfl (by omega)]
  simp only [Res.okb]
  obtain ⟨c, hc⟩ : ∃ c : Nat, r[0] = c:=⟨r[0].toNat, by omega⟩
  rw [hc, Za (by omega), Res.okb]
  refine Ok.bind (Ok.forN (fun k (q : List (List Int × Int × Int))=>q.length <= k /\ ∀ e ∈ q, e.1.length <= 8) ⟨Nat.le_refl 0, fun e h=>nomatch h⟩ fun k a q hk hq=>?_) fun q hq=>⟨_, rfl, ?_, hq.2⟩
  . obtain ⟨rfl, hkc⟩ := YB hk
    rw [QR (by decide) (by decide)]
    simp only [Res.okb]
    rw [show (1 : Int) + 8 * (k : Int) = ((1 + 8 * k : Nat) : Int) by omega, show (9 : Int) + 8 * (k : Int) = ((9 + 8 * k : Nat) : Int) by omega, E7 (by omega) (by omega)]
    have hm : ((r.drop (1 + 8 * k)).take (9 + 8 * k - (1 + 8 * k))).length = 8:=by rw [List.length_take, List.length_drop]; omega
    generalize (r.drop (1 + 8 * k)).take (9 + 8 * k - (1 + 8 * k)) = w at hm
    rw [YL (r:=w) (k:=0) (n:=0) rfl (by omega), YL (r:=w) (k:=1) (n:=1) rfl (by omega), YL (r:=w) (k:=2) (n:=2) rfl (by omega)]
    simp only [Res.okb]
    have hcl:=U9 w (some (3 : Int)) (some ((3 : Int) + w[0]))
    rw [Qt (h:=fun a=>a - 1) (sz (by omega)) fun _ _=>rfl]
    simp only [Res.okb]
    rw [Xv (BB (by omega))]
    refine ⟨_, rfl, by rw [List.length_append]; simp; omega, fun e h=>?_⟩
    rcases List.mem_append.mp h with z | z
    . exact hq.2 e z
    . rw [List.mem_singleton.mp z]
      show (List.map _ _).length <= 8
      rw [List.length_map]; omega
  . rw [YC] at hq
    have:=hq.1; omega
section
variable {n m : Nat} {f g : Nat -> Nat -> Nat}
theorem Ut (hn : n <= 1000) : ZE (XM n f) = .ok (XM n f):=by
  unfold ZE
  simp only [Res.okb]
  rw [Qt (h:=fun a=>a) (sz (by rw [Xu]; omega)) fun _ _=>rfl, List.map_id']
theorem EI (hn : n <= 6) : Ok (Yv (XM n f) (XM m g)) fun p=>p.length <= 60000 /\ Es p:=by
  by_cases h : n = m
  . subst h; exact HR hn
  . unfold Yv
    simp only [Res.okb, Xu]
    rw [if_pos (by simp; omega)]
    exact ⟨[], rfl, Nat.zero_le _, fun e he=>nomatch he⟩
theorem DU {q : List (List Int × Int × Int)} (hn : n <= 6) (hm : m <= 6) (hq : q.length <= 80000) (hl : ∀ e ∈ q, e.1.length < 64) :
    ∃ d ev, QX (XM n f) (XM m g) q = .ok d /\ Z0 (XM n f) (XM m g) q = .ok d /\ ZF (XM n f) (XM m g) = .ok ev /\ (d = true -> ev = []):=by
  by_cases h : n = m
  . subst h
    refine ⟨_, _, CM hn (by omega) hl, by rw [CW hn (by omega) hl, GA], Bd hn, fun hd=>?_⟩
    rw [decide_eq_true_eq] at hd
    rw [← Dw, KK]
    exact Classical.byContradiction fun z=>GJ z hd
  . refine ⟨true, [], ?_, ?_, Bn h, fun _ => rfl⟩
    . unfold QX
      simp only [Res.okb, Xu]
      rw [if_pos (by simp; omega)]
    . unfold Z0
      simp only [Res.okb, Xu]
      rw [Bz hn hm, XO, Res.okb, if_pos (by simp; omega)]
end
theorem E3 {α : Type} {x y : α} {k : Nat} (h : y ∈ (List.replicate k [x]).flatten) : y = x:=by
  obtain ⟨l, hl, hy⟩:=List.mem_flatten.mp h
  rw [List.eq_of_mem_replicate hl] at hy
  exact List.mem_singleton.mp hy
theorem CL (ns : List Int) (_ : ns.length <= 63) : Kp ns = .ok true:=by
  unfold Kp
  simp only [Res.okb]
  rw [Xv (sz (by simp)), Res.okb]
  obtain ⟨r, er, hrl, hrv⟩:=UJ ns (p:=3) (by decide) [12, 400, 8, 8] (by decide) (by decide)
  have hrl : r.length = 4:=hrl
  have h0 : 0 <= r.getD 0 0:=by
    have:=hrv 0 r[0] 12 (List.getElem?_eq_getElem (by omega)) rfl
    rw [List.getD_eq_getElem?_getD, List.getElem?_eq_getElem (show 0 < r.length by omega)]; exact this.1
  rw [er, XO, Res.okb, Xv (sz (by simp)), YL (r:=r) (k:=3) (n:=3) rfl (by omega)]
  simp only [Res.okb]
  obtain ⟨most, em, hm0, hm6⟩ : ∃ most : Nat, atR [(4 : Int), 5] (if decide (r[3] = 0) = true then (1 : Int) else 0) = .ok (most : Int) /\ 0 < most /\ most <= 6:=by
    by_cases c : r[3] = 0
    . exact ⟨5, by rw [decide_eq_true c]; rfl, by decide, by decide⟩
    . exact ⟨4, by rw [decide_eq_false c]; rfl, by decide, by decide⟩
  rw [em, Res.okb]
  obtain ⟨t, et, n, m, f, g, ⟨hn, hm⟩, hf, hg, rfl⟩:=EF ns hm0 hm6
  rw [et, XO, Res.okb]
  apply Ok.eq
  refine Ok.bind (R:=fun q : List (List Int × Int × Int)=>q.length <= 60000 /\ ∀ e ∈ q, e.1.length <= 7) (Ok.bind (Ok.noE (EI hn)) fun p hp=>?_) fun q hq=>?_
  . obtain ⟨q, e, h1, h2⟩ := B6 hp.1 hp.2 hrl h0
    exact ⟨q, Iu e, by have:=hp.1; omega, h2⟩
  refine Ok.bind (R:=fun q : List (List Int × Int × Int)=>q.length <= 70000 /\ ∀ e ∈ q, e.1.length <= 8) (Ok.ite (fun _=>?_) fun _=>⟨q, rfl, by have:=hq.1; omega, fun e h=>by have:=hq.2 e h; omega⟩) fun q2 hq2=>?_
  . have hz : (List.replicate 970 [(([0, 0] : List Int), (0 : Int), (0 : Int))]).flatten.length = 970 := by simp
    rw [Xv (sz (by simp))]
    simp only [Res.okb]
    rw [Xv (sz (by simp))]
    simp only [Res.okb]
    rw [show CO [(([0, 0] : List Int), (0 : Int), (0 : Int))] 970 = .ok (List.replicate 970 [(([0, 0] : List Int), (0 : Int), (0 : Int))]).flatten from Xv ⟨by decide, by decide, sz (by simp)⟩, Res.okb]
    have:=hq.1
    refine Ok.bind (R:=fun q : List (List Int × Int × Int)=>q.length <= 70000 /\ ∀ e ∈ q, e.1.length <= 8) ⟨_, Xv (sz (by rw [hz]; omega)), by rw [List.length_append, hz]; omega, fun e h=>?_⟩ fun a ha=>⟨a, rfl, ha⟩
    rcases List.mem_append.mp h with z | z
    . rw [E3 z]; decide
    . have:=hq.2 e z; omega
  rw [Xv (sz (by simp))]
  simp only [Res.okb]
  rw [Xv (sz (by simp))]
  simp only [Res.okb]
  rw [show CO [(5 : Int), 6, 6, 6, 6, 6, 6, 6] 4 = .ok [5, 6, 6, 6, 6, 6, 6, 6, 5, 6, 6, 6, 6, 6, 6, 6, 5, 6, 6, 6, 6, 6, 6, 6, 5, 6, 6, 6, 6, 6, 6, 6] from rfl]
  simp only [Res.okb]
  rw [show UR [(5 : Int)] [5, 6, 6, 6, 6, 6, 6, 6, 5, 6, 6, 6, 6, 6, 6, 6, 5, 6, 6, 6, 6, 6, 6, 6, 5, 6, 6, 6, 6, 6, 6, 6] = .ok [5, 5, 6, 6, 6, 6, 6, 6, 6, 5, 6, 6, 6, 6, 6, 6, 6, 5, 6, 6, 6, 6, 6, 6, 6, 5, 6, 6, 6, 6, 6, 6, 6] from rfl]
  simp only [Res.okb]
  obtain ⟨r4, er4, hr4, hv4⟩:=UJ ns (p:=4) (by decide) [5, 5, 6, 6, 6, 6, 6, 6, 6, 5, 6, 6, 6, 6, 6, 6, 6, 5, 6, 6, 6, 6, 6, 6, 6, 5, 6, 6, 6, 6, 6, 6, 6] (by decide) (by decide)
  have hr4 : r4.length = 33:=hr4
  obtain ⟨q3, eq3, h31, h32⟩:=Ek hr4 (hv4 0 r4[0] 5 (List.getElem?_eq_getElem (by omega)) rfl)
  rw [er4, XO, Res.okb, eq3, XO, Res.okb]
  have:=hq2.1
  rw [show UR q2 q3 = .ok (q2 ++ q3) from Xv (sz (by omega)), Res.okb]
  have hql : (q2 ++ q3).length <= 80000:=by rw [List.length_append]; omega
  have hqe : ∀ e ∈ q2 ++ q3, e.1.length < 64:=fun e h=>by
    rcases List.mem_append.mp h with z | z
    . have:=hq2.2 e z; omega
    . have:=h32 e z; omega
  generalize q2 ++ q3 = q at hql hqe
  obtain ⟨d, ev, e1, e2, e3, hd⟩:=DU (f:=f) (g:=g) hn hm hql hqe
  rw [e1, XO, Res.okb, Ut (by omega), XO, Res.okb, Ut (by omega), XO, Res.okb, show QU 0 (2 : Int) = _ from Za (n:=2) (by decide), Res.okb]
  refine CJ (T:=fun r=>Ok r fun b=>b = true) (fun _=>True) (fun _=>False) (fun a _=>.inl ⟨?_, trivial⟩) (fun _=>?_) fun r hr _=>hr.elim
  . rw [e2, XO, Res.okb, Jt, Res.okb]
    simp
  . rw [VM, Jt, Jt, Res.okb]
    simp only [decide_true, Bool.not_true, Bool.or_false]
    rw [if_neg (by decide), e3, XO]
    simp only [Res.okb]
    rw [Jt]
    refine ⟨_, rfl, ?_⟩
    cases d with
    | false=>simp
    | true=>rw [hd rfl]; rfl
end My
namespace My
open PySem L2
noncomputable def top (i : Nat) : Stmt:=PySem.Challenge.pw_plait_k45_what_shuts.main.body.getD i (.Pass ⟨0, 0, 0, 0⟩)
noncomputable abbrev Zx : Stmt:=top 4
noncomputable abbrev Zd : Stmt:=top 5
noncomputable abbrev Qs : Stmt:=top 6
noncomputable abbrev Zg : Stmt:=top 7
noncomputable abbrev ZX : Stmt:=top 10
noncomputable abbrev YY : Stmt:=top 11
noncomputable abbrev Jy : Stmt:=top 12
noncomputable abbrev VF : Stmt:=top 13
noncomputable abbrev QP : Stmt:=top 14
noncomputable abbrev Yw : Stmt:=top 15
noncomputable abbrev DC : Stmt:=top 17
noncomputable abbrev Ey : Stmt:=top 18
noncomputable abbrev B3 : Stmt:=top 19
noncomputable abbrev Jv : Stmt:=top 20
noncomputable abbrev VO : Stmt:=top 21
noncomputable abbrev Kw : Stmt:=top 22
noncomputable abbrev Jp : Stmt:=top 23
noncomputable abbrev Ji : Stmt:=top 24
noncomputable abbrev UY : Stmt:=top 25
noncomputable abbrev VI : Stmt:=top 26
noncomputable abbrev Jl : Stmt:=top 27
noncomputable abbrev Kr : Stmt:=top 28
noncomputable abbrev Jk : Stmt:=top 29
noncomputable abbrev Ft : Stmt:=top 30
noncomputable abbrev F7 : Stmt:=top 31
noncomputable abbrev QL : Stmt:=top 32
noncomputable abbrev DL : Stmt:=top 33
noncomputable abbrev VZ : Stmt:=top 34
noncomputable abbrev Ql : Stmt:=top 35
noncomputable abbrev Fj : Stmt:=top 36
noncomputable abbrev Gc : Stmt:=top 37
noncomputable abbrev VQ : Stmt:=top 38
theorem U7 {X : Cx} : PE X (.List [.List [.Constant (.int 0) 0 ⟨96, 17, 96, 18⟩, .Constant (.int 3) 0 ⟨96, 20, 96, 21⟩, .Constant (.int 1) 0 ⟨96, 23, 96, 24⟩, .Constant (.int 2) 0 ⟨96, 26, 96, 27⟩] ⟨96, 16, 96, 28⟩, .List [.Constant (.int 2) 0 ⟨96, 31, 96, 32⟩, .Constant (.int 1) 0 ⟨96, 34, 96, 35⟩, .Constant (.int 3) 0 ⟨96, 37, 96, 38⟩, .Constant (.int 0) 0 ⟨96, 40, 96, 41⟩] ⟨96, 30, 96, 42⟩, .List [.Constant (.int 3) 0 ⟨96, 45, 96, 46⟩, .Constant (.int 0) 0 ⟨96, 48, 96, 49⟩, .Constant (.int 2) 0 ⟨96, 51, 96, 52⟩, .Constant (.int 1) 0 ⟨96, 54, 96, 55⟩] ⟨96, 44, 96, 56⟩, .List [.Constant (.int 1) 0 ⟨96, 59, 96, 60⟩, .Constant (.int 2) 0 ⟨96, 62, 96, 63⟩, .Constant (.int 0) 0 ⟨96, 65, 96, 66⟩, .Constant (.int 3) 0 ⟨96, 68, 96, 69⟩] ⟨96, 58, 96, 70⟩] ⟨96, 15, 96, 71⟩) (CY (XG (CY (XG (tC (.int 0)) (XG (tC (.int 3)) (XG (tC (.int 1)) (XG (tC (.int 2)) ZB))))) (XG (CY (XG (tC (.int 2)) (XG (tC (.int 1)) (XG (tC (.int 3)) (XG (tC (.int 0)) ZB))))) (XG (CY (XG (tC (.int 3)) (XG (tC (.int 0)) (XG (tC (.int 2)) (XG (tC (.int 1)) ZB))))) (XG (CY (XG (tC (.int 1)) (XG (tC (.int 2)) (XG (tC (.int 0)) (XG (tC (.int 3)) ZB))))) ZB))))):=by
  refine XQ ?_
  refine VW ?_ ?_
  . exact XQ (Xc Xg (Xc Xg (Xc Xg (Xc Xg Xf))))
  refine VW ?_ ?_
  . exact XQ (Xc Xg (Xc Xg (Xc Xg (Xc Xg Xf))))
  refine VW ?_ ?_
  . exact XQ (Xc Xg (Xc Xg (Xc Xg (Xc Xg Xf))))
  refine VW ?_ ?_
  . exact XQ (Xc Xg (Xc Xg (Xc Xg (Xc Xg Xf))))
  exact Xf
structure Blt (mg : Str -> Option Value) : Prop where
  b_abs : mg "abs" = none
  b_all : mg "all" = none
  b_any : mg "any" = none
  b_bool : mg "bool" = none
  b_dict : mg "dict" = none
  b_int : mg "int" = none
  b_isinstance : mg "isinstance" = none
  b_len : mg "len" = none
  b_list : mg "list" = none
  b_max : mg "max" = none
  b_min : mg "min" = none
  b_range : mg "range" = none
  b_set : mg "set" = none
  b_tuple : mg "tuple" = none
  c_MOST_TO_COMPARE : ∃ u, mg "MOST_TO_COMPARE" = some u /\ X4 (.int 6) u
section
variable {P : Program} {w : World} {K : PySem.W.Frag} {mg : Str -> Option Value} {base : Heap}
theorem Jz : FnScope ["most", "size"] ["most", "size"] (Xk Zx):=⟨rfl, rfl, rfl, by decide +kernel, rfl, by decide +kernel, by decide +kernel⟩
set_option maxHeartbeats 4000000 in
theorem JR (D : Def K mg "refuse_above" Zx ["most", "size"])  (Z : Blt mg) : Fn P w K mg base 1 "refuse_above" ["most", "size"] (sp2 Xa Xa oU Yj K):=by
  refine YG D Jz (fun vs H Q E h=>?_) (fun f cdv A outer s H vs Q E hr h=>?_)
  . obtain ⟨v_0, v_1, a_0, a_1, b, rfl, _⟩:=h; rfl
  obtain ⟨v_0, v_1, a_0, a_1, b, rfl, h_0, h_1, hm, q⟩:=h
  have hu:=hu8 hr
  have hu1:=YD hr
  refine ⟨_, (Xd (X8 (Xp J9 (pv 1) (pv 0) (Xs _))
      (Xd Cm
      Xh)
      Xh)
    Xh), ?_⟩
  refine HJ (J:=({ oo:=fun x3=>[], ss:=fun x3=>[some v_0, some v_1], sc:=fun g4 x3=>(SC.add (SC.add SC.nil K Xa v_0 a_0) K Xa v_1 a_1) } : Jn (Unit) (Unit))) (K:=K) (S:=(SC.add (SC.add SC.nil K Xa v_0 a_0) K Xa v_1 a_1)) (σ:=[some v_0, some v_1]) 0 ?_ (SC.i (SC.i SC.t h_0) h_1) hm q (fun _ _=>rfl)
  unfold Yj
  exact (HS (Xj (K:=K) (Qh (Xb (r:=Xa) 1 rfl (fun _ s=>(SC.r s))) (Xb (r:=Xa) 0 rfl (fun _ s=>(SC.r (SC.l s)))))) (Xq (J:=_) () () rfl rfl (fun _ s=>(SC.i (SC.i SC.t (SC.r (SC.l s))) (SC.r s)))))
theorem J5 : FnScope ["numbers", "size"] ["numbers", "size"] (Xk Zd):=⟨rfl, rfl, rfl, by decide +kernel, rfl, by decide +kernel, by decide +kernel⟩
set_option maxHeartbeats 4000000 in
theorem J7 (D : Def K mg "all_colours" Zd ["numbers", "size"])  (Z : Blt mg) : Fn P w K mg base 1 "all_colours" ["numbers", "size"] (sp2 (rPL Xa) Xa (oF XC) Yx K):=by
  refine YG D J5 (fun vs H Q E h=>?_) (fun f cdv A outer s H vs Q E hr h=>?_)
  . obtain ⟨v_0, v_1, a_0, a_1, b, rfl, _⟩:=h; rfl
  obtain ⟨v_0, v_1, a_0, a_1, b, rfl, h_0, h_1, hm, q⟩:=h
  have hu:=hu8 hr
  have hu1:=YD hr
  refine ⟨_, (Xd (XE (Xn (UA rfl) rfl Z.b_all PyProof.Rows.boot_all (Xc (Zn (sc:=(Xk Zd)) (N0:=["numbers", "size"]) (tns:=["number"]) (caps:=[(1, "size")]) rfl (F8 (K:=K) rfl (pv 0)) (ZI (by decide)) (fun cl C s H ex E=>⟨Xz (i:=0) (show List.Nodup (["number", "size"] : List Str) by decide +kernel) rfl (Or.inl rfl), Qn, (K3 EQ Z5 Xg (pv 0) (pv 1))⟩)) Xf)))
    Xh), ?_⟩
  refine YM (S:=(SC.add (SC.add SC.nil K (rPL Xa) v_0 a_0) K Xa v_1 a_1)) (σ:=[some v_0, some v_1]) 0 ?_ (SC.i (SC.i SC.t h_0) h_1) hm q rfl
  unfold Yx
  exact (XD (EvS.ev (EvB.sh (Df (Ev.toB (Qq (fun _=>tg1 0) (KW (Xr (r:=(rPL Xa)) 0 rfl (fun _ s=>(SC.r (SC.l s))))) (fun C2 a3 v4=>(EvS.ev (EvB.sh (J4 (Xe 0) (Xb (r:=Xa) 0 rfl (fun _ s=>(SC.r s))) (Xb (r:=Xa) 1 rfl (fun _ s=>(SC.r (SC.l s))))))))))))))
theorem YE : FnScope ["lists", "count", "longer", "ahead", "number"] ["lists", "count"] (Xk Zg):=⟨rfl, rfl, rfl, by decide +kernel, rfl, by decide +kernel, by decide +kernel⟩
set_option maxHeartbeats 4000000 in
theorem Q9 (D : Def K mg "longer_by_one" Zg ["lists", "count"])  (Z : Blt mg) : Fn P w K mg base 1 "longer_by_one" ["lists", "count"] (sp2 (rV (rV Xa)) Xa (oL (oL (oF Xa))) X0 K):=by
  refine YG D YE (fun vs H Q E h=>?_) (fun f cdv A outer s H vs Q E hr h=>?_)
  . obtain ⟨v_0, v_1, a_0, a_1, b, rfl, _⟩:=h; rfl
  obtain ⟨v_0, v_1, a_0, a_1, b, rfl, h_0, h_1, hm, q⟩:=h
  have hu:=hu8 hr
  have hu1:=YD hr
  refine ⟨_, (Xd (Xw (i:=2) YE.nd rfl (Or.inl rfl) (XQ Xf))
    (Xd (Ya PassesOwn.never rfl (Ym (K:=K) rfl (pv 0)) (Xz (i:=3) YE.nd rfl (Or.inl rfl))
      (Xd (Ya PassesOwn.never rfl (XJ rfl Z.b_range (Xc (pv 1) Xf)) (Xz (i:=4) YE.nd rfl (Or.inl rfl))
        (Xd (X8 (Xp QZ (pv 4) (pv 3) rfl)
          (Xd (YH (QJ PySem.F.plainAttrs_list PySem.F.slot_list_append PySem.F.type_list_append Ye (pv 2) (Xc (Xt Q4 (pv 3) (XQ (Xc (pv 4) Xf))) Xf)))
          Xh)
          Xh)
        Xh))
      Xh))
    (Xd (XE (pv 2))
    Xh))), ?_⟩
  refine YM (S:=(SC.add (SC.add SC.nil K (rV (rV Xa)) v_0 a_0) K Xa v_1 a_1)) (σ:=[some v_0, some v_1, none, none, none]) 1 ?_ (SC.i (SC.i SC.t h_0) h_1) hm q rfl
  unfold X0
  exact (XR (K:=K) (o:=(oL (oL (oF Xa)))) 2 0 (ZR (o:=(oL (oF Xa)))) (Nat.le_of_ble_eq_true rfl) fun a1 v2 C3=>(YR (K:=K) (J:=({ oo:=fun x4=>[x4.2.2.2], ss:=fun x4=>[some v_0, some v_1, some x4.2.2.1, x4.1, x4.2.1], sc:=fun g5 x4=>(SC.addO (SC.add (SC.add SC.nil K (rV (rV Xa)) v_0 a_0) K Xa v_1 a_1) K (oL (oL (oF Xa))) x4.2.2.1 g5 x4.2.2.2) } : Jn ((List (List Int))) (Option V × Option V × V × List XA))) (fun _=>tg1 3) ((none), (none), v2, C3) (a1) (Yo (Xr (r:=(rV (rV Xa))) 0 rfl (fun _ s=>(SC.r (SC.l (SC.l s)))))) rfl rfl (fun _ s=>(SC.i (SC.i (SC.i SC.t (SC.r (SC.l (SC.l s)))) (SC.r (SC.l s))) (SC.r s))) (fun g6 x7 a8 v9=>(YR (K:=K) (J:=({ oo:=fun x11=>[x11.2.2], ss:=fun x11=>[some v_0, some v_1, some x11.2.1, some v9, x11.1], sc:=fun g12 x11=>(SC.addO (SC.add (SC.add (SC.add SC.nil K (rV (rV Xa)) v_0 a_0) K Xa v_1 a_1) K (rV Xa) v9 a8) K (oL (oL (oF Xa))) x11.2.1 g12 x11.2.2) } : Jn ((List (List Int))) (Option V × V × List XA))) (fun _=>tg1 4) ((x7.2.1), x7.2.2.1, x7.2.2.2) (g6) (XB (Xb (r:=Xa) 1 rfl (fun _ s=>(SC.r (SC.l (SC.l s)))))) rfl rfl (fun _ s=>(SC.i (SC.i (SC.i (SC.i SC.t (SC.r (SC.l (SC.l (SC.l s))))) (SC.r (SC.l (SC.l s)))) (SC.r s)) (SC.r (SC.l s)))) (fun g13 x14 a15 v16=>(Yf (J:=({ oo:=fun x20=>[x20.2], ss:=fun x20=>[some v_0, some v_1, some x20.1, some v9, some v16], sc:=fun g21 x20=>(SC.addO (SC.add (SC.add (SC.add (SC.add SC.nil K (rV (rV Xa)) v_0 a_0) K Xa v_1 a_1) K (rV Xa) v9 a8) K Xa v16 a15) K (oL (oL (oF Xa))) x20.1 g21 x20.2) } : Jn ((List (List Int))) (V × List XA))) (YS (Fd:=FNd ({ oo:=fun x20=>[x20.2], ss:=fun x20=>[some v_0, some v_1, some x20.1, some v9, some v16], sc:=fun g21 x20=>(SC.addO (SC.add (SC.add (SC.add (SC.add SC.nil K (rV (rV Xa)) v_0 a_0) K Xa v_1 a_1) K (rV Xa) v9 a8) K Xa v16 a15) K (oL (oL (oF Xa))) x20.1 g21 x20.2) } : Jn ((List (List Int))) (V × List XA))) (Xj (K:=K) (F3 (Xb (r:=Xa) 4 rfl (fun _ s=>(SC.r s))) (Xb (r:=(rV Xa)) 3 rfl (fun _ s=>(SC.r (SC.l (SC.l s))))))) (ZO (K:=K) (o:=(oL (oF Xa))) (f:=fun a29=>(Res.ok (a29))) 2 0 rfl rfl rfl (fun _ s=>(SC.r (SC.l s))) (QY (EvS.ls (Xr (r:=(rV Xa)) 3 rfl (fun _ s=>(SC.r (SC.l (SC.l s)))))) (Ev.ls (YU (Xo (Xr (r:=Xa) 4 rfl (fun _ s=>(SC.r s))) X9)))) fun a27 C28=>(Xq (J:=_) (x14.2.1, C28) ((g13 ++ [a27])) rfl rfl (fun _ s=>(SC.i (SC.i (SC.i (SC.i (SC.i SC.t (SC.r (SC.l (SC.l (SC.l (SC.l (SC.l s))))))) (SC.r (SC.l (SC.l (SC.l (SC.l s)))))) (SC.r (SC.l (SC.l (SC.l s))))) (SC.r (SC.l s))) (SC.r s))))) (Xq (J:=_) (x14.2.1, x14.2.2) (g13) rfl rfl (fun _ s=>(SC.i (SC.i (SC.i (SC.i (SC.i SC.t (SC.r (SC.l (SC.l (SC.l (SC.l s)))))) (SC.r (SC.l (SC.l (SC.l s))))) (SC.r (SC.l (SC.l s)))) (SC.r s)) (SC.r (SC.l s)))))) fun g31 x30=>(Xq (J:=_) ((some v16), x30.1, x30.2) (g31) rfl rfl (fun _ s=>(SC.i (SC.i (SC.i (SC.i SC.t (SC.r (SC.l (SC.l (SC.l (SC.l s)))))) (SC.r (SC.l (SC.l (SC.l s))))) (SC.r (SC.l (SC.l s)))) (SC.r s)))))) fun g32 x33=>(Xq (J:=_) ((some v9), (x33.1), x33.2.1, x33.2.2) (g32) rfl rfl (fun _ s=>(SC.i (SC.i (SC.i SC.t (SC.r (SC.l (SC.l (SC.l s))))) (SC.r (SC.l (SC.l s)))) (SC.r s)))))) fun g35 x36=>(XD (X3 (o:=(oL (oL (oF Xa)))) 2 0 rfl rfl (fun _ s=>(SC.r s))))))
theorem Zm : FnScope ["count", "told", "place"] ["count"] (Xk Qs):=⟨rfl, rfl, rfl, by decide +kernel, rfl, by decide +kernel, by decide +kernel⟩
set_option maxHeartbeats 4000000 in
theorem Ue (D : Def K mg "each_once" Qs ["count"]) (g_longer_by_one : Fn P w K mg base 1 "longer_by_one" ["lists", "count"] (sp2 (rV (rV Xa)) Xa (oL (oL (oF Xa))) X0 K)) (Z : Blt mg) : Fn P w K mg base 2 "each_once" ["count"] (sp1 Xa (oL (oL (oF Xa))) YW K):=by
  refine YG D Zm (fun vs H Q E h=>?_) (fun f cdv A outer s H vs Q E hr h=>?_)
  . obtain ⟨v_0, a_0, b, rfl, _⟩:=h; rfl
  obtain ⟨v_0, a_0, b, rfl, h_0, hm, q⟩:=h
  have hu:=hu8 hr
  have hu1:=YD hr
  refine ⟨_, (Xd (Xw (i:=1) Zm.nd rfl (Or.inl rfl) (XQ (Xc (XQ Xf) Xf Ze)))
    (Xd (Ya PassesOwn.never rfl (XJ rfl Z.b_range (Xc (pv 0) Xf)) (Xz (i:=2) Zm.nd rfl (Or.inl rfl))
      (Xd (Xw (i:=1) Zm.nd rfl (Or.inl rfl) (X2 g_longer_by_one hr (by decide) (Xc (pv 1) (Xc (pv 0) Xf))))
      Xh))
    (Xd (XE (pv 1))
    Xh))), ?_⟩
  refine YM (S:=(SC.add SC.nil K Xa v_0 a_0)) (σ:=[some v_0, none, none]) 1 ?_ (SC.i SC.t h_0) hm q rfl
  unfold YW
  exact (XR (K:=K) (o:=(oL (oL (oF Xa)))) 1 0 (Jx (Y6 (ZR (o:=(oF Xa))) fun _=>QF)) (Nat.le_of_ble_eq_true rfl) fun a1 v2 C3=>(YR (K:=K) (J:=({ oo:=fun x8=>[x8.2.2], ss:=fun x8=>[some v_0, some x8.2.1, x8.1], sc:=fun g9 x8=>(SC.addO (SC.add SC.nil K Xa v_0 a_0) K (oL (oL (oF Xa))) x8.2.1 g9 x8.2.2) } : Jn ((List (List Int))) (Option V × V × List XA))) (fun _=>tg1 2) ((none), v2, C3) (a1) (XB (Xb (r:=Xa) 0 rfl (fun _ s=>(SC.r (SC.l s))))) rfl rfl (fun _ s=>(SC.i (SC.i SC.t (SC.r (SC.l s))) (SC.r s))) (fun g10 x11 a12 v13=>(XR (K:=K) (o:=(oL (oL (oF Xa)))) 1 0 (XN (Yk (o:=(oL (oL (oF Xa)))) 1 0 rfl rfl (fun _ s=>(SC.r (SC.l s)))) (Xb (r:=Xa) 0 rfl (fun _ s=>(SC.r (SC.l (SC.l s)))))) (Nat.le_of_ble_eq_true rfl) fun a14 v15 C16=>(Xq (J:=_) ((some v13), v15, C16) (a14) rfl rfl (fun _ s=>(SC.i (SC.i SC.t (SC.r (SC.l (SC.l (SC.l s))))) (SC.r s)))))) fun g20 x21=>(XD (X3 (o:=(oL (oL (oF Xa)))) 1 0 rfl rfl (fun _ s=>(SC.r s))))))
theorem VA : FnScope ["one", "other"] ["one", "other"] (Xk ZX):=⟨rfl, rfl, rfl, by decide +kernel, rfl, by decide +kernel, by decide +kernel⟩
set_option maxHeartbeats 4000000 in
theorem VC (D : Def K mg "refuse_big" ZX ["one", "other"]) (g_refuse_above : Fn P w K mg base 1 "refuse_above" ["most", "size"] (sp2 Xa Xa oU Yj K)) (Z : Blt mg) : Fn P w K mg base 2 "refuse_big" ["one", "other"] (sp2 (rV (rV Xa)) (rV (rV Xa)) oU YK K):=by
  refine YG D VA (fun vs H Q E h=>?_) (fun f cdv A outer s H vs Q E hr h=>?_)
  . obtain ⟨v_0, v_1, a_0, a_1, b, rfl, _⟩:=h; rfl
  obtain ⟨v_0, v_1, a_0, a_1, b, rfl, h_0, h_1, hm, q⟩:=h
  have hu:=hu8 hr
  have hu1:=YD hr
  refine ⟨_, (Xd (YH (X2 g_refuse_above hr (by decide) (Xc (HZ Z.c_MOST_TO_COMPARE rfl) (Xc (Xn (UN rfl) rfl Z.b_max PyProof.Rows.boot_max (Xc (Xn (Xi K rfl) rfl Z.b_len PySem.boot_len (Xc (pv 0) Xf)) (Xc (Xn (Xi K rfl) rfl Z.b_len PySem.boot_len (Xc (pv 1) Xf)) Xf))) Xf))))
    Xh), ?_⟩
  refine HJ (J:=({ oo:=fun x3=>[], ss:=fun x3=>[some v_0, some v_1], sc:=fun g4 x3=>(SC.add (SC.add SC.nil K (rV (rV Xa)) v_0 a_0) K (rV (rV Xa)) v_1 a_1) } : Jn (Unit) (Unit))) (K:=K) (S:=(SC.add (SC.add SC.nil K (rV (rV Xa)) v_0 a_0) K (rV (rV Xa)) v_1 a_1)) (σ:=[some v_0, some v_1]) 0 ?_ (SC.i (SC.i SC.t h_0) h_1) hm q (fun _ _=>rfl)
  unfold YK
  exact (Dz (Ev.toB (XN (Xe 6) (FK (XI (Xb (r:=(rV (rV Xa))) 0 rfl (fun _ s=>(SC.r (SC.l s))))) (XI (Xb (r:=(rV (rV Xa))) 1 rfl (fun _ s=>(SC.r s))))))) (Xq (J:=_) () () rfl rfl (fun _ s=>(SC.i (SC.i SC.t (SC.r (SC.l s))) (SC.r s)))))
theorem Zo : FnScope ["one", "other", "images", "a", "b", "result"] ["one", "other", "images", "a", "b"] (Xk YY):=⟨rfl, rfl, rfl, by decide +kernel, rfl, by decide +kernel, by decide +kernel⟩
set_option maxHeartbeats 4000000 in
theorem Qx (D : Def K mg "equation_broken" YY ["one", "other", "images", "a", "b"])  (Z : Blt mg) : Fn P w K mg base 1 "equation_broken" ["one", "other", "images", "a", "b"] (sp5 (rV (rV Xa)) (rV (rV Xa)) (rPL Xa) Xa Xa (oF XC) XW K):=by
  refine YG D Zo (fun vs H Q E h=>?_) (fun f cdv A outer s H vs Q E hr h=>?_)
  . obtain ⟨v_0, v_1, v_2, v_3, v_4, a_0, a_1, a_2, a_3, a_4, b, rfl, _⟩:=h; rfl
  obtain ⟨v_0, v_1, v_2, v_3, v_4, a_0, a_1, a_2, a_3, a_4, b, rfl, h_0, h_1, h_2, h_3, h_4, hm, q⟩:=h
  have hu:=hu8 hr
  have hu1:=YD hr
  refine ⟨_, (Xd (Xw (i:=5) Zo.nd rfl (Or.inl rfl) (XH (Xl K rfl) (XH (Xl K rfl) (pv 0) (pv 3) (fun _ _=>rfl)) (pv 4) (fun _ _=>rfl)))
    (Xd (XE (KC (Z6 Z5 (pv 5) (Xn (Xi K rfl) rfl Z.b_len PySem.boot_len (Xc (pv 2) Xf)) (Xs _)) (K2 (Z6 Jc (XH (Xl K rfl) (XH (Xl K rfl) (pv 1) (XH (Zw K rfl) (pv 2) (pv 3) (fun _ _=>rfl)) (fun _ _=>rfl)) (XH (Zw K rfl) (pv 2) (pv 4) (fun _ _=>rfl)) (fun _ _=>rfl)) (XH (Zw K rfl) (pv 2) (pv 5) (fun _ _=>rfl)) (Xs _)))))
    Xh)), ?_⟩
  refine YM (S:=(SC.add (SC.add (SC.add (SC.add (SC.add SC.nil K (rV (rV Xa)) v_0 a_0) K (rV (rV Xa)) v_1 a_1) K (rPL Xa) v_2 a_2) K Xa v_3 a_3) K Xa v_4 a_4)) (σ:=[some v_0, some v_1, some v_2, some v_3, some v_4, none]) 0 ?_ (SC.i (SC.i (SC.i (SC.i (SC.i SC.t h_0) h_1) h_2) h_3) h_4) hm q rfl
  unfold XW
  exact (XS (K:=K) (r:=Xa) 5 (EvB.sh (Xy (Xy (Xb (r:=(rV (rV Xa))) 0 rfl (fun _ s=>(SC.r (SC.l (SC.l (SC.l (SC.l s))))))) (Xb (r:=Xa) 3 rfl (fun _ s=>(SC.r (SC.l s))))) (Xb (r:=Xa) 4 rfl (fun _ s=>(SC.r s))))) fun a1 v2=>(XD (EvS.ev (EvB.sh (Jg (Zp (Xb (r:=Xa) 5 rfl (fun _ s=>(SC.r s))) (ZD (Xb (r:=(rPL Xa)) 2 rfl (fun _ s=>(SC.r (SC.l (SC.l (SC.l s)))))))) (ZP (Xy (Xy (Xb (r:=(rV (rV Xa))) 1 rfl (fun _ s=>(SC.r (SC.l (SC.l (SC.l (SC.l s))))))) (QM (Xb (r:=(rPL Xa)) 2 rfl (fun _ s=>(SC.r (SC.l (SC.l (SC.l s)))))) (Xb (r:=Xa) 3 rfl (fun _ s=>(SC.r (SC.l (SC.l s))))))) (QM (Xb (r:=(rPL Xa)) 2 rfl (fun _ s=>(SC.r (SC.l (SC.l (SC.l s)))))) (Xb (r:=Xa) 4 rfl (fun _ s=>(SC.r (SC.l s)))))) (QM (Xb (r:=(rPL Xa)) 2 rfl (fun _ s=>(SC.r (SC.l (SC.l (SC.l s)))))) (Xb (r:=Xa) 5 rfl (fun _ s=>(SC.r s))))))))))
theorem QH : FnScope ["order", "shut"] ["order", "shut"] (Xk Yw):=⟨rfl, rfl, rfl, by decide +kernel, rfl, by decide +kernel, by decide +kernel⟩
set_option maxHeartbeats 4000000 in
theorem Qw (D : Def K mg "begins_with_one" Yw ["order", "shut"])  (Z : Blt mg) : Fn P w K mg base 1 "begins_with_one" ["order", "shut"] (sp2 (rV Xa) (rDT XC) (oF XC) XX K):=by
  refine YG D QH (fun vs H Q E h=>?_) (fun f cdv A outer s H vs Q E hr h=>?_)
  . obtain ⟨v_0, v_1, a_0, a_1, b, rfl, _⟩:=h; rfl
  obtain ⟨v_0, v_1, a_0, a_1, b, rfl, h_0, h_1, hm, q⟩:=h
  have hu:=hu8 hr
  have hu1:=YD hr
  refine ⟨_, (Xd (XE (Xn (Ff rfl) rfl Z.b_any PyProof.Rows.boot_any (Xc (Zn (sc:=(Xk Yw)) (N0:=["order", "shut"]) (tns:=["length"]) (caps:=[(0, "order"), (1, "shut")]) rfl (XJ rfl Z.b_range (Xc (Xt Yn (Xn (Xi K rfl) rfl Z.b_len PySem.boot_len (Xc (pv 0) Xf)) Xg) Xf)) (ZI (by decide)) (fun cl C s H ex E=>⟨Xz (i:=0) (show List.Nodup (["length", "order", "shut"] : List Str) by decide +kernel) rfl (Or.inl rfl), Qn, (Ia (Hd hu1 (Yu (Y0 K rfl) rfl Z.b_tuple PyProof.Rows.boot_tuple (Xc (Y2 (Zq K rfl) (pv 1) Z1 (Y9 (pv 0))) Xf)) (pv 2)))⟩)) Xf)))
    Xh), ?_⟩
  refine YM (S:=(SC.add (SC.add SC.nil K (rV Xa) v_0 a_0) K (rDT XC) v_1 a_1)) (σ:=[some v_0, some v_1]) 0 ?_ (SC.i (SC.i SC.t h_0) h_1) hm q rfl
  unfold XX
  exact (XD (EvS.ev (EvB.sh (B9 (Ev.toB (Qq (fun _=>tg1 0) (XB (XV (XI (Xb (r:=(rV Xa)) 0 rfl (fun _ s=>(SC.r (SC.l s))))) (Xe 1))) (fun C6 a7 v8=>(EvS.ev (EvB.sh (Co (Qa (Ev.toB (ZM (EvS.ls (Xr (r:=(rV Xa)) 1 rfl (fun _ s=>(SC.r (SC.l (SC.l s)))))) Zu (YF (K:=K) (Xb (r:=Xa) 0 rfl (fun _ s=>(SC.r s))))))) (Xb (r:=(rDT XC)) 2 rfl (fun _ s=>(SC.r (SC.l s))))))))))))))
theorem U4 : FnScope ["images", "number"] ["images", "number"] (Xk QP):=⟨rfl, rfl, rfl, by decide +kernel, rfl, by decide +kernel, by decide +kernel⟩
set_option maxHeartbeats 4000000 in
theorem Kq (D : Def K mg "is_place" QP ["images", "number"])  (Z : Blt mg) : Fn P w K mg base 1 "is_place" ["images", "number"] (sp2 (rPL Xa) Xa (oF XC) YV K):=by
  refine YG D U4 (fun vs H Q E h=>?_) (fun f cdv A outer s H vs Q E hr h=>?_)
  . obtain ⟨v_0, v_1, a_0, a_1, b, rfl, _⟩:=h; rfl
  obtain ⟨v_0, v_1, a_0, a_1, b, rfl, h_0, h_1, hm, q⟩:=h
  have hu:=hu8 hr
  have hu1:=YD hr
  refine ⟨_, (Xd (XE (K3 EQ Z5 Xg (pv 1) (Xn (Xi K rfl) rfl Z.b_len PySem.boot_len (Xc (pv 0) Xf))))
    Xh), ?_⟩
  refine YM (S:=(SC.add (SC.add SC.nil K (rPL Xa) v_0 a_0) K Xa v_1 a_1)) (σ:=[some v_0, some v_1]) 0 ?_ (SC.i (SC.i SC.t h_0) h_1) hm q rfl
  unfold YV
  exact (XD (EvS.ev (EvB.sh (J4 (Xe 0) (Xb (r:=Xa) 1 rfl (fun _ s=>(SC.r s))) (ZD (Xb (r:=(rPL Xa)) 0 rfl (fun _ s=>(SC.r (SC.l s)))))))))
theorem QD : FnScope ["one", "other", "entry", "images", "a", "b"] ["one", "other", "entry"] (Xk VF):=⟨rfl, rfl, rfl, by decide +kernel, rfl, by decide +kernel, by decide +kernel⟩
set_option maxHeartbeats 4000000 in
theorem FW (D : Def K mg "breaks" VF ["one", "other", "entry"]) (g_is_place : Fn P w K mg base 1 "is_place" ["images", "number"] (sp2 (rPL Xa) Xa (oF XC) YV K)) (g_equation_broken : Fn P w K mg base 1 "equation_broken" ["one", "other", "images", "a", "b"] (sp5 (rV (rV Xa)) (rV (rV Xa)) (rPL Xa) Xa Xa (oF XC) XW K)) (g_all_colours : Fn P w K mg base 1 "all_colours" ["numbers", "size"] (sp2 (rPL Xa) Xa (oF XC) Yx K)) (Z : Blt mg) : Fn P w K mg base 2 "breaks" ["one", "other", "entry"] (sp3 (rV (rV Xa)) (rV (rV Xa)) (rP3 (rPL Xa) Xa Xa) (oF XC) Z8 K):=by
  refine YG D QD (fun vs H Q E h=>?_) (fun f cdv A outer s H vs Q E hr h=>?_)
  . obtain ⟨v_0, v_1, v_2, a_0, a_1, a_2, b, rfl, _⟩:=h; rfl
  obtain ⟨v_0, v_1, v_2, a_0, a_1, a_2, b, rfl, h_0, h_1, h_2, hm, q⟩:=h
  have hu:=hu8 hr
  have hu1:=YD hr
  refine ⟨_, (Xd (Xw (i:=3) QD.nd rfl (Or.inl rfl) (XH (Zw K rfl) (pv 2) Xg (fun _ _=>rfl)))
    (Xd (Xw (i:=4) QD.nd rfl (Or.inl rfl) (XH (Zw K rfl) (pv 2) Xg (fun _ _=>rfl)))
    (Xd (Xw (i:=5) QD.nd rfl (Or.inl rfl) (XH (Zw K rfl) (pv 2) Xg (fun _ _=>rfl)))
    (Xd (X8 (PW.pt (UT (Xp Jc (Xn VU rfl Z.b_len PySem.boot_len (Xc (Yu (V8 K rfl rfl) rfl Z.b_set PySem.Pv.boot_set (Xc (pv 3) Xf)) Xf)) (Xn (Xi K rfl) rfl Z.b_len PySem.boot_len (Xc (pv 3) Xf)) (Xs _)) (Vj (D0 (Vb (X2 g_all_colours hr (by decide) (Xc (pv 3) (Xc (Xn (Xi K rfl) rfl Z.b_len PySem.boot_len (Xc (pv 1) Xf)) Xf))))))))
      (Xd (XE JJ)
      Xh)
      Xh)
    (Xd (XE (KC (X2 g_is_place hr (by decide) (Xc (pv 3) (Xc (pv 4) Xf))) (KC (X2 g_is_place hr (by decide) (Xc (pv 3) (Xc (pv 5) Xf))) (K2 (X2 g_equation_broken hr (by decide) (Xc (pv 0) (Xc (pv 1) (Xc (pv 3) (Xc (pv 4) (Xc (pv 5) Xf))))))))))
    Xh))))), ?_⟩
  refine YM (S:=(SC.add (SC.add (SC.add SC.nil K (rV (rV Xa)) v_0 a_0) K (rV (rV Xa)) v_1 a_1) K (rP3 (rPL Xa) Xa Xa) v_2 a_2)) (σ:=[some v_0, some v_1, some v_2, none, none, none]) 0 ?_ (SC.i (SC.i (SC.i SC.t h_0) h_1) h_2) hm q rfl
  unfold Z8
  exact (XS (K:=K) (r:=(rPL Xa)) 3 (EvB.sh (DE (Xb (r:=(rP3 (rPL Xa) Xa Xa)) 2 rfl (fun _ s=>(SC.r s))))) fun a1 v2=>(XS (K:=K) (r:=Xa) 4 (EvB.sh (EB (Xb (r:=(rP3 (rPL Xa) Xa Xa)) 2 rfl (fun _ s=>(SC.r (SC.l s)))))) fun a4 v5=>(XS (K:=K) (r:=Xa) 5 (EvB.sh (Ee (Xb (r:=(rP3 (rPL Xa) Xa Xa)) 2 rfl (fun _ s=>(SC.r (SC.l (SC.l s))))))) fun a7 v8=>(YQ (JM (Xj (K:=K) (ZP (Kk (Xb (r:=(rPL Xa)) 3 rfl (fun _ s=>(SC.r (SC.l (SC.l s)))))) (ZD (Xb (r:=(rPL Xa)) 3 rfl (fun _ s=>(SC.r (SC.l (SC.l s)))))))) (U8 (Uo (K:=K) (Ev.toB (XN (Xb (r:=(rPL Xa)) 3 rfl (fun _ s=>(SC.r (SC.l (SC.l s))))) (XI (Xb (r:=(rV (rV Xa))) 1 rfl (fun _ s=>(SC.r (SC.l (SC.l (SC.l (SC.l s))))))))))))) (XD (EvS.ev (EvB.sh (ZZ false)))) (XD (EvS.ev (EvB.sh (Jg (Ev.toB (XN (Xb (r:=(rPL Xa)) 3 rfl (fun _ s=>(SC.r (SC.l (SC.l s))))) (Xb (r:=Xa) 4 rfl (fun _ s=>(SC.r (SC.l s)))))) (Jg (Ev.toB (XN (Xb (r:=(rPL Xa)) 3 rfl (fun _ s=>(SC.r (SC.l (SC.l s))))) (Xb (r:=Xa) 5 rfl (fun _ s=>(SC.r s))))) (Ev.toB (Jm (Xb (r:=(rV (rV Xa))) 0 rfl (fun _ s=>(SC.r (SC.l (SC.l (SC.l (SC.l (SC.l s)))))))) (Xb (r:=(rV (rV Xa))) 1 rfl (fun _ s=>(SC.r (SC.l (SC.l (SC.l (SC.l s))))))) (Xb (r:=(rPL Xa)) 3 rfl (fun _ s=>(SC.r (SC.l (SC.l s))))) (Xb (r:=Xa) 4 rfl (fun _ s=>(SC.r (SC.l s)))) (Xb (r:=Xa) 5 rfl (fun _ s=>(SC.r s))))))))))))))
theorem KP : FnScope ["one", "other", "paper", "shut"] ["one", "other", "paper"] (Xk Jy):=⟨rfl, rfl, rfl, by decide +kernel, rfl, by decide +kernel, by decide +kernel⟩
set_option maxHeartbeats 4000000 in
theorem Bk (D : Def K mg "shuts" Jy ["one", "other", "paper"]) (g_refuse_big : Fn P w K mg base 2 "refuse_big" ["one", "other"] (sp2 (rV (rV Xa)) (rV (rV Xa)) oU YK K)) (g_begins_with_one : Fn P w K mg base 1 "begins_with_one" ["order", "shut"] (sp2 (rV Xa) (rDT XC) (oF XC) XX K)) (g_breaks : Fn P w K mg base 2 "breaks" ["one", "other", "entry"] (sp3 (rV (rV Xa)) (rV (rV Xa)) (rP3 (rPL Xa) Xa Xa) (oF XC) Z8 K)) (g_each_once : Fn P w K mg base 2 "each_once" ["count"] (sp1 Xa (oL (oL (oF Xa))) YW K)) (Z : Blt mg) : Fn P w K mg base 3 "shuts" ["one", "other", "paper"] (sp3 (rV (rV Xa)) (rV (rV Xa)) (rV (rP3 (rPL Xa) Xa Xa)) (oF XC) Z0 K):=by
  refine YG D KP (fun vs H Q E h=>?_) (fun f cdv A outer s H vs Q E hr h=>?_)
  . obtain ⟨v_0, v_1, v_2, a_0, a_1, a_2, b, rfl, _⟩:=h; rfl
  obtain ⟨v_0, v_1, v_2, a_0, a_1, a_2, b, rfl, h_0, h_1, h_2, hm, q⟩:=h
  have hu:=hu8 hr
  have hu1:=YD hr
  refine ⟨_, (Xd (YH (X2 g_refuse_big hr (by decide) (Xc (pv 0) (Xc (pv 1) Xf))))
    (Xd (X8 (Xp Jc (Xn (Xi K rfl) rfl Z.b_len PySem.boot_len (Xc (pv 0) Xf)) (Xn (Xi K rfl) rfl Z.b_len PySem.boot_len (Xc (pv 1) Xf)) (Xs _))
      (Xd (XE JJ)
      Xh)
      Xh)
    (Xd (Xw (i:=3) KP.nd rfl (Or.inr rfl) (Yu (Gs K rfl rfl (Be (by decide) hu)) rfl Z.b_dict PyProof.Rows.boot_dict (Xc (Zn (sc:=(Xk Jy)) (N0:=["one", "other", "paper", "shut"]) (tns:=["entry"]) (caps:=[(0, "one"), (1, "other")]) rfl (Ym (K:=K) rfl (pv 2)) (ZI (by decide)) (fun cl C s H ex E=>⟨Xz (i:=0) (show List.Nodup (["entry", "one", "other"] : List Str) by decide +kernel) rfl (Or.inl rfl), (Dq (Vb (X2 g_breaks hr (by decide) (Xc (pv 1) (Xc (pv 2) (Xc (pv 0) Xf)))))), (Zb (Xc (XH (Zw K rfl) (pv 0) Xg (fun _ _=>rfl)) (Xc JJ Xf)))⟩)) Xf)))
    (Xd (XE (Xn (UA rfl) rfl Z.b_all PyProof.Rows.boot_all (Xc (Zn (sc:=(Xk Jy)) (N0:=["one", "other", "paper", "shut"]) (tns:=["order"]) (caps:=[(3, "shut")]) rfl (Ym (K:=K) rfl (X2 g_each_once hr (by decide) (Xc (Xn (Xi K rfl) rfl Z.b_len PySem.boot_len (Xc (pv 0) Xf)) Xf))) (ZI (by decide)) (fun cl C s H ex E=>⟨Xz (i:=0) (show List.Nodup (["order", "shut"] : List Str) by decide +kernel) rfl (Or.inl rfl), Qn, (X2 g_begins_with_one hr (by decide) (Xc (pv 0) (Xc (pv 1) Xf)))⟩)) Xf)))
    Xh)))), ?_⟩
  refine YM (S:=(SC.add (SC.add (SC.add SC.nil K (rV (rV Xa)) v_0 a_0) K (rV (rV Xa)) v_1 a_1) K (rV (rP3 (rPL Xa) Xa Xa)) v_2 a_2)) (σ:=[some v_0, some v_1, some v_2, none]) 0 ?_ (SC.i (SC.i (SC.i SC.t h_0) h_1) h_2) hm q rfl
  unfold Z0
  exact (Dz (Ev.toB (XN (Xb (r:=(rV (rV Xa))) 0 rfl (fun _ s=>(SC.r (SC.l (SC.l s))))) (Xb (r:=(rV (rV Xa))) 1 rfl (fun _ s=>(SC.r (SC.l s)))))) (YQ (Xj (K:=K) (ZP (XI (Xb (r:=(rV (rV Xa))) 0 rfl (fun _ s=>(SC.r (SC.l (SC.l s)))))) (XI (Xb (r:=(rV (rV Xa))) 1 rfl (fun _ s=>(SC.r (SC.l s))))))) (XD (EvS.ev (EvB.sh (ZZ true)))) (XS (K:=K) (r:=(rDT XC)) 3 (Ev.sh (CG (Ev.ls (Gg (fun _=>tg1 0) (Yo (Xr (r:=(rV (rP3 (rPL Xa) Xa Xa))) 2 rfl (fun _ s=>(SC.r s)))) (fun C13 a14 v15=>(Uo (K:=K) (Ev.toB (Yl (Xb (r:=(rV (rV Xa))) 1 rfl (fun _ s=>(SC.r (SC.l (SC.l (SC.l s)))))) (Xb (r:=(rV (rV Xa))) 2 rfl (fun _ s=>(SC.r (SC.l (SC.l s))))) (Xb (r:=(rP3 (rPL Xa) Xa Xa)) 0 rfl (fun _ s=>(SC.r s))))))) (fun C13 a14 v15=>(EvS.ev (CB (EvB.sh (DE (Xb (r:=(rP3 (rPL Xa) Xa Xa)) 0 rfl (fun _ s=>(SC.r s))))) (EvB.sh (ZZ true))))))))) fun a10 v11=>(XD (EvS.ev (EvB.sh (Df (Ev.toB (Qq (fun _=>tg1 0) (Yo (Ev.sh (Jj (XI (Xb (r:=(rV (rV Xa))) 0 rfl (fun _ s=>(SC.r (SC.l (SC.l (SC.l s)))))))))) (fun C28 a29 v30=>(XN (Xb (r:=(rV Xa)) 0 rfl (fun _ s=>(SC.r s))) (Xb (r:=(rDT XC)) 1 rfl (fun _ s=>(SC.r (SC.l s)))))))))))))))
theorem V6 : FnScope ["_law_script", "_law_place", "_law_seed", "_law_cell_here"] ["_law_script", "_law_place"] (Xk DC):=⟨rfl, rfl, rfl, by decide +kernel, rfl, by decide +kernel, by decide +kernel⟩
set_option maxHeartbeats 4000000 in
theorem ER (D : Def K mg "_law_cell" DC ["_law_script", "_law_place"])  (Z : Blt mg) : Fn P w K mg base 1 "_law_cell" ["_law_script", "_law_place"] (sp2 (rL Xa) Xa (oF Xa) JF K):=by
  refine YG D V6 (fun vs H Q E h=>?_) (fun f cdv A outer s H vs Q E hr h=>?_)
  . obtain ⟨v_0, v_1, a_0, a_1, b, rfl, _⟩:=h; rfl
  obtain ⟨v_0, v_1, a_0, a_1, b, rfl, h_0, h_1, hm, q⟩:=h
  have hu:=hu8 hr
  have hu1:=YD hr
  refine ⟨_, (Xd (X8 (Xp Z5 (pv 1) (Xn (Xi K rfl) rfl Z.b_len PySem.boot_len (Xc (pv 0) Xf)) (Xs _))
      (Xd (XE (XH (Xl K rfl) (pv 0) (pv 1) (fun _ _=>rfl)))
      Xh)
      Xh)
    (Xd (Xw (i:=2) V6.nd rfl (Or.inl rfl) Xg)
    (Xd (Ya PassesOwn.never rfl (Ym (K:=K) rfl (Y2 (Zq K rfl) (pv 0) Z1 (Y9 Xg))) (Xz (i:=3) V6.nd rfl (Or.inl rfl))
      (Xd (Xw (i:=2) V6.nd rfl (Or.inl rfl) (Xt Ys (Xt Yn (Xt Yn (Xt Zt (pv 2) Xg) (Xt Ys (pv 3) Xg)) Xg) Xg))
      Xh))
    (Xd (XE (Xt Ys (Xt Yn (pv 2) (Xt Zt Xg (pv 1))) Xg))
    Xh)))), ?_⟩
  refine YM (S:=(SC.add (SC.add SC.nil K (rL Xa) v_0 a_0) K Xa v_1 a_1)) (σ:=[some v_0, some v_1, none, none]) 0 ?_ (SC.i (SC.i SC.t h_0) h_1) hm q rfl
  unfold JF
  exact (YQ (Xj (K:=K) (Zp (Xb (r:=Xa) 1 rfl (fun _ s=>(SC.r s))) (CT (Xb (r:=(rL Xa)) 0 rfl (fun _ s=>(SC.r (SC.l s))))))) (XD (EvS.ev (EvB.sh (EH (Xb (r:=(rL Xa)) 0 rfl (fun _ s=>(SC.r (SC.l s)))) (Xb (r:=Xa) 1 rfl (fun _ s=>(SC.r s))))))) (XS (K:=K) (r:=Xa) 2 (EvB.sh (Xe 5)) fun a7 v8=>(YR (K:=K) (J:=({ oo:=fun x13=>[], ss:=fun x13=>[some v_0, some v_1, some x13.2, x13.1], sc:=fun g14 x13=>(SC.add (SC.add (SC.add SC.nil K (rL Xa) v_0 a_0) K Xa v_1 a_1) K Xa x13.2 g14) } : Jn (Int) (Option V × V))) (fun _=>tg1 3) ((none), v8) (a7) (Yo (Ev.sh (Do (Xb (r:=(rL Xa)) 0 rfl (fun _ s=>(SC.r (SC.l (SC.l s))))) Zu (YF (K:=K) (Xe 63))))) rfl rfl (fun _ s=>(SC.i (SC.i (SC.i SC.t (SC.r (SC.l (SC.l s)))) (SC.r (SC.l s))) (SC.r s))) (fun g15 x16 a17 v18=>(XS (K:=K) (r:=Xa) 2 (EvB.sh (XY (XV (XV (YT (Xb (r:=Xa) 2 rfl (fun _ s=>(SC.r (SC.l s)))) (Xe 48271)) (XY (Xb (r:=Xa) 3 rfl (fun _ s=>(SC.r s))) (Xe 1000003))) (Xe 1)) (Xe 2147483647))) fun a19 v20=>(Xq (J:=_) ((some v18), v20) (a19) rfl rfl (fun _ s=>(SC.i (SC.i (SC.i SC.t (SC.r (SC.l (SC.l (SC.l (SC.l s)))))) (SC.r (SC.l (SC.l (SC.l s))))) (SC.r s)))))) fun g31 x32=>(XD (EvS.ev (EvB.sh (XY (XV (Xb (r:=Xa) 2 rfl (fun _ s=>(SC.r s))) (YT (Xe 7919) (Xb (r:=Xa) 1 rfl (fun _ s=>(SC.r (SC.l s)))))) (Xe 1000003))))))))
theorem FZ : FnScope ["_law_cell_here", "_law_k", "_law_one", "_law_two"] ["_law_cell_here", "_law_k"] (Xk Ey):=⟨rfl, rfl, rfl, by decide +kernel, rfl, by decide +kernel, by decide +kernel⟩
set_option maxHeartbeats 4000000 in
theorem Iw (D : Def K mg "_law_mix" Ey ["_law_cell_here", "_law_k"])  (Z : Blt mg) : Fn P w K mg base 1 "_law_mix" ["_law_cell_here", "_law_k"] (sp2 Xa Xa (oF Xa) Ks K):=by
  refine YG D FZ (fun vs H Q E h=>?_) (fun f cdv A outer s H vs Q E hr h=>?_)
  . obtain ⟨v_0, v_1, a_0, a_1, b, rfl, _⟩:=h; rfl
  obtain ⟨v_0, v_1, a_0, a_1, b, rfl, h_0, h_1, hm, q⟩:=h
  have hu:=hu8 hr
  have hu1:=YD hr
  refine ⟨_, (Xd (Xw (i:=2) FZ.nd rfl (Or.inl rfl) (Xt Ys (Xt Dl (Xt Yn (Xt Yn (Xt Ys (pv 0) Xg) (Xt Zt Xg (pv 1))) Xg) Xg) Xg))
    (Xd (Xw (i:=3) FZ.nd rfl (Or.inl rfl) (Xt Ys (Xt Yn (Xt Yn (Xt Zt (pv 2) Xg) (Xt Zt (Xt Zt Xg (pv 1)) (pv 1))) Xg) Xg))
    (Xd (XE (Xt V5 (pv 3) Xg))
    Xh))), ?_⟩
  refine YM (S:=(SC.add (SC.add SC.nil K Xa v_0 a_0) K Xa v_1 a_1)) (σ:=[some v_0, some v_1, none, none]) 0 ?_ (SC.i (SC.i SC.t h_0) h_1) hm q rfl
  unfold Ks
  exact (XS (K:=K) (r:=Xa) 2 (EvB.sh (XY (U3 (XV (XV (XY (Xb (r:=Xa) 0 rfl (fun _ s=>(SC.r (SC.l s)))) (Xe 2147483629)) (YT (Xe 1013) (Xb (r:=Xa) 1 rfl (fun _ s=>(SC.r s))))) (Xe 7919)) (Xe 3)) (Xe 2147483647))) fun a1 v2=>(XS (K:=K) (r:=Xa) 3 (EvB.sh (XY (XV (XV (YT (Xb (r:=Xa) 2 rfl (fun _ s=>(SC.r s))) (Xe 40699)) (YT (YT (Xe 3793) (Xb (r:=Xa) 1 rfl (fun _ s=>(SC.r (SC.l s))))) (Xb (r:=Xa) 1 rfl (fun _ s=>(SC.r (SC.l s)))))) (Xe 11)) (Xe 2147483399))) fun a15 v16=>(XD (EvS.ev (EvB.sh (U0 (Xb (r:=Xa) 3 rfl (fun _ s=>(SC.r s))) (Xe 101)))))))
theorem Jw : FnScope ["_law_script", "_law_place", "_law_sizes", "_law_cell_here", "_law_left", "_law_some", "_law_k", "_law_other"] ["_law_script", "_law_place", "_law_sizes"] (Xk B3):=⟨rfl, rfl, rfl, by decide +kernel, rfl, by decide +kernel, by decide +kernel⟩
set_option maxHeartbeats 4000000 in
theorem Hu (D : Def K mg "_law_row" B3 ["_law_script", "_law_place", "_law_sizes"]) (g_cell : Fn P w K mg base 1 "_law_cell" ["_law_script", "_law_place"] (sp2 (rL Xa) Xa (oF Xa) JF K)) (g_mix : Fn P w K mg base 1 "_law_mix" ["_law_cell_here", "_law_k"] (sp2 Xa Xa (oF Xa) Ks K)) (Z : Blt mg) : Fn P w K mg base 2 "_law_row" ["_law_script", "_law_place", "_law_sizes"] (sp3 (rL Xa) Xa (rV Xa) (oL (oF Xa)) Jd K):=by
  refine YG D Jw (fun vs H Q E h=>?_) (fun f cdv A outer s H vs Q E hr h=>?_)
  . obtain ⟨v_0, v_1, v_2, a_0, a_1, a_2, b, rfl, _⟩:=h; rfl
  obtain ⟨v_0, v_1, v_2, a_0, a_1, a_2, b, rfl, h_0, h_1, h_2, hm, q⟩:=h
  have hu:=hu8 hr
  have hu1:=YD hr
  refine ⟨_, (Xd (Xw (i:=3) Jw.nd rfl (Or.inl rfl) (X2 g_cell hr (by decide) (Xc (pv 0) (Xc (pv 1) Xf))))
    (Xd (Xw (i:=4) Jw.nd rfl (Or.inl rfl) (pv 3))
    (Xd (Xw (i:=5) Jw.nd rfl (Or.inl rfl) (XQ Xf))
    (Xd (Ya PassesOwn.never rfl (XJ rfl Z.b_range (Xc (Xn (Xi K rfl) rfl Z.b_len PySem.boot_len (Xc (pv 2) Xf)) Xf)) (Xz (i:=6) Jw.nd rfl (Or.inl rfl))
      (Xd (X8 (Xp Z5 (pv 3) (Xt Dl Xg Xg) (Xs _))
        (Xd (YH (QJ PySem.F.plainAttrs_list PySem.F.slot_list_append PySem.F.type_list_append Ye (pv 5) (Xc (Xt Ys (X2 g_mix hr (by decide) (Xc (pv 3) (Xc (pv 6) Xf))) (XH (Xl K rfl) (pv 2) (pv 6) (fun _ _=>rfl))) Xf)))
        Xh)
        (Xd (X8 (Xp J9 (pv 4) Xg (Xs _))
          (Xd (YH (QJ PySem.F.plainAttrs_list PySem.F.slot_list_append PySem.F.type_list_append Ye (pv 5) (Xc (Xt Ys (pv 4) (XH (Xl K rfl) (pv 2) (pv 6) (fun _ _=>rfl))) Xf)))
          (Xd (Xw (i:=4) Jw.nd rfl (Or.inl rfl) (Xt V5 (pv 4) (XH (Xl K rfl) (pv 2) (pv 6) (fun _ _=>rfl))))
          Xh))
          (Xd (Xw (i:=7) Jw.nd rfl (Or.inl rfl) (X2 g_cell hr (by decide) (Xc (pv 0) (Xc (Xt Ys (Xt Yn (Xt Yn (pv 1) Xg) (pv 6)) Xg) Xf))))
          (Xd (YH (QJ PySem.F.plainAttrs_list PySem.F.slot_list_append PySem.F.type_list_append Ye (pv 5) (Xc (Xt Ys (X2 g_mix hr (by decide) (Xc (pv 7) (Xc (pv 6) Xf))) (XH (Xl K rfl) (pv 2) (pv 6) (fun _ _=>rfl))) Xf)))
          Xh)))
        Xh))
      Xh))
    (Xd (XE (pv 5))
    Xh))))), ?_⟩
  refine YM (S:=(SC.add (SC.add (SC.add SC.nil K (rL Xa) v_0 a_0) K Xa v_1 a_1) K (rV Xa) v_2 a_2)) (σ:=[some v_0, some v_1, some v_2, none, none, none, none, none]) 1 ?_ (SC.i (SC.i (SC.i SC.t h_0) h_1) h_2) hm q rfl
  unfold Jd
  exact (XS (K:=K) (r:=Xa) 3 (EvB.sh (Ev.toB (XN (Xb (r:=(rL Xa)) 0 rfl (fun _ s=>(SC.r (SC.l (SC.l s))))) (Xb (r:=Xa) 1 rfl (fun _ s=>(SC.r (SC.l s))))))) fun a1 v2=>(XS (K:=K) (r:=Xa) 4 (Xr (r:=Xa) 3 rfl (fun _ s=>(SC.r s))) fun a6 v7=>(XR (K:=K) (o:=(oL (oF Xa))) 5 0 (ZR (o:=(oF Xa))) (Nat.le_of_ble_eq_true rfl) fun a8 v9 C10=>(YR (K:=K) (J:=({ oo:=fun x13=>[x13.2.2.2.2], ss:=fun x13=>[some v_0, some v_1, some v_2, some v2, some x13.2.2.1, some x13.2.1, x13.1, x13.2.2.2.1], sc:=fun g14 x13=>(SC.add (SC.addO (SC.add (SC.add (SC.add (SC.add SC.nil K (rL Xa) v_0 a_0) K Xa v_1 a_1) K (rV Xa) v_2 a_2) K Xa v2 a1) K (oL (oF Xa)) x13.2.1 g14.1 x13.2.2.2.2) K Xa x13.2.2.1 g14.2) } : Jn ((List Int) × Int) (Option V × V × V × Option V × List XA))) (fun _=>tg1 6) ((none), v9, v7, (none), C10) (a8, a6) (XB (XI (Xb (r:=(rV Xa)) 2 rfl (fun _ s=>(SC.r (SC.l (SC.l (SC.l s)))))))) rfl rfl (fun _ s=>(SC.i (SC.i (SC.i (SC.i (SC.i (SC.i SC.t (SC.r (SC.l (SC.l (SC.l (SC.l (SC.l s))))))) (SC.r (SC.l (SC.l (SC.l (SC.l s)))))) (SC.r (SC.l (SC.l (SC.l s))))) (SC.r (SC.l (SC.l s)))) (SC.r s)) (SC.r (SC.l s)))) (fun g15 x16 a17 v18=>(Yf (J:=({ oo:=fun x24=>[x24.2.2.2], ss:=fun x24=>[some v_0, some v_1, some v_2, some v2, some x24.2.1, some x24.1, some v18, x24.2.2.1], sc:=fun g25 x24=>(SC.add (SC.addO (SC.add (SC.add (SC.add (SC.add (SC.add SC.nil K (rL Xa) v_0 a_0) K Xa v_1 a_1) K (rV Xa) v_2 a_2) K Xa v2 a1) K Xa v18 a17) K (oL (oF Xa)) x24.1 g25.1 x24.2.2.2) K Xa x24.2.1 g25.2) } : Jn ((List Int) × Int) (V × V × Option V × List XA))) (YS (Fd:=FNd ({ oo:=fun x24=>[x24.2.2.2], ss:=fun x24=>[some v_0, some v_1, some v_2, some v2, some x24.2.1, some x24.1, some v18, x24.2.2.1], sc:=fun g25 x24=>(SC.add (SC.addO (SC.add (SC.add (SC.add (SC.add (SC.add SC.nil K (rL Xa) v_0 a_0) K Xa v_1 a_1) K (rV Xa) v_2 a_2) K Xa v2 a1) K Xa v18 a17) K (oL (oF Xa)) x24.1 g25.1 x24.2.2.2) K Xa x24.2.1 g25.2) } : Jn ((List Int) × Int) (V × V × Option V × List XA))) (Xj (K:=K) (Zp (Xb (r:=Xa) 3 rfl (fun _ s=>(SC.r (SC.l (SC.l (SC.l s)))))) (U3 (Xe 10) (Xe 18)))) (ZO (K:=K) (o:=(oF Xa)) (f:=fun a35=>(Res.ok (a35, g15.2))) 5 0 rfl rfl rfl (fun _ s=>(SC.r (SC.l (SC.l s)))) (EvS.ev (EvB.sh (XY (Ev.toB (XN (Xb (r:=Xa) 3 rfl (fun _ s=>(SC.r (SC.l (SC.l (SC.l s)))))) (Xb (r:=Xa) 6 rfl (fun _ s=>(SC.r s))))) (Xy (Xb (r:=(rV Xa)) 2 rfl (fun _ s=>(SC.r (SC.l (SC.l (SC.l (SC.l s))))))) (Xb (r:=Xa) 6 rfl (fun _ s=>(SC.r s))))))) fun a33 C34=>(Xq (J:=_) (x16.2.1, x16.2.2.1, (x16.2.2.2.1), C34) ((g15.1 ++ [a33]), g15.2) rfl rfl (fun _ s=>(SC.i (SC.i (SC.i (SC.i (SC.i (SC.i (SC.i SC.t (SC.r (SC.l (SC.l (SC.l (SC.l (SC.l (SC.l (SC.l s))))))))) (SC.r (SC.l (SC.l (SC.l (SC.l (SC.l (SC.l s)))))))) (SC.r (SC.l (SC.l (SC.l (SC.l (SC.l s))))))) (SC.r (SC.l (SC.l (SC.l (SC.l s)))))) (SC.r (SC.l s))) (SC.r s)) (SC.r (SC.l (SC.l s))))))) (Yf (J:=({ oo:=fun x39=>[x39.2.2.2], ss:=fun x39=>[some v_0, some v_1, some v_2, some v2, some x39.1, some x39.2.2.1, some v18, x39.2.1], sc:=fun g40 x39=>(SC.addO (SC.add (SC.add (SC.add (SC.add (SC.add (SC.add SC.nil K (rL Xa) v_0 a_0) K Xa v_1 a_1) K (rV Xa) v_2 a_2) K Xa v2 a1) K Xa v18 a17) K Xa x39.1 g40.1) K (oL (oF Xa)) x39.2.2.1 g40.2 x39.2.2.2) } : Jn (Int × (List Int)) (V × Option V × V × List XA))) (YS (Fd:=FNd ({ oo:=fun x39=>[x39.2.2.2], ss:=fun x39=>[some v_0, some v_1, some v_2, some v2, some x39.1, some x39.2.2.1, some v18, x39.2.1], sc:=fun g40 x39=>(SC.addO (SC.add (SC.add (SC.add (SC.add (SC.add (SC.add SC.nil K (rL Xa) v_0 a_0) K Xa v_1 a_1) K (rV Xa) v_2 a_2) K Xa v2 a1) K Xa v18 a17) K Xa x39.1 g40.1) K (oL (oF Xa)) x39.2.2.1 g40.2 x39.2.2.2) } : Jn (Int × (List Int)) (V × Option V × V × List XA))) (Xj (K:=K) (Qh (Xb (r:=Xa) 4 rfl (fun _ s=>(SC.r (SC.l s)))) (Xe 0))) (ZO (K:=K) (o:=(oF Xa)) (f:=fun a47=>(Res.bind (Res.bind (Res.ok g15.2) fun x52=>(Res.bind (Res.bind (Res.ok a_2) fun x50=>(Res.bind (Res.ok a17) fun x51=>(atR x50 x51))) fun x53=>(Hb x52 x53))) fun a48=>(Res.ok (a48, a47)))) 5 0 rfl rfl rfl (fun _ s=>(SC.r (SC.l (SC.l s)))) (EvS.ev (EvB.sh (XY (Xb (r:=Xa) 4 rfl (fun _ s=>(SC.r (SC.l s)))) (Xy (Xb (r:=(rV Xa)) 2 rfl (fun _ s=>(SC.r (SC.l (SC.l (SC.l (SC.l s))))))) (Xb (r:=Xa) 6 rfl (fun _ s=>(SC.r s))))))) fun a45 C46=>(XS (K:=K) (r:=Xa) 4 (EvB.sh (U0 (Xb (r:=Xa) 4 rfl (fun _ s=>(SC.r (SC.l (SC.l s))))) (Xy (Xb (r:=(rV Xa)) 2 rfl (fun _ s=>(SC.r (SC.l (SC.l (SC.l (SC.l (SC.l s)))))))) (Xb (r:=Xa) 6 rfl (fun _ s=>(SC.r (SC.l s))))))) fun a48 v49=>(Xq (J:=_) (v49, (x16.2.2.2.1), x16.2.1, C46) (a48, (g15.1 ++ [a45])) rfl rfl (fun _ s=>(SC.i (SC.i (SC.i (SC.i (SC.i (SC.i (SC.i SC.t (SC.r (SC.l (SC.l (SC.l (SC.l (SC.l (SC.l (SC.l (SC.l s)))))))))) (SC.r (SC.l (SC.l (SC.l (SC.l (SC.l (SC.l (SC.l s))))))))) (SC.r (SC.l (SC.l (SC.l (SC.l (SC.l (SC.l s)))))))) (SC.r (SC.l (SC.l (SC.l (SC.l (SC.l s))))))) (SC.r (SC.l (SC.l s)))) (SC.r s)) (SC.r (SC.l s))))))) (XS (K:=K) (r:=Xa) 7 (EvB.sh (Ev.toB (XN (Xb (r:=(rL Xa)) 0 rfl (fun _ s=>(SC.r (SC.l (SC.l (SC.l (SC.l (SC.l (SC.l s))))))))) (XY (XV (XV (Xb (r:=Xa) 1 rfl (fun _ s=>(SC.r (SC.l (SC.l (SC.l (SC.l (SC.l s)))))))) (Xe 1)) (Xb (r:=Xa) 6 rfl (fun _ s=>(SC.r s)))) (Xe 63))))) fun a54 v55=>(ZO (K:=K) (o:=(oF Xa)) (f:=fun a74=>(Res.ok (g15.2, a74))) 5 0 rfl rfl rfl (fun _ s=>(SC.r (SC.l (SC.l (SC.l s))))) (EvS.ev (EvB.sh (XY (Ev.toB (XN (Xb (r:=Xa) 7 rfl (fun _ s=>(SC.r s))) (Xb (r:=Xa) 6 rfl (fun _ s=>(SC.r (SC.l s)))))) (Xy (Xb (r:=(rV Xa)) 2 rfl (fun _ s=>(SC.r (SC.l (SC.l (SC.l (SC.l (SC.l s)))))))) (Xb (r:=Xa) 6 rfl (fun _ s=>(SC.r (SC.l s)))))))) fun a72 C73=>(Xq (J:=_) (x16.2.2.1, (some v55), x16.2.1, C73) (g15.2, (g15.1 ++ [a72])) rfl rfl (fun _ s=>(SC.i (SC.i (SC.i (SC.i (SC.i (SC.i (SC.i SC.t (SC.r (SC.l (SC.l (SC.l (SC.l (SC.l (SC.l (SC.l (SC.l s)))))))))) (SC.r (SC.l (SC.l (SC.l (SC.l (SC.l (SC.l (SC.l s))))))))) (SC.r (SC.l (SC.l (SC.l (SC.l (SC.l (SC.l s)))))))) (SC.r (SC.l (SC.l (SC.l (SC.l (SC.l s))))))) (SC.r (SC.l (SC.l s)))) (SC.r (SC.l (SC.l (SC.l s))))) (SC.r s))))))) fun g76 x75=>(Xq (J:=_) (x75.2.2.1, x75.1, (x75.2.1), x75.2.2.2) (g76.2, g76.1) rfl rfl (fun _ s=>(SC.i (SC.i (SC.i (SC.i (SC.i (SC.i (SC.i SC.t (SC.r (SC.l (SC.l (SC.l (SC.l (SC.l (SC.l s)))))))) (SC.r (SC.l (SC.l (SC.l (SC.l (SC.l s))))))) (SC.r (SC.l (SC.l (SC.l (SC.l s)))))) (SC.r (SC.l (SC.l (SC.l s))))) (SC.r (SC.l (SC.l s)))) (SC.r s)) (SC.r (SC.l s))))))) fun g78 x77=>(Xq (J:=_) ((some v18), x77.1, x77.2.1, (x77.2.2.1), x77.2.2.2) (g78.1, g78.2) rfl rfl (fun _ s=>(SC.i (SC.i (SC.i (SC.i (SC.i (SC.i SC.t (SC.r (SC.l (SC.l (SC.l (SC.l (SC.l (SC.l s)))))))) (SC.r (SC.l (SC.l (SC.l (SC.l (SC.l s))))))) (SC.r (SC.l (SC.l (SC.l (SC.l s)))))) (SC.r (SC.l (SC.l (SC.l s))))) (SC.r (SC.l s))) (SC.r s)))))) fun g79 x80=>(XD (X3 (o:=(oL (oF Xa))) 5 0 rfl rfl (fun _ s=>(SC.r (SC.l s)))))))))
theorem Vl : FnScope ["_law_way", "_law_size", "_law_factor", "_law_a", "_law_b", "_law_half"] ["_law_way", "_law_size", "_law_factor", "_law_a", "_law_b"] (Xk Jv):=⟨rfl, rfl, rfl, by decide +kernel, rfl, by decide +kernel, by decide +kernel⟩
set_option maxHeartbeats 4000000 in
theorem GB (D : Def K mg "_law_cell_of" Jv ["_law_way", "_law_size", "_law_factor", "_law_a", "_law_b"])  (Z : Blt mg) : Fn P w K mg base 1 "_law_cell_of" ["_law_way", "_law_size", "_law_factor", "_law_a", "_law_b"] (sp5 Xa Xa Xa Xa Xa (oF Xa) Zi K):=by
  refine YG D Vl (fun vs H Q E h=>?_) (fun f cdv A outer s H vs Q E hr h=>?_)
  . obtain ⟨v_0, v_1, v_2, v_3, v_4, a_0, a_1, a_2, a_3, a_4, b, rfl, _⟩:=h; rfl
  obtain ⟨v_0, v_1, v_2, v_3, v_4, a_0, a_1, a_2, a_3, a_4, b, rfl, h_0, h_1, h_2, h_3, h_4, hm, q⟩:=h
  have hu:=hu8 hr
  have hu1:=YD hr
  refine ⟨_, (Xd (Xw (i:=5) Vl.nd rfl (Or.inl rfl) (Xt V5 (pv 1) Xg))
    (Xd (X8 (Xp Y8 (pv 0) Xg (Xs _))
      (Xd (XE (Xt Ys (Xt YI (Xt Zt Xg (pv 4)) (pv 3)) (pv 1)))
      Xh)
      Xh)
    (Xd (X8 (Xp Y8 (pv 0) Xg (Xs _))
      (Xd (XE (Xt Ys (Xt Yn (Xt Zt (pv 2) (pv 3)) (Xt Zt (Xt YI Xg (pv 2)) (pv 4))) (pv 1)))
      Xh)
      Xh)
    (Xd (X8 (PW.pt (Y4 (Xp Y8 (pv 0) Xg (Xs _)) (Y4 (Xp J9 (pv 1) Xg (Xs _)) (Y4 (Xp Z5 (pv 3) Xg (Xs _)) (Zy (Xp Y8 (pv 4) (Xt YI (pv 1) Xg) (Xs _)))))))
      (Xd (XE (Xt YI Xg (pv 3)))
      Xh)
      Xh)
    (Xd (X8 (PW.pt (Y4 (Xp Y8 (pv 0) Xg (Xs _)) (Y4 (Xp Z5 (pv 3) (Xt YI (pv 1) Xg) (Xs _)) (Zy (Xp Y8 (pv 4) (Xt YI (pv 1) Xg) (Xs _))))))
      (Xd (XE (Xt Ys (Xt Yn (pv 3) Xg) (Xt YI (pv 1) Xg)))
      Xh)
      Xh)
    (Xd (X8 (PW.pt (Y4 (Xp Y8 (pv 0) Xg (Xs _)) (Y4 (Xp Z5 (pv 3) (pv 5) (Xs _)) (Zy (Xp Z5 (pv 4) (pv 5) (Xs _))))))
      (Xd (XE (Xt Ys (Xt YI (Xt Zt Xg (pv 4)) (pv 3)) (pv 5)))
      Xh)
      Xh)
    (Xd (X8 (PW.pt (Y4 (Xp Y8 (pv 0) Xg (Xs _)) (Y4 (Xp Bm (pv 3) (pv 5) (Xs _)) (Zy (Xp Bm (pv 4) (pv 5) (Xs _))))))
      (Xd (XE (Xt Yn (pv 5) (Xt Ys (Xt YI (Xt YI (Xt Zt Xg (pv 4)) (pv 3)) (pv 5)) (Xt YI (pv 1) (pv 5)))))
      Xh)
      Xh)
    (Xd (XE (pv 3))
    Xh)))))))), ?_⟩
  refine YM (S:=(SC.add (SC.add (SC.add (SC.add (SC.add SC.nil K Xa v_0 a_0) K Xa v_1 a_1) K Xa v_2 a_2) K Xa v_3 a_3) K Xa v_4 a_4)) (σ:=[some v_0, some v_1, some v_2, some v_3, some v_4, none]) 0 ?_ (SC.i (SC.i (SC.i (SC.i (SC.i SC.t h_0) h_1) h_2) h_3) h_4) hm q rfl
  unfold Zi
  exact (XS (K:=K) (r:=Xa) 5 (EvB.sh (U0 (Xb (r:=Xa) 1 rfl (fun _ s=>(SC.r (SC.l (SC.l (SC.l s)))))) (Xe 2))) fun a1 v2=>(YQ (Xj (K:=K) (Yh (Xb (r:=Xa) 0 rfl (fun _ s=>(SC.r (SC.l (SC.l (SC.l (SC.l (SC.l s)))))))) (Xe 1))) (XD (EvS.ev (EvB.sh (XY (Yd (YT (Xe 2) (Xb (r:=Xa) 4 rfl (fun _ s=>(SC.r (SC.l s))))) (Xb (r:=Xa) 3 rfl (fun _ s=>(SC.r (SC.l (SC.l s)))))) (Xb (r:=Xa) 1 rfl (fun _ s=>(SC.r (SC.l (SC.l (SC.l (SC.l s))))))))))) (YQ (Xj (K:=K) (Yh (Xb (r:=Xa) 0 rfl (fun _ s=>(SC.r (SC.l (SC.l (SC.l (SC.l (SC.l s)))))))) (Xe 2))) (XD (EvS.ev (EvB.sh (XY (XV (YT (Xb (r:=Xa) 2 rfl (fun _ s=>(SC.r (SC.l (SC.l (SC.l s)))))) (Xb (r:=Xa) 3 rfl (fun _ s=>(SC.r (SC.l (SC.l s)))))) (YT (Yd (Xe 1) (Xb (r:=Xa) 2 rfl (fun _ s=>(SC.r (SC.l (SC.l (SC.l s))))))) (Xb (r:=Xa) 4 rfl (fun _ s=>(SC.r (SC.l s)))))) (Xb (r:=Xa) 1 rfl (fun _ s=>(SC.r (SC.l (SC.l (SC.l (SC.l s))))))))))) (YQ (Yq (Xj (K:=K) (Yh (Xb (r:=Xa) 0 rfl (fun _ s=>(SC.r (SC.l (SC.l (SC.l (SC.l (SC.l s)))))))) (Xe 3))) (Yq (Xj (K:=K) (Qh (Xb (r:=Xa) 1 rfl (fun _ s=>(SC.r (SC.l (SC.l (SC.l (SC.l s))))))) (Xe 2))) (Yq (Xj (K:=K) (Zp (Xb (r:=Xa) 3 rfl (fun _ s=>(SC.r (SC.l (SC.l s))))) (Xe 2))) (Xj (K:=K) (Yh (Xb (r:=Xa) 4 rfl (fun _ s=>(SC.r (SC.l s)))) (Yd (Xb (r:=Xa) 1 rfl (fun _ s=>(SC.r (SC.l (SC.l (SC.l (SC.l s))))))) (Xe 1))))))) (XD (EvS.ev (EvB.sh (Yd (Xe 1) (Xb (r:=Xa) 3 rfl (fun _ s=>(SC.r (SC.l (SC.l s))))))))) (YQ (Yq (Xj (K:=K) (Yh (Xb (r:=Xa) 0 rfl (fun _ s=>(SC.r (SC.l (SC.l (SC.l (SC.l (SC.l s)))))))) (Xe 6))) (Yq (Xj (K:=K) (Zp (Xb (r:=Xa) 3 rfl (fun _ s=>(SC.r (SC.l (SC.l s))))) (Yd (Xb (r:=Xa) 1 rfl (fun _ s=>(SC.r (SC.l (SC.l (SC.l (SC.l s))))))) (Xe 1)))) (Xj (K:=K) (Yh (Xb (r:=Xa) 4 rfl (fun _ s=>(SC.r (SC.l s)))) (Yd (Xb (r:=Xa) 1 rfl (fun _ s=>(SC.r (SC.l (SC.l (SC.l (SC.l s))))))) (Xe 1)))))) (XD (EvS.ev (EvB.sh (XY (XV (Xb (r:=Xa) 3 rfl (fun _ s=>(SC.r (SC.l (SC.l s))))) (Xe 1)) (Yd (Xb (r:=Xa) 1 rfl (fun _ s=>(SC.r (SC.l (SC.l (SC.l (SC.l s))))))) (Xe 1)))))) (YQ (Yq (Xj (K:=K) (Yh (Xb (r:=Xa) 0 rfl (fun _ s=>(SC.r (SC.l (SC.l (SC.l (SC.l (SC.l s)))))))) (Xe 4))) (Yq (Xj (K:=K) (Zp (Xb (r:=Xa) 3 rfl (fun _ s=>(SC.r (SC.l (SC.l s))))) (Xb (r:=Xa) 5 rfl (fun _ s=>(SC.r s))))) (Xj (K:=K) (Zp (Xb (r:=Xa) 4 rfl (fun _ s=>(SC.r (SC.l s)))) (Xb (r:=Xa) 5 rfl (fun _ s=>(SC.r s))))))) (XD (EvS.ev (EvB.sh (XY (Yd (YT (Xe 2) (Xb (r:=Xa) 4 rfl (fun _ s=>(SC.r (SC.l s))))) (Xb (r:=Xa) 3 rfl (fun _ s=>(SC.r (SC.l (SC.l s)))))) (Xb (r:=Xa) 5 rfl (fun _ s=>(SC.r s))))))) (YQ (Yq (Xj (K:=K) (Yh (Xb (r:=Xa) 0 rfl (fun _ s=>(SC.r (SC.l (SC.l (SC.l (SC.l (SC.l s)))))))) (Xe 4))) (Yq (Xj (K:=K) (KZ (Xb (r:=Xa) 3 rfl (fun _ s=>(SC.r (SC.l (SC.l s))))) (Xb (r:=Xa) 5 rfl (fun _ s=>(SC.r s))))) (Xj (K:=K) (KZ (Xb (r:=Xa) 4 rfl (fun _ s=>(SC.r (SC.l s)))) (Xb (r:=Xa) 5 rfl (fun _ s=>(SC.r s))))))) (XD (EvS.ev (EvB.sh (XV (Xb (r:=Xa) 5 rfl (fun _ s=>(SC.r s))) (XY (Yd (Yd (YT (Xe 2) (Xb (r:=Xa) 4 rfl (fun _ s=>(SC.r (SC.l s))))) (Xb (r:=Xa) 3 rfl (fun _ s=>(SC.r (SC.l (SC.l s)))))) (Xb (r:=Xa) 5 rfl (fun _ s=>(SC.r s)))) (Yd (Xb (r:=Xa) 1 rfl (fun _ s=>(SC.r (SC.l (SC.l (SC.l (SC.l s))))))) (Xb (r:=Xa) 5 rfl (fun _ s=>(SC.r s))))))))) (XD (EvS.ev (Xr (r:=Xa) 3 rfl (fun _ s=>(SC.r (SC.l (SC.l s))))))))))))))
theorem JV : FnScope ["_law_one", "_law_other"] ["_law_one", "_law_other"] (Xk VO):=⟨rfl, rfl, rfl, by decide +kernel, rfl, by decide +kernel, by decide +kernel⟩
set_option maxHeartbeats 4000000 in
theorem GY (D : Def K mg "_law_common" VO ["_law_one", "_law_other"])  (Z : Blt mg) : Fn P w K mg base 1 "_law_common" ["_law_one", "_law_other"] (sp2 Xa Xa (oF Xa) Z7 K):=by
  refine YG D JV (fun vs H Q E h=>?_) (fun f cdv A outer s H vs Q E hr h=>?_)
  . obtain ⟨v_0, v_1, a_0, a_1, b, rfl, _⟩:=h; rfl
  obtain ⟨v_0, v_1, a_0, a_1, b, rfl, h_0, h_1, hm, q⟩:=h
  have hu:=hu8 hr
  have hu1:=YD hr
  refine ⟨_, (Xd (BD (i:=0) (j:=1) rfl JV.nd rfl rfl (by decide) rfl rfl (Xc (Xn KE rfl Z.b_abs PyProof.Rows.boot_abs (Xc (pv 0) Xf)) (Xc (Xn KE rfl Z.b_abs PyProof.Rows.boot_abs (Xc (pv 1) Xf)) Xf)) rfl)
    (Xd (Ge PassesOwn.never (Xp J9 (pv 1) Xg (Xs _))
      (Xd (BD (i:=0) (j:=1) rfl JV.nd rfl rfl (by decide) rfl rfl (Xc (pv 1) (Xc (Xt Ys (pv 0) (pv 1)) Xf)) rfl)
      Xh))
    (Xd (XE (pv 0))
    Xh))), ?_⟩
  refine YM (S:=(SC.add (SC.add SC.nil K Xa v_0 a_0) K Xa v_1 a_1)) (σ:=[some v_0, some v_1]) 0 ?_ (SC.i (SC.i SC.t h_0) h_1) hm q rfl
  unfold Z7
  exact (BA (K:=K) 0 1 (EvB.sh (DV (Xb (r:=Xa) 0 rfl (fun _ s=>(SC.r (SC.l s)))))) (EvB.sh (DV (Xb (r:=Xa) 1 rfl (fun _ s=>(SC.r s))))) fun a3 a4 v5 v6=>(K6 (J:=({ oo:=fun x7=>[], ss:=fun x7=>[some x7.1, some x7.2], sc:=fun g8 x7=>(SC.add (SC.add SC.nil K Xa x7.1 g8.1) K Xa x7.2 g8.2) } : Jn (Int × Int) (V × V))) (a3.natAbs + a4.natAbs + 2) (v5, v6) (a3, a4) rfl rfl (fun _ s=>(SC.i (SC.i SC.t (SC.r (SC.l s))) (SC.r s))) (fun g9 x10=>(Xj (K:=K) (Qh (Xb (r:=Xa) 1 rfl (fun _ s=>(SC.r s))) (Xe 0)))) (fun g9 x10=>(BA (K:=K) 0 1 (Xr (r:=Xa) 1 rfl (fun _ s=>(SC.r s))) (EvB.sh (XY (Xb (r:=Xa) 0 rfl (fun _ s=>(SC.r (SC.l s)))) (Xb (r:=Xa) 1 rfl (fun _ s=>(SC.r s))))) fun a15 a16 v17 v18=>(Xq (J:=_) (v17, v18) (a15, a16) rfl rfl (fun _ s=>(SC.i (SC.i SC.t (SC.r (SC.l s))) (SC.r s)))))) fun g19 x20=>(XD (EvS.ev (Xr (r:=Xa) 0 rfl (fun _ s=>(SC.r (SC.l s))))))))
theorem VL : FnScope ["_law_way", "_law_size", "_law_factor", "_law_some", "_law_a"] ["_law_way", "_law_size", "_law_factor"] (Xk Kw):=⟨rfl, rfl, rfl, by decide +kernel, rfl, by decide +kernel, by decide +kernel⟩
set_option maxHeartbeats 4000000 in
theorem EA (D : Def K mg "_law_made" Kw ["_law_way", "_law_size", "_law_factor"]) (g_common : Fn P w K mg base 1 "_law_common" ["_law_one", "_law_other"] (sp2 Xa Xa (oF Xa) Z7 K)) (g_cell_of : Fn P w K mg base 1 "_law_cell_of" ["_law_way", "_law_size", "_law_factor", "_law_a", "_law_b"] (sp5 Xa Xa Xa Xa Xa (oF Xa) Zi K)) (Z : Blt mg) : Fn P w K mg base 2 "_law_made" ["_law_way", "_law_size", "_law_factor"] (sp3 Xa Xa Xa (oL (oL (oF Xa))) Q7 K):=by
  refine YG D VL (fun vs H Q E h=>?_) (fun f cdv A outer s H vs Q E hr h=>?_)
  . obtain ⟨v_0, v_1, v_2, a_0, a_1, a_2, b, rfl, _⟩:=h; rfl
  obtain ⟨v_0, v_1, v_2, a_0, a_1, a_2, b, rfl, h_0, h_1, h_2, hm, q⟩:=h
  have hu:=hu8 hr
  have hu1:=YD hr
  refine ⟨_, (Xd (X8 (PW.pt (Y4 (Xp Y8 (pv 0) Xg (Xs _)) (Zy (Xp Y8 (pv 1) Xg (Xs _)))))
      (@Xd _ _ _ _ _ (@XE _ _ _ _ (@U7 _))
      Xh)
      Xh)
    (Xd (Ge PassesOwn.never (Xp Jc (X2 g_common hr (by decide) (Xc (pv 2) (Xc (pv 1) Xf))) Xg (Xs _))
      (Xd (Xw (i:=2) VL.nd rfl (Or.inr rfl) (Xt Yn (pv 2) Xg))
      Xh))
    (Xd (Xw (i:=3) VL.nd rfl (Or.inl rfl) (XQ Xf))
    (Xd (Ya PassesOwn.never rfl (XJ rfl Z.b_range (Xc (pv 1) Xf)) (Xz (i:=4) VL.nd rfl (Or.inr rfl))
      (Xd (YH (QJ PySem.F.plainAttrs_list PySem.F.slot_list_append PySem.F.type_list_append Ye (pv 3) (Xc (Zn (sc:=(Xk Kw)) (N0:=["_law_way", "_law_size", "_law_factor", "_law_some", "_law_a"]) (tns:=["_law_b"]) (caps:=[(0, "_law_way"), (1, "_law_size"), (2, "_law_factor"), (4, "_law_a")]) rfl (XJ rfl Z.b_range (Xc (pv 1) Xf)) (ZI (by decide)) (fun cl C s H ex E=>⟨Xz (i:=0) (show List.Nodup (["_law_b", "_law_way", "_law_size", "_law_factor", "_law_a"] : List Str) by decide +kernel) rfl (Or.inl rfl), Qn, (X2 g_cell_of hr (by decide) (Xc (pv 1) (Xc (pv 2) (Xc (pv 3) (Xc (pv 4) (Xc (pv 0) Xf))))))⟩)) Xf)))
      Xh))
    (Xd (XE (pv 3))
    Xh))))), ?_⟩
  refine YM (S:=(SC.add (SC.add (SC.add SC.nil K Xa v_0 a_0) K Xa v_1 a_1) K Xa v_2 a_2)) (σ:=[some v_0, some v_1, some v_2, none, none]) 1 ?_ (SC.i (SC.i (SC.i SC.t h_0) h_1) h_2) hm q rfl
  unfold Q7
  exact (YQ (Yq (Xj (K:=K) (Yh (Xb (r:=Xa) 0 rfl (fun _ s=>(SC.r (SC.l (SC.l s))))) (Xe 5))) (Xj (K:=K) (Yh (Xb (r:=Xa) 1 rfl (fun _ s=>(SC.r (SC.l s)))) (Xe 4)))) (XD (Jx (Y6 (YU (Xo (EvB.sh (Xe 0)) (Xo (EvB.sh (Xe 3)) (Xo (EvB.sh (Xe 1)) (Xo (EvB.sh (Xe 2)) X9))))) fun _=>(Y6 (YU (Xo (EvB.sh (Xe 2)) (Xo (EvB.sh (Xe 1)) (Xo (EvB.sh (Xe 3)) (Xo (EvB.sh (Xe 0)) X9))))) fun _=>(Y6 (YU (Xo (EvB.sh (Xe 3)) (Xo (EvB.sh (Xe 0)) (Xo (EvB.sh (Xe 2)) (Xo (EvB.sh (Xe 1)) X9))))) fun _=>(Y6 (YU (Xo (EvB.sh (Xe 1)) (Xo (EvB.sh (Xe 2)) (Xo (EvB.sh (Xe 0)) (Xo (EvB.sh (Xe 3)) X9))))) fun _=>QF)))))) (K6 (J:=({ oo:=fun x51=>[[]], ss:=fun x51=>[some v_0, some v_1, some x51, none, none], sc:=fun g52 x51=>(SC.add (SC.add (SC.add SC.nil K Xa v_0 a_0) K Xa v_1 a_1) K Xa x51 g52) } : Jn (Int) (V))) (a_1.natAbs + 2) (v_2) (a_2) rfl rfl (fun _ s=>(SC.i (SC.i (SC.i SC.t (SC.r (SC.l (SC.l s)))) (SC.r (SC.l s))) (SC.r s))) (fun g53 x54=>(Xj (K:=K) (ZP (Ev.toB (XN (Xb (r:=Xa) 2 rfl (fun _ s=>(SC.r s))) (Xb (r:=Xa) 1 rfl (fun _ s=>(SC.r (SC.l s)))))) (Xe 1)))) (fun g53 x54=>(XS (K:=K) (r:=Xa) 2 (EvB.sh (XV (Xb (r:=Xa) 2 rfl (fun _ s=>(SC.r s))) (Xe 1))) fun a60 v61=>(Xq (J:=_) (v61) (a60) rfl rfl (fun _ s=>(SC.i (SC.i (SC.i SC.t (SC.r (SC.l (SC.l (SC.l s))))) (SC.r (SC.l (SC.l s)))) (SC.r s)))))) fun g64 x65=>(XR (K:=K) (o:=(oL (oL (oF Xa)))) 3 0 (ZR (o:=(oL (oF Xa)))) (Nat.le_of_ble_eq_true rfl) fun a66 v67 C68=>(YR (K:=K) (J:=({ oo:=fun x70=>[x70.2.2], ss:=fun x70=>[some v_0, some v_1, some x65, some x70.2.1, x70.1], sc:=fun g71 x70=>(SC.addO (SC.add (SC.add (SC.add SC.nil K Xa v_0 a_0) K Xa v_1 a_1) K Xa x65 g64) K (oL (oL (oF Xa))) x70.2.1 g71 x70.2.2) } : Jn ((List (List Int))) (Option V × V × List XA))) (fun _=>tg1 4) ((none), v67, C68) (a66) (XB (Xb (r:=Xa) 1 rfl (fun _ s=>(SC.r (SC.l (SC.l s)))))) rfl rfl (fun _ s=>(SC.i (SC.i (SC.i (SC.i SC.t (SC.r (SC.l (SC.l (SC.l s))))) (SC.r (SC.l (SC.l s)))) (SC.r (SC.l s))) (SC.r s))) (fun g72 x73 a74 v75=>(ZO (K:=K) (o:=(oL (oF Xa))) (f:=fun a89=>(Res.ok (a89))) 3 0 rfl rfl rfl (fun _ s=>(SC.r (SC.l s))) (Qq (fun _=>tg1 0) (XB (Xb (r:=Xa) 1 rfl (fun _ s=>(SC.r (SC.l (SC.l (SC.l s))))))) (fun C77 a78 v79=>(Jm (Xb (r:=Xa) 1 rfl (fun _ s=>(SC.r (SC.l (SC.l (SC.l (SC.l (SC.l s)))))))) (Xb (r:=Xa) 2 rfl (fun _ s=>(SC.r (SC.l (SC.l (SC.l (SC.l s))))))) (Xb (r:=Xa) 3 rfl (fun _ s=>(SC.r (SC.l (SC.l (SC.l s)))))) (Xb (r:=Xa) 4 rfl (fun _ s=>(SC.r (SC.l s)))) (Xb (r:=Xa) 0 rfl (fun _ s=>(SC.r s)))))) fun a87 C88=>(Xq (J:=_) ((some v75), x73.2.1, C88) ((g72 ++ [a87])) rfl rfl (fun _ s=>(SC.i (SC.i (SC.i (SC.i SC.t (SC.r (SC.l (SC.l (SC.l (SC.l (SC.l s))))))) (SC.r (SC.l (SC.l (SC.l (SC.l s)))))) (SC.r (SC.l (SC.l (SC.l s))))) (SC.r s)))))) fun g90 x91=>(XD (X3 (o:=(oL (oL (oF Xa)))) 3 0 rfl rfl (fun _ s=>(SC.r s))))))))
theorem Qb : FnScope ["_law_some", "_law_count", "_law_left", "_law_found", "_law_k"] ["_law_some", "_law_count"] (Xk Jp):=⟨rfl, rfl, rfl, by decide +kernel, rfl, by decide +kernel, by decide +kernel⟩
set_option maxHeartbeats 4000000 in
theorem Gy (D : Def K mg "_law_ordered" Jp ["_law_some", "_law_count"])  (Z : Blt mg) : Fn P w K mg base 1 "_law_ordered" ["_law_some", "_law_count"] (sp2 (rV Xa) Xa (oL (oF Xa)) Y5 K):=by
  refine YG D Qb (fun vs H Q E h=>?_) (fun f cdv A outer s H vs Q E hr h=>?_)
  . obtain ⟨v_0, v_1, a_0, a_1, b, rfl, _⟩:=h; rfl
  obtain ⟨v_0, v_1, a_0, a_1, b, rfl, h_0, h_1, hm, q⟩:=h
  have hu:=hu8 hr
  have hu1:=YD hr
  refine ⟨_, (Xd (Xw (i:=2) Qb.nd rfl (Or.inl rfl) (Uv rfl rfl rfl Z.b_list Z.b_range (Xc (pv 1) Xf)))
    (Xd (Xw (i:=3) Qb.nd rfl (Or.inl rfl) (XQ Xf))
    (Xd (Ya PassesOwn.never rfl (XJ rfl Z.b_range (Xc (pv 1) Xf)) (Xz (i:=4) Qb.nd rfl (Or.inl rfl))
      (Xd (YH (QJ PySem.F.plainAttrs_list PySem.F.slot_list_append PySem.F.type_list_append Ye (pv 3) (Xc (QJ PySem.F.plainAttrs_list PySem.F.slot_list_pop PySem.F.type_list_pop Cn (pv 2) (Xc (Xt Ys (XH (Xl K rfl) (pv 0) (pv 4) (fun _ _=>rfl)) (Xn (Xi K rfl) rfl Z.b_len PySem.boot_len (Xc (pv 2) Xf))) Xf)) Xf)))
      Xh))
    (Xd (XE (pv 3))
    Xh)))), ?_⟩
  refine YM (S:=(SC.add (SC.add SC.nil K (rV Xa) v_0 a_0) K Xa v_1 a_1)) (σ:=[some v_0, some v_1, none, none, none]) 2 ?_ (SC.i (SC.i SC.t h_0) h_1) hm q rfl
  unfold Y5
  exact (XR (K:=K) (o:=(oL (oF Xa))) 2 1 (UF (Xb (r:=Xa) 1 rfl (fun _ s=>(SC.r s)))) (Nat.le_of_ble_eq_true rfl) fun a1 v2 C3=>(XR (K:=K) (o:=(oL (oF Xa))) 3 0 (ZR (o:=(oF Xa))) (Nat.le_of_ble_eq_true rfl) fun a5 v6 C7=>(YR (K:=K) (J:=({ oo:=fun x9=>[x9.2.2.2.1, x9.2.2.2.2], ss:=fun x9=>[some v_0, some v_1, some x9.2.2.1, some x9.2.1, x9.1], sc:=fun g10 x9=>(SC.addO (SC.addO (SC.add (SC.add SC.nil K (rV Xa) v_0 a_0) K Xa v_1 a_1) K (oL (oF Xa)) x9.2.1 g10.1 x9.2.2.2.1) K (oL (oF Xa)) x9.2.2.1 g10.2 x9.2.2.2.2) } : Jn ((List Int) × (List Int)) (Option V × V × V × List XA × List XA))) (fun _=>tg1 4) ((none), v6, v2, C7, C3) (a5, a1) (XB (Xb (r:=Xa) 1 rfl (fun _ s=>(SC.r (SC.l (SC.l s)))))) rfl rfl (fun _ s=>(SC.i (SC.i (SC.i (SC.i SC.t (SC.r (SC.l (SC.l (SC.l s))))) (SC.r (SC.l (SC.l s)))) (SC.r s)) (SC.r (SC.l s)))) (fun g11 x12 a13 v14=>(CN (K:=K) (r:=Xa) (f:=fun a21 a22=>(Res.ok (a22, a21))) 2 1 3 0 (by decide) rfl rfl (fun _ s=>(SC.r (SC.l s))) rfl rfl (fun _ s=>(SC.r (SC.l (SC.l s)))) (XY (Xy (Xb (r:=(rV Xa)) 0 rfl (fun _ s=>(SC.r (SC.l (SC.l (SC.l (SC.l s))))))) (Xb (r:=Xa) 4 rfl (fun _ s=>(SC.r s)))) (XI (Yk (o:=(oL (oF Xa))) 2 1 rfl rfl (fun _ s=>(SC.r (SC.l s)))))) fun a20 a21 C23 C24=>(Xq (J:=_) ((some v14), x12.2.1, x12.2.2.1, C24, C23) ((g11.1 ++ [a20]), a21) rfl rfl (fun _ s=>(SC.i (SC.i (SC.i (SC.i SC.t (SC.r (SC.l (SC.l (SC.l (SC.l (SC.l (SC.l s)))))))) (SC.r (SC.l (SC.l (SC.l (SC.l (SC.l s))))))) (SC.r s)) (SC.r (SC.l s))))))) fun g27 x28=>(XD (X3 (o:=(oL (oF Xa))) 3 0 rfl rfl (fun _ s=>(SC.r (SC.l s))))))))
theorem Qz : FnScope ["_law_some", "_law_spots", "_law_found", "_law_a", "_law_b"] ["_law_some", "_law_spots"] (Xk Ji):=⟨rfl, rfl, rfl, by decide +kernel, rfl, by decide +kernel, by decide +kernel⟩
set_option maxHeartbeats 4000000 in
theorem GW (D : Def K mg "_law_relaid" Ji ["_law_some", "_law_spots"])  (Z : Blt mg) : Fn P w K mg base 1 "_law_relaid" ["_law_some", "_law_spots"] (sp2 (rV (rV Xa)) (rV Xa) (oL (oL (oF Xa))) Zv K):=by
  refine YG D Qz (fun vs H Q E h=>?_) (fun f cdv A outer s H vs Q E hr h=>?_)
  . obtain ⟨v_0, v_1, a_0, a_1, b, rfl, _⟩:=h; rfl
  obtain ⟨v_0, v_1, a_0, a_1, b, rfl, h_0, h_1, hm, q⟩:=h
  have hu:=hu8 hr
  have hu1:=YD hr
  refine ⟨_, (Xd (BN 2 (Xk Ji) ["_law_some", "_law_spots", "_law_found", "_law_a", "_law_b"] ["_law_line"] [] rfl Qz.nd rfl rfl (Ym (K:=K) rfl (pv 0)) (ZI (by decide)) (fun cl C s H ex E=>⟨Xz (i:=0) (show List.Nodup (["_law_line"] : List Str) by decide +kernel) rfl (Or.inl rfl), Qn, (Yu (Zc K rfl) rfl Z.b_list PyProof.Rows.boot_list (Xc (pv 0) Xf))⟩))
    (Xd (Ya PassesOwn.never rfl (XJ rfl Z.b_range (Xc (Xn (Xi K rfl) rfl Z.b_len PySem.boot_len (Xc (pv 0) Xf)) Xf)) (Xz (i:=3) Qz.nd rfl (Or.inl rfl))
      (Xd (Ya PassesOwn.never rfl (XJ rfl Z.b_range (Xc (Xn (Xi K rfl) rfl Z.b_len PySem.boot_len (Xc (pv 0) Xf)) Xf)) (Xz (i:=4) Qz.nd rfl (Or.inl rfl))
        (Xd (Qk (XH (Xl K rfl) (pv 1) (XH (Xl K rfl) (XH (Xl K rfl) (pv 0) (pv 3) (fun _ _=>rfl)) (pv 4) (fun _ _=>rfl)) (fun _ _=>rfl)) (Q0 (XH (Xl K rfl) (pv 2) (XH (Xl K rfl) (pv 1) (pv 3) (fun _ _=>rfl)) (fun _ _=>rfl)) (XH (Xl K rfl) (pv 1) (pv 4) (fun _ _=>rfl)) Zl))
        Xh))
      Xh))
    (Xd (XE (pv 2))
    Xh))), ?_⟩
  refine YM (S:=(SC.add (SC.add SC.nil K (rV (rV Xa)) v_0 a_0) K (rV Xa) v_1 a_1)) (σ:=[some v_0, some v_1, none, none, none]) 1 ?_ (SC.i (SC.i SC.t h_0) h_1) hm q rfl
  unfold Zv
  exact (XR (K:=K) (o:=(oL (oL (oF Xa)))) 2 0 (Qq (fun _=>tg1 0) (Yo (Xr (r:=(rV (rV Xa))) 0 rfl (fun _ s=>(SC.r (SC.l s))))) (fun C4 a5 v6=>(Vz (EvS.ls (Xr (r:=(rV Xa)) 0 rfl (fun _ s=>(SC.r s))))))) (Nat.le_of_ble_eq_true rfl) fun a1 v2 C3=>(YR (K:=K) (J:=({ oo:=fun x11=>[x11.2.2.2], ss:=fun x11=>[some v_0, some v_1, some x11.2.2.1, x11.1, x11.2.1], sc:=fun g12 x11=>(SC.addO (SC.add (SC.add SC.nil K (rV (rV Xa)) v_0 a_0) K (rV Xa) v_1 a_1) K (oL (oL (oF Xa))) x11.2.2.1 g12 x11.2.2.2) } : Jn ((List (List Int))) (Option V × Option V × V × List XA))) (fun _=>tg1 3) ((none), (none), v2, C3) (a1) (XB (XI (Xb (r:=(rV (rV Xa))) 0 rfl (fun _ s=>(SC.r (SC.l (SC.l s))))))) rfl rfl (fun _ s=>(SC.i (SC.i (SC.i SC.t (SC.r (SC.l (SC.l s)))) (SC.r (SC.l s))) (SC.r s))) (fun g13 x14 a15 v16=>(YR (K:=K) (J:=({ oo:=fun x19=>[x19.2.2], ss:=fun x19=>[some v_0, some v_1, some x19.2.1, some v16, x19.1], sc:=fun g20 x19=>(SC.addO (SC.add (SC.add (SC.add SC.nil K (rV (rV Xa)) v_0 a_0) K (rV Xa) v_1 a_1) K Xa v16 a15) K (oL (oL (oF Xa))) x19.2.1 g20 x19.2.2) } : Jn ((List (List Int))) (Option V × V × List XA))) (fun _=>tg1 4) ((x14.2.1), x14.2.2.1, x14.2.2.2) (g13) (XB (XI (Xb (r:=(rV (rV Xa))) 0 rfl (fun _ s=>(SC.r (SC.l (SC.l (SC.l s)))))))) rfl rfl (fun _ s=>(SC.i (SC.i (SC.i (SC.i SC.t (SC.r (SC.l (SC.l (SC.l s))))) (SC.r (SC.l (SC.l s)))) (SC.r s)) (SC.r (SC.l s)))) (fun g21 x22 a23 v24=>(DG (K:=K) (r:=Xa) 2 0 rfl rfl (fun _ s=>(SC.r (SC.l s))) (EvB.sh (Xy (Xb (r:=(rV Xa)) 1 rfl (fun _ s=>(SC.r (SC.l (SC.l (SC.l s)))))) (Xy (Xy (Xb (r:=(rV (rV Xa))) 0 rfl (fun _ s=>(SC.r (SC.l (SC.l (SC.l (SC.l s))))))) (Xb (r:=Xa) 3 rfl (fun _ s=>(SC.r (SC.l (SC.l s)))))) (Xb (r:=Xa) 4 rfl (fun _ s=>(SC.r s)))))) (Xy (Xb (r:=(rV Xa)) 1 rfl (fun _ s=>(SC.r (SC.l (SC.l (SC.l s)))))) (Xb (r:=Xa) 3 rfl (fun _ s=>(SC.r (SC.l (SC.l s)))))) (Xy (Xb (r:=(rV Xa)) 1 rfl (fun _ s=>(SC.r (SC.l (SC.l (SC.l s)))))) (Xb (r:=Xa) 4 rfl (fun _ s=>(SC.r s)))) fun a38 C39=>(Xq (J:=_) ((some v24), x22.2.1, C39) (a38) rfl rfl (fun _ s=>(SC.i (SC.i (SC.i (SC.i SC.t (SC.r (SC.l (SC.l (SC.l (SC.l (SC.l s))))))) (SC.r (SC.l (SC.l (SC.l (SC.l s)))))) (SC.r (SC.l (SC.l (SC.l s))))) (SC.r s)))))) fun g42 x43=>(Xq (J:=_) ((some v16), (x43.1), x43.2.1, x43.2.2) (g42) rfl rfl (fun _ s=>(SC.i (SC.i (SC.i SC.t (SC.r (SC.l (SC.l (SC.l s))))) (SC.r (SC.l (SC.l s)))) (SC.r s)))))) fun g45 x46=>(XD (X3 (o:=(oL (oL (oF Xa)))) 2 0 rfl rfl (fun _ s=>(SC.r s))))))
theorem Jh : FnScope ["_law_script", "_law_place", "_law_most", "_law_some", "_law_size", "_law_found"] ["_law_script", "_law_place", "_law_most"] (Xk UY):=⟨rfl, rfl, rfl, by decide +kernel, rfl, by decide +kernel, by decide +kernel⟩
set_option maxHeartbeats 4000000 in
theorem Ck (D : Def K mg "_law_table" UY ["_law_script", "_law_place", "_law_most"]) (g_row : Fn P w K mg base 2 "_law_row" ["_law_script", "_law_place", "_law_sizes"] (sp3 (rL Xa) Xa (rV Xa) (oL (oF Xa)) Jd K)) (g_made : Fn P w K mg base 2 "_law_made" ["_law_way", "_law_size", "_law_factor"] (sp3 Xa Xa Xa (oL (oL (oF Xa))) Q7 K)) (g_relaid : Fn P w K mg base 1 "_law_relaid" ["_law_some", "_law_spots"] (sp2 (rV (rV Xa)) (rV Xa) (oL (oL (oF Xa))) Zv K)) (g_ordered : Fn P w K mg base 1 "_law_ordered" ["_law_some", "_law_count"] (sp2 (rV Xa) Xa (oL (oF Xa)) Y5 K)) (Z : Blt mg) : Fn P w K mg base 3 "_law_table" ["_law_script", "_law_place", "_law_most"] (sp3 (rL Xa) Xa Xa (oL (oL (oF Xa))) Qv K):=by
  refine YG D Jh (fun vs H Q E h=>?_) (fun f cdv A outer s H vs Q E hr h=>?_)
  . obtain ⟨v_0, v_1, v_2, a_0, a_1, a_2, b, rfl, _⟩:=h; rfl
  obtain ⟨v_0, v_1, v_2, a_0, a_1, a_2, b, rfl, h_0, h_1, h_2, hm, q⟩:=h
  have hu:=hu8 hr
  have hu1:=YD hr
  refine ⟨_, (Xd (Xw (i:=3) Jh.nd rfl (Or.inl rfl) (X2 g_row hr (by decide) (Xc (pv 0) (Xc (pv 1) (Xc (Xt Q4 (XQ (Xc Xg (Xc Xg (Xc Xg (Xc Xg Xf))))) (Xt Gb (XQ (Xc Xg Xf)) Xg)) Xf)))))
    (Xd (Xw (i:=4) Jh.nd rfl (Or.inl rfl) (Xt Yn Xg (Xt Ys (XH (Xl K rfl) (pv 3) Xg (fun _ _=>rfl)) (pv 2))))
    (Xd (Xw (i:=5) Jh.nd rfl (Or.inl rfl) (X2 g_made hr (by decide) (Xc (XH (Xl K rfl) (pv 3) Xg (fun _ _=>rfl)) (Xc (pv 4) (Xc (Xt Yn Xg (XH (Xl K rfl) (pv 3) Xg (fun _ _=>rfl))) Xf)))))
    (Xd (X8 (Xp Y8 (XH (Xl K rfl) (pv 3) Xg (fun _ _=>rfl)) Xg (Xs _))
      (Xd (XE (pv 5))
      Xh)
      Xh)
    (Xd (XE (X2 g_relaid hr (by decide) (Xc (pv 5) (Xc (X2 g_ordered hr (by decide) (Xc (Y2 (Zq K rfl) (pv 3) (Y9 Xg) Z1) (Xc (pv 4) Xf))) Xf))))
    Xh))))), ?_⟩
  refine YM (S:=(SC.add (SC.add (SC.add SC.nil K (rL Xa) v_0 a_0) K Xa v_1 a_1) K Xa v_2 a_2)) (σ:=[some v_0, some v_1, some v_2, none, none, none]) 1 ?_ (SC.i (SC.i (SC.i SC.t h_0) h_1) h_2) hm q rfl
  unfold Qv
  exact (XS (K:=K) (r:=(rV Xa)) 3 (Ev.sh (Yl (Xb (r:=(rL Xa)) 0 rfl (fun _ s=>(SC.r (SC.l (SC.l s))))) (Xb (r:=Xa) 1 rfl (fun _ s=>(SC.r (SC.l s)))) (Ev.toB (QY (Ev.ls (YU (Xo (EvB.sh (Xe 7)) (Xo (EvB.sh (Xe 24)) (Xo (EvB.sh (Xe 6)) (Xo (EvB.sh (Xe 2)) X9)))))) (Ev.ls (Kx (Ev.ls (YU (Xo (EvB.sh (Xe 24)) X9))) (Xe 24))))))) fun a1 v2=>(XS (K:=K) (r:=Xa) 4 (EvB.sh (XV (Xe 1) (XY (Xy (Xb (r:=(rV Xa)) 3 rfl (fun _ s=>(SC.r s))) (Xe 1)) (Xb (r:=Xa) 2 rfl (fun _ s=>(SC.r (SC.l s))))))) fun a23 v24=>(XR (K:=K) (o:=(oL (oL (oF Xa)))) 5 0 (Yl (Xy (Xb (r:=(rV Xa)) 3 rfl (fun _ s=>(SC.r (SC.l s)))) (Xe 0)) (Xb (r:=Xa) 4 rfl (fun _ s=>(SC.r s))) (XV (Xe 2) (Xy (Xb (r:=(rV Xa)) 3 rfl (fun _ s=>(SC.r (SC.l s)))) (Xe 2)))) (Nat.le_of_ble_eq_true rfl) fun a31 v32 C33=>(YQ (Xj (K:=K) (Yh (Xy (Xb (r:=(rV Xa)) 3 rfl (fun _ s=>(SC.r (SC.l (SC.l s))))) (Xe 3)) (Xe 0))) (XD (X3 (o:=(oL (oL (oF Xa)))) 5 0 rfl rfl (fun _ s=>(SC.r s)))) (XD (XN (Yk (o:=(oL (oL (oF Xa)))) 5 0 rfl rfl (fun _ s=>(SC.r s))) (Ev.toB (XN (Ev.toB (ZM (EvS.ls (Xr (r:=(rV Xa)) 3 rfl (fun _ s=>(SC.r (SC.l (SC.l s)))))) (YF (K:=K) (Xe 4)) Zu)) (Xb (r:=Xa) 4 rfl (fun _ s=>(SC.r (SC.l s))))))))))))
theorem Z3 : FnScope ["_law_one", "_law_other", "_law_images", "_law_count", "_law_a", "_law_b", "_law_met"] ["_law_one", "_law_other", "_law_images"] (Xk VI):=⟨rfl, rfl, rfl, by decide +kernel, rfl, by decide +kernel, by decide +kernel⟩
set_option maxHeartbeats 4000000 in
theorem FD (D : Def K mg "_law_stands" VI ["_law_one", "_law_other", "_law_images"])  (Z : Blt mg) : Fn P w K mg base 1 "_law_stands" ["_law_one", "_law_other", "_law_images"] (sp3 (rV (rV Xa)) (rV (rV Xa)) (rV Xa) (oF XC) Qf K):=by
  refine YG D Z3 (fun vs H Q E h=>?_) (fun f cdv A outer s H vs Q E hr h=>?_)
  . obtain ⟨v_0, v_1, v_2, a_0, a_1, a_2, b, rfl, _⟩:=h; rfl
  obtain ⟨v_0, v_1, v_2, a_0, a_1, a_2, b, rfl, h_0, h_1, h_2, hm, q⟩:=h
  have hu:=hu8 hr
  have hu1:=YD hr
  refine ⟨_, (Xd (Xw (i:=3) Z3.nd rfl (Or.inl rfl) (Xn (Xi K rfl) rfl Z.b_len PySem.boot_len (Xc (pv 2) Xf)))
    (Xd (Ya PassesOwn.never rfl (XJ rfl Z.b_range (Xc (pv 3) Xf)) (Xz (i:=4) Z3.nd rfl (Or.inl rfl))
      (Xd (Ya PassesOwn.never rfl (XJ rfl Z.b_range (Xc (pv 3) Xf)) (Xz (i:=5) Z3.nd rfl (Or.inl rfl))
        (Xd (Xw (i:=6) Z3.nd rfl (Or.inl rfl) (XH (Xl K rfl) (XH (Xl K rfl) (pv 0) (pv 4) (fun _ _=>rfl)) (pv 5) (fun _ _=>rfl)))
        (Xd (X8 (PW.pt (Y4 (Xp Z5 (pv 6) (pv 3) (Xs _)) (Zy (Xp Jc (XH (Xl K rfl) (XH (Xl K rfl) (pv 1) (XH (Xl K rfl) (pv 2) (pv 4) (fun _ _=>rfl)) (fun _ _=>rfl)) (XH (Xl K rfl) (pv 2) (pv 5) (fun _ _=>rfl)) (fun _ _=>rfl)) (XH (Xl K rfl) (pv 2) (pv 6) (fun _ _=>rfl)) (Xs _)))))
          (Xd (XE JJ)
          Xh)
          Xh)
        Xh)))
      Xh))
    (Xd (XE JJ)
    Xh))), ?_⟩
  refine YM (S:=(SC.add (SC.add (SC.add SC.nil K (rV (rV Xa)) v_0 a_0) K (rV (rV Xa)) v_1 a_1) K (rV Xa) v_2 a_2)) (σ:=[some v_0, some v_1, some v_2, none, none, none, none]) 0 ?_ (SC.i (SC.i (SC.i SC.t h_0) h_1) h_2) hm q rfl
  unfold Qf
  exact (XS (K:=K) (r:=Xa) 3 (EvB.sh (XI (Xb (r:=(rV Xa)) 2 rfl (fun _ s=>(SC.r s))))) fun a1 v2=>(VG (K:=K) (J:=({ oo:=fun x5=>[], ss:=fun x5=>[some v_0, some v_1, some v_2, some v2, x5.1, x5.2.1, x5.2.2], sc:=fun g6 x5=>(SC.add (SC.add (SC.add (SC.add SC.nil K (rV (rV Xa)) v_0 a_0) K (rV (rV Xa)) v_1 a_1) K (rV Xa) v_2 a_2) K Xa v2 a1) } : Jn (Unit) (Option V × Option V × Option V))) (fun _=>tg1 4) ((none), (none), (none)) () (XB (Xb (r:=Xa) 3 rfl (fun _ s=>(SC.r s)))) rfl rfl (fun _ s=>(SC.i (SC.i (SC.i (SC.i SC.t (SC.r (SC.l (SC.l (SC.l s))))) (SC.r (SC.l (SC.l s)))) (SC.r (SC.l s))) (SC.r s))) (fun g7 x8 a9 v10=>(KH (K:=K) (J:=({ oo:=fun x12=>[], ss:=fun x12=>[some v_0, some v_1, some v_2, some v2, some v10, x12.1, x12.2], sc:=fun g13 x12=>(SC.add (SC.add (SC.add (SC.add (SC.add SC.nil K (rV (rV Xa)) v_0 a_0) K (rV (rV Xa)) v_1 a_1) K (rV Xa) v_2 a_2) K Xa v2 a1) K Xa v10 a9) } : Jn (Unit) (Option V × Option V))) (fun _=>tg1 5) ((x8.2.1), (x8.2.2)) () (XB (Xb (r:=Xa) 3 rfl (fun _ s=>(SC.r (SC.l s))))) rfl rfl (fun _ s=>(SC.i (SC.i (SC.i (SC.i (SC.i SC.t (SC.r (SC.l (SC.l (SC.l (SC.l s)))))) (SC.r (SC.l (SC.l (SC.l s))))) (SC.r (SC.l (SC.l s)))) (SC.r (SC.l s))) (SC.r s))) (fun g14 x15 a16 v17=>(XS (K:=K) (r:=Xa) 6 (EvB.sh (Xy (Xy (Xb (r:=(rV (rV Xa))) 0 rfl (fun _ s=>(SC.r (SC.l (SC.l (SC.l (SC.l (SC.l s)))))))) (Xb (r:=Xa) 4 rfl (fun _ s=>(SC.r (SC.l s))))) (Xb (r:=Xa) 5 rfl (fun _ s=>(SC.r s))))) fun a18 v19=>(V4 (Yq (Xj (K:=K) (Zp (Xb (r:=Xa) 6 rfl (fun _ s=>(SC.r s))) (Xb (r:=Xa) 3 rfl (fun _ s=>(SC.r (SC.l (SC.l (SC.l s)))))))) (Xj (K:=K) (ZP (Xy (Xy (Xb (r:=(rV (rV Xa))) 1 rfl (fun _ s=>(SC.r (SC.l (SC.l (SC.l (SC.l (SC.l s)))))))) (Xy (Xb (r:=(rV Xa)) 2 rfl (fun _ s=>(SC.r (SC.l (SC.l (SC.l (SC.l s))))))) (Xb (r:=Xa) 4 rfl (fun _ s=>(SC.r (SC.l (SC.l s))))))) (Xy (Xb (r:=(rV Xa)) 2 rfl (fun _ s=>(SC.r (SC.l (SC.l (SC.l (SC.l s))))))) (Xb (r:=Xa) 5 rfl (fun _ s=>(SC.r (SC.l s)))))) (Xy (Xb (r:=(rV Xa)) 2 rfl (fun _ s=>(SC.r (SC.l (SC.l (SC.l (SC.l s))))))) (Xb (r:=Xa) 6 rfl (fun _ s=>(SC.r s))))))) (XD (EvS.ev (EvB.sh (ZZ false)))) (Vk (Xq (J:=_) ((some v17), (some v19)) () rfl rfl (fun _ s=>(SC.i (SC.i (SC.i (SC.i (SC.i SC.t (SC.r (SC.l (SC.l (SC.l (SC.l (SC.l (SC.l s)))))))) (SC.r (SC.l (SC.l (SC.l (SC.l (SC.l s))))))) (SC.r (SC.l (SC.l (SC.l (SC.l s)))))) (SC.r (SC.l (SC.l (SC.l s))))) (SC.r (SC.l (SC.l s)))))))))) fun g41 x42=>(Vk (Xq (J:=_) ((some v10), (x42.1), (x42.2)) () rfl rfl (fun _ s=>(SC.i (SC.i (SC.i (SC.i SC.t (SC.r (SC.l (SC.l (SC.l (SC.l s)))))) (SC.r (SC.l (SC.l (SC.l s))))) (SC.r (SC.l (SC.l s)))) (SC.r (SC.l s)))))))) fun g45 x46=>(XD (EvS.ev (EvB.sh (ZZ true))))))
theorem GZ : FnScope ["_law_images", "_law_size"] ["_law_images", "_law_size"] (Xk Jl):=⟨rfl, rfl, rfl, by decide +kernel, rfl, by decide +kernel, by decide +kernel⟩
set_option maxHeartbeats 4000000 in
theorem DP (D : Def K mg "_law_longer" Jl ["_law_images", "_law_size"])  (Z : Blt mg) : Fn P w K mg base 1 "_law_longer" ["_law_images", "_law_size"] (sp2 (rV Xa) Xa (oL (oL (oF Xa))) YZ K):=by
  refine YG D GZ (fun vs H Q E h=>?_) (fun f cdv A outer s H vs Q E hr h=>?_)
  . obtain ⟨v_0, v_1, a_0, a_1, b, rfl, _⟩:=h; rfl
  obtain ⟨v_0, v_1, a_0, a_1, b, rfl, h_0, h_1, hm, q⟩:=h
  have hu:=hu8 hr
  have hu1:=YD hr
  refine ⟨_, (Xd (XE (Zn (sc:=(Xk Jl)) (N0:=["_law_images", "_law_size"]) (tns:=["_law_colour"]) (caps:=[(0, "_law_images")]) rfl (XJ rfl Z.b_range (Xc (pv 1) Xf)) (ZI (by decide)) (fun cl C s H ex E=>⟨Xz (i:=0) (show List.Nodup (["_law_colour", "_law_images"] : List Str) by decide +kernel) rfl (Or.inl rfl), (Dq (Xp (V1 K rfl) (pv 0) (pv 1) rfl)), (Xt Q4 (pv 1) (XQ (Xc (pv 0) Xf)))⟩)))
    Xh), ?_⟩
  refine YM (S:=(SC.add (SC.add SC.nil K (rV Xa) v_0 a_0) K Xa v_1 a_1)) (σ:=[some v_0, some v_1]) 0 ?_ (SC.i (SC.i SC.t h_0) h_1) hm q rfl
  unfold YZ
  exact (XD (Gg (fun _=>tg1 0) (XB (Xb (r:=Xa) 1 rfl (fun _ s=>(SC.r s)))) (fun C2 a3 v4=>(Xj (K:=K) (F3 (Xb (r:=Xa) 0 rfl (fun _ s=>(SC.r s))) (Xb (r:=(rV Xa)) 1 rfl (fun _ s=>(SC.r (SC.l (SC.l s)))))))) (fun C2 a3 v4=>(QY (EvS.ls (Xr (r:=(rV Xa)) 1 rfl (fun _ s=>(SC.r (SC.l (SC.l s)))))) (Ev.ls (YU (Xo (Xr (r:=Xa) 0 rfl (fun _ s=>(SC.r s))) X9)))))))
theorem ZJ : FnScope ["_law_one", "_law_other", "_law_found", "_law_k", "_law_standing", "_law_images", "_law_longer_here"] ["_law_one", "_law_other"] (Xk Kr):=⟨rfl, rfl, rfl, by decide +kernel, rfl, by decide +kernel, by decide +kernel⟩
set_option maxHeartbeats 4000000 in
theorem Ci (D : Def K mg "_law_every" Kr ["_law_one", "_law_other"]) (g_longer : Fn P w K mg base 1 "_law_longer" ["_law_images", "_law_size"] (sp2 (rV Xa) Xa (oL (oL (oF Xa))) YZ K)) (g_stands : Fn P w K mg base 1 "_law_stands" ["_law_one", "_law_other", "_law_images"] (sp3 (rV (rV Xa)) (rV (rV Xa)) (rV Xa) (oF XC) Qf K)) (Z : Blt mg) : Fn P w K mg base 2 "_law_every" ["_law_one", "_law_other"] (sp2 (rV (rV Xa)) (rV (rV Xa)) (oL (oL (oF Xa))) ZF K):=by
  refine YG D ZJ (fun vs H Q E h=>?_) (fun f cdv A outer s H vs Q E hr h=>?_)
  . obtain ⟨v_0, v_1, a_0, a_1, b, rfl, _⟩:=h; rfl
  obtain ⟨v_0, v_1, a_0, a_1, b, rfl, h_0, h_1, hm, q⟩:=h
  have hu:=hu8 hr
  have hu1:=YD hr
  refine ⟨_, (Xd (X8 (Xp Jc (Xn (Xi K rfl) rfl Z.b_len PySem.boot_len (Xc (pv 0) Xf)) (Xn (Xi K rfl) rfl Z.b_len PySem.boot_len (Xc (pv 1) Xf)) (Xs _))
      (Xd (XE (XQ Xf))
      Xh)
      Xh)
    (Xd (Xw (i:=2) ZJ.nd rfl (Or.inl rfl) (XQ (Xc (XQ Xf) Xf Ze)))
    (Xd (Ya PassesOwn.never rfl (XJ rfl Z.b_range (Xc (Xn (Xi K rfl) rfl Z.b_len PySem.boot_len (Xc (pv 0) Xf)) Xf)) (Xz (i:=3) ZJ.nd rfl (Or.inl rfl))
      (Xd (Xw (i:=4) ZJ.nd rfl (Or.inl rfl) (XQ Xf))
      (Xd (Ya PassesOwn.never rfl (Ym (K:=K) rfl (pv 2)) (Xz (i:=5) ZJ.nd rfl (Or.inl rfl))
        (Xd (Ya PassesOwn.never rfl (Ym (K:=K) rfl (X2 g_longer hr (by decide) (Xc (pv 5) (Xc (Xn (Xi K rfl) rfl Z.b_len PySem.boot_len (Xc (pv 0) Xf)) Xf)))) (Xz (i:=6) ZJ.nd rfl (Or.inl rfl))
          (Xd (X8 (Vb (X2 g_stands hr (by decide) (Xc (pv 0) (Xc (pv 1) (Xc (pv 6) Xf)))))
            (Xd (YH (QJ PySem.F.plainAttrs_list PySem.F.slot_list_append PySem.F.type_list_append Ye (pv 4) (Xc (pv 6) Xf)))
            Xh)
            Xh)
          Xh))
        Xh))
      (Xd (Xw (i:=2) ZJ.nd rfl (Or.inl rfl) (pv 4))
      Xh))))
    (Xd (XE (pv 2))
    Xh)))), ?_⟩
  refine YM (S:=(SC.add (SC.add SC.nil K (rV (rV Xa)) v_0 a_0) K (rV (rV Xa)) v_1 a_1)) (σ:=[some v_0, some v_1, none, none, none, none, none]) 4 ?_ (SC.i (SC.i SC.t h_0) h_1) hm q rfl
  unfold ZF
  exact (YQ (Xj (K:=K) (ZP (XI (Xb (r:=(rV (rV Xa))) 0 rfl (fun _ s=>(SC.r (SC.l s))))) (XI (Xb (r:=(rV (rV Xa))) 1 rfl (fun _ s=>(SC.r s)))))) (XD (ZR (o:=(oL (oF Xa))))) (XR (K:=K) (o:=(oL (oL (oF Xa)))) 2 0 (Jx (Y6 (ZR (o:=(oF Xa))) fun _=>QF)) (Nat.le_of_ble_eq_true rfl) fun a6 v7 C8=>(YR (K:=K) (J:=({ oo:=fun x14=>[x14.2.2.2.2.2, [], [], []], ss:=fun x14=>[some v_0, some v_1, some x14.2.2.2.1, x14.1, x14.2.1, x14.2.2.1, x14.2.2.2.2.1], sc:=fun g15 x14=>(SC.addO (SC.add (SC.add SC.nil K (rV (rV Xa)) v_0 a_0) K (rV (rV Xa)) v_1 a_1) K (oL (oL (oF Xa))) x14.2.2.2.1 g15 x14.2.2.2.2.2) } : Jn ((List (List Int))) (Option V × Option V × Option V × V × Option V × List XA))) (fun _=>tg1 3) ((none), (none), (none), v7, (none), C8) (a6) (XB (XI (Xb (r:=(rV (rV Xa))) 0 rfl (fun _ s=>(SC.r (SC.l (SC.l s))))))) rfl rfl (fun _ s=>(SC.i (SC.i (SC.i SC.t (SC.r (SC.l (SC.l s)))) (SC.r (SC.l s))) (SC.r s))) (fun g16 x17 a18 v19=>(XR (K:=K) (o:=(oL (oL (oF Xa)))) 4 1 (ZR (o:=(oL (oF Xa)))) (Nat.le_of_ble_eq_true rfl) fun a20 v21 C22=>(DN (K:=K) (o:=(oL (oL (oF Xa)))) 0 rfl (fun _ s=>(SC.r (SC.l (SC.l s)))) (YR (K:=K) (J:=({ oo:=fun x23=>[[], x23.2.2.2, [], []], ss:=fun x23=>[some v_0, some v_1, some x17.2.2.2.1, some v19, some x23.2.2.1, x23.1, x23.2.1], sc:=fun g24 x23=>(SC.addO (SC.add (SC.add (SC.add (SC.add SC.nil K (rV (rV Xa)) v_0 a_0) K (rV (rV Xa)) v_1 a_1) K (rV (rV Xa)) x17.2.2.2.1 g16) K Xa v19 a18) K (oL (oL (oF Xa))) x23.2.2.1 g24 x23.2.2.2) } : Jn ((List (List Int))) (Option V × Option V × V × List XA))) (fun _=>tg1 5) ((x17.2.2.1), (x17.2.2.2.2.1), v21, C22) (a20) (Yo (Xr (r:=(rV (rV Xa))) 2 rfl (fun _ s=>(SC.r s)))) rfl rfl (fun _ s=>(SC.i (SC.i (SC.i (SC.i (SC.i SC.t (SC.r (SC.l (SC.l (SC.l (SC.l (SC.l s))))))) (SC.r (SC.l (SC.l (SC.l (SC.l s)))))) (SC.r s)) (SC.r (SC.l (SC.l s)))) (SC.r (SC.l s)))) (fun g25 x26 a27 v28=>(Kc (K:=K) (o:=(oL (oF Xa))) (J:=({ oo:=fun x33=>[[], x33.2.2, [], []], ss:=fun x33=>[some v_0, some v_1, some x17.2.2.2.1, some v19, some x33.2.1, some v28, x33.1], sc:=fun g34 x33=>(SC.addO (SC.add (SC.add (SC.add (SC.add (SC.add SC.nil K (rV (rV Xa)) v_0 a_0) K (rV (rV Xa)) v_1 a_1) K (rV (rV Xa)) x17.2.2.2.1 g16) K Xa v19 a18) K (rV Xa) v28 a27) K (oL (oL (oF Xa))) x33.2.1 g34 x33.2.2) } : Jn ((List (List Int))) (Option V × V × List XA))) 2 3 6 ((x26.2.1), x26.2.2.1, x26.2.2.2) (g25) (XN (Xb (r:=(rV Xa)) 5 rfl (fun _ s=>(SC.r s))) (XI (Xb (r:=(rV (rV Xa))) 0 rfl (fun _ s=>(SC.r (SC.l (SC.l (SC.l (SC.l (SC.l s)))))))))) rfl rfl (fun _ s=>(SC.i (SC.i (SC.i (SC.i (SC.i (SC.i SC.t (SC.r (SC.l (SC.l (SC.l (SC.l (SC.l s))))))) (SC.r (SC.l (SC.l (SC.l (SC.l s)))))) (SC.r (SC.l (SC.l (SC.l s))))) (SC.r (SC.l (SC.l s)))) (SC.r s)) (SC.r (SC.l s)))) (fun _=>rfl) (fun _=>rfl) (by decide) (fun R40 g35 x36 a37 v38 C39=>(Yf (J:=({ oo:=fun x46=>[[], x46.2.2, [], R40], ss:=fun x46=>[some v_0, some v_1, some x17.2.2.2.1, some v19, some x46.1, some v28, x46.2.1], sc:=fun g47 x46=>(SC.addO (SC.add (SC.add (SC.add (SC.add (SC.add SC.nil K (rV (rV Xa)) v_0 a_0) K (rV (rV Xa)) v_1 a_1) K (rV (rV Xa)) x17.2.2.2.1 g16) K Xa v19 a18) K (rV Xa) v28 a27) K (oL (oL (oF Xa))) x46.1 g47 x46.2.2) } : Jn ((List (List Int))) (V × Option V × List XA))) (YS (Fd:=FNd ({ oo:=fun x46=>[[], x46.2.2, [], R40], ss:=fun x46=>[some v_0, some v_1, some x17.2.2.2.1, some v19, some x46.1, some v28, x46.2.1], sc:=fun g47 x46=>(SC.addO (SC.add (SC.add (SC.add (SC.add (SC.add SC.nil K (rV (rV Xa)) v_0 a_0) K (rV (rV Xa)) v_1 a_1) K (rV (rV Xa)) x17.2.2.2.1 g16) K Xa v19 a18) K (rV Xa) v28 a27) K (oL (oL (oF Xa))) x46.1 g47 x46.2.2) } : Jn ((List (List Int))) (V × Option V × List XA))) (Uo (K:=K) (Ev.toB (Yl (Xb (r:=(rV (rV Xa))) 0 rfl (fun _ s=>(SC.r (SC.l (SC.l (SC.l (SC.l (SC.l (SC.l s))))))))) (Xb (r:=(rV (rV Xa))) 1 rfl (fun _ s=>(SC.r (SC.l (SC.l (SC.l (SC.l (SC.l s)))))))) (Yk (o:=(oL (oF Xa))) 6 2 rfl rfl (fun _ s=>(SC.r s)))))) (ZO (K:=K) (o:=(oL (oF Xa))) (f:=fun a50=>(Res.ok (a50))) 4 1 rfl rfl rfl (fun _ s=>(SC.r (SC.l s))) (X3 (o:=(oL (oF Xa))) 6 2 rfl rfl (fun _ s=>(SC.r s))) fun a48 C49=>(Xq (J:=_) (x36.2.1, (some v38), C49) ((g35 ++ [a48])) rfl rfl (fun _ s=>(SC.i (SC.i (SC.i (SC.i (SC.i (SC.i SC.t (SC.r (SC.l (SC.l (SC.l (SC.l (SC.l (SC.l (SC.l s))))))))) (SC.r (SC.l (SC.l (SC.l (SC.l (SC.l (SC.l s)))))))) (SC.r (SC.l (SC.l (SC.l (SC.l (SC.l s))))))) (SC.r (SC.l (SC.l (SC.l (SC.l s)))))) (SC.r (SC.l (SC.l (SC.l s))))) (SC.r s))))) (UU 2 (Xq (J:=_) (x36.2.1, (some v38), x36.2.2) (g35) rfl rfl (fun _ s=>(SC.i (SC.i (SC.i (SC.i (SC.i (SC.i SC.t (SC.r (SC.l (SC.l (SC.l (SC.l (SC.l (SC.l s)))))))) (SC.r (SC.l (SC.l (SC.l (SC.l (SC.l s))))))) (SC.r (SC.l (SC.l (SC.l (SC.l s)))))) (SC.r (SC.l (SC.l (SC.l s))))) (SC.r (SC.l (SC.l s)))) (SC.r (SC.l s))))))) fun g52 x51=>(Xq (J:=_) ((x51.2.1), x51.1, x51.2.2) (g52) rfl rfl (fun _ s=>(SC.i (SC.i (SC.i (SC.i (SC.i (SC.i SC.t (SC.r (SC.l (SC.l (SC.l (SC.l (SC.l s))))))) (SC.r (SC.l (SC.l (SC.l (SC.l s)))))) (SC.r (SC.l (SC.l (SC.l s))))) (SC.r (SC.l (SC.l s)))) (SC.r (SC.l s))) (SC.r s)))))) fun g53 x54=>(Xq (J:=_) ((some v28), (x54.1), x54.2.1, x54.2.2) (g53) rfl rfl (fun _ s=>(SC.i (SC.i (SC.i (SC.i (SC.i SC.t (SC.r (SC.l (SC.l (SC.l (SC.l (SC.l s))))))) (SC.r (SC.l (SC.l (SC.l (SC.l s)))))) (SC.r (SC.l (SC.l (SC.l s))))) (SC.r (SC.l (SC.l s)))) (SC.r s)))))) fun g56 x57=>(XR (K:=K) (o:=(oL (oL (oF Xa)))) 2 0 (X3 (o:=(oL (oL (oF Xa)))) 4 1 rfl rfl (fun _ s=>(SC.r s))) (Nat.le_of_ble_eq_true rfl) fun a58 v59 C60=>(Xq (J:=_) ((some v19), (some x57.2.2.1), (x57.1), v59, (x57.2.1), C60) (a58) rfl rfl (fun _ s=>(SC.i (SC.i (SC.i SC.t (SC.r (SC.l (SC.l (SC.l (SC.l (SC.l s))))))) (SC.r (SC.l (SC.l (SC.l (SC.l s)))))) (SC.r s))))))))) fun g62 x63=>(XD (X3 (o:=(oL (oL (oF Xa)))) 2 0 rfl rfl (fun _ s=>(SC.r s)))))))
theorem F1 : FnScope ["_law_some"] ["_law_some"] (Xk Jk):=⟨rfl, rfl, rfl, by decide +kernel, rfl, by decide +kernel, by decide +kernel⟩
set_option maxHeartbeats 4000000 in
theorem Di (D : Def K mg "_law_copied" Jk ["_law_some"])  (Z : Blt mg) : Fn P w K mg base 1 "_law_copied" ["_law_some"] (sp1 (rV (rV Xa)) (oL (oL (oF Xa))) ZE K):=by
  refine YG D F1 (fun vs H Q E h=>?_) (fun f cdv A outer s H vs Q E hr h=>?_)
  . obtain ⟨v_0, a_0, b, rfl, _⟩:=h; rfl
  obtain ⟨v_0, a_0, b, rfl, h_0, hm, q⟩:=h
  have hu:=hu8 hr
  have hu1:=YD hr
  refine ⟨_, (Xd (XE (Zn (sc:=(Xk Jk)) (N0:=["_law_some"]) (tns:=["_law_line"]) (caps:=[]) rfl (Ym (K:=K) rfl (pv 0)) (ZI (by decide)) (fun cl C s H ex E=>⟨Xz (i:=0) (show List.Nodup (["_law_line"] : List Str) by decide +kernel) rfl (Or.inl rfl), Qn, (Yu (Zc K rfl) rfl Z.b_list PyProof.Rows.boot_list (Xc (pv 0) Xf))⟩)))
    Xh), ?_⟩
  refine YM (S:=(SC.add SC.nil K (rV (rV Xa)) v_0 a_0)) (σ:=[some v_0]) 0 ?_ (SC.i SC.t h_0) hm q rfl
  unfold ZE
  exact (XD (Qq (fun _=>tg1 0) (Yo (Xr (r:=(rV (rV Xa))) 0 rfl (fun _ s=>(SC.r s)))) (fun C1 a2 v3=>(Vz (EvS.ls (Xr (r:=(rV Xa)) 0 rfl (fun _ s=>(SC.r s))))))))
theorem Z4 : FnScope ["_law_way", "_law_size", "_law_found", "_law_a", "_law_line", "_law_b", "_law_one"] ["_law_way", "_law_size"] (Xk Ft):=⟨rfl, rfl, rfl, by decide +kernel, rfl, by decide +kernel, by decide +kernel⟩
set_option maxHeartbeats 4000000 in
theorem B8 (D : Def K mg "_law_rare" Ft ["_law_way", "_law_size"])  (Z : Blt mg) : Fn P w K mg base 1 "_law_rare" ["_law_way", "_law_size"] (sp2 Xa Xa (oL (oL (oF Xa))) Vn K):=by
  refine YG D Z4 (fun vs H Q E h=>?_) (fun f cdv A outer s H vs Q E hr h=>?_)
  . obtain ⟨v_0, v_1, a_0, a_1, b, rfl, _⟩:=h; rfl
  obtain ⟨v_0, v_1, a_0, a_1, b, rfl, h_0, h_1, hm, q⟩:=h
  have hu:=hu8 hr
  have hu1:=YD hr
  refine ⟨_, (Xd (Xw (i:=2) Z4.nd rfl (Or.inl rfl) (XQ Xf))
    (Xd (Ya PassesOwn.never rfl (XJ rfl Z.b_range (Xc (pv 1) Xf)) (Xz (i:=3) Z4.nd rfl (Or.inl rfl))
      (Xd (Xw (i:=4) Z4.nd rfl (Or.inl rfl) (XQ Xf))
      (Xd (Ya PassesOwn.never rfl (XJ rfl Z.b_range (Xc (pv 1) Xf)) (Xz (i:=5) Z4.nd rfl (Or.inl rfl))
        (Xd (Xw (i:=6) Z4.nd rfl (Or.inl rfl) (pv 3))
        (Xd (X8 (PW.pt (Y4 (Xp Y8 (pv 0) Xg (Xs _)) (Y4 (Xp Z5 (pv 3) Xg (Xs _)) (Zy (Xp Bm (pv 5) (Xt YI (pv 1) Xg) (Xs _))))))
          (Xd (Xw (i:=6) Z4.nd rfl (Or.inl rfl) (Xt YI Xg (pv 3)))
          Xh)
          Xh)
        (Xd (X8 (PW.pt (Y4 (Xp Y8 (pv 0) Xg (Xs _)) (Y4 (Xp Z5 (pv 3) Xg (Xs _)) (Zy (Xp Z5 (pv 5) Xg (Xs _))))))
          (Xd (Xw (i:=6) Z4.nd rfl (Or.inl rfl) (Xt Ys (Xt YI (Xt Zt Xg (pv 5)) (pv 3)) Xg))
          Xh)
          Xh)
        (Xd (YH (QJ PySem.F.plainAttrs_list PySem.F.slot_list_append PySem.F.type_list_append Ye (pv 4) (Xc (pv 6) Xf)))
        Xh)))))
      (Xd (YH (QJ PySem.F.plainAttrs_list PySem.F.slot_list_append PySem.F.type_list_append Ye (pv 2) (Xc (pv 4) Xf)))
      Xh))))
    (Xd (XE (pv 2))
    Xh))), ?_⟩
  refine YM (S:=(SC.add (SC.add SC.nil K Xa v_0 a_0) K Xa v_1 a_1)) (σ:=[some v_0, some v_1, none, none, none, none, none]) 2 ?_ (SC.i (SC.i SC.t h_0) h_1) hm q rfl
  unfold Vn
  exact (XR (K:=K) (o:=(oL (oL (oF Xa)))) 2 0 (ZR (o:=(oL (oF Xa)))) (Nat.le_of_ble_eq_true rfl) fun a1 v2 C3=>(YR (K:=K) (J:=({ oo:=fun x5=>[x5.2.2.2.2.2, []], ss:=fun x5=>[some v_0, some v_1, some x5.2.2.2.2.1, x5.1, x5.2.1, x5.2.2.1, x5.2.2.2.1], sc:=fun g6 x5=>(SC.addO (SC.add (SC.add SC.nil K Xa v_0 a_0) K Xa v_1 a_1) K (oL (oL (oF Xa))) x5.2.2.2.2.1 g6 x5.2.2.2.2.2) } : Jn ((List (List Int))) (Option V × Option V × Option V × Option V × V × List XA))) (fun _=>tg1 3) ((none), (none), (none), (none), v2, C3) (a1) (XB (Xb (r:=Xa) 1 rfl (fun _ s=>(SC.r (SC.l s))))) rfl rfl (fun _ s=>(SC.i (SC.i (SC.i SC.t (SC.r (SC.l (SC.l s)))) (SC.r (SC.l s))) (SC.r s))) (fun g7 x8 a9 v10=>(XR (K:=K) (o:=(oL (oF Xa))) 4 1 (ZR (o:=(oF Xa))) (Nat.le_of_ble_eq_true rfl) fun a11 v12 C13=>(YR (K:=K) (J:=({ oo:=fun x15=>[x8.2.2.2.2.2, x15.2.2.2], ss:=fun x15=>[some v_0, some v_1, some x8.2.2.2.2.1, some v10, some x15.2.2.1, x15.1, x15.2.1], sc:=fun g16 x15=>(SC.addO (SC.add (SC.addO (SC.add (SC.add SC.nil K Xa v_0 a_0) K Xa v_1 a_1) K (oL (oL (oF Xa))) x8.2.2.2.2.1 g7 x8.2.2.2.2.2) K Xa v10 a9) K (oL (oF Xa)) x15.2.2.1 g16 x15.2.2.2) } : Jn ((List Int)) (Option V × Option V × V × List XA))) (fun _=>tg1 5) ((x8.2.2.1), (x8.2.2.2.1), v12, C13) (a11) (XB (Xb (r:=Xa) 1 rfl (fun _ s=>(SC.r (SC.l (SC.l (SC.l s))))))) rfl rfl (fun _ s=>(SC.i (SC.i (SC.i (SC.i (SC.i SC.t (SC.r (SC.l (SC.l (SC.l (SC.l s)))))) (SC.r (SC.l (SC.l (SC.l s))))) (SC.r (SC.l (SC.l s)))) (SC.r (SC.l s))) (SC.r s))) (fun g17 x18 a19 v20=>(XS (K:=K) (r:=Xa) 6 (Xr (r:=Xa) 3 rfl (fun _ s=>(SC.r (SC.l (SC.l s))))) fun a21 v22=>(Yf (J:=({ oo:=fun x32=>[x8.2.2.2.2.2, x18.2.2.2], ss:=fun x32=>[some v_0, some v_1, some x8.2.2.2.2.1, some v10, some x18.2.2.1, some v20, some x32], sc:=fun g33 x32=>(SC.add (SC.add (SC.addO (SC.add (SC.addO (SC.add (SC.add SC.nil K Xa v_0 a_0) K Xa v_1 a_1) K (oL (oL (oF Xa))) x8.2.2.2.2.1 g7 x8.2.2.2.2.2) K Xa v10 a9) K (oL (oF Xa)) x18.2.2.1 g17 x18.2.2.2) K Xa v20 a19) K Xa x32 g33) } : Jn (Int) (V))) (YS (Fd:=FNd ({ oo:=fun x32=>[x8.2.2.2.2.2, x18.2.2.2], ss:=fun x32=>[some v_0, some v_1, some x8.2.2.2.2.1, some v10, some x18.2.2.1, some v20, some x32], sc:=fun g33 x32=>(SC.add (SC.add (SC.addO (SC.add (SC.addO (SC.add (SC.add SC.nil K Xa v_0 a_0) K Xa v_1 a_1) K (oL (oL (oF Xa))) x8.2.2.2.2.1 g7 x8.2.2.2.2.2) K Xa v10 a9) K (oL (oF Xa)) x18.2.2.1 g17 x18.2.2.2) K Xa v20 a19) K Xa x32 g33) } : Jn (Int) (V))) (Yq (Xj (K:=K) (Yh (Xb (r:=Xa) 0 rfl (fun _ s=>(SC.r (SC.l (SC.l (SC.l (SC.l (SC.l (SC.l s))))))))) (Xe 0))) (Yq (Xj (K:=K) (Zp (Xb (r:=Xa) 3 rfl (fun _ s=>(SC.r (SC.l (SC.l (SC.l s)))))) (Xe 2))) (Xj (K:=K) (KZ (Xb (r:=Xa) 5 rfl (fun _ s=>(SC.r (SC.l s)))) (Yd (Xb (r:=Xa) 1 rfl (fun _ s=>(SC.r (SC.l (SC.l (SC.l (SC.l (SC.l s)))))))) (Xe 2)))))) (XS (K:=K) (r:=Xa) 6 (EvB.sh (Yd (Xe 1) (Xb (r:=Xa) 3 rfl (fun _ s=>(SC.r (SC.l (SC.l (SC.l s)))))))) fun a34 v35=>(Xq (J:=_) (v35) (a34) rfl rfl (fun _ s=>(SC.i (SC.i (SC.i (SC.i (SC.i (SC.i (SC.i SC.t (SC.r (SC.l (SC.l (SC.l (SC.l (SC.l (SC.l (SC.l s))))))))) (SC.r (SC.l (SC.l (SC.l (SC.l (SC.l (SC.l s)))))))) (SC.r (SC.l (SC.l (SC.l (SC.l (SC.l s))))))) (SC.r (SC.l (SC.l (SC.l (SC.l s)))))) (SC.r (SC.l (SC.l (SC.l s))))) (SC.r (SC.l (SC.l s)))) (SC.r s))))) (Xq (J:=_) (v22) (a21) rfl rfl (fun _ s=>(SC.i (SC.i (SC.i (SC.i (SC.i (SC.i (SC.i SC.t (SC.r (SC.l (SC.l (SC.l (SC.l (SC.l (SC.l s)))))))) (SC.r (SC.l (SC.l (SC.l (SC.l (SC.l s))))))) (SC.r (SC.l (SC.l (SC.l (SC.l s)))))) (SC.r (SC.l (SC.l (SC.l s))))) (SC.r (SC.l (SC.l s)))) (SC.r (SC.l s))) (SC.r s))))) fun g39 x38=>(Yf (J:=({ oo:=fun x47=>[x8.2.2.2.2.2, x18.2.2.2], ss:=fun x47=>[some v_0, some v_1, some x8.2.2.2.2.1, some v10, some x18.2.2.1, some v20, some x47], sc:=fun g48 x47=>(SC.add (SC.add (SC.addO (SC.add (SC.addO (SC.add (SC.add SC.nil K Xa v_0 a_0) K Xa v_1 a_1) K (oL (oL (oF Xa))) x8.2.2.2.2.1 g7 x8.2.2.2.2.2) K Xa v10 a9) K (oL (oF Xa)) x18.2.2.1 g17 x18.2.2.2) K Xa v20 a19) K Xa x47 g48) } : Jn (Int) (V))) (YS (Fd:=FNd ({ oo:=fun x47=>[x8.2.2.2.2.2, x18.2.2.2], ss:=fun x47=>[some v_0, some v_1, some x8.2.2.2.2.1, some v10, some x18.2.2.1, some v20, some x47], sc:=fun g48 x47=>(SC.add (SC.add (SC.addO (SC.add (SC.addO (SC.add (SC.add SC.nil K Xa v_0 a_0) K Xa v_1 a_1) K (oL (oL (oF Xa))) x8.2.2.2.2.1 g7 x8.2.2.2.2.2) K Xa v10 a9) K (oL (oF Xa)) x18.2.2.1 g17 x18.2.2.2) K Xa v20 a19) K Xa x47 g48) } : Jn (Int) (V))) (Yq (Xj (K:=K) (Yh (Xb (r:=Xa) 0 rfl (fun _ s=>(SC.r (SC.l (SC.l (SC.l (SC.l (SC.l (SC.l s))))))))) (Xe 1))) (Yq (Xj (K:=K) (Zp (Xb (r:=Xa) 3 rfl (fun _ s=>(SC.r (SC.l (SC.l (SC.l s)))))) (Xe 3))) (Xj (K:=K) (Zp (Xb (r:=Xa) 5 rfl (fun _ s=>(SC.r (SC.l s)))) (Xe 3))))) (XS (K:=K) (r:=Xa) 6 (EvB.sh (XY (Yd (YT (Xe 2) (Xb (r:=Xa) 5 rfl (fun _ s=>(SC.r (SC.l s))))) (Xb (r:=Xa) 3 rfl (fun _ s=>(SC.r (SC.l (SC.l (SC.l s))))))) (Xe 3))) fun a49 v50=>(Xq (J:=_) (v50) (a49) rfl rfl (fun _ s=>(SC.i (SC.i (SC.i (SC.i (SC.i (SC.i (SC.i SC.t (SC.r (SC.l (SC.l (SC.l (SC.l (SC.l (SC.l (SC.l s))))))))) (SC.r (SC.l (SC.l (SC.l (SC.l (SC.l (SC.l s)))))))) (SC.r (SC.l (SC.l (SC.l (SC.l (SC.l s))))))) (SC.r (SC.l (SC.l (SC.l (SC.l s)))))) (SC.r (SC.l (SC.l (SC.l s))))) (SC.r (SC.l (SC.l s)))) (SC.r s))))) (Xq (J:=_) (x38) (g39) rfl rfl (fun _ s=>(SC.i (SC.i (SC.i (SC.i (SC.i (SC.i (SC.i SC.t (SC.r (SC.l (SC.l (SC.l (SC.l (SC.l (SC.l s)))))))) (SC.r (SC.l (SC.l (SC.l (SC.l (SC.l s))))))) (SC.r (SC.l (SC.l (SC.l (SC.l s)))))) (SC.r (SC.l (SC.l (SC.l s))))) (SC.r (SC.l (SC.l s)))) (SC.r (SC.l s))) (SC.r s))))) fun g58 x57=>(ZO (K:=K) (o:=(oF Xa)) (f:=fun a61=>(Res.ok (a61))) 4 1 rfl rfl rfl (fun _ s=>(SC.r (SC.l (SC.l s)))) (EvS.ev (Xr (r:=Xa) 6 rfl (fun _ s=>(SC.r s)))) fun a59 C60=>(Xq (J:=_) ((some v20), (some x57), x18.2.2.1, C60) ((g17 ++ [a59])) rfl rfl (fun _ s=>(SC.i (SC.i (SC.i (SC.i (SC.i SC.t (SC.r (SC.l (SC.l (SC.l (SC.l (SC.l (SC.l (SC.l s))))))))) (SC.r (SC.l (SC.l (SC.l (SC.l (SC.l (SC.l s)))))))) (SC.r (SC.l (SC.l (SC.l (SC.l (SC.l s))))))) (SC.r (SC.l (SC.l (SC.l (SC.l s)))))) (SC.r s))))))))) fun g62 x63=>(ZO (K:=K) (o:=(oL (oF Xa))) (f:=fun a66=>(Res.ok (a66))) 2 0 rfl rfl rfl (fun _ s=>(SC.r (SC.l (SC.l s)))) (X3 (o:=(oL (oF Xa))) 4 1 rfl rfl (fun _ s=>(SC.r s))) fun a64 C65=>(Xq (J:=_) ((some v10), (some x63.2.2.1), (x63.1), (x63.2.1), x8.2.2.2.2.1, C65) ((g7 ++ [a64])) rfl rfl (fun _ s=>(SC.i (SC.i (SC.i SC.t (SC.r (SC.l (SC.l (SC.l (SC.l (SC.l s))))))) (SC.r (SC.l (SC.l (SC.l (SC.l s)))))) (SC.r s)))))))) fun g68 x69=>(XD (X3 (o:=(oL (oL (oF Xa)))) 2 0 rfl rfl (fun _ s=>(SC.r s))))))
theorem Qu : FnScope ["_law_script", "_law_most", "_law_some", "_law_one", "_law_rare_here", "_law_other"] ["_law_script", "_law_most"] (Xk F7):=⟨rfl, rfl, rfl, by decide +kernel, rfl, by decide +kernel, by decide +kernel⟩
set_option maxHeartbeats 4000000 in
theorem Et (D : Def K mg "_law_pair" F7 ["_law_script", "_law_most"]) (g_row : Fn P w K mg base 2 "_law_row" ["_law_script", "_law_place", "_law_sizes"] (sp3 (rL Xa) Xa (rV Xa) (oL (oF Xa)) Jd K)) (g_table : Fn P w K mg base 3 "_law_table" ["_law_script", "_law_place", "_law_most"] (sp3 (rL Xa) Xa Xa (oL (oL (oF Xa))) Qv K)) (g_rare : Fn P w K mg base 1 "_law_rare" ["_law_way", "_law_size"] (sp2 Xa Xa (oL (oL (oF Xa))) Vn K)) (g_made : Fn P w K mg base 2 "_law_made" ["_law_way", "_law_size", "_law_factor"] (sp3 Xa Xa Xa (oL (oL (oF Xa))) Q7 K)) (g_relaid : Fn P w K mg base 1 "_law_relaid" ["_law_some", "_law_spots"] (sp2 (rV (rV Xa)) (rV Xa) (oL (oL (oF Xa))) Zv K)) (g_ordered : Fn P w K mg base 1 "_law_ordered" ["_law_some", "_law_count"] (sp2 (rV Xa) Xa (oL (oF Xa)) Y5 K)) (Z : Blt mg) : Fn P w K mg base 4 "_law_pair" ["_law_script", "_law_most"] (sp2 (rL Xa) Xa (oT2 (oL (oL (oF Xa))) (oL (oL (oF Xa)))) Vi K):=by
  refine YG D Qu (fun vs H Q E h=>?_) (fun f cdv A outer s H vs Q E hr h=>?_)
  . obtain ⟨v_0, v_1, a_0, a_1, b, rfl, _⟩:=h; rfl
  obtain ⟨v_0, v_1, a_0, a_1, b, rfl, h_0, h_1, hm, q⟩:=h
  have hu:=hu8 hr
  have hu1:=YD hr
  refine ⟨_, (Xd (Xw (i:=2) Qu.nd rfl (Or.inl rfl) (X2 g_row hr (by decide) (Xc (pv 0) (Xc Xg (Xc (Xt Q4 (XQ (Xc Xg Xf)) (Xt Gb (XQ (Xc Xg Xf)) Xg)) Xf)))))
    (Xd (Xw (i:=3) Qu.nd rfl (Or.inl rfl) (X2 g_table hr (by decide) (Xc (pv 0) (Xc Xg (Xc (pv 1) Xf)))))
    (Xd (Xw (i:=4) Qu.nd rfl (Or.inl rfl) (X2 g_row hr (by decide) (Xc (pv 0) (Xc Xg (Xc (XQ (Xc Xg (Xc Xg Xf))) Xf Ze)))))
    (Xd (X8 (PW.pt (Y4 (Xp Y8 (XH (Xl K rfl) (pv 4) Xg (fun _ _=>rfl)) Xg (Xs _)) (Zy (Xp J9 (Xn (Xi K rfl) rfl Z.b_len PySem.boot_len (Xc (pv 3) Xf)) Xg (Xs _)))))
      (Xd (Xw (i:=3) Qu.nd rfl (Or.inl rfl) (X2 g_rare hr (by decide) (Xc (XH (Xl K rfl) (pv 4) Xg (fun _ _=>rfl)) (Xc (Xn (Xi K rfl) rfl Z.b_len PySem.boot_len (Xc (pv 3) Xf)) Xf))))
      Xh)
      Xh)
    (Xd (X8 (Xp J9 (XH (Xl K rfl) (pv 2) Xg (fun _ _=>rfl)) Xg (Xs _))
      (Xd (XE (Zb (Xc (pv 3) (Xc (X2 g_relaid hr (by decide) (Xc (pv 3) (Xc (X2 g_ordered hr (by decide) (Xc (Y2 (Zq K rfl) (pv 2) (Y9 Xg) Z1) (Xc (Xn (Xi K rfl) rfl Z.b_len PySem.boot_len (Xc (pv 3) Xf)) Xf))) Xf))) Xf))))
      Xh)
      Xh)
    (Xd (Xw (i:=5) Qu.nd rfl (Or.inl rfl) (X2 g_table hr (by decide) (Xc (pv 0) (Xc Xg (Xc (pv 1) Xf)))))
    (Xd (X8 (PW.pt (Y4 (Xp Jc (Xn (Xi K rfl) rfl Z.b_len PySem.boot_len (Xc (pv 5) Xf)) (Xn (Xi K rfl) rfl Z.b_len PySem.boot_len (Xc (pv 3) Xf)) (Xs _)) (Zy (Xp J9 (Xt Ys (XH (Xl K rfl) (pv 2) Xg (fun _ _=>rfl)) Xg) Xg (Xs _)))))
      (Xd (Xw (i:=5) Qu.nd rfl (Or.inl rfl) (X2 g_made hr (by decide) (Xc (Xt Ys (XH (Xl K rfl) (pv 2) Xg (fun _ _=>rfl)) Xg) (Xc (Xn (Xi K rfl) rfl Z.b_len PySem.boot_len (Xc (pv 3) Xf)) (Xc (Xt Yn Xg (XH (Xl K rfl) (pv 2) Xg (fun _ _=>rfl))) Xf)))))
      Xh)
      Xh)
    (Xd (XE (Zb (Xc (pv 3) (Xc (pv 5) Xf))))
    Xh)))))))), ?_⟩
  refine YM (S:=(SC.add (SC.add SC.nil K (rL Xa) v_0 a_0) K Xa v_1 a_1)) (σ:=[some v_0, some v_1, none, none, none, none]) 2 ?_ (SC.i (SC.i SC.t h_0) h_1) hm q rfl
  unfold Vi
  exact (XS (K:=K) (r:=(rV Xa)) 2 (Ev.sh (Yl (Xb (r:=(rL Xa)) 0 rfl (fun _ s=>(SC.r (SC.l s)))) (Xe 2) (Ev.toB (QY (Ev.ls (YU (Xo (EvB.sh (Xe 3)) X9))) (Ev.ls (Kx (Ev.ls (YU (Xo (EvB.sh (Xe 24)) X9))) (Xe 8))))))) fun a1 v2=>(XR (K:=K) (o:=(oL (oL (oF Xa)))) 3 0 (Yl (Xb (r:=(rL Xa)) 0 rfl (fun _ s=>(SC.r (SC.l (SC.l s))))) (Xe 0) (Xb (r:=Xa) 1 rfl (fun _ s=>(SC.r (SC.l s))))) (Nat.le_of_ble_eq_true rfl) fun a17 v18 C19=>(XS (K:=K) (r:=(rV Xa)) 4 (Ev.sh (Yl (Xb (r:=(rL Xa)) 0 rfl (fun _ s=>(SC.r (SC.l (SC.l (SC.l s)))))) (Xe 6) (Ev.toB (YU (Xo (EvB.sh (Xe 5)) (Xo (EvB.sh (Xe 2)) X9)))))) fun a24 v25=>(Yf (J:=({ oo:=fun x43=>[x43.2, []], ss:=fun x43=>[some v_0, some v_1, some v2, some x43.1, some v25, none], sc:=fun g44 x43=>(SC.addO (SC.add (SC.add (SC.add (SC.add SC.nil K (rL Xa) v_0 a_0) K Xa v_1 a_1) K (rV Xa) v2 a1) K (rV Xa) v25 a24) K (oL (oL (oF Xa))) x43.1 g44 x43.2) } : Jn ((List (List Int))) (V × List XA))) (YS (Fd:=FNd ({ oo:=fun x43=>[x43.2, []], ss:=fun x43=>[some v_0, some v_1, some v2, some x43.1, some v25, none], sc:=fun g44 x43=>(SC.addO (SC.add (SC.add (SC.add (SC.add SC.nil K (rL Xa) v_0 a_0) K Xa v_1 a_1) K (rV Xa) v2 a1) K (rV Xa) v25 a24) K (oL (oL (oF Xa))) x43.1 g44 x43.2) } : Jn ((List (List Int))) (V × List XA))) (Yq (Xj (K:=K) (Yh (Xy (Xb (r:=(rV Xa)) 4 rfl (fun _ s=>(SC.r s))) (Xe 0)) (Xe 0))) (Xj (K:=K) (Qh (XI (Yk (o:=(oL (oL (oF Xa)))) 3 0 rfl rfl (fun _ s=>(SC.r (SC.l s))))) (Xe 3)))) (XR (K:=K) (o:=(oL (oL (oF Xa)))) 3 0 (XN (Xy (Xb (r:=(rV Xa)) 4 rfl (fun _ s=>(SC.r s))) (Xe 1)) (XI (Yk (o:=(oL (oL (oF Xa)))) 3 0 rfl rfl (fun _ s=>(SC.r (SC.l s)))))) (Nat.le_of_ble_eq_true rfl) fun a45 v46 C47=>(Xq (J:=_) (v46, C47) (a45) rfl rfl (fun _ s=>(SC.i (SC.i (SC.i (SC.i (SC.i SC.t (SC.r (SC.l (SC.l (SC.l (SC.l (SC.l s))))))) (SC.r (SC.l (SC.l (SC.l (SC.l s)))))) (SC.r (SC.l (SC.l (SC.l s))))) (SC.r (SC.l s))) (SC.r s))))) (Xq (J:=_) (v18, C19) (a17) rfl rfl (fun _ s=>(SC.i (SC.i (SC.i (SC.i (SC.i SC.t (SC.r (SC.l (SC.l (SC.l (SC.l s)))))) (SC.r (SC.l (SC.l (SC.l s))))) (SC.r (SC.l (SC.l s)))) (SC.r s)) (SC.r (SC.l s)))))) fun g55 x54=>(YQ (Xj (K:=K) (Qh (Xy (Xb (r:=(rV Xa)) 2 rfl (fun _ s=>(SC.r (SC.l (SC.l s))))) (Xe 0)) (Xe 0))) (XD (C5 (K:=K) (o:=(oL (oL (oF Xa)))) 3 0 rfl rfl (fun _ s=>(SC.r s)) (XN (Yk (o:=(oL (oL (oF Xa)))) 3 0 rfl rfl (fun _ s=>(SC.r s))) (Ev.toB (XN (Ev.toB (ZM (EvS.ls (Xr (r:=(rV Xa)) 2 rfl (fun _ s=>(SC.r (SC.l (SC.l s)))))) (YF (K:=K) (Xe 1)) Zu)) (XI (Yk (o:=(oL (oL (oF Xa)))) 3 0 rfl rfl (fun _ s=>(SC.r s))))))))) (XR (K:=K) (o:=(oL (oL (oF Xa)))) 5 1 (Yl (Xb (r:=(rL Xa)) 0 rfl (fun _ s=>(SC.r (SC.l (SC.l (SC.l (SC.l s))))))) (Xe 1) (Xb (r:=Xa) 1 rfl (fun _ s=>(SC.r (SC.l (SC.l (SC.l s))))))) (Nat.le_of_ble_eq_true rfl) fun a74 v75 C76=>(Yf (J:=({ oo:=fun x92=>[x54.2, x92.2], ss:=fun x92=>[some v_0, some v_1, some v2, some x54.1, some v25, some x92.1], sc:=fun g93 x92=>(SC.addO (SC.addO (SC.add (SC.add (SC.add (SC.add SC.nil K (rL Xa) v_0 a_0) K Xa v_1 a_1) K (rV Xa) v2 a1) K (rV Xa) v25 a24) K (oL (oL (oF Xa))) x54.1 g55 x54.2) K (oL (oL (oF Xa))) x92.1 g93 x92.2) } : Jn ((List (List Int))) (V × List XA))) (YS (Fd:=FNd ({ oo:=fun x92=>[x54.2, x92.2], ss:=fun x92=>[some v_0, some v_1, some v2, some x54.1, some v25, some x92.1], sc:=fun g93 x92=>(SC.addO (SC.addO (SC.add (SC.add (SC.add (SC.add SC.nil K (rL Xa) v_0 a_0) K Xa v_1 a_1) K (rV Xa) v2 a1) K (rV Xa) v25 a24) K (oL (oL (oF Xa))) x54.1 g55 x54.2) K (oL (oL (oF Xa))) x92.1 g93 x92.2) } : Jn ((List (List Int))) (V × List XA))) (Yq (Xj (K:=K) (ZP (XI (Yk (o:=(oL (oL (oF Xa)))) 5 1 rfl rfl (fun _ s=>(SC.r s)))) (XI (Yk (o:=(oL (oL (oF Xa)))) 3 0 rfl rfl (fun _ s=>(SC.r (SC.l s))))))) (Xj (K:=K) (Qh (XY (Xy (Xb (r:=(rV Xa)) 2 rfl (fun _ s=>(SC.r (SC.l (SC.l (SC.l s)))))) (Xe 1)) (Xe 3)) (Xe 0)))) (XR (K:=K) (o:=(oL (oL (oF Xa)))) 5 1 (Yl (XY (Xy (Xb (r:=(rV Xa)) 2 rfl (fun _ s=>(SC.r (SC.l (SC.l (SC.l s)))))) (Xe 2)) (Xe 7)) (XI (Yk (o:=(oL (oL (oF Xa)))) 3 0 rfl rfl (fun _ s=>(SC.r (SC.l s))))) (XV (Xe 1) (Xy (Xb (r:=(rV Xa)) 2 rfl (fun _ s=>(SC.r (SC.l (SC.l (SC.l s)))))) (Xe 3)))) (Nat.le_of_ble_eq_true rfl) fun a94 v95 C96=>(Xq (J:=_) (v95, C96) (a94) rfl rfl (fun _ s=>(SC.i (SC.i (SC.i (SC.i (SC.i (SC.i SC.t (SC.r (SC.l (SC.l (SC.l (SC.l (SC.l (SC.l s)))))))) (SC.r (SC.l (SC.l (SC.l (SC.l (SC.l s))))))) (SC.r (SC.l (SC.l (SC.l (SC.l s)))))) (SC.r (SC.l (SC.l (SC.l s))))) (SC.r (SC.l (SC.l s)))) (SC.r s))))) (Xq (J:=_) (v75, C76) (a74) rfl rfl (fun _ s=>(SC.i (SC.i (SC.i (SC.i (SC.i (SC.i SC.t (SC.r (SC.l (SC.l (SC.l (SC.l (SC.l s))))))) (SC.r (SC.l (SC.l (SC.l (SC.l s)))))) (SC.r (SC.l (SC.l (SC.l s))))) (SC.r (SC.l (SC.l s)))) (SC.r (SC.l s))) (SC.r s))))) fun g111 x110=>(XD (Bf (X3 (o:=(oL (oL (oF Xa)))) 3 0 rfl rfl (fun _ s=>(SC.r (SC.l s)))) fun _=>(X3 (o:=(oL (oL (oF Xa)))) 5 2 rfl rfl (fun _ s=>(SC.r s))))))))))))
theorem Qr : FnScope ["_law_one", "_law_other", "_law_images", "_law_a", "_law_b", "_law_colour", "_law_met"] ["_law_one", "_law_other", "_law_images", "_law_a", "_law_b"] (Xk QL):=⟨rfl, rfl, rfl, by decide +kernel, rfl, by decide +kernel, by decide +kernel⟩
set_option maxHeartbeats 4000000 in
theorem Kl (D : Def K mg "_law_breaks" QL ["_law_one", "_law_other", "_law_images", "_law_a", "_law_b"])  (Z : Blt mg) : Fn P w K mg base 1 "_law_breaks" ["_law_one", "_law_other", "_law_images", "_law_a", "_law_b"] (sp5 (rV (rV Xa)) (rV (rV Xa)) (rPL Xa) Xa Xa (oF XC) YJ K):=by
  refine YG D Qr (fun vs H Q E h=>?_) (fun f cdv A outer s H vs Q E hr h=>?_)
  . obtain ⟨v_0, v_1, v_2, v_3, v_4, a_0, a_1, a_2, a_3, a_4, b, rfl, _⟩:=h; rfl
  obtain ⟨v_0, v_1, v_2, v_3, v_4, a_0, a_1, a_2, a_3, a_4, b, rfl, h_0, h_1, h_2, h_3, h_4, hm, q⟩:=h
  have hu:=hu8 hr
  have hu1:=YD hr
  refine ⟨_, (Xd (Ya PassesOwn.never rfl (F8 (K:=K) rfl (pv 2)) (Xz (i:=5) Qr.nd rfl (Or.inl rfl))
      (Xd (X8 (PW.pt (UT (D0 (C0 EQ Z5 Xg (pv 5) (Xn (Xi K rfl) rfl Z.b_len PySem.boot_len (Xc (pv 1) Xf)))) (Vj (Xp J9 (Iz PySem.F.plainAttrs_tuple PySem.F.slot_tuple_count PySem.F.type_tuple_count (DZ K rfl) (pv 2) (Xc (pv 5) Xf)) Xg (Xs _)))))
        (Xd (XE JJ)
        Xh)
        Xh)
      Xh))
    (Xd (X8 (PW.pt (UT (Xp Z5 (Xn (FY rfl) rfl Z.b_min PyProof.Rows.boot_min (Xc (pv 3) (Xc (pv 4) Xf))) Xg (Xs _)) (Vj (Xp Bm (Xn (UN rfl) rfl Z.b_max PyProof.Rows.boot_max (Xc (pv 3) (Xc (pv 4) Xf))) (Xn (Xi K rfl) rfl Z.b_len PySem.boot_len (Xc (pv 2) Xf)) (Xs _)))))
      (Xd (XE JJ)
      Xh)
      Xh)
    (Xd (Xw (i:=6) Qr.nd rfl (Or.inl rfl) (XH (Xl K rfl) (XH (Xl K rfl) (pv 0) (pv 3) (fun _ _=>rfl)) (pv 4) (fun _ _=>rfl)))
    (Xd (XE (KC (Z6 Z5 (pv 6) (Xn (Xi K rfl) rfl Z.b_len PySem.boot_len (Xc (pv 2) Xf)) (Xs _)) (K2 (Z6 Jc (XH (Xl K rfl) (XH (Xl K rfl) (pv 1) (XH (Zw K rfl) (pv 2) (pv 3) (fun _ _=>rfl)) (fun _ _=>rfl)) (XH (Zw K rfl) (pv 2) (pv 4) (fun _ _=>rfl)) (fun _ _=>rfl)) (XH (Zw K rfl) (pv 2) (pv 6) (fun _ _=>rfl)) (Xs _)))))
    Xh)))), ?_⟩
  refine YM (S:=(SC.add (SC.add (SC.add (SC.add (SC.add SC.nil K (rV (rV Xa)) v_0 a_0) K (rV (rV Xa)) v_1 a_1) K (rPL Xa) v_2 a_2) K Xa v_3 a_3) K Xa v_4 a_4)) (σ:=[some v_0, some v_1, some v_2, some v_3, some v_4, none, none]) 0 ?_ (SC.i (SC.i (SC.i (SC.i (SC.i SC.t h_0) h_1) h_2) h_3) h_4) hm q rfl
  unfold YJ
  exact (VG (K:=K) (J:=({ oo:=fun x1=>[], ss:=fun x1=>[some v_0, some v_1, some v_2, some v_3, some v_4, x1, none], sc:=fun g2 x1=>(SC.add (SC.add (SC.add (SC.add (SC.add SC.nil K (rV (rV Xa)) v_0 a_0) K (rV (rV Xa)) v_1 a_1) K (rPL Xa) v_2 a_2) K Xa v_3 a_3) K Xa v_4 a_4) } : Jn (Unit) (Option V))) (fun _=>tg1 5) ((none)) () (KW (Xr (r:=(rPL Xa)) 2 rfl (fun _ s=>(SC.r (SC.l (SC.l s)))))) rfl rfl (fun _ s=>(SC.i (SC.i (SC.i (SC.i (SC.i SC.t (SC.r (SC.l (SC.l (SC.l (SC.l s)))))) (SC.r (SC.l (SC.l (SC.l s))))) (SC.r (SC.l (SC.l s)))) (SC.r (SC.l s))) (SC.r s))) (fun g3 x4 a5 v6=>(V4 (JM (U8 (Xj (K:=K) (J4 (Xe 0) (Xb (r:=Xa) 5 rfl (fun _ s=>(SC.r s))) (XI (Xb (r:=(rV (rV Xa))) 1 rfl (fun _ s=>(SC.r (SC.l (SC.l (SC.l (SC.l s))))))))))) (Xj (K:=K) (Qh (GG (Xb (r:=(rPL Xa)) 2 rfl (fun _ s=>(SC.r (SC.l (SC.l (SC.l s)))))) (Xb (r:=Xa) 5 rfl (fun _ s=>(SC.r s)))) (Xe 1)))) (XD (EvS.ev (EvB.sh (ZZ false)))) (Vk (Xq (J:=_) ((some v6)) () rfl rfl (fun _ s=>(SC.i (SC.i (SC.i (SC.i (SC.i SC.t (SC.r (SC.l (SC.l (SC.l (SC.l (SC.l s))))))) (SC.r (SC.l (SC.l (SC.l (SC.l s)))))) (SC.r (SC.l (SC.l (SC.l s))))) (SC.r (SC.l (SC.l s)))) (SC.r (SC.l s)))))))) fun g19 x20=>(YQ (JM (Xj (K:=K) (Zp (Eb (Xb (r:=Xa) 3 rfl (fun _ s=>(SC.r (SC.l s)))) (Xb (r:=Xa) 4 rfl (fun _ s=>(SC.r s)))) (Xe 0))) (Xj (K:=K) (KZ (FK (Xb (r:=Xa) 3 rfl (fun _ s=>(SC.r (SC.l s)))) (Xb (r:=Xa) 4 rfl (fun _ s=>(SC.r s)))) (ZD (Xb (r:=(rPL Xa)) 2 rfl (fun _ s=>(SC.r (SC.l (SC.l s))))))))) (XD (EvS.ev (EvB.sh (ZZ false)))) (XS (K:=K) (r:=Xa) 6 (EvB.sh (Xy (Xy (Xb (r:=(rV (rV Xa))) 0 rfl (fun _ s=>(SC.r (SC.l (SC.l (SC.l (SC.l s))))))) (Xb (r:=Xa) 3 rfl (fun _ s=>(SC.r (SC.l s))))) (Xb (r:=Xa) 4 rfl (fun _ s=>(SC.r s))))) fun a31 v32=>(XD (EvS.ev (EvB.sh (Jg (Zp (Xb (r:=Xa) 6 rfl (fun _ s=>(SC.r s))) (ZD (Xb (r:=(rPL Xa)) 2 rfl (fun _ s=>(SC.r (SC.l (SC.l (SC.l s)))))))) (ZP (Xy (Xy (Xb (r:=(rV (rV Xa))) 1 rfl (fun _ s=>(SC.r (SC.l (SC.l (SC.l (SC.l s))))))) (QM (Xb (r:=(rPL Xa)) 2 rfl (fun _ s=>(SC.r (SC.l (SC.l (SC.l s)))))) (Xb (r:=Xa) 3 rfl (fun _ s=>(SC.r (SC.l (SC.l s))))))) (QM (Xb (r:=(rPL Xa)) 2 rfl (fun _ s=>(SC.r (SC.l (SC.l (SC.l s)))))) (Xb (r:=Xa) 4 rfl (fun _ s=>(SC.r (SC.l s)))))) (QM (Xb (r:=(rPL Xa)) 2 rfl (fun _ s=>(SC.r (SC.l (SC.l (SC.l s)))))) (Xb (r:=Xa) 6 rfl (fun _ s=>(SC.r s))))))))))))
theorem Zh : FnScope ["_law_one", "_law_other", "_law_paper", "_law_shut_here", "_law_images", "_law_a", "_law_b", "_law_found", "_law_k", "_law_standing", "_law_longer_here"] ["_law_one", "_law_other", "_law_paper"] (Xk DL):=⟨rfl, rfl, rfl, by decide +kernel, rfl, by decide +kernel, by decide +kernel⟩
set_option maxHeartbeats 4000000 in
theorem E5 (D : Def K mg "_law_shut" DL ["_law_one", "_law_other", "_law_paper"]) (g_l_breaks : Fn P w K mg base 1 "_law_breaks" ["_law_one", "_law_other", "_law_images", "_law_a", "_law_b"] (sp5 (rV (rV Xa)) (rV (rV Xa)) (rPL Xa) Xa Xa (oF XC) YJ K)) (g_longer : Fn P w K mg base 1 "_law_longer" ["_law_images", "_law_size"] (sp2 (rV Xa) Xa (oL (oL (oF Xa))) YZ K)) (Z : Blt mg) : Fn P w K mg base 2 "_law_shut" ["_law_one", "_law_other", "_law_paper"] (sp3 (rV (rV Xa)) (rV (rV Xa)) (rV (rP3 (rPL Xa) Xa Xa)) (oF XC) QX K):=by
  refine YG D Zh (fun vs H Q E h=>?_) (fun f cdv A outer s H vs Q E hr h=>?_)
  . obtain ⟨v_0, v_1, v_2, a_0, a_1, a_2, b, rfl, _⟩:=h; rfl
  obtain ⟨v_0, v_1, v_2, a_0, a_1, a_2, b, rfl, h_0, h_1, h_2, hm, q⟩:=h
  have hu:=hu8 hr
  have hu1:=YD hr
  refine ⟨_, (Xd (X8 (Xp Jc (Xn (Xi K rfl) rfl Z.b_len PySem.boot_len (Xc (pv 0) Xf)) (Xn (Xi K rfl) rfl Z.b_len PySem.boot_len (Xc (pv 1) Xf)) (Xs _))
      (Xd (XE JJ)
      Xh)
      Xh)
    (Xd (Xw (i:=3) Zh.nd rfl (Or.inl rfl) Cq)
    (Xd (Ya PassesOwn.never rfl (Ym (K:=K) rfl (pv 2)) (De rfl (Zs (Xz (i:=4) Zh.nd rfl (Or.inl rfl)) (Zs (Xz (i:=5) Zh.nd rfl (Or.inl rfl)) (Zs (Xz (i:=6) Zh.nd rfl (Or.inl rfl)) Ki))))
      (Xd (X8 (Vb (X2 g_l_breaks hr (by decide) (Xc (pv 0) (Xc (pv 1) (Xc (pv 4) (Xc (pv 5) (Xc (pv 6) Xf)))))))
        (Xd (B5 hu1 (pv 3) (pv 4) JJ rfl)
        Xh)
        Xh)
      Xh))
    (Xd (Xw (i:=7) Zh.nd rfl (Or.inl rfl) (XQ (Xc (XQ Xf) Xf Ze)))
    (Xd (Ya PassesOwn.never rfl (XJ rfl Z.b_range (Xc (Xn (Xi K rfl) rfl Z.b_len PySem.boot_len (Xc (pv 0) Xf)) Xf)) (Xz (i:=8) Zh.nd rfl (Or.inl rfl))
      (Xd (Xw (i:=9) Zh.nd rfl (Or.inl rfl) (XQ Xf))
      (Xd (Ya PassesOwn.never rfl (Ym (K:=K) rfl (pv 7)) (Xz (i:=4) Zh.nd rfl (Or.inl rfl))
        (Xd (Ya PassesOwn.never rfl (Ym (K:=K) rfl (X2 g_longer hr (by decide) (Xc (pv 4) (Xc (Xn (Xi K rfl) rfl Z.b_len PySem.boot_len (Xc (pv 0) Xf)) Xf)))) (Xz (i:=10) Zh.nd rfl (Or.inl rfl))
          (Xd (X8 (HB (Fw hu1 (Yu (Y0 K rfl) rfl Z.b_tuple PyProof.Rows.boot_tuple (Xc (pv 10) Xf)) (pv 3)))
            (Xd (YH (QJ PySem.F.plainAttrs_list PySem.F.slot_list_append PySem.F.type_list_append Ye (pv 9) (Xc (pv 10) Xf)))
            Xh)
            Xh)
          Xh))
        Xh))
      (Xd (Xw (i:=7) Zh.nd rfl (Or.inl rfl) (pv 9))
      Xh))))
    (Xd (XE (Z6 Y8 (Xn (Xi K rfl) rfl Z.b_len PySem.boot_len (Xc (pv 7) Xf)) Xg (Xs _)))
    Xh)))))), ?_⟩
  refine YM (S:=(SC.add (SC.add (SC.add SC.nil K (rV (rV Xa)) v_0 a_0) K (rV (rV Xa)) v_1 a_1) K (rV (rP3 (rPL Xa) Xa Xa)) v_2 a_2)) (σ:=[some v_0, some v_1, some v_2, none, none, none, none, none, none, none, none]) 5 ?_ (SC.i (SC.i (SC.i SC.t h_0) h_1) h_2) hm q rfl
  unfold QX
  exact (YQ (Xj (K:=K) (ZP (XI (Xb (r:=(rV (rV Xa))) 0 rfl (fun _ s=>(SC.r (SC.l (SC.l s)))))) (XI (Xb (r:=(rV (rV Xa))) 1 rfl (fun _ s=>(SC.r (SC.l s))))))) (XD (EvS.ev (EvB.sh (ZZ true)))) (XR (K:=K) (o:=(oDT XC)) 3 0 (CH (r:=XC)) (Nat.le_of_ble_eq_true rfl) fun a6 v7 C8=>(YR (K:=K) (J:=({ oo:=fun x9=>[x9.2.2.2.2, [], [], [], []], ss:=fun x9=>[some v_0, some v_1, some v_2, some x9.2.2.2.1, x9.1, x9.2.1, x9.2.2.1, none, none, none, none], sc:=fun g10 x9=>(SC.addO (SC.add (SC.add (SC.add SC.nil K (rV (rV Xa)) v_0 a_0) K (rV (rV Xa)) v_1 a_1) K (rV (rP3 (rPL Xa) Xa Xa)) v_2 a_2) K (oDT XC) x9.2.2.2.1 g10 x9.2.2.2.2) } : Jn ((List ((List Int) × Bool))) (Option V × Option V × Option V × V × List XA))) (fun _=>tg3 4 5 6) ((none), (none), (none), v7, C8) (a6) (Yo (Xr (r:=(rV (rP3 (rPL Xa) Xa Xa))) 2 rfl (fun _ s=>(SC.r (SC.l s))))) rfl rfl (fun _ s=>(SC.i (SC.i (SC.i (SC.i SC.t (SC.r (SC.l (SC.l (SC.l s))))) (SC.r (SC.l (SC.l s)))) (SC.r (SC.l s))) (SC.r s))) (fun g11 x12 a13 v14=>(Yf (J:=({ oo:=fun x22=>[x22.2, [], [], [], []], ss:=fun x22=>[some v_0, some v_1, some v_2, some x22.1, some v14.1, some v14.2.1, some v14.2.2, none, none, none, none], sc:=fun g23 x22=>(SC.addO (SC.add (SC.add (SC.add (SC.add (SC.add (SC.add SC.nil K (rV (rV Xa)) v_0 a_0) K (rV (rV Xa)) v_1 a_1) K (rV (rP3 (rPL Xa) Xa Xa)) v_2 a_2) K (rPL Xa) v14.1 a13.1) K Xa v14.2.1 a13.2.1) K Xa v14.2.2 a13.2.2) K (oDT XC) x22.1 g23 x22.2) } : Jn ((List ((List Int) × Bool))) (V × List XA))) (YS (Fd:=FNd ({ oo:=fun x22=>[x22.2, [], [], [], []], ss:=fun x22=>[some v_0, some v_1, some v_2, some x22.1, some v14.1, some v14.2.1, some v14.2.2, none, none, none, none], sc:=fun g23 x22=>(SC.addO (SC.add (SC.add (SC.add (SC.add (SC.add (SC.add SC.nil K (rV (rV Xa)) v_0 a_0) K (rV (rV Xa)) v_1 a_1) K (rV (rP3 (rPL Xa) Xa Xa)) v_2 a_2) K (rPL Xa) v14.1 a13.1) K Xa v14.2.1 a13.2.1) K Xa v14.2.2 a13.2.2) K (oDT XC) x22.1 g23 x22.2) } : Jn ((List ((List Int) × Bool))) (V × List XA))) (Uo (K:=K) (Ev.toB (Jm (Xb (r:=(rV (rV Xa))) 0 rfl (fun _ s=>(SC.r (SC.l (SC.l (SC.l (SC.l (SC.l (SC.l s))))))))) (Xb (r:=(rV (rV Xa))) 1 rfl (fun _ s=>(SC.r (SC.l (SC.l (SC.l (SC.l (SC.l s)))))))) (Xb (r:=(rPL Xa)) 4 rfl (fun _ s=>(SC.r (SC.l (SC.l s))))) (Xb (r:=Xa) 5 rfl (fun _ s=>(SC.r (SC.l s)))) (Xb (r:=Xa) 6 rfl (fun _ s=>(SC.r s)))))) (CA (K:=K) (r:=XC) (f:=fun a26=>(Res.ok (a26))) 3 0 rfl rfl (fun _ s=>(SC.r (SC.l (SC.l (SC.l s))))) (EvB.sh (ZZ true)) (Xb (r:=(rPL Xa)) 4 rfl (fun _ s=>(SC.r (SC.l (SC.l s))))) fun a26 C27=>(Xq (J:=_) (x12.2.2.2.1, C27) (a26) rfl rfl (fun _ s=>(SC.i (SC.i (SC.i (SC.i (SC.i (SC.i (SC.i SC.t (SC.r (SC.l (SC.l (SC.l (SC.l (SC.l (SC.l (SC.l s))))))))) (SC.r (SC.l (SC.l (SC.l (SC.l (SC.l (SC.l s)))))))) (SC.r (SC.l (SC.l (SC.l (SC.l (SC.l s))))))) (SC.r (SC.l (SC.l (SC.l s))))) (SC.r (SC.l (SC.l s)))) (SC.r (SC.l s))) (SC.r s))))) (Xq (J:=_) (x12.2.2.2.1, x12.2.2.2.2) (g11) rfl rfl (fun _ s=>(SC.i (SC.i (SC.i (SC.i (SC.i (SC.i (SC.i SC.t (SC.r (SC.l (SC.l (SC.l (SC.l (SC.l (SC.l s)))))))) (SC.r (SC.l (SC.l (SC.l (SC.l (SC.l s))))))) (SC.r (SC.l (SC.l (SC.l (SC.l s)))))) (SC.r (SC.l (SC.l s)))) (SC.r (SC.l s))) (SC.r s)) (SC.r (SC.l (SC.l (SC.l s)))))))) fun g29 x28=>(Xq (J:=_) ((some v14.1), (some v14.2.1), (some v14.2.2), x28.1, x28.2) (g29) rfl rfl (fun _ s=>(SC.i (SC.i (SC.i (SC.i SC.t (SC.r (SC.l (SC.l (SC.l (SC.l (SC.l (SC.l s)))))))) (SC.r (SC.l (SC.l (SC.l (SC.l (SC.l s))))))) (SC.r (SC.l (SC.l (SC.l (SC.l s)))))) (SC.r s)))))) fun g30 x31=>(XR (K:=K) (o:=(oL (oL (oF Xa)))) 7 4 (Jx (Y6 (ZR (o:=(oF Xa))) fun _=>QF)) (Nat.le_of_ble_eq_true rfl) fun a32 v33 C34=>(YR (K:=K) (J:=({ oo:=fun x40=>[x31.2.2.2.2, [], [], [], x40.2.2.2.2.2], ss:=fun x40=>[some v_0, some v_1, some v_2, some x31.2.2.2.1, x40.2.2.1, x31.2.1, x31.2.2.1, some x40.2.2.2.1, x40.1, x40.2.1, x40.2.2.2.2.1], sc:=fun g41 x40=>(SC.addO (SC.addO (SC.add (SC.add (SC.add SC.nil K (rV (rV Xa)) v_0 a_0) K (rV (rV Xa)) v_1 a_1) K (rV (rP3 (rPL Xa) Xa Xa)) v_2 a_2) K (oDT XC) x31.2.2.2.1 g30 x31.2.2.2.2) K (oL (oL (oF Xa))) x40.2.2.2.1 g41 x40.2.2.2.2.2) } : Jn ((List (List Int))) (Option V × Option V × Option V × V × Option V × List XA))) (fun _=>tg1 8) ((none), (none), (x31.1), v33, (none), C34) (a32) (XB (XI (Xb (r:=(rV (rV Xa))) 0 rfl (fun _ s=>(SC.r (SC.l (SC.l (SC.l (SC.l s))))))))) rfl rfl (fun _ s=>(SC.i (SC.i (SC.i (SC.i (SC.i SC.t (SC.r (SC.l (SC.l (SC.l (SC.l s)))))) (SC.r (SC.l (SC.l (SC.l s))))) (SC.r (SC.l (SC.l s)))) (SC.r (SC.l s))) (SC.r s))) (fun g42 x43 a44 v45=>(XR (K:=K) (o:=(oL (oL (oF Xa)))) 9 1 (ZR (o:=(oL (oF Xa)))) (Nat.le_of_ble_eq_true rfl) fun a46 v47 C48=>(DN (K:=K) (o:=(oL (oL (oF Xa)))) 4 rfl (fun _ s=>(SC.r (SC.l (SC.l s)))) (YR (K:=K) (J:=({ oo:=fun x49=>[x31.2.2.2.2, x49.2.2.2, [], [], []], ss:=fun x49=>[some v_0, some v_1, some v_2, some x31.2.2.2.1, x49.1, x31.2.1, x31.2.2.1, some x43.2.2.2.1, some v45, some x49.2.2.1, x49.2.1], sc:=fun g50 x49=>(SC.addO (SC.add (SC.add (SC.addO (SC.add (SC.add (SC.add SC.nil K (rV (rV Xa)) v_0 a_0) K (rV (rV Xa)) v_1 a_1) K (rV (rP3 (rPL Xa) Xa Xa)) v_2 a_2) K (oDT XC) x31.2.2.2.1 g30 x31.2.2.2.2) K (rV (rV Xa)) x43.2.2.2.1 g42) K Xa v45 a44) K (oL (oL (oF Xa))) x49.2.2.1 g50 x49.2.2.2) } : Jn ((List (List Int))) (Option V × Option V × V × List XA))) (fun _=>tg1 4) ((x43.2.2.1), (x43.2.2.2.2.1), v47, C48) (a46) (Yo (Xr (r:=(rV (rV Xa))) 7 rfl (fun _ s=>(SC.r s)))) rfl rfl (fun _ s=>(SC.i (SC.i (SC.i (SC.i (SC.i (SC.i (SC.i SC.t (SC.r (SC.l (SC.l (SC.l (SC.l (SC.l (SC.l (SC.l s))))))))) (SC.r (SC.l (SC.l (SC.l (SC.l (SC.l (SC.l s)))))))) (SC.r (SC.l (SC.l (SC.l (SC.l (SC.l s))))))) (SC.r (SC.l (SC.l (SC.l (SC.l s)))))) (SC.r s)) (SC.r (SC.l (SC.l s)))) (SC.r (SC.l s)))) (fun g51 x52 a53 v54=>(Kc (K:=K) (o:=(oL (oF Xa))) (J:=({ oo:=fun x59=>[x31.2.2.2.2, x59.2.2, [], [], []], ss:=fun x59=>[some v_0, some v_1, some v_2, some x31.2.2.2.1, some v54, x31.2.1, x31.2.2.1, some x43.2.2.2.1, some v45, some x59.2.1, x59.1], sc:=fun g60 x59=>(SC.addO (SC.add (SC.add (SC.add (SC.addO (SC.add (SC.add (SC.add SC.nil K (rV (rV Xa)) v_0 a_0) K (rV (rV Xa)) v_1 a_1) K (rV (rP3 (rPL Xa) Xa Xa)) v_2 a_2) K (oDT XC) x31.2.2.2.1 g30 x31.2.2.2.2) K (rV (rV Xa)) x43.2.2.2.1 g42) K Xa v45 a44) K (rV Xa) v54 a53) K (oL (oL (oF Xa))) x59.2.1 g60 x59.2.2) } : Jn ((List (List Int))) (Option V × V × List XA))) 2 3 10 ((x52.2.1), x52.2.2.1, x52.2.2.2) (g51) (XN (Xb (r:=(rV Xa)) 4 rfl (fun _ s=>(SC.r s))) (XI (Xb (r:=(rV (rV Xa))) 0 rfl (fun _ s=>(SC.r (SC.l (SC.l (SC.l (SC.l (SC.l (SC.l (SC.l s)))))))))))) rfl rfl (fun _ s=>(SC.i (SC.i (SC.i (SC.i (SC.i (SC.i (SC.i (SC.i SC.t (SC.r (SC.l (SC.l (SC.l (SC.l (SC.l (SC.l (SC.l s))))))))) (SC.r (SC.l (SC.l (SC.l (SC.l (SC.l (SC.l s)))))))) (SC.r (SC.l (SC.l (SC.l (SC.l (SC.l s))))))) (SC.r (SC.l (SC.l (SC.l (SC.l s)))))) (SC.r (SC.l (SC.l (SC.l s))))) (SC.r (SC.l (SC.l s)))) (SC.r s)) (SC.r (SC.l s)))) (fun _=>rfl) (fun _=>rfl) (by decide) (fun R66 g61 x62 a63 v64 C65=>(Yf (J:=({ oo:=fun x71=>[x31.2.2.2.2, x71.2.2, [], R66, []], ss:=fun x71=>[some v_0, some v_1, some v_2, some x31.2.2.2.1, some v54, x31.2.1, x31.2.2.1, some x43.2.2.2.1, some v45, some x71.1, x71.2.1], sc:=fun g72 x71=>(SC.addO (SC.add (SC.add (SC.add (SC.addO (SC.add (SC.add (SC.add SC.nil K (rV (rV Xa)) v_0 a_0) K (rV (rV Xa)) v_1 a_1) K (rV (rP3 (rPL Xa) Xa Xa)) v_2 a_2) K (oDT XC) x31.2.2.2.1 g30 x31.2.2.2.2) K (rV (rV Xa)) x43.2.2.2.1 g42) K Xa v45 a44) K (rV Xa) v54 a53) K (oL (oL (oF Xa))) x71.1 g72 x71.2.2) } : Jn ((List (List Int))) (V × Option V × List XA))) (YS (Fd:=FNd ({ oo:=fun x71=>[x31.2.2.2.2, x71.2.2, [], R66, []], ss:=fun x71=>[some v_0, some v_1, some v_2, some x31.2.2.2.1, some v54, x31.2.1, x31.2.2.1, some x43.2.2.2.1, some v45, some x71.1, x71.2.1], sc:=fun g72 x71=>(SC.addO (SC.add (SC.add (SC.add (SC.addO (SC.add (SC.add (SC.add SC.nil K (rV (rV Xa)) v_0 a_0) K (rV (rV Xa)) v_1 a_1) K (rV (rP3 (rPL Xa) Xa Xa)) v_2 a_2) K (oDT XC) x31.2.2.2.1 g30 x31.2.2.2.2) K (rV (rV Xa)) x43.2.2.2.1 g42) K Xa v45 a44) K (rV Xa) v54 a53) K (oL (oL (oF Xa))) x71.1 g72 x71.2.2) } : Jn ((List (List Int))) (V × Option V × List XA))) (Uo (K:=K) (Dk (Qa (Yk (o:=(oL (oF Xa))) 10 2 rfl rfl (fun _ s=>(SC.r s)))) (Yk (o:=(oDT XC)) 3 0 rfl rfl (fun _ s=>(SC.r (SC.l (SC.l (SC.l (SC.l (SC.l s)))))))))) (ZO (K:=K) (o:=(oL (oF Xa))) (f:=fun a75=>(Res.ok (a75))) 9 1 rfl rfl rfl (fun _ s=>(SC.r (SC.l s))) (X3 (o:=(oL (oF Xa))) 10 2 rfl rfl (fun _ s=>(SC.r s))) fun a73 C74=>(Xq (J:=_) (x62.2.1, (some v64), C74) ((g61 ++ [a73])) rfl rfl (fun _ s=>(SC.i (SC.i (SC.i (SC.i (SC.i (SC.i (SC.i (SC.i SC.t (SC.r (SC.l (SC.l (SC.l (SC.l (SC.l (SC.l (SC.l (SC.l (SC.l s))))))))))) (SC.r (SC.l (SC.l (SC.l (SC.l (SC.l (SC.l (SC.l (SC.l s)))))))))) (SC.r (SC.l (SC.l (SC.l (SC.l (SC.l (SC.l (SC.l s))))))))) (SC.r (SC.l (SC.l (SC.l (SC.l (SC.l (SC.l s)))))))) (SC.r (SC.l (SC.l (SC.l (SC.l (SC.l s))))))) (SC.r (SC.l (SC.l (SC.l (SC.l s)))))) (SC.r (SC.l (SC.l (SC.l s))))) (SC.r s))))) (UU 2 (Xq (J:=_) (x62.2.1, (some v64), x62.2.2) (g61) rfl rfl (fun _ s=>(SC.i (SC.i (SC.i (SC.i (SC.i (SC.i (SC.i (SC.i SC.t (SC.r (SC.l (SC.l (SC.l (SC.l (SC.l (SC.l (SC.l (SC.l s)))))))))) (SC.r (SC.l (SC.l (SC.l (SC.l (SC.l (SC.l (SC.l s))))))))) (SC.r (SC.l (SC.l (SC.l (SC.l (SC.l (SC.l s)))))))) (SC.r (SC.l (SC.l (SC.l (SC.l (SC.l s))))))) (SC.r (SC.l (SC.l (SC.l (SC.l s)))))) (SC.r (SC.l (SC.l (SC.l s))))) (SC.r (SC.l (SC.l s)))) (SC.r (SC.l s))))))) fun g77 x76=>(Xq (J:=_) ((x76.2.1), x76.1, x76.2.2) (g77) rfl rfl (fun _ s=>(SC.i (SC.i (SC.i (SC.i (SC.i (SC.i (SC.i (SC.i SC.t (SC.r (SC.l (SC.l (SC.l (SC.l (SC.l (SC.l (SC.l s))))))))) (SC.r (SC.l (SC.l (SC.l (SC.l (SC.l (SC.l s)))))))) (SC.r (SC.l (SC.l (SC.l (SC.l (SC.l s))))))) (SC.r (SC.l (SC.l (SC.l (SC.l s)))))) (SC.r (SC.l (SC.l (SC.l s))))) (SC.r (SC.l (SC.l s)))) (SC.r (SC.l s))) (SC.r s)))))) fun g78 x79=>(Xq (J:=_) ((some v54), (x79.1), x79.2.1, x79.2.2) (g78) rfl rfl (fun _ s=>(SC.i (SC.i (SC.i (SC.i (SC.i (SC.i (SC.i SC.t (SC.r (SC.l (SC.l (SC.l (SC.l (SC.l (SC.l (SC.l s))))))))) (SC.r (SC.l (SC.l (SC.l (SC.l (SC.l (SC.l s)))))))) (SC.r (SC.l (SC.l (SC.l (SC.l (SC.l s))))))) (SC.r (SC.l (SC.l (SC.l (SC.l s)))))) (SC.r (SC.l (SC.l (SC.l s))))) (SC.r (SC.l (SC.l s)))) (SC.r s)))))) fun g81 x82=>(XR (K:=K) (o:=(oL (oL (oF Xa)))) 7 4 (X3 (o:=(oL (oL (oF Xa)))) 9 1 rfl rfl (fun _ s=>(SC.r s))) (Nat.le_of_ble_eq_true rfl) fun a83 v84 C85=>(Xq (J:=_) ((some v45), (some x82.2.2.1), (x82.1), v84, (x82.2.1), C85) (a83) rfl rfl (fun _ s=>(SC.i (SC.i (SC.i (SC.i (SC.i SC.t (SC.r (SC.l (SC.l (SC.l (SC.l (SC.l (SC.l (SC.l s))))))))) (SC.r (SC.l (SC.l (SC.l (SC.l (SC.l (SC.l s)))))))) (SC.r (SC.l (SC.l (SC.l (SC.l (SC.l s))))))) (SC.r (SC.l (SC.l (SC.l (SC.l s)))))) (SC.r s))))))))) fun g87 x88=>(XD (EvS.ev (EvB.sh (Yh (XI (Yk (o:=(oL (oL (oF Xa)))) 7 4 rfl rfl (fun _ s=>(SC.r s)))) (Xe 0))))))))))
theorem JW : FnScope ["_law_one", "_law_other", "_law_images", "_law_a", "_law_b"] ["_law_one", "_law_other", "_law_images"] (Xk VZ):=⟨rfl, rfl, rfl, by decide +kernel, rfl, by decide +kernel, by decide +kernel⟩
set_option maxHeartbeats 4000000 in
theorem DJ (D : Def K mg "_law_breach" VZ ["_law_one", "_law_other", "_law_images"]) (g_l_breaks : Fn P w K mg base 1 "_law_breaks" ["_law_one", "_law_other", "_law_images", "_law_a", "_law_b"] (sp5 (rV (rV Xa)) (rV (rV Xa)) (rPL Xa) Xa Xa (oF XC) YJ K)) (Z : Blt mg) : Fn P w K mg base 2 "_law_breach" ["_law_one", "_law_other", "_law_images"] (sp3 (rV (rV Xa)) (rV (rV Xa)) (rPL Xa) (oF (KL (rP3 (rPL Xa) Xa Xa))) Qc K):=by
  refine YG D JW (fun vs H Q E h=>?_) (fun f cdv A outer s H vs Q E hr h=>?_)
  . obtain ⟨v_0, v_1, v_2, a_0, a_1, a_2, b, rfl, _⟩:=h; rfl
  obtain ⟨v_0, v_1, v_2, a_0, a_1, a_2, b, rfl, h_0, h_1, h_2, hm, q⟩:=h
  have hu:=hu8 hr
  have hu1:=YD hr
  refine ⟨_, (Xd (Ya PassesOwn.never rfl (XJ rfl Z.b_range (Xc (Xn (Xi K rfl) rfl Z.b_len PySem.boot_len (Xc (pv 2) Xf)) Xf)) (Xz (i:=3) JW.nd rfl (Or.inl rfl))
      (Xd (Ya PassesOwn.never rfl (XJ rfl Z.b_range (Xc (Xn (Xi K rfl) rfl Z.b_len PySem.boot_len (Xc (pv 2) Xf)) Xf)) (Xz (i:=4) JW.nd rfl (Or.inl rfl))
        (Xd (X8 (Vb (X2 g_l_breaks hr (by decide) (Xc (pv 0) (Xc (pv 1) (Xc (pv 2) (Xc (pv 3) (Xc (pv 4) Xf)))))))
          (Xd (XE (Zb (Xc (pv 2) (Xc (pv 3) (Xc (pv 4) Xf)))))
          Xh)
          Xh)
        Xh))
      Xh))
    (Xd (XE BL)
    Xh)), ?_⟩
  refine YM (S:=(SC.add (SC.add (SC.add SC.nil K (rV (rV Xa)) v_0 a_0) K (rV (rV Xa)) v_1 a_1) K (rPL Xa) v_2 a_2)) (σ:=[some v_0, some v_1, some v_2, none, none]) 0 ?_ (SC.i (SC.i (SC.i SC.t h_0) h_1) h_2) hm q rfl
  unfold Qc
  exact (VG (K:=K) (J:=({ oo:=fun x3=>[], ss:=fun x3=>[some v_0, some v_1, some v_2, x3.1, x3.2], sc:=fun g4 x3=>(SC.add (SC.add (SC.add SC.nil K (rV (rV Xa)) v_0 a_0) K (rV (rV Xa)) v_1 a_1) K (rPL Xa) v_2 a_2) } : Jn (Unit) (Option V × Option V))) (fun _=>tg1 3) ((none), (none)) () (XB (ZD (Xb (r:=(rPL Xa)) 2 rfl (fun _ s=>(SC.r s))))) rfl rfl (fun _ s=>(SC.i (SC.i (SC.i SC.t (SC.r (SC.l (SC.l s)))) (SC.r (SC.l s))) (SC.r s))) (fun g5 x6 a7 v8=>(KH (K:=K) (J:=({ oo:=fun x11=>[], ss:=fun x11=>[some v_0, some v_1, some v_2, some v8, x11], sc:=fun g12 x11=>(SC.add (SC.add (SC.add (SC.add SC.nil K (rV (rV Xa)) v_0 a_0) K (rV (rV Xa)) v_1 a_1) K (rPL Xa) v_2 a_2) K Xa v8 a7) } : Jn (Unit) (Option V))) (fun _=>tg1 4) ((x6.2)) () (XB (ZD (Xb (r:=(rPL Xa)) 2 rfl (fun _ s=>(SC.r (SC.l s)))))) rfl rfl (fun _ s=>(SC.i (SC.i (SC.i (SC.i SC.t (SC.r (SC.l (SC.l (SC.l s))))) (SC.r (SC.l (SC.l s)))) (SC.r (SC.l s))) (SC.r s))) (fun g13 x14 a15 v16=>(V4 (Uo (K:=K) (Ev.toB (Jm (Xb (r:=(rV (rV Xa))) 0 rfl (fun _ s=>(SC.r (SC.l (SC.l (SC.l (SC.l s))))))) (Xb (r:=(rV (rV Xa))) 1 rfl (fun _ s=>(SC.r (SC.l (SC.l (SC.l s)))))) (Xb (r:=(rPL Xa)) 2 rfl (fun _ s=>(SC.r (SC.l (SC.l s))))) (Xb (r:=Xa) 3 rfl (fun _ s=>(SC.r (SC.l s)))) (Xb (r:=Xa) 4 rfl (fun _ s=>(SC.r s)))))) (XD (C9 IW (EvS.ev (Y1 (Xr (r:=(rPL Xa)) 2 rfl (fun _ s=>(SC.r (SC.l (SC.l s))))) (Xr (r:=Xa) 3 rfl (fun _ s=>(SC.r (SC.l s)))) (Xr (r:=Xa) 4 rfl (fun _ s=>(SC.r s))))))) (Vk (Xq (J:=_) ((some v16)) () rfl rfl (fun _ s=>(SC.i (SC.i (SC.i (SC.i SC.t (SC.r (SC.l (SC.l (SC.l (SC.l s)))))) (SC.r (SC.l (SC.l (SC.l s))))) (SC.r (SC.l (SC.l s)))) (SC.r (SC.l s)))))))) fun g30 x31=>(Vk (Xq (J:=_) ((some v8), (x31)) () rfl rfl (fun _ s=>(SC.i (SC.i (SC.i SC.t (SC.r (SC.l (SC.l (SC.l s))))) (SC.r (SC.l (SC.l s)))) (SC.r (SC.l s)))))))) fun g34 x35=>(XD E1))
theorem X7 : FnScope ["_law_one", "_law_other", "_law_paper", "_law_found", "_law_k", "_law_standing", "_law_images", "_law_longer_here", "_law_entry"] ["_law_one", "_law_other"] (Xk Ql):=⟨rfl, rfl, rfl, by decide +kernel, rfl, by decide +kernel, by decide +kernel⟩
set_option maxHeartbeats 4000000 in
theorem Uk (D : Def K mg "_law_own_paper" Ql ["_law_one", "_law_other"]) (g_longer : Fn P w K mg base 1 "_law_longer" ["_law_images", "_law_size"] (sp2 (rV Xa) Xa (oL (oL (oF Xa))) YZ K)) (g_breach : Fn P w K mg base 2 "_law_breach" ["_law_one", "_law_other", "_law_images"] (sp3 (rV (rV Xa)) (rV (rV Xa)) (rPL Xa) (oF (KL (rP3 (rPL Xa) Xa Xa))) Qc K)) (Z : Blt mg) : Fn P w K mg base 3 "_law_own_paper" ["_law_one", "_law_other"] (sp2 (rV (rV Xa)) (rV (rV Xa)) (oL (oF (rP3 (rPL Xa) Xa Xa))) Yv K):=by
  refine YG D X7 (fun vs H Q E h=>?_) (fun f cdv A outer s H vs Q E hr h=>?_)
  . obtain ⟨v_0, v_1, a_0, a_1, b, rfl, _⟩:=h; rfl
  obtain ⟨v_0, v_1, a_0, a_1, b, rfl, h_0, h_1, hm, q⟩:=h
  have hu:=hu8 hr
  have hu1:=YD hr
  refine ⟨_, (Xd (X8 (Xp Jc (Xn (Xi K rfl) rfl Z.b_len PySem.boot_len (Xc (pv 0) Xf)) (Xn (Xi K rfl) rfl Z.b_len PySem.boot_len (Xc (pv 1) Xf)) (Xs _))
      (Xd (XE (XQ Xf))
      Xh)
      Xh)
    (Xd (Xw (i:=2) X7.nd rfl (Or.inl rfl) (XQ Xf))
    (Xd (Xw (i:=3) X7.nd rfl (Or.inl rfl) (XQ (Xc (XQ Xf) Xf Ze)))
    (Xd (Ya PassesOwn.never rfl (XJ rfl Z.b_range (Xc (Xn (Xi K rfl) rfl Z.b_len PySem.boot_len (Xc (pv 0) Xf)) Xf)) (Xz (i:=4) X7.nd rfl (Or.inl rfl))
      (Xd (Xw (i:=5) X7.nd rfl (Or.inl rfl) (XQ Xf))
      (Xd (Ya PassesOwn.never rfl (Ym (K:=K) rfl (pv 3)) (Xz (i:=6) X7.nd rfl (Or.inl rfl))
        (Xd (Ya PassesOwn.never rfl (Ym (K:=K) rfl (X2 g_longer hr (by decide) (Xc (pv 6) (Xc (Xn (Xi K rfl) rfl Z.b_len PySem.boot_len (Xc (pv 0) Xf)) Xf)))) (Xz (i:=7) X7.nd rfl (Or.inl rfl))
          (Xd (Xw (i:=8) X7.nd rfl (Or.inl rfl) (X2 g_breach hr (by decide) (Xc (pv 0) (Xc (pv 1) (Xc (Yu (Y0 K rfl) rfl Z.b_tuple PyProof.Rows.boot_tuple (Xc (pv 7) Xf)) Xf)))))
          (Xd (X8 (Xp HW (pv 8) BL (Xs _))
            (Xd (YH (QJ PySem.F.plainAttrs_list PySem.F.slot_list_append PySem.F.type_list_append Ye (pv 5) (Xc (pv 7) Xf)))
            Xh)
            (Xd (YH (QJ PySem.F.plainAttrs_list PySem.F.slot_list_append PySem.F.type_list_append Ye (pv 2) (Xc (pv 8) Xf)))
            Xh))
          Xh)))
        Xh))
      (Xd (Xw (i:=3) X7.nd rfl (Or.inl rfl) (pv 5))
      Xh))))
    (Xd (XE (pv 2))
    Xh))))), ?_⟩
  refine YM (S:=(SC.add (SC.add SC.nil K (rV (rV Xa)) v_0 a_0) K (rV (rV Xa)) v_1 a_1)) (σ:=[some v_0, some v_1, none, none, none, none, none, none, none]) 5 ?_ (SC.i (SC.i SC.t h_0) h_1) hm q rfl
  unfold Yv
  exact (YQ (Xj (K:=K) (ZP (XI (Xb (r:=(rV (rV Xa))) 0 rfl (fun _ s=>(SC.r (SC.l s))))) (XI (Xb (r:=(rV (rV Xa))) 1 rfl (fun _ s=>(SC.r s)))))) (XD (ZR (o:=(oF (rP3 (rPL Xa) Xa Xa))))) (XR (K:=K) (o:=(oL (oF (rP3 (rPL Xa) Xa Xa)))) 2 0 (ZR (o:=(oF (rP3 (rPL Xa) Xa Xa)))) (Nat.le_of_ble_eq_true rfl) fun a6 v7 C8=>(XR (K:=K) (o:=(oL (oL (oF Xa)))) 3 4 (Jx (Y6 (ZR (o:=(oF Xa))) fun _=>QF)) (Nat.le_of_ble_eq_true rfl) fun a9 v10 C11=>(YR (K:=K) (J:=({ oo:=fun x17=>[x17.2.2.2.2.2.2.2.2, [], [], [], x17.2.2.2.2.2.2.2.1], ss:=fun x17=>[some v_0, some v_1, some x17.2.2.2.2.2.2.1, some x17.2.2.2.1, x17.1, x17.2.1, x17.2.2.1, x17.2.2.2.2.1, x17.2.2.2.2.2.1], sc:=fun g18 x17=>(SC.addO (SC.addO (SC.add (SC.add SC.nil K (rV (rV Xa)) v_0 a_0) K (rV (rV Xa)) v_1 a_1) K (oL (oL (oF Xa))) x17.2.2.2.1 g18.1 x17.2.2.2.2.2.2.2.1) K (oL (oF (rP3 (rPL Xa) Xa Xa))) x17.2.2.2.2.2.2.1 g18.2 x17.2.2.2.2.2.2.2.2) } : Jn ((List (List Int)) × (List ((List Int) × Int × Int))) (Option V × Option V × Option V × V × Option V × Option V × V × List XA × List XA))) (fun _=>tg1 4) ((none), (none), (none), v10, (none), (none), v7, C11, C8) (a9, a6) (XB (XI (Xb (r:=(rV (rV Xa))) 0 rfl (fun _ s=>(SC.r (SC.l (SC.l (SC.l s)))))))) rfl rfl (fun _ s=>(SC.i (SC.i (SC.i (SC.i SC.t (SC.r (SC.l (SC.l (SC.l s))))) (SC.r (SC.l (SC.l s)))) (SC.r s)) (SC.r (SC.l s)))) (fun g19 x20 a21 v22=>(XR (K:=K) (o:=(oL (oL (oF Xa)))) 5 1 (ZR (o:=(oL (oF Xa)))) (Nat.le_of_ble_eq_true rfl) fun a23 v24 C25=>(DN (K:=K) (o:=(oL (oL (oF Xa)))) 4 rfl (fun _ s=>(SC.r (SC.l (SC.l (SC.l s))))) (YR (K:=K) (J:=({ oo:=fun x26=>[x26.2.2.2.2.2.2, x26.2.2.2.2.2.1, [], [], []], ss:=fun x26=>[some v_0, some v_1, some x26.2.2.2.2.1, some x20.2.2.2.1, some v22, some x26.2.2.2.1, x26.1, x26.2.1, x26.2.2.1], sc:=fun g27 x26=>(SC.addO (SC.addO (SC.add (SC.add (SC.add (SC.add SC.nil K (rV (rV Xa)) v_0 a_0) K (rV (rV Xa)) v_1 a_1) K (rV (rV Xa)) x20.2.2.2.1 g19.1) K Xa v22 a21) K (oL (oL (oF Xa))) x26.2.2.2.1 g27.1 x26.2.2.2.2.2.1) K (oL (oF (rP3 (rPL Xa) Xa Xa))) x26.2.2.2.2.1 g27.2 x26.2.2.2.2.2.2) } : Jn ((List (List Int)) × (List ((List Int) × Int × Int))) (Option V × Option V × Option V × V × V × List XA × List XA))) (fun _=>tg1 6) ((x20.2.2.1), (x20.2.2.2.2.1), (x20.2.2.2.2.2.1), v24, x20.2.2.2.2.2.2.1, C25, x20.2.2.2.2.2.2.2.2) (a23, g19.2) (Yo (Xr (r:=(rV (rV Xa))) 3 rfl (fun _ s=>(SC.r s)))) rfl rfl (fun _ s=>(SC.i (SC.i (SC.i (SC.i (SC.i (SC.i SC.t (SC.r (SC.l (SC.l (SC.l (SC.l (SC.l (SC.l s)))))))) (SC.r (SC.l (SC.l (SC.l (SC.l (SC.l s))))))) (SC.r s)) (SC.r (SC.l (SC.l s)))) (SC.r (SC.l s))) (SC.r (SC.l (SC.l (SC.l s)))))) (fun g28 x29 a30 v31=>(Kc (K:=K) (o:=(oL (oF Xa))) (J:=({ oo:=fun x36=>[x36.2.2.2.2.2, x36.2.2.2.2.1, [], [], []], ss:=fun x36=>[some v_0, some v_1, some x36.2.2.2.1, some x20.2.2.2.1, some v22, some x36.2.2.1, some v31, x36.1, x36.2.1], sc:=fun g37 x36=>(SC.addO (SC.addO (SC.add (SC.add (SC.add (SC.add (SC.add SC.nil K (rV (rV Xa)) v_0 a_0) K (rV (rV Xa)) v_1 a_1) K (rV (rV Xa)) x20.2.2.2.1 g19.1) K Xa v22 a21) K (rV Xa) v31 a30) K (oL (oL (oF Xa))) x36.2.2.1 g37.1 x36.2.2.2.2.1) K (oL (oF (rP3 (rPL Xa) Xa Xa))) x36.2.2.2.1 g37.2 x36.2.2.2.2.2) } : Jn ((List (List Int)) × (List ((List Int) × Int × Int))) (Option V × Option V × V × V × List XA × List XA))) 2 3 7 ((x29.2.1), (x29.2.2.1), x29.2.2.2.1, x29.2.2.2.2.1, x29.2.2.2.2.2.1, x29.2.2.2.2.2.2) (g28.1, g28.2) (XN (Xb (r:=(rV Xa)) 6 rfl (fun _ s=>(SC.r s))) (XI (Xb (r:=(rV (rV Xa))) 0 rfl (fun _ s=>(SC.r (SC.l (SC.l (SC.l (SC.l (SC.l (SC.l s))))))))))) rfl rfl (fun _ s=>(SC.i (SC.i (SC.i (SC.i (SC.i (SC.i (SC.i SC.t (SC.r (SC.l (SC.l (SC.l (SC.l (SC.l (SC.l s)))))))) (SC.r (SC.l (SC.l (SC.l (SC.l (SC.l s))))))) (SC.r (SC.l (SC.l (SC.l (SC.l s)))))) (SC.r (SC.l (SC.l (SC.l s))))) (SC.r s)) (SC.r (SC.l (SC.l s)))) (SC.r (SC.l s)))) (fun _=>rfl) (fun _=>rfl) (by decide) (fun R43 g38 x39 a40 v41 C42=>(XS (K:=K) (r:=(KL (rP3 (rPL Xa) Xa Xa))) 8 (EvB.sh (Ev.toB (Yl (Xb (r:=(rV (rV Xa))) 0 rfl (fun _ s=>(SC.r (SC.l (SC.l (SC.l (SC.l (SC.l (SC.l (SC.l s)))))))))) (Xb (r:=(rV (rV Xa))) 1 rfl (fun _ s=>(SC.r (SC.l (SC.l (SC.l (SC.l (SC.l (SC.l s))))))))) (Qa (Yk (o:=(oL (oF Xa))) 7 2 rfl rfl (fun _ s=>(SC.r s))))))) fun a44 v45=>(Yf (J:=({ oo:=fun x53=>[x53.2.2.2.2, x53.2.2.2.1, [], R43, []], ss:=fun x53=>[some v_0, some v_1, some x53.2.2.1, some x20.2.2.2.1, some v22, some x53.1, some v31, x53.2.1, some v45], sc:=fun g54 x53=>(SC.addO (SC.addO (SC.add (SC.add (SC.add (SC.add (SC.add (SC.add SC.nil K (rV (rV Xa)) v_0 a_0) K (rV (rV Xa)) v_1 a_1) K (rV (rV Xa)) x20.2.2.2.1 g19.1) K Xa v22 a21) K (rV Xa) v31 a30) K (KL (rP3 (rPL Xa) Xa Xa)) v45 a44) K (oL (oL (oF Xa))) x53.1 g54.1 x53.2.2.2.1) K (oL (oF (rP3 (rPL Xa) Xa Xa))) x53.2.2.1 g54.2 x53.2.2.2.2) } : Jn ((List (List Int)) × (List ((List Int) × Int × Int))) (V × Option V × V × List XA × List XA))) (YS (Fd:=FNd ({ oo:=fun x53=>[x53.2.2.2.2, x53.2.2.2.1, [], R43, []], ss:=fun x53=>[some v_0, some v_1, some x53.2.2.1, some x20.2.2.2.1, some v22, some x53.1, some v31, x53.2.1, some v45], sc:=fun g54 x53=>(SC.addO (SC.addO (SC.add (SC.add (SC.add (SC.add (SC.add (SC.add SC.nil K (rV (rV Xa)) v_0 a_0) K (rV (rV Xa)) v_1 a_1) K (rV (rV Xa)) x20.2.2.2.1 g19.1) K Xa v22 a21) K (rV Xa) v31 a30) K (KL (rP3 (rPL Xa) Xa Xa)) v45 a44) K (oL (oL (oF Xa))) x53.1 g54.1 x53.2.2.2.1) K (oL (oF (rP3 (rPL Xa) Xa Xa))) x53.2.2.1 g54.2 x53.2.2.2.2) } : Jn ((List (List Int)) × (List ((List Int) × Int × Int))) (V × Option V × V × List XA × List XA))) (Xj (K:=K) (EU (tb:=tC .non) (Xb (r:=(KL (rP3 (rPL Xa) Xa Xa))) 8 rfl (fun _ s=>(SC.r s))))) (ZO (K:=K) (o:=(oL (oF Xa))) (f:=fun a57=>(Res.ok (a57, g38.2))) 5 1 rfl rfl rfl (fun _ s=>(SC.r (SC.l (SC.l (SC.l s))))) (X3 (o:=(oL (oF Xa))) 7 2 rfl rfl (fun _ s=>(SC.r (SC.l s)))) fun a55 C56=>(Xq (J:=_) (x39.2.2.1, (some v41), x39.2.2.2.1, C56, x39.2.2.2.2.2) ((g38.1 ++ [a55]), g38.2) rfl rfl (fun _ s=>(SC.i (SC.i (SC.i (SC.i (SC.i (SC.i (SC.i (SC.i SC.t (SC.r (SC.l (SC.l (SC.l (SC.l (SC.l (SC.l (SC.l (SC.l (SC.l s))))))))))) (SC.r (SC.l (SC.l (SC.l (SC.l (SC.l (SC.l (SC.l (SC.l s)))))))))) (SC.r (SC.l (SC.l (SC.l (SC.l (SC.l (SC.l (SC.l s))))))))) (SC.r (SC.l (SC.l (SC.l (SC.l (SC.l (SC.l s)))))))) (SC.r (SC.l (SC.l (SC.l (SC.l (SC.l s))))))) (SC.r (SC.l s))) (SC.r s)) (SC.r (SC.l (SC.l (SC.l s)))))))) (ZO (K:=K) (o:=(oF (rP3 (rPL Xa) Xa Xa))) (f:=fun a60=>(Res.ok (g38.1, a60))) 2 0 rfl rfl rfl (fun _ s=>(SC.r (SC.l (SC.l s)))) (EvB.flat (H9 (Xb (r:=(KL (rP3 (rPL Xa) Xa Xa))) 8 rfl (fun _ s=>(SC.r s))))) fun a58 C59=>(UU 2 (Xq (J:=_) (x39.2.2.1, (some v41), x39.2.2.2.1, x39.2.2.2.2.1, C59) (g38.1, (g38.2 ++ [a58])) rfl rfl (fun _ s=>(SC.i (SC.i (SC.i (SC.i (SC.i (SC.i (SC.i (SC.i SC.t (SC.r (SC.l (SC.l (SC.l (SC.l (SC.l (SC.l (SC.l (SC.l (SC.l s))))))))))) (SC.r (SC.l (SC.l (SC.l (SC.l (SC.l (SC.l (SC.l (SC.l s)))))))))) (SC.r (SC.l (SC.l (SC.l (SC.l (SC.l (SC.l (SC.l s))))))))) (SC.r (SC.l (SC.l (SC.l (SC.l (SC.l (SC.l s)))))))) (SC.r (SC.l (SC.l (SC.l (SC.l (SC.l s))))))) (SC.r (SC.l s))) (SC.r (SC.l (SC.l (SC.l (SC.l s)))))) (SC.r s))))))) fun g62 x61=>(Xq (J:=_) ((x61.2.1), (some v45), x61.1, x61.2.2.1, x61.2.2.2.1, x61.2.2.2.2) (g62.1, g62.2) rfl rfl (fun _ s=>(SC.i (SC.i (SC.i (SC.i (SC.i (SC.i (SC.i SC.t (SC.r (SC.l (SC.l (SC.l (SC.l (SC.l (SC.l (SC.l s))))))))) (SC.r (SC.l (SC.l (SC.l (SC.l (SC.l (SC.l s)))))))) (SC.r (SC.l (SC.l (SC.l (SC.l (SC.l s))))))) (SC.r (SC.l (SC.l (SC.l (SC.l s)))))) (SC.r (SC.l (SC.l (SC.l s))))) (SC.r (SC.l s))) (SC.r s))))))) fun g63 x64=>(Xq (J:=_) ((some v31), (x64.1), (x64.2.1), x64.2.2.1, x64.2.2.2.1, x64.2.2.2.2.1, x64.2.2.2.2.2) (g63.1, g63.2) rfl rfl (fun _ s=>(SC.i (SC.i (SC.i (SC.i (SC.i (SC.i SC.t (SC.r (SC.l (SC.l (SC.l (SC.l (SC.l (SC.l s)))))))) (SC.r (SC.l (SC.l (SC.l (SC.l (SC.l s))))))) (SC.r (SC.l (SC.l (SC.l (SC.l s)))))) (SC.r (SC.l (SC.l (SC.l s))))) (SC.r (SC.l s))) (SC.r s)))))) fun g66 x67=>(XR (K:=K) (o:=(oL (oL (oF Xa)))) 3 4 (X3 (o:=(oL (oL (oF Xa)))) 5 1 rfl rfl (fun _ s=>(SC.r (SC.l s)))) (Nat.le_of_ble_eq_true rfl) fun a68 v69 C70=>(Xq (J:=_) ((some v22), (some x67.2.2.2.1), (x67.1), v69, (x67.2.1), (x67.2.2.1), x67.2.2.2.2.1, C70, x67.2.2.2.2.2.2) (a68, g66.2) rfl rfl (fun _ s=>(SC.i (SC.i (SC.i (SC.i SC.t (SC.r (SC.l (SC.l (SC.l (SC.l (SC.l (SC.l s)))))))) (SC.r (SC.l (SC.l (SC.l (SC.l (SC.l s))))))) (SC.r s)) (SC.r (SC.l s)))))))))) fun g72 x73=>(XD (X3 (o:=(oL (oF (rP3 (rPL Xa) Xa Xa)))) 2 0 rfl rfl (fun _ s=>(SC.r s))))))))
theorem QT : FnScope ["_law_paper", "_law_some", "_law_told", "_law_at", "_law_images", "_law_a", "_law_b"] ["_law_paper", "_law_some"] (Xk Fj):=⟨rfl, rfl, rfl, by decide +kernel, rfl, by decide +kernel, by decide +kernel⟩
set_option maxHeartbeats 4000000 in
theorem EC (D : Def K mg "_law_bent" Fj ["_law_paper", "_law_some"])  (Z : Blt mg) : Fn P w K mg base 1 "_law_bent" ["_law_paper", "_law_some"] (sp2 (rV (rP3 (rPL Xa) Xa Xa)) (rV Xa) (oL (oF (rP3 (rPL Xa) Xa Xa))) Vc K):=by
  refine YG D QT (fun vs H Q E h=>?_) (fun f cdv A outer s H vs Q E hr h=>?_)
  . obtain ⟨v_0, v_1, a_0, a_1, b, rfl, _⟩:=h; rfl
  obtain ⟨v_0, v_1, a_0, a_1, b, rfl, h_0, h_1, hm, q⟩:=h
  have hu:=hu8 hr
  have hu1:=YD hr
  refine ⟨_, (Xd (Xw (i:=2) QT.nd rfl (Or.inl rfl) (Yu (Zc K rfl) rfl Z.b_list PyProof.Rows.boot_list (Xc (pv 0) Xf)))
    (Xd (X8 (PW.pt (UT (Xp Y8 (Xn (Xi K rfl) rfl Z.b_len PySem.boot_len (Xc (pv 2) Xf)) Xg (Xs _)) (Vj (Xp J9 (XH (Xl K rfl) (pv 1) Xg (fun _ _=>rfl)) Xg (Xs _)))))
      (Xd (XE (pv 2))
      Xh)
      Xh)
    (Xd (Xw (i:=3) QT.nd rfl (Or.inl rfl) (Xt Ys (XH (Xl K rfl) (pv 1) Xg (fun _ _=>rfl)) (Xn (Xi K rfl) rfl Z.b_len PySem.boot_len (Xc (pv 2) Xf))))
    (Xd (Qk (XH (Xl K rfl) (pv 2) (pv 3) (fun _ _=>rfl)) (De rfl (Zs (Xz (i:=4) QT.nd rfl (Or.inl rfl)) (Zs (Xz (i:=5) QT.nd rfl (Or.inl rfl)) (Zs (Xz (i:=6) QT.nd rfl (Or.inl rfl)) Ki)))))
    (Xd (X8 (Xp Y8 (XH (Xl K rfl) (pv 1) Xg (fun _ _=>rfl)) Xg (Xs _))
      (Xd (XE (Xt Q4 (Y2 (Zq K rfl) (pv 2) Z1 (Y9 (pv 3))) (Y2 (Zq K rfl) (pv 2) (Y9 (Xt Yn (pv 3) Xg)) Z1)))
      Xh)
      Xh)
    (Xd (X8 (Xp Z5 (XH (Xl K rfl) (pv 1) Xg (fun _ _=>rfl)) Xg (Xs _))
      (Xd (Qk (Zb (Xc (pv 4) (Xc (XH (Xl K rfl) (XQ (Xc (pv 6) (Xc (pv 5) (Xc (Xt Yn (pv 5) Xg) Xf)))) (Xt YI (XH (Xl K rfl) (pv 1) Xg (fun _ _=>rfl)) Xg) (fun _ _=>rfl)) (Xc (XH (Xl K rfl) (XQ (Xc (pv 5) (Xc (Xt Yn (pv 6) Xg) (Xc (pv 6) Xf)))) (Xt YI (XH (Xl K rfl) (pv 1) Xg (fun _ _=>rfl)) Xg) (fun _ _=>rfl)) Xf)))) (Q0 (pv 2) (pv 3) Zl))
      Xh)
      Xh)
    (Xd (X8 (Xp Y8 (XH (Xl K rfl) (pv 1) Xg (fun _ _=>rfl)) Xg (Xs _))
      (Xd (Qk (Zb (Xc (Y2 (DS K rfl) (pv 4) Z1 (Y9 (Bg K0 Xg))) (Xc (pv 5) (Xc (pv 6) Xf)))) (Q0 (pv 2) (pv 3) Zl))
      Xh)
      Xh)
    (Xd (X8 (Xp Y8 (XH (Xl K rfl) (pv 1) Xg (fun _ _=>rfl)) Xg (Xs _))
      (Xd (Qk (Zb (Xc (Xt (KM K rfl) (pv 4) (Zb (Xc (Xt Ys (XH (Xl K rfl) (pv 1) Xg (fun _ _=>rfl)) Xg) Xf))) (Xc (pv 5) (Xc (pv 6) Xf)))) (Q0 (pv 2) (pv 3) Zl))
      Xh)
      Xh)
    (Xd (X8 (Xp Y8 (XH (Xl K rfl) (pv 1) Xg (fun _ _=>rfl)) Xg (Xs _))
      (Xd (Qk (Zb (Xc (Xt (KM K rfl) (Y2 (DS K rfl) (pv 4) Z1 (Y9 (Bg K0 Xg))) (Zb (Xc (Xt YI (XH (Xl K rfl) (pv 1) Xg (fun _ _=>rfl)) Xg) Xf))) (Xc (pv 5) (Xc (pv 6) Xf)))) (Q0 (pv 2) (pv 3) Zl))
      Xh)
      Xh)
    (Xd (X8 (Xp Y8 (XH (Xl K rfl) (pv 1) Xg (fun _ _=>rfl)) Xg (Xs _))
      (Xd (Qk (Zb (Xc (GE K rfl (pv 4) (Bg K0 Xg)) (Xc (pv 5) (Xc (pv 6) Xf)))) (Q0 (pv 2) (pv 3) Zl))
      Xh)
      Xh)
    (Xd (X8 (Xp Y8 (XH (Xl K rfl) (pv 1) Xg (fun _ _=>rfl)) Xg (Xs _))
      (Xd (Qk (Zb (Xc (pv 4) (Xc (Bg K0 Xg) (Xc (pv 6) Xf)))) (Q0 (pv 2) (pv 3) Zl))
      Xh)
      Xh)
    (Xd (X8 (Xp Y8 (XH (Xl K rfl) (pv 1) Xg (fun _ _=>rfl)) Xg (Xs _))
      (Xd (Qk (Zb (Xc (pv 4) (Xc (pv 5) (Xc (Xt Yn (Xt Dl Xg Xg) (pv 6)) Xf)))) (Q0 (pv 2) (pv 3) Zl))
      Xh)
      Xh)
    (Xd (XE (pv 2))
    Xh))))))))))))), ?_⟩
  refine YM (S:=(SC.add (SC.add SC.nil K (rV (rP3 (rPL Xa) Xa Xa)) v_0 a_0) K (rV Xa) v_1 a_1)) (σ:=[some v_0, some v_1, none, none, none, none, none]) 1 ?_ (SC.i (SC.i SC.t h_0) h_1) hm q rfl
  unfold Vc
  exact (XR (K:=K) (o:=(oL (oF (rP3 (rPL Xa) Xa Xa)))) 2 0 (Vz (EvS.ls (Xr (r:=(rV (rP3 (rPL Xa) Xa Xa))) 0 rfl (fun _ s=>(SC.r (SC.l s)))))) (Nat.le_of_ble_eq_true rfl) fun a1 v2 C3=>(YQ (JM (Xj (K:=K) (Yh (XI (Yk (o:=(oL (oF (rP3 (rPL Xa) Xa Xa)))) 2 0 rfl rfl (fun _ s=>(SC.r s)))) (Xe 0))) (Xj (K:=K) (Qh (Xy (Xb (r:=(rV Xa)) 1 rfl (fun _ s=>(SC.r (SC.l s)))) (Xe 0)) (Xe 9)))) (XD (X3 (o:=(oL (oF (rP3 (rPL Xa) Xa Xa)))) 2 0 rfl rfl (fun _ s=>(SC.r s)))) (XS (K:=K) (r:=Xa) 3 (EvB.sh (XY (Xy (Xb (r:=(rV Xa)) 1 rfl (fun _ s=>(SC.r (SC.l s)))) (Xe 1)) (XI (Yk (o:=(oL (oF (rP3 (rPL Xa) Xa Xa)))) 2 0 rfl rfl (fun _ s=>(SC.r s)))))) fun a13 v14=>(BU 4 5 6 (EvB.sh (Xy (Yk (o:=(oL (oF (rP3 (rPL Xa) Xa Xa)))) 2 0 rfl rfl (fun _ s=>(SC.r (SC.l s)))) (Xb (r:=Xa) 3 rfl (fun _ s=>(SC.r s))))) fun a22 v23 v24 v25=>(YQ (Xj (K:=K) (Yh (Xy (Xb (r:=(rV Xa)) 1 rfl (fun _ s=>(SC.r (SC.l (SC.l (SC.l (SC.l (SC.l s)))))))) (Xe 0)) (Xe 0))) (XD (QY (Ev.ls (ZM (Cd (r:=(rP3 (rPL Xa) Xa Xa)) 2 0 rfl rfl (fun _ s=>(SC.r (SC.l (SC.l (SC.l (SC.l s))))))) Zu (YF (K:=K) (Xb (r:=Xa) 3 rfl (fun _ s=>(SC.r (SC.l (SC.l (SC.l s))))))))) (Ev.ls (ZM (Cd (r:=(rP3 (rPL Xa) Xa Xa)) 2 0 rfl rfl (fun _ s=>(SC.r (SC.l (SC.l (SC.l (SC.l s))))))) (YF (K:=K) (XV (Xb (r:=Xa) 3 rfl (fun _ s=>(SC.r (SC.l (SC.l (SC.l s)))))) (Xe 1))) Zu)))) (Yf (J:=({ oo:=fun x48=>[x48.2], ss:=fun x48=>[some v_0, some v_1, some x48.1, some v14, some v23, some v24, some v25], sc:=fun g49 x48=>(SC.addO (SC.add (SC.add (SC.add (SC.add (SC.add (SC.add SC.nil K (rV (rP3 (rPL Xa) Xa Xa)) v_0 a_0) K (rV Xa) v_1 a_1) K Xa v14 a13) K (rPL Xa) v23 a22.1) K Xa v24 a22.2.1) K Xa v25 a22.2.2) K (oL (oF (rP3 (rPL Xa) Xa Xa))) x48.1 g49 x48.2) } : Jn ((List ((List Int) × Int × Int))) (V × List XA))) (YS (Fd:=FNd ({ oo:=fun x48=>[x48.2], ss:=fun x48=>[some v_0, some v_1, some x48.1, some v14, some v23, some v24, some v25], sc:=fun g49 x48=>(SC.addO (SC.add (SC.add (SC.add (SC.add (SC.add (SC.add SC.nil K (rV (rP3 (rPL Xa) Xa Xa)) v_0 a_0) K (rV Xa) v_1 a_1) K Xa v14 a13) K (rPL Xa) v23 a22.1) K Xa v24 a22.2.1) K Xa v25 a22.2.2) K (oL (oF (rP3 (rPL Xa) Xa Xa))) x48.1 g49 x48.2) } : Jn ((List ((List Int) × Int × Int))) (V × List XA))) (Xj (K:=K) (Zp (Xy (Xb (r:=(rV Xa)) 1 rfl (fun _ s=>(SC.r (SC.l (SC.l (SC.l (SC.l (SC.l s)))))))) (Xe 0)) (Xe 4))) (ZK (K:=K) (o:=(oF (rP3 (rPL Xa) Xa Xa))) 2 0 rfl rfl (fun _ s=>(SC.r (SC.l (SC.l (SC.l (SC.l s)))))) (EvS.ev (Y1 (Xr (r:=(rPL Xa)) 4 rfl (fun _ s=>(SC.r (SC.l (SC.l s))))) (EvB.sh (Xy (Ev.toB (YU (Xo (Xr (r:=Xa) 6 rfl (fun _ s=>(SC.r s))) (Xo (Xr (r:=Xa) 5 rfl (fun _ s=>(SC.r (SC.l s)))) (Xo (EvB.sh (XV (Xb (r:=Xa) 5 rfl (fun _ s=>(SC.r (SC.l s)))) (Xe 1))) X9))))) (Yd (Xy (Xb (r:=(rV Xa)) 1 rfl (fun _ s=>(SC.r (SC.l (SC.l (SC.l (SC.l (SC.l s)))))))) (Xe 0)) (Xe 1)))) (EvB.sh (Xy (Ev.toB (YU (Xo (Xr (r:=Xa) 5 rfl (fun _ s=>(SC.r (SC.l s)))) (Xo (EvB.sh (XV (Xb (r:=Xa) 6 rfl (fun _ s=>(SC.r s))) (Xe 1))) (Xo (Xr (r:=Xa) 6 rfl (fun _ s=>(SC.r s))) X9))))) (Yd (Xy (Xb (r:=(rV Xa)) 1 rfl (fun _ s=>(SC.r (SC.l (SC.l (SC.l (SC.l (SC.l s)))))))) (Xe 0)) (Xe 1)))))) (fun _=>(Xb (r:=Xa) 3 rfl (fun _ s=>(SC.r (SC.l (SC.l (SC.l s))))))) fun a85 C86=>(Xq (J:=_) (v2, C86) (a85) rfl rfl (fun _ s=>(SC.i (SC.i (SC.i (SC.i (SC.i (SC.i (SC.i SC.t (SC.r (SC.l (SC.l (SC.l (SC.l (SC.l (SC.l (SC.l s))))))))) (SC.r (SC.l (SC.l (SC.l (SC.l (SC.l (SC.l s)))))))) (SC.r (SC.l (SC.l (SC.l (SC.l s)))))) (SC.r (SC.l (SC.l (SC.l s))))) (SC.r (SC.l (SC.l s)))) (SC.r (SC.l s))) (SC.r s))))) (Xq (J:=_) (v2, C3) (a1) rfl rfl (fun _ s=>(SC.i (SC.i (SC.i (SC.i (SC.i (SC.i (SC.i SC.t (SC.r (SC.l (SC.l (SC.l (SC.l (SC.l (SC.l s)))))))) (SC.r (SC.l (SC.l (SC.l (SC.l (SC.l s))))))) (SC.r (SC.l (SC.l (SC.l s))))) (SC.r (SC.l (SC.l s)))) (SC.r (SC.l s))) (SC.r s)) (SC.r (SC.l (SC.l (SC.l (SC.l s))))))))) fun g88 x87=>(Yf (J:=({ oo:=fun x94=>[x94.2], ss:=fun x94=>[some v_0, some v_1, some x94.1, some v14, some v23, some v24, some v25], sc:=fun g95 x94=>(SC.addO (SC.add (SC.add (SC.add (SC.add (SC.add (SC.add SC.nil K (rV (rP3 (rPL Xa) Xa Xa)) v_0 a_0) K (rV Xa) v_1 a_1) K Xa v14 a13) K (rPL Xa) v23 a22.1) K Xa v24 a22.2.1) K Xa v25 a22.2.2) K (oL (oF (rP3 (rPL Xa) Xa Xa))) x94.1 g95 x94.2) } : Jn ((List ((List Int) × Int × Int))) (V × List XA))) (YS (Fd:=FNd ({ oo:=fun x94=>[x94.2], ss:=fun x94=>[some v_0, some v_1, some x94.1, some v14, some v23, some v24, some v25], sc:=fun g95 x94=>(SC.addO (SC.add (SC.add (SC.add (SC.add (SC.add (SC.add SC.nil K (rV (rP3 (rPL Xa) Xa Xa)) v_0 a_0) K (rV Xa) v_1 a_1) K Xa v14 a13) K (rPL Xa) v23 a22.1) K Xa v24 a22.2.1) K Xa v25 a22.2.2) K (oL (oF (rP3 (rPL Xa) Xa Xa))) x94.1 g95 x94.2) } : Jn ((List ((List Int) × Int × Int))) (V × List XA))) (Xj (K:=K) (Yh (Xy (Xb (r:=(rV Xa)) 1 rfl (fun _ s=>(SC.r (SC.l (SC.l (SC.l (SC.l (SC.l s)))))))) (Xe 0)) (Xe 4))) (ZK (K:=K) (o:=(oF (rP3 (rPL Xa) Xa Xa))) 2 0 rfl rfl (fun _ s=>(SC.r s)) (EvS.ev (Y1 (EvB.sh (Vf (Xb (r:=(rPL Xa)) 4 rfl (fun _ s=>(SC.r (SC.l (SC.l (SC.l s)))))) Zu (YF (K:=K) (VX (Xe 1))))) (Xr (r:=Xa) 5 rfl (fun _ s=>(SC.r (SC.l (SC.l s))))) (Xr (r:=Xa) 6 rfl (fun _ s=>(SC.r (SC.l s)))))) (fun _=>(Xb (r:=Xa) 3 rfl (fun _ s=>(SC.r (SC.l (SC.l (SC.l (SC.l s)))))))) fun a106 C107=>(Xq (J:=_) (x87.1, C107) (a106) rfl rfl (fun _ s=>(SC.i (SC.i (SC.i (SC.i (SC.i (SC.i (SC.i SC.t (SC.r (SC.l (SC.l (SC.l (SC.l (SC.l (SC.l (SC.l s))))))))) (SC.r (SC.l (SC.l (SC.l (SC.l (SC.l (SC.l s)))))))) (SC.r (SC.l (SC.l (SC.l (SC.l (SC.l s))))))) (SC.r (SC.l (SC.l (SC.l (SC.l s)))))) (SC.r (SC.l (SC.l (SC.l s))))) (SC.r (SC.l (SC.l s)))) (SC.r s))))) (Xq (J:=_) (x87.1, x87.2) (g88) rfl rfl (fun _ s=>(SC.i (SC.i (SC.i (SC.i (SC.i (SC.i (SC.i SC.t (SC.r (SC.l (SC.l (SC.l (SC.l (SC.l (SC.l s)))))))) (SC.r (SC.l (SC.l (SC.l (SC.l (SC.l s))))))) (SC.r (SC.l (SC.l (SC.l (SC.l s)))))) (SC.r (SC.l (SC.l (SC.l s))))) (SC.r (SC.l (SC.l s)))) (SC.r (SC.l s))) (SC.r s))))) fun g109 x108=>(Yf (J:=({ oo:=fun x115=>[x115.2], ss:=fun x115=>[some v_0, some v_1, some x115.1, some v14, some v23, some v24, some v25], sc:=fun g116 x115=>(SC.addO (SC.add (SC.add (SC.add (SC.add (SC.add (SC.add SC.nil K (rV (rP3 (rPL Xa) Xa Xa)) v_0 a_0) K (rV Xa) v_1 a_1) K Xa v14 a13) K (rPL Xa) v23 a22.1) K Xa v24 a22.2.1) K Xa v25 a22.2.2) K (oL (oF (rP3 (rPL Xa) Xa Xa))) x115.1 g116 x115.2) } : Jn ((List ((List Int) × Int × Int))) (V × List XA))) (YS (Fd:=FNd ({ oo:=fun x115=>[x115.2], ss:=fun x115=>[some v_0, some v_1, some x115.1, some v14, some v23, some v24, some v25], sc:=fun g116 x115=>(SC.addO (SC.add (SC.add (SC.add (SC.add (SC.add (SC.add SC.nil K (rV (rP3 (rPL Xa) Xa Xa)) v_0 a_0) K (rV Xa) v_1 a_1) K Xa v14 a13) K (rPL Xa) v23 a22.1) K Xa v24 a22.2.1) K Xa v25 a22.2.2) K (oL (oF (rP3 (rPL Xa) Xa Xa))) x115.1 g116 x115.2) } : Jn ((List ((List Int) × Int × Int))) (V × List XA))) (Xj (K:=K) (Yh (Xy (Xb (r:=(rV Xa)) 1 rfl (fun _ s=>(SC.r (SC.l (SC.l (SC.l (SC.l (SC.l s)))))))) (Xe 0)) (Xe 5))) (ZK (K:=K) (o:=(oF (rP3 (rPL Xa) Xa Xa))) 2 0 rfl rfl (fun _ s=>(SC.r s)) (EvS.ev (Y1 (EvB.sh (KI (Xb (r:=(rPL Xa)) 4 rfl (fun _ s=>(SC.r (SC.l (SC.l (SC.l s)))))) (Ev.toB (EvS.ev (VV (Xo (EvB.sh (XY (Xy (Xb (r:=(rV Xa)) 1 rfl (fun _ s=>(SC.r (SC.l (SC.l (SC.l (SC.l (SC.l s)))))))) (Xe 2)) (Xe 6))) X9)))))) (Xr (r:=Xa) 5 rfl (fun _ s=>(SC.r (SC.l (SC.l s))))) (Xr (r:=Xa) 6 rfl (fun _ s=>(SC.r (SC.l s)))))) (fun _=>(Xb (r:=Xa) 3 rfl (fun _ s=>(SC.r (SC.l (SC.l (SC.l (SC.l s)))))))) fun a131 C132=>(Xq (J:=_) (x108.1, C132) (a131) rfl rfl (fun _ s=>(SC.i (SC.i (SC.i (SC.i (SC.i (SC.i (SC.i SC.t (SC.r (SC.l (SC.l (SC.l (SC.l (SC.l (SC.l (SC.l s))))))))) (SC.r (SC.l (SC.l (SC.l (SC.l (SC.l (SC.l s)))))))) (SC.r (SC.l (SC.l (SC.l (SC.l (SC.l s))))))) (SC.r (SC.l (SC.l (SC.l (SC.l s)))))) (SC.r (SC.l (SC.l (SC.l s))))) (SC.r (SC.l (SC.l s)))) (SC.r s))))) (Xq (J:=_) (x108.1, x108.2) (g109) rfl rfl (fun _ s=>(SC.i (SC.i (SC.i (SC.i (SC.i (SC.i (SC.i SC.t (SC.r (SC.l (SC.l (SC.l (SC.l (SC.l (SC.l s)))))))) (SC.r (SC.l (SC.l (SC.l (SC.l (SC.l s))))))) (SC.r (SC.l (SC.l (SC.l (SC.l s)))))) (SC.r (SC.l (SC.l (SC.l s))))) (SC.r (SC.l (SC.l s)))) (SC.r (SC.l s))) (SC.r s))))) fun g134 x133=>(Yf (J:=({ oo:=fun x140=>[x140.2], ss:=fun x140=>[some v_0, some v_1, some x140.1, some v14, some v23, some v24, some v25], sc:=fun g141 x140=>(SC.addO (SC.add (SC.add (SC.add (SC.add (SC.add (SC.add SC.nil K (rV (rP3 (rPL Xa) Xa Xa)) v_0 a_0) K (rV Xa) v_1 a_1) K Xa v14 a13) K (rPL Xa) v23 a22.1) K Xa v24 a22.2.1) K Xa v25 a22.2.2) K (oL (oF (rP3 (rPL Xa) Xa Xa))) x140.1 g141 x140.2) } : Jn ((List ((List Int) × Int × Int))) (V × List XA))) (YS (Fd:=FNd ({ oo:=fun x140=>[x140.2], ss:=fun x140=>[some v_0, some v_1, some x140.1, some v14, some v23, some v24, some v25], sc:=fun g141 x140=>(SC.addO (SC.add (SC.add (SC.add (SC.add (SC.add (SC.add SC.nil K (rV (rP3 (rPL Xa) Xa Xa)) v_0 a_0) K (rV Xa) v_1 a_1) K Xa v14 a13) K (rPL Xa) v23 a22.1) K Xa v24 a22.2.1) K Xa v25 a22.2.2) K (oL (oF (rP3 (rPL Xa) Xa Xa))) x140.1 g141 x140.2) } : Jn ((List ((List Int) × Int × Int))) (V × List XA))) (Xj (K:=K) (Yh (Xy (Xb (r:=(rV Xa)) 1 rfl (fun _ s=>(SC.r (SC.l (SC.l (SC.l (SC.l (SC.l s)))))))) (Xe 0)) (Xe 6))) (ZK (K:=K) (o:=(oF (rP3 (rPL Xa) Xa Xa))) 2 0 rfl rfl (fun _ s=>(SC.r s)) (EvS.ev (Y1 (EvB.sh (KI (Vf (Xb (r:=(rPL Xa)) 4 rfl (fun _ s=>(SC.r (SC.l (SC.l (SC.l s)))))) Zu (YF (K:=K) (VX (Xe 1)))) (Ev.toB (EvS.ev (VV (Xo (EvB.sh (Yd (Xy (Xb (r:=(rV Xa)) 1 rfl (fun _ s=>(SC.r (SC.l (SC.l (SC.l (SC.l (SC.l s)))))))) (Xe 2)) (Xe 2))) X9)))))) (Xr (r:=Xa) 5 rfl (fun _ s=>(SC.r (SC.l (SC.l s))))) (Xr (r:=Xa) 6 rfl (fun _ s=>(SC.r (SC.l s)))))) (fun _=>(Xb (r:=Xa) 3 rfl (fun _ s=>(SC.r (SC.l (SC.l (SC.l (SC.l s)))))))) fun a161 C162=>(Xq (J:=_) (x133.1, C162) (a161) rfl rfl (fun _ s=>(SC.i (SC.i (SC.i (SC.i (SC.i (SC.i (SC.i SC.t (SC.r (SC.l (SC.l (SC.l (SC.l (SC.l (SC.l (SC.l s))))))))) (SC.r (SC.l (SC.l (SC.l (SC.l (SC.l (SC.l s)))))))) (SC.r (SC.l (SC.l (SC.l (SC.l (SC.l s))))))) (SC.r (SC.l (SC.l (SC.l (SC.l s)))))) (SC.r (SC.l (SC.l (SC.l s))))) (SC.r (SC.l (SC.l s)))) (SC.r s))))) (Xq (J:=_) (x133.1, x133.2) (g134) rfl rfl (fun _ s=>(SC.i (SC.i (SC.i (SC.i (SC.i (SC.i (SC.i SC.t (SC.r (SC.l (SC.l (SC.l (SC.l (SC.l (SC.l s)))))))) (SC.r (SC.l (SC.l (SC.l (SC.l (SC.l s))))))) (SC.r (SC.l (SC.l (SC.l (SC.l s)))))) (SC.r (SC.l (SC.l (SC.l s))))) (SC.r (SC.l (SC.l s)))) (SC.r (SC.l s))) (SC.r s))))) fun g164 x163=>(Yf (J:=({ oo:=fun x170=>[x170.2], ss:=fun x170=>[some v_0, some v_1, some x170.1, some v14, some v23, some v24, some v25], sc:=fun g171 x170=>(SC.addO (SC.add (SC.add (SC.add (SC.add (SC.add (SC.add SC.nil K (rV (rP3 (rPL Xa) Xa Xa)) v_0 a_0) K (rV Xa) v_1 a_1) K Xa v14 a13) K (rPL Xa) v23 a22.1) K Xa v24 a22.2.1) K Xa v25 a22.2.2) K (oL (oF (rP3 (rPL Xa) Xa Xa))) x170.1 g171 x170.2) } : Jn ((List ((List Int) × Int × Int))) (V × List XA))) (YS (Fd:=FNd ({ oo:=fun x170=>[x170.2], ss:=fun x170=>[some v_0, some v_1, some x170.1, some v14, some v23, some v24, some v25], sc:=fun g171 x170=>(SC.addO (SC.add (SC.add (SC.add (SC.add (SC.add (SC.add SC.nil K (rV (rP3 (rPL Xa) Xa Xa)) v_0 a_0) K (rV Xa) v_1 a_1) K Xa v14 a13) K (rPL Xa) v23 a22.1) K Xa v24 a22.2.1) K Xa v25 a22.2.2) K (oL (oF (rP3 (rPL Xa) Xa Xa))) x170.1 g171 x170.2) } : Jn ((List ((List Int) × Int × Int))) (V × List XA))) (Xj (K:=K) (Yh (Xy (Xb (r:=(rV Xa)) 1 rfl (fun _ s=>(SC.r (SC.l (SC.l (SC.l (SC.l (SC.l s)))))))) (Xe 0)) (Xe 7))) (ZK (K:=K) (o:=(oF (rP3 (rPL Xa) Xa Xa))) 2 0 rfl rfl (fun _ s=>(SC.r s)) (EvS.ev (Y1 (EvB.sh (Ku (Xb (r:=(rPL Xa)) 4 rfl (fun _ s=>(SC.r (SC.l (SC.l (SC.l s)))))) (VX (Xe 1)))) (Xr (r:=Xa) 5 rfl (fun _ s=>(SC.r (SC.l (SC.l s))))) (Xr (r:=Xa) 6 rfl (fun _ s=>(SC.r (SC.l s)))))) (fun _=>(Xb (r:=Xa) 3 rfl (fun _ s=>(SC.r (SC.l (SC.l (SC.l (SC.l s)))))))) fun a180 C181=>(Xq (J:=_) (x163.1, C181) (a180) rfl rfl (fun _ s=>(SC.i (SC.i (SC.i (SC.i (SC.i (SC.i (SC.i SC.t (SC.r (SC.l (SC.l (SC.l (SC.l (SC.l (SC.l (SC.l s))))))))) (SC.r (SC.l (SC.l (SC.l (SC.l (SC.l (SC.l s)))))))) (SC.r (SC.l (SC.l (SC.l (SC.l (SC.l s))))))) (SC.r (SC.l (SC.l (SC.l (SC.l s)))))) (SC.r (SC.l (SC.l (SC.l s))))) (SC.r (SC.l (SC.l s)))) (SC.r s))))) (Xq (J:=_) (x163.1, x163.2) (g164) rfl rfl (fun _ s=>(SC.i (SC.i (SC.i (SC.i (SC.i (SC.i (SC.i SC.t (SC.r (SC.l (SC.l (SC.l (SC.l (SC.l (SC.l s)))))))) (SC.r (SC.l (SC.l (SC.l (SC.l (SC.l s))))))) (SC.r (SC.l (SC.l (SC.l (SC.l s)))))) (SC.r (SC.l (SC.l (SC.l s))))) (SC.r (SC.l (SC.l s)))) (SC.r (SC.l s))) (SC.r s))))) fun g183 x182=>(Yf (J:=({ oo:=fun x189=>[x189.2], ss:=fun x189=>[some v_0, some v_1, some x189.1, some v14, some v23, some v24, some v25], sc:=fun g190 x189=>(SC.addO (SC.add (SC.add (SC.add (SC.add (SC.add (SC.add SC.nil K (rV (rP3 (rPL Xa) Xa Xa)) v_0 a_0) K (rV Xa) v_1 a_1) K Xa v14 a13) K (rPL Xa) v23 a22.1) K Xa v24 a22.2.1) K Xa v25 a22.2.2) K (oL (oF (rP3 (rPL Xa) Xa Xa))) x189.1 g190 x189.2) } : Jn ((List ((List Int) × Int × Int))) (V × List XA))) (YS (Fd:=FNd ({ oo:=fun x189=>[x189.2], ss:=fun x189=>[some v_0, some v_1, some x189.1, some v14, some v23, some v24, some v25], sc:=fun g190 x189=>(SC.addO (SC.add (SC.add (SC.add (SC.add (SC.add (SC.add SC.nil K (rV (rP3 (rPL Xa) Xa Xa)) v_0 a_0) K (rV Xa) v_1 a_1) K Xa v14 a13) K (rPL Xa) v23 a22.1) K Xa v24 a22.2.1) K Xa v25 a22.2.2) K (oL (oF (rP3 (rPL Xa) Xa Xa))) x189.1 g190 x189.2) } : Jn ((List ((List Int) × Int × Int))) (V × List XA))) (Xj (K:=K) (Yh (Xy (Xb (r:=(rV Xa)) 1 rfl (fun _ s=>(SC.r (SC.l (SC.l (SC.l (SC.l (SC.l s)))))))) (Xe 0)) (Xe 8))) (ZK (K:=K) (o:=(oF (rP3 (rPL Xa) Xa Xa))) 2 0 rfl rfl (fun _ s=>(SC.r s)) (EvS.ev (Y1 (Xr (r:=(rPL Xa)) 4 rfl (fun _ s=>(SC.r (SC.l (SC.l (SC.l s)))))) (EvB.sh (VX (Xe 1))) (Xr (r:=Xa) 6 rfl (fun _ s=>(SC.r (SC.l s)))))) (fun _=>(Xb (r:=Xa) 3 rfl (fun _ s=>(SC.r (SC.l (SC.l (SC.l (SC.l s)))))))) fun a197 C198=>(Xq (J:=_) (x182.1, C198) (a197) rfl rfl (fun _ s=>(SC.i (SC.i (SC.i (SC.i (SC.i (SC.i (SC.i SC.t (SC.r (SC.l (SC.l (SC.l (SC.l (SC.l (SC.l (SC.l s))))))))) (SC.r (SC.l (SC.l (SC.l (SC.l (SC.l (SC.l s)))))))) (SC.r (SC.l (SC.l (SC.l (SC.l (SC.l s))))))) (SC.r (SC.l (SC.l (SC.l (SC.l s)))))) (SC.r (SC.l (SC.l (SC.l s))))) (SC.r (SC.l (SC.l s)))) (SC.r s))))) (Xq (J:=_) (x182.1, x182.2) (g183) rfl rfl (fun _ s=>(SC.i (SC.i (SC.i (SC.i (SC.i (SC.i (SC.i SC.t (SC.r (SC.l (SC.l (SC.l (SC.l (SC.l (SC.l s)))))))) (SC.r (SC.l (SC.l (SC.l (SC.l (SC.l s))))))) (SC.r (SC.l (SC.l (SC.l (SC.l s)))))) (SC.r (SC.l (SC.l (SC.l s))))) (SC.r (SC.l (SC.l s)))) (SC.r (SC.l s))) (SC.r s))))) fun g200 x199=>(Yf (J:=({ oo:=fun x206=>[x206.2], ss:=fun x206=>[some v_0, some v_1, some x206.1, some v14, some v23, some v24, some v25], sc:=fun g207 x206=>(SC.addO (SC.add (SC.add (SC.add (SC.add (SC.add (SC.add SC.nil K (rV (rP3 (rPL Xa) Xa Xa)) v_0 a_0) K (rV Xa) v_1 a_1) K Xa v14 a13) K (rPL Xa) v23 a22.1) K Xa v24 a22.2.1) K Xa v25 a22.2.2) K (oL (oF (rP3 (rPL Xa) Xa Xa))) x206.1 g207 x206.2) } : Jn ((List ((List Int) × Int × Int))) (V × List XA))) (YS (Fd:=FNd ({ oo:=fun x206=>[x206.2], ss:=fun x206=>[some v_0, some v_1, some x206.1, some v14, some v23, some v24, some v25], sc:=fun g207 x206=>(SC.addO (SC.add (SC.add (SC.add (SC.add (SC.add (SC.add SC.nil K (rV (rP3 (rPL Xa) Xa Xa)) v_0 a_0) K (rV Xa) v_1 a_1) K Xa v14 a13) K (rPL Xa) v23 a22.1) K Xa v24 a22.2.1) K Xa v25 a22.2.2) K (oL (oF (rP3 (rPL Xa) Xa Xa))) x206.1 g207 x206.2) } : Jn ((List ((List Int) × Int × Int))) (V × List XA))) (Xj (K:=K) (Yh (Xy (Xb (r:=(rV Xa)) 1 rfl (fun _ s=>(SC.r (SC.l (SC.l (SC.l (SC.l (SC.l s)))))))) (Xe 0)) (Xe 9))) (ZK (K:=K) (o:=(oF (rP3 (rPL Xa) Xa Xa))) 2 0 rfl rfl (fun _ s=>(SC.r s)) (EvS.ev (Y1 (Xr (r:=(rPL Xa)) 4 rfl (fun _ s=>(SC.r (SC.l (SC.l (SC.l s)))))) (Xr (r:=Xa) 5 rfl (fun _ s=>(SC.r (SC.l (SC.l s))))) (EvB.sh (XV (U3 (Xe 10) (Xe 59)) (Xb (r:=Xa) 6 rfl (fun _ s=>(SC.r (SC.l s)))))))) (fun _=>(Xb (r:=Xa) 3 rfl (fun _ s=>(SC.r (SC.l (SC.l (SC.l (SC.l s)))))))) fun a217 C218=>(Xq (J:=_) (x199.1, C218) (a217) rfl rfl (fun _ s=>(SC.i (SC.i (SC.i (SC.i (SC.i (SC.i (SC.i SC.t (SC.r (SC.l (SC.l (SC.l (SC.l (SC.l (SC.l (SC.l s))))))))) (SC.r (SC.l (SC.l (SC.l (SC.l (SC.l (SC.l s)))))))) (SC.r (SC.l (SC.l (SC.l (SC.l (SC.l s))))))) (SC.r (SC.l (SC.l (SC.l (SC.l s)))))) (SC.r (SC.l (SC.l (SC.l s))))) (SC.r (SC.l (SC.l s)))) (SC.r s))))) (Xq (J:=_) (x199.1, x199.2) (g200) rfl rfl (fun _ s=>(SC.i (SC.i (SC.i (SC.i (SC.i (SC.i (SC.i SC.t (SC.r (SC.l (SC.l (SC.l (SC.l (SC.l (SC.l s)))))))) (SC.r (SC.l (SC.l (SC.l (SC.l (SC.l s))))))) (SC.r (SC.l (SC.l (SC.l (SC.l s)))))) (SC.r (SC.l (SC.l (SC.l s))))) (SC.r (SC.l (SC.l s)))) (SC.r (SC.l s))) (SC.r s))))) fun g220 x219=>(XD (X3 (o:=(oL (oF (rP3 (rPL Xa) Xa Xa)))) 2 0 rfl rfl (fun _ s=>(SC.r s))))))))))))))))
theorem JQ : FnScope ["_law_some", "_law_told", "_law_k", "_law_mine", "_law_images"] ["_law_some"] (Xk Gc):=⟨rfl, rfl, rfl, by decide +kernel, rfl, by decide +kernel, by decide +kernel⟩
set_option maxHeartbeats 4000000 in
theorem BR (D : Def K mg "_law_more" Gc ["_law_some"])  (Z : Blt mg) : Fn P w K mg base 1 "_law_more" ["_law_some"] (sp1 (rV Xa) (oL (oF (rP3 (rPL Xa) Xa Xa))) Vu K):=by
  refine YG D JQ (fun vs H Q E h=>?_) (fun f cdv A outer s H vs Q E hr h=>?_)
  . obtain ⟨v_0, a_0, b, rfl, _⟩:=h; rfl
  obtain ⟨v_0, a_0, b, rfl, h_0, hm, q⟩:=h
  have hu:=hu8 hr
  have hu1:=YD hr
  refine ⟨_, (Xd (Xw (i:=1) JQ.nd rfl (Or.inl rfl) (XQ Xf))
    (Xd (Ya PassesOwn.never rfl (XJ rfl Z.b_range (Xc (XH (Xl K rfl) (pv 0) Xg (fun _ _=>rfl)) Xf)) (Xz (i:=2) JQ.nd rfl (Or.inl rfl))
      (Xd (Xw (i:=3) JQ.nd rfl (Or.inl rfl) (Y2 (Zq K rfl) (pv 0) (Y9 (Xt Yn Xg (Xt Zt Xg (pv 2)))) (Y9 (Xt Yn Xg (Xt Zt Xg (pv 2))))))
      (Xd (Xw (i:=4) JQ.nd rfl (Or.inl rfl) (Yu (Y0 K rfl) rfl Z.b_tuple PyProof.Rows.boot_tuple (Xc (Zn (sc:=(Xk Gc)) (N0:=["_law_some", "_law_told", "_law_k", "_law_mine", "_law_images"]) (tns:=["_law_one"]) (caps:=[]) rfl (Ym (K:=K) rfl (Y2 (Zq K rfl) (pv 3) (Y9 Xg) (Y9 (Xt Yn Xg (XH (Xl K rfl) (pv 3) Xg (fun _ _=>rfl)))))) (ZI (by decide)) (fun cl C s H ex E=>⟨Xz (i:=0) (show List.Nodup (["_law_one"] : List Str) by decide +kernel) rfl (Or.inl rfl), Qn, (Xt YI (pv 0) Xg)⟩)) Xf)))
      (Xd (YH (QJ PySem.F.plainAttrs_list PySem.F.slot_list_append PySem.F.type_list_append Ye (pv 1) (Xc (Zb (Xc (pv 4) (Xc (Xt YI (XH (Xl K rfl) (pv 3) Xg (fun _ _=>rfl)) Xg) (Xc (Xt YI (XH (Xl K rfl) (pv 3) Xg (fun _ _=>rfl)) Xg) Xf)))) Xf)))
      Xh))))
    (Xd (XE (pv 1))
    Xh))), ?_⟩
  refine YM (S:=(SC.add SC.nil K (rV Xa) v_0 a_0)) (σ:=[some v_0, none, none, none, none]) 1 ?_ (SC.i SC.t h_0) hm q rfl
  unfold Vu
  exact (XR (K:=K) (o:=(oL (oF (rP3 (rPL Xa) Xa Xa)))) 1 0 (ZR (o:=(oF (rP3 (rPL Xa) Xa Xa)))) (Nat.le_of_ble_eq_true rfl) fun a1 v2 C3=>(YR (K:=K) (J:=({ oo:=fun x7=>[x7.2.2.2.2], ss:=fun x7=>[some v_0, some x7.2.2.2.1, x7.1, x7.2.1, x7.2.2.1], sc:=fun g8 x7=>(SC.addO (SC.add SC.nil K (rV Xa) v_0 a_0) K (oL (oF (rP3 (rPL Xa) Xa Xa))) x7.2.2.2.1 g8 x7.2.2.2.2) } : Jn ((List ((List Int) × Int × Int))) (Option V × Option V × Option V × V × List XA))) (fun _=>tg1 2) ((none), (none), (none), v2, C3) (a1) (XB (Xy (Xb (r:=(rV Xa)) 0 rfl (fun _ s=>(SC.r (SC.l s)))) (Xe 0))) rfl rfl (fun _ s=>(SC.i (SC.i SC.t (SC.r (SC.l s))) (SC.r s))) (fun g9 x10 a11 v12=>(XS (K:=K) (r:=(rV Xa)) 3 (Ev.sh (ZM (EvS.ls (Xr (r:=(rV Xa)) 0 rfl (fun _ s=>(SC.r (SC.l (SC.l s)))))) (YF (K:=K) (XV (Xe 1) (YT (Xe 8) (Xb (r:=Xa) 2 rfl (fun _ s=>(SC.r s)))))) (YF (K:=K) (XV (Xe 9) (YT (Xe 8) (Xb (r:=Xa) 2 rfl (fun _ s=>(SC.r s)))))))) fun a13 v14=>(XS (K:=K) (r:=(rPL Xa)) 4 (EvB.sh (Qa (Ev.toB (Qq (fun _=>tg1 0) (Yo (Ev.sh (ZM (EvS.ls (Xr (r:=(rV Xa)) 3 rfl (fun _ s=>(SC.r s)))) (YF (K:=K) (Xe 3)) (YF (K:=K) (XV (Xe 3) (Xy (Xb (r:=(rV Xa)) 3 rfl (fun _ s=>(SC.r s))) (Xe 0))))))) (fun C39 a40 v41=>(EvS.ev (EvB.sh (Yd (Xb (r:=Xa) 0 rfl (fun _ s=>(SC.r s))) (Xe 1))))))))) fun a28 v29=>(ZO (K:=K) (o:=(oF (rP3 (rPL Xa) Xa Xa))) (f:=fun a59=>(Res.ok (a59))) 1 0 rfl rfl rfl (fun _ s=>(SC.r (SC.l (SC.l (SC.l s))))) (EvS.ev (Y1 (Xr (r:=(rPL Xa)) 4 rfl (fun _ s=>(SC.r s))) (EvB.sh (Yd (Xy (Xb (r:=(rV Xa)) 3 rfl (fun _ s=>(SC.r (SC.l s)))) (Xe 1)) (Xe 1))) (EvB.sh (Yd (Xy (Xb (r:=(rV Xa)) 3 rfl (fun _ s=>(SC.r (SC.l s)))) (Xe 2)) (Xe 1))))) fun a57 C58=>(Xq (J:=_) ((some v12), (some v14), (some v29), x10.2.2.2.1, C58) ((g9 ++ [a57])) rfl rfl (fun _ s=>(SC.i (SC.i SC.t (SC.r (SC.l (SC.l (SC.l (SC.l (SC.l s))))))) (SC.r s)))))))) fun g60 x61=>(XD (X3 (o:=(oL (oF (rP3 (rPL Xa) Xa Xa)))) 1 0 rfl rfl (fun _ s=>(SC.r s))))))
theorem ZS : FnScope ["_law_script", "_law_some", "_law_one", "_law_other", "_law_paper", "_law_due", "_law_first", "_law_second", "_law_handed", "_law_k", "_law_found"] ["_law_script"] (Xk VQ):=⟨rfl, rfl, rfl, by decide +kernel, rfl, by decide +kernel, by decide +kernel⟩
set_option maxHeartbeats 4000000 in
theorem Hh {f : Addr} {fd : FuncData} (F : Fun K "law" "law" VQ f fd) (g_row : Fn P w K mg base 2 "_law_row" ["_law_script", "_law_place", "_law_sizes"] (sp3 (rL Xa) Xa (rV Xa) (oL (oF Xa)) Jd K)) (g_pair : Fn P w K mg base 4 "_law_pair" ["_law_script", "_law_most"] (sp2 (rL Xa) Xa (oT2 (oL (oL (oF Xa))) (oL (oL (oF Xa)))) Vi K)) (g_bent : Fn P w K mg base 1 "_law_bent" ["_law_paper", "_law_some"] (sp2 (rV (rP3 (rPL Xa) Xa Xa)) (rV Xa) (oL (oF (rP3 (rPL Xa) Xa Xa))) Vc K)) (g_shut : Fn P w K mg base 2 "_law_shut" ["_law_one", "_law_other", "_law_paper"] (sp3 (rV (rV Xa)) (rV (rV Xa)) (rV (rP3 (rPL Xa) Xa Xa)) (oF XC) QX K)) (g_own_paper : Fn P w K mg base 3 "_law_own_paper" ["_law_one", "_law_other"] (sp2 (rV (rV Xa)) (rV (rV Xa)) (oL (oF (rP3 (rPL Xa) Xa Xa))) Yv K)) (g_more : Fn P w K mg base 1 "_law_more" ["_law_some"] (sp1 (rV Xa) (oL (oF (rP3 (rPL Xa) Xa Xa))) Vu K)) (g_copied : Fn P w K mg base 1 "_law_copied" ["_law_some"] (sp1 (rV (rV Xa)) (oL (oL (oF Xa))) ZE K)) (g_shuts : Fn P w K mg base 3 "shuts" ["one", "other", "paper"] (sp3 (rV (rV Xa)) (rV (rV Xa)) (rV (rP3 (rPL Xa) Xa Xa)) (oF XC) Z0 K)) (g_every : Fn P w K mg base 2 "_law_every" ["_law_one", "_law_other"] (sp2 (rV (rV Xa)) (rV (rV Xa)) (oL (oL (oF Xa))) ZF K)) (Z : Blt mg) : FnOk P w K mg base CX0 5 f fd ["_law_script"] (sp1 (rL Xa) (oF XC) Kp K):=by
  refine F.ok ZS (fun vs H Q E h=>?_) (fun cdv A outer s H vs Q E hr h=>?_)
  . obtain ⟨v_0, a_0, b, rfl, _⟩:=h; rfl
  obtain ⟨v_0, a_0, b, rfl, h_0, hm, q⟩:=h
  have hu:=hu8 hr
  have hu1:=YD hr
  refine ⟨_, (Xd (Xw (i:=1) ZS.nd rfl (Or.inl rfl) (X2 g_row hr (by decide) (Xc (pv 0) (Xc Xg (Xc (XQ (Xc Xg (Xc Xg (Xc Xg (Xc Xg Xf))))) Xf Ze)))))
    (Xd (Qk (X2 g_pair hr (by decide) (Xc (pv 0) (Xc (XH (Xl K rfl) (XQ (Xc Xg (Xc Xg Xf))) (Yu Fk rfl Z.b_int PyProof.Rows.boot_int (Xc (Z6 Y8 (XH (Xl K rfl) (pv 1) Xg (fun _ _=>rfl)) Xg (Xs _)) Xf)) (fun _ _=>rfl)) Xf))) (De rfl (Zs (Xz (i:=2) ZS.nd rfl (Or.inl rfl)) (Zs (Xz (i:=3) ZS.nd rfl (Or.inl rfl)) Ki))))
    (Xd (Xw (i:=4) ZS.nd rfl (Or.inl rfl) (X2 g_bent hr (by decide) (Xc (X2 g_own_paper hr (by decide) (Xc (pv 2) (Xc (pv 3) Xf))) (Xc (pv 1) Xf))))
    (Xd (X8 (Xp Y8 (XH (Xl K rfl) (pv 1) Xg (fun _ _=>rfl)) Xg (Xs _))
      (Xd (Xw (i:=4) ZS.nd rfl (Or.inl rfl) (Xt Q4 (Xt Gb (XQ (Xc (Zb (Xc (Zb (Xc Xg (Xc Xg Xf))) (Xc Xg (Xc Xg Xf)))) Xf)) Xg) (pv 4)))
      Xh)
      Xh)
    (Xd (Xw (i:=4) ZS.nd rfl (Or.inl rfl) (Xt Q4 (pv 4) (X2 g_more hr (by decide) (Xc (X2 g_row hr (by decide) (Xc (pv 0) (Xc Xg (Xc (Xt Q4 (XQ (Xc Xg Xf)) (Xt Gb (XQ (Xc Xg (Xc Xg (Xc Xg (Xc Xg (Xc Xg (Xc Xg (Xc Xg (Xc Xg Xf))))))))) Xg)) Xf)))) Xf))))
    (Xd (Xw (i:=5) ZS.nd rfl (Or.inl rfl) (X2 g_shut hr (by decide) (Xc (pv 2) (Xc (pv 3) (Xc (pv 4) Xf)))))
    (Xd (BS (i:=6) (j:=7) (k:=8) rfl ZS.nd rfl rfl rfl (by decide) (by decide) (by decide) rfl rfl rfl (Xc (X2 g_copied hr (by decide) (Xc (pv 2) Xf)) (Xc (X2 g_copied hr (by decide) (Xc (pv 3) Xf)) (Xc (Yu (Zc K rfl) rfl Z.b_list PyProof.Rows.boot_list (Xc (pv 4) Xf)) Xf))) rfl)
    (Xd (Ya PassesOwn.never rfl (XJ rfl Z.b_range (Xc Xg Xf)) (Xz (i:=9) ZS.nd rfl (Or.inl rfl))
      (Xd (Xw (i:=10) ZS.nd rfl (Or.inl rfl) (X2 g_shuts hr (by decide) (Xc (pv 6) (Xc (pv 7) (Xc (pv 8) Xf)))))
      (Xd (X8 (PW.pt (UT (D0 (Vb (Xn UV rfl Z.b_isinstance PyProof.Rows.boot_isinstance (Xc (pv 10) (Xc (EK (v:=V.ty "bool") rfl Z.b_bool PyProof.Rows.boot_bool rfl) Xf))))) (Vj (Xp Jc (pv 10) (pv 5) (Xs _)))))
        (Xd (XE JJ)
        Xh)
        Xh)
      Xh)))
    (Xd (X8 (PW.pt (UT (Xp (DM (Iq (Iq eq_int)) (Be (by decide) hu)) (pv 6) (pv 2) (Xs _)) (UT (Xp (DM (Iq (Iq eq_int)) (Be (by decide) hu)) (pv 7) (pv 3) (Xs _)) (Vj (Xp (DM (Iq (Ld (Lm eq_int) (eq_int.up (by decide)) (eq_int.up (by decide)))) (Be (by decide) hu)) (pv 8) (pv 4) (Xs _))))))
      (Xd (XE JJ)
      Xh)
      Xh)
    (Xd (XE (IU (Z6 Jc (pv 5) (Z6 J9 (Xn (Xi K rfl) rfl Z.b_len PySem.boot_len (Xc (X2 g_every hr (by decide) (Xc (pv 2) (Xc (pv 3) Xf))) Xf)) Xg (Xs _)) (Xs _)) (K2 (Ic (pv 5)))))
    Xh)))))))))), ?_⟩
  refine YM (S:=(SC.add SC.nil K (rL Xa) v_0 a_0)) (σ:=[some v_0, none, none, none, none, none, none, none, none, none, none]) 0 ?_ (SC.i SC.t h_0) hm q rfl
  unfold Kp
  exact (XS (K:=K) (r:=(rV Xa)) 1 (Ev.sh (Yl (Xb (r:=(rL Xa)) 0 rfl (fun _ s=>(SC.r s))) (Xe 3) (Ev.toB (YU (Xo (EvB.sh (Xe 12)) (Xo (EvB.sh (Xe 400)) (Xo (EvB.sh (Xe 8)) (Xo (EvB.sh (Xe 8)) X9)))))))) fun a1 v2=>(Ho 2 3 (Ev.sh (XN (Xb (r:=(rL Xa)) 0 rfl (fun _ s=>(SC.r (SC.l s)))) (Xy (Ev.toB (YU (Xo (EvB.sh (Xe 4)) (Xo (EvB.sh (Xe 5)) X9)))) (Cr (Yh (Xy (Xb (r:=(rV Xa)) 1 rfl (fun _ s=>(SC.r s))) (Xe 3)) (Xe 0)))))) fun a31 v32 v33=>(XS (K:=K) (r:=(rV (rP3 (rPL Xa) Xa Xa))) 4 (Ev.sh (XN (Ev.toB (XN (Xb (r:=(rV (rV Xa))) 2 rfl (fun _ s=>(SC.r (SC.l s)))) (Xb (r:=(rV (rV Xa))) 3 rfl (fun _ s=>(SC.r s))))) (Xb (r:=(rV Xa)) 1 rfl (fun _ s=>(SC.r (SC.l (SC.l s))))))) fun a34 v35=>(Yf (J:=({ oo:=fun x47=>[], ss:=fun x47=>[some v_0, some v2, some v32, some v33, some x47, none, none, none, none, none, none], sc:=fun g48 x47=>(SC.add (SC.add (SC.add (SC.add (SC.add SC.nil K (rL Xa) v_0 a_0) K (rV Xa) v2 a1) K (rV (rV Xa)) v32 a31.1) K (rV (rV Xa)) v33 a31.2) K (rV (rP3 (rPL Xa) Xa Xa)) x47 g48) } : Jn ((List ((List Int) × Int × Int))) (V))) (YS (Fd:=FNd ({ oo:=fun x47=>[], ss:=fun x47=>[some v_0, some v2, some v32, some v33, some x47, none, none, none, none, none, none], sc:=fun g48 x47=>(SC.add (SC.add (SC.add (SC.add (SC.add SC.nil K (rL Xa) v_0 a_0) K (rV Xa) v2 a1) K (rV (rV Xa)) v32 a31.1) K (rV (rV Xa)) v33 a31.2) K (rV (rP3 (rPL Xa) Xa Xa)) x47 g48) } : Jn ((List ((List Int) × Int × Int))) (V))) (Xj (K:=K) (Yh (Xy (Xb (r:=(rV Xa)) 1 rfl (fun _ s=>(SC.r (SC.l (SC.l (SC.l s)))))) (Xe 3)) (Xe 1))) (XS (K:=K) (r:=(rV (rP3 (rPL Xa) Xa Xa))) 4 (Ev.sh (QY (Ev.ls (Kx (Ev.ls (YU (Xo (Y1 (VV (Xo (EvB.sh (Xe 0)) (Xo (EvB.sh (Xe 0)) X9))) (EvB.sh (Xe 0)) (EvB.sh (Xe 0))) X9))) (Xe 970))) (EvS.ls (Xr (r:=(rV (rP3 (rPL Xa) Xa Xa))) 4 rfl (fun _ s=>(SC.r s)))))) fun a49 v50=>(Xq (J:=_) (v50) (a49) rfl rfl (fun _ s=>(SC.i (SC.i (SC.i (SC.i (SC.i SC.t (SC.r (SC.l (SC.l (SC.l (SC.l (SC.l s))))))) (SC.r (SC.l (SC.l (SC.l (SC.l s)))))) (SC.r (SC.l (SC.l (SC.l s))))) (SC.r (SC.l (SC.l s)))) (SC.r s))))) (Xq (J:=_) (v35) (a34) rfl rfl (fun _ s=>(SC.i (SC.i (SC.i (SC.i (SC.i SC.t (SC.r (SC.l (SC.l (SC.l (SC.l s)))))) (SC.r (SC.l (SC.l (SC.l s))))) (SC.r (SC.l (SC.l s)))) (SC.r (SC.l s))) (SC.r s))))) fun g67 x66=>(XS (K:=K) (r:=(rV (rP3 (rPL Xa) Xa Xa))) 4 (Ev.sh (QY (EvS.ls (Xr (r:=(rV (rP3 (rPL Xa) Xa Xa))) 4 rfl (fun _ s=>(SC.r s)))) (Ev.ls (Jj (Ev.toB (Yl (Xb (r:=(rL Xa)) 0 rfl (fun _ s=>(SC.r (SC.l (SC.l (SC.l (SC.l s))))))) (Xe 4) (Ev.toB (QY (Ev.ls (YU (Xo (EvB.sh (Xe 5)) X9))) (Ev.ls (Kx (Ev.ls (YU (Xo (EvB.sh (Xe 5)) (Xo (EvB.sh (Xe 6)) (Xo (EvB.sh (Xe 6)) (Xo (EvB.sh (Xe 6)) (Xo (EvB.sh (Xe 6)) (Xo (EvB.sh (Xe 6)) (Xo (EvB.sh (Xe 6)) (Xo (EvB.sh (Xe 6)) X9)))))))))) (Xe 4))))))))))) fun a68 v69=>(XS (K:=K) (r:=XC) 5 (EvB.sh (Ev.toB (Yl (Xb (r:=(rV (rV Xa))) 2 rfl (fun _ s=>(SC.r (SC.l (SC.l (SC.l s)))))) (Xb (r:=(rV (rV Xa))) 3 rfl (fun _ s=>(SC.r (SC.l (SC.l s))))) (Xb (r:=(rV (rP3 (rPL Xa) Xa Xa))) 4 rfl (fun _ s=>(SC.r s)))))) fun a102 v103=>(Eu (K:=K) 6 7 8 (Ev.sh (Jj (Xb (r:=(rV (rV Xa))) 2 rfl (fun _ s=>(SC.r (SC.l (SC.l (SC.l (SC.l s))))))))) (Ev.sh (Jj (Xb (r:=(rV (rV Xa))) 3 rfl (fun _ s=>(SC.r (SC.l (SC.l (SC.l s)))))))) (Ev.sh (Vz (EvS.ls (Xr (r:=(rV (rP3 (rPL Xa) Xa Xa))) 4 rfl (fun _ s=>(SC.r (SC.l s))))))) fun a113 a114 a115 v116 v117 v118=>(VG (K:=K) (J:=({ oo:=fun x120=>[], ss:=fun x120=>[some v_0, some v2, some v32, some v33, some v69, some v103, some v116, some v117, some v118, x120.1, x120.2], sc:=fun g121 x120=>(SC.add (SC.add (SC.add (SC.add (SC.add (SC.add (SC.add (SC.add (SC.add SC.nil K (rL Xa) v_0 a_0) K (rV Xa) v2 a1) K (rV (rV Xa)) v32 a31.1) K (rV (rV Xa)) v33 a31.2) K (rV (rP3 (rPL Xa) Xa Xa)) v69 a68) K XC v103 a102) K (rV (rV Xa)) v116 a113) K (rV (rV Xa)) v117 a114) K (rV (rP3 (rPL Xa) Xa Xa)) v118 a115) } : Jn (Unit) (Option V × Option V))) (fun _=>tg1 9) ((none), (none)) () (XB (Xe 2)) rfl rfl (fun _ s=>(SC.i (SC.i (SC.i (SC.i (SC.i (SC.i (SC.i (SC.i (SC.i SC.t (SC.r (SC.l (SC.l (SC.l (SC.l (SC.l (SC.l (SC.l (SC.l (SC.l s))))))))))) (SC.r (SC.l (SC.l (SC.l (SC.l (SC.l (SC.l (SC.l (SC.l s)))))))))) (SC.r (SC.l (SC.l (SC.l (SC.l (SC.l (SC.l (SC.l s))))))))) (SC.r (SC.l (SC.l (SC.l (SC.l (SC.l (SC.l s)))))))) (SC.r (SC.l (SC.l (SC.l (SC.l s)))))) (SC.r (SC.l (SC.l (SC.l s))))) (SC.r (SC.l (SC.l s)))) (SC.r (SC.l s))) (SC.r s))) (fun g122 x123 a124 v125=>(XS (K:=K) (r:=XC) 10 (EvB.sh (Ev.toB (Yl (Xb (r:=(rV (rV Xa))) 6 rfl (fun _ s=>(SC.r (SC.l (SC.l (SC.l s)))))) (Xb (r:=(rV (rV Xa))) 7 rfl (fun _ s=>(SC.r (SC.l (SC.l s))))) (Xb (r:=(rV (rP3 (rPL Xa) Xa Xa))) 8 rfl (fun _ s=>(SC.r (SC.l s))))))) fun a126 v127=>(V4 (JM (U8 (Uo (K:=K) (GF "bool" true (CK K "bool") (Xb (r:=XC) 10 rfl (fun _ s=>(SC.r s)))))) (Xj (K:=K) (ZP (Xb (r:=XC) 10 rfl (fun _ s=>(SC.r s))) (Xb (r:=XC) 5 rfl (fun _ s=>(SC.r (SC.l (SC.l (SC.l (SC.l (SC.l s))))))))))) (XD (EvS.ev (EvB.sh (ZZ false)))) (Vk (Xq (J:=_) ((some v125), (some v127)) () rfl rfl (fun _ s=>(SC.i (SC.i (SC.i (SC.i (SC.i (SC.i (SC.i (SC.i (SC.i SC.t (SC.r (SC.l (SC.l (SC.l (SC.l (SC.l (SC.l (SC.l (SC.l (SC.l (SC.l s)))))))))))) (SC.r (SC.l (SC.l (SC.l (SC.l (SC.l (SC.l (SC.l (SC.l (SC.l s))))))))))) (SC.r (SC.l (SC.l (SC.l (SC.l (SC.l (SC.l (SC.l (SC.l s)))))))))) (SC.r (SC.l (SC.l (SC.l (SC.l (SC.l (SC.l (SC.l s))))))))) (SC.r (SC.l (SC.l (SC.l (SC.l (SC.l (SC.l s)))))))) (SC.r (SC.l (SC.l (SC.l (SC.l (SC.l s))))))) (SC.r (SC.l (SC.l (SC.l (SC.l s)))))) (SC.r (SC.l (SC.l (SC.l s))))) (SC.r (SC.l (SC.l s)))))))))) fun g139 x140=>(YQ (JM (Xj (K:=K) (UW (Xb (r:=(rV (rV Xa))) 6 rfl (fun _ s=>(SC.r (SC.l (SC.l s))))) (Xb (r:=(rV (rV Xa))) 2 rfl (fun _ s=>(SC.r (SC.l (SC.l (SC.l (SC.l (SC.l (SC.l s))))))))))) (JM (Xj (K:=K) (UW (Xb (r:=(rV (rV Xa))) 7 rfl (fun _ s=>(SC.r (SC.l s)))) (Xb (r:=(rV (rV Xa))) 3 rfl (fun _ s=>(SC.r (SC.l (SC.l (SC.l (SC.l (SC.l s)))))))))) (Xj (K:=K) (UW (Xb (r:=(rV (rP3 (rPL Xa) Xa Xa))) 8 rfl (fun _ s=>(SC.r s))) (Xb (r:=(rV (rP3 (rPL Xa) Xa Xa))) 4 rfl (fun _ s=>(SC.r (SC.l (SC.l (SC.l (SC.l s))))))))))) (XD (EvS.ev (EvB.sh (ZZ false)))) (XD (EvS.ev (EvB.sh (BT (ZP (Xb (r:=XC) 5 rfl (fun _ s=>(SC.r (SC.l (SC.l (SC.l s)))))) (Qh (XI (Ev.toB (XN (Xb (r:=(rV (rV Xa))) 2 rfl (fun _ s=>(SC.r (SC.l (SC.l (SC.l (SC.l (SC.l (SC.l s))))))))) (Xb (r:=(rV (rV Xa))) 3 rfl (fun _ s=>(SC.r (SC.l (SC.l (SC.l (SC.l (SC.l s))))))))))) (Xe 0))) (Ct (Xb (r:=XC) 5 rfl (fun _ s=>(SC.r (SC.l (SC.l (SC.l s))))))))))))))))))))
end
theorem IT {K : PySem.W.Frag} {mg : Str -> Option Value} {h : Heap} (X : K.In h) (G : h.Ns mainGlobals mg) {x p0 : Str} {st : Stmt} {f : Addr} {oc : Value} {od an : Option Addr} {osl : Array (Option Value)} {kV doc pm cdv ct : Value} (hb : ∀ (kV doc pm : Value) (an : Option Addr) (cdv ct u0 : Value), bindArgs (PySem.W.fnOf x x (YN st) (Yy st) (Xk st) .none kV doc pm an cdv ct) ⟨[u0], []⟩ = pure ([p0].zip [u0])) (a : PySem.W.nsIn K mainGlobals x = some (some (.ref f))) (l : K.lookup f = some ⟨oc, od, .func (PySem.W.fnOf x x (YN st) (Yy st) (Xk st) .none kV doc pm an cdv ct), osl⟩) (c : PySem.W.codeIn K cdv x = true) (k : PySem.W.keepIn K (.ref f) = true) : Def K mg x st [p0]:=⟨f, _, Qy l c k, (Qy l c k).binds fun _ _ _ _ _ _ us hl=>(by obtain ⟨_, rfl⟩:=HU hl; exact hb ..), PySem.W.mg_of X G a⟩
theorem UG {K : PySem.W.Frag} {mg : Str -> Option Value} {h : Heap} (X : K.In h) (G : h.Ns mainGlobals mg) {x p0 p1 : Str} {st : Stmt} {f : Addr} {oc : Value} {od an : Option Addr} {osl : Array (Option Value)} {kV doc pm cdv ct : Value} (hb : ∀ (kV doc pm : Value) (an : Option Addr) (cdv ct u0 u1 : Value), bindArgs (PySem.W.fnOf x x (YN st) (Yy st) (Xk st) .none kV doc pm an cdv ct) ⟨[u0, u1], []⟩ = pure ([p0, p1].zip [u0, u1])) (a : PySem.W.nsIn K mainGlobals x = some (some (.ref f))) (l : K.lookup f = some ⟨oc, od, .func (PySem.W.fnOf x x (YN st) (Yy st) (Xk st) .none kV doc pm an cdv ct), osl⟩) (c : PySem.W.codeIn K cdv x = true) (k : PySem.W.keepIn K (.ref f) = true) : Def K mg x st [p0, p1]:=⟨f, _, Qy l c k, (Qy l c k).binds fun _ _ _ _ _ _ us hl=>(by obtain ⟨_, _, rfl⟩:=Ix hl; exact hb ..), PySem.W.mg_of X G a⟩
theorem Bv {K : PySem.W.Frag} {mg : Str -> Option Value} {h : Heap} (X : K.In h) (G : h.Ns mainGlobals mg) {x p0 p1 p2 : Str} {st : Stmt} {f : Addr} {oc : Value} {od an : Option Addr} {osl : Array (Option Value)} {kV doc pm cdv ct : Value} (hb : ∀ (kV doc pm : Value) (an : Option Addr) (cdv ct u0 u1 u2 : Value), bindArgs (PySem.W.fnOf x x (YN st) (Yy st) (Xk st) .none kV doc pm an cdv ct) ⟨[u0, u1, u2], []⟩ = pure ([p0, p1, p2].zip [u0, u1, u2])) (a : PySem.W.nsIn K mainGlobals x = some (some (.ref f))) (l : K.lookup f = some ⟨oc, od, .func (PySem.W.fnOf x x (YN st) (Yy st) (Xk st) .none kV doc pm an cdv ct), osl⟩) (c : PySem.W.codeIn K cdv x = true) (k : PySem.W.keepIn K (.ref f) = true) : Def K mg x st [p0, p1, p2]:=⟨f, _, Qy l c k, (Qy l c k).binds fun _ _ _ _ _ _ us hl=>(by obtain ⟨_, _, _, rfl⟩:=Ij hl; exact hb ..), PySem.W.mg_of X G a⟩
theorem Ll {K : PySem.W.Frag} {mg : Str -> Option Value} {h : Heap} (X : K.In h) (G : h.Ns mainGlobals mg) {x p0 p1 p2 p3 p4 : Str} {st : Stmt} {f : Addr} {oc : Value} {od an : Option Addr} {osl : Array (Option Value)} {kV doc pm cdv ct : Value} (hb : ∀ (kV doc pm : Value) (an : Option Addr) (cdv ct u0 u1 u2 u3 u4 : Value), bindArgs (PySem.W.fnOf x x (YN st) (Yy st) (Xk st) .none kV doc pm an cdv ct) ⟨[u0, u1, u2, u3, u4], []⟩ = pure ([p0, p1, p2, p3, p4].zip [u0, u1, u2, u3, u4])) (a : PySem.W.nsIn K mainGlobals x = some (some (.ref f))) (l : K.lookup f = some ⟨oc, od, .func (PySem.W.fnOf x x (YN st) (Yy st) (Xk st) .none kV doc pm an cdv ct), osl⟩) (c : PySem.W.codeIn K cdv x = true) (k : PySem.W.keepIn K (.ref f) = true) : Def K mg x st [p0, p1, p2, p3, p4]:=⟨f, _, Qy l c k, (Qy l c k).binds fun _ _ _ _ _ _ us hl=>(by obtain ⟨_, _, _, _, _, rfl⟩:=Le hl; exact hb ..), PySem.W.mg_of X G a⟩
theorem IA {l : PySem.W.OpenLaw} {w : World} {K : PySem.W.Frag} {h : Heap} {mg : Str -> Option Value} {fa f : Addr} {tk0 : Tok} (X : K.In h) (G : h.Ns mainGlobals mg) (hfa : mg "law" = some (.ref fa)) {od an : Option Addr} {sl : Array (Option Value)} {oc kV dc pm cd ct : Value}
    (D1 : Def K mg "refuse_above" Zx ["most", "size"])
    (D2 : Def K mg "all_colours" Zd ["numbers", "size"])
    (D3 : Def K mg "each_once" Qs ["count"])
    (D4 : Def K mg "longer_by_one" Zg ["lists", "count"])
    (D5 : Def K mg "refuse_big" ZX ["one", "other"])
    (D6 : Def K mg "equation_broken" YY ["one", "other", "images", "a", "b"])
    (D7 : Def K mg "shuts" Jy ["one", "other", "paper"])
    (D8 : Def K mg "breaks" VF ["one", "other", "entry"])
    (D9 : Def K mg "is_place" QP ["images", "number"])
    (D10 : Def K mg "begins_with_one" Yw ["order", "shut"])
    (D11 : Def K mg "_law_cell" DC ["_law_script", "_law_place"])
    (D12 : Def K mg "_law_mix" Ey ["_law_cell_here", "_law_k"])
    (D13 : Def K mg "_law_row" B3 ["_law_script", "_law_place", "_law_sizes"])
    (D14 : Def K mg "_law_cell_of" Jv ["_law_way", "_law_size", "_law_factor", "_law_a", "_law_b"])
    (D15 : Def K mg "_law_common" VO ["_law_one", "_law_other"])
    (D16 : Def K mg "_law_made" Kw ["_law_way", "_law_size", "_law_factor"])
    (D17 : Def K mg "_law_ordered" Jp ["_law_some", "_law_count"])
    (D18 : Def K mg "_law_relaid" Ji ["_law_some", "_law_spots"])
    (D19 : Def K mg "_law_table" UY ["_law_script", "_law_place", "_law_most"])
    (D20 : Def K mg "_law_stands" VI ["_law_one", "_law_other", "_law_images"])
    (D21 : Def K mg "_law_longer" Jl ["_law_images", "_law_size"])
    (D22 : Def K mg "_law_every" Kr ["_law_one", "_law_other"])
    (D23 : Def K mg "_law_copied" Jk ["_law_some"])
    (D24 : Def K mg "_law_rare" Ft ["_law_way", "_law_size"])
    (D25 : Def K mg "_law_pair" F7 ["_law_script", "_law_most"])
    (D26 : Def K mg "_law_breaks" QL ["_law_one", "_law_other", "_law_images", "_law_a", "_law_b"])
    (D27 : Def K mg "_law_shut" DL ["_law_one", "_law_other", "_law_paper"])
    (D28 : Def K mg "_law_breach" VZ ["_law_one", "_law_other", "_law_images"])
    (D29 : Def K mg "_law_own_paper" Ql ["_law_one", "_law_other"])
    (D30 : Def K mg "_law_bent" Fj ["_law_paper", "_law_some"])
    (D31 : Def K mg "_law_more" Gc ["_law_some"])
    (a : PySem.W.nsIn K mainGlobals "law" = some (some (.ref f))) (l0 : K.lookup f = some ⟨oc, od, .func (PySem.W.fnOf "law" "law" (YN VQ) (Yy VQ) (Xk VQ) .none kV dc pm an cd ct), sl⟩) (c : PySem.W.codeIn K cd "law" = true) (k : PySem.W.keepIn K (.ref f) = true)
    (z1 : PySem.W.nsIn K mainGlobals "abs" = some none)
    (z2 : PySem.W.nsIn K mainGlobals "all" = some none)
    (z3 : PySem.W.nsIn K mainGlobals "any" = some none)
    (z4 : PySem.W.nsIn K mainGlobals "bool" = some none)
    (z5 : PySem.W.nsIn K mainGlobals "dict" = some none)
    (z6 : PySem.W.nsIn K mainGlobals "int" = some none)
    (z7 : PySem.W.nsIn K mainGlobals "isinstance" = some none)
    (z8 : PySem.W.nsIn K mainGlobals "len" = some none)
    (z9 : PySem.W.nsIn K mainGlobals "list" = some none)
    (z10 : PySem.W.nsIn K mainGlobals "max" = some none)
    (z11 : PySem.W.nsIn K mainGlobals "min" = some none)
    (z12 : PySem.W.nsIn K mainGlobals "range" = some none)
    (z13 : PySem.W.nsIn K mainGlobals "set" = some none)
    (z14 : PySem.W.nsIn K mainGlobals "tuple" = some none)
    (w0 : PySem.W.nsIn K mainGlobals "MOST_TO_COMPARE" = some (some (.int 6 tk0)))
    : ∃ fd : FuncData, (∀ (s : Shared) (v : Value), BindsTo s fd ⟨[v], []⟩ [("_law_script", v)]) /\ ∀ base : Heap, K.In base -> base.Ns mainGlobals mg -> FnOk l.prog w K mg base CX0 5 fa fd ["_law_script"] (sp1 (rL Xa) (oF XC) Kp K):=by
  have e:=hfa.symm.trans (PySem.W.mg_of X G a)
  cases e
  have N : ∀ {x : Str}, PySem.W.nsIn K mainGlobals x = some none -> mg x = none:=fun z=>PySem.W.mg_none_of X G z
  have Z : Blt mg:=⟨N z1, N z2, N z3, N z4, N z5, N z6, N z7, N z8, N z9, N z10, N z11, N z12, N z13, N z14, ⟨_, PySem.W.mg_of X G w0, _, rfl⟩⟩
  refine ⟨PySem.W.fnOf "law" "law" (YN VQ) (Yy VQ) (Xk VQ) .none kV dc pm an cd ct, fun s v=>.of_eq rfl, fun base _ _=>?_⟩
  have g_cell:=ER (P:=l.prog) (w:=w) (base:=base) D11  Z
  have g_mix:=Iw (P:=l.prog) (w:=w) (base:=base) D12  Z
  have g_row:=Hu (P:=l.prog) (w:=w) (base:=base) D13 g_cell g_mix Z
  have g_common:=GY (P:=l.prog) (w:=w) (base:=base) D15  Z
  have g_cell_of:=GB (P:=l.prog) (w:=w) (base:=base) D14  Z
  have g_made:=EA (P:=l.prog) (w:=w) (base:=base) D16 g_common g_cell_of Z
  have g_relaid:=GW (P:=l.prog) (w:=w) (base:=base) D18  Z
  have g_ordered:=Gy (P:=l.prog) (w:=w) (base:=base) D17  Z
  have g_table:=Ck (P:=l.prog) (w:=w) (base:=base) D19 g_row g_made g_relaid g_ordered Z
  have g_rare:=B8 (P:=l.prog) (w:=w) (base:=base) D24  Z
  have g_pair:=Et (P:=l.prog) (w:=w) (base:=base) D25 g_row g_table g_rare g_made g_relaid g_ordered Z
  have g_bent:=EC (P:=l.prog) (w:=w) (base:=base) D30  Z
  have g_l_breaks:=Kl (P:=l.prog) (w:=w) (base:=base) D26  Z
  have g_longer:=DP (P:=l.prog) (w:=w) (base:=base) D21  Z
  have g_shut:=E5 (P:=l.prog) (w:=w) (base:=base) D27 g_l_breaks g_longer Z
  have g_breach:=DJ (P:=l.prog) (w:=w) (base:=base) D28 g_l_breaks Z
  have g_own_paper:=Uk (P:=l.prog) (w:=w) (base:=base) D29 g_longer g_breach Z
  have g_more:=BR (P:=l.prog) (w:=w) (base:=base) D31  Z
  have g_copied:=Di (P:=l.prog) (w:=w) (base:=base) D23  Z
  have g_refuse_above:=JR (P:=l.prog) (w:=w) (base:=base) D1  Z
  have g_refuse_big:=VC (P:=l.prog) (w:=w) (base:=base) D5 g_refuse_above Z
  have g_begins_with_one:=Qw (P:=l.prog) (w:=w) (base:=base) D10  Z
  have g_is_place:=Kq (P:=l.prog) (w:=w) (base:=base) D9  Z
  have g_equation_broken:=Qx (P:=l.prog) (w:=w) (base:=base) D6  Z
  have g_all_colours:=J7 (P:=l.prog) (w:=w) (base:=base) D2  Z
  have g_breaks:=FW (P:=l.prog) (w:=w) (base:=base) D8 g_is_place g_equation_broken g_all_colours Z
  have g_longer_by_one:=Q9 (P:=l.prog) (w:=w) (base:=base) D4  Z
  have g_each_once:=Ue (P:=l.prog) (w:=w) (base:=base) D3 g_longer_by_one Z
  have g_shuts:=Bk (P:=l.prog) (w:=w) (base:=base) D7 g_refuse_big g_begins_with_one g_breaks g_each_once Z
  have g_stands:=FD (P:=l.prog) (w:=w) (base:=base) D20  Z
  have g_every:=Ci (P:=l.prog) (w:=w) (base:=base) D22 g_longer g_stands Z
  exact Hh (P:=l.prog) (w:=w) (base:=base) (Qy (st:=VQ) l0 c k) g_row g_pair g_bent g_shut g_own_paper g_more g_copied g_shuts g_every Z
theorem LL {l : PySem.W.OpenLaw} {q : Program} {loose : List Str} {XP : (Str -> Option Value) -> Heap -> Prop} {YP : World -> Heap -> Prop} {d : DefRec} {K : Params -> PySem.W.Frag} (hn : l.most = some 63) (hdf : d.params.defaults = [])
    (hY : ∀ (w : World) (h : Heap), YP w h -> (K w.params).In h)
    (F : ∀ (w : World) (mg : Str -> Option Value) (fa : Addr) (h : Heap), (K w.params).In h -> h.Ns mainGlobals mg -> mg d.name = some (.ref fa) ->
      ∃ fd : FuncData, (∀ (s : Shared) (u : Value), BindsTo s fd ⟨[u], []⟩ [("_law_script", u)]) /\ ∀ base : Heap, (K w.params).In base -> base.Ns mainGlobals mg -> FnOk l.prog w (K w.params) mg base CX0 5 fa fd ["_law_script"] (sp1 (rL Xa) (oF XC) Kp (K w.params))) :
    PySem.W.WalkO q loose XP YP l.row.toRowW d [] (fun f vs=>PySem.call f vs):=
  L2.B4 (n:=63) (k:=5) (x:="_law_script") (CX:=fun _=>CX0) (sp:=fun w=>sp1 (rL Xa) (oF XC) Kp (K w.params)) hn (by decide) hdf ⟨rfl, by decide, by decide⟩ hY F (fun _ _ a ns hl _ hS=>⟨.ref a, ns, true, rfl, ⟨a, _, rfl, hS, UX ns⟩, CL ns hl, fun v C H' w m ho=>ho.2⟩) fun _ _ _ _ _ z=>z
end My
open PySem PySem.W PyProof.Rows
set_option maxRecDepth 100000 in
set_option maxHeartbeats 0 in
theorem PySem.Challenge.cw_plait_k45_what_shuts_holds : PySem.Challenge.rw_plait_k45_what_shuts.Holds := by
  w_on; o_law; k_head; (case hw => w_witness2)
  k_fill
  refine My.LL (l := PySem.Challenge.rw_plait_k45_what_shuts) rfl rfl (fun w h Y => PySem.W.kIn_of Y) ?F
  case F =>
    intro w mg fa h KX G hmg
    refine' My.IA KX G hmg (My.UG KX G (by intros; rfl) ?a1 ?l1 ?c1 ?k1) (My.UG KX G (by intros; rfl) ?a2 ?l2 ?c2 ?k2) (My.IT KX G (by intros; rfl) ?a3 ?l3 ?c3 ?k3) (My.UG KX G (by intros; rfl) ?a4 ?l4 ?c4 ?k4) (My.UG KX G (by intros; rfl) ?a5 ?l5 ?c5 ?k5) (My.Ll KX G (by intros; rfl) ?a6 ?l6 ?c6 ?k6) (My.Bv KX G (by intros; rfl) ?a7 ?l7 ?c7 ?k7) (My.Bv KX G (by intros; rfl) ?a8 ?l8 ?c8 ?k8) (My.UG KX G (by intros; rfl) ?a9 ?l9 ?c9 ?k9) (My.UG KX G (by intros; rfl) ?a10 ?l10 ?c10 ?k10) (My.UG KX G (by intros; rfl) ?a11 ?l11 ?c11 ?k11) (My.UG KX G (by intros; rfl) ?a12 ?l12 ?c12 ?k12) (My.Bv KX G (by intros; rfl) ?a13 ?l13 ?c13 ?k13) (My.Ll KX G (by intros; rfl) ?a14 ?l14 ?c14 ?k14) (My.UG KX G (by intros; rfl) ?a15 ?l15 ?c15 ?k15) (My.Bv KX G (by intros; rfl) ?a16 ?l16 ?c16 ?k16) (My.UG KX G (by intros; rfl) ?a17 ?l17 ?c17 ?k17) (My.UG KX G (by intros; rfl) ?a18 ?l18 ?c18 ?k18) (My.Bv KX G (by intros; rfl) ?a19 ?l19 ?c19 ?k19) (My.Bv KX G (by intros; rfl) ?a20 ?l20 ?c20 ?k20) (My.UG KX G (by intros; rfl) ?a21 ?l21 ?c21 ?k21) (My.UG KX G (by intros; rfl) ?a22 ?l22 ?c22 ?k22) (My.IT KX G (by intros; rfl) ?a23 ?l23 ?c23 ?k23) (My.UG KX G (by intros; rfl) ?a24 ?l24 ?c24 ?k24) (My.UG KX G (by intros; rfl) ?a25 ?l25 ?c25 ?k25) (My.Ll KX G (by intros; rfl) ?a26 ?l26 ?c26 ?k26) (My.Bv KX G (by intros; rfl) ?a27 ?l27 ?c27 ?k27) (My.Bv KX G (by intros; rfl) ?a28 ?l28 ?c28 ?k28) (My.UG KX G (by intros; rfl) ?a29 ?l29 ?c29 ?k29) (My.UG KX G (by intros; rfl) ?a30 ?l30 ?c30 ?k30) (My.IT KX G (by intros; rfl) ?a31 ?l31 ?c31 ?k31) ?a32 ?l32 ?c32 ?k32 ?z1 ?z2 ?z3 ?z4 ?z5 ?z6 ?z7 ?z8 ?z9 ?z10 ?z11 ?z12 ?z13 ?z14 ?w0
    (case a1 => k_is); (case l1 => k_is); (case c1 => k_is); (case k1 => k_is); (case a2 => k_is); (case l2 => k_is); (case c2 => k_is); (case k2 => k_is); (case a3 => k_is); (case l3 => k_is); (case c3 => k_is); (case k3 => k_is); (case a4 => k_is); (case l4 => k_is); (case c4 => k_is); (case k4 => k_is); (case a5 => k_is); (case l5 => k_is); (case c5 => k_is); (case k5 => k_is); (case a6 => k_is); (case l6 => k_is); (case c6 => k_is); (case k6 => k_is); (case a7 => k_is); (case l7 => k_is); (case c7 => k_is); (case k7 => k_is); (case a8 => k_is); (case l8 => k_is); (case c8 => k_is); (case k8 => k_is); (case a9 => k_is); (case l9 => k_is); (case c9 => k_is); (case k9 => k_is); (case a10 => k_is); (case l10 => k_is); (case c10 => k_is); (case k10 => k_is); (case a11 => k_is); (case l11 => k_is); (case c11 => k_is); (case k11 => k_is); (case a12 => k_is); (case l12 => k_is); (case c12 => k_is); (case k12 => k_is); (case a13 => k_is); (case l13 => k_is); (case c13 => k_is); (case k13 => k_is); (case a14 => k_is); (case l14 => k_is); (case c14 => k_is); (case k14 => k_is); (case a15 => k_is); (case l15 => k_is); (case c15 => k_is); (case k15 => k_is); (case a16 => k_is); (case l16 => k_is); (case c16 => k_is); (case k16 => k_is); (case a17 => k_is); (case l17 => k_is); (case c17 => k_is); (case k17 => k_is); (case a18 => k_is); (case l18 => k_is); (case c18 => k_is); (case k18 => k_is); (case a19 => k_is); (case l19 => k_is); (case c19 => k_is); (case k19 => k_is); (case a20 => k_is); (case l20 => k_is); (case c20 => k_is); (case k20 => k_is); (case a21 => k_is); (case l21 => k_is); (case c21 => k_is); (case k21 => k_is); (case a22 => k_is); (case l22 => k_is); (case c22 => k_is); (case k22 => k_is); (case a23 => k_is); (case l23 => k_is); (case c23 => k_is); (case k23 => k_is); (case a24 => k_is); (case l24 => k_is); (case c24 => k_is); (case k24 => k_is); (case a25 => k_is); (case l25 => k_is); (case c25 => k_is); (case k25 => k_is); (case a26 => k_is); (case l26 => k_is); (case c26 => k_is); (case k26 => k_is); (case a27 => k_is); (case l27 => k_is); (case c27 => k_is); (case k27 => k_is); (case a28 => k_is); (case l28 => k_is); (case c28 => k_is); (case k28 => k_is); (case a29 => k_is); (case l29 => k_is); (case c29 => k_is); (case k29 => k_is); (case a30 => k_is); (case l30 => k_is); (case c30 => k_is); (case k30 => k_is); (case a31 => k_is); (case l31 => k_is); (case c31 => k_is); (case k31 => k_is); (case a32 => k_is); (case l32 => k_is); (case c32 => k_is); (case k32 => k_is); (case z1 => k_is); (case z2 => k_is); (case z3 => k_is); (case z4 => k_is); (case z5 => k_is); (case z6 => k_is); (case z7 => k_is); (case z8 => k_is); (case z9 => k_is); (case z10 => k_is); (case z11 => k_is); (case z12 => k_is); (case z13 => k_is); (case z14 => k_is); (case w0 => k_is)
