import PyProof.Rows.All
import Wide.All
import OpenK.AllK
import Wide.FinOn
import Lean
import PyProof.EqAt
import PyProof.EqKinds
import PyProof.TupleCall
import PySem.Challenge.RW_plait_k43_least_images
set_option Elab.async false
set_option linter.all false
set_option maxRecDepth 100000
namespace L2
open PySem PySem.Spec PyProof.Rows
noncomputable abbrev Key:=Sum Int Str
noncomputable def Cv : Key -> Value -> Bool
  | .inl k, v=>Value.isInt k v
  | .inr x, v=>Value.isStrOf x v
noncomputable def En (w : World) : Key -> Int
  | .inl k=>hashInt k
  | .inr x=>hashStr w x
theorem X0 : ∀ {k : Key} {v : Value}, Cv k v = true -> (∃ i t, k = Sum.inl i /\ v = Value.int i t) ∨ (∃ x t, k = Sum.inr x /\ v = Value.str x t)
  | .inl i, v, h=>by
    obtain ⟨t, e⟩:=Value.isInt_shape (k:=i) (v:=v) h
    exact .inl ⟨i, t, rfl, e⟩
  | .inr x, v, h=>by
    obtain ⟨t, e⟩:=Value.isStrOf_shape (x:=x) (v:=v) h
    exact .inr ⟨x, t, rfl, e⟩
theorem Bj (a b : Int) : decide ((Sum.inl a : Key) = Sum.inl b) = (a == b):=by
  by_cases e : a = b
  . subst e; simp
  . have h : ¬ (Sum.inl a : Key) = Sum.inl b := fun q => e (Sum.inl.inj q)
    rw [decide_eq_false h]
    exact (beq_eq_false_iff_ne.mpr e).symm
theorem CP (a b : Str) : decide ((Sum.inr a : Key) = Sum.inr b) = decide (a = b):=by
  by_cases e : a = b
  . subst e; simp
  . have h : ¬ (Sum.inr a : Key) = Sum.inr b := fun q => e (Sum.inr.inj q)
    rw [decide_eq_false h, decide_eq_false e]
theorem Bp (a : Int) (b : Str) : decide ((Sum.inl a : Key) = Sum.inr b) = false:=decide_eq_false (fun q=>nomatch q)
theorem C0 (a : Str) (b : Int) : decide ((Sum.inr a : Key) = Sum.inl b) = false:=decide_eq_false (fun q=>nomatch q)
noncomputable def U2 (prog : Program) (w : World) : PySem.KeyKind prog w Key where
  is:=Cv
  hash:=En w
  inj:=fun v a b ha hb=>by
    rcases X0 ha with ⟨i, t, rfl, rfl⟩ | ⟨x, t, rfl, rfl⟩
    . rcases X0 hb with ⟨j, u, rfl, e⟩ | ⟨y, u, rfl, e⟩
      . injection e with e1 _; rw [e1]
      . exact nomatch e
    . rcases X0 hb with ⟨j, u, rfl, e⟩ | ⟨y, u, rfl, e⟩
      . exact nomatch e
      . injection e with e1 _; rw [e1]
  byValue := fun k v h => by
    rcases X0 h with ⟨i, t, rfl, rfl⟩ | ⟨x, t, rfl, rfl⟩ <;> rfl
  pyHash:=fun hv h=>by
    rcases X0 hv with ⟨i, t, rfl, rfl⟩ | ⟨x, t, rfl, rfl⟩
    . exact wpAny_pyHash_int h
    . exact wpAny_pyHash_str h
  eqBool:=fun hu hv h=>by
    rcases X0 hu with ⟨i, t, rfl, rfl⟩ | ⟨x, t, rfl, rfl⟩
    . rcases X0 hv with ⟨j, u, rfl, rfl⟩ | ⟨y, u, rfl, rfl⟩
      . rw [Bj] at h; exact wpAny_eqBool_int h
      . rw [Bp] at h; exact SeqAt.EqAt.int_str i t y u _ _ _ _ h
    . rcases X0 hv with ⟨j, u, rfl, rfl⟩ | ⟨y, u, rfl, rfl⟩
      . rw [C0] at h; exact SeqAt.EqAt.str_int x t j u _ _ _ _ h
      . rw [CP] at h; exact wpAny_eqBool_str h
  «strs»:=fun k x t v h=>by
    rcases X0 h with ⟨i, u, rfl, e⟩ | ⟨y, u, rfl, e⟩
    . exact nomatch e
    . injection e with e1 _
      subst e1
      cases v <;> rfl
end L2
namespace L2
open PySem PySem.Spec PyProof.Rows
inductive V where
  | non | bl (b : Bool) | int (i : Int) | str (x : Str) | byt (b : Array UInt8) | flt (b : UInt64) | ref (a : Addr) | ty (n : String)
  deriving DecidableEq
noncomputable def X8 : V -> Value -> Prop
  | .non, u=>u = Value.none
  | .bl b, u=>u = Value.bool b
  | .int i, u=>∃ t, u = Value.int i t
  | .str x, u=>∃ t, u = Value.str x t
  | .byt b, u=>∃ t, u = Value.bytes b t
  | .flt b, u=>∃ t, u = Value.float b t
  | .ref a, u=>u = Value.ref a
  | .ty n, u=>u = Value.type n
noncomputable abbrev XV : List V -> List Value -> Prop:=Paired X8
theorem XV.length {xs : List V} {us : List Value} (r : XV xs us) : xs.length = us.length:=Paired.length r
theorem XV.get : ∀ {xs : List V} {us : List Value} {i : Nat} {x : V}, XV xs us -> xs[i]? = some x -> ∃ u, us[i]? = some u /\ X8 x u
  | _, _, _, _, .nil, e=>by simp at e
  | _, _, 0, _, .cons r _, e=>by simp at e; subst e; exact ⟨_, rfl, r⟩
  | _, _, i + 1, x, .cons _ t, e=>by
    obtain ⟨u, h1, h2⟩:=XV.get (i:=i) (x:=x) t (by simpa using e)
    exact ⟨u, by simpa using h1, h2⟩
theorem XV.set {x : V} {u : Value} (r : X8 x u) : ∀ {xs : List V} {us : List Value} (i : Nat), XV xs us -> XV (xs.set i x) (us.set i u)
  | _, _, _, .nil=>.nil
  | _, _, 0, .cons _ t=>.cons r t
  | _, _, i + 1, .cons q t=>.cons q (XV.set r i t)
theorem XV.append : ∀ {xs ys : List V} {us ws : List Value}, XV xs us -> XV ys ws -> XV (xs ++ ys) (us ++ ws)
  | _, _, _, _, .nil, s=>s
  | _, _, _, _, .cons r t, s=>.cons r (XV.append t s)
theorem XV.take : ∀ {xs : List V} {us : List Value} (n : Nat), XV xs us -> XV (xs.take n) (us.take n)
  | _, _, 0, _=>.nil
  | _, _, _ + 1, .nil=>.nil
  | _, _, n + 1, .cons r t=>.cons r (XV.take n t)
theorem XV.drop : ∀ {xs : List V} {us : List Value} (n : Nat), XV xs us -> XV (xs.drop n) (us.drop n)
  | _, _, 0, r=>r
  | _, _, _ + 1, .nil=>.nil
  | _, _, n + 1, .cons _ t=>XV.drop n t
noncomputable def G7 : Option V -> Option Value -> Prop
  | some v, some u=>X8 v u
  | none, none=>True
  | _, _=>False
noncomputable def KV {κ : Type} : List (κ × V) -> List (κ × Value) -> Prop:=Paired fun (p : κ × V) (q : κ × Value)=>p.1 = q.1 /\ X8 p.2 q.2
noncomputable def kV : Key -> V
  | .inl i=>.int i
  | .inr x=>.str x
inductive HO where
  /-- a list -/
  | lst (xs : List V)
  /-- a tuple (never changes) -/
  | tup (xs : List V)
  /-- a dict whose keys are ints and texts; one whose keys are tuples of ints and texts (the empty one is both) -/
  | dK (kvs : List (Key × V)) | dT (kvs : List (List Key × V))
  /-- a set of ints: its members, its size -/
  | set (S : Int -> Bool) (n : Nat)
  /-- an instance of the class at C, its dict at dx, its attributes -/
  | ins (C dx : Addr) (fs : List (Str × V))
  /-- the dict of the instance at x -/
  | own (x : Addr)
  /-- the dict of an exception -/
  | xd (fs : List (Str × V))
  /-- a bound method, f of x -/
  | met (f x : Addr)
  /-- a range object lo, lo + 1, .. below hi -/
  | rng (lo hi : Int)
  /-- a thing that is known to the object (the script; a dict while a loop walks it): read, never written while it is so -/
  | frz (o : Obj) (u : HO)
  /-- a code object's table -/
  | tbl (ps : Array Value)
  /-- any other thing, by what is true of its one object (a def of one's own: SetO a S n:=HO.ext fun h=>..) -/
  | ext (φ : Heap -> Prop)
noncomputable abbrev Hp:=Addr -> Option HO
noncomputable def upd (H : Hp) (a : Addr) (o : HO) : Hp:=fun b=>if b = a then some o else H b
theorem Yn {H : Hp} {a : Addr} {o : HO} : upd H a o a = some o:=by unfold upd; rw [if_pos rfl]
theorem XM {H : Hp} {a b : Addr} {o : HO} (h : b ≠ a) : upd H a o b = H b:=by unfold upd; rw [if_neg h]
theorem Yb {H : Hp} {a b : Addr} {o : HO} (h : H a = some o) (h' : H b = none) : a ≠ b:=by
  intro e; subst e; rw [h] at h'; cases h'
section
variable (P : Program) (w : World)
noncomputable def YT (H : Hp) (h : Heap) (a : Addr) : HO -> Prop
  | .lst xs=>xs.length <= sizeLine /\ ∃ (its : List Value) (n : Nat), XV xs its /\ h.get? a = some { cls:=.type "list", data:=.seq its.toArray n }
  | .tup xs=>xs.length <= sizeLine /\ ∃ its : List Value, XV xs its /\ IsTup h a its.toArray
  | .dK kvs=>kvs.length <= sizeLine /\ (a == sysModules) = false /\ ∃ vs, KV kvs vs /\ h.DictOf (U2 P w) a vs
  | .dT kvs=>kvs.length <= sizeLine /\ (a == sysModules) = false /\ ∃ xs : List (List Key × Addr × Value),
      Paired (fun (p : List Key × V) (q : List Key × Addr × Value)=>p.1 = q.1 /\ H q.2.1 = some (.tup (p.1.map kV)) /\ X8 p.2 q.2.2) kvs xs /\
      ∃ o es ep, h.get? a = some o /\ o.ExactDict /\ o.data = .dict es ep /\ es.toList = xs.map (entryOfKey (tupleKind (U2 P w))) /\ (xs.map (·.1)).Nodup
  | .set S n=>h.SetOf (intKind P w) a S n
  | .ins C dx fs=>H dx = some (.own a) /\ fs.length <= 1000 /\ dx ≠ a /\ h.get? a = some (PySem.W.instObj C dx) /\
      ∃ mA, h.Ns1 dx mA /\ (∀ f, G7 (fs.lookup f) (mA f)) /\ PySem.Within mA (fs.map (·.1))
  | .own _=>∃ o, h.get? a = some o
  | .xd fs=>∃ mA, h.Ns1 a mA /\ ∀ f, G7 (fs.lookup f) (mA f)
  | .rng lo hi=>∃ t u v, h.get? a = some { cls:=.type "range", data:=.fields #[.int lo t, .int hi u, .int 1 v] }
  | .frz o u=>h.get? a = some o /\ YT H h a u
  | .tbl ps=>h.get? a = some { cls:=.none, data:=.fields ps }
  | .met f x=>h.get? a = some (PySem.W.methodObj (.ref f) (.ref x))
  | .ext φ=>φ h /\ (∃ o, h.get? a = some o) /\ ∀ h1 h2 : Heap, φ h1 -> (∀ o, h1.get? a = some o -> h2.get? a = some o) -> φ h2
noncomputable def HOk (H : Hp) (h : Heap) : Prop:=∀ a o, H a = some o -> YT P w H h a o
end
section
variable {P : Program} {w : World} {H H' : Hp} {h h' : Heap} {a : Addr} {o : HO}
theorem YT.lt (x : YT P w H h a o) : a < h.objs.size:=by
  cases o with
  | lst xs=>obtain ⟨_, _, _, _, e⟩:=x; exact Heap.lt_size e
  | tup xs=>obtain ⟨_, _, _, p⟩:=x; exact p.lt
  | dK kvs=>obtain ⟨_, _, _, _, o, _, _, e, _⟩:=x; exact Heap.lt_size e
  | dT kvs=>obtain ⟨_, _, _, _, o, _, _, e, _⟩:=x; exact Heap.lt_size e
  | set S n=>obtain ⟨o, _, _, _, e, _⟩:=x; exact Heap.lt_size e
  | ins C dx fs=>obtain ⟨_, _, _, e, _⟩:=x; exact Heap.lt_size e
  | own y=>obtain ⟨_, e⟩:=x; exact Heap.lt_size e
  | xd fs=>obtain ⟨_, ⟨_, _, _, e, _⟩, _⟩:=x; exact Heap.lt_size e
  | rng lo hi=>obtain ⟨_, _, _, e⟩:=x; exact Heap.lt_size e
  | frz ob u=>obtain ⟨e, _⟩:=x; exact Heap.lt_size e
  | tbl ps=>exact Heap.lt_size (show h.get? a = some _ from x)
  | met f y=>exact Heap.lt_size (show h.get? a = some _ from x)
  | ext φ=>obtain ⟨_, ⟨_, e⟩, _⟩:=x; exact Heap.lt_size e
theorem Paired.mapP {α β : Type} {F G : α -> β -> Prop} : ∀ {l₁ : List α} {l₂ : List β}, Paired F l₁ l₂ -> (∀ a b, F a b -> G a b) -> Paired G l₁ l₂
  | _, _, .nil, _=>.nil
  | _, _, .cons r t, f=>.cons (f _ _ r) (Paired.mapP t f)
theorem YT.stay (x : YT P w H h a o) (k : ∀ b u, (b = a ∨ H b = some (.own a)) -> h.get? b = some u -> h'.get? b = some u)
    (ho : ∀ b, H b = some (.own a) -> H' b = some (.own a)) (ht : ∀ b xs, H b = some (.tup xs) -> H' b = some (.tup xs)) : YT P w H' h' a o:=by
  induction o with
  | lst xs=>obtain ⟨z, its, n, r, e⟩:=x; exact ⟨z, its, n, r, k _ _ (.inl rfl) e⟩
  | tup xs=>obtain ⟨z, its, r, ob, e, c⟩:=x; exact ⟨z, its, r, ob, k _ _ (.inl rfl) e, c⟩
  | dK kvs=>obtain ⟨z, y, vs, r, ob, es, ep, e, c⟩:=x; exact ⟨z, y, vs, r, ob, es, ep, k _ _ (.inl rfl) e, c⟩
  | dT kvs=>
    obtain ⟨z, y, xs, r, ob, es, ep, e, c⟩:=x
    exact ⟨z, y, xs, Paired.mapP r fun p q z=>⟨z.1, ht _ _ z.2.1, z.2.2⟩, ob, es, ep, k _ _ (.inl rfl) e, c⟩
  | set S n=>obtain ⟨ob, es, ep, t, e, c⟩:=x; exact ⟨ob, es, ep, t, k _ _ (.inl rfl) e, c⟩
  | ins C dx fs=>
    obtain ⟨d, z, ne, e, mA, ⟨od, es, ep, e2, c⟩, r⟩:=x
    exact ⟨ho _ d, z, ne, k _ _ (.inl rfl) e, mA, ⟨od, es, ep, k _ _ (.inr d) e2, c⟩, r⟩
  | own y=>obtain ⟨ob, e⟩:=x; exact ⟨ob, k _ _ (.inl rfl) e⟩
  | xd fs=>obtain ⟨mA, ⟨od, es, ep, e, c⟩, r⟩:=x; exact ⟨mA, ⟨od, es, ep, k _ _ (.inl rfl) e, c⟩, r⟩
  | rng lo hi=>obtain ⟨t, u, v, e⟩:=x; exact ⟨t, u, v, k _ _ (.inl rfl) e⟩
  | frz ob u ih=>obtain ⟨e, q⟩:=x; exact ⟨k _ _ (.inl rfl) e, ih q⟩
  | tbl ps=>
    have e : h.get? a = some { cls:=.none, data:=.fields ps }:=x
    show h'.get? a = some { cls:=.none, data:=.fields ps }
    exact k a _ (.inl rfl) e
  | met f y=>
    have e : h.get? a = some (PySem.W.methodObj (.ref f) (.ref y)):=x
    show h'.get? a = some (PySem.W.methodObj (.ref f) (.ref y))
    exact k a _ (.inl rfl) e
  | ext φ=>obtain ⟨p, ⟨o, e⟩, st⟩:=x; exact ⟨st _ _ p fun o q=>k _ _ (.inl rfl) q, ⟨o, k _ _ (.inl rfl) e⟩, st⟩
theorem HOk.lt (x : HOk P w H h) (e : H a = some o) : a < h.objs.size:=(x a o e).lt
theorem HOk.fresh (x : HOk P w H h) (e : h.objs.size <= a) : H a = none:=by
  cases q : H a with
  | none=>rfl
  | some u=>exact absurd (Nat.lt_of_lt_of_le (x.lt q) e) (Nat.lt_irrefl _)
theorem HOk.kept (x : HOk P w H h) (k : ∀ b u, h.get? b = some u -> h'.get? b = some u) : HOk P w H h':=fun a o e=>
  (x a o e).stay (fun b u _ q=>k b u q) (fun _ q=>q) fun _ _ q=>q
theorem HOk.laid (x : HOk P w H h) (k : ∀ b u, h.get? b = some u -> h'.get? b = some u) (hp : h.objs.size <= a) (new : YT P w (upd H a o) h' a o) : HOk P w (upd H a o) h':=fun b u e=>by
  have hn:=x.fresh hp
  by_cases hb : b = a
  . subst hb; rw [Yn] at e; cases e; exact new
  . rw [XM hb] at e
    exact (x b u e).stay (fun c v _ q=>k c v q) (fun c q=>by rw [XM (Yb q hn)]; exact q) fun c xs q=>by rw [XM (Yb q hn)]; exact q
end
noncomputable def Rd (H : Hp) (a : Addr) (u : HO) : Prop:=H a = some u ∨ ∃ o, H a = some (.frz o u)
theorem Rd.of {H : Hp} {a : Addr} {u : HO} (h : H a = some u) : Rd H a u:=.inl h
theorem Rd.ok {P : Program} {w : World} {H : Hp} {h : Heap} {a : Addr} {u : HO} (r : Rd H a u) (x : HOk P w H h) : YT P w H h a u:=by
  rcases r with r | ⟨o, r⟩
  . exact x a u r
  . obtain ⟨_, q⟩ := x a _ r
    exact q
noncomputable def Mut : Option HO -> Prop
  | some (.lst _)=>True
  | some (.dK _)=>True
  | some (.dT _)=>True
  | some (.set _ _)=>True
  | some (.ins _ _ _)=>True
  | some (.ext _)=>True
  | _=>False
section
variable {P : Program} {w : World} {H : Hp} {h h' : Heap} {x e : Addr} {o' : HO}
theorem HOk.write (ok : HOk P w H h) (mu : Mut (H x)) (he : e = x ∨ H e = some (.own x)) (k : ∀ b u, b ≠ e -> h.get? b = some u -> h'.get? b = some u) (heo : ∃ u, h'.get? e = some u)
    (new : YT P w (upd H x o') h' x o') : HOk P w (upd H x o') h':=fun b u q=>by
  have nown : ∀ c y, H c = some (.own y) -> c ≠ x:=fun c y r z=>by subst z; rw [r] at mu; exact mu
  have ntup : ∀ c xs, H c = some (.tup xs) -> c ≠ x:=fun c xs r z=>by subst z; rw [r] at mu; exact mu
  by_cases hb : b = x
  . subst hb; rw [Yn] at q; cases q; exact new
  . rw [XM hb] at q
    by_cases hbe : b = e
    . have q' : H b = some (.own x):=by
        rcases he with z | z
        . exact absurd (hbe.trans z) hb
        . rw [hbe]; exact z
      rw [q] at q'; cases q'
      obtain ⟨v, hv⟩:=heo
      exact ⟨v, by rw [hbe]; exact hv⟩
    . refine (ok b u q).stay (fun c v hc r => k c v ?_ r) (fun c r => by rw [XM (nown c b r)]; exact r) fun c xs r => by rw [XM (ntup c xs r)]; exact r
      rcases hc with rfl | hc
      . exact hbe
      . rintro rfl
        rcases he with z | z
        . exact nown c b hc z
        . rw [hc] at z; cases z; exact hb rfl
end
structure Un (fs ex : List Addr) (H H' : Hp) (h h' : Heap) : Prop where
  keep : ∀ b o, h.get? b = some o -> H b = none -> b ∉ fs -> b ∉ ex -> h'.get? b = some o
  slot : ∀ b o, h.get? b = some o -> H b = none -> b ∈ fs -> b ∉ ex -> ∃ sl, h'.get? b = some { o with slots:=sl }
  free : ∀ b o, h.get? b = some o -> H b = none -> b ∉ ex -> H' b = none
  there : ∀ b o, h.get? b = some o -> b ∉ ex -> ∃ o', h'.get? b = some o'
  tups : ∀ b xs, H b = some (.tup xs) -> H' b = some (.tup xs)
  frzs : ∀ b o u, H b = some (.frz o u) -> H' b = some (.frz o u)
  tbls : ∀ b ps, H b = some (.tbl ps) -> ∃ more, H' b = some (.tbl (ps ++ more))
section
variable {fs fs' ex ex' : List Addr} {H H1 H2 : Hp} {h h1 h2 h' : Heap} {a x e : Addr} {o : HO}
theorem Un.any (u : Un fs ex H H1 h h1) {b : Addr} {ob : Obj} (q : h.get? b = some ob) (n : H b = none) (hx : b ∉ ex) : ∃ sl, h1.get? b = some { ob with slots:=sl }:=by
  by_cases hb : b ∈ fs
  . exact u.slot b ob q n hb hx
  . exact ⟨ob.slots, u.keep b ob q n hb hx⟩
theorem Un.trans (a : Un fs ex H H1 h h1) (b : Un fs ex H1 H2 h1 h2) : Un fs ex H H2 h h2 where
  keep:=fun c ob q n hc hx=>b.keep c ob (a.keep c ob q n hc hx) (a.free c ob q n hx) hc hx
  slot:=fun c ob q n hc hx=>by
    obtain ⟨sl, e1⟩:=a.slot c ob q n hc hx
    obtain ⟨sl', e2⟩:=b.slot c _ e1 (a.free c ob q n hx) hc hx
    exact ⟨sl', e2⟩
  free:=fun c ob q n hx=>by
    obtain ⟨o', e1⟩:=a.there c ob q hx
    exact b.free c o' e1 (a.free c ob q n hx) hx
  there:=fun c ob q hx=>by
    obtain ⟨o', e1⟩:=a.there c ob q hx
    exact b.there c o' e1 hx
  tups:=fun c xs q=>b.tups c xs (a.tups c xs q)
  frzs:=fun c ob xs q=>b.frzs c ob xs (a.frzs c ob xs q)
  tbls:=fun c ps q=>by
    obtain ⟨m1, e1⟩:=a.tbls c ps q
    obtain ⟨m2, e2⟩:=b.tbls c _ e1
    exact ⟨m1 ++ m2, by rw [e2, Array.append_assoc]⟩
theorem Un.kept (k : ∀ b u, h.get? b = some u -> h'.get? b = some u) : Un fs ex H H h h':=
  ⟨fun b ob q _ _ _=>k b ob q, fun b ob q _ _ _=>⟨ob.slots, k b ob q⟩, fun _ _ _ n _=>n, fun b ob q _=>⟨ob, k b ob q⟩, fun _ _ q=>q, fun _ _ _ q=>q, fun _ ps q=>⟨#[], by rw [q]; simp⟩⟩
theorem Un.refl : Un fs ex H H h h:=Un.kept fun _ _ q=>q
theorem Un.laid (k : ∀ b u, h.get? b = some u -> h'.get? b = some u) (hp : h.objs.size <= a) (hn : H a = none) : Un fs ex H (upd H a o) h h' where
  keep:=fun b u q _ _ _=>k b u q
  slot:=fun b u q _ _ _=>⟨u.slots, k b u q⟩
  free:=fun b u q n _=>by rw [XM (Nat.ne_of_lt (Nat.lt_of_lt_of_le (Heap.lt_size q) hp))]; exact n
  there:=fun b u q _=>⟨u, k b u q⟩
  tups:=fun b xs q=>by rw [XM (Yb q hn)]; exact q
  frzs:=fun b u xs q=>by rw [XM (Yb q hn)]; exact q
  tbls:=fun b ps q=>⟨#[], by rw [XM (Yb q hn), q]; simp⟩
theorem Un.write (mu : Mut (H x)) (he : e = x ∨ H e = some (.own x)) (k : ∀ b u, b ≠ e -> h.get? b = some u -> h'.get? b = some u) (heo : ∃ u, h'.get? e = some u) : Un fs ex H (upd H x o) h h':=by
  have hx : ∀ b, H b = none -> b ≠ x:=fun b n z=>by subst z; rw [n] at mu; exact mu
  have hb : ∀ b, H b = none -> b ≠ e:=fun b n z=>by
    subst z
    rcases he with r | r
    . exact hx b n r
    . rw [n] at r; cases r
  have hm : ∀ b u, H b = some u -> ¬ Mut (some u) -> b ≠ x:=fun b u q nm z=>by subst z; rw [q] at mu; exact nm mu
  refine ⟨fun b u q n _ _=>k b u (hb b n) q, fun b u q n _ _=>⟨u.slots, k b u (hb b n) q⟩, fun b u q n _=>by rw [XM (hx b n)]; exact n, fun b u q _=>?_,
    fun b xs q=>by rw [XM (hm b _ q fun z=>z)]; exact q, fun b u xs q=>by rw [XM (hm b _ q fun z=>z)]; exact q, fun b ps q=>⟨#[], by rw [XM (hm b _ q fun z=>z), q]; simp⟩⟩
  by_cases hbe : b = e
  . subst hbe; exact heo
  . exact ⟨u, k b u hbe q⟩
theorem Un.mono (u : Un fs ex H H1 h h1) (hs : ∀ b ∈ fs, b ∈ fs') (hx : ∀ b ∈ ex, b ∈ ex') : Un fs' ex' H H1 h h1:=
  ⟨fun b ob q n hb he=>u.keep b ob q n (fun z=>hb (hs b z)) fun z=>he (hx b z), fun _ _ q n _ he=>u.any q n fun z=>he (hx _ z), fun b ob q n he=>u.free b ob q n fun z=>he (hx b z), fun b ob q he=>u.there b ob q fun z=>he (hx b z), u.tups, u.frzs, u.tbls⟩
end
noncomputable def trk (h : Heap) (H : Hp) : List Addr:=(List.range h.objs.size).filter fun a=>(H a).isSome
noncomputable def Gu (h : Heap) (H : Hp) : Heap:=PySem.W.hideAll h (trk h H)
theorem Ga (h : Heap) (H : Hp) : (Gu h H).objs.size = h.objs.size:=PySem.W.hideAll_size _ _
theorem Ul {h : Heap} {H : Hp} {b : Addr} {o : Obj} (e : h.get? b = some o) (n : H b = none) : (Gu h H).get? b = some o:=
  PySem.W.hideAll_get _ e fun hm=>by
    have q : (H b).isSome = true:=(List.mem_filter.mp hm).2
    rw [n] at q; simp at q
theorem DW {h : Heap} {H : Hp} {b : Addr} {o : Obj} (e : (Gu h H).get? b = some o) : h.get? b = some o /\ H b = none:=by
  have e' : h.get? b = some o:=PySem.W.of_hideAll (trk h H) e
  refine ⟨e', ?_⟩
  cases q : H b with
  | none=>rfl
  | some x=>
    have hm : b ∈ trk h H:=List.mem_filter.mpr ⟨List.mem_range.mpr (Heap.lt_size e'), by simp [q]⟩
    have z : (Gu h H).get? b = none:=PySem.W.hideAll_none (trk h H) hm
    rw [z] at e; cases e
noncomputable def DY (g h : Heap) (L : Addr) : List (Addr × Obj):=(List.range h.objs.size).filterMap fun a=>if a = L ∨ (g.get? a).isSome = true then none else (h.get? a).map fun o=>(a, o)
noncomputable def Y7 (g h : Heap) (L d : Addr) : List (Addr × Obj):=(DY g h L).filter fun p=>decide (p.1 ≠ d)
end L2
namespace L2
open PySem PySem.Spec PyProof.Rows
structure Mod (K : PySem.W.Frag) (mg : Str -> Option Value) (base : Heap) : Prop where
  kin : K.In base
  glob : base.Ns mainGlobals mg
  blt : ∃ mb, base.Ns builtinsNs mb /\ ∀ x : Str, x ≠ "__name__" -> mb x = bootBuiltins x
  nolimit : base.NoLimit
structure Cx where
  prog : Program
  w : World
  K : PySem.W.Frag
  mg : Str -> Option Value
  base : Heap
  A : Around
  N : List Str
  s₀ : Shared
  H₀ : Hp
  env : Env
  outer : List Env
  stack : List Env
  ex : List Addr
  fn : Str -> Bool
  calm : Bool
  pn : List (Addr × Obj)
  xe : Value -> Shared -> Prop
noncomputable def frs (l : List Env) : List Addr:=l.filterMap (·.frame)
noncomputable abbrev Cx.fs (X : Cx) : List Addr:=frs X.outer
noncomputable def Vis (sc : Scope) (x : Str) : Prop:=sc.names.lookup x = some .local ∨ sc.names.lookup x = some .cell ∨ sc.names.lookup x = some .free
noncomputable def Loc (sc : Scope) (x : Str) : Prop:=sc.names.lookup x = some .local ∨ sc.names.lookup x = some .cell
noncomputable def El (env : Env) (h : Heap) (m : Str -> Option Value) (x : Str) (u : Value) : Prop:=
  (env.kindOf x = some .local /\ m x = some u) ∨ ((env.kindOf x = some .cell ∨ env.kindOf x = some .free) /\ ∃ c, env.cells.lookup x = some c /\ h.IsCell c (some u))
structure Cx.Ok (X : Cx) : Prop where
  mod : Mod X.K X.mg X.base
  kind : X.env.scope.kind = .function
  glob : X.env.globals = mainGlobals
  blt : X.env.builtins = builtinsNs
  above : X.s₀.heap.objs.size <= X.env.locals
  inj : ∀ x y c, X.env.cells.lookup x = some c -> X.env.cells.lookup y = some c -> x = y
  has : ∀ x, (X.env.kindOf x = some .cell ∨ X.env.kindOf x = some .free) -> ∃ c, X.env.cells.lookup x = some c
  cab : ∀ x c, X.fn x = true -> X.env.cells.lookup x = some c -> X.s₀.heap.objs.size <= c
  hd : X.calm = true -> X.A.handled = none
  frames : X.A.frames = some X.stack
  stk : X.stack = X.outer ∨ (X.stack = X.env :: X.outer /\ X.env.frame = some X.env.locals)
  exf : ∀ b ∈ X.ex, b ≠ X.env.locals /\ ∀ x c, X.env.cells.lookup x = some c -> c ≠ b
  bs : ∀ b o, X.base.get? b = some o -> X.s₀.heap.get? b = some o /\ X.H₀ b = none
  bsz : X.base.objs.size <= X.s₀.heap.objs.size
  noex : ∀ b o, X.base.get? b = some o -> b ∉ X.ex
  exfs : ∀ b ∈ X.ex, b ∉ X.fs
  funs : X.s₀.heap.FunFrames X.base X.outer
  frf : ∀ b ∈ X.fs, X.H₀ b = none
structure Inv (X : Cx) (pins : List (Addr × Obj)) (σ : List (Option V)) (H : Hp) (s : Shared) : Prop where
  ok : X.Ok
  os : s.os = X.s₀.os
  bare : AllBare s.gens
  base : Un X.fs X.ex X.H₀ H X.s₀.heap s.heap
  loc : ∃ m, s.heap.Ns X.env.locals m /\ ∀ (i : Nat) (x : Str) (v : V), X.N[i]? = some x -> σ[i]? = some (some v) -> Vis X.env.scope x -> ∃ u, X8 v u /\ El X.env s.heap m x u
  cell : ∀ x c, X.env.cells.lookup x = some c -> ∃ v, s.heap.IsCell c v
  free : H X.env.locals = none
  freeC : ∀ x c, X.env.cells.lookup x = some c -> H c = none
  pin : ∀ p ∈ X.pn ++ pins, s.heap.get? p.1 = some p.2 /\ H p.1 = none /\ p.1 ≠ X.env.locals /\ p.1 ∉ X.fs /\ ∀ v, p.2.data ≠ .cell v
  hok : HOk X.prog X.w H s.heap
  len : σ.length = X.N.length
section
variable {X : Cx} {pins : List (Addr × Obj)} {σ : List (Option V)} {H H' : Hp} {s : Shared} {h' : Heap}
theorem Cx.Ok.nofr (ok : X.Ok) {b : Addr} {o : Obj} (e : X.base.get? b = some o) : b ∉ X.fs:=fun hb=>by
  have:=(ok.funs.mem hb).1
  rw [e] at this; cases this
theorem Inv.bs (I : Inv X pins σ H s) : ∀ b o, X.base.get? b = some o -> s.heap.get? b = some o /\ H b = none:=fun b o e=>
  ⟨I.base.keep b o (I.ok.bs b o e).1 (I.ok.bs b o e).2 (I.ok.nofr e) (I.ok.noex b o e), I.base.free b o (I.ok.bs b o e).1 (I.ok.bs b o e).2 (I.ok.noex b o e)⟩
theorem Inv.bk (I : Inv X pins σ H s) : ∀ b o, X.base.get? b = some o -> s.heap.get? b = some o:=fun b o e=>(I.bs b o e).1
theorem Inv.mod (I : Inv X pins σ H s) : Mod X.K X.mg X.base:=I.ok.mod
theorem Inv.kIn (I : Inv X pins σ H s) : X.K.In s.heap:=I.ok.mod.kin.keeps I.bk
theorem Inv.nolimit (I : Inv X pins σ H s) : s.heap.NoLimit:=I.ok.mod.nolimit.keeps I.bk
theorem Inv.lt (I : Inv X pins σ H s) : X.env.locals < s.heap.objs.size:=let ⟨_, hn, _⟩:=I.loc; hn.lt
theorem Inv.sz (I : Inv X pins σ H s) : X.s₀.heap.objs.size <= s.heap.objs.size:=Nat.le_trans I.ok.above (Nat.le_of_lt I.lt)
theorem Inv.nofs (I : Inv X pins σ H s) {a : Addr} (h : s.heap.objs.size <= a) : a ∉ X.fs:=fun hb=>by
  obtain ⟨_, o, ho, _⟩:=I.ok.funs.mem hb
  exact absurd (Nat.lt_of_lt_of_le (Heap.lt_size ho) (Nat.le_trans I.sz h)) (Nat.lt_irrefl _)
theorem Inv.cne (I : Inv X pins σ H s) : ∀ x c, X.env.cells.lookup x = some c -> c ≠ X.env.locals:=fun x c e z=>by
  obtain ⟨v, o, ho, hd⟩:=I.cell x c e
  obtain ⟨m, ⟨o', es, ep, ho', hd', _⟩, _⟩:=I.loc
  rw [z, ho'] at ho; cases ho; rw [hd'] at hd; cases hd
theorem Inv.funs (I : Inv X pins σ H s) : s.heap.FunFrames X.base X.outer:=by
  have all : ∀ (l : List Env), (∀ b ∈ frs l, b ∈ X.fs) -> X.s₀.heap.FunFrames X.base l -> s.heap.FunFrames X.base l:=by
    intro l
    induction l with
    | nil=>intro _ _; trivial
    | cons env r ih=>
      intro hs hl
      obtain ⟨hk, ⟨L, o, hf, hn, ho, hd⟩, hr⟩:=hl
      have hL : L ∈ X.fs:=hs L (by unfold frs; rw [List.filterMap_cons, hf]; exact List.mem_cons_self)
      obtain ⟨sl, e⟩:=I.base.slot L o ho (I.ok.frf L hL) hL fun z=>I.ok.exfs L z hL
      exact ⟨hk, ⟨L, _, hf, hn, e, hd⟩, ih (fun b hb=>hs b (by unfold frs; rw [List.filterMap_cons, hf]; exact List.mem_cons_of_mem _ hb)) hr⟩
  exact all X.outer (fun _ hb=>hb) I.ok.funs
theorem Inv.stack (I : Inv X pins σ H s) : s.heap.FunFrames X.base X.stack:=by
  rcases I.ok.stk with e | ⟨e, hf⟩
  . rw [e]; exact I.funs
  . rw [e]
    obtain ⟨m, hn, _⟩:=I.loc
    refine .cons (by rw [I.ok.kind]; decide) hf hn ?_ I.funs
    exact Heap.get?_none_of_le (Nat.le_trans I.ok.bsz I.ok.above)
theorem Inv.stkSub (I : Inv X pins σ H s) : ∀ b ∈ frs X.stack, b ∈ X.env.locals :: X.fs:=fun b hb=>by
  rcases I.ok.stk with e | ⟨e, hf⟩
  . rw [e] at hb; exact List.mem_cons_of_mem _ hb
  . rw [e] at hb
    unfold frs at hb
    rw [List.filterMap_cons, hf] at hb
    exact hb
theorem Inv.stkFree (I : Inv X pins σ H s) : ∀ b ∈ frs X.stack, H b = none:=fun b hb=>by
  rcases List.mem_cons.mp (I.stkSub b hb) with e | hb
  . rw [e]; exact I.free
  . obtain ⟨_, o, ho, _⟩ := I.ok.funs.mem hb
    exact I.base.free b o ho (I.ok.frf b hb) fun z=>I.ok.exfs b z hb
theorem Inv.step {g' : Array GenState} {t' : Nat} {d' : Drawn} {ch : List Addr} (I : Inv X pins σ H s)
    (hch : ∀ b ∈ ch, (b ∈ X.ex ∨ X.s₀.heap.objs.size <= b) /\ b ≠ X.env.locals /\ (∀ x c, X.env.cells.lookup x = some c -> c ≠ b) /\ ∀ p ∈ X.pn ++ pins, p.1 ≠ b)
    (keep : ∀ b o, b ≠ X.env.locals -> b ∉ X.fs -> b ∉ ch -> s.heap.get? b = some o -> H b = none -> h'.get? b = some o)
    (slot : ∀ b o, b ≠ X.env.locals -> b ∈ X.fs -> b ∉ ch -> s.heap.get? b = some o -> H b = none -> ∃ sl, h'.get? b = some { o with slots:=sl }) (free : ∀ b o, b ∉ ch -> s.heap.get? b = some o -> H b = none -> H' b = none)
    (there : ∀ b o, b ∉ ch -> s.heap.get? b = some o -> ∃ o', h'.get? b = some o')
    (tups : ∀ b xs, H b = some (.tup xs) -> H' b = some (.tup xs)) (frzs : ∀ b o u, H b = some (.frz o u) -> H' b = some (.frz o u)) (tbls : ∀ b ps, H b = some (.tbl ps) -> ∃ more, H' b = some (.tbl (ps ++ more)))
    (ns : ∀ m, s.heap.Ns X.env.locals m -> h'.Ns X.env.locals m) (hok : HOk X.prog X.w H' h') (hg : AllBare g') :
    Inv X pins σ H' { s with heap:=h', gens:=g', drawn:=d', toks:=t' }:=by
  have neL : ∀ b o, X.s₀.heap.get? b = some o -> b ≠ X.env.locals:=fun b o e=>Nat.ne_of_lt (Nat.lt_of_lt_of_le (Heap.lt_size e) I.ok.above)
  have neC : ∀ b o, X.s₀.heap.get? b = some o -> b ∉ X.ex -> b ∉ ch:=fun b o e hx hb=>by
    rcases (hch b hb).1 with z | z
    . exact hx z
    . exact absurd (Nat.lt_of_lt_of_le (Heap.lt_size e) z) (Nat.lt_irrefl _)
  have cellK : ∀ x c, X.env.cells.lookup x = some c -> ∀ v, s.heap.IsCell c v -> h'.IsCell c v:=fun x c e v ⟨o, ho, hd⟩=>by
    have nch : c ∉ ch:=fun z=>(hch c z).2.2.1 x c e rfl
    by_cases hc : c ∈ X.fs
    . obtain ⟨sl, q⟩ := slot c o (I.cne x c e) hc nch ho (I.freeC x c e)
      exact ⟨_, q, hd⟩
    . exact ⟨o, keep c o (I.cne x c e) hc nch ho (I.freeC x c e), hd⟩
  refine ⟨I.ok, I.os, hg, ⟨fun b o e n hb hx=>?_, fun b o e n hb hx=>?_, fun b o e n hx=>?_, fun b o e hx=>?_, fun b xs e=>tups b xs (I.base.tups b xs e), fun b o xs e=>frzs b o xs (I.base.frzs b o xs e), fun b ps e=>?_⟩, ?_, fun x c e=>?_, ?_, fun x c e=>?_, fun p hp=>?_, hok, I.len⟩
  . exact keep b o (neL b o e) hb (neC b o e hx) (I.base.keep b o e n hb hx) (I.base.free b o e n hx)
  . obtain ⟨sl, e1⟩ := I.base.slot b o e n hb hx
    obtain ⟨sl', e2⟩:=slot b _ (neL b o e) hb (neC b o e hx) e1 (I.base.free b o e n hx)
    exact ⟨sl', e2⟩
  . obtain ⟨o', e1⟩ := I.base.there b o e hx
    exact free b o' (neC b o e hx) e1 (I.base.free b o e n hx)
  . obtain ⟨o', e1⟩ := I.base.there b o e hx
    exact there b o' (neC b o e hx) e1
  . obtain ⟨m1, e1⟩ := I.base.tbls b ps e
    obtain ⟨m2, e2⟩:=tbls b _ e1
    exact ⟨m1 ++ m2, by rw [e2, Array.append_assoc]⟩
  . obtain ⟨m, hn, hl⟩ := I.loc
    refine ⟨m, ns m hn, fun i x v e1 e2 e3=>?_⟩
    obtain ⟨u, r, l⟩:=hl i x v e1 e2 e3
    refine ⟨u, r, ?_⟩
    rcases l with l | ⟨k, c, e, z⟩
    . exact .inl l
    . exact .inr ⟨k, c, e, cellK x c e _ z⟩
  . obtain ⟨v, z⟩ := I.cell x c e
    exact ⟨v, cellK x c e v z⟩
  . obtain ⟨m, ⟨o, _, _, ho, _⟩, _⟩ := I.loc
    exact free _ o (fun z=>(hch _ z).2.1 rfl) ho I.free
  . obtain ⟨v, o, ho, hd⟩ := I.cell x c e
    exact free c o (fun z=>(hch c z).2.2.1 x c e rfl) ho (I.freeC x c e)
  . obtain ⟨e, n, ne, nf, d⟩ := I.pin p hp
    have nch : p.1 ∉ ch:=fun z=>(hch p.1 z).2.2.2 p hp rfl
    exact ⟨keep p.1 p.2 ne nf nch e n, free p.1 p.2 nch e n, ne, nf, d⟩
theorem Inv.un {t' : Nat} (I : Inv X pins σ H s) (u : Un X.fs [] H H' s.heap h') (hok : HOk X.prog X.w H' h') : Inv X pins σ H' { s with heap:=h', toks:=t' }:=by
  obtain ⟨m, ⟨o, es, ep, ho, r⟩, _⟩:=id I.loc
  obtain ⟨sl, hL⟩:=u.any ho I.free (by simp)
  exact I.step (g':=s.gens) (d':=s.drawn) (ch:=[]) (fun _ z=>nomatch z) (fun b o _ hb _ e n=>u.keep b o e n hb (by simp)) (fun b o _ hb _ e n=>u.slot b o e n hb (by simp)) (fun b o _ e n=>u.free b o e n (by simp)) (fun b o _ e=>u.there b o e (by simp)) u.tups u.frzs u.tbls (fun m' hm=>by
    obtain ⟨o', es', ep', ho', r'⟩:=hm
    rw [ho] at ho'; cases ho'
    exact ⟨_, es', ep', hL, r'⟩) hok I.bare
theorem Inv.call {g' : Array GenState} {t' : Nat} {d' : Drawn} {ch : List Addr} (I : Inv X pins σ H s) (u : Un (frs X.stack) ch H H' s.heap h') (hok : HOk X.prog X.w H' h') (hg : AllBare g')
    (hch : ∀ b ∈ ch, (b ∈ X.ex ∨ X.s₀.heap.objs.size <= b) /\ b ≠ X.env.locals /\ (∀ x c, X.env.cells.lookup x = some c -> c ≠ b) /\ ∀ p ∈ X.pn ++ pins, p.1 ≠ b) :
    Inv X pins σ H' { s with heap:=h', gens:=g', drawn:=d', toks:=t' }:=by
  obtain ⟨m, ⟨o, es, ep, ho, r⟩, _⟩:=id I.loc
  obtain ⟨sl, hL⟩:=u.any ho I.free fun z=>(hch _ z).2.1 rfl
  exact I.step (ch:=ch) hch (fun b o hL hb hc e n=>u.keep b o e n (fun z=>(List.mem_cons.mp (I.stkSub b z)).elim hL hb) hc) (fun b o _ _ hc e n=>u.any e n hc) (fun b o hc e n=>u.free b o e n hc) (fun b o hc e=>u.there b o e hc) u.tups u.frzs u.tbls (fun m' hm=>by
    obtain ⟨o', es', ep', ho', r'⟩:=hm
    rw [ho] at ho'; cases ho'
    exact ⟨_, es', ep', hL, r'⟩) hok hg
theorem Inv.turned {t' : Nat} {it : Addr} (I : Inv X pins σ H s) (k : ∀ b o, b ≠ it -> s.heap.get? b = some o -> h'.get? b = some o) (hn : H it = none) (hL : it ≠ X.env.locals)
    (h1 : it ∈ X.ex ∨ X.s₀.heap.objs.size <= it) (h2 : ∀ x c, X.env.cells.lookup x = some c -> c ≠ it) (h3 : ∀ p ∈ X.pn ++ pins, p.1 ≠ it) : Inv X pins σ H { s with heap:=h', toks:=t' }:=by
  have nit : ∀ b u, H b = some u -> b ≠ it:=fun b u e z=>by rw [z, hn] at e; cases e
  refine I.step (g':=s.gens) (d':=s.drawn) (ch:=[it]) (fun b hb=>?_) (fun b o _ _ hc e _=>k b o (fun z=>hc (by simp [z])) e) (fun b o _ _ hc e _=>⟨o.slots, k b o (fun z=>hc (by simp [z])) e⟩) (fun _ _ _ _ n=>n)
    (fun b o hc e=>⟨o, k b o (fun z=>hc (by simp [z])) e⟩) (fun _ _ e=>e) (fun _ _ _ e=>e) (fun b ps e=>⟨#[], by rw [e]; simp⟩) (fun m hm=>?_) (fun b u e=>?_) I.bare
  . have e : b = it := by simpa using hb
    subst e
    exact ⟨h1, hL, h2, h3⟩
  . obtain ⟨o, es, ep, ho, r⟩ := hm
    exact ⟨o, es, ep, k _ o (Ne.symm hL) ho, r⟩
  . refine (I.hok b u e).stay (fun c v hc q => k c v ?_ q) (fun _ q => q) fun _ _ q => q
    rcases hc with z | z
    . rw [z]; exact nit b u e
    . exact nit c _ z
theorem Inv.tok (I : Inv X pins σ H s) (t : Nat) : Inv X pins σ H { s with toks:=t }:=I.un (h':=s.heap) (t':=t) Un.refl I.hok
theorem Inv.kept {t' : Nat} (I : Inv X pins σ H s) (k : ∀ b u, s.heap.get? b = some u -> h'.get? b = some u) : Inv X pins σ H { s with heap:=h', toks:=t' }:=I.un (Un.kept k) (I.hok.kept k)
theorem Inv.laid {a : Addr} {o : HO} {t' : Nat} (I : Inv X pins σ H s) (k : ∀ b u, s.heap.get? b = some u -> h'.get? b = some u) (hp : s.heap.objs.size <= a) (new : YT X.prog X.w (upd H a o) h' a o) :
    Inv X pins σ (upd H a o) { s with heap:=h', toks:=t' }:=I.un (Un.laid k hp (I.hok.fresh hp)) (I.hok.laid k hp new)
theorem Inv.write {x e : Addr} {o : HO} {t' : Nat} (I : Inv X pins σ H s) (mu : Mut (H x)) (he : e = x ∨ H e = some (.own x)) (k : ∀ b u, b ≠ e -> s.heap.get? b = some u -> h'.get? b = some u) (heo : ∃ u, h'.get? e = some u)
    (new : YT X.prog X.w (upd H x o) h' x o) : Inv X pins σ (upd H x o) { s with heap:=h', toks:=t' }:=I.un (Un.write mu he k heo) (I.hok.write mu he k heo new)
theorem Inv.weak {σ' : List (Option V)} (I : Inv X pins σ H s) (hl : σ'.length = σ.length) (w : ∀ (i : Nat) v, σ'[i]? = some (some v) -> σ[i]? = some (some v)) : Inv X pins σ' H s:=
  ⟨I.ok, I.os, I.bare, I.base, let ⟨m, hn, hl'⟩:=I.loc; ⟨m, hn, fun i x v e1 e2 e3=>hl' i x v e1 (w i v e2) e3⟩, I.cell, I.free, I.freeC, I.pin, I.hok, hl.trans I.len⟩
theorem Inv.pins_of {pins' : List (Addr × Obj)} (I : Inv X pins σ H s) (h : ∀ p ∈ pins', s.heap.get? p.1 = some p.2 /\ H p.1 = none /\ p.1 ≠ X.env.locals /\ p.1 ∉ X.fs /\ ∀ v, p.2.data ≠ .cell v) : Inv X pins' σ H s:=
  ⟨I.ok, I.os, I.bare, I.base, I.loc, I.cell, I.free, I.freeC, fun p hp=>(List.mem_append.mp hp).elim (fun z=>I.pin p (List.mem_append_left _ z)) (h p), I.hok, I.len⟩
theorem Uq {N : List Str} (hN : N.Nodup) {i j : Nat} {x : Str} (a : N[i]? = some x) (b : N[j]? = some x) : i = j:=by
  obtain ⟨h1, e1⟩:=List.getElem?_eq_some_iff.mp a
  obtain ⟨h2, e2⟩:=List.getElem?_eq_some_iff.mp b
  exact (List.getElem_inj hN).mp (e1.trans e2.symm)
theorem J3 {M : Model} {A : Around} {E : Value -> Shared -> Prop} {i : Nat} {x : Str} {v : V} {u : Value} {Q : Unit -> Shared -> Prop} (I : Inv X pins σ H s) (hN : X.N.Nodup) (hi : X.N[i]? = some x) (hx : Loc X.env.scope x) (r : X8 v u)
    (h : ∀ s', Inv X pins (σ.set i (some v)) H s' -> (∃ a, Heap.SameBut a s.heap s'.heap /\ (a = X.env.locals ∨ X.env.cells.lookup x = some a)) -> Q () s') (hf : X.fn x = true ∨ X.env.scope.names.lookup x = some .local:=by first | exact .inl rfl | exact .inr rfl | assumption) : wpAny M A (storeName X.env x u) Q E s:=by
  obtain ⟨m, hn, hl⟩:=id I.loc
  have hcls : (X.env.scope.kind == .class || (X.env.scope.kind == .module && X.env.locals != X.env.globals)) = false:=by rw [I.ok.kind]; rfl
  have hiσ : i < σ.length:=by rw [I.len]; exact (List.getElem?_eq_some_iff.mp hi).1
  have cne:=I.cne
  have tracked : ∀ {a : Addr} {h' : Heap}, (∃ o, s.heap.get? a = some o /\ H a = none) -> Heap.SameBut a s.heap h' -> HOk X.prog X.w H h':=fun {a h'} ha hs b ob e=>by
    obtain ⟨_, _, hfree⟩:=ha
    refine (I.hok b ob e).stay (fun c w' hc q=>(hs.2 c ?_).trans q) (fun _ q=>q) fun _ _ q=>q
    rintro rfl
    rcases hc with rfl | hc
    . rw [hfree] at e; cases e
    . rw [hfree] at hc; cases hc
  rcases hx with hk | hk
  . refine wpAny_storeName_local hk hn (fun h' hn' hs => ?_) hcls
    obtain ⟨oL, _, _, hoL, _⟩:=id hn
    refine h _ ⟨I.ok, I.os, I.bare, ⟨fun b o e n hb hx=>?_, fun b o e n hb hx=>?_, I.base.free, fun b o e hx=>?_, I.base.tups, I.base.frzs, I.base.tbls⟩, ⟨_, hn', fun j y v' e1 e2 e3=>?_⟩, fun y c e=>?_, I.free, I.freeC, fun p hp=>?_, tracked ⟨oL, hoL, I.free⟩ hs, by simpa using I.len⟩ ⟨_, hs, .inl rfl⟩
    . exact (hs.2 b (Nat.ne_of_lt (Nat.lt_of_lt_of_le (Heap.lt_size e) I.ok.above))).trans (I.base.keep b o e n hb hx)
    . obtain ⟨sl, e1⟩ := I.base.slot b o e n hb hx
      exact ⟨sl, (hs.2 b (Nat.ne_of_lt (Nat.lt_of_lt_of_le (Heap.lt_size e) I.ok.above))).trans e1⟩
    . obtain ⟨o', e1⟩ := I.base.there b o e hx
      exact ⟨o', (hs.2 b (Nat.ne_of_lt (Nat.lt_of_lt_of_le (Heap.lt_size e) I.ok.above))).trans e1⟩
    . by_cases hj : j = i
      . subst hj
        rw [hi] at e1; cases e1
        rw [List.getElem?_set_self hiσ] at e2
        cases e2
        exact ⟨u, r, .inl ⟨hk, by simp⟩⟩
      . rw [List.getElem?_set_ne (Ne.symm hj)] at e2
        obtain ⟨u', r', q⟩:=hl j y v' e1 e2 e3
        refine ⟨u', r', ?_⟩
        rcases q with ⟨k, e⟩ | ⟨k, c, e, z⟩
        . refine .inl ⟨k, ?_⟩
          have : y ≠ x:=fun e=>hj (Uq hN e1 (e ▸ hi))
          simp [this, e]
        . exact .inr ⟨k, c, e, z.sameBut hs (cne y c e)⟩
    . obtain ⟨w', z⟩ := I.cell y c e
      exact ⟨w', z.sameBut hs (cne y c e)⟩
    . obtain ⟨e, n, ne, nf, d⟩ := I.pin p hp
      exact ⟨(hs.2 p.1 ne).trans e, n, ne, nf, d⟩
  . have hfn : X.fn x = true:=by
      rcases hf with z | z
      . exact z
      . rw [z] at hk; cases hk
    obtain ⟨c, hc⟩:=I.ok.has x (.inl hk)
    obtain ⟨w', z⟩:=I.cell x c hc
    refine wpAny_storeName_cell I.ok.kind hk hc z (fun h' hc' hs=>?_)
    obtain ⟨oc, hoc, hocd⟩:=id z
    refine h { s with heap:=h' } ⟨I.ok, I.os, I.bare, ⟨fun b o e n hb hx=>?_, fun b o e n hb hx=>?_, I.base.free, fun b o e hx=>?_, I.base.tups, I.base.frzs, I.base.tbls⟩, ⟨m, hn.sameBut hs (Ne.symm (cne x c hc)), fun j y v' e1 e2 e3=>?_⟩, fun y c' e=>?_, I.free, I.freeC, fun p hp=>?_, tracked ⟨oc, hoc, I.freeC x c hc⟩ hs, by simpa using I.len⟩ ⟨c, hs, .inr hc⟩
    . exact (hs.2 b (Nat.ne_of_lt (Nat.lt_of_lt_of_le (Heap.lt_size e) (I.ok.cab x c hfn hc)))).trans (I.base.keep b o e n hb hx)
    . obtain ⟨sl, e1⟩ := I.base.slot b o e n hb hx
      exact ⟨sl, (hs.2 b (Nat.ne_of_lt (Nat.lt_of_lt_of_le (Heap.lt_size e) (I.ok.cab x c hfn hc)))).trans e1⟩
    . obtain ⟨o', e1⟩ := I.base.there b o e hx
      exact ⟨o', (hs.2 b (Nat.ne_of_lt (Nat.lt_of_lt_of_le (Heap.lt_size e) (I.ok.cab x c hfn hc)))).trans e1⟩
    . by_cases hj : j = i
      . subst hj
        rw [hi] at e1; cases e1
        rw [List.getElem?_set_self hiσ] at e2
        cases e2
        exact ⟨u, r, .inr ⟨.inl hk, c, hc, hc'⟩⟩
      . rw [List.getElem?_set_ne (Ne.symm hj)] at e2
        obtain ⟨u', r', q⟩:=hl j y v' e1 e2 e3
        refine ⟨u', r', ?_⟩
        rcases q with q | ⟨k, c', e, z'⟩
        . exact .inl q
        . refine .inr ⟨k, c', e, z'.sameBut hs ?_⟩
          rintro rfl
          exact hj (Uq hN e1 (I.ok.inj _ _ _ e hc ▸ hi))
    . by_cases hcc : c' = c
      . subst hcc; exact ⟨_, hc'⟩
      . obtain ⟨w2, z2⟩ := I.cell y c' e
        exact ⟨w2, z2.sameBut hs hcc⟩
    . obtain ⟨e, n, ne, nf, d⟩ := I.pin p hp
      refine ⟨(hs.2 p.1 ?_).trans e, n, ne, nf, d⟩
      intro q
      rw [q, hoc] at e
      have q' : oc = p.2:=Option.some.inj e
      exact d w' (by rw [← q']; exact hocd)
theorem Qc {M : Model} {A : Around} {E : Value -> Shared -> Prop} {i : Nat} {x : Str} {v : V} {u : Value} {Q : Unit -> Shared -> Prop} (I : Inv X pins σ H s) (hN : X.N.Nodup) (hi : X.N[i]? = some x) (hx : Loc X.env.scope x) (r : X8 v u)
    (h : ∀ s', Inv X pins (σ.set i (some v)) H s' -> Q () s') (hf : X.fn x = true ∨ X.env.scope.names.lookup x = some .local:=by first | exact .inl rfl | exact .inr rfl | assumption) : wpAny M A (storeName X.env x u) Q E s:=
  J3 I hN hi hx r (fun s' I' _=>h s' I') hf
theorem Inv.call' {s' : Shared} {ch : List Addr} (I : Inv X pins σ H s) (ho : s'.os = s.os) (u : Un (frs X.stack) ch H H' s.heap s'.heap) (hok : HOk X.prog X.w H' s'.heap) (hg : AllBare s'.gens)
    (hch : ∀ b ∈ ch, (b ∈ X.ex ∨ X.s₀.heap.objs.size <= b) /\ b ≠ X.env.locals /\ (∀ x c, X.env.cells.lookup x = some c -> c ≠ b) /\ ∀ p ∈ X.pn ++ pins, p.1 ≠ b) : Inv X pins σ H' s':=by
  obtain ⟨h', g', d', t', o'⟩:=s'
  have e : o' = s.os:=ho
  subst e
  exact I.call (g':=g') (t':=t') (d':=d') u hok hg hch
end
noncomputable abbrev XK:=Value -> Option Addr -> Hp -> Prop
noncomputable abbrev St:=List (Option V)
noncomputable abbrev VK:=V -> Hp -> Prop
noncomputable abbrev TE:=St -> Hp -> VK -> Prop
noncomputable abbrev TT:=St -> Hp -> (Bool -> Hp -> Prop) -> Prop
noncomputable abbrev TA:=St -> Hp -> (List V -> Hp -> Prop) -> Prop
structure Ends where
  nx : St -> Hp -> Prop
  rt : VK
  bk : St -> Hp -> Prop:=fun _ _=>False
  ct : St -> Hp -> Prop:=fun _ _=>False
noncomputable abbrev TS:=Ends -> St -> Hp -> Prop
noncomputable def EP (X : Cx) (pins : List (Addr × Obj)) (σ : St) (Q : VK) (u : Value) (s' : Shared) : Prop:=∃ v H', Inv X pins σ H' s' /\ X8 v u /\ Q v H'
noncomputable def TP (X : Cx) (pins : List (Addr × Obj)) (σ : St) (Q : Bool -> Hp -> Prop) (b : Bool) (s' : Shared) : Prop:=∃ H', Inv X pins σ H' s' /\ Q b H'
noncomputable def AP (X : Cx) (pins : List (Addr × Obj)) (σ : St) (Q : List V -> Hp -> Prop) (us : List Value) (s' : Shared) : Prop:=∃ vs H', Inv X pins σ H' s' /\ XV vs us /\ Q vs H'
noncomputable def SP (X : Cx) (pins : List (Addr × Obj)) (D : Ends) (f : Flow) (s' : Shared) : Prop:=
  match f with
  | .next=>∃ σ' H', Inv X pins σ' H' s' /\ D.nx σ' H'
  | .brk=>∃ σ' H', Inv X pins σ' H' s' /\ D.bk σ' H'
  | .cont=>∃ σ' H', Inv X pins σ' H' s' /\ D.ct σ' H'
  | .ret u=>∃ v σ' H', Inv X pins σ' H' s' /\ X8 v u /\ D.rt v H'
noncomputable def PE (X : Cx) (e : Expr) (t : TE) : Prop:=
  ∀ (pins : List (Addr × Obj)) (s : Shared) (σ : St) (H : Hp) (Q : VK), Inv X pins σ H s -> t σ H Q -> wpAny (model X.prog X.w) X.A (eval e X.env) (EP X pins σ Q) X.xe s
noncomputable def PT (X : Cx) (e : Expr) (t : TT) : Prop:=
  ∀ (pins : List (Addr × Obj)) (s : Shared) (σ : St) (H : Hp) (Q : Bool -> Hp -> Prop), Inv X pins σ H s -> t σ H Q -> wpAny (model X.prog X.w) X.A (isTrue e X.env (eval e X.env)) (TP X pins σ Q) X.xe s
noncomputable def PW (X : Cx) (e : Expr) (t : TT) : Prop:=
  ∀ (whole : Sem Value) (pins : List (Addr × Obj)) (s : Shared) (σ : St) (H : Hp) (Q : Bool -> Hp -> Prop), Inv X pins σ H s -> t σ H Q -> wpAny (model X.prog X.w) X.A (isTrue e X.env whole) (TP X pins σ Q) X.xe s
theorem PW.pt {X : Cx} {e : Expr} {t : TT} (h : PW X e t) : PT X e t:=h _
noncomputable def PA (X : Cx) (es : List Expr) (t : TA) : Prop:=
  ∀ (pos : Pos) (pins : List (Addr × Obj)) (s : Shared) (σ : St) (H : Hp) (Q : List V -> Hp -> Prop), Inv X pins σ H s -> t σ H Q -> wpAny (model X.prog X.w) X.A (spliced (backTo pos (starEach es X.env))) (AP X pins σ Q) X.xe s
noncomputable def PS (X : Cx) (st : Stmt) (t : TS) : Prop:=
  ∀ (pins : List (Addr × Obj)) (s : Shared) (σ : St) (H : Hp) (D : Ends), Inv X pins σ H s -> t D σ H -> wpAny (model X.prog X.w) X.A (exec st X.env) (SP X pins D) X.xe s
noncomputable def PSs (X : Cx) (st : List Stmt) (t : TS) : Prop:=
  ∀ (pins : List (Addr × Obj)) (s : Shared) (σ : St) (H : Hp) (D : Ends), Inv X pins σ H s -> t D σ H -> wpAny (model X.prog X.w) X.A (execs st X.env) (SP X pins D) X.xe s
theorem thn {α : Type} {t : Sem α} {Q Q' : α -> Shared -> Prop} {M : Model} {A : Around} {E : Value -> Shared -> Prop} {s : Shared} (h : wpAny M A t Q E s) (hQ : ∀ a s, Q a s -> Q' a s) : wpAny M A t Q' E s:=wpAny_mono h hQ fun _ _ x=>x
end L2
namespace L2
open PySem PySem.Spec PyProof.Rows
section
variable {X : Cx}
noncomputable def Vc (i : Nat) : TE:=fun σ H Q=>∃ v, σ[i]? = some (some v) /\ Q v H
noncomputable def tC (v : V) : TE:=fun _ H Q=>Q v H
theorem Cq {i : Nat} {x : Str} {pos : Pos} (hN : X.N[i]? = some x) (hv : Vis X.env.scope x) (hd : (x == ("__debug__" : Str)) = false:=by decide) (hcd : (x == ("__classdict__" : Str)) = false:=by decide) : PE X (.Name x pos) (Vc i):=by
  intro pins s σ H Q I h
  obtain ⟨v, e, h⟩:=h
  obtain ⟨m, hn, hl⟩:=I.loc
  obtain ⟨u, r, l⟩:=hl i x v hN e hv
  have fin : EP X pins σ Q u s:=⟨v, H, I, r, h⟩
  rcases l with ⟨hk, hm⟩ | ⟨hk, c, hc, hcell⟩
  . exact wpAny_Name (wpAny_loadName_local I.ok.kind hk hn hm fin) hd
  . rcases hk with hk | hk
    . exact wpAny_Name (wpAny_loadName_cell I.ok.kind hk hc hcell fin) hd
    . exact wpAny_Name (wpAny_loadName_free I.ok.kind hk hc hcell fin hcd) hd
theorem Xh {i j pos} : PE X (.Constant (.int i) j pos) (tC (.int i)):=fun _ _ _ H _ I h=>wpAny_Constant_int ⟨.int i, H, I.tok _, ⟨_, rfl⟩, h⟩
theorem UF {b j pos} : PE X (.Constant (.bool b) j pos) (tC (.bl b)):=fun _ _ _ H _ I h=>Constant_bool ⟨.bl b, H, I, rfl, h⟩
theorem Up {j pos} : PE X (.Constant .none j pos) (tC .non):=fun _ _ _ H _ I h=>Constant_none ⟨.non, H, I, rfl, h⟩
noncomputable def Gl (X : Cx) (x : Str) : Prop:=X.env.kindOf x = some .globalImplicit
theorem KS {E : Value -> Shared -> Prop} {pins : List (Addr × Obj)} {s : Shared} {σ : St} {H : Hp} {x : Str} {u : Value} {pos : Pos} {Q : Value -> Shared -> Prop} (I : Inv X pins σ H s) (hg : Gl X x) (hm : X.mg x = some u) (h : Q u s)
    (hd : (x == ("__debug__" : Str)) = false:=by decide) : wpAny (model X.prog X.w) X.A (eval (.Name x pos) X.env) Q E s:=
  Calls.Name_function_global I.ok.kind hg (Calls.loadGlobal_global (by rw [I.ok.glob]; exact I.mod.glob.keeps I.bk) hm h) hd
theorem Qr {E : Value -> Shared -> Prop} {pins : List (Addr × Obj)} {s : Shared} {σ : St} {H : Hp} {x : Str} {u : Value} {pos : Pos} {Q : Value -> Shared -> Prop} (I : Inv X pins σ H s) (hg : Gl X x) (hm : X.mg x = none) (hv : bootBuiltins x = some u) (h : Q u s)
    (hn : x ≠ "__name__":=by decide) (hd : (x == ("__debug__" : Str)) = false:=by decide) : wpAny (model X.prog X.w) X.A (eval (.Name x pos) X.env) Q E s:=by
  obtain ⟨mb, h1, h2⟩:=I.mod.blt
  exact Calls.Name_function_global I.ok.kind hg (Calls.loadGlobal_builtin (by rw [I.ok.glob]; exact I.mod.glob.keeps I.bk) hm (by rw [I.ok.blt]; exact h1.keeps I.bk) ((h2 x hn).trans hv) h) hd
theorem FX {x : Str} {v : V} {u : Value} {pos : Pos} (hg : Gl X x) (hm : X.mg x = some u) (r : X8 v u) (hd : (x == ("__debug__" : Str)) = false:=by decide) : PE X (.Name x pos) (tC v):=
  fun _ _ _ H _ I h=>KS I hg hm ⟨v, H, I, r, h⟩ hd
theorem Vh {x : Str} {v : V} {u : Value} {pos : Pos} (hg : Gl X x) (hm : X.mg x = none) (hv : bootBuiltins x = some u) (r : X8 v u) (hn : x ≠ "__name__":=by decide) (hd : (x == ("__debug__" : Str)) = false:=by decide) : PE X (.Name x pos) (tC v):=
  fun _ _ _ H _ I h=>Qr I hg hm hv ⟨v, H, I, r, h⟩ hn hd
variable {a b : Expr} {ta tb : TE} {pos : Pos}
noncomputable def tB (t : TE) : TT:=fun σ H Q=>t σ H fun x H1=>∃ c, x = .bl c /\ Q c H1
theorem JH {e : Expr} {t : TE} (h : PE X e t) (he : ∀ whole, isTrue e X.env whole = (do let v ← whole; standAt e.pos; holding [v] (truthy v)):=by intro _; rfl) : PT X e (tB t):=by
  intro pins s σ H Q I hw
  refine isTrue_plain (thn (h pins s σ H _ I hw) fun v s1 ⟨x, H1, I1, r1, q1⟩=>?_) (he _)
  obtain ⟨d, rfl, q⟩:=q1
  cases r1
  exact wpAny_truthy_bool ⟨H1, I1, q⟩
variable {tA tB' : TT} {Y7 : List Expr}
noncomputable def BZ (t u : TT) : TT:=fun σ H Q=>t σ H fun c H1=>if c = true then u σ H1 Q else Q false H1
noncomputable def tOr (t u : TT) : TT:=fun σ H Q=>t σ H fun c H1=>if c = true then Q true H1 else u σ H1 Q
noncomputable def B9 (t : TT) : TT:=fun σ H Q=>t σ H fun c H1=>Q (!c) H1
theorem YU (ha : PT X a tA) : PW X (.BoolOp .And [a] pos) tA:=by
  intro wh pins s σ H Q I h
  refine isTrue_and (thn (ha pins s σ H Q I h) fun c s1 e=>?_)
  cases c with
  | true=>exact isTrue_and_nil e
  | false=>exact e
theorem Gb (ha : PT X a tA) : PW X (.BoolOp .Or [a] pos) tA:=by
  intro wh pins s σ H Q I h
  refine isTrue_or (thn (ha pins s σ H Q I h) fun c s1 e=>?_)
  cases c with
  | false=>exact isTrue_or_nil e
  | true=>exact e
theorem YB (ha : PT X a tA) (hb : PW X (.BoolOp .And (b :: Y7) pos) tB') : PW X (.BoolOp .And (a :: b :: Y7) pos) (BZ tA tB'):=by
  intro wh pins s σ H Q I h
  refine isTrue_and (thn (ha pins s σ H _ I h) fun c s1 ⟨H1, I1, q1⟩=>?_)
  cases c with
  | true=>exact hb wh pins s1 σ H1 Q I1 q1
  | false=>exact ⟨H1, I1, q1⟩
theorem DV (ha : PT X a tA) (hb : PW X (.BoolOp .Or (b :: Y7) pos) tB') : PW X (.BoolOp .Or (a :: b :: Y7) pos) (tOr tA tB'):=by
  intro wh pins s σ H Q I h
  refine isTrue_or (thn (ha pins s σ H _ I h) fun c s1 ⟨H1, I1, q1⟩=>?_)
  cases c with
  | true=>exact ⟨H1, I1, q1⟩
  | false=>exact hb wh pins s1 σ H1 Q I1 q1
theorem Fr (ha : PT X a tA) : PT X (.UnaryOp .Not a pos) (B9 tA):=by
  intro pins s σ H Q I h
  exact isTrue_not (ha pins s σ H (fun c H1=>Q (!c) H1) I h)
noncomputable def CQ (ta tb : TE) : TE:=fun σ H Q=>ta σ H fun x H1=>∃ c, x = .bl c /\ if c = true then tb σ H1 Q else Q (.bl false) H1
theorem FK {op} {t : TE} (h : PE X a t) : PE X (.BoolOp op [a] pos) t:=fun pins s σ H Q I hw=>BoolOp_one (h pins s σ H Q I hw)
theorem U3 (ha : PE X a ta) (hb : PE X (.BoolOp .And (b :: Y7) pos) tb) : PE X (.BoolOp .And (a :: b :: Y7) pos) (CQ ta tb):=by
  intro pins s σ H Q I h
  refine BoolOp_and (thn (ha pins s σ H _ I h) fun v s1 ⟨x, H1, I1, r1, q1⟩=>?_)
  obtain ⟨c, rfl, q1⟩:=q1
  cases r1
  refine wpAny_truthy_bool ?_
  cases c with
  | true=>exact hb pins s1 σ H1 Q I1 q1
  | false=>exact ⟨.bl false, H1, I1, rfl, q1⟩
noncomputable def tIf (t : TT) (ta tb : TE) : TE:=fun σ H Q=>t σ H fun c H1=>if c = true then ta σ H1 Q else tb σ H1 Q
theorem G2 {c : Expr} (hc : PT X c tA) (ha : PE X a ta) (hb : PE X b tb) : PE X (.IfExp c a b pos) (tIf tA ta tb):=by
  intro pins s σ H Q I h
  refine wpAny_IfExp (thn (hc pins s σ H _ I h) fun d s1 ⟨H1, I1, q1⟩=>?_)
  cases d with
  | true=>exact ha pins s1 σ H1 Q I1 q1
  | false=>exact hb pins s1 σ H1 Q I1 q1
end
end L2
namespace L2
open PySem PySem.Spec PyProof.Rows
noncomputable def SqL (K : PySem.W.Frag) (H : Hp) (a : Addr) (xs : List V) : Prop:=
  Rd H a (.lst xs) ∨
    ∃ (o : Obj) (its : Array Value) (n : Nat), K.lookup a = some o /\ o.cls = .type "list" /\ o.dict = none /\ o.data = .seq its n /\ its.size <= sizeLine /\ XV xs its.toList
noncomputable def SqT (K : PySem.W.Frag) (H : Hp) (a : Addr) (xs : List V) : Prop:=
  Rd H a (.tup xs) ∨
    ∃ (o : Obj) (its : Array Value) (n : Nat), K.lookup a = some o /\ o.cls = .type "tuple" /\ o.data = .seq its n /\ its.size <= sizeLine /\ XV xs its.toList
noncomputable def Ej : Value -> Option V
  | .none=>some .non
  | .bool b=>some (.bl b)
  | .int i _=>some (.int i)
  | .str x _=>some (.str x)
  | .bytes b _=>some (.byt b)
  | .float b _=>some (.flt b)
  | .ref a=>some (.ref a)
  | .type n=>some (.ty n)
  | _=>none
theorem X8.abs {x : V} {u : Value} (r : X8 x u) : Ej u = some x:=by
  cases x with
  | non=>cases r; rfl
  | bl _=>cases r; rfl
  | int _=>obtain ⟨t, rfl⟩:=r; rfl
  | str _=>obtain ⟨t, rfl⟩:=r; rfl
  | byt _=>obtain ⟨t, rfl⟩:=r; rfl
  | flt _=>obtain ⟨t, rfl⟩:=r; rfl
  | ref _=>cases r; rfl
  | ty _=>cases r; rfl
theorem X8.inj {x y : V} {u : Value} (r : X8 x u) (q : X8 y u) : x = y:=Option.some.inj (r.abs.symm.trans q.abs)
theorem XV.inj : ∀ {xs ys : List V} {us : List Value}, XV xs us -> XV ys us -> xs = ys
  | _, _, _, .nil, .nil=>rfl
  | _, _, _, .cons r t, .cons r' t'=>by rw [r.inj r', XV.inj t t']
section
variable {X : Cx} {pins : List (Addr × Obj)} {σ : St} {H : Hp} {s : Shared} {a : Addr} {xs ys : List V}
theorem SqL.of {K : PySem.W.Frag} (h : H a = some (.lst xs)) : SqL K H a xs:=.inl (.inl h)
theorem SqT.of {K : PySem.W.Frag} (h : H a = some (.tup xs)) : SqT K H a xs:=.inl (.inl h)
theorem Inv.list (I : Inv X pins σ H s) (h : SqL X.K H a xs) : ∃ its : List Value, XV xs its /\ PlainL s.heap a its.toArray /\ xs.length <= sizeLine:=by
  rcases h with h | ⟨o, its, n, hk, hc, hd, hs, hz, r⟩
  . obtain ⟨z, its, n, r, e⟩ := h.ok I.hok
    exact ⟨its, r, ⟨_, n, e, rfl, rfl, rfl⟩, z⟩
  . refine ⟨its.toList, r, ⟨o, n, I.kIn a o hk, hc, hd, by simpa using hs⟩, ?_⟩
    have e:=r.length
    simp only [Array.length_toList] at e
    omega
theorem Inv.tuple (I : Inv X pins σ H s) (h : SqT X.K H a xs) : ∃ its : List Value, XV xs its /\ IsTup s.heap a its.toArray /\ xs.length <= sizeLine:=by
  rcases h with h | ⟨o, its, n, hk, hc, hs, hz, r⟩
  . obtain ⟨z, its, r, p⟩ := h.ok I.hok
    exact ⟨its, r, p, z⟩
  . refine ⟨its.toList, r, ⟨o, I.kIn a o hk, hc, n, by simpa using hs⟩, ?_⟩
    have e:=r.length
    simp only [Array.length_toList] at e
    omega
theorem Inv.list_inj (I : Inv X pins σ H s) (h : SqL X.K H a xs) (h' : SqL X.K H a ys) : xs = ys:=by
  obtain ⟨its, r, ⟨o, n, e, _, _, d⟩, _⟩:=I.list h
  obtain ⟨its', r', ⟨o', n', e', _, _, d'⟩, _⟩:=I.list h'
  rw [e] at e'; cases e'
  rw [d] at d'
  injection d' with d1 _
  have : its = its':=by simpa using congrArg Array.toList d1
  subst this
  exact r.inj r'
end
noncomputable abbrev Cx.wish (X : Cx) (E : Value -> Shared -> Prop) : Cx:={ X with xe:=E }
noncomputable abbrev Cx.nox (X : Cx) : Cx:=X.wish fun _ _=>False
theorem Cx.Ok.wish {X : Cx} (ok : X.Ok) (E : Value -> Shared -> Prop) : (X.wish E).Ok:=
  ⟨ok.mod, ok.kind, ok.glob, ok.blt, ok.above, ok.inj, ok.has, ok.cab, ok.hd, ok.frames, ok.stk, ok.exf, ok.bs, ok.bsz, ok.noex, ok.exfs, ok.funs, ok.frf⟩
theorem Cx.Ok.unwish {X : Cx} {E : Value -> Shared -> Prop} (ok : (X.wish E).Ok) : X.Ok:=
  ⟨ok.mod, ok.kind, ok.glob, ok.blt, ok.above, ok.inj, ok.has, ok.cab, ok.hd, ok.frames, ok.stk, ok.exf, ok.bs, ok.bsz, ok.noex, ok.exfs, ok.funs, ok.frf⟩
section
variable {X : Cx} {pins : List (Addr × Obj)} {σ : St} {H : Hp} {s : Shared} {E : Value -> Shared -> Prop}
theorem Inv.wish (I : Inv X pins σ H s) (E : Value -> Shared -> Prop) : Inv (X.wish E) pins σ H s:=⟨I.ok.wish E, I.os, I.bare, I.base, I.loc, I.cell, I.free, I.freeC, I.pin, I.hok, I.len⟩
theorem Inv.unwish (I : Inv (X.wish E) pins σ H s) : Inv X pins σ H s:=⟨I.ok.unwish, I.os, I.bare, I.base, I.loc, I.cell, I.free, I.freeC, I.pin, I.hok, I.len⟩
theorem SP.unwish {D : Ends} {f : Flow} {s' : Shared} (h : SP (X.wish E) pins D f s') : SP X pins D f s':=by
  cases f with
  | next=>obtain ⟨σ', H', I, q⟩:=h; exact ⟨σ', H', I.unwish, q⟩
  | brk=>obtain ⟨σ', H', I, q⟩:=h; exact ⟨σ', H', I.unwish, q⟩
  | cont=>obtain ⟨σ', H', I, q⟩:=h; exact ⟨σ', H', I.unwish, q⟩
  | ret u=>obtain ⟨v, σ', H', I, r, q⟩:=h; exact ⟨v, σ', H', I.unwish, r, q⟩
theorem PE.nox {e : Expr} {t : TE} (h : PE X.nox e t) : PE X e t:=fun pins s σ H Q I hw=>
  wpAny_mono (h pins s σ H Q (I.wish _) hw) (fun _ _ ⟨v, H', I', r, q⟩=>⟨v, H', I'.unwish, r, q⟩) fun _ _ z=>False.elim z
theorem PT.nox {e : Expr} {t : TT} (h : PT X.nox e t) : PT X e t:=fun pins s σ H Q I hw=>
  wpAny_mono (h pins s σ H Q (I.wish _) hw) (fun _ _ ⟨H', I', q⟩=>⟨H', I'.unwish, q⟩) fun _ _ z=>False.elim z
theorem PSs.nox {st : List Stmt} {t : TS} (h : PSs X.nox st t) : PSs X st t:=fun pins s σ H D I hw=>
  wpAny_mono (h pins s σ H D (I.wish _) hw) (fun _ _ q=>q.unwish) fun _ _ z=>False.elim z
end
section
variable {X : Cx} {st : Stmt} {Y7 : List Stmt} {t u : TS} {e : Expr} {te : TE} {pos : Pos}
noncomputable def KQ : TS:=fun D σ H=>D.nx σ H
noncomputable def Z5 (t u : TS) : TS:=fun D σ H=>t { D with nx:=u D } σ H
theorem Xg : PSs X [] KQ:=fun _ _ σ H _ I h=>wpAny_execs_nil ⟨σ, H, I, h⟩
theorem Xd (h1 : PS X st t) (h2 : PSs X Y7 u) : PSs X (st :: Y7) (Z5 t u):=by
  intro pins s σ H D I h
  refine wpAny_execs_cons (thn (h1 pins s σ H { D with nx:=u D } I h) fun f s1 q=>?_)
  cases f with
  | next=>
    obtain ⟨σ', H', I', q⟩:=q
    exact h2 pins s1 σ' H' D I' q
  | ret v=>exact q
  | brk=>exact q
  | cont=>exact q
theorem Inv.quiet {pins : List (Addr × Obj)} {σ : St} {H : Hp} {s : Shared} (I : Inv X pins σ H s) : interactive X.env = false:=by simp [interactive, I.ok.kind]
noncomputable def Uy (te : TE) : TS:=fun D σ H=>te σ H fun _ H1=>D.nx σ H1
theorem Yo (he : PE X e te) (hs : swapsWith e none pos.line X.env = pure false:=by rfl) : PS X (.Expr e pos) (Uy te):=by
  intro pins s σ H D I h
  exact wpAny_Expr_any (thn (he pins s σ H _ I h) fun v s1 ⟨x, H1, I1, r1, q1⟩=>⟨σ, H1, I1, q1⟩) I.quiet hs
noncomputable def B2 (te : TE) : TS:=fun D σ H=>te σ H D.rt
theorem XA (he : PE X e te) : PS X (.Return (some e) pos) (B2 te):=by
  intro pins s σ H D I h
  exact wpAny_Return_some (thn (he pins s σ H _ I h) fun v s1 ⟨x, H1, I1, r1, q1⟩=>⟨x, σ, H1, I1, r1, q1⟩)
noncomputable def Bd (c : TT) (t u : TS) : TS:=fun D σ H=>c σ H fun b H1=>if b = true then t D σ H1 else u D σ H1
theorem Ys {c : Expr} {a b : List Stmt} {tc : TT} (hc : PT X c tc) (ha : PSs X a t) (hb : PSs X b u) : PS X (.If c a b pos) (Bd tc t u):=by
  intro pins s σ H D I h
  refine wpAny_If (thn (hc pins s σ H _ I h) fun d s1 ⟨H1, I1, q1⟩=>?_)
  cases d with
  | true=>exact ha pins s1 σ H1 D I1 q1
  | false=>exact hb pins s1 σ H1 D I1 q1
noncomputable def Cp : TS:=fun _ _ _=>False
theorem GN : PS X st Cp:=fun _ _ _ _ _ _ h=>h.elim
end
noncomputable abbrev TG:=V -> St -> Hp -> (St -> Hp -> Prop) -> Prop
noncomputable abbrev TGs:=List V -> St -> Hp -> (St -> Hp -> Prop) -> Prop
noncomputable def PG (X : Cx) (target : Expr) (t : TG) : Prop:=
  ∀ (pins : List (Addr × Obj)) (s : Shared) (σ : St) (H : Hp) (v : V) (u : Value) (Q : St -> Hp -> Prop), Inv X pins σ H s -> X8 v u -> t v σ H Q ->
    wpAny (model X.prog X.w) X.A (assign target X.env u) (fun _ s'=>∃ σ' H', Inv X pins σ' H' s' /\ Q σ' H') X.xe s
noncomputable def PGs (X : Cx) (ts : List Expr) (t : TGs) : Prop:=
  ∀ (pins : List (Addr × Obj)) (s : Shared) (σ : St) (H : Hp) (vs : List V) (us : List Value) (Q : St -> Hp -> Prop), Inv X pins σ H s -> XV vs us -> t vs σ H Q ->
    wpAny (model X.prog X.w) X.A (assignInOrder ((assignEach ts X.env).map (·.2)) us) (fun _ s'=>∃ σ' H', Inv X pins σ' H' s' /\ Q σ' H') X.xe s
noncomputable abbrev BE:=V -> V -> V -> Hp -> (Hp -> Prop) -> Prop
noncomputable def B7 (X : Cx) (t : BE) : Prop:=
  ∀ (pins : List (Addr × Obj)) (s : Shared) (σ : St) (H : Hp) (o i v : V) (ov iv u : Value) (Q : Hp -> Prop), Inv X pins σ H s -> X8 o ov -> X8 i iv -> X8 v u -> t o i v H Q ->
    wpAny (model X.prog X.w) X.A (setItem ov iv u) (fun _ s'=>∃ H', Inv X pins σ H' s' /\ Q H') X.xe s
section
variable {X : Cx} {pos : Pos}
noncomputable def Z6 (i : Nat) : TG:=fun v σ H Q=>Q (σ.set i (some v)) H
theorem XO {i : Nat} {x : Str} (hN : X.N.Nodup) (hi : X.N[i]? = some x) (hx : Loc X.env.scope x) (hf : X.fn x = true ∨ X.env.scope.names.lookup x = some .local:=by first | exact .inl rfl | exact .inr rfl | assumption) : PG X (.Name x pos) (Z6 i):=by
  intro pins s σ H v u Q I r h
  exact wpAny_assign_Name (Qc I hN hi hx r (fun s' I'=>⟨_, H, I', h⟩) hf)
noncomputable def Ec : TGs:=fun vs σ H Q=>vs = [] /\ Q σ H
noncomputable def Dc (t : TG) (u : TGs) : TGs:=fun vs σ H Q=>∃ v r, vs = v :: r /\ t v σ H fun σ' H'=>u r σ' H' Q
theorem Dn : PGs X [] Ec:=by
  intro pins s σ H vs us Q I r h
  obtain ⟨e, h⟩:=h
  subst e
  cases r
  exact assignInOrder_nil ⟨σ, H, I, h⟩
theorem VY {e : Expr} {es : List Expr} {t : TG} {u : TGs} (h1 : PG X e t) (h2 : PGs X es u)
    (hs : (assignEach (e :: es) X.env).map (·.2) = assign e X.env :: (assignEach es X.env).map (·.2):=by rfl) : PGs X (e :: es) (Dc t u):=by
  intro pins s σ H vs us Q I r h
  obtain ⟨v, vr, e1, h⟩:=h
  subst e1
  cases r with
  | cons r rr=>
    rw [hs]
    refine assignInOrder_cons (thn (h1 pins s σ H _ _ _ I r h) fun _ s1 ⟨σ1, H1, I1, q1⟩=>?_)
    exact h2 pins s1 σ1 H1 _ _ Q I1 rr q1
noncomputable def B8 (K : PySem.W.Frag) (n : Nat) (t : TGs) : TG:=fun v σ H Q=>∃ a xs, v = .ref a /\ SqT K H a xs /\ xs.length = n /\ t xs σ H Q
theorem Bg {es : List Expr} {k : Nat} {t : TGs} {n : Nat} (hc : X.calm = true) (h : PGs X es t)
    (hn : (assignEach es X.env).length = n:=by rfl) (hst : (assignEach es X.env).findIdx? (·.1) = none:=by rfl) : PG X (.Tuple es k pos) (B8 X.K n t):=by
  intro pins s σ H v u Q I r hw
  obtain ⟨a, xs, e1, hq, hl, hw⟩:=hw
  subst e1
  cases r
  obtain ⟨its, rv, ht, hz⟩:=I.tuple hq
  refine assign_Tuple_tuple (I.ok.hd hc) ht (by simp [hn, ← hl, rv.length]) hst fun h' hx=>?_
  have I1 : Inv X pins σ H { s with heap:=h' }:=I.kept (t':=s.toks) fun b o e=>hx b o (Nat.ne_of_lt (Heap.lt_size e)) e
  exact h pins _ σ H xs _ Q I1 (by simpa using rv) hw
noncomputable def B1 (to ti : TE) (t : BE) : TG:=fun v σ H Q=>to σ H fun o H1=>ti σ H1 fun i H2=>t o i v H2 fun H3=>Q σ H3
theorem C9 {o i : Expr} {to ti : TE} {t : BE} (ho : PE X o to) (hi : PE X i ti) (hs : B7 X t)
    (ha : ∀ v, assign (.Subscript o i pos) X.env v = (do
      let ov ← holding [v] (eval o X.env)
      let iv ← holding [v, ov] (eval i X.env)
      standAt pos
      holding [v, ov, iv] (setItem ov iv v)
      release [v, ov, iv] []):=by intro _; rfl) : PG X (.Subscript o i pos) (B1 to ti t):=by
  intro pins s σ H v u Q I r h
  rw [ha]
  refine wpAny_bind (wpAny_holding (thn (ho pins s σ H _ I h) fun ov s1 ⟨x, H1, I1, r1, q1⟩=>?_))
  refine wpAny_bind (wpAny_holding (thn (hi pins s1 σ H1 _ I1 q1) fun iv s2 ⟨y, H2, I2, r2, q2⟩=>?_))
  refine wpAny_bind (wpAny_standAt (wpAny_bind (wpAny_holding (thn (hs pins s2 σ H2 x y v ov iv u _ I2 r1 r2 r q2) fun _ s3 ⟨H3, I3, q3⟩=>?_))))
  exact wpAny_release ⟨σ, H3, I3, q3⟩
noncomputable def Fw (te : TE) (g : TG) : TS:=fun D σ H=>te σ H fun x H1=>g x σ H1 D.nx
theorem Fx {tg e : Expr} {te : TE} {g : TG} (he : PE X e te) (hg : PG X tg g) (hs : swapsWithSole [tg] e pos.line X.env = pure false:=by rfl) (hw : swappedStores [tg] e X.env = pure none:=by rfl)
    (h1 : (assignEach [tg] X.env).map (·.2) = [assign tg X.env]:=by rfl) : PS X (.Assign [tg] e pos) (Fw te g):=by
  intro pins s σ H D I h
  refine wpAny_Assign_stores (thn (he pins s σ H _ I h) fun v s1 ⟨x, H1, I1, r1, q1⟩=>?_) hs hw
  rw [h1]
  exact thn (hg pins s1 σ H1 x v _ I1 r1 q1) fun _ s2 q=>q
theorem Xy {i : Nat} {x : Str} {e : Expr} {te : TE} {pos' : Pos} (hN : X.N.Nodup) (hi : X.N[i]? = some x) (hx : Loc X.env.scope x) (he : PE X e te) (hs : swapsWith e (some (.Name x pos')) pos.line X.env = pure false:=by rfl) (hf : X.fn x = true ∨ X.env.scope.names.lookup x = some .local:=by first | exact .inl rfl | exact .inr rfl | assumption) :
    PS X (.Assign [.Name x pos'] e pos) (Fw te (Z6 i)):=by
  intro pins s σ H D I h
  refine wpAny_Assign_Name (thn (he pins s σ H _ I h) fun v s1 ⟨y, H1, I1, r1, q1⟩=>?_) hs
  exact Qc I1 hN hi hx r1 (fun s2 I2=>⟨_, H1, I2, q1⟩) hf
noncomputable def B0 (i j : Nat) (ta : TA) : TS:=fun D σ H=>ta σ H fun vs H1=>∃ v w, vs = [v, w] /\ D.nx ((σ.set i (some v)).set j (some w)) H1
theorem Gr {i j : Nat} {x y : Str} {a b : Expr} {ta : TA} {px py pt : Pos} {kt k2 pt2} (hc : X.calm = true) (hN : X.N.Nodup) (hi : X.N[i]? = some x) (hj : X.N[j]? = some y) (hij : i ≠ j)
    (hx : X.env.scope.names.lookup x = some .local) (hy : X.env.scope.names.lookup y = some .local) (ha : PA X [a, b] ta)
    (hw : swappedStores [.Tuple [.Name x px, .Name y py] kt pt] (.Tuple [a, b] k2 pt2) X.env = pure (some [x, y]))
    (hs : swapsWithSole [.Tuple [.Name x px, .Name y py] kt pt] (.Tuple [a, b] k2 pt2) pos.line X.env = pure false:=by rfl) :
    PS X (.Assign [.Tuple [.Name x px, .Name y py] kt pt] (.Tuple [a, b] k2 pt2) pos) (B0 i j ta):=by
  intro pins s σ H D I h
  rw [exec_Assign_arm]
  refine wpAny_bind (wpAny_standAt ?_)
  rw [hs]
  refine wpAny_bind (wpAny_pure ?_)
  rw [if_neg (by decide)]
  refine wpAny_bind (Tuple_ (thn (ha _ pins s σ H _ I h) fun us s1 ⟨vs, H1, I1, r1, q1⟩=>?_))
  obtain ⟨v, w, e1, q1⟩:=q1
  subst e1
  obtain ⟨u1, u2, rfl, rv, rw'⟩ : ∃ u1 u2, us = [u1, u2] /\ X8 v u1 /\ X8 w u2:=by
    cases r1 with
    | cons p q=>
      cases q with
      | cons p' q'=>
        cases q'
        exact ⟨_, _, rfl, p, p'⟩
  refine wpAny_newObj_type ?_ (by show 2 <= sizeLine; decide)
  have I2 : Inv X pins σ H1 { s1 with heap:=s1.heap.push { cls:=.type "tuple", data:=.seq [u1, u2].toArray } }:=I1.kept (t':=s1.toks) fun b o e=>Heap.get?_push_of_some _ e
  rw [hw]
  refine wpAny_bind (wpAny_pure ?_)
  show wpAny (model X.prog X.w) X.A (do rule "assign.swapped-stores"; let items ← unpackItems (.ref s1.heap.objs.size) 2 none; assignInOrder [fun v=>bindName X.env y v, fun v=>bindName X.env x v] items.reverse; pure Flow.next) _ _ _
  refine wpAny_bind (wpAny_rule (wpAny_bind (unpackItems_tuple (items:=#[u1, u2]) (I.ok.hd hc) (IsTup.new s1.heap _) fun h' hx'=>?_)))
  have I3:=I2.kept (h':=h') (t':=s1.toks) fun b o e=>hx' b o (Nat.ne_of_lt (Heap.lt_size e)) e
  show wpAny _ _ (assignInOrder [fun v=>bindName X.env y v, fun v=>bindName X.env x v] [u2, u1] >>= fun _=>pure Flow.next) _ _ _
  refine wpAny_bind (assignInOrder_cons (wpAny_bindName (Qc I3 hN hj (.inl hy) rw' (fun s2 I4=>?_) (.inr hy))))
  refine assignInOrder_cons (wpAny_bindName (Qc I4 hN hi (.inl hx) rv (fun s3 I5=>assignInOrder_nil (wpAny_pure ?_)) (.inr hx)))
  rw [List.set_comm _ _ (Ne.symm hij)] at I5
  exact ⟨_, H1, I5, q1⟩
end
section
variable {X : Cx} {pos : Pos}
noncomputable def UU (c : TT) (tb : TS) : TS:=fun D σ H=>∃ W : Nat -> St -> Hp -> Prop, (∃ m, W m σ H) /\ ∀ m σ H, W m σ H ->
  c σ H fun b H1=>if b = true then ∃ N : St -> Hp -> Prop, (∀ σ' H', N σ' H' -> ∃ m', m' < m /\ W m' σ' H') /\ tb { D with nx:=N, ct:=N, bk:=D.nx } σ H1 else D.nx σ H1
theorem Jy {c : Expr} {body : List Stmt} {tc : TT} {tb : TS} (hp : PassesOwn (model X.prog X.w) X.A X.env X.xe) (hc : PT X c tc) (hb : PSs X body tb) : PS X (.While c body [] pos) (UU tc tb):=by
  intro pins s σ H D I h
  obtain ⟨W, ⟨m0, w0⟩, turn⟩:=h
  refine wpAny_While (codeAny_whileLoop (fun n s'=>∃ σ' H', Inv X pins σ' H' s' /\ W n σ' H') ?_ m0 ⟨σ, H, I, w0⟩)
  rintro n s1 ⟨σ1, H1, I1, w1⟩
  refine wpAny_passesOwn hp (thn (hc pins s1 σ1 H1 _ I1 (turn n σ1 H1 w1)) fun b s2 ⟨H2, I2, q2⟩=>?_)
  cases b with
  | true=>
    obtain ⟨N, hN, q2⟩:=q2
    rw [if_pos rfl]
    refine wpAny_passesOwn hp (thn (hb pins s2 σ1 H2 _ I2 q2) fun f s3 q3=>?_)
    cases f with
    | next=>
      obtain ⟨σ3, H3, I3, n3⟩:=q3
      obtain ⟨m', hm, w3⟩:=hN σ3 H3 n3
      exact ⟨m', hm, σ3, H3, I3, w3⟩
    | cont=>
      obtain ⟨σ3, H3, I3, n3⟩:=q3
      obtain ⟨m', hm, w3⟩:=hN σ3 H3 n3
      exact ⟨m', hm, σ3, H3, I3, w3⟩
    | brk=>exact q3
    | ret v=>exact q3
  | false=>
    rw [if_neg Bool.false_ne_true]
    exact wpAny_execs_nil ⟨σ1, H2, I2, q2⟩
end
structure It where
  go : Nat -> Hp -> Prop
  yld : Nat -> Hp -> V -> Hp -> Prop
  stop : Nat -> Hp -> Prop
noncomputable def UI (X : Cx) (pins : List (Addr × Obj)) (H : Hp) (b : Addr) : Prop:=
  H b = none /\ b ≠ X.env.locals /\ b ∉ X.fs /\ (b ∈ X.ex ∨ X.s₀.heap.objs.size <= b) /\ (∀ x c, X.env.cells.lookup x = some c -> c ≠ b) /\ ∀ p ∈ X.pn ++ pins, p.1 ≠ b
theorem Inv.fpOk {X : Cx} {pins : List (Addr × Obj)} {σ : St} {H H' : Hp} {s : Shared} {b : Addr} (I : Inv X pins σ H s) (hb : s.heap.objs.size <= b) (hn : H' b = none) : UI X pins H' b:=by
  refine ⟨hn, Nat.ne_of_gt (Nat.lt_of_lt_of_le I.lt hb), I.nofs hb, .inr (Nat.le_trans I.sz hb), fun x c e z=>?_, fun p hp z=>?_⟩
  . obtain ⟨v, q⟩ := I.cell x c e
    exact absurd (Nat.lt_of_lt_of_le q.lt (by rw [z]; exact hb)) (Nat.lt_irrefl _)
  . exact absurd (Nat.lt_of_lt_of_le (Heap.lt_size (I.pin p hp).1) (by rw [z]; exact hb)) (Nat.lt_irrefl _)
structure Turn (P : Program) (w : World) (K : PySem.W.Frag) (tg : Expr) (J : It) (fp : List Addr) (it : Addr) (tn : Nat -> Heap -> Prop) : Prop where
  mem : it ∈ fp
  obj : ∀ i h, tn i h -> ∀ b ∈ fp, ∃ o, h.get? b = some o /\ ∀ v, o.data ≠ .cell v
  keep : ∀ i h h', tn i h -> (∀ b ∈ fp, ∀ o, h.get? b = some o -> h'.get? b = some o) -> tn i h'
  item : ∀ (X : Cx), X.prog = P -> X.w = w -> X.K = K -> X.calm = true -> ∀ (i : Nat) (pins : List (Addr × Obj)) (s : Shared) (σ : St) (H : Hp) (E : Value -> Shared -> Prop), Inv X pins σ H s -> (∀ b ∈ fp, UI X pins H b) -> tn i s.heap -> J.go i H ->
    wpAny (model P w) X.A (pyNext (.ref it)) (fun r s1=>∃ u, r = some u /\
      wpAny (model P w) X.A (letOwnedTupleGo tg (.ref it) u) (fun _ s2=>∃ x H', Inv X pins σ H' s2 /\ X8 x u /\ J.yld i H x H' /\ tn (i + 1) s2.heap /\ ∀ b ∈ fp, H' b = none) E s1) E s
  done : ∀ (X : Cx), X.prog = P -> X.w = w -> X.K = K -> X.calm = true -> ∀ (i : Nat) (pins : List (Addr × Obj)) (s : Shared) (σ : St) (H : Hp) (E : Value -> Shared -> Prop), Inv X pins σ H s -> (∀ b ∈ fp, UI X pins H b) -> tn i s.heap -> J.stop i H ->
    wpAny (model P w) X.A (pyNext (.ref it)) (fun r s1=>r = none /\ Inv X pins σ H s1) E s
  self : ∀ (A : Around) (i : Nat) (s : Shared) (Q : Value -> Shared -> Prop) (E : Value -> Shared -> Prop), tn i s.heap -> Q (.ref it) s -> wpAny (model P w) A (pyIter (.ref it)) Q E s
noncomputable abbrev TI:=St -> Hp -> (It -> Hp -> Prop) -> Prop
noncomputable def PIE (X : Cx) (pins : List (Addr × Obj)) (σ : St) (tg : Expr) (R : It -> Hp -> Prop) (itv : Value) (s2 : Shared) : Prop:=
  ∃ (it : Addr) (fp : List Addr) (tn : Nat -> Heap -> Prop) (J : It) (H' : Hp), itv = .ref it /\ Inv X pins σ H' s2 /\ Turn X.prog X.w X.K tg J fp it tn /\ tn 0 s2.heap /\ (∀ b ∈ fp, UI X pins H' b) /\ R J H'
noncomputable def PI (X : Cx) (tg iter : Expr) (wi : TI) : Prop:=
  ∀ (pins : List (Addr × Obj)) (s : Shared) (σ : St) (H : Hp) (R : It -> Hp -> Prop), Inv X pins σ H s -> wi σ H R ->
    wpAny (model X.prog X.w) X.A (eval iter X.env) (fun v s1=>wpAny (model X.prog X.w) X.A (pyIter v) (PIE X pins σ tg R) X.xe s1) X.xe s
theorem DL {M : Model} {A : Around} {E : Value -> Shared -> Prop} {s : Shared} {tg : Expr} {it : Addr} {u : Value} {o : Obj} {n : String} {vs : Array Value} {Q : Unit -> Shared -> Prop} (ho : s.heap.get? it = some o) (hc : o.cls = .type n) (hd : o.data = .fields vs)
    (hn : ["enumerate", "zip", "dict_itemiterator", "dict_reverseitemiterator", "odict_iterator", "itertools.zip_longest", "itertools.pairwise"].contains n = false) (hQ : Q () s) : wpAny M A (letOwnedTupleGo tg (.ref it) u) Q E s:=by
  unfold letOwnedTupleGo
  cases tg <;> first
    | exact wpAny_pure hQ
    | (cases u <;> first
        | exact wpAny_pure hQ
        | (refine wpAny_bind (wpAny_load ho ?_)
           rw [hc, hd]
           show wpAny M A (if (["enumerate", "zip", "dict_itemiterator", "dict_reverseitemiterator", "odict_iterator", "itertools.zip_longest", "itertools.pairwise"].contains n && vs[0]? == some (rawInt _)) = true then _ else _) Q E s
           rw [if_neg (by intro h; rw [hn, Bool.false_and] at h; cases h)]
           exact wpAny_pure hQ))
noncomputable def Itl (K : PySem.W.Frag) (a : Addr) : It:=
  ⟨fun i H=>∃ xs x, SqL K H a xs /\ xs[i]? = some x, fun i H x H'=>H' = H /\ ∀ xs, SqL K H a xs -> xs[i]? = some x, fun i H=>∃ xs, SqL K H a xs /\ xs.length <= i⟩
noncomputable def Itr (lo : Int) (n : Nat) : It:=⟨fun i _=>i < n, fun i H x H'=>H' = H /\ x = .int (lo + i), fun i _=>n <= i⟩
theorem U1 {P : Program} {w : World} {K : PySem.W.Frag} {tg : Expr} (a it : Addr) : Turn P w K tg (Itl K a) [it] it (fun i h=>h.IsListIter it a i) where
  mem:=by simp
  obj:=fun i h st b hb=>by
    have e : b = it:=by simpa using hb
    subst e
    obtain ⟨o, e, c, d⟩:=st
    exact ⟨o, e, fun v z=>by rw [d] at z; cases z⟩
  keep:=fun i h h' st k=>st.at fun o e=>k it (by simp) o e
  item:=by
    intro X hP hw hK hc i pins s σ H E I hf st hg
    subst hP hw hK
    obtain ⟨xs, x, hq, hx⟩:=hg
    obtain ⟨its, rv, p, hz⟩:=I.list hq
    obtain ⟨u, hu, ru⟩:=rv.get hx
    obtain ⟨f0, f1, f2, f3, f4, f5⟩:=hf it (by simp)
    refine wpAny_pyNext_list_item st p.isList (x:=u) (by simpa using hu) fun h' st' sb=>?_
    have I1 : Inv X pins σ H { s with heap:=h' }:=I.turned (t':=s.toks) (fun b o hb e=>(sb.2 b hb).trans e) f0 f1 f3 f4 f5
    obtain ⟨o, e, c, d⟩:=id st'
    exact ⟨u, rfl, DL (s:={ s with heap:=h' }) e c d (by decide) ⟨x, H, I1, ru, ⟨rfl, fun ys hy=>by rw [I.list_inj hy hq]; exact hx⟩, st', fun b hb=>(hf b hb).1⟩⟩
  done:=by
    intro X hP hw hK hc i pins s σ H E I hf st hg
    subst hP hw hK
    obtain ⟨xs, hq, hx⟩:=hg
    obtain ⟨its, rv, p, hz⟩:=I.list hq
    obtain ⟨f0, f1, f2, f3, f4, f5⟩:=hf it (by simp)
    have hl:=rv.length
    exact wpAny_pyNext_list_end (I.ok.hd hc) st p.isList (by simp; omega) fun h' eb=>⟨rfl, I.turned (t':=s.toks) (fun b o hb e=>eb b o hb e) f0 f1 f3 f4 f5⟩
  self:=fun _ _ _ _ _ st h=>wpAny_pyIter_listiter st h
theorem UG {P : Program} {w : World} {K : PySem.W.Frag} {tg : Expr} (it : Addr) (lo : Int) (n : Nat) : Turn P w K tg (Itr lo n) [it] it (fun i h=>IsRangeIter h it (lo + (i : Nat) * 1) ((n : Int) - (i : Nat)) 1) where
  mem:=by simp
  obj:=fun i h st b hb=>by
    have e : b = it:=by simpa using hb
    subst e
    exact ⟨_, st, fun v z=>by
      have z' : Data.fields _ = Data.cell v:=z
      cases z'⟩
  keep:=fun i h h' st k=>k it (by simp) _ st
  item:=by
    intro X hP hw hK hc i pins s σ H E I hf st hg
    subst hP hw hK
    obtain ⟨f0, f1, f2, f3, f4, f5⟩:=hf it (by simp)
    have W:=Walks.range (prog:=X.prog) (w:=X.w) (I.ok.hd hc) it lo 1 n
    refine W.item i s _ _ hg st fun v h' tk hv st' kk=>?_
    obtain ⟨t, rfl⟩:=hv
    have I1 : Inv X pins σ H { s with heap:=h', toks:=tk }:=I.turned (fun b o hb e=>kk b o (by simpa using hb) e) f0 f1 f3 f4 f5
    refine ⟨_, rfl, DL (s:={ s with heap:=h', toks:=tk }) (n:="range_iterator") st' rfl rfl (by decide) ⟨.int (lo + i), H, I1, ⟨t, ?_⟩, ⟨rfl, rfl⟩, st', fun b hb=>(hf b hb).1⟩⟩
    rw [Int.mul_one]
  done:=by
    intro X hP hw hK hc i pins s σ H E I hf st hg
    subst hP hw hK
    obtain ⟨f0, f1, f2, f3, f4, f5⟩:=hf it (by simp)
    exact wpAny_pyNext_range_end (I.ok.hd hc) st (by have : n <= i:=hg; omega) fun h' eb=>⟨rfl, I.turned (t':=s.toks) (fun b o hb e=>eb b o hb e) f0 f1 f3 f4 f5⟩
  self:=fun _ _ _ _ _ st h=>wpAny_pyIter_rangeiter st h
end L2
namespace L2
open PySem PySem.Spec PyProof.Rows
section
variable {X : Cx} {tg : Expr}
noncomputable def KB (K : PySem.W.Frag) (tl : TE) : TI:=fun σ H R=>tl σ H fun x H1=>∃ a, x = .ref a /\ (∃ xs, SqL K H1 a xs) /\ R (Itl K a) H1
theorem FV {l : Expr} {tl : TE} (hl : PE X l tl) : PI X tg l (KB X.K tl):=by
  intro pins s σ H R I h
  refine thn (hl pins s σ H _ I h) fun v s1 ⟨x, H1, I1, r1, q1⟩=>?_
  obtain ⟨a, e, ⟨xs, hq⟩, q⟩:=q1
  subst e
  cases r1
  obtain ⟨its, rv, p, hz⟩:=I1.list hq
  refine wpAny_pyIter_list p.isList ?_
  refine ⟨s1.heap.objs.size, [s1.heap.objs.size], _, _, H1, rfl, I1.kept (t':=s1.toks) fun b o e=>Heap.get?_push_of_some _ e, U1 a _, ⟨_, Heap.get?_push_size _ rfl, rfl, rfl⟩, fun b hb=>?_, q⟩
  have e : b = s1.heap.objs.size:=by simpa using hb
  subst e
  exact I1.fpOk (Nat.le_refl _) (I1.hok.fresh (Nat.le_refl _))
theorem GI {pins : List (Addr × Obj)} {σ : St} {H : Hp} {s : Shared} {R : It -> Hp -> Prop} {E : Value -> Shared -> Prop} {lo hi : Int} {t u v : Tok} {tk : Nat} (I : Inv X pins σ H s) (h1 : -(2 ^ 62) <= lo) (h2 : lo < 2 ^ 62) (h3 : -(2 ^ 62) <= hi) (h4 : hi < 2 ^ 62)
    (q : R (Itr lo (hi - lo).toNat) H) : wpAny (model X.prog X.w) X.A (pyIter (.ref s.heap.objs.size)) (PIE X pins σ tg R) E { s with heap:=s.heap.push { cls:=.type "range", data:=.fields #[.int lo t, .int hi u, .int 1 v] }, toks:=tk }:=by
  refine wpAny_pyIter_range (IsRange.new ..) (small_one h1 h2 h3 h4) ?_
  have I1 : Inv X pins σ H { s with heap:=s.heap.push { cls:=.type "range", data:=.fields #[.int lo t, .int hi u, .int 1 v] }, toks:=tk }:=I.kept fun b o e=>Heap.get?_push_of_some _ e
  refine ⟨(s.heap.push { cls:=.type "range", data:=.fields #[.int lo t, .int hi u, .int 1 v] }).objs.size, [(s.heap.push { cls:=.type "range", data:=.fields #[.int lo t, .int hi u, .int 1 v] }).objs.size], _, _, H, rfl,
    I1.kept (t':=tk) fun b o e=>Heap.get?_push_of_some _ e, UG _ lo (hi - lo).toNat, ?_, fun b hb=>?_, q⟩
  . have e1 : lo + ((0 : Nat) : Int) * 1 = lo := by simp
    have e2 : (((hi - lo).toNat : Nat) : Int) - ((0 : Nat) : Int) = Builtin.Range.rangeSize lo hi 1:=by rw [rangeSize_one]; split <;> omega
    show IsRangeIter _ _ (lo + ((0 : Nat) : Int) * 1) ((((hi - lo).toNat : Nat) : Int) - ((0 : Nat) : Int)) 1
    rw [e1, e2]
    exact Heap.get?_push_size _ rfl
  . have e : b = (s.heap.push { cls := .type "range", data := .fields #[.int lo t, .int hi u, .int 1 v] }).objs.size := by simpa using hb
    subst e
    exact I1.fpOk (Nat.le_refl _) (I1.hok.fresh (Nat.le_refl _))
noncomputable def Cn (ta : TA) : TI:=fun σ H R=>ta σ H fun vs H1=>∃ j : Int, vs = [.int j] /\ -(2 ^ 62) <= j /\ j < 2 ^ 62 /\ R (Itr 0 j.toNat) H1
theorem XT {a : Expr} {ta : TA} {p pos : Pos} (hg : Gl X "range") (hm : X.mg "range" = none) (ha : PA X [a] ta) (hs : starEach [a] X.env = [(false, eval a X.env)]:=by rfl) : PI X tg (.Call (.Name "range" p) [a] [] pos) (Cn ta):=by
  intro pins s σ H R I h
  refine Call_ (Qr I hg hm boot_range (PyProof.Rows.callWith_type1 (thn (ha pos pins s σ H _ I h) fun us s1 ⟨vs, H1, I1, r1, q1⟩=>?_) hs rfl))
  obtain ⟨j, e, q1, q2, q⟩:=q1
  subst e
  cases r1 with
  | cons r rr=>
    cases rr
    obtain ⟨t, rfl⟩:=r
    exact call_range_1 (GI I1 (by omega) (by omega) q1 q2 (by simpa using q))
noncomputable def Cf (wi : TI) (g : TG) (tb : TS) : TS:=fun D σ H=>wi σ H fun J H1=>∃ W : Nat -> Nat -> St -> Hp -> Prop, (∃ m, W 0 m σ H1) /\ ∀ i m σ H, W i m σ H ->
  (J.stop i H /\ D.nx σ H) ∨ (J.go i H /\ ∃ N : St -> Hp -> Prop, (∀ σ' H', N σ' H' -> ∃ m', m' < m /\ W (i + 1) m' σ' H') /\ ∀ x H', J.yld i H x H' -> g x σ H' fun σ2 H2=>tb { D with nx:=N, ct:=N, bk:=D.nx } σ2 H2)
noncomputable def JL (fp : List Addr) (h : Heap) : List (Addr × Obj):=fp.filterMap fun b=>(h.get? b).map fun o=>(b, o)
theorem ZV {fp : List Addr} {h : Heap} {b : Addr} {o : Obj} (hb : b ∈ fp) (e : h.get? b = some o) : (b, o) ∈ JL fp h:=List.mem_filterMap.mpr ⟨b, hb, by rw [e]; rfl⟩
theorem KW {fp : List Addr} {h : Heap} {p : Addr × Obj} (hp : p ∈ JL fp h) : p.1 ∈ fp /\ h.get? p.1 = some p.2:=by
  obtain ⟨b, hb, e⟩:=List.mem_filterMap.mp hp
  cases q : h.get? b with
  | none=>rw [q] at e; cases e
  | some o=>
    rw [q] at e
    have e' : (b, o) = p:=Option.some.inj e
    subst e'
    exact ⟨hb, q⟩
theorem Inv.pinned {pins : List (Addr × Obj)} {σ : St} {H : Hp} {s : Shared} {fp : List Addr} (I : Inv X pins σ H s) (hf : ∀ b ∈ fp, UI X pins H b) (ho : ∀ b ∈ fp, ∃ o, s.heap.get? b = some o /\ ∀ v, o.data ≠ .cell v) : Inv X (pins ++ JL fp s.heap) σ H s:=
  I.pins_of fun p hp=>(List.mem_append.mp hp).elim (fun z=>I.pin p (List.mem_append_right _ z)) fun z=>by
    obtain ⟨hb, e⟩:=KW z
    obtain ⟨f0, f1, f2, _⟩:=hf p.1 hb
    obtain ⟨o, e', d⟩:=ho p.1 hb
    rw [e] at e'; cases e'
    exact ⟨e, f0, f1, f2, d⟩
theorem Inv.unpinned {pins pl : List (Addr × Obj)} {σ : St} {H : Hp} {s : Shared} (I : Inv X (pins ++ pl) σ H s) : Inv X pins σ H s:=I.pins_of fun p hp=>I.pin p (List.mem_append_right _ (List.mem_append_left _ hp))
theorem YG {iter : Expr} {body : List Stmt} {wi : TI} {g : TG} {tb : TS} {pos : Pos} (hp : PassesOwn (model X.prog X.w) X.A X.env X.xe) (hc : X.calm = true) (hi : PI X tg iter wi) (hg : PG X tg g) (hb : PSs X body tb)
    (hs : ∀ x, foldedSetIterable iter X.env x = pure x:=by intro _; rfl) : PS X (.For tg iter body [] pos) (Cf wi g tb):=by
  intro pins s σ H D I h
  refine wpAny_For (thn (hi pins s σ H _ I h) fun v s1 h1=>thn h1 fun itv s2 h2=>?_) hs
  obtain ⟨it, fp, tn, J, H2, e, I2, T, st2, f2, W, ⟨m0, w0⟩, turn⟩:=h2
  subst e
  -- what stays true of the iterator's objects through the loop
  have stat : ∀ {H' : Hp}, (∀ b ∈ fp, H' b = none) -> ∀ b ∈ fp, UI X pins H' b:=fun hn b hb=>⟨hn b hb, (f2 b hb).2⟩
  refine codeAny_forLoop_any (fun n s'=>∃ i σ' H', Inv X pins σ' H' s' /\ tn i s'.heap /\ (∀ b ∈ fp, H' b = none) /\ W i n σ' H') ?_ m0 ⟨0, σ, H2, I2, st2, fun b hb=>(f2 b hb).1, w0⟩
  rintro n s3 ⟨i, σ3, H3, I3, st3, fr3, w3⟩
  rcases turn i n σ3 H3 w3 with ⟨stop, qn⟩ | ⟨go, N, hN, step⟩
  . refine wpAny_passesOwn hp (thn (T.done X rfl rfl rfl hc i pins s3 σ3 H3 X.xe I3 (stat fr3) st3 stop) fun r s4 ⟨hr, I4⟩ => ?_)
    subst hr
    exact wpAny_execs_nil ⟨σ3, H3, I4, qn⟩
  . refine wpAny_passesOwn hp (thn (T.item X rfl rfl rfl hc i pins s3 σ3 H3 X.xe I3 (stat fr3) st3 go) fun r s4 ⟨u, hr, h4⟩ => ?_)
    subst hr
    refine wpAny_passesOwn hp (thn h4 fun _ s5 ⟨x, H5, I5, r5, y5, st5, fr5⟩=>?_)
    have I5':=I5.pinned (stat fr5) (T.obj _ _ st5)
    refine wpAny_passesOwn hp (thn (hg _ s5 σ3 H5 x u _ I5' r5 (step x H5 y5)) fun _ s6 ⟨σ6, H6, I6, q6⟩=>?_)
    refine wpAny_passesOwn hp (thn (hb _ s6 σ6 H6 _ I6 q6) fun f s7 q7=>?_)
    have again : ∀ {σ7 : St} {H7 : Hp}, Inv X (pins ++ JL fp s5.heap) σ7 H7 s7 -> N σ7 H7 -> ∃ m, m < n /\ ∃ i σ' H', Inv X pins σ' H' s7 /\ tn i s7.heap /\ (∀ b ∈ fp, H' b = none) /\ W i m σ' H':=fun {σ7 H7} I7 n7=>by
      obtain ⟨m', hm, w7⟩:=hN σ7 H7 n7
      refine ⟨m', hm, i + 1, σ7, H7, I7.unpinned, T.keep _ _ _ st5 fun b hb o e=>(I7.pin (b, o) (List.mem_append_right _ (List.mem_append_right _ (ZV hb e)))).1, fun b hb=>?_, w7⟩
      obtain ⟨o, e, d⟩:=T.obj _ _ st5 b hb
      exact (I7.pin (b, o) (List.mem_append_right _ (List.mem_append_right _ (ZV hb e)))).2.1
    cases f with
    | next=>obtain ⟨σ7, H7, I7, n7⟩:=q7; exact again I7 n7
    | cont=>obtain ⟨σ7, H7, I7, n7⟩:=q7; exact again I7 n7
    | brk=>obtain ⟨σ7, H7, I7, q7⟩:=q7; exact ⟨σ7, H7, I7.unpinned, q7⟩
    | ret v=>obtain ⟨x7, σ7, H7, I7, r7, q7⟩:=q7; exact ⟨x7, σ7, H7, I7.unpinned, r7, q7⟩
end
end L2
namespace L2
open PySem PySem.Spec PyProof.Rows
noncomputable abbrev R2:=V -> V -> Hp -> VK -> Prop
noncomputable def OpR (X : Cx) (f : Value -> Value -> Sem Value) (r : R2) : Prop:=
  ∀ (pins : List (Addr × Obj)) (s : Shared) (σ : St) (H : Hp) (x y : V) (v u : Value) (Q : VK), Inv X pins σ H s -> X8 x v -> X8 y u -> r x y H Q ->
    wpAny (model X.prog X.w) X.A (f v u) (EP X pins σ Q) X.xe s
noncomputable def UnR (X : Cx) (f : Value -> Sem Value) (r : V -> Hp -> VK -> Prop) : Prop:=
  ∀ (pins : List (Addr × Obj)) (s : Shared) (σ : St) (H : Hp) (x : V) (v : Value) (Q : VK), Inv X pins σ H s -> X8 x v -> r x H Q ->
    wpAny (model X.prog X.w) X.A (f v) (EP X pins σ Q) X.xe s
noncomputable def ZW (X : Cx) (f : Value) (r : List V -> Hp -> VK -> Prop) : Prop:=
  ∀ (pins : List (Addr × Obj)) (s : Shared) (σ : St) (H : Hp) (xs : List V) (us : List Value) (Q : VK), Inv X pins σ H s -> XV xs us -> r xs H Q ->
    wpAny (model X.prog X.w) X.A (call f us) (EP X pins σ Q) X.xe s
noncomputable def tOp (r : R2) (ta tb : TE) : TE:=fun σ H Q=>ta σ H fun x H1=>tb σ H1 fun y H2=>r x y H2 Q
noncomputable def tUn (r : V -> Hp -> VK -> Prop) (ta : TE) : TE:=fun σ H Q=>ta σ H fun x H1=>r x H1 Q
noncomputable def rI (C : Int -> Int -> Prop) (g : Int -> Int -> V) : R2:=fun x y H Q=>∃ i j, x = .int i /\ y = .int j /\ C i j /\ Q (g i j) H
noncomputable def rI0 (g : Int -> Int -> V) : R2:=fun x y H Q=>∃ i j, x = .int i /\ y = .int j /\ Q (g i j) H
noncomputable def rU (g : Int -> V) : V -> Hp -> VK -> Prop:=fun x H Q=>∃ i, x = .int i /\ Q (g i) H
section
variable {X : Cx} {a b c : Expr} {ta tb tc : TE} {pos : Pos}
theorem BM (ha : PE X a ta) (hb : PE X b tb) {pins : List (Addr × Obj)} {s : Shared} {σ : St} {H : Hp} {R : V -> V -> Hp -> Prop} (I : Inv X pins σ H s)
    (h : ta σ H fun x H1=>tb σ H1 fun y H2=>R x y H2) {Q : Value -> Shared -> Prop} {f : Value -> Value -> Sem Value}
    (hf : ∀ v u s2 x y H2, Inv X pins σ H2 s2 -> X8 x v -> X8 y u -> R x y H2 -> wpAny (model X.prog X.w) X.A (f v u) Q X.xe s2) :
    wpAny (model X.prog X.w) X.A (eval a X.env) (fun v s₁=>wpAny (model X.prog X.w) X.A (eval b X.env) (fun u s₂=>wpAny (model X.prog X.w) X.A (f v u) Q X.xe s₂) X.xe s₁) X.xe s:=by
  refine thn (ha pins s σ H _ I h) fun v s1 ⟨x, H1, I1, r1, q1⟩=>?_
  refine thn (hb pins s1 σ H1 _ I1 q1) fun u s2 ⟨y, H2, I2, r2, q2⟩=>?_
  exact hf v u s2 x y H2 I2 r1 r2 q2
theorem Xt {op : Operator} {r : R2} (ho : OpR X (binaryOp op) r) (ha : PE X a ta) (hb : PE X b tb) : PE X (.BinOp a op b pos) (tOp r ta tb):=by
  intro pins s σ H Q I h
  exact wpAny_BinOp (BM ha hb I h fun v u s2 x y H2 I2 rx ry q=>ho pins s2 σ H2 x y v u Q I2 rx ry q)
theorem CN {op : UnaryOp} {r : V -> Hp -> VK -> Prop} (ho : UnR X (unaryOp op) r) (ha : PE X a ta) : PE X (.UnaryOp op a pos) (tUn r ta):=by
  intro pins s σ H Q I h
  exact UnaryOp_ (thn (ha pins s σ H _ I h) fun v s1 ⟨x, H1, I1, r1, q1⟩=>ho pins s1 σ H1 x v Q I1 r1 q1)
theorem opI {f : Value -> Value -> Sem Value} {C : Int -> Int -> Prop} {g : Int -> Int -> Int}
    (rule : ∀ (i j : Int) (t u : Tok) (s : Shared) (Q : Value -> Shared -> Prop) (E : Value -> Shared -> Prop), C i j -> Q (.int (g i j) s.toks) { s with toks:=s.toks + 1 } -> wpAny (model X.prog X.w) X.A (f (.int i t) (.int j u)) Q E s) :
    OpR X f (rI C fun i j=>.int (g i j)):=by
  intro pins s σ H x y v u Q I rx ry h
  obtain ⟨i, j, rfl, rfl, hc, q⟩:=h
  obtain ⟨t, rfl⟩:=rx
  obtain ⟨t', rfl⟩:=ry
  exact rule i j t t' s _ _ hc ⟨.int (g i j), H, I.tok _, ⟨_, rfl⟩, q⟩
theorem Ea {f : Value -> Value -> Sem Value} {g : Int -> Int -> Int}
    (rule : ∀ (i j : Int) (t u : Tok) (s : Shared) (Q : Value -> Shared -> Prop) (E : Value -> Shared -> Prop), Q (.int (g i j) s.toks) { s with toks:=s.toks + 1 } -> wpAny (model X.prog X.w) X.A (f (.int i t) (.int j u)) Q E s) :
    OpR X f (rI0 fun i j=>.int (g i j)):=by
  intro pins s σ H x y v u Q I rx ry h
  obtain ⟨i, j, rfl, rfl, q⟩:=h
  obtain ⟨t, rfl⟩:=rx
  obtain ⟨t', rfl⟩:=ry
  exact rule i j t t' s _ _ ⟨.int (g i j), H, I.tok _, ⟨_, rfl⟩, q⟩
theorem BF {f : Value -> Value -> Sem Value} {g : Int -> Int -> Bool}
    (rule : ∀ (i j : Int) (t u : Tok) (s : Shared) (Q : Value -> Shared -> Prop) (E : Value -> Shared -> Prop), Q (.bool (g i j)) s -> wpAny (model X.prog X.w) X.A (f (.int i t) (.int j u)) Q E s) :
    OpR X f (rI0 fun i j=>.bl (g i j)):=by
  intro pins s σ H x y v u Q I rx ry h
  obtain ⟨i, j, rfl, rfl, q⟩:=h
  obtain ⟨t, rfl⟩:=rx
  obtain ⟨t', rfl⟩:=ry
  exact rule i j t t' s _ _ ⟨.bl (g i j), H, I, rfl, q⟩
noncomputable def BY (i j : Int) : Prop:=0 <= j /\ j <= 1000000 /\ i.natAbs < 2 ^ 64
noncomputable def BD (i j : Int) : Prop:=(-(2 ^ 64) < i /\ i < 2 ^ 64) ∨ (-(2 ^ 64) < j /\ j < 2 ^ 64)
theorem BD.ok {i j : Int} (h : BD i j) : IntMulOk i j:=by
  rcases h with ⟨h1, h2⟩ | ⟨h1, h2⟩
  . exact .of_left (intBits_le_64 h1 h2)
  . exact .of_right (intBits_le_64 h1 h2)
theorem YF : OpR X (binaryOp .Add) (rI0 fun i j=>.int (i + j)):=Ea fun _ _ _ _ _ _ _ q=>add_int q
theorem YJ : OpR X (binaryOp .Sub) (rI0 fun i j=>.int (i - j)):=Ea fun _ _ _ _ _ _ _ q=>sub_int q
theorem Y5 : OpR X (binaryOp .Mult) (rI BD fun i j=>.int (i * j)):=opI fun _ _ _ _ _ _ _ hc q=>mul_int q hc.ok
theorem Yf : OpR X (binaryOp .Mod) (rI (fun _ j=>0 < j) fun i j=>.int (i % j)):=opI fun i j _ _ _ _ _ hc q=>by
  have h1 : (0 : Int) < j:=hc
  exact mod_int' (by omega) (by rw [Int.fmod_eq_emod_of_nonneg i (by omega)]; exact q)
theorem Fz : OpR X (binaryOp .Pow) (rI BY fun i j=>.int (i ^ j.toNat)):=opI fun _ _ _ _ _ _ _ hc q=>pow_int_small hc.1 hc.2.1 hc.2.2 q
theorem unI {f : Value -> Sem Value} {g : Int -> Int}
    (rule : ∀ (i : Int) (t : Tok) (s : Shared) (Q : Value -> Shared -> Prop) (E : Value -> Shared -> Prop), Q (.int (g i) s.toks) { s with toks:=s.toks + 1 } -> wpAny (model X.prog X.w) X.A (f (.int i t)) Q E s) :
    UnR X f (rU fun i=>.int (g i)):=by
  intro pins s σ H x v Q I rx h
  obtain ⟨i, rfl, q⟩:=h
  obtain ⟨t, rfl⟩:=rx
  exact rule i t s _ _ ⟨.int (g i), H, I.tok _, ⟨_, rfl⟩, q⟩
theorem Fo : UnR X (unaryOp .USub) (rU fun i=>.int (-i)):=unI fun _ _ _ _ _ q=>neg_int q
end
noncomputable def BS : V -> V -> Bool
  | .non, .non=>true | .non, .int _=>true | .int _, .non=>true | .non, .bl _=>true | .bl _, .non=>true | .non, .str _=>true | .str _, .non=>true
  | .int _, .int _=>true | .bl _, .bl _=>true | .str _, .str _=>true | .byt _, .byt _=>true
  | .int _, .str _=>true | .str _, .int _=>true | .bl _, .str _=>true | .str _, .bl _=>true
  | _, _=>false
noncomputable def rEq : R2:=fun x y H Q=>BS x y = true /\ Q (.bl (decide (x = y))) H
noncomputable def rNe : R2:=fun x y H Q=>BS x y = true /\ Q (.bl (!decide (x = y))) H
theorem UV {i j : Int} : decide (V.int i = V.int j) = (i == j):=by
  rw [Bool.eq_iff_iff]
  simp
theorem FD {i j : Bool} : decide (V.bl i = V.bl j) = (i == j):=by
  rw [Bool.eq_iff_iff]
  simp
theorem Gf {i j : Str} : decide (V.str i = V.str j) = (i == j):=by
  rw [Bool.eq_iff_iff]
  simp
theorem Gg {i j : Array UInt8} : decide (V.byt i = V.byt j) = (i.toList == j.toList):=by
  rw [Bool.eq_iff_iff]
  cases i
  cases j
  simp
section
variable {X : Cx} {a b c : Expr} {ta tb tc : TE} {pos : Pos}
theorem XL {pins : List (Addr × Obj)} {σ : St} {H : Hp} {s : Shared} {Q : VK} {k k' : Bool} (I : Inv X pins σ H s) (q : Q (.bl k) H) (e : k = k') : EP X pins σ Q (.bool k') s:=by
  subst e
  exact ⟨.bl k, H, I, rfl, q⟩
theorem Y8 : OpR X (compareOp .Eq) rEq:=by
  intro pins s σ H x y v u Q I rx ry h
  obtain ⟨hs, q⟩:=h
  cases x with
  | non=>
    cases rx
    cases y with
    | non=>cases ry; exact PySem.EqNone.eq_none_none (XL I q (by simp))
    | bl j=>cases ry; exact PySem.EqNone.eq_none_bool (XL I q (by simp))
    | int j=>obtain ⟨t', rfl⟩:=ry; exact PySem.EqNone.eq_none_int (XL I q (by simp))
    | str j=>obtain ⟨t', rfl⟩:=ry; exact PySem.EqNone.eq_none_str (XL I q (by simp))
    | _=>exact absurd (show false = true from hs) Bool.false_ne_true
  | bl i=>
    cases rx
    cases y with
    | non=>cases ry; exact PySem.EqNone.eq_bool_none (XL I q (by simp))
    | bl j=>cases ry; exact eq_bool (XL I q FD)
    | str j=>obtain ⟨t', rfl⟩:=ry; exact PySem.EqMixed.eq_bool_str (XL I q (by simp))
    | _=>exact absurd (show false = true from hs) Bool.false_ne_true
  | int i=>
    obtain ⟨t, rfl⟩:=rx
    cases y with
    | non=>cases ry; exact PySem.EqNone.eq_int_none (XL I q (by simp))
    | int j=>obtain ⟨t', rfl⟩:=ry; exact eq_int (XL I q UV)
    | str j=>obtain ⟨t', rfl⟩:=ry; exact PySem.EqMixed.eq_int_str (XL I q (by simp))
    | _=>exact absurd (show false = true from hs) Bool.false_ne_true
  | str i=>
    obtain ⟨t, rfl⟩:=rx
    cases y with
    | non=>cases ry; exact PySem.EqNone.eq_str_none (XL I q (by simp))
    | bl j=>cases ry; exact PySem.EqMixed.eq_str_bool (XL I q (by simp))
    | int j=>obtain ⟨t', rfl⟩:=ry; exact PySem.EqMixed.eq_str_int (XL I q (by simp))
    | str j=>obtain ⟨t', rfl⟩:=ry; exact eq_str (XL I q Gf)
    | _=>exact absurd (show false = true from hs) Bool.false_ne_true
  | byt i=>
    obtain ⟨t, rfl⟩:=rx
    cases y with
    | byt j=>obtain ⟨t', rfl⟩:=ry; exact PySem.W.eq_bytes (XL I q Gg)
    | _=>exact absurd (show false = true from hs) Bool.false_ne_true
  | _=>cases y <;> exact absurd (show false = true from hs) Bool.false_ne_true
theorem KG : OpR X (compareOp .NotEq) rNe:=by
  intro pins s σ H x y v u Q I rx ry h
  obtain ⟨hs, q⟩:=h
  cases x with
  | non=>
    cases rx
    cases y with
    | non=>cases ry; exact PySem.EqNone.ne_none_none (XL I q (by simp))
    | bl j=>cases ry; exact PySem.EqNone.ne_none_bool (XL I q (by simp))
    | int j=>obtain ⟨t', rfl⟩:=ry; exact PySem.EqNone.ne_none_int (XL I q (by simp))
    | str j=>obtain ⟨t', rfl⟩:=ry; exact PySem.EqNone.ne_none_str (XL I q (by simp))
    | _=>exact absurd (show false = true from hs) Bool.false_ne_true
  | bl i=>
    cases rx
    cases y with
    | non=>cases ry; exact PySem.EqNone.ne_bool_none (XL I q (by simp))
    | bl j=>cases ry; exact ne_bool (XL I q (congrArg not FD))
    | str j=>obtain ⟨t', rfl⟩:=ry; exact PySem.EqMixed.ne_bool_str (XL I q (by simp))
    | _=>exact absurd (show false = true from hs) Bool.false_ne_true
  | int i=>
    obtain ⟨t, rfl⟩:=rx
    cases y with
    | non=>cases ry; exact PySem.EqNone.ne_int_none (XL I q (by simp))
    | int j=>obtain ⟨t', rfl⟩:=ry; exact ne_int (XL I q (congrArg not UV))
    | str j=>obtain ⟨t', rfl⟩:=ry; exact PySem.EqMixed.ne_int_str (XL I q (by simp))
    | _=>exact absurd (show false = true from hs) Bool.false_ne_true
  | str i=>
    obtain ⟨t, rfl⟩:=rx
    cases y with
    | non=>cases ry; exact PySem.EqNone.ne_str_none (XL I q (by simp))
    | bl j=>cases ry; exact PySem.EqMixed.ne_str_bool (XL I q (by simp))
    | int j=>obtain ⟨t', rfl⟩:=ry; exact PySem.EqMixed.ne_str_int (XL I q (by simp))
    | str j=>obtain ⟨t', rfl⟩:=ry; exact ne_str (XL I q (congrArg not Gf))
    | _=>exact absurd (show false = true from hs) Bool.false_ne_true
  | byt i=>
    obtain ⟨t, rfl⟩:=rx
    cases y with
    | byt j=>obtain ⟨t', rfl⟩:=ry; exact PySem.W.ne_bytes (XL I q (congrArg not Gg))
    | _=>exact absurd (show false = true from hs) Bool.false_ne_true
  | _=>cases y <;> exact absurd (show false = true from hs) Bool.false_ne_true
theorem QE : OpR X (compareOp .Lt) (rI0 fun i j=>.bl (decide (i < j))):=BF fun _ _ _ _ _ _ _ q=>lt_int q
theorem JZ : OpR X (compareOp .Gt) (rI0 fun i j=>.bl (decide (j < i))):=BF fun _ _ _ _ _ _ _ q=>gt_int q
theorem F6 : OpR X (compareOp .GtE) (rI0 fun i j=>.bl (decide (j <= i))):=BF fun _ _ _ _ _ _ _ q=>ge_int q
theorem Ct : OpR X (compareOp .Is) (fun x y H Q=>y = .non /\ Q (.bl (decide (x = .non))) H):=by
  intro pins s σ H x y v u Q I rx ry h
  obtain ⟨rfl, q⟩:=h
  cases ry
  refine is_none_gen (XL I q ?_)
  cases x <;> first
    | (cases rx; rfl)
    | (obtain ⟨t, rfl⟩:=rx; rfl)
theorem Dd : OpR X (compareOp .IsNot) (fun x y H Q=>y = .non /\ Q (.bl (!decide (x = .non))) H):=by
  intro pins s σ H x y v u Q I rx ry h
  obtain ⟨rfl, q⟩:=h
  cases ry
  refine isnot_none_gen (XL I q ?_)
  cases x <;> first
    | (cases rx; rfl)
    | (obtain ⟨t, rfl⟩:=rx; rfl)
theorem OpR.or {f : Value -> Value -> Sem Value} {r r' : R2} (h : OpR X f r) (h' : OpR X f r') : OpR X f (fun x y H Q=>r x y H Q ∨ r' x y H Q):=by
  intro pins s σ H x y v u Q I rx ry q
  rcases q with q | q
  . exact h pins s σ H x y v u Q I rx ry q
  . exact h' pins s σ H x y v u Q I rx ry q
theorem Xr (b : Expr) {op : CmpOp} (h : op ≠ .In:=by decide) (h2 : op ≠ .NotIn:=by decide) : behindInMarks op b = false:=by
  have e1 : (op == CmpOp.In) = false:=by cases op <;> first | rfl | exact absurd rfl h
  have e2 : (op == CmpOp.NotIn) = false:=by cases op <;> first | rfl | exact absurd rfl h2
  cases b <;> simp [behindInMarks, e1, e2]
theorem Jw {op : CmpOp} {r : R2} (ho : OpR X (compareOp op) r) (ha : PE X a ta) (hb : PE X b tb) (hm : behindInMarks op b = false) : PE X (.Compare a [op] [b] pos) (tOp r ta tb):=by
  intro pins s σ H Q I h
  exact wpAny_Compare1 (BM ha hb I h fun v u s2 x y H2 I2 rx ry q=>ho pins s2 σ H2 x y v u Q I2 rx ry q) hm
noncomputable def Bc (t : TE) : TT:=fun σ H Q=>t σ H fun x H'=>∃ k, x = .bl k /\ Q k H'
theorem Xm {op : CmpOp} {r : R2} (ho : OpR X (compareOp op) r) (ha : PE X a ta) (hb : PE X b tb) (hm : behindInMarks op b = false) : PT X (.Compare a [op] [b] pos) (Bc (tOp r ta tb)):=by
  intro pins s σ H Q I h
  refine wpAny_isTrue_Compare1 (thn (ha pins s σ H _ I h) fun v s1 ⟨x, H1, I1, r1, q1⟩=>thn (hb pins s1 σ H1 _ I1 q1) fun u s2 ⟨y, H2, I2, r2, q2⟩=>
    thn (ho pins s2 σ H2 x y v u _ I2 r1 r2 q2) fun c s3 ⟨z, H3, I3, r3, k, e, q3⟩=>?_) hm
  subst e
  cases r3
  exact wpAny_truthy_bool ⟨H3, I3, q3⟩
theorem Ui : (sizeLine : Nat) < 2 ^ 63:=by rw [sizeLine_eq]; decide
theorem FZ {x : V} {us : List Value} (r : XV [x] us) : ∃ u, us = [u] /\ X8 x u:=by
  cases r with
  | cons r1 r2=>cases r2; exact ⟨_, rfl, r1⟩
theorem BU {x y : V} {us : List Value} (r : XV [x, y] us) : ∃ u w', us = [u, w'] /\ X8 x u /\ X8 y w':=by
  cases r with
  | cons r1 r2=>
    cases r2 with
    | cons r3 r4=>cases r4; exact ⟨_, _, rfl, r1, r3⟩
theorem V1 : ZW X (.builtin "abs") (fun xs H Q=>∃ i, xs = [.int i] /\ Q (.int (if i < 0 then -i else i)) H):=by
  intro pins s σ H xs us Q I r h
  obtain ⟨i, rfl, q⟩:=h
  obtain ⟨u, rfl, t, rfl⟩:=FZ r
  exact call_abs_int fun u tk=>⟨.int (if i < 0 then -i else i), H, I.tok _, ⟨_, rfl⟩, q⟩
theorem Gm (hc : X.calm = true) : ZW X (.builtin "max") (fun xs H Q=>∃ i j, xs = [.int i, .int j] /\ Q (.int (if j > i then j else i)) H):=by
  intro pins s σ H xs us Q I r h
  obtain ⟨i, j, rfl, q⟩:=h
  obtain ⟨u, w', rfl, ⟨t, rfl⟩, ⟨t', rfl⟩⟩:=BU r
  refine max_two_ints (I.ok.hd hc) fun h' tk k=>⟨_, H, I.kept k, ?_, q⟩
  by_cases hj : j > i
  . rw [if_pos hj, if_pos hj]; exact ⟨_, rfl⟩
  . rw [if_neg hj, if_neg hj]; exact ⟨_, rfl⟩
end
end L2
namespace L2
open PySem PySem.Spec PyProof.Rows
structure ObjM (h : Heap) (x dx C : Addr) (mA : Str -> Option Value) : Prop where
  obj : h.get? x = some (PySem.W.instObj C dx)
  ns : h.Ns1 dx mA
  ne : dx ≠ x
theorem Kb {h : Heap} {dx : Addr} {mA : Str -> Option Value} (n : h.Ns1 dx mA) : ∃ od, h.get? dx = some od /\ ∀ name, PySem.W.lookIn name od = some (mA name):=by
  obtain ⟨o, es, ep, ho, hd, hk, _, hm⟩:=n
  refine ⟨o, ho, fun name=>?_⟩
  have e:=hm name
  unfold nsFind findBy at e
  rw [← Array.find?_toList] at e
  unfold PySem.W.lookIn
  rw [hd]
  dsimp only
  split
  . rename_i y q
    rw [q] at e
    exact congrArg some e
  . rename_i q
    rw [q] at e
    have a : es.toList.any (·.refKey) = false:=by
      rw [List.any_eq_false]
      intro y hy
      obtain ⟨z, t, hkey⟩:=hk y (Array.mem_toList_iff.mp hy)
      simp [DictEntry.refKey, hkey]
    have a' : ¬ es.toList.any (·.refKey) = true:=by rw [a]; exact Bool.false_ne_true
    rw [if_neg a']
    exact congrArg some e
theorem ObjM.look {h : Heap} {x dx C : Addr} {mA : Str -> Option Value} (I : ObjM h x dx C mA) : ∃ od, PySem.W.InstAt h x (PySem.W.instObj C dx) C (some od) /\ ∀ name, PySem.W.lookIn name od = some (mA name):=
  let ⟨od, ho, hl⟩:=Kb I.ns
  ⟨od, ⟨I.obj, rfl, rfl, ho⟩, hl⟩
section
variable {prog : Program} {w : World} {A : Around} {E : Value -> Shared -> Prop} {s : Shared} {K : PySem.W.Frag} {x dx C f : Addr} {mA : Str -> Option Value} {name : Str} {v : Value}
end
section
variable {P : Program} {w : World} {H H' : Hp} {h h' : Heap} {a C dx : Addr} {fs fs' : List (Str × V)}
theorem Dx (hok : HOk P w H h) (e : H a = some (.ins C dx fs)) : ∃ mA, ObjM h a dx C mA /\ (∀ f, G7 (fs.lookup f) (mA f)) /\ PySem.Within mA (fs.map (·.1)) /\ fs.length <= 1000 /\ H dx = some (.own a):=by
  obtain ⟨d, z, ne, ob, mA, n, r, q⟩:=(show YT P w H h a (.ins C dx fs) from hok a _ e)
  exact ⟨mA, ⟨ob, n, ne⟩, r, q, z, d⟩
end
structure Cls (K : PySem.W.Frag) (C : Addr) : Prop where
  pg : PySem.W.plainGet K C Str.empty = true
  hd : PySem.W.hasDictIn K C = true
  po : PySem.W.plainOver K C = true
  sa : PySem.W.findIn K (.ref C) "__setattr__" = some (some (.builtin "object.__setattr__"))
theorem Cls.get {K : PySem.W.Frag} {C : Addr} (c : Cls K C) (f : Str) : PySem.W.plainGet K C f = true:=c.pg
section
variable {X : Cx} {pins : List (Addr × Obj)} {σ : St} {H : Hp} {s : Shared} {a C dx : Addr} {fs : List (Str × V)} {f : Str} {v : V} {A : Around} {E : Value -> Shared -> Prop}
theorem Inv.made (I : Inv X pins σ H s) : Inv X pins σ (upd (upd H s.heap.objs.size (.own (s.heap.objs.size + 1))) (s.heap.objs.size + 1) (.ins C s.heap.objs.size []))
    { s with heap:=(s.heap.push PySem.W.emptyDict).push (PySem.W.instObj C s.heap.objs.size) }:=by
  have e1 : (s.heap.push PySem.W.emptyDict).get? s.heap.objs.size = some PySem.W.emptyDict:=Heap.get?_push_size s.heap rfl
  have e2 : ((s.heap.push PySem.W.emptyDict).push (PySem.W.instObj C s.heap.objs.size)).get? (s.heap.objs.size + 1) = some (PySem.W.instObj C s.heap.objs.size):=by
    have:=Heap.get?_push_size (s.heap.push PySem.W.emptyDict) (o:=PySem.W.instObj C s.heap.objs.size) rfl
    rwa [Heap.size_push] at this
  have e3 : (s.heap.push PySem.W.emptyDict).Ns s.heap.objs.size (fun _=>none):=⟨PySem.W.emptyDict, #[], _, e1, rfl, (fun e he=>absurd he (by simp)), fun _=>rfl⟩
  have I1:=I.laid (a:=s.heap.objs.size) (o:=.own (s.heap.objs.size + 1)) (h':=s.heap.push PySem.W.emptyDict) (t':=s.toks) (fun b u q=>Heap.get?_push_of_some _ q) (Nat.le_refl _) ⟨_, e1⟩
  refine I1.laid (a:=s.heap.objs.size + 1) (o:=.ins C s.heap.objs.size []) (t':=s.toks) (fun b u q=>Heap.get?_push_of_some _ q) (Nat.le_of_eq (Heap.size_push _ _)) ?_
  have ne : s.heap.objs.size ≠ s.heap.objs.size + 1:=Nat.ne_of_lt (Nat.lt_succ_self _)
  refine ⟨by rw [XM ne, Yn], Nat.zero_le _, ne, e2, fun _=>none, (Heap.Ns1.of_empty e3).at fun o q=>Heap.get?_push_of_some _ q, fun _=>True.intro, fun y hy=>absurd rfl hy⟩
end
section
variable {X : Cx} {o e value : Expr} {f : Str} {pos pos' tpos : Pos} {ta tv : TE}
end
section
variable {X : Cx} {pins : List (Addr × Obj)} {σ : St} {H : Hp} {s : Shared} {A : Around} {E : Value -> Shared -> Prop} {Q : Value -> Shared -> Prop} {c : Value} {b : Bool}
inductive TyOf (K : PySem.W.Frag) (H : Hp) : V -> Value -> Prop where
  | non : TyOf K H .non (.type "NoneType")
  | bl (x : Bool) : TyOf K H (.bl x) (.type "bool")
  | int (i : Int) : TyOf K H (.int i) (.type "int")
  | str (x : Str) : TyOf K H (.str x) (.type "str")
  | flt (x : UInt64) : TyOf K H (.flt x) (.type "float")
  | lst {a : Addr} {xs : List V} (e : H a = some (.lst xs)) : TyOf K H (.ref a) (.type "list")
  | frz {a : Addr} {o : Obj} {xs : List V} (e : H a = some (.frz o (.lst xs))) : TyOf K H (.ref a) (.type "list")
  | tup {a : Addr} {xs : List V} (e : H a = some (.tup xs)) : TyOf K H (.ref a) (.type "tuple")
  | dK {a : Addr} {kvs : List (Key × V)} (e : H a = some (.dK kvs)) : TyOf K H (.ref a) (.type "dict")
  | dT {a : Addr} {kvs : List (List Key × V)} (e : H a = some (.dT kvs)) : TyOf K H (.ref a) (.type "dict")
  | ins {a C dx : Addr} {fs : List (Str × V)} (e : H a = some (.ins C dx fs)) (cl : Cls K C) (ha : PySem.W.findIn K (.ref C) "__class__" = some (some (.builtin "object.__class__")))
      (hn : PySem.W.specialIn K (.builtin "object.__class__") "__get__" = some (some (.builtin "getset_descriptor.__get__"))) (htk : PySem.W.takesIn K (.builtin "object.__class__") = some true)
      (hm : PySem.W.mroIn K C (.type "object") = some true) : TyOf K H (.ref a) (.ref C)
theorem Gc {x : V} {u t : Value} (I : Inv X pins σ H s) (rx : X8 x u) (ty : TyOf X.K H x t) (e : PySem.W.kitOne X.K t c = some b) (h : ∀ tk, Q (.bool b) { s with toks:=tk }) :
    wpAny (model X.prog X.w) A (call (.builtin "isinstance") [u, c]) Q E s:=by
  cases ty with
  | non=>cases (show u = Value.none from rx); exact PySem.W.kia_one PySem.W.kitx_none I.kIn True.intro e (fun z=>nomatch z) h
  | bl y=>cases (show u = Value.bool y from rx); exact PySem.W.kia_one PySem.W.kitx_bool I.kIn True.intro e (fun z=>nomatch z) h
  | int i=>obtain ⟨t, q⟩:=(show ∃ t, u = Value.int i t from rx); cases q; exact PySem.W.kia_one PySem.W.kitx_int I.kIn True.intro e (fun z=>nomatch z) h
  | str y=>obtain ⟨t, q⟩:=(show ∃ t, u = Value.str y t from rx); cases q; exact PySem.W.kia_one PySem.W.kitx_str I.kIn True.intro e (fun z=>nomatch z) h
  | flt y=>obtain ⟨t, q⟩:=(show ∃ t, u = Value.float y t from rx); cases q; exact PySem.W.kia_one PySem.W.kitx_float I.kIn True.intro e (fun z=>nomatch z) h
  | @lst a xs ea=>
    cases (show u = Value.ref a from rx)
    obtain ⟨_, _, n, _, h1⟩:=(show YT X.prog X.w H s.heap a (.lst xs) from I.hok a _ ea)
    exact PySem.W.kia_one PySem.W.kitx_list I.kIn ⟨_, h1, rfl⟩ e (fun z=>nomatch z) h
  | @frz a ob xs ea=>
    cases (show u = Value.ref a from rx)
    obtain ⟨_, _, _, n, _, h1⟩:=(show YT X.prog X.w H s.heap a (.frz ob (.lst xs)) from I.hok a _ ea)
    exact PySem.W.kia_one PySem.W.kitx_list I.kIn ⟨_, h1, rfl⟩ e (fun z=>nomatch z) h
  | @tup a xs ea=>
    cases (show u = Value.ref a from rx)
    obtain ⟨_, _, _, p⟩:=(show YT X.prog X.w H s.heap a (.tup xs) from I.hok a _ ea)
    obtain ⟨o, h1, h2, _⟩:=p
    exact PySem.W.kia_one PySem.W.kitx_tuple I.kIn ⟨o, h1, h2⟩ e (fun z=>nomatch z) h
  | @dK a kvs ea=>
    cases (show u = Value.ref a from rx)
    obtain ⟨_, _, vs, _, p⟩:=(show YT X.prog X.w H s.heap a (.dK kvs) from I.hok a _ ea)
    obtain ⟨o, es, ep, h1, h2, _⟩:=p
    exact PySem.W.kia_one PySem.W.kitx_dict I.kIn ⟨o, h1, h2.1⟩ e (fun z=>nomatch z) h
  | @dT a kvs ea=>
    cases (show u = Value.ref a from rx)
    obtain ⟨_, _, xs, _, o, es, ep, h1, h2, _⟩:=(show YT X.prog X.w H s.heap a (.dT kvs) from I.hok a _ ea)
    exact PySem.W.kia_one PySem.W.kitx_dict I.kIn ⟨o, h1, h2.1⟩ e (fun z=>nomatch z) h
  | @ins a C dx fs ea cl ha hn htk hm=>
    cases (show u = Value.ref a from rx)
    obtain ⟨mA, O, _⟩:=Dx I.hok ea
    obtain ⟨od, J, _⟩:=O.look
    exact PySem.W.kia_one (PySem.W.kitx_own (cl.get _) cl.hd ha hn htk hm) I.kIn J e (fun z=>nomatch z) h
end
end L2
namespace L2
open PySem PySem.Spec PyProof.Rows
structure Room (k : Nat) (A : Around) : Prop where
  hd : A.handled = none
  dp : A.depth + 3 * k + 5 < recursionLimit
  un : A.units + 16 * k + 200 < cLine
theorem Room.mono {j k : Nat} {A : Around} (r : Room k A) (h : j <= k) : Room j A:=⟨r.hd, by have:=r.dp; omega, by have:=r.un; omega⟩
theorem Room.deeper {k : Nat} {A : Around} (r : Room (k + 1) A) (env : Env) : Room k (A.deeper env):=
  ⟨r.hd, by have:=r.dp; show A.depth + 1 + 3 * k + 5 < _; omega, by have:=r.un; show A.units + 3 + 16 * k + 200 < _; omega⟩
theorem Room.in1 {k : Nat} {A : Around} (r : Room (k + 1) A) : Room k A.in1:=
  ⟨r.hd, by have:=r.dp; show A.depth + 3 * k + 5 < _; omega, by have:=r.un; show A.units + 1 + 16 * k + 200 < _; omega⟩
theorem Room.depth {k : Nat} {A : Around} (r : Room k A) : A.depth < recursionLimit:=by have:=r.dp; omega
theorem Room.units {k : Nat} {A : Around} (r : Room k A) : A.units + 64 < cLine:=by have:=r.un; omega
noncomputable def Zn : TA:=fun _ H Q=>Q [] H
noncomputable def Xw (ta : TE) (tr : TA) : TA:=fun σ H Q=>ta σ H fun x H1=>tr σ H1 fun xs H2=>Q (x :: xs) H2
section
variable {X : Cx} {e : Expr} {es : List Expr} {te : TE} {t : TA} {pos : Pos}
theorem Xf : PA X [] Zn:=fun _ _ _ _ H Q I h=>Calls.spliced_nil ⟨[], H, I, .nil, h⟩
theorem Xc (ha : PE X e te) (hr : PA X es t) (hs : starEach (e :: es) X.env = (false, eval e X.env) :: starEach es X.env:=by rfl) : PA X (e :: es) (Xw te t):=by
  intro pos pins s σ H Q I h
  rw [hs]
  show wpAny _ _ (spliced ((false, eval e X.env) :: backTo pos (starEach es X.env))) _ _ s
  refine Calls.spliced_cons (thn (ha pins s σ H _ I h) fun u s1 ⟨x, H1, I1, r1, q1⟩=>?_)
  exact thn (hr pos pins s1 σ H1 _ I1 q1) fun us s2 ⟨xs, H2, I2, r2, q2⟩=>⟨x :: xs, H2, I2, .cons r1 r2, q2⟩
noncomputable def Cm (t : TA) : TE:=fun σ H Q=>t σ H fun xs H1=>xs.length <= sizeLine /\ ∀ p, H1 p = none -> Q (.ref p) (upd H1 p (.tup xs))
noncomputable def GO (t : TA) : TE:=fun σ H Q=>t σ H fun xs H1=>xs.length <= sizeLine /\ ∀ p, H1 p = none -> Q (.ref p) (upd H1 p (.lst xs))
theorem Z3 {x1} (h : PA X es t) : PE X (.Tuple es x1 pos) (Cm t):=by
  intro pins s σ H Q I hq
  refine wpAny_Tuple_spliced (thn (h pos pins s σ H _ I hq) fun us s1 ⟨xs, H1, I1, r, z, q⟩=>⟨by rw [← r.length]; exact z, ?_⟩)
  have hf : H1 s1.heap.objs.size = none:=I1.hok.fresh (Nat.le_refl _)
  refine ⟨.ref s1.heap.objs.size, upd H1 s1.heap.objs.size (.tup xs), I1.laid (t':=s1.toks) (fun b u e=>Heap.get?_push_of_some _ e) (Nat.le_refl _) ?_, rfl, q _ hf⟩
  exact ⟨z, us, r, ⟨_, Heap.get?_push_size _ rfl, rfl, _, rfl⟩⟩
theorem X7 (h : PA X es t) : PE X (.List es pos) (GO t):=by
  intro pins s σ H Q I hq
  refine wpAny_List_spliced (thn (h pos pins s σ H _ I hq) fun us s1 ⟨xs, H1, I1, r, z, q⟩=>⟨by rw [← r.length]; exact z, ?_⟩)
  have hf : H1 s1.heap.objs.size = none:=I1.hok.fresh (Nat.le_refl _)
  refine ⟨.ref s1.heap.objs.size, upd H1 s1.heap.objs.size (.lst xs), I1.laid (t':=s1.toks) (fun b u e=>Heap.get?_push_of_some _ e) (Nat.le_refl _) ?_, rfl, q _ hf⟩
  exact ⟨z, us, 0, r, Heap.get?_push_size _ rfl⟩
end
noncomputable abbrev Sp:=List V -> Hp -> VK -> XK -> Prop
noncomputable abbrev CXT:=List Env -> Hp -> Shared -> XK -> Value -> Shared -> Prop
structure Env0 (P : Program) (w : World) (K : PySem.W.Frag) (mg : Str -> Option Value) (base : Heap) (A : Around) (outer : List Env) (s : Shared) (H : Hp) : Prop where
  frames : A.frames = some outer
  mod : Mod K mg base
  bs : ∀ b o, base.get? b = some o -> s.heap.get? b = some o /\ H b = none
  bsz : base.objs.size <= s.heap.objs.size
  funs : s.heap.FunFrames base outer
  frf : ∀ b ∈ frs outer, H b = none
  hok : HOk P w H s.heap
  bare : AllBare s.gens
noncomputable def CE (outer : List Env) (P : Program) (w : World) (H : Hp) (s : Shared) (Q : VK) (u : Value) (s' : Shared) : Prop:=
  ∃ v H', s'.os = s.os /\ AllBare s'.gens /\ Un (frs outer) [] H H' s.heap s'.heap /\ HOk P w H' s'.heap /\ X8 v u /\ Q v H'
noncomputable def CR (CX : CXT) (outer : List Env) (P : Program) (w : World) (H : Hp) (s : Shared) (Q : VK) (E : XK) (r : Result) (s' : Shared) : Prop:=
  match r with
  | .ok (.ret u)=>CE outer P w H s Q u s'
  | .ok _=>False
  | .error e=>CX outer H s E e s'
structure FnOk (P : Program) (w : World) (K : PySem.W.Frag) (mg : Str -> Option Value) (base : Heap) (CX : CXT) (k : Nat) (f : Addr) (fd : FuncData) (ps : List Str) (sp : Sp) : Prop where
  len : ∀ vs H Q E, sp vs H Q E -> vs.length = ps.length
  run : ∀ (A : Around) (outer : List Env) (s : Shared) (H : Hp) (args : Args) (us : List Value) (vs : List V) (Q : VK) (E : XK), Room k A -> Env0 P w K mg base A outer s H -> BindsTo s fd args (ps.zip us) -> XV vs us -> sp vs H Q E ->
    codeAny (model P w) A (.call (.ref f) args) (CR CX outer P w H s Q E) s
theorem FnOk.mono {P : Program} {w : World} {K : PySem.W.Frag} {mg : Str -> Option Value} {base : Heap} {CX : CXT} {j k : Nat} {f : Addr} {fd : FuncData} {ps : List Str} {sp : Sp} (F : FnOk P w K mg base CX j f fd ps sp) (h : j <= k) :
    FnOk P w K mg base CX k f fd ps sp:=⟨F.len, fun A outer s H args us vs Q E hr=>F.run A outer s H args us vs Q E (hr.mono h)⟩
theorem FnOk.imp {P : Program} {w : World} {K : PySem.W.Frag} {mg : Str -> Option Value} {base : Heap} {CX : CXT} {k : Nat} {f : Addr} {fd : FuncData} {ps : List Str} {sp sp' : Sp} (F : FnOk P w K mg base CX k f fd ps sp)
    (h : ∀ vs H Q E, sp' vs H Q E -> sp vs H Q E) : FnOk P w K mg base CX k f fd ps sp':=
  ⟨fun vs H Q E q=>F.len vs H Q E (h _ _ _ _ q), fun A outer s H args us vs Q E hr he hb hv hs=>F.run A outer s H args us vs Q E hr he hb hv (h _ _ _ _ hs)⟩
theorem Env0.in1 {P : Program} {w : World} {K : PySem.W.Frag} {mg : Str -> Option Value} {base : Heap} {A : Around} {outer : List Env} {s : Shared} {H : Hp} (e : Env0 P w K mg base A outer s H) :
    Env0 P w K mg base A.in1 outer s H:=⟨e.frames, e.mod, e.bs, e.bsz, e.funs, e.frf, e.hok, e.bare⟩
section
variable {X : Cx} {pins : List (Addr × Obj)} {σ : St} {H : Hp} {s s' : Shared}
theorem Inv.env0 (I : Inv X pins σ H s) : Env0 X.prog X.w X.K X.mg X.base X.A X.stack s H:=
  ⟨I.ok.frames, I.ok.mod, I.bs, Nat.le_trans I.ok.bsz I.sz, I.stack, I.stkFree, I.hok, I.bare⟩
theorem Inv.after {Q : VK} {u : Value} (I : Inv X pins σ H s) (h : CE X.stack X.prog X.w H s Q u s') : EP X pins σ Q u s':=by
  obtain ⟨v, H', os, bare, un, hok, r, q⟩:=h
  obtain ⟨hh, g, d, t, os'⟩:=s'
  obtain rfl : os' = s.os:=os
  exact ⟨v, H', I.call (h':=hh) (g':=g) (d':=d) (t':=t) (ch:=[]) un hok bare (fun b z=>absurd z (by simp)), r, q⟩
end
noncomputable def UA (sp : Sp) (dvs : List V) (E : XK) (t : TA) : TE:=fun σ H Q=>t σ H fun vs H1=>sp (vs ++ dvs) H1 Q E
noncomputable def Vn (K : PySem.W.Frag) (fd : FuncData) (ps : List Str) (ds : List Value) : Prop:=
  ∀ (s : Shared) (us : List Value), K.In s.heap -> (us ++ ds).length = ps.length -> BindsTo s fd ⟨us, []⟩ (ps.zip (us ++ ds))
theorem Vn.all {K : PySem.W.Frag} {fd : FuncData} {ps : List Str} (h : ∀ us : List Value, us.length = ps.length -> bindArgs fd ⟨us, []⟩ = pure (ps.zip us)) : Vn K fd ps []:=fun s us _ hl=>by
  rw [List.append_nil] at hl ⊢
  exact .of_eq (h us hl)
noncomputable def Gq (CX : CXT) (X : Cx) (E : XK) : Prop:=∀ (pins : List (Addr × Obj)) (σ : St) (H : Hp) (s : Shared) (e : Value) (s' : Shared), Inv X pins σ H s -> CX X.stack H s E e s' -> X.xe e s'
section
variable {X : Cx} {CX : CXT} {k : Nat} {f C : Addr} {fd : FuncData} {ps : List Str} {sp : Sp} {dvs : List V} {ds : List Value} {E : XK} {x m : Str} {p pos apos : Pos} {e o : Expr} {es : List Expr} {ta : TE} {t : TA}
theorem Bf {pins : List (Addr × Obj)} {σ : St} {H : Hp} {s : Shared} {Q : VK} {us : List Value} {vs : List V} (F : FnOk X.prog X.w X.K X.mg X.base CX k f fd ps sp) (hr : Room k X.A) (hb : Vn X.K fd ps ds) (hd : XV dvs ds) (hx : Gq CX X E)
    (I : Inv X pins σ H s) (r : XV vs us) (h : sp (vs ++ dvs) H Q E) : wpAny (model X.prog X.w) X.A (call (.ref f) us) (EP X pins σ Q) X.xe s:=by
  have r2 : XV (vs ++ dvs) (us ++ ds):=r.append hd
  have hl : (us ++ ds).length = ps.length:=by rw [← r2.length]; exact F.len _ _ _ _ h
  refine wpAny_call (codeAny_mono (F.run X.A X.stack s H ⟨us, []⟩ (us ++ ds) (vs ++ dvs) Q E hr I.env0 (hb s us I.kIn hl) r2 h) fun r s' hq=>?_)
  cases r with
  | error e=>exact hx pins σ H s e s' I hq
  | ok fl=>
    cases fl with
    | ret u=>exact I.after hq
    | next=>exact False.elim hq
    | brk=>exact False.elim hq
    | cont=>exact False.elim hq
theorem F7 (F : FnOk X.prog X.w X.K X.mg X.base CX k f fd ps sp) (hr : Room k X.A) (hg : Gl X x) (hm : X.mg x = some (.ref f)) (hk : PySem.W.keepIn X.K (.ref f) = true) (hb : Vn X.K fd ps ds) (hd : XV dvs ds) (hx : Gq CX X E)
    (ha : PA X (e :: es) t) (hdb : (x == ("__debug__" : Str)) = false:=by decide) (he : starEach (e :: es) X.env = (false, eval e X.env) :: starEach es X.env:=by rfl) (hpl : (backTo pos (starEach es X.env)).any (·.1) = false:=by rfl) :
    PE X (.Call (.Name x p) (e :: es) [] pos) (UA sp dvs E t):=by
  intro pins s σ H Q I h
  refine wpAny_Call_Name_kw (KS I hg hm ?_ hdb)
  refine PySem.W.callWith_K (h₀:=X.base) I.ok.mod.kin hk (thn (ha pos pins s σ H _ I h) fun us s1 ⟨vs, H1, I1, r, q⟩=>⟨I1.kIn, ?_⟩) he hpl
  exact Bf F hr hb hd hx I1 r q
end
section
variable {X : Cx} {CX : CXT} {k : Nat} {f C : Addr} {fd : FuncData} {ps ks : List Str} {sp : Sp} {E : XK} {x m : Str} {p pos apos kpos : Pos} {e o : Expr} {es : List Expr} {kws : List Keyword} {te ta : TE} {t tk : TA} {nm : Option Str}
variable {g : List Value -> List Value -> List Value} {gV : List V -> List V -> List V}
end
structure FnScope (N P : List Str) (sc : Scope) : Prop where
  kind : sc.kind = .function
  co : sc.isCoroutine = false
  gen : sc.isGenerator = false
  nd : N.Nodup
  pre : N.take P.length = P
  par : ∀ x ∈ P, sc.names.lookup x = some .local ∨ sc.names.lookup x = some .cell
  nofree : ∀ y ∈ sc.names, y.2 ≠ .free
theorem JD {kindOf : Str -> Option NameKind} {x : Str} : ∀ {binds : List (Str × Value)} {m : Str -> Option Value}, (∀ v, (x, v) ∉ binds) -> bindL kindOf binds m x = m x
  | [], _, _=>rfl
  | (n, v) :: r, m, h=>by
    unfold bindL
    rw [JD fun w hw=>h w (List.mem_cons_of_mem _ hw)]
    split
    . have : x ≠ n := by rintro rfl; exact h v List.mem_cons_self
      simp [this]
    . rfl
theorem JK {kindOf : Str -> Option NameKind} {x : Str} : ∀ {binds : List (Str × Value)} {m : Str -> Option Value}, (∀ v, (x, v) ∉ binds) -> bindC kindOf binds m x = m x
  | [], _, _=>rfl
  | (n, v) :: r, m, h=>by
    unfold bindC
    rw [JK fun w hw=>h w (List.mem_cons_of_mem _ hw)]
    split
    . rfl
    . have : x ≠ n := by rintro rfl; exact h v List.mem_cons_self
      simp [this]
theorem J4 {kindOf : Str -> Option NameKind} {x : Str} {v : Value} : ∀ {P : List Str} {vs : List Value} {i : Nat} {m : Str -> Option Value}, P.Nodup -> P[i]? = some x -> vs[i]? = some v -> kindOf x = some .local ->
    bindL kindOf (P.zip vs) m x = some v
  | [], _, _, _, _, h, _, _=>by simp at h
  | _ :: _, [], _, _, _, _, h, _=>by simp at h
  | p :: P, w :: vs, 0, m, nd, h1, h2, hk=>by
    simp at h1 h2; subst h1; subst h2
    show bindL kindOf ((p, w) :: P.zip vs) m p = _
    unfold bindL
    rw [JD fun v hv=>(List.nodup_cons.mp nd).1 (List.of_mem_zip hv).1, if_pos hk]
    simp
  | p :: P, w :: vs, i + 1, m, nd, h1, h2, hk=>by
    show bindL kindOf ((p, w) :: P.zip vs) m x = _
    unfold bindL
    exact J4 (i:=i) (List.nodup_cons.mp nd).2 (by simpa using h1) (by simpa using h2) hk
theorem JO {kindOf : Str -> Option NameKind} {x : Str} {v : Value} : ∀ {P : List Str} {vs : List Value} {i : Nat} {m : Str -> Option Value}, P.Nodup -> P[i]? = some x -> vs[i]? = some v -> kindOf x ≠ some .local ->
    bindC kindOf (P.zip vs) m x = some v
  | [], _, _, _, _, h, _, _=>by simp at h
  | _ :: _, [], _, _, _, _, h, _=>by simp at h
  | p :: P, w :: vs, 0, m, nd, h1, h2, hk=>by
    simp at h1 h2; subst h1; subst h2
    show bindC kindOf ((p, w) :: P.zip vs) m p = _
    unfold bindC
    rw [JK fun v hv=>(List.nodup_cons.mp nd).1 (List.of_mem_zip hv).1, if_neg hk]
    simp
  | p :: P, w :: vs, i + 1, m, nd, h1, h2, hk=>by
    show bindC kindOf ((p, w) :: P.zip vs) m x = _
    unfold bindC
    exact JO (i:=i) (List.nodup_cons.mp nd).2 (by simpa using h1) (by simpa using h2) hk
noncomputable def Ju (N : List Str) (vs : List V) : St:=vs.map some ++ List.replicate (N.length - vs.length) none
noncomputable def De (CX : CXT) (P : Program) (w : World) (K : PySem.W.Frag) (mg : Str -> Option Value) (base : Heap) (N : List Str) (qual : Str) (scope : Scope) (f : Addr) (cd : Value) (A : Around) (outer : List Env) (s : Shared) (H : Hp) (E : XK) : Cx where
  prog:=P
  w:=w
  K:=K
  mg:=mg
  base:=base
  A:=A.deeper (envOfC qual scope s.heap.objs.size f cd)
  N:=N
  s₀:=s
  H₀:=H
  env:=envOfC qual scope s.heap.objs.size f cd
  outer:=outer
  stack:=envOfC qual scope s.heap.objs.size f cd :: outer
  ex:=[]
  calm:=true
  fn:=fun _=>true
  pn:=[]
  xe:=fun e s'=>wpAny (model P w) (A.deeper (envOfC qual scope s.heap.objs.size f cd)) (leaving (envOfC qual scope s.heap.objs.size f cd) e) (fun _ s''=>CX outer H s E e s'') (fun e' s''=>CX outer H s E e' s'') s'
theorem V7 {sc : Scope} {n : Nat} {x : Str} (h : sc.names.lookup x = some .cell) : ∃ c, (cellsFrom n sc.names []).lookup x = some c:=by
  have q:=PySem.W.cellsFrom_some sc.names n [] (.inl h)
  exact Option.isSome_iff_exists.mp q
theorem UZ {CX : CXT} {P : Program} {w : World} {K : PySem.W.Frag} {mg : Str -> Option Value} {base : Heap} {N ps : List Str} {qual : Str} {scope : Scope} {f : Addr} {cd : Value} {A : Around} {outer : List Env} {s s1 : Shared} {H : Hp} {E : XK} {us : List Value} {vs : List V}
    (S : FnScope N ps scope) (hd : A.handled = none) (e0 : Env0 P w K mg base A outer s H) (hl : vs.length = ps.length) (r : XV vs us)
    (x : InCallC s s.heap.objs.size (bindL (envOfC qual scope s.heap.objs.size f cd).kindOf (ps.zip us) fun _=>none) (cellsFrom (s.heap.objs.size + 1) scope.names []) (bindC (envOfC qual scope s.heap.objs.size f cd).kindOf (ps.zip us) fun _=>none) s1) :
    Inv (De CX P w K mg base N qual scope f cd A outer s H E) [] (Ju N vs) H s1:=by
  have hpl : ps.length <= N.length:=by have:=congrArg List.length S.pre; rw [List.length_take] at this; omega
  obtain ⟨h1, tk, rfl, hk⟩:=x.done
  have noA : ∀ b : Addr, b ∉ (De CX P w K mg base N qual scope f cd A outer s H E).ex:=fun b z=>absurd (show b ∈ ([] : List Addr) from z) (by simp)
  refine ⟨⟨e0.mod, S.kind, rfl, rfl, Nat.le_refl _, fun y z c h1 h2=>?_, fun y hy=>?_, fun y c _ h=>?_, fun _=>hd, Around.frames_deeper e0.frames, .inr ⟨rfl, rfl⟩, fun b z=>absurd z (noA b), e0.bs, e0.bsz, fun b _ _=>noA b, fun b z=>absurd z (noA b), e0.funs, e0.frf⟩,
    rfl, e0.bare, Un.kept hk, ⟨_, x.toInCall.ns, fun i y v h1 h2 h3=>?_⟩, fun y c h=>⟨_, x.cell y c h⟩, e0.hok.fresh (Nat.le_refl _), fun y c h=>?_, fun p hp=>absurd (show p ∈ ([] : List (Addr × Obj)) from hp) (by simp), e0.hok.kept hk, ?_⟩
  . exact name_of_addr x.apart (PySem.mem_of_lookup h1) (PySem.mem_of_lookup h2)
  . have hy : scope.names.lookup y = some .cell ∨ scope.names.lookup y = some .free := hy
    rcases hy with hy | hy
    . exact V7 hy
    . exact absurd rfl (S.nofree _ (PySem.mem_of_lookup hy))
  . exact Nat.le_of_lt (x.above y c (PySem.mem_of_lookup h))
  . have hi : i < vs.length:=by
      unfold Ju at h2
      by_cases hi : i < vs.length
      . exact hi
      . rw [List.getElem?_append_right (by simpa using hi)] at h2
        rw [List.getElem?_replicate] at h2
        split at h2 <;> cases h2
    have ha : vs[i]? = some v:=by
      unfold Ju at h2
      rw [List.getElem?_append_left (by simpa using hi), List.getElem?_map] at h2
      cases e : vs[i]? with
      | none=>rw [e] at h2; cases h2
      | some a=>rw [e] at h2; cases h2; rfl
    obtain ⟨u, hu, rv⟩:=r.get ha
    have hp : ps[i]? = some y:=by
      rw [← S.pre, List.getElem?_take_of_lt (by omega)]; exact h1
    have ndP : ps.Nodup:=by rw [← S.pre]; exact S.nd.sublist (List.take_sublist _ _)
    refine ⟨u, rv, ?_⟩
    rcases S.par y (List.mem_of_getElem? hp) with k | k
    . exact .inl ⟨k, J4 ndP hp hu k⟩
    . obtain ⟨c, e⟩ := V7 (n := s.heap.objs.size + 1) k
      refine .inr ⟨.inl k, c, e, ?_⟩
      have q:=x.cell y c e
      rw [JO ndP hp hu (by show scope.names.lookup y ≠ _; rw [k]; decide)] at q
      exact q
  . exact e0.hok.fresh (Nat.le_of_lt (x.above y c (PySem.mem_of_lookup h)))
  . unfold Ju
    show _ = N.length
    rw [List.length_append, List.length_map, List.length_replicate]
    omega
theorem BJ {CX : CXT} {P : Program} {w : World} {K : PySem.W.Frag} {mg : Str -> Option Value} {base : Heap} {k : Nat} {f : Addr} {name qual : Str} {params : Arguments} {body : List Stmt} {scope : Scope} {dV kV doc pm cdv ct oc : Value} {an od : Option Addr}
    {osl : Array (Option Value)} {N ps : List Str} {sp : Sp} (lk : K.lookup f = some ⟨oc, od, .func (PySem.W.fnOf name qual params body scope dV kV doc pm an cdv ct), osl⟩) (hcd : PySem.W.codeIn K cdv qual = true) (S : FnScope N ps scope)
    (len : ∀ vs H Q E, sp vs H Q E -> vs.length = ps.length)
    (hbody : ∀ (A : Around) (outer : List Env) (s : Shared) (H : Hp) (vs : List V) (Q : VK) (E : XK), Room k (A.deeper (envOfC qual scope s.heap.objs.size f cdv)) -> sp vs H Q E ->
      ∃ t, PSs (De CX P w K mg base N qual scope f cdv A outer s H E) body t /\ t { nx:=fun _ H'=>Q .non H', rt:=Q } (Ju N vs) H) :
    FnOk P w K mg base CX (k + 1) f (PySem.W.fnOf name qual params body scope dV kV doc pm an cdv ct) ps sp:=by
  refine ⟨len, fun A outer s H args us vs Q E hr e0 hb r hsp=>?_⟩
  have hl:=len _ _ _ _ hsp
  have KX : K.In s.heap:=e0.mod.kin.keeps fun b o e=>(e0.bs b o e).1
  have lim : s.heap.NoLimit:=e0.mod.nolimit.keeps fun b o e=>(e0.bs b o e).1
  have hkind : ∀ y ∈ ps.zip us, scope.names.lookup y.1 = some .local ∨ (scope.names.lookup y.1 = some .cell /\ ((cellsFrom (s.heap.objs.size + 1) scope.names []).lookup y.1).isSome = true):=fun ⟨n, v⟩ hy=>by
    rcases S.par n (List.of_mem_zip hy).1 with q | q
    . exact .inl q
    . exact .inr ⟨q, PySem.W.cellsFrom_some _ _ _ (.inl q)⟩
  refine codeAny_call_function hr.depth (KX _ _ lk) rfl S.co S.gen rfl (PySem.W.codeRec_of KX hcd) (hb _ _ _ _ ?_)
  refine wpAny_newFunctionEnv_cells S.kind hkind fun env he s1 x=>?_
  subst he
  refine ⟨lim.keeps x.toInCall.keep, codeAny_func ?_⟩
  obtain ⟨t, ht, hq⟩:=hbody A outer s H vs Q E (hr.deeper _) hsp
  have I : Inv (De CX P w K mg base N qual scope f cdv A outer s H E) [] (Ju N vs) H s1:=UZ S hr.hd e0 hl r x
  refine wpAny_mono (ht [] s1 (Ju N vs) H _ I hq) (fun fl s' hs=>?_) fun e s' hs=>hs
  have fin : ∀ {σ' : St} {H' : Hp} {v : V} {u : Value}, Inv (De CX P w K mg base N qual scope f cdv A outer s H E) [] σ' H' s' -> X8 v u -> Q v H' -> CE outer P w H s Q u s':=
    fun {σ' H' v u} J rv q=>⟨v, H', J.os, J.bare, J.base, J.hok, rv, q⟩
  cases fl with
  | ret u=>
    obtain ⟨v, σ', H', J, rv, q⟩:=hs
    exact fin J rv q
  | next=>
    obtain ⟨σ', H', J, q⟩:=hs
    exact fin (v:=V.non) (u:=Value.none) J rfl q
  | brk=>
    obtain ⟨_, _, _, q⟩:=hs
    exact False.elim q
  | cont=>
    obtain ⟨_, _, _, q⟩:=hs
    exact False.elim q
end L2
namespace L2
open PySem PySem.Spec PyProof.Rows
section
variable {X : Cx} {x : Str} {p pos : Pos} {e : Expr} {es : List Expr} {t : TA} {id T : String} {r : List V -> Hp -> VK -> Prop}
noncomputable def tCB (r : List V -> Hp -> VK -> Prop) (t : TA) : TE:=fun σ H Q=>t σ H fun vs H1=>r vs H1 Q
theorem Xq (hc : ZW X (.builtin id) r) (hg : Gl X x) (hm : X.mg x = none) (hv : bootBuiltins x = some (.builtin id)) (ha : PA X (e :: es) t) (hn : x ≠ "__name__":=by decide) (hdb : (x == ("__debug__" : Str)) = false:=by decide)
    (he : starEach (e :: es) X.env = (false, eval e X.env) :: starEach es X.env:=by rfl) (hpl : (backTo pos (starEach es X.env)).any (·.1) = false:=by rfl) : PE X (.Call (.Name x p) (e :: es) [] pos) (tCB r t):=by
  intro pins s σ H Q I h
  refine wpAny_Call_Name_kw (Qr I hg hm hv ?_ hn hdb)
  exact PyProof.Rows.callWith_builtin1 (thn (ha pos pins s σ H _ I h) fun us s1 ⟨vs, H1, I1, r1, q1⟩=>hc pins s1 σ H1 vs us Q I1 r1 q1) he hpl
theorem QH (hc : ZW X (.type T) r) (hg : Gl X x) (hm : X.mg x = none) (hv : bootBuiltins x = some (.type T)) (ha : PA X (e :: es) t) (hn : x ≠ "__name__":=by decide) (hdb : (x == ("__debug__" : Str)) = false:=by decide)
    (he : starEach (e :: es) X.env = (false, eval e X.env) :: starEach es X.env:=by rfl) (hpl : (backTo pos (starEach es X.env)).any (·.1) = false:=by rfl) : PE X (.Call (.Name x p) (e :: es) [] pos) (tCB r t):=by
  intro pins s σ H Q I h
  refine wpAny_Call_Name_kw (Qr I hg hm hv ?_ hn hdb)
  exact PyProof.Rows.callWith_type1 (thn (ha pos pins s σ H _ I h) fun us s1 ⟨vs, H1, I1, r1, q1⟩=>hc pins s1 σ H1 vs us Q I1 r1 q1) he hpl
end
end L2
namespace HT
open PySem PyProof.Rows
section
open PySem.SeqAt
open PySem.AutoSeq1 (wpAny_loadPart')
open PySem.MeetsSeq PySem.MeetsSeq2 PySem.MeetsSeq3
end
section
variable {prog : Program} {w : World} {A : Around} {E : Value -> Shared -> Prop} {s : Shared}
theorem cat_tup {t b : Addr} {vs ws : List Value} {Q : Value -> Shared -> Prop} (ht : IsTup s.heap t vs.toArray) (hb : IsTup s.heap b ws.toArray) (hv : vs ≠ [])
    (h1 : ws = [] -> Q (.ref t) s) (h2 : ws ≠ [] -> Q (.ref s.heap.objs.size) { s with heap:=s.heap.push { cls:=.type "tuple", data:=.seq (vs ++ ws).toArray } })
    (hsz : vs.length + ws.length <= sizeLine) : wpAny (model prog w) A (binaryOp .Add (.ref t) (.ref b)) Q E s:=by
  obtain ⟨⟨cls, dd, data, sl⟩, ho, hc, n, hd⟩:=id ht
  obtain ⟨⟨cls2, dd2, data2, sl2⟩, ho2, hc2, n2, hd2⟩:=id hb
  simp only at hc hd hc2 hd2
  subst hc hd hc2 hd2
  have e : vs.toArray ++ ws.toArray = (vs ++ ws).toArray:=by simp
  by_cases hw : ws = []
  . exact concat_meets ⟨_, ho, rfl⟩ ⟨_, ho2, rfl⟩ noFill_tuple_add seq_tuple_add PySem.F.slot_tuple_add PySem.F.entry_tuple_add (PySem.F.args_tuple_add_2 _ _)
      (tuple_addW1 t b vs.toArray ws.toArray n n2 dd dd2 sl sl2 (by simpa using hv) (by simp [hw])) ⟨ho, ho2, h1 hw⟩
  . refine concat_meets ⟨_, ho, rfl⟩ ⟨_, ho2, rfl⟩ noFill_tuple_add seq_tuple_add PySem.F.slot_tuple_add PySem.F.entry_tuple_add (PySem.F.args_tuple_add_2 _ _)
      (tuple_addW2 t b vs.toArray ws.toArray n n2 dd dd2 sl sl2 (by simpa using hv) (by simpa using hw) (by rw [List.size_toArray, List.size_toArray]; exact hsz)) ⟨ho, ho2, ?_⟩
    rw [e]
    exact h2 hw
noncomputable def sIx (n d : Nat) : Option Int -> Nat
  | none=>d
  | some v=>if v < 0 then (v + (n : Int)).toNat else min v.toNat n
theorem sIx_none (n d : Nat) : sIx n d none = d:=rfl
theorem sIx_nat (n d k : Nat) : sIx n d (some (k : Int)) = min k n:=by
  show (if (k : Int) < 0 then ((k : Int) + (n : Int)).toNat else min (k : Int).toNat n) = min k n
  rw [if_neg (by omega), Int.toNat_natCast]
end
end HT
namespace L2
open PySem PySem.Spec PyProof.Rows
noncomputable abbrev TO:=St -> Hp -> (Option Int -> Hp -> Prop) -> Prop
noncomputable def PO (X : Cx) (e : Option Expr) (t : TO) : Prop:=
  ∀ (pins : List (Addr × Obj)) (s : Shared) (σ : St) (H : Hp) (Q : Option Int -> Hp -> Prop), Inv X pins σ H s -> t σ H Q ->
    wpAny (model X.prog X.w) X.A (evalPart e X.env) (fun u s'=>∃ o H', Inv X pins σ H' s' /\ IsPart u o /\ Q o H') X.xe s
noncomputable def Ke : TO:=fun _ H Q=>Q none H
noncomputable def CJ (t : TE) : TO:=fun σ H Q=>t σ H fun x H1=>∃ i, x = .int i /\ Q (some i) H1
section
variable {X : Cx} {e : Expr} {te : TE} {lo hi : Option Expr} {tl th : TO} {pos p2 : Pos}
theorem VJ : PO X none Ke:=by
  intro pins s σ H Q I h
  rw [evalPart_none]
  exact wpAny_pure ⟨none, H, I, .none, h⟩
theorem Vl (h : PE X e te) : PO X (some e) (CJ te):=by
  intro pins s σ H Q I hw
  rw [evalPart_some]
  refine thn (h pins s σ H _ I hw) fun u s1 ⟨x, H1, I1, r1, q1⟩=>?_
  obtain ⟨i, rfl, q⟩:=q1
  obtain ⟨t, rfl⟩:=r1
  exact ⟨some i, H1, I1, .int i t, q⟩
noncomputable def SlR (X : Cx) (r : V -> Option Int -> Option Int -> Hp -> VK -> Prop) : Prop:=
  ∀ (pins : List (Addr × Obj)) (s : Shared) (σ : St) (H : Hp) (x : V) (v vl vu : Value) (lo hi : Option Int) (sl : Addr) (Q : VK), Inv X pins σ H s -> X8 x v -> s.heap.IsSliceOf sl vl vu .none -> IsPart vl lo -> IsPart vu hi -> r x lo hi H Q ->
    ∃ T id, typeLookup (.type T) "__getitem__" = pure (some (.builtin id)) /\ s.TypeIs v T /\ wpAny (model X.prog X.w) X.A (getItem v (.ref sl)) (EP X pins σ Q) X.xe s
theorem SlR.or {r r' : V -> Option Int -> Option Int -> Hp -> VK -> Prop} (h : SlR X r) (h' : SlR X r') : SlR X (fun x lo hi H Q=>r x lo hi H Q ∨ r' x lo hi H Q):=by
  intro pins s σ H x v vl vu lo hi sl Q I rx hs pl pu q
  rcases q with q | q
  . exact h pins s σ H x v vl vu lo hi sl Q I rx hs pl pu q
  . exact h' pins s σ H x v vl vu lo hi sl Q I rx hs pl pu q
noncomputable def tSl (r : V -> Option Int -> Option Int -> Hp -> VK -> Prop) (te : TE) (tl th : TO) : TE:=fun σ H Q=>te σ H fun x H1=>tl σ H1 fun l H2=>th σ H2 fun u H3=>r x l u H3 Q
theorem Je {r : V -> Option Int -> Option Int -> Hp -> VK -> Prop} (hr : SlR X r) (he : PE X e te) (hl : PO X lo tl) (hu : PO X hi th) : PE X (.Subscript e (.Slice lo hi none p2) pos) (tSl r te tl th):=by
  intro pins s σ H Q I h
  refine Subscript_ (thn (he pins s σ H _ I h) fun v s1 ⟨x, H1, I1, r1, q1⟩=>?_)
  refine wpAny_Slice (thn (hl pins s1 σ H1 _ I1 q1) fun vl s2 ⟨l, H2, I2, pl, q2⟩=>thn (hu pins s2 σ H2 _ I2 q2) fun vu s3 ⟨u, H3, I3, pu, q3⟩=>?_)
  rw [evalPart_none]
  refine wpAny_pure ?_
  have I4 : Inv X pins σ H3 { s3 with heap:=s3.heap.push { cls:=.type "slice", data:=.fields #[vl, vu, .none] } }:=I3.kept (t':=s3.toks) fun b ob q=>Heap.get?_push_of_some _ q
  obtain ⟨T, id, hT, ht, hg⟩:=hr pins { s3 with heap:=s3.heap.push { cls:=.type "slice", data:=.fields #[vl, vu, .none] } } σ H3 x v vl vu l u s3.heap.objs.size Q I4 r1 (Heap.IsSliceOf.new ..) pl pu q3
  show wpAny (model X.prog X.w) X.A (subscriptTail e (.Slice lo hi none p2) v (.ref s3.heap.objs.size)) (EP X pins σ Q) X.xe { s3 with heap:=s3.heap.push { cls:=.type "slice", data:=.fields #[vl, vu, .none] } }
  exact tail_any (ops:=[.ref s3.heap.objs.size, v]) ht hT hg (by with_unfolding_all rfl)
noncomputable def Cj (xs : List V) (lo hi : Option Int) : List V:=(xs.drop (HT.sIx xs.length 0 lo)).take (HT.sIx xs.length xs.length hi - HT.sIx xs.length 0 lo)
theorem VL (xs : List V) (lo hi : Option Int) : (Cj xs lo hi).length <= xs.length:=by
  unfold Cj
  rw [List.length_take, List.length_drop]
  omega
noncomputable def BP (K : PySem.W.Frag) : R2:=fun x y H Q=>∃ a b xs ys, x = .ref a /\ y = .ref b /\ SqT K H a xs /\ SqT K H b ys /\ xs ≠ [] /\ xs.length + ys.length <= sizeLine /\
  (ys = [] -> Q (.ref a) H) /\ (ys ≠ [] -> ∀ p, H p = none -> Q (.ref p) (upd H p (.tup (xs ++ ys))))
theorem XV.nil_iff {xs : List V} {us : List Value} (r : XV xs us) : us = [] ↔ xs = []:=by
  cases r with
  | nil=>simp
  | cons _ _=>simp
theorem Dg : OpR X (binaryOp .Add) (BP X.K):=by
  intro pins s σ H x y v u Q I rx ry h
  obtain ⟨a, b, xs, ys, rfl, rfl, ha, hb, hx, hz, q1, q2⟩:=h
  cases rx
  cases ry
  obtain ⟨its, r1, p1, _⟩:=I.tuple ha
  obtain ⟨its2, r2, p2, _⟩:=I.tuple hb
  refine HT.cat_tup p1 p2 (fun z=>hx (r1.nil_iff.mp z)) (fun z=>⟨.ref a, H, I, rfl, q1 (r2.nil_iff.mp z)⟩) (fun z=>?_) (by rw [← r1.length, ← r2.length]; exact hz)
  refine ⟨.ref s.heap.objs.size, _, I.laid (t':=s.toks) (o:=.tup (xs ++ ys)) (fun b ob q=>Heap.get?_push_of_some _ q) (Nat.le_refl _) ?_, rfl, q2 (fun w=>z (r2.nil_iff.mpr w)) _ (I.hok.fresh (Nat.le_refl _))⟩
  exact ⟨by rw [List.length_append]; exact hz, _, r1.append r2, IsTup.new _ _⟩
end
end L2
namespace L2
open PySem PySem.Spec PyProof.Rows
noncomputable def ixN (n : Nat) (i : Int) : Option Nat:=if 0 <= i then (if i < n then some i.toNat else none) else if -(n : Int) <= i then some (i + n).toNat else none
noncomputable def atI {α : Type} (xs : List α) (i : Int) : Option α:=(ixN xs.length i).bind fun j=>xs[j]?
theorem Kw {n : Nat} {i : Int} {j : Nat} (h : ixN n i = some j) : seqIndex? i n = some j /\ j < n /\ -(n : Int) <= i /\ i < n:=by
  unfold ixN at h
  by_cases h0 : 0 <= i
  . rw [if_pos h0] at h
    by_cases h1 : i < n
    . rw [if_pos h1] at h
      have e : i.toNat = j:=Option.some.inj h
      exact ⟨by rw [seqIndex_of h0 h1, e], by omega, by omega, h1⟩
    . rw [if_neg h1] at h; cases h
  . rw [if_neg h0] at h
    by_cases h1 : -(n : Int) <= i
    . rw [if_pos h1] at h
      have e : (i + n).toNat = j:=Option.some.inj h
      exact ⟨by rw [seqIndex_neg (by omega) h1, e], by omega, h1, by omega⟩
    . rw [if_neg h1] at h; cases h
theorem Kh {α : Type} {xs : List α} {i : Int} {v : α} (h : atI xs i = some v) : ∃ j, seqIndex? i xs.length = some j /\ xs[j]? = some v /\ j < xs.length /\ -(xs.length : Int) <= i /\ i < xs.length:=by
  unfold atI at h
  cases e : ixN xs.length i with
  | none=>rw [e] at h; cases h
  | some j=>
    rw [e] at h
    obtain ⟨h1, h2, h3, h4⟩:=Kw e
    exact ⟨j, h1, h, h2, h3, h4⟩
noncomputable def DP (b : Expr) : Prop:=∀ o i, subscripted b false o i = operate [o, i] (getItem o i)
noncomputable def IxR (X : Cx) (r : R2) : Prop:=
  ∀ (value slice : Expr) (pins : List (Addr × Obj)) (s : Shared) (σ : St) (H : Hp) (x y : V) (v u : Value) (Q : VK), Inv X pins σ H s -> X8 x v -> X8 y u -> r x y H Q ->
    subscripted slice false v u = operate [v, u] (getItem v u) -> wpAny (model X.prog X.w) X.A (subscriptTail value slice v u) (EP X pins σ Q) X.xe s
noncomputable def MtR (X : Cx) (id : String) (r : V -> List V -> Hp -> VK -> Prop) : Prop:=
  ∀ (pins : List (Addr × Obj)) (s : Shared) (σ : St) (H : Hp) (x : V) (xs : List V) (v : Value) (us : List Value) (Q : VK), Inv X pins σ H s -> X8 x v -> XV xs us -> r x xs H Q ->
    wpAny (model X.prog X.w) X.A (call (.builtin id) (v :: us)) (EP X pins σ Q) X.xe s
section
variable {X : Cx} {a b : Expr} {ta tb : TE} {pos : Pos}
theorem IxR.or {r r' : R2} (h : IxR X r) (h' : IxR X r') : IxR X (fun x y H Q=>r x y H Q ∨ r' x y H Q):=by
  intro value slice pins s σ H x y v u Q I rx ry q hs
  rcases q with q | q
  . exact h value slice pins s σ H x y v u Q I rx ry q hs
  . exact h' value slice pins s σ H x y v u Q I rx ry q hs
theorem MtR.or {id : String} {r r' : V -> List V -> Hp -> VK -> Prop} (h : MtR X id r) (h' : MtR X id r') : MtR X id (fun x xs H Q=>r x xs H Q ∨ r' x xs H Q):=by
  intro pins s σ H x xs v us Q I rx rs q
  rcases q with q | q
  . exact h pins s σ H x xs v us Q I rx rs q
  . exact h' pins s σ H x xs v us Q I rx rs q
theorem XW {r : R2} (hr : IxR X r) (ha : PE X a ta) (hb : PE X b tb) (hs : DP b) : PE X (.Subscript a b pos) (tOp r ta tb):=by
  intro pins s σ H Q I h
  exact Subscript_ (BM ha hb I h fun v u s2 x y H2 I2 rx ry q=>hr a b pins s2 σ H2 x y v u Q I2 rx ry q (hs _ _))
noncomputable def CD (K : PySem.W.Frag) : R2:=fun x y H Q=>∃ p xs i v, x = .ref p /\ y = .int i /\ SqL K H p xs /\ atI xs i = some v /\ Q v H
noncomputable def Ce (K : PySem.W.Frag) : R2:=fun x y H Q=>∃ p xs i v, x = .ref p /\ y = .int i /\ SqT K H p xs /\ atI xs i = some v /\ Q v H
theorem DR : IxR X (CD X.K):=by
  intro value slice pins s σ H x y v u Q I rx ry h hs
  obtain ⟨p, xs, i, z, rfl, rfl, hq, he, q⟩:=h
  cases rx
  obtain ⟨t, rfl⟩:=ry
  obtain ⟨its, r, pl, hz⟩:=I.list hq
  obtain ⟨j, h1, h2, h3, h4, h5⟩:=Kh he
  obtain ⟨w, ew, rw'⟩:=r.get h2
  have hl:=r.length
  have hn:=Ui
  have fin : EP X pins σ Q w s:=⟨z, H, I, rw', q⟩
  by_cases h0 : 0 <= i
  . have hj : i.toNat = j:=by
      rw [seqIndex_of h0 h5] at h1
      exact Option.some.inj h1
    exact item_listR pl.isList h0 (by omega) (by rw [hj]; simpa using ew) fin hs
  . have hj : (i + (its.toArray.size : Int)).toNat = j:=by
      rw [seqIndex_neg (by omega) h4] at h1
      rw [List.size_toArray, ← hl]
      exact Option.some.inj h1
    exact subscriptTail_builtinR (x:=w) pl.isList.typeIs slot_list_getitem.lookup
      (wpAny_getItem_list_neg (Q:=fun r s'=>r = w /\ EP X pins σ Q r s') pl.isList (by omega) (by rw [List.size_toArray] <;> omega) (by omega) (by rw [hj]; simpa using ew) ⟨rfl, fin⟩) hs
theorem CB : IxR X (Ce X.K):=by
  intro value slice pins s σ H x y v u Q I rx ry h hs
  obtain ⟨p, xs, i, z, rfl, rfl, hq, he, q⟩:=h
  cases rx
  obtain ⟨t, rfl⟩:=ry
  obtain ⟨its, r, pl, hz⟩:=I.tuple hq
  obtain ⟨j, h1, h2, h3, h4, h5⟩:=Kh he
  obtain ⟨w, ew, rw'⟩:=r.get h2
  have hl:=r.length
  have hn:=Ui
  have fin : EP X pins σ Q w s:=⟨z, H, I, rw', q⟩
  exact subscriptTail_builtinR (x:=w) pl.typeIs slot_tuple_getitem.lookup
    (getItem_tuple (j:=j) (Q:=fun r s'=>r = w /\ EP X pins σ Q r s') pl (by omega) (by omega) (by rw [List.size_toArray, ← hl]; exact h1) (by simpa using ew) ⟨rfl, fin⟩) hs
theorem UN (its : List Value) (n j : Nat) (u : Value) : Obj.mapSeq (·.setIfInBounds j u) { cls:=.type "list", data:=.seq its.toArray n } = { cls:=.type "list", data:=.seq (its.set j u).toArray n }:=by
  simp [Obj.mapSeq]
theorem Inv.lst {pins : List (Addr × Obj)} {σ : St} {H : Hp} {s : Shared} {p : Addr} {xs : List V} (I : Inv X pins σ H s) (h : H p = some (.lst xs)) :
    ∃ (its : List Value) (n : Nat), XV xs its /\ s.heap.get? p = some { cls:=.type "list", data:=.seq its.toArray n } /\ xs.length <= sizeLine:=by
  obtain ⟨z, its, n, r, e⟩:=I.hok p _ h
  exact ⟨its, n, r, e, z⟩
theorem Inv.lstUpd {pins : List (Addr × Obj)} {σ : St} {H : Hp} {s : Shared} {p : Addr} {xs ys : List V} {its its' : List Value} {n n' : Nat} {f : Obj -> Obj} (I : Inv X pins σ H s) (h : H p = some (.lst xs))
    (ho : s.heap.get? p = some { cls:=.type "list", data:=.seq its.toArray n }) (hf : f { cls:=.type "list", data:=.seq its.toArray n } = { cls:=.type "list", data:=.seq its'.toArray n' }) (r : XV ys its') (hz : ys.length <= sizeLine) (t : Nat) :
    Inv X pins σ (upd H p (.lst ys)) { s with heap:=s.heap.update p f, toks:=t }:=by
  have e : (s.heap.update p f).get? p = some { cls:=.type "list", data:=.seq its'.toArray n' }:=by
    rw [Heap.get?_update_self f ho (by rw [hf] <;> rfl), hf]
  refine I.write (x:=p) (e:=p) (by rw [h]; trivial) (.inl rfl) (fun b u hb q=>(Heap.get?_update_other _ _ (Ne.symm hb)).trans q) ⟨_, e⟩ ?_
  exact ⟨hz, its', n', r, e⟩
noncomputable def Cw : V -> V -> V -> Hp -> (Hp -> Prop) -> Prop:=fun o i v H Q=>∃ p xs k j, o = .ref p /\ i = .int k /\ H p = some (.lst xs) /\ ixN xs.length k = some j /\ Q (upd H p (.lst (xs.set j v)))
theorem G4 : B7 X Cw:=by
  intro pins s σ H o i v ov iv u Q I ro ri rv h
  obtain ⟨p, xs, k, j, rfl, rfl, hp, hj, q⟩:=h
  cases ro
  obtain ⟨t, rfl⟩:=ri
  obtain ⟨its, n, r, ho, hz⟩:=I.lst hp
  obtain ⟨h1, h2, h3, h4⟩:=Kw hj
  have hl:=r.length
  have hn:=Ui
  have I' : Inv X pins σ (upd H p (.lst (xs.set j v))) { s with heap:=s.heap.update p (Obj.mapSeq (·.setIfInBounds j u)) }:=
    I.lstUpd hp ho (UN its n j u) (r.set rv j) (by rw [List.length_set]; exact hz) s.toks
  by_cases h0 : 0 <= k
  . have hk : k.toNat = j:=by
      rw [seqIndex_of h0 h4] at h1
      exact Option.some.inj h1
    exact PySem.W.ki_setAt ho h0 (by omega) (by rw [List.size_toArray, ← hl]; exact h4) (by rw [hk]; exact ⟨_, I', q⟩)
  . have hk : (k + (its.toArray.size : Int)).toNat = j:=by
      rw [seqIndex_neg (by omega) h3] at h1
      rw [List.size_toArray, ← hl]
      exact Option.some.inj h1
    exact PySem.W.ki_setBack ho (by omega) (by rw [List.size_toArray, ← hl]; exact h3) (by omega) (by rw [hk]; exact ⟨_, I', q⟩)
theorem J8 (lo hi : Option Int) (n : Nat) : (sliceBounds lo hi none n).1 = ((HT.sIx n 0 lo : Nat) : Int) /\ (sliceBounds lo hi none n).2.1 = ((HT.sIx n n hi : Nat) : Int) /\ (sliceBounds lo hi none n).2.2 = 1:=by
  refine ⟨?_, ?_, rfl⟩
  . cases lo with
    | none=>simp [sliceBounds, HT.sIx]
    | some i=>
      simp only [sliceBounds, HT.sIx, Option.getD_none, show (1 : Int) > 0 by decide, if_true]
      by_cases h : i < 0
      . simp only [h, if_true] <;> omega
      . simp only [h, if_false] <;> omega
  . cases hi with
    | none=>simp [sliceBounds, HT.sIx]
    | some i=>
      simp only [sliceBounds, HT.sIx, Option.getD_none, show (1 : Int) > 0 by decide, if_true]
      by_cases h : i < 0
      . simp only [h, if_true] <;> omega
      . simp only [h, if_false] <;> omega
theorem Q9 (its : List Value) (lo hi : Option Int) : slicePick its.toArray lo hi none = ((its.drop (HT.sIx its.length 0 lo)).take (HT.sIx its.length its.length hi - HT.sIx its.length 0 lo)).toArray:=by
  obtain ⟨h1, h2, h3⟩:=J8 lo hi its.toArray.size
  unfold slicePick
  rw [h1, h2, h3]
  simp only [sliceRange_one, pick_run, List.size_toArray] <;> rfl
noncomputable def BC (K : PySem.W.Frag) : V -> Option Int -> Option Int -> Hp -> VK -> Prop:=fun x lo hi H Q=>∃ a xs, x = .ref a /\ SqL K H a xs /\ ∀ p, H p = none -> Q (.ref p) (upd H p (.lst (Cj xs lo hi)))
theorem DT : SlR X (BC X.K):=by
  intro pins s σ H x v vl vu lo hi sl Q I rx hs pl pu h
  obtain ⟨a, xs, rfl, hx, q⟩:=h
  cases rx
  obtain ⟨its, r, ht, hz⟩:=I.list hx
  have hlen:=r.length
  refine ⟨"list", _, slot_list_getitem.lookup, ht.isList.typeIs, ?_⟩
  refine wpAny_getItem_list_slice ht.isList hs pl pu .none (by simp) ?_ (by rw [List.size_toArray] <;> omega)
  rw [Q9, ← hlen]
  refine ⟨.ref s.heap.objs.size, _, I.laid (t':=s.toks) (o:=.lst (Cj xs lo hi)) (fun b ob q=>Heap.get?_push_of_some _ q) (Nat.le_refl _) ?_, rfl, q _ (I.hok.fresh (Nat.le_refl _))⟩
  exact ⟨Nat.le_trans (VL xs lo hi) hz, _, 0, (r.drop (HT.sIx xs.length 0 lo)).take (HT.sIx xs.length xs.length hi - HT.sIx xs.length 0 lo), Heap.get?_push_size _ rfl⟩
noncomputable def QN : V -> Bool
  | .non=>true
  | .bl _=>true
  | .int _=>true
  | .str _=>true
  | _=>false
noncomputable def eqV : V -> V -> Bool
  | .non, .non=>true
  | .bl a, .bl b=>a == b
  | .bl a, .int b=>(if a then 1 else 0) == b
  | .int a, .bl b=>a == (if b then 1 else 0)
  | .int a, .int b=>a == b
  | .str a, .str b=>a == b
  | _, _=>false
theorem C5 {A : Around} {s : Shared} {y x : V} {u v : Value} (ry : X8 y u) (rx : X8 x v) (fy : QN y = true) (fx : QN x = true) : SeqAt.EqAt A s u v (eqV y x):=by
  cases y with
  | non=>
    cases ry
    cases x with
    | non=>cases rx; exact SeqAt.EqAt.same _
    | bl b=>cases rx; exact SeqAt.EqAt.none_bool b
    | int b=>obtain ⟨t, rfl⟩:=rx; exact SeqAt.EqAt.none_int b t
    | str b=>obtain ⟨t, rfl⟩:=rx; exact SeqAt.EqAt.none_str b t
    | _=>exact absurd (show false = true from fx) Bool.false_ne_true
  | bl a=>
    cases ry
    cases x with
    | non=>cases rx; exact SeqAt.EqAt.bool_none a
    | bl b=>cases rx; exact SeqAt.EqAt.bool_bool a b
    | int b=>obtain ⟨t, rfl⟩:=rx; exact SeqAt.EqAt.bool_int a b t
    | str b=>obtain ⟨t, rfl⟩:=rx; exact SeqAt.EqAt.bool_str a b t
    | _=>exact absurd (show false = true from fx) Bool.false_ne_true
  | int a=>
    obtain ⟨t', rfl⟩:=ry
    cases x with
    | non=>cases rx; exact SeqAt.EqAt.int_none a t'
    | bl b=>cases rx; exact SeqAt.EqAt.int_bool a t' b
    | int b=>obtain ⟨t, rfl⟩:=rx; exact SeqAt.EqAt.int_int a t' b t
    | str b=>obtain ⟨t, rfl⟩:=rx; exact SeqAt.EqAt.int_str a t' b t
    | _=>exact absurd (show false = true from fx) Bool.false_ne_true
  | str a=>
    obtain ⟨t', rfl⟩:=ry
    cases x with
    | non=>cases rx; exact SeqAt.EqAt.str_none a t'
    | bl b=>cases rx; exact SeqAt.EqAt.str_bool a t' b
    | int b=>obtain ⟨t, rfl⟩:=rx; exact SeqAt.EqAt.str_int a t' b t
    | str b=>obtain ⟨t, rfl⟩:=rx; exact SeqAt.EqAt.str_str a t' b t
    | _=>exact absurd (show false = true from fx) Bool.false_ne_true
  | _=>exact absurd (show false = true from fy) Bool.false_ne_true
noncomputable def eqU (x : V) (u : Value) : Bool:=match u with
  | .none=>eqV .non x
  | .bool b=>eqV (.bl b) x
  | .int i _=>eqV (.int i) x
  | .str z _=>eqV (.str z) x
  | _=>false
theorem Fg {x y : V} {u : Value} (r : X8 y u) (f : QN y = true) : eqU x u = eqV y x:=by
  cases y with
  | non=>cases r; rfl
  | bl b=>cases r; rfl
  | int i=>obtain ⟨t, rfl⟩:=r; rfl
  | str z=>obtain ⟨t, rfl⟩:=r; rfl
  | _=>exact absurd (show false = true from f) Bool.false_ne_true
theorem VE {x : V} : ∀ {xs : List V} {us : List Value}, XV xs us -> xs.all QN = true -> us.any (eqU x) = xs.any fun y=>eqV y x
  | _, _, .nil, _=>rfl
  | y :: xs, u :: us, .cons r t, f=>by
    rw [List.all_cons, Bool.and_eq_true] at f
    rw [List.any_cons, List.any_cons, Fg r f.1, VE t f.2]
theorem Jq {A : Around} {s : Shared} {x : V} {v : Value} (rx : X8 x v) (fx : QN x = true) : ∀ {xs : List V} {us : List Value}, XV xs us -> xs.all QN = true -> ∀ u ∈ us, SeqAt.EqAt A s u v (eqU x u)
  | _, _, .nil, _=>fun u hu=>by cases hu
  | y :: xs, u :: us, .cons r t, f=>fun u' hu=>by
    rw [List.all_cons, Bool.and_eq_true] at f
    rcases List.mem_cons.mp hu with rfl | hu
    . rw [Fg r f.1]; exact C5 r rx f.1 fx
    . exact Jq rx fx t f.2 u' hu
noncomputable def inV (x : V) (xs : List V) : Bool:=xs.any fun y=>eqV y x
noncomputable def rIn (K : PySem.W.Frag) (neg : Bool) : R2:=fun x y H Q=>∃ p xs, y = .ref p /\ (SqL K H p xs ∨ SqT K H p xs) /\ QN x = true /\ xs.all QN = true /\ Q (.bl (if neg then !inV x xs else inV x xs)) H
theorem JF : OpR X (compareOp .NotIn) (rIn X.K true):=by
  intro pins s σ H x y v u Q I rx ry h
  obtain ⟨p, xs, rfl, hq, fx, fs, q⟩:=h
  cases ry
  rcases hq with hq | hq
  . obtain ⟨its, r, pl, hz⟩ := I.list hq
    refine SeqAt.notIn_listAt (eqU x) pl.isList (fun w hw=>Jq rx fx r fs w (by simpa using hw)) ⟨.bl _, H, I, rfl, ?_⟩
    rw [show its.toArray.any (eqU x) = its.any (eqU x) by simp, VE r fs]
    exact q
  . obtain ⟨its, r, pl, hz⟩ := I.tuple hq
    refine SeqAt.notIn_tupleAt (eqU x) pl (fun w hw=>Jq rx fx r fs w (by simpa using hw)) ⟨.bl _, H, I, rfl, ?_⟩
    rw [show its.toArray.any (eqU x) = its.any (eqU x) by simp, VE r fs]
    exact q
theorem J5 : ZW X (.builtin "len") (fun xs H Q=>∃ p ys, xs = [.ref p] /\ (SqL X.K H p ys ∨ SqT X.K H p ys) /\ Q (.int ys.length) H):=by
  intro pins s σ H xs us Q I r h
  obtain ⟨p, ys, rfl, hq, q⟩:=h
  obtain ⟨u, rfl, rx⟩:=FZ r
  cases rx
  have hn:=Ui
  rcases hq with hq | hq
  . obtain ⟨its, r', pl, hz⟩ := I.list hq
    have hlen:=r'.length
    exact Calls.call_len_list pl.isList (by simp only [List.size_toArray] <;> omega) ⟨.int ys.length, H, I.tok _, ⟨s.toks + 1, by rw [List.size_toArray, hlen]⟩, q⟩
  . obtain ⟨its, r', pl, hz⟩ := I.tuple hq
    have hlen:=r'.length
    exact len_tuple pl (by simp only [List.size_toArray] <;> omega) ⟨.int ys.length, H, I.tok _, ⟨s.toks + 1, by rw [List.size_toArray, hlen]⟩, q⟩
theorem ZW.or {f : Value} {r r' : List V -> Hp -> VK -> Prop} (h : ZW X f r) (h' : ZW X f r') : ZW X f (fun xs H Q=>r xs H Q ∨ r' xs H Q):=by
  intro pins s σ H xs us Q I rs q
  rcases q with q | q
  . exact h pins s σ H xs us Q I rs q
  . exact h' pins s σ H xs us Q I rs q
theorem JS : ZW X (.type "list") (fun xs H Q=>∃ p ys, xs = [.ref p] /\ (SqL X.K H p ys ∨ SqT X.K H p ys) /\ ∀ l, H l = none -> Q (.ref l) (upd H l (.lst ys))):=by
  intro pins s σ H xs us Q I r h
  obtain ⟨p, ys, rfl, hq, q⟩:=h
  obtain ⟨u, rfl, rx⟩:=FZ r
  cases rx
  have fin : ∀ (its : List Value), XV ys its -> ys.length <= sizeLine -> ∀ (h' : Heap) (c' : Nat), (∀ b o', s.heap.get? b = some o' -> h'.get? b = some o') ->
      h'.get? s.heap.objs.size = some { cls:=.type "list", dict:=none, data:=.seq its.toArray c', slots:=#[] } -> EP X pins σ Q (.ref s.heap.objs.size) { s with heap:=h' }:=fun its r' hz h' c' kp e=>
    ⟨.ref s.heap.objs.size, _, I.laid (t':=s.toks) kp (Nat.le_refl _) (show YT X.prog X.w _ h' _ (.lst ys) from ⟨hz, its, c', r', e⟩), rfl, q _ (I.hok.fresh (Nat.le_refl _))⟩
  rcases hq with hq | hq
  . obtain ⟨its, r', pl, hz⟩ := I.list hq
    have hlen:=r'.length
    obtain ⟨o, ho, hc, n, hd⟩:=pl.isList
    exact call_list_seq p (.inl rfl) ho hc hd (fun h' c' kp e=>fin its r' hz h' c' kp e) (by simp only [List.size_toArray] <;> omega)
  . obtain ⟨its, r', pl, hz⟩ := I.tuple hq
    have hlen:=r'.length
    obtain ⟨o, ho, hc, n, hd⟩:=pl
    exact call_list_seq p (.inr rfl) ho hc hd (fun h' c' kp e=>fin its r' hz h' c' kp e) (by simp only [List.size_toArray] <;> omega)
noncomputable def tyV (K : PySem.W.Frag) (T : String) (x : V) (H : Hp) : Prop:=match x with
  | .str _=>T = "str"
  | .int _=>T = "int"
  | .ref p=>(T = "list" /\ ∃ xs, SqL K H p xs) ∨ (T = "tuple" /\ ∃ o, K.lookup p = some o /\ o.cls = .type "tuple" /\ o.dict = none) ∨
      (T = "dict" /\ ((∃ kvs, H p = some (.dK kvs)) ∨ ∃ kvs, H p = some (.dT kvs))) ∨ (T = "set" /\ ∃ S n, H p = some (.set S n))
  | _=>False
theorem Fj {pins : List (Addr × Obj)} {σ : St} {H : Hp} {s : Shared} {T : String} {x : V} {v : Value} (I : Inv X pins σ H s) (r : X8 x v) (ty : tyV X.K T x H) :
    s.TypeIs v T /\ ∀ a, v = .ref a -> ∃ ob, s.heap.get? a = some ob /\ ob.dict = none:=by
  cases x with
  | str z=>
    obtain ⟨t, rfl⟩:=r
    cases (show T = "str" from ty)
    exact ⟨typeIs_str s z t, fun _ e=>nomatch e⟩
  | int i=>
    obtain ⟨t, rfl⟩:=r
    cases (show T = "int" from ty)
    exact ⟨typeIs_int s i t, fun _ e=>nomatch e⟩
  | ref p=>
    cases r
    rcases ty with ⟨rfl, xs, hq⟩ | ⟨rfl, o, hk, hc, hd⟩ | ⟨rfl, hk⟩ | ⟨rfl, S, n, hk⟩
    . obtain ⟨its, _, pl, _⟩ := I.list hq
      refine ⟨pl.isList.typeIs, fun a e=>?_⟩
      cases e
      obtain ⟨o, n, e, c, hd, _⟩:=pl
      exact ⟨o, e, hd⟩
    . refine ⟨⟨o, I.kIn p o hk, hc⟩, fun a e => ?_⟩
      cases e
      exact ⟨o, I.kIn _ o hk, hd⟩
    . have z : ∃ o, s.heap.get? p = some o /\ o.ExactDict:=by
        rcases hk with ⟨kvs, hk⟩ | ⟨kvs, hk⟩
        . obtain ⟨_, _, _, _, o, _, _, e, ex, _⟩ := I.hok p _ hk
          exact ⟨o, e, ex⟩
        . obtain ⟨_, _, _, _, o, _, _, e, ex, _⟩ := I.hok p _ hk
          exact ⟨o, e, ex⟩
      obtain ⟨o, e, ex⟩:=z
      refine ⟨⟨o, e, ex.1⟩, fun a e2=>?_⟩
      cases e2
      exact ⟨o, e, ex.2.1⟩
    . obtain ⟨o, _, _, _, e, ex, _⟩ := I.hok p _ hk
      refine ⟨⟨o, e, ex.1⟩, fun a e2=>?_⟩
      cases e2
      exact ⟨o, e, ex.2.1⟩
  | _=>exact False.elim ty
noncomputable def BH (K : PySem.W.Frag) (T : String) (r : V -> List V -> Hp -> VK -> Prop) (to : TE) : TE:=fun σ H Q=>to σ H fun x H1=>tyV K T x H1 /\ r x [] H1 Q
noncomputable def tBM (K : PySem.W.Frag) (T : String) (r : V -> List V -> Hp -> VK -> Prop) (to : TE) (t : TA) : TE:=fun σ H Q=>to σ H fun x H1=>tyV K T x H1 /\ t σ H1 fun xs H2=>r x xs H2 Q
variable {o e : Expr} {es : List Expr} {to : TE} {t : TA} {name : Str} {apos cpos : Pos} {T id : String} {r : V -> List V -> Hp -> VK -> Prop}
theorem Fq (pa : PlainAttrs T) (slot : Slot T name id) (hty : typeOf (.builtin id) = pure (.type "method_descriptor")) (hm : MtR X id r) (ho : PE X o to)
    (hbase : attributeBase o name X.env (eval o X.env) = eval o X.env:=by rfl) (hline : (apos.endLine == cpos.line) = true:=by rfl) : PE X (.Call (.Attribute o name apos) [] [] cpos) (BH X.K T r to):=by
  intro pins s σ H Q I h
  refine wpAny_Call_method0_late hbase hline (thn (ho pins s σ H _ I h) fun v s1 ⟨x, H1, I1, r1, ty, q1⟩=>?_)
  obtain ⟨h1, h2⟩:=Fj I1 r1 ty
  exact ⟨T, id, pa, slot, hty, h1, h2, Calls.callWith_builtin rfl (PySem.evalArgs_none (hm pins s1 σ H1 x [] v [] Q I1 r1 .nil q1))⟩
theorem Z8 (pa : PlainAttrs T) (slot : Slot T name id) (hty : typeOf (.builtin id) = pure (.type "method_descriptor")) (hm : MtR X id r) (ho : PE X o to) (ha : PA X (e :: es) t)
    (hbase : attributeBase o name X.env (eval o X.env) = eval o X.env:=by rfl)
    (hfew : ((backTo cpos (starEach (e :: es) X.env)).all (fun x=>!x.1) && (backToKw cpos (keywordEach [] X.env)).all (fun x=>x.1.isSome)
      && decide ((e :: es).length + ([] : List Keyword).length + (if ([] : List Keyword).isEmpty then 0 else 1) < 30)) = true:=by rfl)
    (hline : (apos.endLine == cpos.line) = true:=by rfl) (hs : starEach (e :: es) X.env = (false, eval e X.env) :: starEach es X.env:=by rfl) (hplain : (backTo cpos (starEach es X.env)).any (·.1) = false:=by rfl) :
    PE X (.Call (.Attribute o name apos) (e :: es) [] cpos) (tBM X.K T r to t):=by
  intro pins s σ H Q I h
  refine wpAny_Call_method_late hbase hfew hline rfl (thn (ho pins s σ H _ I h) fun v s1 ⟨x, H1, I1, r1, ty, q1⟩=>?_)
  obtain ⟨h1, h2⟩:=Fj I1 r1 ty
  refine ⟨T, id, pa, slot, hty, h1, h2, ?_⟩
  have hA:=ha cpos pins s1 σ H1 _ I1 q1
  rw [hs] at hA ⊢
  refine Calls.callWith_builtin (by show (false || (backTo cpos (starEach es X.env)).any (·.1)) = false; rw [hplain] <;> rfl) (Calls.evalArgs_plain ?_)
  exact thn hA fun us s2 ⟨vs, H2, I2, r2, q2⟩=>hm pins s2 σ H2 x vs v us Q I2 r1 r2 q2
/- xs.append(e), list.index on a module's tuple .. are MtR facts of 06m -/
end
end L2
namespace L2
open PySem PySem.Spec PyProof.Rows
noncomputable def MtM (X : Cx) (id : String) (r : V -> List V -> Hp -> VK -> Prop) : Prop:=
  ∀ (pins : List (Addr × Obj)) (s : Shared) (σ : St) (H : Hp) (x : V) (xs : List V) (v : Value) (us : List Value) (Q : VK), Inv X pins σ H s -> X8 x v -> XV xs us -> r x xs H Q ->
    wpAny (model X.prog X.w) X.A (call (.builtin id) (v :: us)) (EP X pins σ Q) X.xe s
theorem XV.one : ∀ {x : V} {us : List Value}, XV [x] us -> ∃ u, us = [u] /\ X8 x u:=fun {x us} h=>by
  cases h with
  | cons r t=>
    cases t
    exact ⟨_, rfl, r⟩
theorem XV.two : ∀ {x y : V} {us : List Value}, XV [x, y] us -> ∃ u v, us = [u, v] /\ X8 x u /\ X8 y v:=fun {x y us} h=>by
  cases h with
  | cons r t=>
    cases t with
    | cons q t=>
      cases t
      exact ⟨_, _, rfl, r, q⟩
theorem XV.zero : ∀ {us : List Value}, XV [] us -> us = []
  | _, .nil=>rfl
theorem XV.dropLast {xs : List V} {us : List Value} (h : XV xs us) : XV xs.dropLast us.dropLast:=by
  induction h with
  | nil=>exact .nil
  | cons r t ih=>
    cases t with
    | nil=>exact .nil
    | cons q t'=>exact .cons r ih
theorem XV.eraseIdx : ∀ {xs : List V} {us : List Value} (i : Nat), XV xs us -> XV (xs.eraseIdx i) (us.eraseIdx i)
  | _, _, _, .nil=>.nil
  | _, _, 0, .cons _ t=>t
  | _, _, i + 1, .cons r t=>.cons r (XV.eraseIdx i t)
theorem XV.reverse {xs : List V} {us : List Value} (h : XV xs us) : XV xs.reverse us.reverse:=by
  induction h with
  | nil=>exact .nil
  | cons r t ih=>rw [List.reverse_cons, List.reverse_cons]; exact XV.append ih (.cons r .nil)
theorem XV.rep {xs : List V} {us : List Value} (h : XV xs us) : ∀ k : Nat, XV (List.replicate k xs).flatten (List.replicate k us).flatten
  | 0=>.nil
  | k + 1=>by
    rw [List.replicate_succ, List.replicate_succ, List.flatten_cons, List.flatten_cons]
    exact XV.append h (XV.rep h k)
theorem UJ {α : Type} (l : List α) : l.eraseIdx (l.length - 1) = l.dropLast:=by
  induction l with
  | nil=>rfl
  | cons a r ih=>
    cases r with
    | nil=>rfl
    | cons b r=>
      have e : (a :: b :: r).length - 1 = ((b :: r).length - 1) + 1:=by
        have h1 : (a :: b :: r).length = r.length + 2:=rfl
        have h2 : (b :: r).length = r.length + 1:=rfl
        omega
      rw [e, List.eraseIdx_cons_succ, ih]
      all_goals rfl
theorem JT {α : Type} : ∀ (l : List α) (i : Nat), (l.eraseIdx i).length <= l.length
  | [], _=>Nat.le_refl _
  | _ :: _, 0=>Nat.le_succ _
  | _ :: r, i + 1=>Nat.succ_le_succ (JT r i)
theorem JR (its : List Value) : ∀ (k : Nat) (acc : List Value),
    List.foldl (fun x1 x2=>x1 ++ x2) acc.toArray (List.replicate k its.toArray) = (acc ++ (List.replicate k its).flatten).toArray
  | 0, acc=>by simp
  | k + 1, acc=>by
    have e : acc.toArray ++ its.toArray = (acc ++ its).toArray:=by simp
    have e2 : (acc ++ its) ++ (List.replicate k its).flatten = acc ++ (List.replicate (k + 1) its).flatten:=by
      rw [List.replicate_succ, List.flatten_cons, List.append_assoc]
    rw [← e2, ← JR its k (acc ++ its), ← e, List.replicate_succ, List.foldl_cons]
section
variable {X : Cx} {pins : List (Addr × Obj)} {σ : St} {H : Hp} {s : Shared} {l b : Addr} {xs ys zs : List V}
theorem Inv.lset {its its' : List Value} {n : Nat} {f : Array Value -> Array Value} {t' : Nat} (I : Inv X pins σ H s) (hH : H l = some (.lst xs))
    (e : s.heap.get? l = some { cls:=.type "list", data:=.seq its.toArray n }) (hf : f its.toArray = its'.toArray) (hv : XV ys its') (hz : ys.length <= sizeLine) :
    Inv X pins σ (upd H l (.lst ys)) { s with heap:=s.heap.update l (Obj.mapSeq f), toks:=t' }:=by
  have q:=PySem.IsL.update e f
  rw [hf] at q
  refine I.write (x:=l) (e:=l) (by rw [hH]; exact trivial) (.inl rfl) (fun b' u hb hu=>(Heap.get?_update_other s.heap (Obj.mapSeq f) (Ne.symm hb)).trans hu) ⟨_, q⟩ ?_
  exact ⟨hz, its', _, hv, q⟩
theorem Inv.lnew {its : List Value} {t' : Nat} (I : Inv X pins σ H s) (hv : XV ys its) (hz : ys.length <= sizeLine) :
    Inv X pins σ (upd H s.heap.objs.size (.lst ys)) { s with heap:=s.heap.push { cls:=.type "list", data:=.seq its.toArray }, toks:=t' }:=
  I.laid (fun _ _ q=>Heap.get?_push_of_some _ q) (Nat.le_refl _) ⟨hz, its, 0, hv, Heap.get?_push_size _ rfl⟩
theorem Inv.fresh (I : Inv X pins σ H s) : H s.heap.objs.size = none:=I.hok.fresh (Nat.le_refl _)
theorem Inv.lstM (I : Inv X pins σ H s) (hH : H l = some (.lst xs)) : xs.length <= sizeLine /\ ∃ (its : List Value) (n : Nat), XV xs its /\ xs.length = its.length /\ s.heap.get? l = some { cls:=.type "list", data:=.seq its.toArray n }:=by
  obtain ⟨z, its, n, r, e⟩:=I.hok l _ hH
  exact ⟨z, its, n, r, r.length, e⟩
theorem Uk {n : Nat} (h : n <= sizeLine) : Builtin.List.listTooLong n = false:=by
  unfold Builtin.List.listTooLong
  exact decide_eq_false (by omega)
end
section
variable {X : Cx}
noncomputable def VG : V -> List V -> Hp -> VK -> Prop:=fun x vs H Q=>∃ l xs y, x = .ref l /\ vs = [y] /\ H l = some (.lst xs) /\ xs.length < sizeLine /\ Q .non (upd H l (.lst (xs ++ [y])))
theorem Yg : MtM X "list.append" VG:=by
  intro pins s σ H x vs v us Q I rx rv h
  obtain ⟨l, xs, y, rfl, rfl, hH, hz, q⟩:=h
  cases rx
  obtain ⟨u, rfl, ru⟩:=rv.one
  obtain ⟨z, its, n, r, hl, e⟩:=I.lstM hH
  refine call_meets F.slot_list_append ⟨_, e, rfl⟩ F.entry_list_append (F.args_list_append_2 _ _) (PySem.list_append l its.toArray n u (by rw [List.size_toArray]; omega)) ⟨e, ?_⟩
  refine ⟨.non, _, I.lset (its':=its ++ [u]) hH e (by simp) (r.append (.cons ru .nil)) ?_, rfl, q⟩
  rw [List.length_append, List.length_singleton]
  omega
noncomputable def KF : V -> List V -> Hp -> VK -> Prop:=fun x vs H Q=>∃ l b xs zs, x = .ref l /\ vs = [.ref b] /\ H l = some (.lst xs) /\ H b = some (.lst zs) /\ xs.length + zs.length <= sizeLine /\ Q .non (upd H l (.lst (xs ++ zs)))
theorem Gp : MtM X "list.extend" KF:=by
  intro pins s σ H x vs v us Q I rx rv h
  obtain ⟨l, b, xs, zs, rfl, rfl, hH, hB, hz, q⟩:=h
  cases rx
  obtain ⟨u, rfl, ru⟩:=rv.one
  cases ru
  obtain ⟨z, its, n, r, hl, e⟩:=I.lstM hH
  obtain ⟨z2, its2, n2, r2, hl2, e2⟩:=I.lstM hB
  have hsz : its.toArray.size + its2.toArray.size <= sizeLine:=by rw [List.size_toArray, List.size_toArray]; omega
  have hlong : ¬ (!its.toArray.isEmpty && Builtin.List.listTooLong (its.toArray.size + its2.toArray.size)) = true:=by
    rw [Uk hsz, Bool.and_false]
    exact Bool.false_ne_true
  refine call_meets F.slot_list_extend ⟨_, e, rfl⟩ F.entry_list_extend (F.args_list_extend_2 _ _)
    (AutoSeq1.list_extend_list_list_0 l its.toArray n b its2.toArray n2 hlong (by rw [List.size_toArray]; omega) (by omega)) ⟨e, e2, ?_⟩
  refine ⟨.non, _, I.lset (its':=its ++ its2) hH e (by simp) (r.append r2) ?_, rfl, q⟩
  rw [List.length_append]
  omega
noncomputable def Eb : V -> List V -> Hp -> VK -> Prop:=fun x vs H Q=>∃ l xs y, x = .ref l /\ vs = [] /\ H l = some (.lst xs) /\ xs[xs.length - 1]? = some y /\ Q y (upd H l (.lst xs.dropLast))
theorem CT : MtM X "list.pop" Eb:=by
  intro pins s σ H x vs v us Q I rx rv h
  obtain ⟨l, xs, y, rfl, rfl, hH, hy, q⟩:=h
  cases rx
  have hus:=rv.zero
  subst hus
  obtain ⟨z, its, n, r, hl, e⟩:=I.lstM hH
  obtain ⟨u, hu, ru⟩:=r.get hy
  have hy' : its.toArray[its.toArray.size - 1]? = some u:=by
    show its.toArray[its.length - 1]? = some u
    rw [← Array.getElem?_toList, ← hl]
    exact hu
  refine call_meets F.slot_list_pop ⟨_, e, rfl⟩ F.entry_list_pop (F.args_list_pop_1 _) (MeetsSeq.list_pop_last l its.toArray n u hy' (by rw [List.size_toArray]; omega)) ⟨e, ?_⟩
  refine ⟨y, _, I.lset (its':=its.dropLast) hH e ?_ r.dropLast ?_, ru, q⟩
  . show its.toArray.eraseIdxIfInBounds (its.toArray.size - 1) = its.dropLast.toArray
    rw [List.size_toArray, List.eraseIdxIfInBounds_toArray, UJ]
  . rw [List.length_dropLast]
    omega
noncomputable def Go : V -> List V -> Hp -> VK -> Prop:=fun x vs H Q=>∃ l xs i k y, x = .ref l /\ vs = [.int i] /\ H l = some (.lst xs) /\ -(2 ^ 63) <= i /\ i < 2 ^ 63 /\ seqIndex? i xs.length = some k /\ xs[k]? = some y /\ Q y (upd H l (.lst (xs.eraseIdx k)))
theorem GX : MtM X "list.pop" Go:=by
  intro pins s σ H x vs v us Q I rx rv h
  obtain ⟨l, xs, i, k, y, rfl, rfl, hH, h1, h2, hk, hy, q⟩:=h
  cases rx
  obtain ⟨u, rfl, ru⟩:=rv.one
  obtain ⟨t, rfl⟩:=ru
  obtain ⟨z, its, n, r, hl, e⟩:=I.lstM hH
  obtain ⟨w, hw, rw'⟩:=r.get hy
  refine call_meets F.slot_list_pop ⟨_, e, rfl⟩ F.entry_list_pop (F.args_list_pop_2 _ _)
    (MeetsSeq.list_pop_at l its.toArray n i t k w (fitsIndex_both h1 h2) (by rw [List.size_toArray, ← hl]; exact hk) (by rw [← Array.getElem?_toList]; exact hw) (by rw [List.size_toArray]; omega)) ⟨e, ?_⟩
  refine ⟨y, _, I.lset (its':=its.eraseIdx k) hH e ?_ (r.eraseIdx k) ?_, rw', q⟩
  . show its.toArray.eraseIdxIfInBounds k = (its.eraseIdx k).toArray
    rw [List.eraseIdxIfInBounds_toArray]
  . have := JT xs k
    omega
noncomputable def V9 : V -> List V -> Hp -> VK -> Prop:=fun x vs H Q=>∃ l xs, x = .ref l /\ vs = [] /\ H l = some (.lst xs) /\ Q .non (upd H l (.lst xs.reverse))
theorem Uz : MtM X "list.reverse" V9:=by
  intro pins s σ H x vs v us Q I rx rv h
  obtain ⟨l, xs, rfl, rfl, hH, q⟩:=h
  cases rx
  have hus:=rv.zero
  subst hus
  obtain ⟨z, its, n, r, hl, e⟩:=I.lstM hH
  refine call_meets F.slot_list_reverse ⟨_, e, rfl⟩ F.entry_list_reverse (F.args_list_reverse_1 _) (AutoSeq1.list_reverse_list_0 l its.toArray n (by rw [List.size_toArray]; omega)) ⟨e, ?_⟩
  refine ⟨.non, _, I.lset (its':=its.reverse) hH e (by simp) r.reverse ?_, rfl, q⟩
  rw [List.length_reverse]
  omega
noncomputable def B5 : R2:=fun x y H Q=>∃ l b xs zs, x = .ref l /\ y = .ref b /\ H l = some (.lst xs) /\ H b = some (.lst zs) /\ xs.length + zs.length <= sizeLine /\ ∀ p, H p = none -> Q (.ref p) (upd H p (.lst (xs ++ zs)))
theorem Kl : OpR X (binaryOp .Add) B5:=by
  intro pins s σ H x y v u Q I rx ry h
  obtain ⟨l, b, xs, zs, rfl, rfl, hH, hB, hz, q⟩:=h
  cases rx
  cases ry
  obtain ⟨z, its, n, r, hl, e⟩:=I.lstM hH
  obtain ⟨z2, its2, n2, r2, hl2, e2⟩:=I.lstM hB
  refine PySem.P.add_list e e2 ?_ (by rw [List.size_toArray, List.size_toArray]; omega)
  have ea : its.toArray ++ its2.toArray = (its ++ its2).toArray:=by simp
  rw [ea]
  exact ⟨.ref _, _, I.lnew (t':=s.toks) (r.append r2) (by rw [List.length_append]; omega), rfl, q _ I.fresh⟩
noncomputable def Ed : R2:=fun x y H Q=>∃ l k xs, x = .ref l /\ y = .int k /\ H l = some (.lst xs) /\ -(2 ^ 63) <= k /\ k < 2 ^ 63 /\ xs.length * k.toNat <= sizeLine /\
  ∀ p, H p = none -> Q (.ref p) (upd H p (.lst (List.replicate k.toNat xs).flatten))
theorem DQ {α : Type} (xs : List α) (k : Nat) : (List.replicate k xs).flatten.length = k * xs.length:=by
  induction k with
  | zero=>simp
  | succ k ih=>rw [List.replicate_succ, List.flatten_cons, List.length_append, ih, Nat.succ_mul, Nat.add_comm]
theorem Ft : OpR X (binaryOp .Mult) Ed:=by
  intro pins s σ H x y v u Q I rx ry h
  obtain ⟨l, k, xs, rfl, rfl, hH, h1, h2, hz, q⟩:=h
  cases rx
  obtain ⟨t, rfl⟩:=ry
  obtain ⟨z, its, n, r, hl, e⟩:=I.lstM hH
  have hlen : its.toArray.size * k.toNat <= sizeLine:=by rw [List.size_toArray, ← hl]; exact hz
  have hcap : ¬ its.toArray.size * k.toNat > (2 ^ 63 - 1) / 8:=by
    have : (sizeLine : Nat) <= (2 ^ 63 - 1) / 8:=by decide
    omega
  have hfit : ¬ (!Builtin.List.listFitsIndex k) = true:=by
    rw [fitsIndex_both h1 h2]
    exact Bool.false_ne_true
  have hlong : ¬ Builtin.List.listTooLong (its.toArray.size * k.toNat) = true:=by
    rw [Uk hlen]
    exact Bool.false_ne_true
  have hnew : List.foldl (fun x1 x2=>x1 ++ x2) #[] (List.replicate (if its.toArray.isEmpty = true then 0 else k.toNat) its.toArray) = (List.replicate k.toNat its).flatten.toArray:=by
    have f0 : ∀ m : Nat, List.foldl (fun x1 x2=>x1 ++ x2) #[] (List.replicate m its.toArray) = (List.replicate m its).flatten.toArray:=fun m=>by
      have:=JR its m []
      rw [List.nil_append] at this
      exact this
    rw [f0]
    cases its with
    | nil=>simp
    | cons a r'=>rw [if_neg (by simp)]
  refine wpAny_binaryOp_repeat_ref (T:="list") (U:="int") (by decide) ⟨_, e, rfl⟩ (fun s'=>typeIs_int s' k t) noFill_list_mul F.fills_int_mul F.slot_int_rmul repeat_list F.slot_int_index.lookup
    (call_meets F.slot_int_rmul (typeIs_int s k t) F.entry_int_rmul (F.args_int_rmul_2 _ _) (int___rmul___int_list k t l its.toArray n)
      ⟨e, rfl, ⟨_, e, rfl⟩, call_meets F.slot_list_mul ⟨_, e, rfl⟩ F.entry_list_mul (F.args_list_mul_2 _ _) (AutoListH.list___mul___list_int_3 l its.toArray n k t hfit hcap hlong) ⟨e, ?_⟩⟩)
  rw [hnew]
  exact ⟨.ref _, _, I.lnew (t':=s.toks) (r.rep k.toNat) (by rw [DQ, Nat.mul_comm]; exact hz), rfl, q _ I.fresh⟩
end
section
variable {prog : Program} {w : World} {A : Around} {E : Value -> Shared -> Prop} {s : Shared}
end
section
variable {X : Cx}
end
end L2
namespace Att
open PySem PySem.W PySem.Calls PyProof.Rows
theorem QC {P : Params} {h : Heap} : ∀ (ns : List Int) (vs : List Value), WellAll P h vs (ns.map WData.int) -> IntsAre vs ns:=by
  intro ns
  induction ns with
  | nil=>
    intro vs w
    rw [List.map_nil] at w
    cases w
    exact .nil
  | cons n ns ih=>
    intro vs w
    rw [List.map_cons] at w
    cases w with
    | cons a b=>
      cases a
      exact .cons _ _ (ih _ b)
theorem U8 {l : OpenLaw} {n : Nat} (hn : l.most = some n) {P : Params} {h : Heap} {args : List WData} {vals : List Value}
    (hpre : l.row.toRowW.claim.pre args = true) (hwl : WellAll P h vals args) :
    ∃ a vs ns, vals = [Value.ref a] /\ args = [WData.list (ns.map WData.int)] /\ h.get? a = some { cls:=.type "list", data:=.seq vs.toArray } /\ IntsAre vs ns /\ ns.length <= n:=by
  have hsh : WShape.hasAll [] args [.list .int] = true:=(pre_splitW hpre).1
  have hc : l.pre.holds [] { args:=args } = true:=(pre_splitW hpre).2
  obtain ⟨d, r, rfl, h1, h2⟩:=hasAllW_cons hsh
  obtain rfl:=hasAllW_nil h2
  obtain ⟨xs, rfl, h3⟩:=hasW_list h1
  obtain ⟨ns, rfl⟩:=items_int h3
  have hlen : ns.length <= n:=by
    unfold OpenLaw.pre at hc
    have h4 : (WTm.not (.lt (.lit (.int (n : Int))) (.len (.arg 0)))).holds [] { args:=[.list (ns.map .int)] } = true:=by
      have h4:=(holds_andW hc).1
      rw [hn] at h4
      exact h4
    have h5:=condW_of h4 (w_not (w_lt w_lit (w_len_list (w_arg rfl))))
    rw [List.length_map] at h5
    refine Nat.le_of_not_lt fun q=>?_
    have q' : (n : Int) < ((ns.length : Nat) : Int):=by omega
    first
      | (rw [decide_eq_true q'] at h5; exact absurd h5 (by decide))
      | (simp at h5; omega)
  cases hwl with
  | cons w1 w2=>
    cases w2
    cases w1 with
    | list ho hall=>exact ⟨_, _, ns, rfl, rfl, ho, QC ns _ hall, hlen⟩
theorem U7 (l : OpenLaw) (args : List WData) : l.row.toRowW.claim.post args (.bool true) args = true:=
  postW_of (r:=l.row.toRowW) (X:=(true == true))
    (show WShape.has [] (.bool true) .bool = true by first | rfl | decide | simp [WShape.has, WShape.arms, WShape.armsAll])
    (show (WTm.eq .res (.lit (.bool true))).value [] { args:=args, res:=some (.bool true), after:=args } = some (.bool (true == true)) from w_eq_bool (w_res rfl) w_lit) rfl
theorem attach_call {l : OpenLaw} {n : Nat} {q : Program} {loose : List Str} {XP : (Str -> Option Value) -> Heap -> Prop} {YP : World -> Heap -> Prop} {d : DefRec}
    (hn : l.most = some n) (hdf : d.params.defaults = [])
    (call : ∀ (w : World) (s₀ s₁ : Shared) (mg mb : Str -> Option Value) (fa : Addr) (o : Obj) (pm cd doc : Value) (a : Addr) (vs : List Value) (ns : List Int),
      Ground q loose [] XP w s₀ mg mb s₁.heap -> YP w s₁.heap ->
      s₁.heap.get? fa = some o -> o.data = .func (docDef d.name d.params d.body d.scope pm cd doc) -> s₁.heap.CodeRec cd d.name -> mg d.name = some (.ref fa) ->
      s₁.heap.get? a = some { cls:=.type "list", data:=.seq vs.toArray } -> IntsAre vs ns -> ns.length <= n -> s₁.gens = #[] ->
      codeAny (model l.prog w) callerA (.call (.ref fa) ⟨[.ref a], []⟩) (fun r s'=>r = .ok (.ret (.bool true)) /\ OldK s₁.heap s'.heap /\ s'.os = s₁.os /\ AllBare s'.gens) s₁) :
    WalkO q loose XP YP l.row.toRowW d [] (fun f vs=>PySem.call f vs):=by
  intro w s₀ s₁ mg mb G Y fa o pm cd doc dV kV ho hd hcd hD hmg hg args vals as hpre hlay hrd hwl hlo
  obtain rfl : dV = .none:=Dflts.none hD hdf
  obtain rfl : kV = .none:=Dflts.noKw hD
  obtain ⟨a, vs, ns, rfl, rfl, hobj, hints, hlen⟩:=U8 hn hpre hwl
  refine enter_call (codeAny_mono (call w s₀ s₁ mg mb fa o pm cd doc a vs ns G Y ho (fd_plain hd) hcd hmg hobj hints hlen hg) fun r s' hq=>?_)
  obtain ⟨rfl, h2, h3, h4⟩:=hq
  exact ⟨.inl ⟨.bool true, .bool true, [], rfl, fun _=>rfl, .bool true, U7 l _, fun _=>⟨List.Pairwise.nil, fun _ hm=>(nomatch hm)⟩⟩, h2, h3, h4⟩
section
variable {prog : Program} {w : World} {A : Around} {E : Value -> Shared -> Prop} {s : Shared} {K : Frag}
noncomputable def B4 (h : Heap) (L d : Addr) : List (Addr × Obj):=(List.range h.objs.size).filterMap fun a=>if a = L ∨ a = d then none else (h.get? a).map fun o=>(a, o)
end
end Att
namespace L2
open PySem PySem.Spec PyProof.Rows
theorem JI : ∀ {vs : List Value} {ns : List Int}, IntsAre vs ns -> XV (ns.map V.int) vs
  | _, _, .nil=>.nil
  | _, _, .cons n t h=>.cons ⟨t, rfl⟩ (JI h)
noncomputable def BN (H : Hp) : Prop:=∀ b, H b = none ∨ ∃ o xs, H b = some (.frz o (.lst xs))
theorem Fb {P : Program} {w : World} {K : PySem.W.Frag} {mg mb : Str -> Option Value} {CX : CXT} {k : Nat} {fa a : Addr} {fd : FuncData} {x : Str} {sp : Sp} {s₁ : Shared} {vs : List Value} {ns : List Int}
    (KX : K.In s₁.heap) (hns : s₁.heap.Ns mainGlobals mg) (hb : s₁.heap.Ns builtinsNs mb) (hbb : ∀ x : Str, x ≠ "__name__" -> mb x = bootBuiltins x) (hlim : s₁.heap.NoLimit) (hg : s₁.gens = #[])
    (ha : s₁.heap.get? a = some { cls:=.type "list", data:=.seq vs.toArray }) (hi : IntsAre vs ns) (hl : ns.length <= sizeLine) (hr : Room k callerA)
    (F : ∀ base : Heap, K.In base -> base.Ns mainGlobals mg -> FnOk P w K mg base CX k fa fd [x] sp) (hbind : ∀ (s : Shared) (u : Value), BindsTo s fd ⟨[u], []⟩ [(x, u)])
    (hsp : ∀ H : Hp, BN H -> SqL K H a (ns.map V.int) -> sp [.ref a] H (fun v _=>v = .bl true) fun _ _ _=>False)
    (hCX : ∀ H e s', CX [] H s₁ (fun _ _ _=>False) e s' -> False) :
    codeAny (model P w) callerA (.call (.ref fa) ⟨[.ref a], []⟩) (fun r s'=>r = .ok (.ret (.bool true)) /\ OldK s₁.heap s'.heap /\ s'.os = s₁.os /\ AllBare s'.gens) s₁:=by
  have rv:=JI hi
  have lenV:=hi.length
  -- from an abstract heap in which nothing but the script may be tracked
  have core : ∀ H : Hp, BN H -> SqL K H a (ns.map V.int) -> HOk P w H s₁.heap -> (∀ b, H b ≠ none -> b = a) -> (H a ≠ none -> K.lookup a = none) ->
      codeAny (model P w) callerA (.call (.ref fa) ⟨[.ref a], []⟩) (fun r s'=>r = .ok (.ret (.bool true)) /\ OldK s₁.heap s'.heap /\ s'.os = s₁.os /\ AllBare s'.gens) s₁:=by
    intro H hO hS hok hA hK
    have base_of : ∀ {b : Addr} {o : Obj}, s₁.heap.get? b = some o -> H b = none -> (Gu s₁.heap H).get? b = some o:=fun e n=>Ul e n
    have noA : ∀ {b : Addr} {o : Obj} {es : Array DictEntry} {ep : Nat}, s₁.heap.get? b = some o -> o.data = .dict es ep -> H b = none:=fun {b o es ep} e d=>by
      cases q : H b with
      | none=>rfl
      | some u=>
        have e' : b = a:=hA b (by rw [q]; simp)
        subst e'
        rw [ha] at e; cases e
        have d' : Data.seq vs.toArray _ = Data.dict es ep:=d
        cases d'
    have nsK : ∀ {b : Addr} {m : Str -> Option Value}, s₁.heap.Ns b m -> (Gu s₁.heap H).Ns b m:=fun {b m} ⟨o, es, ep, e, d, r⟩=>⟨o, es, ep, base_of e (noA e d), d, r⟩
    have hKb : K.In (Gu s₁.heap H):=fun b o e=>base_of (KX b o e) (by
      cases q : H b with
      | none=>rfl
      | some u=>
        have e' : b = a:=hA b (by rw [q]; simp)
        subst e'
        rw [hK (by rw [q]; simp)] at e; cases e)
    have hM : Mod K mg (Gu s₁.heap H):=⟨hKb, nsK hns, ⟨mb, nsK hb, hbb⟩, let ⟨mc, h1, h2⟩:=hlim; ⟨mc, nsK h1, h2⟩⟩
    have e0 : Env0 P w K mg (Gu s₁.heap H) callerA [] s₁ H:=⟨rfl, hM, fun b o e=>DW e, Nat.le_of_eq (Ga _ _), trivial, fun b hb=>absurd (show b ∈ ([] : List Addr) from hb) (by simp), hok, .of_eq hg⟩
    refine codeAny_mono ((F _ hKb (nsK hns)).run callerA [] s₁ H ⟨[.ref a], []⟩ [.ref a] [.ref a] _ _ hr e0 (hbind s₁ (.ref a)) (.cons rfl .nil) (hsp H hO hS)) fun r s' h=>?_
    cases r with
    | error e=>exact (hCX H e s' h).elim
    | ok fl=>
      cases fl with
      | next=>exact False.elim h
      | brk=>exact False.elim h
      | cont=>exact False.elim h
      | ret u=>
        obtain ⟨v, H', os, bare, un, hok', r', q⟩:=h
        have q' : v = .bl true:=q
        subst q'
        obtain rfl : u = Value.bool true:=r'
        refine ⟨rfl, OldK.of_keep fun b o e=>?_, os, bare⟩
        cases q : H b with
        | none=>exact un.keep b o e q (by intro z; exact absurd (show b ∈ ([] : List Addr) from z) (by simp)) (by simp)
        | some u=>
          rcases hO b with z | ⟨ob, xs, z⟩
          . rw [q] at z; cases z
          . have z2 := un.frzs b ob _ z
            obtain ⟨e1, _⟩:=hok b _ z
            obtain ⟨e2, _⟩:=hok' b _ z2
            rw [e] at e1; cases e1
            exact e2
  cases hk : K.lookup a with
  | some o=>
    -- the script is one of the module's own objects
    have e:=KX a o hk
    rw [ha] at e
    cases e
    refine core (fun _=>none) (fun _=>.inl rfl) (.inr ⟨_, vs.toArray, _, hk, rfl, rfl, rfl, by rw [List.size_toArray, lenV]; exact hl, by simpa using rv⟩) (fun b u z=>by have z' : (none : Option HO) = some u:=z; cases z') (fun b z=>absurd rfl z) fun z=>absurd rfl z
  | none=>
    refine core (fun b=>if b = a then some (.frz { cls:=.type "list", data:=.seq vs.toArray } (.lst (ns.map V.int))) else none) (fun b=>?_) (.inl (.inr ⟨{ cls:=.type "list", data:=.seq vs.toArray }, if_pos rfl⟩)) (fun b u z=>?_) (fun b z=>?_) fun _=>hk
    . by_cases hb : b = a
      . exact .inr ⟨_, _, if_pos hb⟩
      . exact .inl (if_neg hb)
    . by_cases hb : b = a
      . have z' := (if_pos hb).symm.trans z
        cases z'
        subst hb
        exact ⟨ha, by rw [List.length_map]; exact hl, vs, _, rv, ha⟩
      . have z' := (if_neg hb).symm.trans z
        cases z'
    . by_cases hb : b = a
      . exact hb
      . exact absurd (if_neg hb) z
end L2
namespace L2
open PySem PySem.Spec PyProof.Rows
theorem Db {l : PySem.W.OpenLaw} {n k : Nat} {q : Program} {loose : List Str} {XP : (Str -> Option Value) -> Heap -> Prop} {YP : World -> Heap -> Prop} {d : DefRec} {K : Params -> PySem.W.Frag} {CX : World -> CXT} {sp : World -> Sp} {x : Str}
    (hn : l.most = some n) (hn2 : n <= sizeLine) (hdf : d.params.defaults = []) (hr : Room k callerA)
    (hY : ∀ (w : World) (h : Heap), YP w h -> (K w.params).In h)
    (F : ∀ (w : World) (mg : Str -> Option Value) (fa : Addr) (h : Heap), (K w.params).In h -> h.Ns mainGlobals mg -> mg d.name = some (.ref fa) ->
      ∃ fd : FuncData, (∀ (s : Shared) (u : Value), BindsTo s fd ⟨[u], []⟩ [(x, u)]) /\
        ∀ base : Heap, (K w.params).In base -> base.Ns mainGlobals mg -> FnOk l.prog w (K w.params) mg base (CX w) k fa fd [x] (sp w))
    (hsp : ∀ (w : World) (H : Hp) (a : Addr) (ns : List Int), ns.length <= n -> BN H -> SqL (K w.params) H a (ns.map V.int) -> sp w [.ref a] H (fun v _=>v = .bl true) fun _ _ _=>False)
    (hCX : ∀ (w : World) (H : Hp) (s : Shared) (e : Value) (s' : Shared), CX w [] H s (fun _ _ _=>False) e s' -> False) :
    PySem.W.WalkO q loose XP YP l.row.toRowW d [] (fun f vs=>PySem.call f vs):=by
  refine Att.attach_call hn hdf fun w s₀ s₁ mg mb fa o pm cd doc a vs ns G Y ho hd hcd hmg hobj hints hlen hg=>?_
  have KX:=hY w _ Y
  obtain ⟨fd, hb, hF⟩:=F w mg fa _ KX G.T.g hmg
  exact Fb KX G.T.g G.T.b G.T.builtins G.T.nolimit hg hobj hints (Nat.le_trans hlen hn2) hr hF hb (fun H hO hS=>hsp w H a ns hlen hO hS) fun H e s'=>hCX w H s₁ e s'
end L2
namespace L2
open PySem PySem.Spec PyProof.Rows
noncomputable def Yp (s : Stmt) : Arguments:=match s with
  | .FunctionDef _ a _ _ _ _ _ _ _ _=>a
  | _=>{ posonlyargs:=[], args:=[], vararg:=none, kwonlyargs:=[], kw_defaults:=[], kwarg:=none, defaults:=[] }
noncomputable def Yd (s : Stmt) : List Stmt:=match s with
  | .FunctionDef _ _ b _ _ _ _ _ _ _=>b
  | _=>[]
noncomputable def Xl (s : Stmt) : Scope:=match s with
  | .FunctionDef _ _ _ _ _ _ sc _ _ _=>sc
  | _=>{ kind:=.function, names:=[], isGenerator:=false, isCoroutine:=false }
noncomputable abbrev CX0 : CXT:=fun _ _ _ _ _ _=>False
noncomputable abbrev E0 : XK:=fun _ _ _=>False
theorem BQ {X : Cx} : Gq CX0 X E0:=fun _ _ _ _ _ _ _ h=>h.elim
structure Fun (K : PySem.W.Frag) (x qual : Str) (st : Stmt) (f : Addr) (fd : FuncData) : Prop where
  ex : ∃ (oc : Value) (od : Option Addr) (kV doc pm : Value) (an : Option Addr) (cdv ct : Value) (osl : Array (Option Value)),
    fd = PySem.W.fnOf x qual (Yp st) (Yd st) (Xl st) .none kV doc pm an cdv ct /\ K.lookup f = some ⟨oc, od, .func fd, osl⟩ /\ PySem.W.codeIn K cdv qual = true
  kp : PySem.W.keepIn K (.ref f) = true
section
variable {P : Program} {w : World} {K : PySem.W.Frag} {mg : Str -> Option Value} {base : Heap}
theorem Fun.ok {x qual : Str} {st : Stmt} {f : Addr} {fd : FuncData} {N ps : List Str} {k : Nat} {sp : Sp} (F : Fun K x qual st f fd) (S : FnScope N ps (Xl st)) (len : ∀ vs H Q E, sp vs H Q E -> vs.length = ps.length)
    (hbody : ∀ (cdv : Value) (A : Around) (outer : List Env) (s : Shared) (H : Hp) (vs : List V) (Q : VK) (E : XK), Room k (A.deeper (envOfC qual (Xl st) s.heap.objs.size f cdv)) -> sp vs H Q E ->
      ∃ t, PSs (De CX0 P w K mg base N qual (Xl st) f cdv A outer s H E).nox (Yd st) t /\ t { nx:=fun _ H'=>Q .non H', rt:=Q } (Ju N vs) H) : FnOk P w K mg base CX0 (k + 1) f fd ps sp:=by
  obtain ⟨oc, od, kV, doc, pm, an, cdv, ct, osl, rfl, lk, hcd⟩:=F.ex
  refine BJ lk hcd S len fun A outer s H vs Q E hr hsp=>?_
  obtain ⟨t, h, q⟩:=hbody cdv A outer s H vs Q E hr hsp
  exact ⟨t, h.nox, q⟩
theorem Fun.binds {x qual : Str} {st : Stmt} {f : Addr} {fd : FuncData} {ps : List Str} (F : Fun K x qual st f fd)
    (h : ∀ (kV doc pm : Value) (an : Option Addr) (cdv ct : Value) (us : List Value), us.length = ps.length -> bindArgs (PySem.W.fnOf x qual (Yp st) (Yd st) (Xl st) .none kV doc pm an cdv ct) ⟨us, []⟩ = pure (ps.zip us)) : Vn K fd ps []:=by
  obtain ⟨oc, od, kV, doc, pm, an, cdv, ct, osl, rfl, lk, hcd⟩:=F.ex
  exact .all (h kV doc pm an cdv ct)
theorem ZO {x qual : Str} {st : Stmt} {f : Addr} {oc : Value} {od an : Option Addr} {osl : Array (Option Value)} {kV doc pm cdv ct : Value} (l : K.lookup f = some ⟨oc, od, .func (PySem.W.fnOf x qual (Yp st) (Yd st) (Xl st) .none kV doc pm an cdv ct), osl⟩)
    (c : PySem.W.codeIn K cdv qual = true) (k : PySem.W.keepIn K (.ref f) = true) : Fun K x qual st f (PySem.W.fnOf x qual (Yp st) (Yd st) (Xl st) .none kV doc pm an cdv ct):=⟨⟨oc, od, kV, doc, pm, an, cdv, ct, osl, rfl, l, c⟩, k⟩
end
theorem YH {A : Around} {k : Nat} (hr : Room k A) : A.units + 1 < cLine:=Nat.lt_of_le_of_lt (Nat.add_le_add_left (by decide : 1 <= 64) _) hr.units
theorem KZ {n : Nat} (h : n <= 1000) : n < sizeLine:=Nat.lt_of_le_of_lt h (by decide)
section
variable {X : Cx}
theorem pv (i : Nat) {x : Str} {pos : Pos} (hN : X.N[i]? = some x:=by rfl) (hv : Vis X.env.scope x:=by first | exact Or.inl rfl | exact Or.inr (Or.inl rfl) | exact Or.inr (Or.inr rfl)) (hd : (x == ("__debug__" : Str)) = false:=by decide)
    (hcd : (x == ("__classdict__" : Str)) = false:=by decide) : PE X (.Name x pos) (Vc i):=Cq hN hv hd hcd
end
noncomputable def Xo (H H' : Hp) : Prop:=∀ b o, H b = some o -> H' b = some o
theorem Xo.refl (H : Hp) : Xo H H:=fun _ _ h=>h
theorem Xo.trans {H H1 H2 : Hp} (a : Xo H H1) (b : Xo H1 H2) : Xo H H2:=fun c o h=>b c o (a c o h)
theorem Xo.free {H H' : Hp} (e : Xo H H') {l : Addr} (h : H' l = Option.none) : H l = Option.none:=by
  cases q : H l with
  | none=>rfl
  | some o=>
    rw [e l o q] at h
    cases h
theorem Xo.seq {K : PySem.W.Frag} {H H' : Hp} {a : Addr} {xs : List V} (e : Xo H H') (h : SqL K H a xs) : SqL K H' a xs:=by
  rcases h with (h | ⟨o, h⟩) | h
  . exact .inl (.inl (e _ _ h))
  . exact .inl (.inr ⟨o, e _ _ h⟩)
  . exact .inr h
end L2
namespace L2
open PySem PySem.Spec PyProof.Rows
section
variable {κ : Type} [DecidableEq κ]
noncomputable def US (kvs : List (κ × V)) (k : κ) : Option V:=(kvs.find? fun kv=>decide (kv.1 = k)).map (·.2)
noncomputable def G1 (kvs : List (κ × V)) (k : κ) (v : V) : List (κ × V):=
  if (kvs.any fun kv=>decide (kv.1 = k)) = true then kvs.map (fun kv=>if kv.1 = k then (kv.1, v) else kv) else kvs ++ [(k, v)]
noncomputable def Co (kvs : List (κ × V)) (k : κ) : List (κ × V):=kvs.filter fun kv=>decide (kv.1 ≠ k)
theorem Jf {p : κ × V} {r : List (κ × V)} {k : κ} (e : p.1 = k) : US (p :: r) k = some p.2:=by simp [US, List.find?_cons, e]
theorem Jr {p : κ × V} {r : List (κ × V)} {k : κ} (e : ¬ p.1 = k) : US (p :: r) k = US r k:=by simp [US, List.find?_cons, e]
theorem VT (k : κ) : ∀ kvs : List (κ × V), (kvs.any fun kv=>decide (kv.1 = k)) = (US kvs k).isSome
  | []=>rfl
  | p :: r=>by
    rw [List.any_cons]
    by_cases e : p.1 = k
    . simp only [Jf e, decide_eq_true e, Bool.true_or, Option.isSome_some]
    . rw [Jr e, decide_eq_false e, Bool.false_or]; exact VT k r
theorem G7.isSome_eq {o : Option V} {u : Option Value} (r : G7 o u) : o.isSome = u.isSome:=by
  cases o with
  | none=>cases u with
    | none=>rfl
    | some _=>exact (show False from r).elim
  | some _=>cases u with
    | none=>exact (show False from r).elim
    | some _=>rfl
theorem G7.getD {o : Option V} {u : Option Value} {d : V} {d' : Value} (r : G7 o u) (rd : X8 d d') : X8 (o.getD d) (u.getD d'):=by
  cases o with
  | none=>cases u with
    | none=>exact rd
    | some _=>exact (show False from r).elim
  | some _=>cases u with
    | none=>exact (show False from r).elim
    | some _=>exact r
theorem KV.val {kvs : List (κ × V)} {vs : List (κ × Value)} (r : KV kvs vs) (k : κ) : G7 (US kvs k) (valueAt vs k):=by
  unfold KV at r
  induction r with
  | nil=>exact True.intro
  | @cons p q ps qs h t ih=>
    obtain ⟨h1, h2⟩:=h
    by_cases e : p.1 = k
    . have e' : q.1 = k := h1.symm.trans e
      have b : valueAt (q :: qs) k = some q.2:=by simp [valueAt, List.find?_cons, e']
      rw [Jf e, b]; exact h2
    . have e' : ¬ q.1 = k := fun z => e (h1.trans z)
      have b : valueAt (q :: qs) k = valueAt qs k:=by simp [valueAt, List.find?_cons, e']
      rw [Jr e, b]; exact ih
theorem KV.any {kvs : List (κ × V)} {vs : List (κ × Value)} (r : KV kvs vs) (k : κ) : (kvs.any fun kv=>decide (kv.1 = k)) = vs.any fun kv=>decide (kv.1 = k):=by
  unfold KV at r
  induction r with
  | nil=>rfl
  | cons h t ih=>rw [List.any_cons, List.any_cons, ih, h.1]
theorem KV.repl {kvs : List (κ × V)} {vs : List (κ × Value)} (r : KV kvs vs) (k : κ) {y : V} {u : Value} (ry : X8 y u) :
    KV (kvs.map fun kv=>if kv.1 = k then (kv.1, y) else kv) (vs.map fun kv=>if kv.1 = k then (kv.1, u) else kv):=by
  unfold KV at r ⊢
  induction r with
  | nil=>exact .nil
  | @cons p q ps qs h t ih=>
    rw [List.map_cons, List.map_cons]
    refine .cons ?_ ih
    obtain ⟨h1, h2⟩:=h
    by_cases e : p.1 = k
    . rw [if_pos e, if_pos (h1.symm.trans e)]; exact ⟨h1, ry⟩
    . rw [if_neg e, if_neg (fun z=>e (h1.trans z))]; exact ⟨h1, h2⟩
theorem KV.put {kvs : List (κ × V)} {vs : List (κ × Value)} (r : KV kvs vs) (k : κ) {y : V} {u : Value} (ry : X8 y u) : KV (G1 kvs k y) (stored vs k u):=by
  unfold G1 stored
  rw [r.any k]
  by_cases e : (vs.any fun kv=>decide (kv.1 = k)) = true
  . rw [if_pos e, if_pos e]; exact r.repl k ry
  . rw [if_neg e, if_neg e]; exact Paired.snoc r ⟨rfl, ry⟩
theorem KV.drop {kvs : List (κ × V)} {vs : List (κ × Value)} (r : KV kvs vs) (k : κ) : KV (Co kvs k) (without vs k):=by
  unfold KV at r ⊢
  unfold Co without
  induction r with
  | nil=>exact .nil
  | @cons p q ps qs h t ih=>
    obtain ⟨h1, h2⟩:=h
    rw [List.filter_cons, List.filter_cons]
    by_cases e : p.1 = k
    . have a : ¬ decide (p.1 ≠ k) = true := by simp [e]
      have b : ¬ decide (q.1 ≠ k) = true:=by simp [h1.symm.trans e]
      rw [if_neg a, if_neg b]; exact ih
    . have e' : ¬ q.1 = k := fun z => e (h1.trans z)
      have a : decide (p.1 ≠ k) = true:=by simp [e]
      have b : decide (q.1 ≠ k) = true:=by simp [e']
      rw [if_pos a, if_pos b]; exact .cons ⟨h1, h2⟩ ih
theorem KV.keys {kvs : List (κ × V)} {vs : List (κ × Value)} (r : KV kvs vs) : kvs.map (·.1) = vs.map (·.1):=by
  unfold KV at r
  induction r with
  | nil=>rfl
  | cons h t ih=>rw [List.map_cons, List.map_cons, ih, h.1]
theorem KV.length {kvs : List (κ × V)} {vs : List (κ × Value)} (r : KV kvs vs) : kvs.length = vs.length:=Paired.length r
end
noncomputable abbrev KT (H : Hp) : List (List Key × V) -> List (List Key × Addr × Value) -> Prop:=Paired fun p q=>p.1 = q.1 /\ H q.2.1 = some (.tup (p.1.map kV)) /\ X8 p.2 q.2.2
theorem KT.val {H : Hp} {kvs : List (List Key × V)} {xs : List (List Key × Addr × Value)} (r : KT H kvs xs) (k : List Key) : G7 (US kvs k) ((atKey xs k).map (·.2)):=by
  induction r with
  | nil=>exact True.intro
  | @cons p q ps qs h t ih=>
    obtain ⟨h1, _, h2⟩:=h
    by_cases e : p.1 = k
    . have e' : q.1 = k := h1.symm.trans e
      have b : atKey (q :: qs) k = some q.2:=by simp [atKey, List.find?_cons, e']
      rw [Jf e, b]; exact h2
    . have e' : ¬ q.1 = k := fun z => e (h1.trans z)
      have b : atKey (q :: qs) k = atKey qs k:=by simp [atKey, List.find?_cons, e']
      rw [Jr e, b]; exact ih
theorem KT.repl {H : Hp} {kvs : List (List Key × V)} {xs : List (List Key × Addr × Value)} (r : KT H kvs xs) (k : List Key) {y : V} {u : Value} (ry : X8 y u) :
    KT H (kvs.map fun kv=>if kv.1 = k then (kv.1, y) else kv) (xs.map (putAt k u)):=by
  induction r with
  | nil=>exact .nil
  | @cons p q ps qs h t ih=>
    rw [List.map_cons, List.map_cons]
    refine .cons ?_ ih
    obtain ⟨h1, h2, h3⟩:=h
    unfold putAt
    by_cases e : p.1 = k
    . rw [if_pos e, if_pos (h1.symm.trans e)]; exact ⟨h1, h2, ry⟩
    . rw [if_neg e, if_neg (fun z=>e (h1.trans z))]; exact ⟨h1, h2, h3⟩
theorem KT.put {H : Hp} {kvs : List (List Key × V)} {xs : List (List Key × Addr × Value)} (r : KT H kvs xs) (k : List Key) {b : Addr} {y : V} {u : Value} (hb : H b = some (.tup (k.map kV))) (ry : X8 y u) :
    KT H (G1 kvs k y) (storedH xs k b u):=by
  have e : (kvs.any fun kv=>decide (kv.1 = k)) = (atKey xs k).isSome:=by
    rw [VT, (r.val k).isSome_eq, Option.isSome_map]
  unfold G1 storedH
  rw [e]
  by_cases q : (atKey xs k).isSome = true
  . rw [if_pos q, if_pos q]; exact r.repl k ry
  . rw [if_neg q, if_neg q]; exact Paired.snoc r ⟨rfl, hb, ry⟩
theorem KT.keeps {H H' : Hp} {kvs : List (List Key × V)} {xs : List (List Key × Addr × Value)} (r : KT H kvs xs) (ht : ∀ b ys, H b = some (.tup ys) -> H' b = some (.tup ys)) : KT H' kvs xs:=
  Paired.mapP r fun _ _ z=>⟨z.1, ht _ _ z.2.1, z.2.2⟩
section
variable {P : Program} {w : World} {H : Hp} {h : Heap} {a : Addr}
end
noncomputable def BB (H : Hp) (a : Addr) (y : V) (r : Option V) : Prop:=
  (∃ kvs k, Rd H a (.dK kvs) /\ y = kV k /\ r = US kvs k) ∨ ∃ kvs k b, Rd H a (.dT kvs) /\ y = .ref b /\ H b = some (.tup (k.map kV)) /\ r = US kvs k
noncomputable def BA (H : Hp) (a : Addr) (y v : V) (H' : Hp) : Prop:=
  (∃ kvs k, H a = some (.dK kvs) /\ y = kV k /\ kvs.length < sizeLine /\ H' = upd H a (.dK (G1 kvs k v))) ∨
  ∃ kvs k b, H a = some (.dT kvs) /\ y = .ref b /\ H b = some (.tup (k.map kV)) /\ kvs.length < sizeLine /\ H' = upd H a (.dT (G1 kvs k v))
theorem BB.k {H : Hp} {a : Addr} {kvs : List (Key × V)} {k : Key} (e : H a = some (.dK kvs)) : BB H a (kV k) (US kvs k):=.inl ⟨kvs, k, .inl e, rfl, rfl⟩
theorem BB.t {H : Hp} {a b : Addr} {kvs : List (List Key × V)} {k : List Key} (e : H a = some (.dT kvs)) (eb : H b = some (.tup (k.map kV))) : BB H a (.ref b) (US kvs k):=.inr ⟨kvs, k, b, .inl e, rfl, eb, rfl⟩
theorem BA.k {H : Hp} {a : Addr} {kvs : List (Key × V)} {k : Key} {v : V} (e : H a = some (.dK kvs)) (hl : kvs.length < sizeLine) : BA H a (kV k) v (upd H a (.dK (G1 kvs k v))):=.inl ⟨kvs, k, e, rfl, hl, rfl⟩
theorem BA.t {H : Hp} {a b : Addr} {kvs : List (List Key × V)} {k : List Key} {v : V} (e : H a = some (.dT kvs)) (eb : H b = some (.tup (k.map kV))) (hl : kvs.length < sizeLine) :
    BA H a (.ref b) v (upd H a (.dT (G1 kvs k v))):=.inr ⟨kvs, k, b, e, rfl, eb, hl, rfl⟩
section
variable {X : Cx} {pins : List (Addr × Obj)} {σ : St} {H : Hp} {s : Shared} {a : Addr} {y v : V} {u r : Value} {o : Option V} {A : Around} {E : Value -> Shared -> Prop}
end
section
variable {X : Cx} {pins : List (Addr × Obj)} {σ : St} {H : Hp} {s : Shared} {a : Addr} {kvs : List (Key × V)} {k : Key} {u : Value} {A : Around} {E : Value -> Shared -> Prop}
end
section
variable {X : Cx} {o i e value : Expr} {pos pos' tpos : Pos} {td ty tv : TE}
end
section
variable {X : Cx} {pos : Pos}
end
section
variable {X : Cx} {pins : List (Addr × Obj)} {σ : St} {H : Hp} {s : Shared} {a : Addr} {y d : V} {u r : Value} {o : Option V} {A : Around} {E : Value -> Shared -> Prop}
end
section
variable {X : Cx} {o e f : Expr} {apos cpos : Pos} {td ty tx : TE}
end
section
variable {X : Cx} {pins : List (Addr × Obj)} {σ : St} {H : Hp} {s : Shared} {a : Addr} {kvs : List (Key × V)} {A : Around} {E : Value -> Shared -> Prop}
end
section
variable {X : Cx} {pins : List (Addr × Obj)} {σ : St} {H : Hp} {s : Shared} {a : Addr} {y : V} {u : Value} {A : Around} {E : Value -> Shared -> Prop}
end
end L2
namespace L2
open PySem PySem.Spec PyProof.Rows
section
variable {X : Cx}
end
section
variable {κ : Type} [DecidableEq κ]
end
end L2
namespace L2
open PySem PySem.Spec PyProof.Rows
theorem UW {env : Env} : ∀ (names : List (Str × NameKind)), (∀ x ∈ names, x.2 = NameKind.free -> ∃ c, env.cells.lookup x.1 = some c) ->
    ∀ cs : List (Str × Addr), (∀ x c, cs.lookup x = some c -> env.cells.lookup x = some c) ->
    ∃ cl : List (Str × Addr), (forIn names cs (fun (x : Str × NameKind) (r : List (Str × Addr))=>(if (x.2 == NameKind.free) = true then do let a ← cellOf env x.1; pure (ForInStep.yield ((x.1, a) :: r)) else pure (ForInStep.yield r) : Sem (ForInStep (List (Str × Addr)))))) = (pure cl : Sem (List (Str × Addr))) /\
      (∀ x c, cl.lookup x = some c -> env.cells.lookup x = some c) /\ (∀ x, ((x, NameKind.free) ∈ names ∨ ∃ c, cs.lookup x = some c) -> ∃ c, cl.lookup x = some c)
  | [], _, cs, hs=>⟨cs, by rw [List.forIn_nil], hs, fun x h=>h.elim (fun z=>nomatch z) id⟩
  | (n, k) :: r, hf, cs, hs=>by
    have hr : ∀ x ∈ r, x.2 = NameKind.free -> ∃ c, env.cells.lookup x.1 = some c:=fun x hx=>hf x (List.mem_cons_of_mem _ hx)
    by_cases hk : k = NameKind.free
    . subst hk
      obtain ⟨a, ha⟩:=hf (n, NameKind.free) List.mem_cons_self rfl
      have hs' : ∀ x c, ((n, a) :: cs).lookup x = some c -> env.cells.lookup x = some c:=fun x c h=>by
        rw [List.lookup_cons] at h
        by_cases hx : x = n
        . subst hx
          simp only [beq_self_eq_true] at h
          rw [← h]; exact ha
        . have : (x == n) = false := beq_eq_false_iff_ne.mpr hx
          rw [this] at h
          exact hs x c h
      obtain ⟨cl, e, h1, h2⟩:=UW r hr ((n, a) :: cs) hs'
      refine ⟨cl, ?_, h1, fun x h=>h2 x ?_⟩
      . rw [List.forIn_cons]
        have e1 : cellOf env n = pure a:=by unfold cellOf; rw [show env.cells.lookup n = some a from ha]
        simp only [beq_self_eq_true, if_true, e1]
        exact e
      . rcases h with h | ⟨c, h⟩
        . rcases List.mem_cons.mp h with h | h
          . have : x = n := congrArg Prod.fst h
            subst this
            exact .inr ⟨a, by rw [List.lookup_cons]; simp⟩
          . exact .inl h
        . by_cases hx : x = n
          . subst hx; exact .inr ⟨a, by rw [List.lookup_cons]; simp⟩
          . exact .inr ⟨c, by rw [List.lookup_cons, beq_eq_false_iff_ne.mpr hx]; exact h⟩
    . obtain ⟨cl, e, h1, h2⟩ := UW r hr cs hs
      refine ⟨cl, ?_, h1, fun x h=>h2 x ?_⟩
      . rw [List.forIn_cons]
        have hb : (k == NameKind.free) = false:=by simpa using hk
        simp only [hb, Bool.false_eq_true, if_false]
        exact e
      . rcases h with h | h
        . rcases List.mem_cons.mp h with h | h
          . exact absurd (congrArg Prod.snd h).symm hk
          . exact .inl h
        . exact .inr h
theorem KJ {scope : Scope} {env : Env} (hf : ∀ x ∈ scope.names, x.2 = NameKind.free -> ∃ c, env.cells.lookup x.1 = some c) :
    ∃ cl : List (Str × Addr), closureFor scope env = pure cl /\ (∀ x c, cl.lookup x = some c -> env.cells.lookup x = some c) /\ (∀ x, (x, NameKind.free) ∈ scope.names -> ∃ c, cl.lookup x = some c):=by
  obtain ⟨cl, e, h1, h2⟩:=UW scope.names hf [] (fun x c h=>by simp at h)
  refine ⟨cl, ?_, h1, fun x h=>h2 x (.inl h)⟩
  unfold closureFor
  show ((forIn scope.names [] (fun (x : Str × NameKind) (r : List (Str × Addr))=>(if (x.2 == NameKind.free) = true then do let a ← cellOf env x.1; pure (ForInStep.yield ((x.1, a) :: r)) else pure (ForInStep.yield r) : Sem (ForInStep (List (Str × Addr)))))) >>= fun s=>pure s) = pure cl
  rw [e]
  rfl
theorem ZA {env : Env} : ∀ {names : List (Str × NameKind)} {x : Str} {k : NameKind}, (∀ y ∈ names, y.2 ≠ NameKind.cell) ->
    (names.map fun (n, k)=>if (k == NameKind.free && env.scope.kind == .function && env.kindOf n == some .cell) then (n, NameKind.cell) else (n, k)).lookup x = some k -> (k = .cell ∨ k = .free) -> (x, NameKind.free) ∈ names
  | [], _, _, _, h, _=>by simp at h
  | (n, kk) :: r, x, k, hc, h, hk=>by
    have ih:=@ZA env r x k (fun y hy=>hc y (List.mem_cons_of_mem _ hy))
    have hh:=hc (n, kk) List.mem_cons_self
    simp only [List.map_cons] at h
    by_cases hcond : (kk == NameKind.free && env.scope.kind == .function && env.kindOf n == some .cell) = true
    . rw [if_pos hcond, List.lookup_cons] at h
      have hfree : kk = NameKind.free:=by
        rw [Bool.and_eq_true, Bool.and_eq_true] at hcond
        simpa using hcond.1.1
      cases hx : x == n with
      | true=>
        have : x = n:=by simpa using hx
        subst this; subst hfree
        exact List.mem_cons_self
      | false=>rw [hx] at h; exact List.mem_cons_of_mem _ (ih h hk)
    . rw [if_neg hcond, List.lookup_cons] at h
      cases hx : x == n with
      | true=>
        rw [hx] at h
        have hkk : kk = k:=Option.some.inj h
        have : x = n:=by simpa using hx
        subst this; subst hkk
        rcases hk with z | z
        . exact absurd z hh
        . subst z; exact List.mem_cons_self
      | false=>rw [hx] at h; exact List.mem_cons_of_mem _ (ih h hk)
theorem Z1 {env : Env} : ∀ {names : List (Str × NameKind)} {x : Str}, names.lookup x = some .free ->
    let l:=(names.map fun (n, k)=>if (k == NameKind.free && env.scope.kind == .function && env.kindOf n == some .cell) then (n, NameKind.cell) else (n, k))
    l.lookup x = some .cell ∨ l.lookup x = some .free
  | [], _, h=>by simp at h
  | (n, kk) :: r, x, h=>by
    have ih:=@Z1 env r x
    simp only [List.map_cons]
    rw [List.lookup_cons] at h
    by_cases hcond : (kk == NameKind.free && env.scope.kind == .function && env.kindOf n == some .cell) = true
    . rw [if_pos hcond, List.lookup_cons]
      cases hx : x == n with
      | true=>exact .inl rfl
      | false=>rw [hx] at h; exact ih h
    . rw [if_neg hcond, List.lookup_cons]
      cases hx : x == n with
      | true=>rw [hx] at h; exact .inr h
      | false=>rw [hx] at h; exact ih h
noncomputable abbrev Cx.comp (X : Cx) (N : List Str) (scope : Scope) (cl : List (Str × Addr)) (C : Addr) (s : Shared) (H : Hp) (ex : List Addr) (E : Value -> Shared -> Prop) : Cx:=
  { X with N:=N, s₀:=s, H₀:=H, env:=compEnvC scope cl C X.env, outer:=X.stack, ex:=ex, fn:=fun _=>false, pn:=[], xe:=E }
noncomputable def PTs (X : Cx) (ifs : List Expr) (t : TT) : Prop:=
  ∀ (pins : List (Addr × Obj)) (s : Shared) (σ : St) (H : Hp) (Q : Bool -> Hp -> Prop), Inv X pins σ H s -> t σ H Q ->
    wpAny (model X.prog X.w) X.A (forIn ifs true fun c r=>if r = true then do let ok ← isTrue c X.env (eval c X.env); pure (ForInStep.yield ok) else pure (ForInStep.yield r)) (TP X pins σ Q) X.xe s
noncomputable def Q6 : TT:=fun _ H Q=>Q true H
theorem Bv {σ : St} {H : Hp} {A B : Hp -> Prop} (h : A H) : Q6 σ H fun c H5=>if c = true then A H5 else B H5:=by
  show if true = true then A H else B H
  rw [if_pos rfl]
  exact h
theorem Vm {X : Cx} : PTs X [] Q6:=fun _ _ _ H _ I h=>wpAny_tests_nil ⟨H, I, h⟩
theorem KN {X : Cx} {c : Expr} {t : TT} (h : PT X c t) : PTs X [c] t:=fun pins s σ H Q I hw=>wpAny_tests_one (h pins s σ H Q I hw)
noncomputable def J0 (n : Nat) (g : TG) : Prop:=∀ x σ H Q, g x σ H Q -> g x σ H fun σ2 H2=>Q σ2 H2 /\ σ2.length = σ.length /\ ∀ i, n <= i -> σ2[i]? = σ[i]?
theorem QF {n i : Nat} (h : i < n) : J0 n (Z6 i):=fun x σ H Q q=>⟨q, by simp, fun j hj=>by rw [List.getElem?_set_ne (by lia)]⟩
noncomputable def ZN (n : Nat) (caps : List (Nat × Str)) (σ : St) : St:=List.replicate n none ++ caps.map fun p=>(σ[p.1]?).join
noncomputable def Dj (g : TG) (tt : TT) (te : TE) (σ : St) (Q : VK) (J : It) (W : Nat -> Nat -> List V -> Hp -> Prop) : Prop:=
  ∀ i m ys H2, W i m ys H2 -> ys.length <= sizeLine /\
    ((J.stop i H2 /\ ∀ p, H2 p = none -> Q (.ref p) (upd H2 p (.lst ys))) ∨
    (J.go i H2 /\ ∃ N : List V -> Hp -> Prop, (∀ ys' H', N ys' H' -> ∃ m', m' < m /\ W (i + 1) m' ys' H') /\ ∀ x H3, J.yld i H2 x H3 -> g x σ H3 fun σ4 H4=>tt σ4 H4 fun c H5=>
      if c = true then te σ4 H5 fun v H6=>N (ys ++ [v]) H6 else N ys H5))
noncomputable def Ff (n : Nat) (caps : List (Nat × Str)) (g : TG) (tt : TT) (te : TE) (σ : St) (Q : VK) (J : It) (H1 : Hp) : Prop:=
  ∃ W : Nat -> Nat -> List V -> Hp -> Prop, (∃ m, W 0 m [] H1) /\ Dj g tt te (ZN n caps σ) Q J W
noncomputable def KO (n : Nat) (caps : List (Nat × Str)) (wi : TI) (g : TG) (tt : TT) (te : TE) : TE:=fun σ H Q=>wi σ H fun J H1=>Ff n caps g tt te σ Q J H1
noncomputable def JC (sc scope : Scope) (N0 tns : List Str) (caps : List (Nat × Str)) : Bool:=
  scope.kind == .function && scope.names.all (fun y=>!(y.2 == .cell)) && scope.names.all (fun y=>!(y.2 == .local) || scope.names.lookup y.1 == some .local) &&
  scope.names.all (fun y=>!(y.2 == .free) || sc.names.lookup y.1 == some .cell) && caps.all (fun p=>N0[p.1]? == some p.2 && sc.names.lookup p.2 == some .cell && scope.names.lookup p.2 == some .free)
theorem Uj {α : Type} {p : α} {P : Prop} (h : p ∈ ([] : List α)) : P:=nomatch h
noncomputable def Bs (M : Model) (A : Around) (elt tg : Expr) (ifs : List Expr) (acc : Value) (env : Env) (E : Value -> Shared -> Prop) (K : Shared -> Prop) (v : Value) (s : Shared) : Prop:=
  wpAny M A (assign tg env v) (fun _ s₂=>wpAny M A (forIn ifs true fun c r=>if r = true then do let ok ← isTrue c env (eval c env); pure (ForInStep.yield ok) else pure (ForInStep.yield r)) (fun ok s₃=>
    if ok = true then wpAny M A (eval elt env) (fun x s₄=>wpAny M A (call (.builtin "list.append") [acc, x]) (fun _ s₅=>K s₅) E s₄) E s₃ else K s₃) E s₂) E s
noncomputable def BI (M : Model) (A : Around) (elt tg : Expr) (ifs : List Expr) (it acc : Value) (env : Env) (E : Value -> Shared -> Prop) (Rn K : Shared -> Prop) (s : Shared) : Prop:=
  wpAny M A (pyNext it) (fun r s₁=>r = none /\ Rn s₁ ∨ ∃ v, r = some v /\ wpAny M A (letOwnedTupleGo tg it v) (fun _ s₁=>Bs M A elt tg ifs acc env E K v s₁) E s₁) E s
section
variable {prog : Program} {w : World} {A : Around} {R : Result -> Shared -> Prop} {s : Shared}
theorem JM {elt target iter : Expr} {ifs : List Expr} {scope : Scope} {pos : Pos} {it acc : Value} {env : Env} {E : Value -> Shared -> Prop} (I : Nat -> Shared -> Prop) (hE : (notedBy (model prog w) A env fun e s'=>R (.error e) s') = E)
    (turn : ∀ n s, I n s -> BI (model prog w) A elt target ifs it acc env E (fun s=>R (.ok .next) s) (fun s=>∃ m, m < n /\ I m s) s) (n : Nat) (h : I n s) :
    codeAny (model prog w) A (.compLoop (.ListComp elt [⟨target, iter, ifs, 0⟩] scope pos) 0 it acc env) R s:=by
  subst hE
  refine codeAny_loop rfl I (fun n s hI=>?_) n h
  show wpAny _ A ((compTurn (.ListComp elt [⟨target, iter, ifs, 0⟩] scope pos) 0 it acc env).onRaise (fun x=>do noteFrame x env; theTreesLotGoes x)) _ _ s
  refine wpAny_noted ?_
  rw [compTurn_list]
  refine wpAny_bind (wpAny_standAt (wpAny_bind (thn (turn n s hI) fun r s₁ h₁=>?_)))
  rcases h₁ with ⟨rfl, h₁⟩ | ⟨v, rfl, h₁⟩
  . exact wpAny_pure h₁
  . refine wpAny_bind (thn h₁ fun _ s₁' h₁' => wpAny_bind (thn h₁' fun _ s₂ h₂ => wpAny_bind (thn h₂ fun ok s₃ h₃ => ?_)))
    cases ok with
    | false=>exact wpAny_pure ⟨rfl, h₃⟩
    | true=>exact wpAny_bind (wpAny_bind (thn h₃ fun x s₄ h₄=>wpAny_bind (thn h₄ fun _ s₅ h₅=>wpAny_pure (wpAny_pure ⟨rfl, h₅⟩))))
end
noncomputable def lob (its : List Value) (k : Nat) : Obj:={ cls:=.type "list", data:=.seq (List.toArray its) k }
structure CIn (Y : Cx) (tn : Nat -> Heap -> Prop) (fp : List Addr) (D : Addr) (σ : St) (i : Nat) (H : Hp) (o : Obj) (s : Shared) : Prop where
  I : Inv Y [] σ H s
  t : tn i s.heap
  f : ∀ b ∈ fp, H b = none
  l : s.heap.get? D = some o
  n : H D = none
inductive CI (Y : Cx) (tn : Nat -> Heap -> Prop) (fp : List Addr) (D : Addr) (σ : St) (W : Nat -> Nat -> List V -> Hp -> Prop) (m : Nat) (s : Shared) : Prop
  | mk (i : Nat) (H : Hp) (ys : List V) (its : List Value) (k : Nat) (c : CIn Y tn fp D σ i H (lob its k) s) (r : XV ys its) (w : W i m ys H)
structure CAt (Y : Cx) (fp : List Addr) (D : Addr) : Prop where
  calm : Y.calm = true
  pn : Y.pn = []
  ne : D ≠ Y.env.locals
  fs : D ∉ Y.fs
  sz : Y.s₀.heap.objs.size <= D
  cl : ∀ x c, Y.env.cells.lookup x = some c -> c ≠ D
  fpn : ∀ b ∈ fp, b ≠ D
  ok : ∀ b ∈ fp, ∀ H : Hp, H b = none -> UI Y [] H b
section
variable {Y : Cx} {tn : Nat -> Heap -> Prop} {fp : List Addr} {D it : Addr} {σ : St} {tg elt iter : Expr} {ifs : List Expr} {J : It} {g : TG} {tt : TT} {te : TE} {n i : Nat} {H : Hp} {s : Shared} {o : Obj} {Kn : Shared -> Prop}
theorem CAt.pins (c : CAt Y fp D) (hn : ∀ b ∈ fp, H b = none) : ∀ b ∈ fp, UI Y [(D, o)] H b:=fun b hb=>
  have z:=c.ok b hb H (hn b hb)
  ⟨z.1, z.2.1, z.2.2.1, z.2.2.2.1, z.2.2.2.2.1, fun p hp e=>by
    rw [c.pn] at hp
    cases List.mem_singleton.mp hp
    exact c.fpn b hb e.symm⟩
theorem Uh (T : Turn Y.prog Y.w Y.K tg J fp it tn) {h5 : Heap} (t : tn i h5) (I : Inv Y ([(D, o)] ++ JL fp h5) σ H s) : CIn Y tn fp D σ i H o s:=
  have p:=I.pin (D, o) (List.mem_append_right _ (.head _))
  have q : ∀ b ∈ fp, ∀ o', h5.get? b = some o' -> s.heap.get? b = some o' /\ H b = none:=fun b hb o' e=>have z:=I.pin (b, o') (List.mem_append_right _ (.tail _ (ZV hb e))); ⟨z.1, z.2.1⟩
  ⟨I.pins_of (pins':=[]) fun _ h=>Uj h, T.keep _ _ _ t fun b hb o' e=>(q b hb o' e).1, fun b hb=>(T.obj _ _ t b hb).elim fun o' e=>(q b hb o' e.1).2, p.1, p.2.1⟩
theorem Eg (T : Turn Y.prog Y.w Y.K tg J fp it tn) (a : CAt Y fp D) {its : List Value} {k : Nat} {v : Value} {E : Value -> Shared -> Prop} (c : CIn Y tn fp D σ i H (lob its k) s) (hz : its.length <= sizeLine)
    (hQ : ∀ k' s', CIn Y tn fp D σ i H (lob (its ++ [v]) k') s' -> Kn s') : wpAny (model Y.prog Y.w) Y.A (call (.builtin "list.append") [.ref D, v]) (fun _ s=>Kn s) E s:=by
  refine call_meets F.slot_list_append ⟨_, c.l, rfl⟩ F.entry_list_append (F.args_list_append_2 _ _) (PySem.list_append D (List.toArray its) k v hz) ⟨c.l, ?_⟩
  have q : ∃ k', PySem.IsL (s.heap.update D (Obj.mapSeq (·.push v))) D ((List.toArray its).push v) k':=⟨_, PySem.IsL.update c.l (·.push v)⟩
  rw [List.push_toArray] at q
  obtain ⟨k', q⟩:=q
  exact hQ k' _ ⟨c.I.turned (t':=s.toks) (h':=s.heap.update D (Obj.mapSeq (·.push v))) (it:=D) (fun b o hb' e=>(Heap.get?_update_other s.heap _ (Ne.symm hb')).trans e) c.n a.ne (.inr a.sz) a.cl (fun p hp=>by rw [a.pn] at hp; exact Uj hp),
    T.keep _ _ _ c.t fun b hb o e=>(Heap.get?_update_other s.heap _ (Ne.symm (a.fpn b hb))).trans e, c.f, q, c.n⟩
theorem GB {acc : Value} {pins : List (Addr × Obj)} {N : List V -> Hp -> Prop} {ys : List V} {x : V} {u : Value} (hg : PG Y tg g) (ht : PTs Y ifs tt) (he : PE Y elt te) (hG : J0 n g) (h0 : ∀ (j : Nat) v, σ[j]? = some (some v) -> n <= j)
    (I : Inv Y pins σ H s) (r : X8 x u) (st : g x σ H fun σ4 H4=>tt σ4 H4 fun c H5=>if c = true then te σ4 H5 fun v H6=>N (ys ++ [v]) H6 else N ys H5)
    (hF : ∀ H7 s7, Inv Y pins σ H7 s7 -> N ys H7 -> Kn s7) (hT : ∀ H8 s8 y v, Inv Y pins σ H8 s8 -> X8 y v -> N (ys ++ [y]) H8 -> wpAny (model Y.prog Y.w) Y.A (call (.builtin "list.append") [acc, v]) (fun _ s=>Kn s) Y.xe s8) :
    Bs (model Y.prog Y.w) Y.A elt tg ifs acc Y.env Y.xe Kn u s:=by
  refine thn (hg _ s _ H x u _ I r (hG _ _ _ _ st)) fun _ s6 ⟨σ6, H6, I6, q6, l6, k6⟩=>?_
  have wk : ∀ (j : Nat) v, σ[j]? = some (some v) -> σ6[j]? = some (some v):=fun j v e=>(k6 j (h0 j v e)).trans e
  refine thn (ht _ s6 σ6 H6 _ I6 q6) fun c s7 ⟨H7, I7, q7⟩=>?_
  cases c with
  | false=>exact hF _ _ (I7.weak l6.symm wk) q7
  | true=>exact thn (he _ s7 σ6 H7 _ I7 q7) fun v8 s8 ⟨y8, H8, I8, r8, n8⟩=>hT _ _ _ _ (I8.weak l6.symm wk) r8 n8
theorem Ut {scope : Scope} {pos : Pos} {Q : V -> Hp -> Prop} {R : Result -> Shared -> Prop} (hE : (notedBy (model Y.prog Y.w) Y.A Y.env fun e s'=>R (.error e) s') = Y.xe)
    (T : Turn Y.prog Y.w Y.K tg J fp it tn) (hG : J0 n g) (hg : PG Y tg g) (ht : PTs Y ifs tt) (he : PE Y elt te) (a : CAt Y fp D) (h0 : ∀ (j : Nat) v, σ[j]? = some (some v) -> n <= j)
    {W : Nat -> Nat -> List V -> Hp -> Prop} (turn : Dj g tt te σ Q J W)
    (hEnd : ∀ ys its k H3 s4, Inv Y [(D, lob its k)] σ H3 s4 -> XV ys its -> ys.length <= sizeLine -> Q (.ref D) (upd H3 D (.lst ys)) -> R (.ok .next) s4) {m0 : Nat} (hi : CI Y tn fp D σ W m0 s) :
    codeAny (model Y.prog Y.w) Y.A (.compLoop (.ListComp elt [⟨tg, iter, ifs, 0⟩] scope pos) 0 (.ref it) (.ref D) Y.env) R s:=by
  refine JM (CI Y tn fp D σ W) hE (fun m s3 c=>?_) m0 hi
  cases c with
  | mk i H3 ys its k c rv w3=>
  have I3 : Inv Y [(D, lob its k)] σ H3 s3:=c.I.pins_of fun p hp=>List.mem_singleton.mp hp ▸ ⟨c.l, c.n, a.ne, a.fs, fun _ z=>by cases z⟩
  have t:=turn i m ys H3 w3
  refine t.2.elim (fun q=>?_) fun q=>?_
  . exact thn (T.done Y rfl rfl rfl a.calm i _ s3 _ H3 Y.xe I3 (a.pins c.f) c.t q.1) fun r s4 h=>.inl ⟨h.1, hEnd ys its k H3 s4 h.2 rv t.1 (q.2 D c.n)⟩
  . refine q.2.elim fun NN h => ?_
    refine thn (T.item Y rfl rfl rfl a.calm i _ s3 _ H3 Y.xe I3 (a.pins c.f) c.t q.1) fun r s4 h4=>.inr (h4.elim fun u h4=>⟨u, h4.1, thn h4.2 fun _ s5 h5=>h5.elim fun x h5=>h5.elim fun H5 h5=>?_⟩)
    exact GB hg ht he hG h0 (h5.1.pinned (a.pins h5.2.2.2.2) (T.obj _ _ h5.2.2.2.1)) h5.2.1 (h.2 x H5 h5.2.2.1)
      (fun H7 s7 I7 q7=>(h.1 _ _ q7).elim fun m' z=>⟨m', z.1, .mk (i + 1) H7 ys its k (Uh T h5.2.2.2.1 I7) rv z.2⟩)
      fun H8 s8 y v I8 r8 q8=>(h.1 _ _ q8).elim fun m' z=>Eg T a (Uh T h5.2.2.2.1 I8) (rv.length ▸ t.1) fun k' s' c'=>⟨m', z.1, .mk (i + 1) H8 (ys ++ [y]) (its ++ [v]) k' c' (rv.append (.cons r8 .nil)) z.2⟩
end
section
variable {X : Cx} {elt tg iter : Expr} {ifs : List Expr} {scope sc : Scope} {pos : Pos} {n : Nat} {tns : List Str} {caps : List (Nat × Str)} {wi : TI} {g : TG} {tt : TT} {te : TE}
structure CompEnd (X : Cx) (pins : List (Addr × Obj)) (σ : St) (H3 : Hp) (D C : Addr) (ys : List V) (s' : Shared) : Prop where
  inv : Inv X pins σ (upd H3 D (.lst ys)) s'
  fresh : H3 D = none
  fp : UI X pins (upd H3 D (.lst ys)) C
  ns : ∃ m, s'.heap.Ns C m
theorem GT {pins : List (Addr × Obj)} {σ σ' : St} {H H3 : Hp} {s s4 : Shared} {D C : Addr} {fp : List Addr} {its : List Value} {k : Nat} {ys : List V} {Y : Cx} (I : Inv X pins σ H s) (hf : ∀ b ∈ fp, UI X pins H b) (hD : s.heap.objs.size <= D) (hDlt : D < C)
    (I4 : Inv Y [(D, lob its k)] σ' H3 s4) (hos : s4.os = s.os) (u : Un (frs X.stack) fp H H3 s.heap s4.heap) (hok : HOk X.prog X.w H3 s4.heap) (hC : Y.env.locals = C) (rv : XV ys its) (hz : ys.length <= sizeLine) : CompEnd X pins σ H3 D C ys s4:=by
  subst hC
  have p:=I4.pin (D, lob its k) (List.mem_append_right _ (.head _))
  have hDn : H3 D = none:=p.2.1
  have up : ∀ {b : Addr} {o : HO}, H3 b = some o -> upd H3 D (.lst ys) b = some o:=fun e=>(XM (Yb e hDn)).trans e
  refine ⟨I.call' (ch:=fp) hos ⟨u.keep, u.slot, fun b o e nn hx=>(XM (Nat.ne_of_lt (Nat.lt_of_lt_of_le (Heap.lt_size e) hD))).trans (u.free b o e nn hx), u.there, fun b xs e=>up (u.tups b xs e), fun b o xs e=>up (u.frzs b o xs e), fun b ps e=>(u.tbls b ps e).elim fun more z=>⟨more, up z⟩⟩ (fun a o e=>?_) I4.bare fun b hb=>have z:=hf b hb; ⟨z.2.2.2.1, z.2.1, z.2.2.2.2.1, z.2.2.2.2.2⟩, hDn, I.fpOk (Nat.le_trans hD (Nat.le_of_lt hDlt)) ((XM (Nat.ne_of_gt hDlt)).trans I4.free), I4.loc.elim fun m z=>⟨m, z.1⟩⟩
  by_cases ha : a = D
  . subst ha
    rw [Yn] at e; cases e
    exact ⟨hz, its, k, rv, p.1⟩
  . rw [XM ha] at e
    exact (hok a o e).stay (fun b u _ q=>q) (fun b q=>up q) fun b xs q=>up q
noncomputable def Ek (X : Cx) (elt tg iter : Expr) (ifs : List Expr) (scope : Scope) (pos : Pos) (it : Value) (cl : List (Str × Addr)) (RR : Value -> Addr -> Result -> Shared -> Prop) (E : Value -> Shared -> Prop) (s : Shared) : Prop:=
  wpAny (model X.prog X.w) X.A (newList []) (fun acc s₃=>wpAny (model X.prog X.w) X.A (newFunctionEnv scope X.env.globals cl [] X.env.qual none .none (some X.env)) (fun cenv s₄=>
      codeAny (model X.prog X.w) X.A (.compStart (.ListComp elt [⟨tg, iter, ifs, 0⟩] scope pos) 0 it acc { cenv with scope:=relabel scope X.env }) (RR acc cenv.locals) s₄) E s₃) E s
theorem JN {σ : St} {i : Nat} {v : V} (e : (ZN n caps σ)[i]? = some (some v)) : n <= i /\ ∃ p, caps[i - n]? = some p /\ σ[p.1]? = some (some v):=by
  unfold ZN at e
  by_cases h : i < n
  . rw [List.getElem?_append_left (by simpa using h), List.getElem?_replicate, if_pos h] at e
    cases e
  . have hi := Nat.le_of_not_lt h
    rw [List.getElem?_append_right (by simpa using hi), List.length_replicate, List.getElem?_map] at e
    refine ⟨hi, ?_⟩
    cases hcp : caps[i - n]? with
    | none=>rw [hcp] at e; cases e
    | some p=>
      rw [hcp] at e
      exact ⟨p, rfl, Option.join_eq_some_iff.mp (Option.some.inj e)⟩
structure COk (X : Cx) (scope : Scope) (caps : List (Nat × Str)) : Prop where
  kind : scope.kind = .function
  cell : ∀ y ∈ scope.names, y.2 ≠ NameKind.cell
  loc : ∀ y ∈ scope.names, y.2 = .local -> scope.names.lookup y.1 = some .local
  free : ∀ y ∈ scope.names, y.2 = .free -> X.env.scope.names.lookup y.1 = some .cell
  caps : ∀ p ∈ caps, (X.N[p.1]? = some p.2 /\ X.env.scope.names.lookup p.2 = some .cell) /\ scope.names.lookup p.2 = some .free
theorem COk.of {N0 : List Str} (hsc : X.env.scope = sc) (hN0 : X.N = N0) (ok : JC sc scope N0 tns caps = true) : COk X scope caps:=by
  subst hsc
  subst hN0
  unfold JC at ok
  simp only [Bool.and_eq_true, List.all_eq_true, beq_iff_eq, Bool.or_eq_true, Bool.not_eq_true', beq_eq_false_iff_ne] at ok
  exact ⟨ok.1.1.1.1, ok.1.1.1.2, fun y hy e=>(ok.1.1.2 y hy).resolve_left (absurd e), fun y hy e=>(ok.1.2 y hy).resolve_left (absurd e), ok.2⟩
section
variable {pins : List (Addr × Obj)} {σ : St} {H : Hp} {s : Shared} {fp : List Addr} {cl : List (Str × Addr)} {C : Addr} {E : Value -> Shared -> Prop} {N : List Str} {h₁ : Heap}
theorem FU (ok : COk X scope caps) (I : Inv X pins σ H s) (hf : ∀ b ∈ fp, UI X pins H b) (hlt : ∀ b ∈ fp, b < s.heap.objs.size)
    (hsub : ∀ x c, cl.lookup x = some c -> X.env.cells.lookup x = some c) (hall : ∀ x, (x, NameKind.free) ∈ scope.names -> ∃ c, cl.lookup x = some c) (hC : s.heap.objs.size < C) : (X.comp N scope cl C s H fp E).Ok:=
  ⟨I.ok.mod, ok.kind, I.ok.glob, I.ok.blt, Nat.le_of_lt hC, fun x y c h1 h2=>I.ok.inj x y c (hsub x c h1) (hsub y c h2), fun x hx=>hall x (hx.elim (fun z=>ZA ok.cell z (.inl rfl)) fun z=>ZA ok.cell z (.inr rfl)), (fun x c hx=>by cases hx), I.ok.hd, I.ok.frames, .inl rfl,
    fun b hb=>⟨Nat.ne_of_lt (Nat.lt_trans (hlt b hb) hC), fun x c e=>(hf b hb).2.2.2.2.1 x c (hsub x c e)⟩, I.bs, Nat.le_trans I.ok.bsz I.sz, fun b o e hb=>(hf b hb).2.2.2.1.elim (I.ok.noex b o e) fun z=>absurd (Nat.lt_of_lt_of_le (Heap.lt_size e) (Nat.le_trans I.ok.bsz z)) (Nat.lt_irrefl _),
    fun b hb hz=>(List.mem_cons.mp (I.stkSub b hz)).elim (hf b hb).2.1 (hf b hb).2.2.1, I.stack, I.stkFree⟩
theorem GZ (okc : COk X scope caps) (hn : tns.length = n) (ok : (X.comp (tns ++ caps.map (·.2)) scope cl C s H fp E).Ok) (I : Inv X pins σ H s)
    (hsub : ∀ x c, cl.lookup x = some c -> X.env.cells.lookup x = some c) (hall : ∀ x, (x, NameKind.free) ∈ scope.names -> ∃ c, cl.lookup x = some c) (hC : s.heap.objs.size < C) (hns : h₁.Ns C fun _=>none) (old : ∀ b o, s.heap.get? b = some o -> h₁.get? b = some o) {tk : Nat} :
    Inv (X.comp (tns ++ caps.map (·.2)) scope cl C s H fp E) [] (ZN n caps σ) H { s with heap:=h₁, toks:=tk }:=by
  refine ⟨ok, rfl, I.bare, Un.kept old, ⟨_, hns, fun i x v e1 e2 _=>?_⟩, fun x c e=>(I.cell x c (hsub x c e)).elim fun v z=>z.elim fun o z=>⟨v, o, old _ _ z.1, z.2⟩, I.hok.fresh (Nat.le_of_lt hC), fun x c e=>I.freeC x c (hsub x c e), fun p hp=>Uj (α:=Addr × Obj) hp, I.hok.kept old, by simp [ZN, hn]⟩
  obtain ⟨hi, p, hp, hσ⟩:=JN e2
  have e1' : (tns ++ caps.map (·.2))[i]? = some x:=e1
  rw [List.getElem?_append_right (hn ▸ hi), hn, List.getElem?_map, hp] at e1'
  cases Option.some.inj e1'
  have p5:=okc.caps p (List.mem_of_getElem? hp)
  obtain ⟨m, hm, hl⟩:=I.loc
  obtain ⟨u, r, l⟩:=hl p.1 p.2 v p5.1.1 hσ (.inr (.inl p5.1.2))
  refine ⟨u, r, .inr ?_⟩
  rcases l with ⟨k, _⟩ | ⟨k, c, e, z⟩
  . cases p5.1.2.symm.trans k
  . obtain ⟨c', e'⟩ := hall p.2 (PySem.mem_of_lookup p5.2)
    cases e.symm.trans (hsub _ _ e')
    exact ⟨Z1 (env:=X.env) p5.2, c, e', z.elim fun o z=>⟨o, old _ _ z.1, z.2⟩⟩
variable {J : It} {it : Addr} {tn : Nat -> Heap -> Prop} {Q : V -> Hp -> Prop} {RR : Value -> Addr -> Result -> Shared -> Prop} {W : Nat -> Nat -> List V -> Hp -> Prop} {m0 : Nat}
theorem F8 (ok : COk X scope caps) (hc : X.calm = true) (hn : tns.length = n) (hG : J0 n g)
    (hb : ∀ cl C s H ex E, PG (X.comp (tns ++ caps.map (·.2)) scope cl C s H ex E) tg g /\ PTs (X.comp (tns ++ caps.map (·.2)) scope cl C s H ex E) ifs tt /\ PE (X.comp (tns ++ caps.map (·.2)) scope cl C s H ex E) elt te)
    (I : Inv X pins σ H s) (T : Turn X.prog X.w X.K tg J fp it tn) (t0 : tn 0 s.heap) (hf : ∀ b ∈ fp, UI X pins H b)
    (hsub : ∀ x c, cl.lookup x = some c -> X.env.cells.lookup x = some c) (hall : ∀ x, (x, NameKind.free) ∈ scope.names -> ∃ c, cl.lookup x = some c)
    (w0 : W 0 m0 [] H) (turn : Dj g tt te (ZN n caps σ) Q J W)
    (hRR : ∀ D C ys H3 s', CompEnd X pins σ H3 D C ys s' -> Q (.ref D) (upd H3 D (.lst ys)) -> RR (.ref D) C (.ok .next) s')
    (hC : s.heap.objs.size < C) (hns : h₁.Ns C fun _=>none) (old : ∀ b o, s.heap.get? b = some o -> h₁.get? b = some o) (hacc : h₁.get? s.heap.objs.size = some (lob [] 0)) {tk : Nat} :
    codeAny (model X.prog X.w) X.A (.compStart (.ListComp elt [⟨tg, iter, ifs, 0⟩] scope pos) 0 (.ref it) (.ref s.heap.objs.size) (compEnvC scope cl C X.env)) (RR (.ref s.heap.objs.size) C) { s with heap:=h₁, toks:=tk }:=by
  have hlt : ∀ b ∈ fp, b < s.heap.objs.size:=fun b hb=>(T.obj _ _ t0 b hb).elim fun o e=>Heap.lt_size e.1
  have okY : ∀ E, (X.comp (tns ++ caps.map (·.2)) scope cl C s H fp E).Ok:=fun E=>FU ok I hf hlt hsub hall hC
  have t1 : tn 0 h₁:=T.keep _ _ _ t0 fun b _ o e=>old b o e
  have loop : ∀ tk, codeAny (model X.prog X.w) X.A (.compLoop (.ListComp elt [⟨tg, iter, ifs, 0⟩] scope pos) 0 (.ref it) (.ref s.heap.objs.size) (compEnvC scope cl C X.env)) (RR (.ref s.heap.objs.size) C) { s with heap:=h₁, toks:=tk }:=fun tk=>
    have z:=hb cl C s H fp (notedBy (model X.prog X.w) X.A (compEnvC scope cl C X.env) fun e s'=>RR (.ref s.heap.objs.size) C (.error e) s')
    Ut (Y:=X.comp (tns ++ caps.map (·.2)) scope cl C s H fp _) rfl T hG z.1 z.2.1 z.2.2
      ⟨hc, rfl, Nat.ne_of_lt hC, fun hz=>(I.stack.mem hz).2.elim fun o ho=>absurd (Heap.lt_size ho.1) (Nat.lt_irrefl _), Nat.le_refl _, fun x c e=>(I.cell x c (hsub x c e)).elim fun v z=>Nat.ne_of_lt z.lt, fun b hb=>Nat.ne_of_lt (hlt b hb),
        fun b hb H' h'=>⟨h', Nat.ne_of_lt (Nat.lt_trans (hlt b hb) hC), (okY fun _ _=>True).exfs b hb, .inl hb, fun x c e=>(hf b hb).2.2.2.2.1 x c (hsub x c e), fun p hp=>Uj (α:=Addr × Obj) hp⟩⟩
      (fun j v e=>(JN e).1) turn (fun ys its k H3 s4 I4 rv hz q=>hRR _ C ys H3 s4 (GT I hf (Nat.le_refl _) hC I4 I4.os I4.base I4.hok rfl rv hz) q)
      (.mk 0 H [] [] 0 ⟨GZ ok hn (okY _) I hsub hall hC hns old, t1, fun b hb=>(hf b hb).1, hacc, I.hok.fresh (Nat.le_refl _)⟩ .nil w0)
  exact codeAny_compStart_list (loop _) (T.self _ 0 _ _ _ t1 (loop _))
theorem QT (ok : COk X scope caps) (hc : X.calm = true) (hn : tns.length = n) (hG : J0 n g)
    (hb : ∀ cl C s H ex E, PG (X.comp (tns ++ caps.map (·.2)) scope cl C s H ex E) tg g /\ PTs (X.comp (tns ++ caps.map (·.2)) scope cl C s H ex E) ifs tt /\ PE (X.comp (tns ++ caps.map (·.2)) scope cl C s H ex E) elt te)
    {itv : Value} (h : PIE X pins σ tg (fun J H1=>Ff n caps g tt te σ Q J H1) itv s)
    (hsub : ∀ x c, cl.lookup x = some c -> X.env.cells.lookup x = some c) (hall : ∀ x, (x, NameKind.free) ∈ scope.names -> ∃ c, cl.lookup x = some c)
    (hRR : ∀ D C ys H3 s', CompEnd X pins σ H3 D C ys s' -> Q (.ref D) (upd H3 D (.lst ys)) -> RR (.ref D) C (.ok .next) s') :
    Ek X elt tg iter ifs scope pos itv cl RR E s:=by
  obtain ⟨it, fp, tn, J, H', rfl, I, T, t0, hf, W, ⟨m0, w0⟩, turn⟩:=h
  refine wpAny_newObj_type (wpAny_newFunctionEnv ok.cell (by intro y hy; simp at hy) (fun h₁ hns₁ hsb₁=>?_) ok.kind)
  have hs : ∀ o, (s.heap.push o).objs.size = s.heap.objs.size + 1:=fun o=>Heap.size_push ..
  exact F8 ok hc hn hG hb I T t0 hf hsub hall w0 turn hRR (Nat.lt_of_lt_of_eq (Nat.lt_succ_self _) (hs _).symm) hns₁
    (fun b o e=>hsb₁.extBut b o (Nat.ne_of_lt (Nat.lt_trans (Heap.lt_size e) (Nat.lt_of_lt_of_eq (Nat.lt_succ_self _) (hs _).symm))) (Heap.get?_push_of_some _ (Heap.get?_push_of_some _ e)))
    (hsb₁.extBut _ _ (Nat.ne_of_lt (Nat.lt_of_lt_of_eq (Nat.lt_succ_self _) (hs _).symm)) (Heap.get?_push_of_some _ (Heap.get?_push_size _ rfl)))
end
theorem Dp (sc : Scope) (N0 : List Str) (tns : List Str) (caps : List (Nat × Str)) (hc : X.calm = true) (hi : PI X tg iter wi) (hG : J0 tns.length g)
    (hb : ∀ cl C s H ex E, PG (X.comp (tns ++ caps.map (·.2)) scope cl C s H ex E) tg g /\ PTs (X.comp (tns ++ caps.map (·.2)) scope cl C s H ex E) ifs tt /\ PE (X.comp (tns ++ caps.map (·.2)) scope cl C s H ex E) elt te)
    (hsc : X.env.scope = sc:=by rfl) (hN0 : X.N = N0:=by rfl) (ok : JC sc scope N0 tns caps = true:=by decide +kernel)
    (hs : ∀ x, foldedSetIterable iter X.env x = pure x:=by intro _; rfl) :
    PE X (.ListComp elt [⟨tg, iter, ifs, 0⟩] scope pos) (KO tns.length caps wi g tt te):=by
  intro pins s σ H Q I h
  have okc:=COk.of hsc hN0 ok
  obtain ⟨cl, ecl, hsub, hall⟩:=KJ (scope:=scope) (env:=X.env) fun x hx hfr=>I.ok.has x.1 (.inl (okc.free x hx hfr))
  rw [eval_ListComp]
  exact wpAny_comprehension_free (use:=none) rfl hs ecl okc.kind okc.loc (thn (hi pins s σ H _ I h) fun xv s₁ h₁=>thn h₁ fun itv s₂ h₂=>
    QT (RR:=fun acc C=>compPost (model X.prog X.w) X.A X.xe none (EP X pins σ Q) acc C) okc hc rfl hG hb h₂ hsub hall fun D C ys H3 s' ce q=>ce.ns.elim fun mm hns=>
      ⟨mm, hns, fun h' hs'=>⟨.ref D, _, ce.inv.turned (t':=s'.toks) (fun b o hb' e=>(hs'.extBut b o hb' e)) ce.fp.1 ce.fp.2.1 ce.fp.2.2.2.1 ce.fp.2.2.2.2.1 ce.fp.2.2.2.2.2, rfl, q⟩⟩)
theorem FR {x : Str} {px spos : Pos} (j : Nat) (sc : Scope) (N0 : List Str) (tns : List Str) (caps : List (Nat × Str)) (hc : X.calm = true) (hN : X.N.Nodup) (hj : X.N[j]? = some x) (hx : X.env.scope.names.lookup x = some .local) (hi : PI X tg iter wi) (hG : J0 tns.length g)
    (hb : ∀ cl C s H ex E, PG (X.comp (tns ++ caps.map (·.2)) scope cl C s H ex E) tg g /\ PTs (X.comp (tns ++ caps.map (·.2)) scope cl C s H ex E) ifs tt /\ PE (X.comp (tns ++ caps.map (·.2)) scope cl C s H ex E) elt te)
    (hsc : X.env.scope = sc:=by rfl) (hN0 : X.N = N0:=by rfl) (ok : JC sc scope N0 tns caps = true:=by decide +kernel)
    (hsw : swapsWith (.ListComp elt [⟨tg, iter, ifs, 0⟩] scope pos) (some (.Name x px)) spos.line X.env = pure true:=by rfl)
    (hs : ∀ x, foldedSetIterable iter X.env x = pure x:=by intro _; rfl) :
    PS X (.Assign [.Name x px] (.ListComp elt [⟨tg, iter, ifs, 0⟩] scope pos) spos) (Fw (KO tns.length caps wi g tt te) (Z6 j)):=by
  intro pins s σ H D I h
  have okc:=COk.of hsc hN0 ok
  obtain ⟨cl, ecl, hsub, hall⟩:=KJ (scope:=scope) (env:=X.env) fun x hx hfr=>I.ok.has x.1 (.inl (okc.free x hx hfr))
  rw [exec_Assign_Name_used _ _ _ _ hsw]
  refine wpAny_bind (wpAny_standAt (wpAny_bind ?_))
  show wpAny _ _ (do let _ ← comprehension (.ListComp elt [⟨tg, iter, ifs, 0⟩] scope pos) scope X.env _ (newList []) false (eval iter X.env) (some (assign (.Name x px) X.env))) _ _ s
  refine wpAny_bind (thn (wpAny_comprehension_free (use:=some (assign (.Name x px) X.env)) (Q:=fun _ s'=>SP X pins D .next s') rfl hs ecl okc.kind okc.loc
    (thn (hi pins s σ H _ I h) fun xv s₁ h₁=>thn h₁ fun itv s₂ h₂=>?_)) fun _ s' hq=>wpAny_pure (wpAny_pure hq))
  refine QT (Q:=fun v H1=>Z6 j v σ H1 D.nx) (RR:=fun acc C=>compPost (model X.prog X.w) X.A X.xe (some (assign (.Name x px) X.env)) (fun _ s'=>SP X pins D .next s') acc C) okc hc rfl hG hb h₂ hsub hall ?_
  intro DD C ys H3 s' ce q
  obtain ⟨mm, hns⟩:=ce.ns
  obtain ⟨c0, c1, c2, c3, c4, c5⟩:=ce.fp
  show wpAny _ _ (assign (.Name x px) X.env (.ref DD)) _ _ _
  refine wpAny_assign_Name (J3 ce.inv hN hj (.inl hx) (v:=.ref DD) rfl (fun s2 I2 chg=>?_) (.inr hx))
  obtain ⟨c, hsb, hcc⟩:=chg
  have hCc : C ≠ c:=by
    rcases hcc with z | z
    . rw [z]; exact c1
    . exact fun e=>c4 x c z e.symm
  refine ⟨mm, ?_, fun h' hs'=>?_⟩
  . obtain ⟨o, es, ep, ho, r⟩ := hns
    exact ⟨o, es, ep, (hsb.2 C hCc).trans ho, r⟩
  . exact ⟨_, _, I2.turned (t':=s2.toks) (fun b o hb' e=>(hs'.extBut b o hb' e)) c0 c1 c3 c4 c5, q⟩
end
section
variable {K : PySem.W.Frag} {a : Addr} {xs : List V} {n : Nat} {caps : List (Nat × Str)} {g : TG} {tt : TT} {te : TE} {σ : St} {H : Hp} {Q : V -> Hp -> Prop}
end
section
variable {X : Cx} {pos : Pos}
noncomputable def Vx (K : PySem.W.Frag) : List V -> Hp -> VK -> Prop:=fun xs H Q=>∃ p ys, xs = [.ref p] /\ (SqL K H p ys ∨ SqT K H p ys) /\ ∀ l, H l = none -> Q (.ref l) (upd H l (.lst ys))
noncomputable def Ub (K : PySem.W.Frag) : List V -> Hp -> VK -> Prop:=fun xs H Q=>∃ p ys, xs = [.ref p] /\ (SqL K H p ys ∨ SqT K H p ys) /\ Q (.int ys.length) H
theorem Y0 (K : PySem.W.Frag) (h : X.K = K) : ZW X (.type "list") (Vx K):=by subst h; exact JS
theorem Xi (K : PySem.W.Frag) (h : X.K = K) : ZW X (.builtin "len") (Ub K):=by subst h; exact J5
theorem Xn (K : PySem.W.Frag) (h : X.K = K) : IxR X (CD K):=by subst h; exact DR
theorem ZU (K : PySem.W.Frag) (h : X.K = K) : IxR X (Ce K):=by subst h; exact CB
theorem Jh (K : PySem.W.Frag) (h : X.K = K) : SlR X (BC K):=by subst h; exact DT
end
end L2
namespace L2
open PySem PySem.Spec PyProof.Rows
structure Fn (P : Program) (w : World) (K : PySem.W.Frag) (mg : Str -> Option Value) (base : Heap) (k : Nat) (x : Str) (ps : List Str) (sp : Sp) : Prop where
  ex : ∃ f fd, FnOk P w K mg base CX0 k f fd ps sp /\ Vn K fd ps [] /\ PySem.W.keepIn K (.ref f) = true /\ mg x = some (.ref f)
section
variable {X : Cx} {k j : Nat} {x : Str} {ps : List Str} {sp : Sp} {e : Expr} {es : List Expr} {t : TA} {p pos : Pos}
theorem X5 (G : Fn X.prog X.w X.K X.mg X.base k x ps sp) (hr : Room j X.A) (hj : k <= j) (ha : PA X (e :: es) t) (hg : Gl X x:=by rfl) (hdb : (x == ("__debug__" : Str)) = false:=by decide)
    (he : starEach (e :: es) X.env = (false, eval e X.env) :: starEach es X.env:=by rfl) (hpl : (backTo pos (starEach es X.env)).any (·.1) = false:=by rfl) :
    PE X (.Call (.Name x p) (e :: es) [] pos) (UA sp [] E0 t):=by
  obtain ⟨f, fd, F, b, kp, m⟩:=G.ex
  exact F7 F (hr.mono hj) hg m kp b .nil BQ ha hdb he hpl
end
noncomputable def Def (K : PySem.W.Frag) (mg : Str -> Option Value) (x : Str) (st : Stmt) (ps : List Str) : Prop:=∃ f fd, Fun K x x st f fd /\ Vn K fd ps [] /\ mg x = some (.ref f)
theorem YM {P : Program} {w : World} {K : PySem.W.Frag} {mg : Str -> Option Value} {base : Heap} {x : Str} {st : Stmt} {N ps : List Str} {k : Nat} {sp : Sp} (D : Def K mg x st ps) (S : FnScope N ps (Xl st)) (len : ∀ vs H Q E, sp vs H Q E -> vs.length = ps.length)
    (hbody : ∀ (f : Addr) (cdv : Value) (A : Around) (outer : List Env) (s : Shared) (H : Hp) (vs : List V) (Q : VK) (E : XK), Room k (A.deeper (envOfC x (Xl st) s.heap.objs.size f cdv)) -> sp vs H Q E ->
      ∃ t, PSs (De CX0 P w K mg base N x (Xl st) f cdv A outer s H E).nox (Yd st) t /\ t { nx:=fun _ H'=>Q .non H', rt:=Q } (Ju N vs) H) : Fn P w K mg base (k + 1) x ps sp:=by
  obtain ⟨f, fd, F, b, m⟩:=D
  exact ⟨f, fd, F.ok S len (hbody f), b, F.kp, m⟩
theorem UY {a d c : Nat} (h : d <= 8) (hu : a + 8 < c) : a + d < c:=by omega
theorem XH {H : Hp} {p : Addr} (h : H p = none) (o : HO) : Xo H (upd H p o):=fun b u q=>by rw [XM (Yb q h)]; exact q
theorem Xo.own {H H2 : Hp} {p : Addr} (s : Xo H H2) (h : H p = none) (o : HO) : Xo H (upd H2 p o):=fun b u q=>by rw [XM (Yb q h)]; exact s b u q
theorem Xo.new {H H2 : Hp} {p : Addr} (s : Xo H H2) (h : H2 p = none) (o : HO) : Xo H (upd H2 p o):=s.trans (XH h o)
theorem hu8 {A : Around} {k : Nat} (hr : Room k A) : A.units + 8 < cLine:=Nat.lt_of_le_of_lt (Nat.add_le_add_left (by decide : 8 <= 64) _) hr.units
noncomputable abbrev Enc (α : Type):=PySem.W.Frag -> Hp -> V -> α -> Prop
noncomputable def Xb : Enc Int:=fun _ _ v i=>v = .int i
noncomputable def rL {α : Type} (r : Enc α) : Enc (List α):=fun K H v as=>∃ a xs, v = .ref a /\ SqL K H a xs /\ Paired (r K H) xs as
theorem Paired.getL {α β : Type} {F : α -> β -> Prop} : ∀ {l : List α} {m : List β} {i : Nat} {a : α}, Paired F l m -> l[i]? = some a -> ∃ b, m[i]? = some b /\ F a b
  | _, _, _, _, .nil, e=>by simp at e
  | _, _, 0, _, .cons r _, e=>by simp at e; subst e; exact ⟨_, rfl, r⟩
  | _, _, i + 1, a, .cons _ t, e=>by
    obtain ⟨b, h1, h2⟩:=Paired.getL (i:=i) (a:=a) t (by simpa using e)
    exact ⟨b, by simpa using h1, h2⟩
theorem Paired.getR {α β : Type} {F : α -> β -> Prop} : ∀ {l : List α} {m : List β} {i : Nat} {b : β}, Paired F l m -> m[i]? = some b -> ∃ a, l[i]? = some a /\ F a b
  | _, _, _, _, .nil, e=>by simp at e
  | _, _, 0, _, .cons r _, e=>by simp at e; subst e; exact ⟨_, rfl, r⟩
  | _, _, i + 1, b, .cons _ t, e=>by
    obtain ⟨a, h1, h2⟩:=Paired.getR (i:=i) (b:=b) t (by simpa using e)
    exact ⟨a, by simpa using h1, h2⟩
theorem Paired.len {α β : Type} {F : α -> β -> Prop} {l : List α} {m : List β} (h : Paired F l m) : l.length = m.length:=Paired.length h
theorem Paired.app {α β : Type} {F : α -> β -> Prop} : ∀ {l l' : List α} {m m' : List β}, Paired F l m -> Paired F l' m' -> Paired F (l ++ l') (m ++ m')
  | _, _, _, _, .nil, h=>h
  | _, _, _, _, .cons r t, h=>.cons r (Paired.app t h)
theorem Vf (ns : List Int) : ∀ {K : PySem.W.Frag} {H : Hp}, Paired (Xb K H) (ns.map V.int) ns:=by
  intro K H
  induction ns with
  | nil=>exact .nil
  | cons n r ih=>exact .cons rfl ih
structure EqOk {α : Type} [DecidableEq α] (r : Enc α) (d : Nat) : Prop where
  uniq : ∀ {X : Cx} {pins : List (Addr × Obj)} {σ : St} {H : Hp} {s : Shared} {x : V} {a b : α}, Inv X pins σ H s -> r X.K H x a -> r X.K H x b -> a = b
  eq : ∀ {X : Cx} {pins : List (Addr × Obj)} {σ : St} {H : Hp} {s : Shared} {x y : V} {v u : Value} {a b : α} {A : Around}, Inv X pins σ H s -> X8 x v -> X8 y u -> r X.K H x a -> r X.K H y b -> A.units + d < cLine -> SeqAt.EqAt A s v u (decide (a = b))
  rc : ∀ {X : Cx} {pins : List (Addr × Obj)} {σ : St} {H : Hp} {s : Shared} {x y : V} {v u : Value} {a b : α} {A : Around}, Inv X pins σ H s -> X8 x v -> X8 y u -> r X.K H x a -> r X.K H y b -> A.units + d < cLine -> SeqAt.RcAt A s v u (decide (a = b))
  ne : ∀ {X : Cx} {pins : List (Addr × Obj)} {σ : St} {H : Hp} {s : Shared} {x y : V} {v u : Value} {a b : α} {A : Around}, Inv X pins σ H s -> X8 x v -> X8 y u -> r X.K H x a -> r X.K H y b -> A.units + d < cLine -> SeqAt.RcNeAt A s v u (!decide (a = b))
  keep : ∀ {K : PySem.W.Frag} {H H' : Hp} {x : V} {a : α}, Xo H H' -> r K H x a -> r K H' x a
theorem EqOk.up {α : Type} [DecidableEq α] {r : Enc α} {d e : Nat} (E : EqOk r d) (h : d <= e) : EqOk r e:=
  ⟨E.uniq, fun I rx ry h1 h2 hu=>E.eq I rx ry h1 h2 (by omega), fun I rx ry h1 h2 hu=>E.rc I rx ry h1 h2 (by omega), fun I rx ry h1 h2 hu=>E.ne I rx ry h1 h2 (by omega), E.keep⟩
theorem KR (A : Around) : A.in1.units = A.units + 1:=rfl
theorem Gz {a b : Int} : (a == b) = decide (a = b):=by rw [Bool.eq_iff_iff]; simp
theorem eq_int : EqOk Xb 0 where
  uniq:=fun _ h1 h2=>by
    have h1' : _ = V.int _:=h1
    have h2' : _ = V.int _:=h2
    rw [h1'] at h2'; injection h2'
  eq:=fun {X pins σ H s x y v u a b A} I rx ry h1 h2 _=>by
    have h1' : x = V.int a:=h1
    have h2' : y = V.int b:=h2
    subst h1' h2'
    obtain ⟨t, rfl⟩:=rx
    obtain ⟨t', rfl⟩:=ry
    rw [← Gz]; exact SeqAt.EqAt.int_int a t b t'
  rc:=fun {X pins σ H s x y v u a b A} I rx ry h1 h2 _=>by
    have h1' : x = V.int a:=h1
    have h2' : y = V.int b:=h2
    subst h1' h2'
    obtain ⟨t, rfl⟩:=rx
    obtain ⟨t', rfl⟩:=ry
    rw [← Gz]; exact SeqAt.RcAt.int_int a t b t'
  ne:=fun {X pins σ H s x y v u a b A} I rx ry h1 h2 _=>by
    have h1' : x = V.int a:=h1
    have h2' : y = V.int b:=h2
    subst h1' h2'
    obtain ⟨t, rfl⟩:=rx
    obtain ⟨t', rfl⟩:=ry
    rw [← Gz]; exact SeqAt.RcNeAt.int_int a t b t'
  keep:=fun _ h=>h
theorem KH {α : Type} [DecidableEq α] {as bs : List α} (h : as.length = bs.length) : (List.range as.length).all (fun j=>decide (as[j]? = bs[j]?)) = decide (as = bs):=by
  rw [Bool.eq_iff_iff]
  simp only [List.all_eq_true, List.mem_range, decide_eq_true_eq]
  constructor
  . intro hh
    apply List.ext_getElem?
    intro i
    by_cases hi : i < as.length
    . exact hh i hi
    . rw [List.getElem?_eq_none (by omega), List.getElem?_eq_none (by omega)]
  . rintro rfl; intros; rfl
theorem Paired.uniq {α β : Type} {F : α -> β -> Prop} (hu : ∀ a b c, F a b -> F a c -> b = c) : ∀ {l : List α} {m m' : List β}, Paired F l m -> Paired F l m' -> m = m'
  | _, _, _, .nil, .nil=>rfl
  | _, _, _, .cons r t, .cons r' t'=>by rw [hu _ _ _ r r', Paired.uniq hu t t']
theorem Paired.imp2 {α β : Type} {F G : α -> β -> Prop} (h : ∀ a b, F a b -> G a b) : ∀ {l : List α} {m : List β}, Paired F l m -> Paired G l m
  | _, _, .nil=>.nil
  | _, _, .cons r t=>.cons (h _ _ r) (Paired.imp2 h t)
section
variable {α : Type} [DecidableEq α] {r : Enc α} {d : Nat}
theorem QQ (E : EqOk r d) {X : Cx} {pins : List (Addr × Obj)} {σ : St} {H : Hp} {s : Shared} {A : Around} (I : Inv X pins σ H s) (hu : A.units + (d + 1) < cLine) {xs ys : List V} {as bs : List α} {its its2 : List Value}
    (r1 : XV xs its) (r2 : XV ys its2) (p1 : Paired (r X.K H) xs as) (p2 : Paired (r X.K H) ys bs) :
    ∀ j (h1 : j < its.toArray.size) (h2 : j < its2.toArray.size), SeqAt.EqAt A.in1 s its.toArray[j] its2.toArray[j] (decide (as[j]? = bs[j]?)):=by
  intro j h1 h2
  have h1' : j < its.length:=by simpa using h1
  have h2' : j < its2.length:=by simpa using h2
  obtain ⟨x, ex, rx⟩:=Paired.getR (i:=j) (b:=its[j]) r1 (by simp [h1'])
  obtain ⟨y, ey, ry⟩:=Paired.getR (i:=j) (b:=its2[j]) r2 (by simp [h2'])
  obtain ⟨a, ea, ra⟩:=Paired.getL p1 ex
  obtain ⟨b, eb, rb⟩:=Paired.getL p2 ey
  have:=E.eq (A:=A.in1) I rx ry ra rb (by rw [KR]; omega)
  rw [ea, eb]
  simpa using this
theorem FW (E : EqOk r d) : EqOk (rL r) (d + 1):=by
  have un : ∀ {X : Cx} {pins : List (Addr × Obj)} {σ : St} {H : Hp} {s : Shared} {x : V} {a b : List α}, Inv X pins σ H s -> rL r X.K H x a -> rL r X.K H x b -> a = b:=by
    intro X pins σ H s x as bs I h1 h2
    obtain ⟨a, xs, rfl, q1, p1⟩:=h1
    obtain ⟨b, ys, e, q2, p2⟩:=h2
    cases e
    cases I.list_inj q1 q2
    exact Paired.uniq (F:=r X.K H) (fun _ _ _ z z'=>E.uniq I z z') p1 p2
  have rc : ∀ {X : Cx} {pins : List (Addr × Obj)} {σ : St} {H : Hp} {s : Shared} {x y : V} {v u : Value} {a b : List α} {A : Around}, Inv X pins σ H s -> X8 x v -> X8 y u -> rL r X.K H x a -> rL r X.K H y b -> A.units + (d + 1) < cLine -> SeqAt.RcAt A s v u (decide (a = b)):=by
    intro X pins σ H s x y v u as bs A I rx ry h1 h2 hu
    obtain ⟨a, xs, rfl, q1, p1⟩:=h1
    obtain ⟨b, ys, rfl, q2, p2⟩:=h2
    cases rx; cases ry
    obtain ⟨its, r1, l1, _⟩:=I.list q1
    obtain ⟨its2, r2, l2, _⟩:=I.list q2
    have n1:=r1.length
    have n2:=r2.length
    have m1:=Paired.len p1
    have m2:=Paired.len p2
    by_cases hl : as.length = bs.length
    . have := SeqAt.RcAt.lists (A := A) (e := fun j => decide (as[j]? = bs[j]?)) l1.isList l2.isList (by simp only [List.size_toArray]; omega) (by omega) (QQ E I hu r1 r2 p1 p2)
      rw [show its.toArray.size = as.length by simp only [List.size_toArray]; omega, KH hl] at this
      exact this
    . rw [decide_eq_false (fun e => hl (congrArg List.length e))]
      exact SeqAt.RcAt.lists_lengths l1.isList l2.isList (by simp only [List.size_toArray, bne_iff_ne]; omega) (by omega)
  refine ⟨un, ?_, rc, ?_, ?_⟩
  . intro X pins σ H s x y v u as bs A I rx ry h1 h2 hu
    obtain ⟨a, xs, rfl, q1, p1⟩:=id h1
    obtain ⟨b, ys, rfl, q2, p2⟩:=id h2
    have R:=rc (A:=A) I rx ry h1 h2 hu
    cases rx; cases ry
    by_cases e : a = b
    . subst e
      rw [decide_eq_true (un I h1 h2)]
      exact SeqAt.EqAt.same _
    . exact SeqAt.EqAt.of_refs e R
  . intro X pins σ H s x y v u as bs A I rx ry h1 h2 hu
    obtain ⟨a, xs, rfl, q1, p1⟩:=h1
    obtain ⟨b, ys, rfl, q2, p2⟩:=h2
    cases rx; cases ry
    obtain ⟨its, r1, l1, _⟩:=I.list q1
    obtain ⟨its2, r2, l2, _⟩:=I.list q2
    have n1:=r1.length
    have n2:=r2.length
    have m1:=Paired.len p1
    have m2:=Paired.len p2
    by_cases hl : as.length = bs.length
    . have := SeqAt.RcNeAt.lists (A := A) (e := fun j => decide (as[j]? = bs[j]?)) l1.isList l2.isList (by simp only [List.size_toArray]; omega) (by omega) (QQ E I hu r1 r2 p1 p2)
      rw [show its.toArray.size = as.length by simp only [List.size_toArray]; omega, KH hl] at this
      exact this
    . rw [decide_eq_false (fun e => hl (congrArg List.length e))]
      exact SeqAt.RcNeAt.lists_lengths l1.isList l2.isList (by simp only [List.size_toArray, bne_iff_ne]; omega) (by omega)
  . intro K H H' x as e h
    obtain ⟨a, xs, rfl, q1, p1⟩:=h
    exact ⟨a, xs, rfl, e.seq q1, Paired.imp2 (fun _ _ z=>E.keep e z) p1⟩
end
section
variable {α β : Type} [DecidableEq α] [DecidableEq β] {r : Enc α} {q : Enc β} {d : Nat}
end
section
variable {X : Cx} {α : Type} [DecidableEq α] {r : Enc α} {d : Nat}
noncomputable def Ef (K : PySem.W.Frag) (r : Enc α) : R2:=fun x y H Q=>∃ a b, r K H x a /\ r K H y b /\ Q (.bl (decide (a = b))) H
noncomputable def B6 (K : PySem.W.Frag) (r : Enc α) : R2:=fun x y H Q=>∃ a b, r K H x a /\ r K H y b /\ Q (.bl (!decide (a = b))) H
theorem CW (E : EqOk r d) (hu : X.A.units + d < cLine) : OpR X (compareOp .Eq) (Ef X.K r):=by
  intro pins s σ H x y v u Q I rx ry h
  obtain ⟨a, b, h1, h2, q⟩:=h
  exact E.rc (A:=X.A) I rx ry h1 h2 hu _ _ _ _ ⟨.bl _, H, I, rfl, q⟩
theorem Ug (E : EqOk r d) (hu : X.A.units + d < cLine) : OpR X (compareOp .NotEq) (B6 X.K r):=by
  intro pins s σ H x y v u Q I rx ry h
  obtain ⟨a, b, h1, h2, q⟩:=h
  exact E.ne (A:=X.A) I rx ry h1 h2 hu _ _ _ _ ⟨.bl _, H, I, rfl, q⟩
theorem Zx : ZW X (.builtin "isinstance") (fun xs H Q=>∃ x n t b, xs = [x, .ty n] /\ TyOf X.K H x t /\ PySem.W.kitOne X.K t (.type n) = some b /\ Q (.bl b) H):=by
  intro pins s σ H xs us Q I r h
  obtain ⟨x, n, t, b, rfl, ty, e, q⟩:=h
  obtain ⟨u, v, rfl, ru, rv⟩:=XV.two r
  cases (show v = Value.type n from rv)
  exact Gc I ru ty e fun tk=>⟨.bl b, H, I.tok tk, rfl, q⟩
theorem Jz : OpR X (binaryOp .FloorDiv) (rI (fun _ j=>0 < j /\ j.natAbs.log2 < 9000) fun i j=>.int (i / j)):=opI fun i j _ _ _ _ _ hc q=>by
  refine floordiv_int (by omega) ?_ (.inl (PyProof.noPylong_of_log2 hc.2))
  rw [Int.fdiv_eq_ediv_of_nonneg i (by omega)]
  exact q
end
end L2
namespace PySem
open Sem (wp)
section
variable {prog : Program} {w : World} {A : Around} {E : Value -> Shared -> Prop} {s : Shared}
end
end PySem
namespace L2
open PySem PySem.Spec PyProof.Rows
section
variable {X : Cx} {e : Expr} {te : TE}
end
end L2
namespace L2
open PySem PySem.Spec PyProof.Rows
section
variable {X : Cx} {pins : List (Addr × Obj)} {σ : St} {H : Hp} {s : Shared} {h' : Heap}
end
section
variable {X : Cx} {elts : List Expr} {k : Nat} {pos0 : Pos}
end
section
variable {X : Cx}
end
section
variable {α : Type} [DecidableEq α] {r : Enc α} {d : Nat}
end
end L2
namespace L2
open PySem PySem.Spec PyProof.Rows
section
variable {X : Cx} {o e f : Expr} {td ty tx : TE} {apos cpos : Pos}
end
end L2
namespace L2
open PySem PySem.Spec PyProof.Rows
section
variable {X : Cx} {elt tg iter : Expr} {ifs : List Expr} {scope sc : Scope} {pos : Pos} {n : Nat} {tns : List Str} {caps : List (Nat × Str)} {wi : TI} {g : TG} {tt : TT} {te : TE}
end
end L2
namespace L2
open PySem PySem.Spec PyProof.Rows
theorem Qx : ∀ (xs : List V) (us : List Value), xs.length = us.length -> (∀ (j : Nat) x u, xs[j]? = some x -> us[j]? = some u -> X8 x u) -> XV xs us
  | [], [], _, _=>.nil
  | [], _ :: _, h, _=>by simp at h
  | _ :: _, [], h, _=>by simp at h
  | x :: xs, u :: us, h, r=>.cons (r 0 x u rfl rfl) (Qx xs us (by simpa using h) fun j y v e1 e2=>r (j + 1) y v (by simpa using e1) (by simpa using e2))
noncomputable def Um (ta : TA) : TE:=fun σ H Q=>ta σ H fun vs H1=>∃ j : Int, vs = [.int j] /\ 0 <= j /\ j <= 1000 /\ ∀ p, H1 p = none -> Q (.ref p) (upd H1 p (.lst ((List.range j.toNat).map fun i=>V.int ((i : Nat) : Int))))
variable {X : Cx}
theorem J6 {e : Expr} {ta : TA} {p q q2 pos : Pos} (hc : X.calm = true) (hg : Gl X "list") (hg2 : Gl X "range") (hm : X.mg "list" = none) (hm2 : X.mg "range" = none) (ha : PA X [e] ta)
    (hs : starEach [.Call (.Name "range" q) [e] [] q2] X.env = [(false, eval (.Call (.Name "range" q) [e] [] q2) X.env)]:=by rfl) (hs2 : starEach [e] X.env = [(false, eval e X.env)]:=by rfl) :
    PE X (.Call (.Name "list" p) [.Call (.Name "range" q) [e] [] q2] [] pos) (Um ta):=by
  intro pins s σ H Q I h
  refine wpAny_Call_Name_kw (Qr I hg hm PyProof.Rows.boot_list ?_)
  refine PyProof.Rows.callWith_type1 ?_ hs rfl
  rw [hs]
  show wpAny _ _ (spliced ((false, eval (.Call (.Name "range" q) [e] [] q2) X.env) :: backTo pos [])) _ _ s
  refine Calls.spliced_cons ?_
  refine wpAny_Call_Name_kw (Qr I hg2 hm2 boot_range ?_)
  refine PyProof.Rows.callWith_type1 (thn (ha q2 pins s σ H _ I h) fun us s1 ⟨vs, H1, I1, r1, q1⟩=>?_) hs2 rfl
  obtain ⟨j, e, h0, h1, k⟩:=q1
  subst e
  cases r1 with
  | cons r rr=>
    cases rr
    obtain ⟨t, rfl⟩:=r
    refine call_range_1 ?_
    refine Calls.spliced_nil ?_
    refine call_list_range (n:=j.toNat) (I.ok.hd hc) (IsRange.new ..) (small_one (by omega) (by omega) (by omega) (by omega)) (by rw [rangeSize_one]; split <;> omega) (by omega) fun h' tk acc' c' hk hS hacc=>?_
    refine ⟨.ref _, _, I1.laid (h':=h') (t':=tk) (o:=.lst ((List.range j.toNat).map fun i=>V.int ((i : Nat) : Int))) (fun b o e=>hk b o (Heap.get?_push_of_some _ e)) (by rw [Heap.size_push]; exact Nat.le_succ _) ?_, rfl, k _ (I1.hok.fresh (by rw [Heap.size_push]; exact Nat.le_succ _))⟩
    refine ⟨by rw [List.length_map, List.length_range]; exact Nat.le_of_lt (KZ (by omega)), acc'.toList, c', Qx _ _ (by simp [hacc.1]) fun i x u e1 e2=>?_, hS⟩
    have e2' : acc'[i]? = some u:=by simpa using e2
    obtain ⟨tk, rfl⟩:=hacc.2 i u e2'
    rw [List.getElem?_map] at e1
    cases e3 : (List.range j.toNat)[i]? with
    | none=>rw [e3] at e1; cases e1
    | some z=>
      rw [e3] at e1
      have hz : z = i:=by
        have hi : i < j.toNat:=by have:=(List.getElem?_eq_some_iff.mp e3).1; simpa using this
        rw [List.getElem?_range hi] at e3
        exact (Option.some.inj e3).symm
      subst hz
      have : x = V.int (z : Int):=(Option.some.inj e1).symm
      subst this
      exact ⟨tk, by simp⟩
end L2
namespace L2
open PySem PySem.Spec PyProof.Rows
theorem ZQ {l : List Expr} {p : Pos} {es : List Expr} {env : Env} : starEach (.List l p :: es) env = (false, eval (.List l p) env) :: starEach es env:=rfl
theorem Jd {X : Cx} {l : List Expr} {p : Pos} {es : List Expr} {te : TE} {t : TA} (ha : PE X (.List l p) te) (hr : PA X es t) : PA X (.List l p :: es) (Xw te t):=Xc ha hr ZQ
end L2
namespace L2
open PySem PySem.Spec PyProof.Rows
end L2
namespace L2
open PySem PySem.Spec PyProof.Rows
variable {X : Cx} {o e : Expr} {es : List Expr} {to : TE} {t : TA} {name : Str} {apos cpos : Pos} {T id : String} {r : V -> List V -> Hp -> VK -> Prop}
end L2
namespace PySem
open PySem.Spec
namespace SeqAt
open MeetsSeq
end SeqAt
end PySem
namespace L2
open PySem PySem.Spec PyProof.Rows
section
variable {X : Cx}
end
end L2
namespace L2
open PySem PySem.Spec PyProof.Rows
section
variable {X : Cx}
end
end L2
namespace L2
open PySem PySem.Spec PyProof.Rows
section
variable {X : Cx} {α : Type} [DecidableEq α] {r : Enc α} {d : Nat}
end
section
variable {X : Cx}
end
section
variable {X : Cx}
theorem ZJ (K : PySem.W.Frag) (h : X.K = K) : OpR X (compareOp .NotIn) (rIn K true):=by subst h; exact JF
variable {T : String} {name : Str} {id : String} {r : V -> List V -> Hp -> VK -> Prop} {o e : Expr} {es : List Expr} {to : TE} {t : TA} {apos cpos : Pos}
end
section
variable {X : Cx} {elt tg iter : Expr} {ifs : List Expr} {scope : Scope} {pos : Pos} {wi : TI} {g : TG} {tt : TT} {te : TE}
theorem Qe {sc : Scope} {N0 : List Str} {tns : List Str} {caps : List (Nat × Str)} (hc : X.calm = true) (hi : PI X tg iter wi) (hG : J0 tns.length g)
    (hb : ∀ cl C s H ex E, PG (X.comp (tns ++ caps.map (·.2)) scope cl C s H ex E) tg g /\ PTs (X.comp (tns ++ caps.map (·.2)) scope cl C s H ex E) ifs tt /\ PE (X.comp (tns ++ caps.map (·.2)) scope cl C s H ex E) elt te)
    (hsc : X.env.scope = sc:=by rfl) (hN0 : X.N = N0:=by rfl) (ok : JC sc scope N0 tns caps = true:=by decide +kernel)
    (hs : ∀ x, foldedSetIterable iter X.env x = pure x:=by intro _; rfl) :
    PE X (.ListComp elt [⟨tg, iter, ifs, 0⟩] scope pos) (KO tns.length caps wi g tt te):=Dp sc N0 tns caps hc hi hG hb hsc hN0 ok hs
end
section
variable {X : Cx} {tg l : Expr} {tl : TE} {p pos : Pos} {K : PySem.W.Frag}
theorem Zr (h : X.K = K) (hl : PE X l tl) : PI X tg l (KB K tl):=by subst h; exact FV hl
end
end L2
namespace L2
open PySem PySem.Spec PyProof.Rows
section
variable {X : Cx}
end
end L2
namespace L2
open PySem PySem.Spec PyProof.Rows
inductive Pay where
  | non | int (i : Int) | tag (t : Str) (xs : List Int)
  deriving DecidableEq
structure Exc where
  cls : Str
  pay : Pay
inductive Res (α : Type) where
  | bad | err (x : Exc) | ok (a : α)
noncomputable def Res.bind {α β : Type} : Res α -> (α -> Res β) -> Res β
  | .bad, _=>.bad
  | .err x, _=>.err x
  | .ok a, f=>f a
theorem Res.ok_bind {α β : Type} (a : α) (f : α -> Res β) : (Res.ok a).bind f = f a:=rfl
noncomputable def chk {α : Type} (c : Prop) [Decidable c] (m : Res α) : Res α:=if c then m else .bad
theorem Xz {α : Type} {c : Prop} [Decidable c] {m : Res α} (h : c) : chk c m = m:=if_pos h
noncomputable abbrev Xx:=Addr × HO
noncomputable def Cl : HO -> Bool
  | .lst _=>true
  | .dK _=>true
  | .dT _=>true
  | _=>false
noncomputable def fl (OO : List (List Xx)) : List Addr:=OO.flatten.map (·.1)
open Classical in
noncomputable def hid (H : Hp) (OO : List (List Xx)) : Hp:=fun b=>if b ∈ fl OO then none else H b
structure W (OO : List (List Xx)) (H : Hp) : Prop where
  tr : ∀ c ∈ OO.flatten, H c.1 = some c.2
  nd : (fl OO).Nodup
  mu : ∀ c ∈ OO.flatten, Cl c.2 = true
theorem Yt {H : Hp} {OO} {b : Addr} {o : HO} (h : hid H OO b = some o) : H b = some o /\ b ∉ fl OO:=by
  unfold hid at h
  split at h
  . cases h
  . exact ⟨h, by assumption⟩
theorem ZD {H : Hp} {OO} {b : Addr} {o : HO} (h : H b = some o) (n : b ∉ fl OO) : hid H OO b = some o:=by
  unfold hid; rw [if_neg n]; exact h
theorem XG {H : Hp} {OO} : Xo (hid H OO) H:=fun b o h=>(Yt h).1
theorem Xj {H H' : Hp} {OO} (s : Xo H H') : Xo (hid H OO) (hid H' OO):=fun b o h=>ZD (s _ _ (Yt h).1) (Yt h).2
theorem Za {H H' : Hp} {OO OO'} (s : Xo H H') (h : ∀ b, b ∈ fl OO' -> b ∈ fl OO) : Xo (hid H OO) (hid H' OO'):=fun b o q=>ZD (s _ _ (Yt q).1) fun z=>(Yt q).2 (h b z)
theorem Yy {C : List Xx} {OO} : fl (C :: OO) = C.map (·.1) ++ fl OO:=by simp [fl]
theorem Kc {OO} : fl ([] :: OO) = fl OO:=by simp [fl]
theorem Yi {H : Hp} {OO} : hid H ([] :: OO) = hid H OO:=by unfold hid; rw [Kc]
theorem W.keep {OO} {H H' : Hp} (w : W OO H) (s : Xo H H') : W OO H':=⟨fun c hc=>s _ _ (w.tr c hc), w.nd, w.mu⟩
theorem W.of {OO OO' : List (List Xx)} {H : Hp} (w : W OO H) (h : OO'.flatten.Perm OO.flatten) : W OO' H:=
  ⟨fun c hc=>w.tr c (h.mem_iff.mp hc), (h.map _).nodup_iff.mpr w.nd, fun c hc=>w.mu c (h.mem_iff.mp hc)⟩
theorem W.sub {OO OO' : List (List Xx)} {H : Hp} (w : W OO H) (h : OO'.flatten.Sublist OO.flatten) : W OO' H:=
  ⟨fun c hc=>w.tr c (h.mem hc), (h.map _).nodup w.nd, fun c hc=>w.mu c (h.mem hc)⟩
theorem W.tail {C OO} {H : Hp} (w : W (C :: OO) H) : W OO H:=w.sub (by simp)
theorem W.nil {OO} {H : Hp} (w : W OO H) : W ([] :: OO) H:=w.of (by simp)
theorem W.cell {C OO} {H : Hp} (w : W (C :: OO) H) : ∀ c ∈ C, H c.1 = some c.2:=fun c hc=>w.tr c (by simp [hc])
theorem Q0 {OO : List (List Xx)} {c : Xx} (h : c ∈ OO.flatten) : c.1 ∈ fl OO:=List.mem_map.mpr ⟨c, h, rfl⟩
theorem Ka {OO : List (List Xx)} {b : Addr} (h : b ∈ fl OO) : ∃ o, (b, o) ∈ OO.flatten:=by
  obtain ⟨⟨a, o⟩, hc, rfl⟩:=List.mem_map.mp h
  exact ⟨o, hc⟩
theorem W.fresh {OO} {H : Hp} (w : W OO H) {p : Addr} (h : H p = none) : p ∉ fl OO:=fun z=>by
  obtain ⟨o, ho⟩:=Ka z
  have:=w.tr _ ho
  rw [h] at this; cases this
theorem W.new {OO} {H : Hp} (w : W OO H) {p : Addr} (h : H p = none) {o : HO} (m : Cl o = true) : W ([(p, o)] :: OO) (upd H p o):=by
  have hf:=w.fresh h
  refine ⟨fun c hc=>?_, ?_, fun c hc=>?_⟩
  . simp only [List.flatten_cons, List.cons_append, List.nil_append, List.mem_cons] at hc
    rcases hc with rfl | hc
    . exact Yn
    . rw [XM (fun e=>hf (by rw [← e]; exact Q0 hc))]; exact w.tr c hc
  . rw [Yy]; simpa using ⟨hf, w.nd⟩
  . simp only [List.flatten_cons, List.cons_append, List.nil_append, List.mem_cons] at hc
    rcases hc with rfl | hc
    . exact m
    . exact w.mu c hc
theorem Vq {OO} {H : Hp} {p : Addr} (h : H p = none) {o : HO} : Xo (hid H OO) (hid (upd H p o) ([(p, o)] :: OO)):=fun b u q=>by
  obtain ⟨q1, q2⟩:=Yt q
  have hb : b ≠ p:=Yb q1 h
  refine ZD (by rw [XM hb]; exact q1) ?_
  rw [Yy]; simpa using ⟨hb, q2⟩
theorem ZH {OO} {H : Hp} (w : W OO H) {p : Addr} (h : H p = none) {o : HO} : hid (upd H p o) OO p = some o:=ZD Yn (w.fresh h)
class MonoE {α : Type} (r : Enc α) : Prop where
  mono : ∀ {K : PySem.W.Frag} {H H' : Hp} {v : V} {a : α}, Xo H H' -> r K H v a -> r K H' v a
noncomputable def BX : HO -> Bool
  | .tup _=>true
  | .frz _ _=>true
  | _=>false
noncomputable def Jm (H H' : Hp) : Prop:=∀ b o, H b = some o -> BX o = true -> H' b = some o
theorem Xo.i {H H' : Hp} (s : Xo H H') : Jm H H':=fun b o h _=>s b o h
theorem W.i {OO} {H : Hp} (w : W OO H) : Jm H (hid H OO):=fun b o h i=>ZD h fun z=>by
  obtain ⟨u, hu⟩:=Ka z
  have h1:=w.tr _ hu
  have h2:=w.mu _ hu
  rw [h] at h1
  have e : o = u:=Option.some.inj h1
  subst e
  revert i h2; cases o <;> simp [BX, Cl]
theorem Jm.trans {H H1 H2 : Hp} (a : Jm H H1) (b : Jm H1 H2) : Jm H H2:=fun c o h i=>b c o (a c o h i) i
class FlatE {α : Type} (r : Enc α) : Prop where
  flat : ∀ {K : PySem.W.Frag} {H H' : Hp} {v : V} {a : α}, Jm H H' -> r K H v a -> r K H' v a
instance {α : Type} {r : Enc α} [f : FlatE r] : MonoE r:=⟨fun s h=>f.flat s.i h⟩
noncomputable def Yc : Enc Bool:=fun _ _ v b=>v = .bl b
noncomputable def QO {α : Type} (r : Enc α) : Enc (Option α):=fun K H v a=>match a with
  | none=>v = .non
  | some a=>v ≠ .non /\ r K H v a
noncomputable def rV {α : Type} (r : Enc α) : Enc (List α):=fun K H v as=>∃ a xs, v = .ref a /\ H a = some (.lst xs) /\ Paired (r K H) xs as
noncomputable def rPL {α : Type} (r : Enc α) : Enc (List α):=fun K H v as=>∃ a xs, v = .ref a /\ H a = some (.tup xs) /\ Paired (r K H) xs as
noncomputable def rP2 {α β : Type} (r : Enc α) (q : Enc β) : Enc (α × β):=fun K H v p=>∃ a x y, v = .ref a /\ H a = some (.tup [x, y]) /\ r K H x p.1 /\ q K H y p.2
noncomputable def rP3 {α β γ : Type} (r : Enc α) (q : Enc β) (t : Enc γ) : Enc (α × β × γ):=fun K H v p=>∃ a x y z, v = .ref a /\ H a = some (.tup [x, y, z]) /\ r K H x p.1 /\ q K H y p.2.1 /\ t K H z p.2.2
instance {α : Type} {r : Enc α} [m : MonoE r] : MonoE (rV r):=⟨fun s h9=>(by obtain ⟨a, xs, e, q, p⟩:=h9; exact ⟨a, xs, e, s _ _ q, Paired.imp2 (fun _ _ z=>m.mono s z) p⟩)⟩
instance {α : Type} {r : Enc α} [m : MonoE r] : MonoE (rPL r):=⟨fun s h9=>(by obtain ⟨a, xs, e, q, p⟩:=h9; exact ⟨a, xs, e, s _ _ q, Paired.imp2 (fun _ _ z=>m.mono s z) p⟩)⟩
instance {α : Type} {r : Enc α} [m : FlatE r] : FlatE (rPL r):=⟨fun s h9=>(by obtain ⟨a, xs, e, q, p⟩:=h9; exact ⟨a, xs, e, s _ _ q rfl, Paired.imp2 (fun _ _ z=>m.flat s z) p⟩)⟩
instance {α β : Type} {r : Enc α} {q : Enc β} [m : MonoE r] [n : MonoE q] : MonoE (rP2 r q):=⟨fun s h9=>(by obtain ⟨a, x, y, e, h, p1, p2⟩:=h9; exact ⟨a, x, y, e, s _ _ h, m.mono s p1, n.mono s p2⟩)⟩
instance {α β : Type} {r : Enc α} {q : Enc β} [m : FlatE r] [n : FlatE q] : FlatE (rP2 r q):=⟨fun s h9=>(by obtain ⟨a, x, y, e, h, p1, p2⟩:=h9; exact ⟨a, x, y, e, s _ _ h rfl, m.flat s p1, n.flat s p2⟩)⟩
instance {α β γ : Type} {r : Enc α} {q : Enc β} {t : Enc γ} [m : MonoE r] [n : MonoE q] [k : MonoE t] : MonoE (rP3 r q t):=⟨fun s h9=>(by obtain ⟨a, x, y, z, e, h, p1, p2, p3⟩:=h9; exact ⟨a, x, y, z, e, s _ _ h, m.mono s p1, n.mono s p2, k.mono s p3⟩)⟩
instance {α β γ : Type} {r : Enc α} {q : Enc β} {t : Enc γ} [m : FlatE r] [n : FlatE q] [k : FlatE t] : FlatE (rP3 r q t):=⟨fun s h9=>(by obtain ⟨a, x, y, z, e, h, p1, p2, p3⟩:=h9; exact ⟨a, x, y, z, e, s _ _ h rfl, m.flat s p1, n.flat s p2, k.flat s p3⟩)⟩
instance : FlatE Xb:=⟨fun _ h=>h⟩
instance : FlatE Yc:=⟨fun _ h=>h⟩
instance {α : Type} {r : Enc α} [m : MonoE r] : MonoE (rL r):=⟨fun s h9=>(by obtain ⟨a, xs, e, q, p⟩:=h9; exact ⟨a, xs, e, s.seq q, Paired.imp2 (fun _ _ z=>m.mono s z) p⟩)⟩
instance {α : Type} {r : Enc α} [m : MonoE r] : MonoE (QO r):=⟨fun {K H H' v a} s h=>by cases a with
  | none=>exact h
  | some a=>exact ⟨h.1, m.mono s h.2⟩⟩
instance {α : Type} {r : Enc α} [m : FlatE r] : FlatE (QO r):=⟨fun {K H H' v a} s h=>by cases a with
  | none=>exact h
  | some a=>exact ⟨h.1, m.flat s h.2⟩⟩
noncomputable abbrev OE (α : Type):=PySem.W.Frag -> Hp -> V -> α -> List Xx -> Prop
inductive P3 {α β γ : Type} (F : α -> β -> γ -> Prop) : List α -> List β -> List γ -> Prop where
  | nil : P3 F [] [] []
  | cons {a b c l m n} : F a b c -> P3 F l m n -> P3 F (a :: l) (b :: m) (c :: n)
noncomputable def oF {α : Type} (r : Enc α) : OE α:=fun K h v a C=>C = [] /\ r K h v a
noncomputable def oL {α : Type} (o : OE α) : OE (List α):=fun K h v as C=>∃ p xs Cs, v = .ref p /\ P3 (o K h) xs as Cs /\ C = (p, .lst xs) :: Cs.flatten
noncomputable def oT2 {α β : Type} (o : OE α) (q : OE β) : OE (α × β):=fun K h v a C=>∃ p x y C1 C2, v = .ref p /\ h p = some (.tup [x, y]) /\ o K h x a.1 C1 /\ q K h y a.2 C2 /\ C = C1 ++ C2
noncomputable def Ve {α : Type} (o : OE α) : OE (Option α):=fun K h v a C=>match a with
  | none=>v = .non /\ C = []
  | some a=>v ≠ .non /\ o K h v a C
section
variable {α β γ δ : Type}
theorem P3.imp {F G : α -> β -> γ -> Prop} (h : ∀ a b c, F a b c -> G a b c) : ∀ {l m n}, P3 F l m n -> P3 G l m n:=fun p=>by
  induction p with
  | nil=>exact .nil
  | cons r _ ih=>exact .cons (h _ _ _ r) ih
theorem P3.app {F : α -> β -> γ -> Prop} : ∀ {l m n l' m' n'}, P3 F l m n -> P3 F l' m' n' -> P3 F (l ++ l') (m ++ m') (n ++ n'):=fun p h=>by
  induction p with
  | nil=>exact h
  | cons r _ ih=>exact .cons r ih
theorem P3.snoc {F : α -> β -> γ -> Prop} {l m n a b c} (h : P3 F l m n) (r : F a b c) : P3 F (l ++ [a]) (m ++ [b]) (n ++ [c]):=h.app (.cons r .nil)
theorem P3.len {F : α -> β -> γ -> Prop} : ∀ {l m n}, P3 F l m n -> l.length = m.length /\ n.length = m.length
  | _, _, _, .nil=>⟨rfl, rfl⟩
  | _, _, _, .cons _ t=>by simp [(P3.len t).1, (P3.len t).2]
theorem P3.pair {F : α -> β -> γ -> Prop} {G : α -> β -> Prop} : ∀ {l m n}, P3 F l m n -> (∀ a b c, c ∈ n -> F a b c -> G a b) -> Paired G l m:=fun p h=>by
  induction p with
  | nil=>exact .nil
  | cons r _ ih=>exact .cons (h _ _ _ List.mem_cons_self r) (ih fun a b c hc=>h a b c (List.mem_cons_of_mem _ hc))
theorem P3.get {F : α -> β -> γ -> Prop} : ∀ {l m n} {i : Nat} {b : β}, P3 F l m n -> m[i]? = some b -> ∃ a c, l[i]? = some a /\ n[i]? = some c /\ F a b c
  | _, _, _, _, _, .nil, e=>by simp at e
  | _, _, _, 0, _, .cons r _, e=>by simp at e; subst e; exact ⟨_, _, rfl, rfl, r⟩
  | _, _, _, i + 1, b, .cons _ t, e=>by
    obtain ⟨a, c, h1, h2, h3⟩:=P3.get (i:=i) (b:=b) t (by simpa using e)
    exact ⟨a, c, by simpa using h1, by simpa using h2, h3⟩
theorem P3.set {F : α -> β -> γ -> Prop} {a : α} {b : β} {c : γ} (r : F a b c) : ∀ {l m n} (i : Nat), P3 F l m n -> P3 F (l.set i a) (m.set i b) (n.set i c)
  | _, _, _, _, .nil=>.nil
  | _, _, _, 0, .cons _ t=>.cons r t
  | _, _, _, i + 1, .cons q t=>.cons q (P3.set r i t)
theorem P3.flat {F : α -> β -> Prop} : ∀ {l : List α} {m : List β} {n : List (List Xx)}, P3 (fun a b c=>c = [] /\ F a b) l m n -> Paired F l m /\ n.flatten = []:=fun p=>by
  induction p with
  | nil=>exact ⟨.nil, rfl⟩
  | cons r _ ih=>exact ⟨.cons r.2 ih.1, by rw [List.flatten_cons, r.1, ih.2]; rfl⟩
theorem P3.of {F : α -> β -> Prop} : ∀ {l : List α} {m : List β}, Paired F l m -> P3 (fun a b (c : List Xx)=>c = [] /\ F a b) l m (List.replicate m.length [])
  | _, _, .nil=>.nil
  | _, _, .cons r t=>.cons ⟨rfl, r⟩ (P3.of t)
theorem X9 : ∀ n : Nat, (List.replicate n ([] : List Xx)).flatten = []
  | 0=>rfl
  | n + 1=>by simp [List.replicate_succ, X9 n]
end
class MonoO {α : Type} (o : OE α) : Prop where
  mono : ∀ {K : PySem.W.Frag} {H H' : Hp} {v : V} {a : α} {C : List Xx}, Xo H H' -> o K H v a C -> o K H' v a C
class FlatO {α : Type} (o : OE α) : Prop where
  flat : ∀ {K : PySem.W.Frag} {H H' : Hp} {v : V} {a : α} {C : List Xx}, Jm H H' -> o K H v a C -> o K H' v a C
class FrzC {α : Type} (o : OE α) (r : outParam (Enc α)) : Prop where
  frz : ∀ {K : PySem.W.Frag} {H H' : Hp} {v : V} {a : α} {C : List Xx}, o K H v a C -> Xo H H' -> (∀ c ∈ C, H' c.1 = some c.2) -> r K H' v a
instance {α : Type} {r : Enc α} [m : MonoE r] : MonoO (oF r):=⟨fun s h=>⟨h.1, m.mono s h.2⟩⟩
instance {α : Type} {r : Enc α} [m : FlatE r] : FlatO (oF r):=⟨fun s h=>⟨h.1, m.flat s h.2⟩⟩
instance {α : Type} {r : Enc α} [m : MonoE r] : FrzC (oF r) r:=⟨fun h s _=>m.mono s h.2⟩
instance {α : Type} {o : OE α} [m : MonoO o] : MonoO (oL o):=⟨fun s h9=>(by obtain ⟨p, xs, Cs, e, q, c⟩:=h9; exact ⟨p, xs, Cs, e, q.imp fun _ _ _ z=>m.mono s z, c⟩)⟩
instance {α : Type} {o : OE α} [m : FlatO o] : FlatO (oL o):=⟨fun s h9=>(by obtain ⟨p, xs, Cs, e, q, c⟩:=h9; exact ⟨p, xs, Cs, e, q.imp fun _ _ _ z=>m.flat s z, c⟩)⟩
instance {α : Type} {o : OE α} {r : Enc α} [m : FrzC o r] : FrzC (oL o) (rV r):=⟨fun ⟨p, xs, Cs, e, q, c⟩ s hc=>by
  subst c
  exact ⟨p, xs, e, hc _ List.mem_cons_self, q.pair fun a b c hm z=>m.frz z s fun x hx=>hc x (List.mem_cons_of_mem _ (List.mem_flatten.mpr ⟨c, hm, hx⟩))⟩⟩
instance {α β : Type} {o : OE α} {q : OE β} [m : MonoO o] [n : MonoO q] : MonoO (oT2 o q):=⟨fun s h9=>(by obtain ⟨p, x, y, C1, C2, e, h, h1, h2, c⟩:=h9; exact ⟨p, x, y, C1, C2, e, s _ _ h, m.mono s h1, n.mono s h2, c⟩)⟩
instance {α β : Type} {o : OE α} {q : OE β} [m : FlatO o] [n : FlatO q] : FlatO (oT2 o q):=⟨fun s h9=>(by obtain ⟨p, x, y, C1, C2, e, h, h1, h2, c⟩:=h9; exact ⟨p, x, y, C1, C2, e, s _ _ h rfl, m.flat s h1, n.flat s h2, c⟩)⟩
instance {α β : Type} {o : OE α} {q : OE β} {r : Enc α} {t : Enc β} [m : FrzC o r] [n : FrzC q t] : FrzC (oT2 o q) (rP2 r t):=⟨fun ⟨p, x, y, C1, C2, e, h, h1, h2, c⟩ s hc=>by
  subst c
  exact ⟨p, x, y, e, s _ _ h, m.frz h1 s fun c hm=>hc c (by simp [hm]), n.frz h2 s fun c hm=>hc c (by simp [hm])⟩⟩
instance {α : Type} {o : OE α} [m : MonoO o] : MonoO (Ve o):=⟨fun {K H H' v a C} s h=>by cases a with
  | none=>exact h
  | some a=>exact ⟨h.1, m.mono s h.2⟩⟩
instance {α : Type} {o : OE α} [m : FlatO o] : FlatO (Ve o):=⟨fun {K H H' v a C} s h=>by cases a with
  | none=>exact h
  | some a=>exact ⟨h.1, m.flat s h.2⟩⟩
instance {α : Type} {o : OE α} {r : Enc α} [m : FrzC o r] : FrzC (Ve o) (QO r):=⟨fun {K H H' v a C} h s hc=>by cases a with
  | none=>exact h.1
  | some a=>exact ⟨h.1, m.frz h.2 s hc⟩⟩
structure SC where
  p : Hp -> Prop
  mono : ∀ h h', Xo h h' -> p h -> p h'
noncomputable def SC.nil : SC:=⟨fun _=>True, fun _ _ _ _=>True.intro⟩
noncomputable def SC.and (S T : SC) : SC:=⟨fun h=>S.p h /\ T.p h, fun _ _ s q=>⟨S.mono _ _ s q.1, T.mono _ _ s q.2⟩⟩
noncomputable def SC.one {α : Type} (K : PySem.W.Frag) (r : Enc α) [m : MonoE r] (v : V) (a : α) : SC:=⟨fun h=>r K h v a, fun _ _ s q=>m.mono s q⟩
noncomputable def SC.oneO {α : Type} (K : PySem.W.Frag) (o : OE α) [m : MonoO o] (v : V) (a : α) (C : List Xx) : SC:=⟨fun h=>o K h v a C, fun _ _ s q=>m.mono s q⟩
noncomputable abbrev SC.add {α : Type} (S : SC) (K : PySem.W.Frag) (r : Enc α) [m : MonoE r] (v : V) (a : α) : SC:=S.and (SC.one K r v a)
noncomputable abbrev SC.addO {α : Type} (S : SC) (K : PySem.W.Frag) (o : OE α) [m : MonoO o] (v : V) (a : α) (C : List Xx) : SC:=S.and (SC.oneO K o v a C)
theorem SC.l {S T : SC} {h : Hp} (q : (S.and T).p h) : S.p h:=q.1
theorem SC.r {S T : SC} {h : Hp} (q : (S.and T).p h) : T.p h:=q.2
theorem SC.i {S T : SC} {h : Hp} (q : S.p h) (p : T.p h) : (S.and T).p h:=⟨q, p⟩
theorem SC.t {h : Hp} : SC.nil.p h:=True.intro
noncomputable def PZ {β : Type} (Er : Exc -> Hp -> Prop) (F : β -> Hp -> Prop) (H : Hp) (m : Res β) : Prop:=
  match m with
  | .bad=>False
  | .err x=>∀ H', Xo H H' -> Er x H'
  | .ok b=>F b H
section
variable (K : PySem.W.Frag) (Er : Exc -> Hp -> Prop) (S : SC) (OO OO' : List (List Xx)) (σ : St)
noncomputable def FB {α : Type} (r : Enc α) (Q : VK) (a : α) (H : Hp) : Prop:=∀ v H', Xo H H' -> r K H' v a -> Q v H'
noncomputable def FO {α : Type} (o : OE α) (Q : VK) (a : α) (H : Hp) : Prop:=∀ v C H', Xo H H' -> W (C :: OO') H' -> Xo (hid H OO) (hid H' (C :: OO')) -> o K (hid H' (C :: OO')) v a C -> Q v H'
noncomputable def FT (Q : Bool -> Hp -> Prop) (b : Bool) (H : Hp) : Prop:=∀ H', Xo H H' -> Q b H'
noncomputable def EvB {α : Type} (te : TE) (r : Enc α) (m : Res α) : Prop:=∀ H Q, W OO H -> S.p (hid H OO) -> PZ Er (FB K r Q) H m -> te σ H Q
noncomputable def Ev {α : Type} (te : TE) (o : OE α) (m : Res α) : Prop:=∀ H Q, W OO H -> S.p (hid H OO) -> PZ Er (FO K OO OO' o Q) H m -> te σ H Q
noncomputable def EvT (tt : TT) (m : Res Bool) : Prop:=∀ H Q, W OO H -> S.p (hid H OO) -> PZ Er (FT Q) H m -> tt σ H Q
end
section
variable {K : PySem.W.Frag} {Er : Exc -> Hp -> Prop} {S : SC} {OO OO' OO2 : List (List Xx)} {σ : St} {α β γ : Type}
theorem FB.tr {r : Enc α} {Q : VK} : ∀ a H H', Xo H H' -> FB K r Q a H -> FB K r Q a H':=fun a H H' s h v H2 s2 q=>h v H2 (s.trans s2) q
theorem FO.tr {o : OE α} {Q : VK} : ∀ a H H', Xo H H' -> FO K OO OO' o Q a H -> FO K OO OO' o Q a H':=fun a H H' s h v C H2 s2 w m q=>h v C H2 (s.trans s2) w ((Xj s).trans m) q
theorem FT.tr {Q : Bool -> Hp -> Prop} : ∀ b H H', Xo H H' -> FT Q b H -> FT Q b H':=fun a H H' s h H2 s2=>h H2 (s.trans s2)
theorem EvB.run {te : TE} {r : Enc α} {m : Res α} (he : EvB K Er S OO σ te r m) {H : Hp} {Q : VK} (w : W OO H) (s : S.p (hid H OO)) {f : α -> Res β} {F : β -> Hp -> Prop} (hF : ∀ b H H', Xo H H' -> F b H -> F b H') (P : PZ Er F H (m.bind f))
    (hk : ∀ a v H', Xo H H' -> W OO H' -> S.p (hid H' OO) -> r K H' v a -> PZ Er F H' (f a) -> Q v H') : te σ H Q:=by
  refine he H Q w s ?_
  cases m with
  | bad=>exact P
  | err x=>exact P
  | ok a=>
    intro v H' s' hr
    refine hk a v H' s' (w.keep s') (S.mono _ _ (Xj s') s) hr ?_
    have P' : PZ Er F H (f a):=P
    revert P'
    cases f a with
    | bad=>exact fun z=>z
    | err x=>exact fun z H2 s2=>z H2 (s'.trans s2)
    | ok b=>exact fun z=>hF b H H' s' z
theorem Ev.run {te : TE} {o : OE α} {m : Res α} (he : Ev K Er S OO OO' σ te o m) {H : Hp} {Q : VK} (w : W OO H) (s : S.p (hid H OO)) {f : α -> Res β} {F : β -> Hp -> Prop} (hF : ∀ b H H', Xo H H' -> F b H -> F b H') (P : PZ Er F H (m.bind f))
    (hk : ∀ a v C H', Xo H H' -> W (C :: OO') H' -> Xo (hid H OO) (hid H' (C :: OO')) -> S.p (hid H' (C :: OO')) -> o K (hid H' (C :: OO')) v a C -> PZ Er F H' (f a) -> Q v H') : te σ H Q:=by
  refine he H Q w s ?_
  cases m with
  | bad=>exact P
  | err x=>exact P
  | ok a=>
    intro v C H' s' w' m' ho
    refine hk a v C H' s' w' m' (S.mono _ _ m' s) ho ?_
    have P' : PZ Er F H (f a):=P
    revert P'
    cases f a with
    | bad=>exact fun z=>z
    | err x=>exact fun z H2 s2=>z H2 (s'.trans s2)
    | ok b=>exact fun z=>hF b H H' s' z
theorem EvT.run {tt : TT} {m : Res Bool} (he : EvT Er S OO σ tt m) {H : Hp} {Q : Bool -> Hp -> Prop} (w : W OO H) (s : S.p (hid H OO)) {f : Bool -> Res β} {F : β -> Hp -> Prop} (hF : ∀ b H H', Xo H H' -> F b H -> F b H') (P : PZ Er F H (m.bind f))
    (hk : ∀ b H', Xo H H' -> W OO H' -> S.p (hid H' OO) -> PZ Er F H' (f b) -> Q b H') : tt σ H Q:=by
  refine he H Q w s ?_
  cases m with
  | bad=>exact P
  | err x=>exact P
  | ok a=>
    intro H' s'
    refine hk a H' s' (w.keep s') (S.mono _ _ (Xj s') s) ?_
    have P' : PZ Er F H (f a):=P
    revert P'
    cases f a with
    | bad=>exact fun z=>z
    | err x=>exact fun z H2 s2=>z H2 (s'.trans s2)
    | ok b=>exact fun z=>hF b H H' s' z
theorem Ev.toB {te : TE} {o : OE α} {r : Enc α} [z : FrzC o r] {m : Res α} (he : Ev K Er S OO OO σ te o m) : EvB K Er S OO σ te r m:=fun H Q w s P=>by
  refine he H Q w s ?_
  cases m with
  | bad=>exact P
  | err x=>exact P
  | ok a=>exact fun v C H' s' w' m' ho=>P v H' s' (z.frz ho XG w'.cell)
theorem Ev.frz {te : TE} {o : OE α} {r : Enc α} [z : FrzC o r] {m : Res α} (he : Ev K Er S OO OO' σ te o m) : Ev K Er S OO OO' σ te (oF r) m:=fun H Q w s P=>by
  refine he H Q w s ?_
  cases m with
  | bad=>exact P
  | err x=>exact P
  | ok a=>
    intro v C H' s' w' m' ho
    have hs : Xo (hid H' (C :: OO')) (hid H' ([] :: OO')):=Za (Xo.refl _) fun b hb=>by rw [Kc] at hb; rw [Yy]; simp [hb]
    refine P v [] H' s' w'.tail.nil (m'.trans hs) ⟨rfl, z.frz ho hs fun c hc=>ZD (w'.cell c hc) ?_⟩
    rw [Kc]
    have:=w'.nd
    rw [Yy] at this
    intro hb
    exact (List.nodup_append.mp this).2.2 c.1 (List.mem_map.mpr ⟨c, hc, rfl⟩) c.1 hb rfl
theorem EvB.flat {te : TE} {r : Enc α} [z : FlatE r] {m : Res α} (he : EvB K Er S OO σ te r m) : Ev K Er S OO OO σ te (oF r) m:=fun H Q w s P=>by
  refine he H Q w s ?_
  cases m with
  | bad=>exact P
  | err x=>exact P
  | ok a=>
    intro v H' s' hr
    have w':=w.keep s'
    exact P v [] H' s' w'.nil (by rw [Yi]; exact Xj s') ⟨rfl, by rw [Yi]; exact z.flat w'.i hr⟩
theorem Xa {r : Enc α} [z : MonoE r] {v : V} {a : α} (i : Nat) (hσ : σ[i]? = some (some v)) (h : ∀ x, S.p x -> r K x v a) : EvB K Er S OO σ (Vc i) r (.ok a):=fun H Q w s P=>
  ⟨v, hσ, P v H (Xo.refl _) (z.mono XG (h _ s))⟩
theorem Yk {o : OE α} {r : Enc α} [z : FrzC o r] {v : V} {a : α} {C : List Xx} (i k : Nat) (hσ : σ[i]? = some (some v)) (hk : OO[k]? = some C) (h : ∀ x, S.p x -> o K x v a C) : EvB K Er S OO σ (Vc i) r (.ok a):=fun H Q w s P=>
  ⟨v, hσ, P v H (Xo.refl _) (z.frz (h _ s) XG fun c hc=>w.tr c (List.mem_flatten.mpr ⟨C, List.mem_of_getElem? hk, hc⟩))⟩
theorem XQ : ∀ {OO : List (List Xx)} {k : Nat} {C : List Xx}, OO[k]? = some C -> (C :: OO.set k []).flatten.Perm OO.flatten
  | [], _, _, h=>by simp at h
  | D :: OO, 0, C, h=>by simp at h; subst h; simp
  | D :: OO, k + 1, C, h=>by
    have:=XQ (OO:=OO) (k:=k) (C:=C) (by simpa using h)
    simp only [List.set_cons_succ, List.flatten_cons] at this ⊢
    refine List.Perm.trans ?_ (this.append_left D)
    rw [← List.append_assoc, ← List.append_assoc]
    exact List.perm_append_comm.append_right _
theorem KU {OO OO' : List (List Xx)} (h : OO'.flatten.Perm OO.flatten) (b : Addr) : b ∈ fl OO' ↔ b ∈ fl OO:=(h.map (·.1)).mem_iff
theorem XJ {H : Hp} {OO OO' : List (List Xx)} (h : OO'.flatten.Perm OO.flatten) : hid H OO' = hid H OO:=by
  funext b; unfold hid
  by_cases hb : b ∈ fl OO
  . rw [if_pos hb, if_pos ((KU h b).mpr hb)]
  . rw [if_neg hb, if_neg fun z=>hb ((KU h b).mp z)]
theorem Yu {o : OE α} {v : V} {a : α} {C : List Xx} (i k : Nat) (hσ : σ[i]? = some (some v)) (hk : OO[k]? = some C) (h : ∀ x, S.p x -> o K x v a C) : Ev K Er S OO (OO.set k []) σ (Vc i) o (.ok a):=fun H Q w s P=>by
  have hp:=XQ hk
  exact ⟨v, hσ, P v C H (Xo.refl _) (w.of hp) (by rw [XJ hp]; exact Xo.refl _) (by rw [XJ hp]; exact h _ s)⟩
theorem Xe (n : Int) : EvB K Er S OO σ (tC (.int n)) Xb (.ok n):=fun H Q w s P=>P _ H (Xo.refl _) rfl
theorem QS (b : Bool) : EvB K Er S OO σ (tC (.bl b)) Yc (.ok b):=fun H Q w s P=>P _ H (Xo.refl _) rfl
theorem Br {o : OE α} : Ev K Er S OO OO σ (tC .non) (Ve o) (.ok none):=fun H Q w s P=>P _ [] H (Xo.refl _) w.nil (by rw [Yi]; exact Xo.refl _) ⟨rfl, rfl⟩
theorem QG {ta tb : TE} {g : Int -> Int -> V} {r : Enc β} {f : Int -> Int -> β} {ma mb : Res Int} (hg : ∀ K H i j, r K H (g i j) (f i j)) (ha : EvB K Er S OO σ ta Xb ma) (hb : EvB K Er S OO σ tb Xb mb) :
    EvB K Er S OO σ (tOp (rI0 g) ta tb) r (ma.bind fun a=>mb.bind fun b=>.ok (f a b)):=fun H Q w s P=>
  ha.run w s FB.tr P fun a x H1 s1 w1 q1 r1 P1=>hb.run w1 q1 FB.tr P1 fun b y H2 s2 w2 q2 r2 P2=>⟨a, b, r1, r2, P2 _ H2 (Xo.refl _) (hg K H2 a b)⟩
theorem Jt {ta tb : TE} {Cc : Int -> Int -> Prop} {g : Int -> Int -> V} {r : Enc β} {f : Int -> Int -> Res β} {ma mb : Res Int} (hg : ∀ K H i j c, f i j = .ok c -> Cc i j /\ r K H (g i j) c) (he : ∀ i j x, f i j ≠ .err x)
    (ha : EvB K Er S OO σ ta Xb ma) (hb : EvB K Er S OO σ tb Xb mb) :
    EvB K Er S OO σ (tOp (rI Cc g) ta tb) r (ma.bind fun a=>mb.bind fun b=>f a b):=fun H Q w s P=>
  ha.run w s FB.tr P fun a x H1 s1 w1 q1 r1 P1=>hb.run w1 q1 FB.tr P1 fun b y H2 s2 w2 q2 r2 P2=>by
    cases e : f a b with
    | bad=>rw [e] at P2; exact P2.elim
    | err x=>exact absurd e (he a b x)
    | ok c=>
      rw [e] at P2
      obtain ⟨h1, h2⟩:=hg K H2 a b c e
      exact ⟨a, b, r1, r2, h1, P2 _ H2 (Xo.refl _) h2⟩
noncomputable def Vb (a b : Int) : Res Int:=chk ((-(2 ^ 64) < a /\ a < 2 ^ 64) ∨ (-(2 ^ 64) < b /\ b < 2 ^ 64)) (.ok (a * b))
noncomputable def Z2 (a b : Int) : Res Int:=chk (0 < b) (.ok (a % b))
noncomputable def Ci (a b : Int) : Res Int:=chk (0 < b /\ b.natAbs.log2 < 9000) (.ok (a / b))
noncomputable def Bz (a b : Int) : Res Int:=chk (0 <= b /\ b <= 1000000 /\ a.natAbs < 2 ^ 64) (.ok (a ^ b.toNat))
theorem YE {c : Prop} [Decidable c] {m : Res α} {a : α} (h : chk c m = .ok a) : c /\ m = .ok a:=by
  unfold chk at h; split at h
  . exact ⟨by assumption, h⟩
  . cases h
theorem Zi {c : Prop} [Decidable c] {a : α} {x : Exc} : chk c (Res.ok a) ≠ .err x:=by
  unfold chk; split <;> exact fun z=>nomatch z
theorem YD {ta tb : TE} {ma mb : Res Int} (ha : EvB K Er S OO σ ta Xb ma) (hb : EvB K Er S OO σ tb Xb mb) : EvB K Er S OO σ (tOp (rI BD fun i j=>.int (i * j)) ta tb) Xb (ma.bind fun a=>mb.bind fun b=>Vb a b):=
  Jt (fun K H i j c h=>by obtain ⟨h1, h2⟩:=YE h; cases h2; exact ⟨h1, rfl⟩) (fun i j x=>Zi) ha hb
theorem XU {ta tb : TE} {ma mb : Res Int} (ha : EvB K Er S OO σ ta Xb ma) (hb : EvB K Er S OO σ tb Xb mb) : EvB K Er S OO σ (tOp (rI (fun _ j=>0 < j) fun i j=>.int (i % j)) ta tb) Xb (ma.bind fun a=>mb.bind fun b=>Z2 a b):=
  Jt (fun K H i j c h=>by obtain ⟨h1, h2⟩:=YE h; cases h2; exact ⟨h1, rfl⟩) (fun i j x=>Zi) ha hb
theorem Vy {ta tb : TE} {ma mb : Res Int} (ha : EvB K Er S OO σ ta Xb ma) (hb : EvB K Er S OO σ tb Xb mb) : EvB K Er S OO σ (tOp (rI (fun _ j=>0 < j /\ j.natAbs.log2 < 9000) fun i j=>.int (i / j)) ta tb) Xb (ma.bind fun a=>mb.bind fun b=>Ci a b):=
  Jt (fun K H i j c h=>by obtain ⟨h1, h2⟩:=YE h; cases h2; exact ⟨h1, rfl⟩) (fun i j x=>Zi) ha hb
theorem Gs {ta tb : TE} {ma mb : Res Int} (ha : EvB K Er S OO σ ta Xb ma) (hb : EvB K Er S OO σ tb Xb mb) : EvB K Er S OO σ (tOp (rI BY fun i j=>.int (i ^ j.toNat)) ta tb) Xb (ma.bind fun a=>mb.bind fun b=>Bz a b):=
  Jt (fun K H i j c h=>by obtain ⟨h1, h2⟩:=YE h; cases h2; exact ⟨h1, rfl⟩) (fun i j x=>Zi) ha hb
theorem Ye {ta tb : TE} {ma mb : Res Int} (ha : EvB K Er S OO σ ta Xb ma) (hb : EvB K Er S OO σ tb Xb mb) : EvB K Er S OO σ (tOp (rI0 fun i j=>.int (i + j)) ta tb) Xb (ma.bind fun a=>mb.bind fun b=>.ok (a + b)):=QG (fun _ _ _ _=>rfl) ha hb
theorem Yj {ta tb : TE} {ma mb : Res Int} (ha : EvB K Er S OO σ ta Xb ma) (hb : EvB K Er S OO σ tb Xb mb) : EvB K Er S OO σ (tOp (rI0 fun i j=>.int (i - j)) ta tb) Xb (ma.bind fun a=>mb.bind fun b=>.ok (a - b)):=QG (fun _ _ _ _=>rfl) ha hb
theorem Zf {ta tb : TE} {ma mb : Res Int} (ha : EvB K Er S OO σ ta Xb ma) (hb : EvB K Er S OO σ tb Xb mb) : EvB K Er S OO σ (tOp (rI0 fun i j=>.bl (decide (i < j))) ta tb) Yc (ma.bind fun a=>mb.bind fun b=>.ok (decide (a < b))):=QG (fun _ _ _ _=>rfl) ha hb
theorem Z4 {ta tb : TE} {ma mb : Res Int} (ha : EvB K Er S OO σ ta Xb ma) (hb : EvB K Er S OO σ tb Xb mb) : EvB K Er S OO σ (tOp (rI0 fun i j=>.bl (decide (j < i))) ta tb) Yc (ma.bind fun a=>mb.bind fun b=>.ok (decide (b < a))):=QG (fun _ _ _ _=>rfl) ha hb
theorem K5 {ta tb : TE} {ma mb : Res Int} (ha : EvB K Er S OO σ ta Xb ma) (hb : EvB K Er S OO σ tb Xb mb) : EvB K Er S OO σ (tOp (rI0 fun i j=>.bl (decide (j <= i))) ta tb) Yc (ma.bind fun a=>mb.bind fun b=>.ok (decide (b <= a))):=QG (fun _ _ _ _=>rfl) ha hb
theorem U4 {ta : TE} {ma : Res Int} (ha : EvB K Er S OO σ ta Xb ma) : EvB K Er S OO σ (tUn (rU fun i=>.int (-i)) ta) Xb (ma.bind fun a=>.ok (-a)):=fun H Q w s P=>
  ha.run w s FB.tr P fun a x H1 s1 w1 q1 r1 P1=>⟨a, r1, P1 _ H1 (Xo.refl _) rfl⟩
class Scal {α : Type} [DecidableEq α] (r : Enc α) : Prop where
  to : ∀ {K : PySem.W.Frag} {H H' : Hp} {x y : V} {a b : α}, r K H x a -> r K H' y b -> BS x y = true /\ decide (x = y) = decide (a = b)
instance : Scal Xb:=⟨fun {K H H' x y a b} h1 h2=>by cases (show x = .int a from h1); cases (show y = .int b from h2); exact ⟨rfl, by simp⟩⟩
instance : Scal Yc:=⟨fun {K H H' x y a b} h1 h2=>by cases (show x = .bl a from h1); cases (show y = .bl b from h2); exact ⟨rfl, by simp⟩⟩
theorem Yw [DecidableEq α] {r : Enc α} [z : Scal r] [MonoE r] {ta tb : TE} {ma mb : Res α} (ha : EvB K Er S OO σ ta r ma) (hb : EvB K Er S OO σ tb r mb) : EvB K Er S OO σ (tOp rEq ta tb) Yc (ma.bind fun a=>mb.bind fun b=>.ok (decide (a = b))):=fun H Q w s P=>
  ha.run w s FB.tr P fun a x H1 s1 w1 q1 r1 P1=>hb.run w1 q1 FB.tr P1 fun b y H2 s2 w2 q2 r2 P2=>by
    obtain ⟨h1, h2⟩:=z.to r1 r2
    exact ⟨h1, P2 _ H2 (Xo.refl _) (by rw [h2]; rfl)⟩
theorem JG [DecidableEq α] {r : Enc α} [z : Scal r] [MonoE r] {ta tb : TE} {ma mb : Res α} (ha : EvB K Er S OO σ ta r ma) (hb : EvB K Er S OO σ tb r mb) : EvB K Er S OO σ (tOp rNe ta tb) Yc (ma.bind fun a=>mb.bind fun b=>.ok (!decide (a = b))):=fun H Q w s P=>
  ha.run w s FB.tr P fun a x H1 s1 w1 q1 r1 P1=>hb.run w1 q1 FB.tr P1 fun b y H2 s2 w2 q2 r2 P2=>by
    obtain ⟨h1, h2⟩:=z.to r1 r2
    exact ⟨h1, P2 _ H2 (Xo.refl _) (by rw [h2]; rfl)⟩
theorem DK [DecidableEq α] {r : Enc α} [z : MonoE r] {ta tb : TE} {ma mb : Res α} (ha : EvB K Er S OO σ ta r ma) (hb : EvB K Er S OO σ tb r mb) : EvB K Er S OO σ (tOp (Ef K r) ta tb) Yc (ma.bind fun a=>mb.bind fun b=>.ok (decide (a = b))):=fun H Q w s P=>
  ha.run w s FB.tr P fun a x H1 s1 w1 q1 r1 P1=>hb.run w1 q1 FB.tr P1 fun b y H2 s2 w2 q2 r2 P2=>⟨a, b, z.mono s2 r1, r2, P2 _ H2 (Xo.refl _) rfl⟩
theorem Q7 [DecidableEq α] {r : Enc α} [z : MonoE r] {ta tb : TE} {ma mb : Res α} (ha : EvB K Er S OO σ ta r ma) (hb : EvB K Er S OO σ tb r mb) : EvB K Er S OO σ (tOp (B6 K r) ta tb) Yc (ma.bind fun a=>mb.bind fun b=>.ok (!decide (a = b))):=fun H Q w s P=>
  ha.run w s FB.tr P fun a x H1 s1 w1 q1 r1 P1=>hb.run w1 q1 FB.tr P1 fun b y H2 s2 w2 q2 r2 P2=>⟨a, b, z.mono s2 r1, r2, P2 _ H2 (Xo.refl _) rfl⟩
theorem UL {te : TE} {m : Res Bool} (h : EvB K Er S OO σ te Yc m) : EvT Er S OO σ (tB te) m:=fun H Q w s P=>h H _ w s (by
  cases m with
  | bad=>exact P
  | err x=>exact P
  | ok a=>exact fun v H' s' r=>⟨a, r, P H' s'⟩)
theorem Xk {te : TE} {m : Res Bool} (h : EvB K Er S OO σ te Yc m) : EvT Er S OO σ (Bc te) m:=UL h
theorem Gd {t : TT} {m : Res Bool} (h : EvT Er S OO σ t m) : EvT Er S OO σ (B9 t) (m.bind fun b=>.ok (!b)):=fun H Q w s P=>h.run w s FT.tr P fun b H1 s1 w1 q1 P1=>P1 H1 (Xo.refl _)
noncomputable def ZS (a b : Res Bool) : Res Bool:=a.bind fun x=>if x = true then b else .ok false
noncomputable def orR (a b : Res Bool) : Res Bool:=a.bind fun x=>if x = true then .ok true else b
theorem Ya {t u : TT} {m n : Res Bool} (h : EvT Er S OO σ t m) (k : EvT Er S OO σ u n) : EvT Er S OO σ (BZ t u) (ZS m n):=fun H Q w s P=>h.run w s FT.tr P fun b H1 s1 w1 q1 P1=>by
  cases b with
  | true=>rw [if_pos rfl] at P1 ⊢; exact k H1 Q w1 q1 P1
  | false=>exact P1 H1 (Xo.refl _)
theorem Ku {t u : TT} {m n : Res Bool} (h : EvT Er S OO σ t m) (k : EvT Er S OO σ u n) : EvT Er S OO σ (tOr t u) (orR m n):=fun H Q w s P=>h.run w s FT.tr P fun b H1 s1 w1 q1 P1=>by
  cases b with
  | true=>exact P1 H1 (Xo.refl _)
  | false=>exact k H1 Q w1 q1 P1
theorem Ja {t u : TE} {m n : Res Bool} (h : EvB K Er S OO σ t Yc m) (k : EvB K Er S OO σ u Yc n) : EvB K Er S OO σ (CQ t u) Yc (ZS m n):=fun H Q w s P=>h.run w s FB.tr P fun b x H1 s1 w1 q1 r1 P1=>⟨b, r1, by
  cases b with
  | true=>rw [if_pos rfl] at P1 ⊢; exact k H1 Q w1 q1 P1
  | false=>exact P1 _ H1 (Xo.refl _) rfl⟩
theorem BG {c : TT} {ta tb : TE} {o : OE α} {mc : Res Bool} {ma mb : Res α} (hc : EvT Er S OO σ c mc) (ha : Ev K Er S OO OO' σ ta o ma) (hb : Ev K Er S OO OO' σ tb o mb) : Ev K Er S OO OO' σ (tIf c ta tb) o (mc.bind fun b=>if b = true then ma else mb):=fun H Q w s P=>
  hc.run w s FO.tr P fun b H1 s1 w1 q1 P1=>by
    cases b with
    | true=>rw [if_pos rfl] at P1 ⊢; exact ha H1 Q w1 q1 P1
    | false=>exact hb H1 Q w1 q1 P1
end
end L2
namespace L2
open PySem PySem.Spec PyProof.Rows
section
variable (K : PySem.W.Frag) (Er : Exc -> Hp -> Prop) (S : SC) (OO : List (List Xx)) (σ : St)
noncomputable def FS {α : Type} (r : Enc α) (Q : VK) (a : α) (H : Hp) : Prop:=∀ v H', Xo H H' -> r K (hid H' OO) v a -> Q v H'
noncomputable def EvS {α : Type} (te : TE) (r : Enc α) (m : Res α) : Prop:=∀ H Q, W OO H -> S.p (hid H OO) -> PZ Er (FS K OO r Q) H m -> te σ H Q
noncomputable def rE {α : Type} (r : Enc α) (H : Hp) (v : V) (as : List α) : Prop:=∃ p xs, v = .ref p /\ H p = some (.lst xs) /\ Paired (r K (hid H OO)) xs as
noncomputable def FL {α : Type} (r : Enc α) (Q : VK) (as : List α) (H : Hp) : Prop:=∀ v H', Xo H H' -> rE K OO r H' v as -> Q v H'
noncomputable def EvL {α : Type} (te : TE) (r : Enc α) (m : Res (List α)) : Prop:=∀ H Q, W OO H -> S.p (hid H OO) -> PZ Er (FL K OO r Q) H m -> te σ H Q
end
section
variable {K : PySem.W.Frag} {Er : Exc -> Hp -> Prop} {S : SC} {OO OO' OO2 : List (List Xx)} {σ : St} {α β γ : Type}
theorem FS.tr {r : Enc α} {Q : VK} : ∀ a H H', Xo H H' -> FS K OO r Q a H -> FS K OO r Q a H':=fun a H H' s h v H2 s2 q=>h v H2 (s.trans s2) q
theorem FL.tr {r : Enc α} {Q : VK} : ∀ a H H', Xo H H' -> FL K OO r Q a H -> FL K OO r Q a H':=fun a H H' s h v H2 s2 q=>h v H2 (s.trans s2) q
theorem PZ.run {F : β -> Hp -> Prop} {f : α -> Res β} {H H' : Hp} {a : α} {m : Res α} (hm : m = .ok a) (hF : ∀ b H H', Xo H H' -> F b H -> F b H') (s : Xo H H') (P : PZ Er F H (m.bind f)) : PZ Er F H' (f a):=by
  subst hm
  have P' : PZ Er F H (f a):=P
  revert P'
  cases f a with
  | bad=>exact fun z=>z
  | err x=>exact fun z H2 s2=>z H2 (s.trans s2)
  | ok b=>exact fun z=>hF b H H' s z
theorem EvS.run {te : TE} {r : Enc α} {m : Res α} (he : EvS K Er S OO σ te r m) {H : Hp} {Q : VK} (w : W OO H) (s : S.p (hid H OO)) {f : α -> Res β} {F : β -> Hp -> Prop} (hF : ∀ b H H', Xo H H' -> F b H -> F b H') (P : PZ Er F H (m.bind f))
    (hk : ∀ a v H', Xo H H' -> W OO H' -> S.p (hid H' OO) -> r K (hid H' OO) v a -> PZ Er F H' (f a) -> Q v H') : te σ H Q:=by
  refine he H Q w s ?_
  cases e : m with
  | bad=>rw [e] at P; exact P
  | err x=>rw [e] at P; exact P
  | ok a=>exact fun v H' s' hr=>hk a v H' s' (w.keep s') (S.mono _ _ (Xj s') s) hr (PZ.run e hF s' P)
theorem EvL.run {te : TE} {r : Enc α} {m : Res (List α)} (he : EvL K Er S OO σ te r m) {H : Hp} {Q : VK} (w : W OO H) (s : S.p (hid H OO)) {f : List α -> Res β} {F : β -> Hp -> Prop} (hF : ∀ b H H', Xo H H' -> F b H -> F b H') (P : PZ Er F H (m.bind f))
    (hk : ∀ a v H', Xo H H' -> W OO H' -> S.p (hid H' OO) -> rE K OO r H' v a -> PZ Er F H' (f a) -> Q v H') : te σ H Q:=by
  refine he H Q w s ?_
  cases e : m with
  | bad=>rw [e] at P; exact P
  | err x=>rw [e] at P; exact P
  | ok a=>exact fun v H' s' hr=>hk a v H' s' (w.keep s') (S.mono _ _ (Xj s') s) hr (PZ.run e hF s' P)
theorem PZ.imp {F G : β -> Hp -> Prop} {H : Hp} {m : Res β} (P : PZ Er F H m) (h : ∀ b, m = .ok b -> F b H -> G b H) : PZ Er G H m:=by
  cases m with
  | bad=>exact P
  | err x=>exact P
  | ok b=>exact h b rfl P
theorem EvS.toB {te : TE} {r : Enc α} [z : MonoE r] {m : Res α} (he : EvS K Er S OO σ te r m) : EvB K Er S OO σ te r m:=fun H Q w s P=>he H Q w s (P.imp fun b _ h v H' s' q=>h v H' s' (z.mono XG q))
theorem EvS.ev {te : TE} {r : Enc α} {m : Res α} (he : EvS K Er S OO σ te r m) : Ev K Er S OO OO σ te (oF r) m:=fun H Q w s P=>he H Q w s (P.imp fun b _ h v H' s' q=>
  h v [] H' s' (w.keep s').nil (by rw [Yi]; exact Xj s') ⟨rfl, by rw [Yi]; exact q⟩)
theorem EvB.sh {te : TE} {r : Enc α} [z : FlatE r] {m : Res α} (he : EvB K Er S OO σ te r m) : EvS K Er S OO σ te r m:=fun H Q w s P=>he H Q w s (P.imp fun b _ h v H' s' q=>h v H' s' (z.flat (w.keep s').i q))
theorem Ev.sh {te : TE} {o : OE α} {r : Enc α} [z : FrzC o r] {m : Res α} (he : Ev K Er S OO OO σ te o m) : EvS K Er S OO σ te r m:=fun H Q w s P=>he.frz H Q w s (P.imp fun b _ h v C H' s' w' m' q=>by
  obtain ⟨rfl, q⟩:=q
  rw [Yi] at q
  exact h v H' s' q)
theorem X1 {r : Enc α} {v : V} {a : α} (i : Nat) (hσ : σ[i]? = some (some v)) (h : ∀ x, S.p x -> r K x v a) : EvS K Er S OO σ (Vc i) r (.ok a):=fun H Q w s P=>⟨v, hσ, P v H (Xo.refl _) (h _ s)⟩
theorem EvS.ls {te : TE} {r : Enc α} {m : Res (List α)} (he : EvS K Er S OO σ te (rV r) m) : EvL K Er S OO σ te r m:=fun H Q w s P=>he H Q w s (P.imp fun b _ h v H' s' ⟨p, xs, e, q, pr⟩=>h v H' s' ⟨p, xs, e, XG _ _ q, pr⟩)
theorem EvB.ls {te : TE} {r : Enc α} [z : FlatE r] {m : Res (List α)} (he : EvB K Er S OO σ te (rV r) m) : EvL K Er S OO σ te r m:=fun H Q w s P=>he H Q w s (P.imp fun b _ h v H' s' ⟨p, xs, e, q, pr⟩=>h v H' s' ⟨p, xs, e, q, Paired.imp2 (fun _ _ z'=>z.flat (w.keep s').i z') pr⟩)
theorem Ev.ls {te : TE} {r : Enc α} [z : MonoE r] {m : Res (List α)} (he : Ev K Er S OO OO σ te (oL (oF r)) m) : EvL K Er S OO σ te r m:=he.sh.ls
noncomputable def atR (as : List α) (i : Int) : Res α:=match atI as i with
  | some a=>.ok a
  | none=>.bad
theorem VP {as : List α} {i : Int} {a : α} (h : atR as i = .ok a) : atI as i = some a:=by
  unfold atR at h; split at h
  . cases h; assumption
  . cases h
theorem V4 {as : List α} {i : Int} {x : Exc} : atR as i ≠ .err x:=by unfold atR; split <;> exact fun z=>nomatch z
theorem ZX {F : V -> α -> Prop} {xs : List V} {as : List α} {i : Int} {a : α} (p : Paired F xs as) (h : atI as i = some a) : ∃ x, atI xs i = some x /\ F x a:=by
  unfold atI at h ⊢
  rw [Paired.len p]
  cases e : ixN as.length i with
  | none=>rw [e] at h; cases h
  | some j=>
    rw [e] at h
    obtain ⟨x, h1, h2⟩:=Paired.getR p h
    exact ⟨x, h1, h2⟩
theorem PZ.okOf {F : β -> Hp -> Prop} {H : Hp} {m : Res β} (he : ∀ x, m ≠ .err x) (P : PZ Er F H m) : ∃ b, m = .ok b /\ F b H:=by
  cases m with
  | bad=>exact P.elim
  | err x=>exact absurd rfl (he x)
  | ok b=>exact ⟨b, rfl, P⟩
theorem XI {ta tb : TE} {r : Enc α} [z : MonoE r] {ma : Res (List α)} {mb : Res Int} (ha : EvB K Er S OO σ ta (rV r) ma) (hb : EvB K Er S OO σ tb Xb mb) : EvB K Er S OO σ (tOp (CD K) ta tb) r (ma.bind fun as=>mb.bind fun i=>atR as i):=fun H Q w s P=>
  ha.run w s FB.tr P fun a x H1 s1 w1 q1 ⟨p, xs, e, q, pr⟩ P1=>hb.run w1 q1 FB.tr P1 fun b y H2 s2 w2 q2 r2 P2=>by
    obtain ⟨c, hc, P3⟩:=P2.okOf fun x=>V4
    obtain ⟨u, h1, h2⟩:=ZX pr (VP hc)
    exact ⟨p, xs, b, u, e, r2, SqL.of (s2 _ _ q), h1, P3 u H2 (Xo.refl _) (z.mono s2 h2)⟩
theorem Vr {ta tb : TE} {r : Enc α} [z : MonoE r] {ma : Res (List α)} {mb : Res Int} (ha : EvB K Er S OO σ ta (rPL r) ma) (hb : EvB K Er S OO σ tb Xb mb) : EvB K Er S OO σ (tOp (Ce K) ta tb) r (ma.bind fun as=>mb.bind fun i=>atR as i):=fun H Q w s P=>
  ha.run w s FB.tr P fun a x H1 s1 w1 q1 ⟨p, xs, e, q, pr⟩ P1=>hb.run w1 q1 FB.tr P1 fun b y H2 s2 w2 q2 r2 P2=>by
    obtain ⟨c, hc, P3⟩:=P2.okOf fun x=>V4
    obtain ⟨u, h1, h2⟩:=ZX pr (VP hc)
    exact ⟨p, xs, b, u, e, r2, SqT.of (s2 _ _ q), h1, P3 u H2 (Xo.refl _) (z.mono s2 h2)⟩
theorem DC {ta : TE} {r : Enc α} {q : Enc β} {m : Res (α × β)} (ha : EvB K Er S OO σ ta (rP2 r q) m) : EvB K Er S OO σ (tOp (Ce K) ta (tC (.int 0))) r (m.bind fun p=>.ok p.1):=fun H Q w s P=>
  ha.run w s FB.tr P fun a x H1 s1 w1 q1 ⟨p, x, y, e, q, h1, h2⟩ P1=>⟨p, _, 0, x, e, rfl, SqT.of q, rfl, P1 _ H1 (Xo.refl _) h1⟩
theorem DN {ta : TE} {r : Enc α} {q : Enc β} {m : Res (α × β)} (ha : EvB K Er S OO σ ta (rP2 r q) m) : EvB K Er S OO σ (tOp (Ce K) ta (tC (.int 1))) q (m.bind fun p=>.ok p.2):=fun H Q w s P=>
  ha.run w s FB.tr P fun a x H1 s1 w1 q1 ⟨p, x, y, e, q, h1, h2⟩ P1=>⟨p, _, 1, y, e, rfl, SqT.of q, rfl, P1 _ H1 (Xo.refl _) h2⟩
theorem XN {ta : TE} {r : Enc α} {m : Res (List α)} (ha : EvB K Er S OO σ ta (rV r) m) : EvB K Er S OO σ (tCB (Ub K) (Xw ta Zn)) Xb (m.bind fun as=>.ok (as.length : Int)):=fun H Q w s P=>
  ha.run w s FB.tr P fun a x H1 s1 w1 q1 ⟨p, xs, e, q, pr⟩ P1=>⟨p, xs, by rw [e], .inl (SqL.of q), P1 _ H1 (Xo.refl _) (by rw [Paired.len pr]; rfl)⟩
theorem Qd {ta : TE} {r : Enc α} {m : Res (List α)} (ha : EvB K Er S OO σ ta (rPL r) m) : EvB K Er S OO σ (tCB (Ub K) (Xw ta Zn)) Xb (m.bind fun as=>.ok (as.length : Int)):=fun H Q w s P=>
  ha.run w s FB.tr P fun a x H1 s1 w1 q1 ⟨p, xs, e, q, pr⟩ P1=>⟨p, xs, by rw [e], .inr (SqT.of q), P1 _ H1 (Xo.refl _) (by rw [Paired.len pr]; rfl)⟩
theorem Fh {r : Enc α} [z : MonoE r] {xs : List V} {as : List α} {H : Hp} {Q : VK} (w : W OO H) (pr : Paired (r K (hid H OO)) xs as) (P : FO K OO OO (oL (oF r)) Q as H) : ∀ p, H p = none -> Q (.ref p) (upd H p (.lst xs)):=fun p hp=>by
  have hn:=Vq (OO:=OO) hp (o:=.lst xs)
  refine P (.ref p) [(p, .lst xs)] _ (XH hp _) (w.new hp rfl) hn ?_
  refine ⟨p, xs, List.replicate as.length [], rfl, (P3.of (Paired.imp2 (fun _ _ h=>z.mono hn h) pr)).imp fun _ _ _ h=>h, by rw [X9]⟩
theorem Paired.take' {F : α -> β -> Prop} : ∀ {l : List α} {m : List β} (n : Nat), Paired F l m -> Paired F (l.take n) (m.take n)
  | _, _, 0, _=>.nil
  | _, _, _ + 1, .nil=>.nil
  | _, _, n + 1, .cons r t=>.cons r (Paired.take' n t)
theorem Paired.drop' {F : α -> β -> Prop} : ∀ {l : List α} {m : List β} (n : Nat), Paired F l m -> Paired F (l.drop n) (m.drop n)
  | _, _, 0, h=>h
  | _, _, _ + 1, .nil=>.nil
  | _, _, n + 1, .cons _ t=>Paired.drop' n t
theorem Paired.rep' {F : α -> β -> Prop} {l : List α} {m : List β} (h : Paired F l m) : ∀ n : Nat, Paired F (List.replicate n l).flatten (List.replicate n m).flatten
  | 0=>.nil
  | n + 1=>by simp only [List.replicate_succ, List.flatten_cons]; exact Paired.app h (Paired.rep' h n)
noncomputable def UT (as : List α) (lo hi : Option Int) : List α:=(as.drop (HT.sIx as.length 0 lo)).take (HT.sIx as.length as.length hi - HT.sIx as.length 0 lo)
theorem QX {F : V -> α -> Prop} {xs : List V} {as : List α} (p : Paired F xs as) (lo hi : Option Int) : Paired F (Cj xs lo hi) (UT as lo hi):=by
  unfold Cj UT; rw [Paired.len p]; exact Paired.take' _ (Paired.drop' _ p)
noncomputable def FP (Q : Option Int -> Hp -> Prop) (a : Option Int) (H : Hp) : Prop:=∀ H', Xo H H' -> Q a H'
noncomputable def EvP (Er : Exc -> Hp -> Prop) (S : SC) (OO : List (List Xx)) (σ : St) (t : TO) (m : Res (Option Int)) : Prop:=∀ H Q, W OO H -> S.p (hid H OO) -> PZ Er (FP Q) H m -> t σ H Q
theorem EvP.run {t : TO} {m : Res (Option Int)} (he : EvP Er S OO σ t m) {H : Hp} {Q : Option Int -> Hp -> Prop} (w : W OO H) (s : S.p (hid H OO)) {f : Option Int -> Res β} {F : β -> Hp -> Prop} (hF : ∀ b H H', Xo H H' -> F b H -> F b H') (P : PZ Er F H (m.bind f))
    (hk : ∀ a H', Xo H H' -> W OO H' -> S.p (hid H' OO) -> PZ Er F H' (f a) -> Q a H') : t σ H Q:=by
  refine he H Q w s ?_
  cases e : m with
  | bad=>rw [e] at P; exact P
  | err x=>rw [e] at P; exact P
  | ok a=>exact fun H' s'=>hk a H' s' (w.keep s') (S.mono _ _ (Xj s') s) (PZ.run e hF s' P)
theorem Jv : EvP Er S OO σ Ke (.ok none):=fun H Q w s P=>P H (Xo.refl _)
theorem Jo {te : TE} {m : Res Int} (h : EvB K Er S OO σ te Xb m) : EvP Er S OO σ (CJ te) (m.bind fun i=>.ok (some i)):=fun H Q w s P=>
  h.run w s (fun _ _ _ s h H2 s2=>h H2 (s.trans s2)) P fun a v H1 s1 w1 q1 r1 P1=>⟨a, r1, P1 H1 (Xo.refl _)⟩
theorem V8 {te : TE} {tl th : TO} {r : Enc α} [z : MonoE r] {m : Res (List α)} {ml mh : Res (Option Int)} (he : EvL K Er S OO σ te r m) (hl : EvP Er S OO σ tl ml) (hh : EvP Er S OO σ th mh) :
    Ev K Er S OO OO σ (tSl (BC K) te tl th) (oL (oF r)) (m.bind fun as=>ml.bind fun lo=>mh.bind fun hi=>.ok (UT as lo hi)):=fun H Q w s P=>
  he.run w s FO.tr P fun as x H1 s1 w1 q1 ⟨p, xs, e, q, pr⟩ P1=>hl.run w1 q1 FO.tr P1 fun lo H2 s2 w2 q2 P2=>hh.run w2 q2 FO.tr P2 fun hi H3 s3 w3 q3 P3'=>
    ⟨p, xs, e, SqL.of (s3 _ _ (s2 _ _ q)), Fh w3 (QX (Paired.imp2 (fun _ _ h=>z.mono ((Xj s2).trans (Xj s3)) h) pr) lo hi) P3'⟩
theorem GF {ta : TE} {r : Enc α} {m : Res (List α)} (ha : EvB K Er S OO σ ta (rL r) m) : EvB K Er S OO σ (tCB (Ub K) (Xw ta Zn)) Xb (m.bind fun as=>.ok (as.length : Int)):=fun H Q w s P=>
  ha.run w s FB.tr P fun a x H1 s1 w1 q1 ⟨p, xs, e, q, pr⟩ P1=>⟨p, xs, by rw [e], .inl q, P1 _ H1 (Xo.refl _) (by rw [Paired.len pr]; rfl)⟩
theorem DH {ta tb : TE} {ma : Res (List Int)} {mb : Res Int} (ha : EvB K Er S OO σ ta (rL Xb) ma) (hb : EvB K Er S OO σ tb Xb mb) : EvB K Er S OO σ (tOp (CD K) ta tb) Xb (ma.bind fun as=>mb.bind fun i=>atR as i):=fun H Q w s P=>
  ha.run w s FB.tr P fun a x H1 s1 w1 q1 ⟨p, xs, e, q, pr⟩ P1=>hb.run w1 q1 FB.tr P1 fun b y H2 s2 w2 q2 r2 P2=>by
    obtain ⟨c, hc, P3⟩:=P2.okOf fun x=>V4
    obtain ⟨u, h1, h2⟩:=ZX pr (VP hc)
    exact ⟨p, xs, b, u, e, r2, s2.seq q, h1, P3 u H2 (Xo.refl _) h2⟩
theorem Ki {te : TE} {tl th : TO} {m : Res (List Int)} {ml mh : Res (Option Int)} (he : EvB K Er S OO σ te (rL Xb) m) (hl : EvP Er S OO σ tl ml) (hh : EvP Er S OO σ th mh) :
    Ev K Er S OO OO σ (tSl (BC K) te tl th) (oL (oF Xb)) (m.bind fun as=>ml.bind fun lo=>mh.bind fun hi=>.ok (UT as lo hi)):=fun H Q w s P=>
  he.run w s FO.tr P fun as x H1 s1 w1 q1 ⟨p, xs, e, q, pr⟩ P1=>hl.run w1 q1 FO.tr P1 fun lo H2 s2 w2 q2 P2=>hh.run w2 q2 FO.tr P2 fun hi H3 s3 w3 q3 P3'=>
    ⟨p, xs, e, s3.seq (s2.seq q), Fh w3 (QX (Paired.imp2 (fun _ _ h=>h) pr) lo hi) P3'⟩
noncomputable def Cd (as bs : List α) : Res (List α):=chk (as.length + bs.length <= sizeLine) (.ok (as ++ bs))
theorem Kf {ta tb : TE} {r : Enc α} [z : MonoE r] {ma mb : Res (List α)} (ha : EvL K Er S OO σ ta r ma) (hb : EvL K Er S OO σ tb r mb) : Ev K Er S OO OO σ (tOp B5 ta tb) (oL (oF r)) (ma.bind fun as=>mb.bind fun bs=>Cd as bs):=fun H Q w s P=>
  ha.run w s FO.tr P fun as x H1 s1 w1 q1 ⟨p, xs, e, q, pr⟩ P1=>hb.run w1 q1 FO.tr P1 fun bs y H2 s2 w2 q2 ⟨p', ys, e', q', pr'⟩ P2=>by
    obtain ⟨c, hc, P3⟩:=P2.okOf fun x=>Zi
    obtain ⟨h1, h2⟩:=YE hc
    cases h2
    exact ⟨p, p', xs, ys, e, e', s2 _ _ q, q', by rw [Paired.len pr, Paired.len pr']; exact h1, Fh w2 (Paired.app (Paired.imp2 (fun _ _ h=>z.mono (Xj s2) h) pr) pr') P3⟩
noncomputable def Cr (as : List α) (n : Int) : Res (List α):=chk (-(2 ^ 63) <= n /\ n < 2 ^ 63 /\ as.length * n.toNat <= sizeLine) (.ok (List.replicate n.toNat as).flatten)
theorem Fi {ta tb : TE} {r : Enc α} [z : MonoE r] {ma : Res (List α)} {mb : Res Int} (ha : EvL K Er S OO σ ta r ma) (hb : EvB K Er S OO σ tb Xb mb) : Ev K Er S OO OO σ (tOp Ed ta tb) (oL (oF r)) (ma.bind fun as=>mb.bind fun n=>Cr as n):=fun H Q w s P=>
  ha.run w s FO.tr P fun as x H1 s1 w1 q1 ⟨p, xs, e, q, pr⟩ P1=>hb.run w1 q1 FO.tr P1 fun n y H2 s2 w2 q2 r2 P2=>by
    obtain ⟨c, hc, P3⟩:=P2.okOf fun x=>Zi
    obtain ⟨⟨h0, h1, h3⟩, h2⟩:=YE hc
    cases h2
    exact ⟨p, n, xs, e, r2, s2 _ _ q, h0, h1, by rw [Paired.len pr]; exact h3, Fh w2 (Paired.rep' (Paired.imp2 (fun _ _ h=>z.mono (Xj s2) h) pr) _) P3⟩
theorem K6 {ta : TE} {r : Enc α} [z : MonoE r] {ma : Res (List α)} (ha : EvL K Er S OO σ ta r ma) : Ev K Er S OO OO σ (tCB (Vx K) (Xw ta Zn)) (oL (oF r)) (ma.bind fun as=>.ok as):=fun H Q w s P=>
  ha.run w s FO.tr P fun as x H1 s1 w1 q1 ⟨p, xs, e, q, pr⟩ P1=>⟨p, xs, by rw [e], .inl (SqL.of q), Fh w1 pr P1⟩
noncomputable def Ze (lo hi : Int) : List Int:=(List.range (hi - lo).toNat).map fun (i : Nat)=>lo + (i : Int)
theorem JV {ta : TE} {ma : Res Int} (ha : EvB K Er S OO σ ta Xb ma) : Ev K Er S OO OO σ (Um (Xw ta Zn)) (oL (oF Xb)) (ma.bind fun n=>chk (0 <= n /\ n <= 1000) (.ok (Ze 0 n))):=fun H Q w s P=>
  ha.run w s FO.tr P fun n x H1 s1 w1 q1 r1 P1=>by
    obtain ⟨c, hc, P3⟩:=P1.okOf fun x=>Zi
    obtain ⟨⟨h0, h1⟩, h2⟩:=YE hc
    cases h2
    refine ⟨n, by rw [show x = .int n from r1], h0, h1, Fh w1 ?_ P3⟩
    unfold Ze
    rw [Int.sub_zero]
    have : ∀ l : List Nat, Paired (Xb K (hid H1 OO)) (l.map fun (i : Nat)=>V.int (i : Int)) (l.map fun (i : Nat)=>(0 : Int) + (i : Int)):=fun l=>by
      induction l with
      | nil=>exact .nil
      | cons a l ih=>exact .cons (by show V.int (a : Int) = V.int (0 + (a : Int)); rw [Int.zero_add]) ih
    exact this _
theorem QM {o : OE α} : Ev K Er S OO OO σ (GO Zn) (oL o) (.ok []):=fun H Q w s P=>⟨Nat.zero_le _, fun p hp=>P (.ref p) [(p, .lst [])] _ (XH hp _) (w.new hp rfl) (Vq hp) ⟨p, [], [], rfl, .nil, rfl⟩⟩
noncomputable def FA {α : Type} (K : PySem.W.Frag) (OO : List (List Xx)) (r : Enc α) (Q : List V -> Hp -> Prop) (as : List α) (H : Hp) : Prop:=∀ vs H', Xo H H' -> Paired (r K (hid H' OO)) vs as -> Q vs H'
noncomputable def EvA {α : Type} (K : PySem.W.Frag) (Er : Exc -> Hp -> Prop) (S : SC) (OO : List (List Xx)) (σ : St) (t : TA) (r : Enc α) (m : Res (List α)) : Prop:=∀ H Q, W OO H -> S.p (hid H OO) -> PZ Er (FA K OO r Q) H m -> t σ H Q
theorem Yr {r : Enc α} : EvA K Er S OO σ Zn r (.ok []):=fun H Q w s P=>P [] H (Xo.refl _) .nil
theorem Xu {te : TE} {t : TA} {r : Enc α} [z : MonoE r] {m : Res α} {n : Res (List α)} (he : EvS K Er S OO σ te r m) (ht : EvA K Er S OO σ t r n) : EvA K Er S OO σ (Xw te t) r (m.bind fun a=>n.bind fun as=>.ok (a :: as)):=fun H Q w s P=>
  he.run w s (fun b H H' s h vs H2 s2 p=>h vs H2 (s.trans s2) p) P fun a x H1 s1 w1 q1 r1 P1=>by
    refine ht H1 _ w1 q1 ?_
    cases e : n with
    | bad=>rw [e] at P1; exact P1
    | err x=>rw [e] at P1; exact P1
    | ok as=>rw [e] at P1; exact fun vs H2 s2 p=>P1 (x :: vs) H2 s2 (.cons (z.mono (Xj s2) r1) p)
theorem Y4 {t : TA} {r : Enc α} [z : MonoE r] {m : Res (List α)} (h : EvA K Er S OO σ t r m) : Ev K Er S OO OO σ (GO t) (oL (oF r)) (m.bind fun as=>chk (as.length <= sizeLine) (.ok as)):=fun H Q w s P=>by
  refine h H _ w s ?_
  cases e : m with
  | bad=>rw [e] at P; exact P
  | err x=>rw [e] at P; exact P
  | ok as=>
    rw [e] at P
    intro vs H1 s1 p
    obtain ⟨c, hc, P3⟩:=PZ.okOf (fun x=>Zi) (show PZ Er _ H (chk (as.length <= sizeLine) (.ok as)) from P)
    obtain ⟨h1, h2⟩:=YE hc
    cases h2
    exact ⟨by rw [Paired.len p]; exact h1, Fh (w.keep s1) p (FO.tr _ _ _ s1 P3)⟩
theorem V0 {t : TA} {r : Enc α} [z : MonoE r] {m : Res (List α)} (h : EvA K Er S OO σ t r m) : EvS K Er S OO σ (Cm t) (rPL r) (m.bind fun as=>chk (as.length <= sizeLine) (.ok as)):=fun H Q w s P=>by
  refine h H _ w s ?_
  cases e : m with
  | bad=>rw [e] at P; exact P
  | err x=>rw [e] at P; exact P
  | ok as=>
    rw [e] at P
    intro vs H1 s1 p
    obtain ⟨c, hc, P3⟩:=PZ.okOf (fun x=>Zi) (show PZ Er _ H (chk (as.length <= sizeLine) (.ok as)) from P)
    obtain ⟨h1, h2⟩:=YE hc
    cases h2
    have w1:=w.keep s1
    refine ⟨by rw [Paired.len p]; exact h1, fun a ha=>P3 _ _ (s1.trans (XH ha _)) ⟨a, vs, rfl, ZH w1 ha, Paired.imp2 (fun _ _ q=>z.mono (Xj (XH ha _)) q) p⟩⟩
theorem Fa {ta tb : TE} {r : Enc α} {q : Enc β} [z : MonoE r] [y : MonoE q] {ma : Res α} {mb : Res β} (ha : EvS K Er S OO σ ta r ma) (hb : EvS K Er S OO σ tb q mb) : EvS K Er S OO σ (Cm (Xw ta (Xw tb Zn))) (rP2 r q) (ma.bind fun a=>mb.bind fun b=>.ok (a, b)):=fun H Q w s P=>
  ha.run w s FS.tr P fun a x H1 s1 w1 q1 r1 P1=>hb.run w1 q1 FS.tr P1 fun b y' H2 s2 w2 q2 r2 P2=>
    ⟨by show 2 <= sizeLine; decide, fun p hp=>P2 _ _ (XH hp _) ⟨p, x, y', rfl, ZH w2 hp, z.mono ((Xj s2).trans (Xj (XH hp _))) r1, y.mono (Xj (XH hp _)) r2⟩⟩
theorem GE {ta tb tc : TE} {r : Enc α} {q : Enc β} {t : Enc γ} [z : MonoE r] [y : MonoE q] [x : MonoE t] {ma : Res α} {mb : Res β} {mc : Res γ} (ha : EvS K Er S OO σ ta r ma) (hb : EvS K Er S OO σ tb q mb) (hc : EvS K Er S OO σ tc t mc) :
    EvS K Er S OO σ (Cm (Xw ta (Xw tb (Xw tc Zn)))) (rP3 r q t) (ma.bind fun a=>mb.bind fun b=>mc.bind fun c=>.ok (a, b, c)):=fun H Q w s P=>
  ha.run w s FS.tr P fun a x' H1 s1 w1 q1 r1 P1=>hb.run w1 q1 FS.tr P1 fun b y' H2 s2 w2 q2 r2 P2=>hc.run w2 q2 FS.tr P2 fun c z' H3 s3 w3 q3 r3 P3=>
    ⟨by show 3 <= sizeLine; decide, fun p hp=>P3 _ _ (XH hp _) ⟨p, x', y', z', rfl, ZH w3 hp, z.mono (((Xj s2).trans (Xj s3)).trans (Xj (XH hp _))) r1, y.mono ((Xj s3).trans (Xj (XH hp _))) r2, x.mono (Xj (XH hp _)) r3⟩⟩
end
end L2
namespace L2
open PySem PySem.Spec PyProof.Rows
section
variable {K : PySem.W.Frag} {Er : Exc -> Hp -> Prop} {S : SC} {OO OO' OO2 : List (List Xx)} {σ : St} {α β γ ρ ι : Type} {α1 α2 α3 α4 α5 α6 : Type}
noncomputable def noE (m : Res α) : Res α:=match m with
  | .ok a=>.ok a
  | _=>.bad
theorem V2 {m : Res α} {a : α} (h : noE m = .ok a) : m = .ok a:=by
  cases m with
  | ok b=>exact h
  | bad=>cases h
  | err x=>cases h
theorem VV {m : Res α} {x : Exc} : noE m ≠ .err x:=by cases m <;> exact fun z=>nomatch z
noncomputable def FF (K : PySem.W.Frag) (o : OE α) (Q : VK) (a : α) (H : Hp) : Prop:=∀ v C H', W [C] H' -> Xo H (hid H' [C]) -> o K (hid H' [C]) v a C -> Q v H'
noncomputable def sp1 (r1 : Enc α1) (o : OE ρ) (f : α1 -> Res ρ) (K : PySem.W.Frag) : Sp:=fun vs H Q _=>∃ v1 a1 b, vs = [v1] /\ r1 K H v1 a1 /\ f a1 = .ok b /\ FF K o Q b H
noncomputable def sp2 (r1 : Enc α1) (r2 : Enc α2) (o : OE ρ) (f : α1 -> α2 -> Res ρ) (K : PySem.W.Frag) : Sp:=fun vs H Q _=>∃ v1 v2 a1 a2 b, vs = [v1, v2] /\ r1 K H v1 a1 /\ r2 K H v2 a2 /\ f a1 a2 = .ok b /\ FF K o Q b H
noncomputable def sp3 (r1 : Enc α1) (r2 : Enc α2) (r3 : Enc α3) (o : OE ρ) (f : α1 -> α2 -> α3 -> Res ρ) (K : PySem.W.Frag) : Sp:=fun vs H Q _=>∃ v1 v2 v3 a1 a2 a3 b, vs = [v1, v2, v3] /\ r1 K H v1 a1 /\ r2 K H v2 a2 /\ r3 K H v3 a3 /\ f a1 a2 a3 = .ok b /\ FF K o Q b H
noncomputable def sp5 (r1 : Enc α1) (r2 : Enc α2) (r3 : Enc α3) (r4 : Enc α4) (r5 : Enc α5) (o : OE ρ) (f : α1 -> α2 -> α3 -> α4 -> α5 -> Res ρ) (K : PySem.W.Frag) : Sp:=fun vs H Q _=>∃ v1 v2 v3 v4 v5 a1 a2 a3 a4 a5 b, vs = [v1, v2, v3, v4, v5] /\ r1 K H v1 a1 /\ r2 K H v2 a2 /\ r3 K H v3 a3 /\ r4 K H v4 a4 /\ r5 K H v5 a5 /\ f a1 a2 a3 a4 a5 = .ok b /\ FF K o Q b H
theorem BO {C : List Xx} {H H' : Hp} (w : W OO H) (w' : W [C] H') (m' : Xo H (hid H' [C])) : W (C :: OO) H' /\ Xo (hid H OO) (hid H' (C :: OO)) /\ Jm (hid H' [C]) (hid H' (C :: OO)):=by
  have s : Xo H H':=m'.trans XG
  have f1 : fl [C] = C.map (·.1):=by simp [fl]
  have hd : ∀ b, b ∈ fl OO -> b ∉ C.map (·.1):=fun b hb hc=>by
    obtain ⟨u, hu⟩:=Ka hb
    exact (Yt (m' _ _ (w.tr _ hu))).2 (by rw [f1]; exact hc)
  have w2 : W (C :: OO) H':=by
    refine ⟨fun c hc=>?_, ?_, fun c hc=>?_⟩
    . rw [List.flatten_cons, List.mem_append] at hc
      rcases hc with hc | hc
      . exact w'.tr c (by simp [hc])
      . exact s _ _ (w.tr c hc)
    . rw [Yy]
      refine List.nodup_append.mpr ⟨by rw [← f1]; exact w'.nd, w.nd, fun a ha b hb e=>?_⟩
      subst e; exact hd a hb ha
    . rw [List.flatten_cons, List.mem_append] at hc
      rcases hc with hc | hc
      . exact w'.mu c (by simp [hc])
      . exact w.mu c hc
  refine ⟨w2, fun b u q=>?_, fun b u q i=>?_⟩
  . obtain ⟨q1, q2⟩ := Yt q
    obtain ⟨q3, q4⟩:=Yt (m' _ _ q1)
    refine ZD q3 ?_
    rw [Yy, List.mem_append]
    exact fun z=>z.elim (fun z=>q4 (by rw [f1]; exact z)) q2
  . exact w2.i b u (Yt q).1 i
theorem Jc {o : OE α} [z : FlatO o] {Q : VK} {b : α} {H : Hp} (w : W OO H) (P : FO K OO OO o Q b H) : FF K o Q b H:=fun v C H' w' m' ho=>by
  obtain ⟨w2, h2, h3⟩:=BO w w' m'
  exact P v C H' (m'.trans XG) w2 h2 (z.flat h3 ho)
theorem V3 {ta : TE} {r1 : Enc α1} {o : OE ρ} [FlatO o] {f : α1 -> Res ρ} {ma : Res α1} (ha : EvB K Er S OO σ ta r1 ma) : Ev K Er S OO OO σ (UA (sp1 r1 o f K) [] E0 (Xw ta Zn)) o (ma.bind fun a=>noE (f a)):=fun H Q w s P=>
  ha.run w s FO.tr P fun a x H1 s1 w1 q1 r1 P1=>by
    obtain ⟨b, hb, P2⟩:=P1.okOf fun x=>VV
    exact ⟨x, a, b, rfl, r1, V2 hb, Jc w1 P2⟩
theorem XD {ta tb : TE} {r1 : Enc α1} {r2 : Enc α2} [z1 : MonoE r1] {o : OE ρ} [FlatO o] {f : α1 -> α2 -> Res ρ} {ma : Res α1} {mb : Res α2} (ha : EvB K Er S OO σ ta r1 ma) (hb : EvB K Er S OO σ tb r2 mb) :
    Ev K Er S OO OO σ (UA (sp2 r1 r2 o f K) [] E0 (Xw ta (Xw tb Zn))) o (ma.bind fun a=>mb.bind fun b=>noE (f a b)):=fun H Q w s P=>
  ha.run w s FO.tr P fun a x H1 s1 w1 q1 r1 P1=>hb.run w1 q1 FO.tr P1 fun b y H2 s2 w2 q2 r2 P2=>by
    obtain ⟨c, hc, P3⟩:=P2.okOf fun x=>VV
    exact ⟨x, y, a, b, c, rfl, z1.mono s2 r1, r2, V2 hc, Jc w2 P3⟩
theorem YA {ta tb tc : TE} {r1 : Enc α1} {r2 : Enc α2} {r3 : Enc α3} [z1 : MonoE r1] [z2 : MonoE r2] {o : OE ρ} [FlatO o] {f : α1 -> α2 -> α3 -> Res ρ} {ma : Res α1} {mb : Res α2} {mc : Res α3} (ha : EvB K Er S OO σ ta r1 ma) (hb : EvB K Er S OO σ tb r2 mb) (hc : EvB K Er S OO σ tc r3 mc) :
    Ev K Er S OO OO σ (UA (sp3 r1 r2 r3 o f K) [] E0 (Xw ta (Xw tb (Xw tc Zn)))) o (ma.bind fun a=>mb.bind fun b=>mc.bind fun c=>noE (f a b c)):=fun H Q w s P=>
  ha.run w s FO.tr P fun a x H1 s1 w1 q1 r1 P1=>hb.run w1 q1 FO.tr P1 fun b y H2 s2 w2 q2 r2 P2=>hc.run w2 q2 FO.tr P2 fun c z H3 s3 w3 q3 r3 P3=>by
    obtain ⟨d, hd, P4⟩:=P3.okOf fun x=>VV
    exact ⟨x, y, z, a, b, c, d, rfl, z1.mono (s2.trans s3) r1, z2.mono s3 r2, r3, V2 hd, Jc w3 P4⟩
theorem V6 {ta tb tc td te : TE} {r1 : Enc α1} {r2 : Enc α2} {r3 : Enc α3} {r4 : Enc α4} {r5 : Enc α5} [z1 : MonoE r1] [z2 : MonoE r2] [z3 : MonoE r3] [z4 : MonoE r4] {o : OE ρ} [FlatO o] {f : α1 -> α2 -> α3 -> α4 -> α5 -> Res ρ} {ma : Res α1} {mb : Res α2} {mc : Res α3} {md : Res α4} {me : Res α5} (ha : EvB K Er S OO σ ta r1 ma) (hb : EvB K Er S OO σ tb r2 mb) (hc : EvB K Er S OO σ tc r3 mc) (hd : EvB K Er S OO σ td r4 md) (he : EvB K Er S OO σ te r5 me) :
    Ev K Er S OO OO σ (UA (sp5 r1 r2 r3 r4 r5 o f K) [] E0 (Xw ta (Xw tb (Xw tc (Xw td (Xw te Zn)))))) o (ma.bind fun a=>mb.bind fun b=>mc.bind fun c=>md.bind fun d=>me.bind fun e=>noE (f a b c d e)):=fun H Q w s P=>
  ha.run w s FO.tr P fun a x H1 s1 w1 q1 r1 P1=>hb.run w1 q1 FO.tr P1 fun b y H2 s2 w2 q2 r2 P2=>hc.run w2 q2 FO.tr P2 fun c z H3 s3 w3 q3 r3 P3=>hd.run w3 q3 FO.tr P3 fun d u H4 s4 w4 q4 r4 P4=>he.run w4 q4 FO.tr P4 fun e t H5 s5 w5 q5 r5 P5=>by
    obtain ⟨g, hg, P6⟩:=P5.okOf fun x=>VV
    exact ⟨x, y, z, u, t, a, b, c, d, e, g, rfl, z1.mono (s2.trans (s3.trans (s4.trans s5))) r1, z2.mono (s3.trans (s4.trans s5)) r2, z3.mono (s4.trans s5) r3, z4.mono s5 r4, r5, V2 hg, Jc w5 P6⟩
structure Jn (γ ι : Type) where
  oo : ι -> List (List Xx)
  ss : ι -> St
  sc : γ -> ι -> SC
inductive Ctl (ρ γ : Type) where
  | ret (r : ρ) | nx (g : γ)
noncomputable def FTd (K : PySem.W.Frag) (o : OE ρ) (D : Ends) (r : ρ) (h : Hp) : Prop:=∀ v C OO' H', W (C :: OO') H' -> Xo h (hid H' (C :: OO')) -> o K (hid H' (C :: OO')) v r C -> D.rt v H'
noncomputable def FNd (J : Jn γ ι) (D : Ends) (g : γ) (h : Hp) : Prop:=∀ x H', W (J.oo x) H' -> Xo h (hid H' (J.oo x)) -> (J.sc g x).p (hid H' (J.oo x)) -> D.nx (J.ss x) H'
noncomputable def FCd (K : PySem.W.Frag) (o : OE ρ) (J : Jn γ ι) (D : Ends) (c : Ctl ρ γ) (h : Hp) : Prop:=match c with
  | .ret r=>FTd K o D r h
  | .nx g=>FNd J D g h
class FdOk (Fd : Ends -> β -> Hp -> Prop) : Prop where
  tr : ∀ D b h h', Xo h h' -> Fd D b h -> Fd D b h'
instance {o : OE ρ} : FdOk (FTd K o):=⟨fun D b h h' s q v C O H' w m x=>q v C O H' w (s.trans m) x⟩
instance {J : Jn γ ι} : FdOk (FNd J):=⟨fun D b h h' s q x H' w m y=>q x H' w (s.trans m) y⟩
instance {o : OE ρ} {J : Jn γ ι} : FdOk (FCd K o J):=⟨fun D b h h' s q=>by
  cases b with
  | ret r=>exact fun v C O H' w m x=>q v C O H' w (s.trans m) x
  | nx g=>exact fun x H' w m y=>q x H' w (s.trans m) y⟩
theorem PZ.tr {F : β -> Hp -> Prop} (hF : ∀ b H H', Xo H H' -> F b H -> F b H') {H H' : Hp} {m : Res β} (s : Xo H H') (P : PZ Er F H m) : PZ Er F H' m:=by
  cases m with
  | bad=>exact P
  | err x=>exact fun H2 s2=>P H2 (s.trans s2)
  | ok b=>exact hF b H H' s P
noncomputable def Sv (Er : Exc -> Hp -> Prop) (S : SC) (OO : List (List Xx)) (σ : St) (t : TS) (Fd : Ends -> β -> Hp -> Prop) (m : Res β) : Prop:=∀ H D, W OO H -> S.p (hid H OO) -> PZ Er (Fd D) (hid H OO) m -> t D σ H
variable {Fd : Ends -> β -> Hp -> Prop} [fd : FdOk Fd] {u : TS}
theorem Ev.st {te : TE} {o : OE α} {m : Res α} (he : Ev K Er S OO OO' σ te o m) {H : Hp} {D : Ends} {Q : VK} (w : W OO H) (s : S.p (hid H OO)) {f : α -> Res β} (P : PZ Er (Fd D) (hid H OO) (m.bind f))
    (hk : ∀ a v C H', W (C :: OO') H' -> S.p (hid H' (C :: OO')) -> o K (hid H' (C :: OO')) v a C -> PZ Er (Fd D) (hid H' (C :: OO')) (f a) -> Q v H') : te σ H Q:=by
  refine he H Q w s ?_
  cases m with
  | bad=>exact P
  | err x=>exact fun H' s'=>P H' (XG.trans s')
  | ok a=>exact fun v C H' s' w' m' ho=>hk a v C H' w' (S.mono _ _ m' s) ho (PZ.tr (fd.tr D) m' P)
theorem EvB.st {te : TE} {r : Enc α} {m : Res α} (he : EvB K Er S OO σ te r m) {H : Hp} {D : Ends} {Q : VK} (w : W OO H) (s : S.p (hid H OO)) {f : α -> Res β} (P : PZ Er (Fd D) (hid H OO) (m.bind f))
    (hk : ∀ a v H', Xo H H' -> W OO H' -> S.p (hid H' OO) -> r K H' v a -> PZ Er (Fd D) (hid H' OO) (f a) -> Q v H') : te σ H Q:=by
  refine he H Q w s ?_
  cases m with
  | bad=>exact P
  | err x=>exact fun H' s'=>P H' (XG.trans s')
  | ok a=>exact fun v H' s' hr=>hk a v H' s' (w.keep s') (S.mono _ _ (Xj s') s) hr (PZ.tr (fd.tr D) (Xj s') P)
theorem EvS.st {te : TE} {r : Enc α} {m : Res α} (he : EvS K Er S OO σ te r m) {H : Hp} {D : Ends} {Q : VK} (w : W OO H) (s : S.p (hid H OO)) {f : α -> Res β} (P : PZ Er (Fd D) (hid H OO) (m.bind f))
    (hk : ∀ a v H', Xo H H' -> W OO H' -> S.p (hid H' OO) -> r K (hid H' OO) v a -> PZ Er (Fd D) (hid H' OO) (f a) -> Q v H') : te σ H Q:=by
  refine he H Q w s ?_
  cases m with
  | bad=>exact P
  | err x=>exact fun H' s'=>P H' (XG.trans s')
  | ok a=>exact fun v H' s' hr=>hk a v H' s' (w.keep s') (S.mono _ _ (Xj s') s) hr (PZ.tr (fd.tr D) (Xj s') P)
theorem EvT.st {tt : TT} {m : Res Bool} (he : EvT Er S OO σ tt m) {H : Hp} {D : Ends} {Q : Bool -> Hp -> Prop} (w : W OO H) (s : S.p (hid H OO)) {f : Bool -> Res β} (P : PZ Er (Fd D) (hid H OO) (m.bind f))
    (hk : ∀ b H', W OO H' -> S.p (hid H' OO) -> PZ Er (Fd D) (hid H' OO) (f b) -> Q b H') : tt σ H Q:=by
  refine he H Q w s ?_
  cases m with
  | bad=>exact P
  | err x=>exact fun H' s'=>P H' (XG.trans s')
  | ok a=>exact fun H' s'=>hk a H' (w.keep s') (S.mono _ _ (Xj s') s) (PZ.tr (fd.tr D) (Xj s') P)
theorem set_set {OO : List (List Xx)} {k : Nat} {C : List Xx} : (OO.set k C).set k [] = OO.set k []:=by simp
theorem Ep {C : List Xx} {H : Hp} {k : Nat} (w : W (C :: OO) H) (hk : k < OO.length) : W (OO.set k C) H /\ Xo (hid H (C :: OO)) (hid H (OO.set k C)):=by
  have h1:=XQ (OO:=OO) (k:=k) (C:=OO[k]) (by simp [hk])
  have h2:=XQ (OO:=OO.set k C) (k:=k) (C:=C) (by simp [hk])
  rw [set_set] at h2
  have h3 : (OO.set k C).flatten.Perm (C ++ (OO.set k []).flatten):=by simpa using h2.symm
  have h4 : (C :: OO).flatten.Perm (C ++ (OO[k] ++ (OO.set k []).flatten)):=by
    rw [List.flatten_cons]; exact (by simpa using h1.symm : OO.flatten.Perm (OO[k] ++ (OO.set k []).flatten)).append_left C
  have h5 : (C ++ (OO.set k []).flatten).Sublist (C ++ (OO[k] ++ (OO.set k []).flatten)):=List.Sublist.append (List.Sublist.refl _) (List.sublist_append_right _ _)
  have w1 : W [C ++ (OO[k] ++ (OO.set k []).flatten)] H:=w.of (by simpa using h4.symm)
  have w2 : W [C ++ (OO.set k []).flatten] H:=w1.sub (by simpa using h5)
  refine ⟨w2.of (by simpa using h3), Za (Xo.refl _) fun b hb=>?_⟩
  obtain ⟨o, ho⟩:=Ka hb
  exact Q0 (h4.mem_iff.mpr (h5.mem (h3.mem_iff.mp ho)))
theorem X4 {te : TE} {o : OE α} [MonoO o] {m : Res α} {f : α -> Res β} (i k : Nat) (he : Ev K Er S OO OO' σ te o m) (hk : k < OO'.length) (hr : ∀ a v C, Sv Er (S.addO K o v a C) (OO'.set k C) (σ.set i (some v)) u Fd (f a)) : Sv Er S OO σ (Z5 (Fw te (Z6 i)) u) Fd (m.bind f):=fun H D w s P=>
  he.st w s P fun a v C H' w' s' ho P'=>by
    obtain ⟨w2, h2⟩:=Ep w' hk
    exact hr a v C H' D w2 ⟨S.mono _ _ h2 s', MonoO.mono h2 ho⟩ (PZ.tr (fd.tr D) h2 P')
theorem X6 {te : TE} {r : Enc α} [MonoE r] {m : Res α} {f : α -> Res β} (i : Nat) (he : EvS K Er S OO σ te r m) (hr : ∀ a v, Sv Er (S.add K r v a) OO (σ.set i (some v)) u Fd (f a)) : Sv Er S OO σ (Z5 (Fw te (Z6 i)) u) Fd (m.bind f):=fun H D w s P=>
  he.st w s P fun a v H' s1 w' s' ho P'=>hr a v H' D w' ⟨s', ho⟩ P'
theorem XB {te : TE} {o : OE ρ} {m : Res ρ} (he : Ev K Er S OO OO' σ te o m) : Sv Er S OO σ (Z5 (B2 te) u) (FTd K o) m:=fun H D w s P=>
  he H _ w s (by
    cases m with
    | bad=>exact P
    | err x=>exact fun H' s'=>P H' (XG.trans s')
    | ok a=>exact fun v C H' s' w' m' ho=>P v C OO' H' w' m' ho)
theorem Dh {J : Jn γ ι} {t : TS} {o : OE ρ} {m : Res ρ} (h : Sv Er S OO σ t (FTd K o) m) : Sv Er S OO σ t (FCd K o J) (m.bind fun r=>.ok (.ret r)):=fun H D w s P=>h H D w s (by
  cases m with
  | bad=>exact P
  | err x=>exact P
  | ok a=>exact P)
theorem ZK {J : Jn γ ι} {t : TS} {o : OE ρ} {m : Res γ} (h : Sv Er S OO σ t (FNd J) m) : Sv Er S OO σ t (FCd K o J) (m.bind fun r=>.ok (.nx r)):=fun H D w s P=>h H D w s (by
  cases m with
  | bad=>exact P
  | err x=>exact P
  | ok a=>exact P)
theorem XC {J : Jn γ ι} (x : ι) (g : γ) (h1 : OO = J.oo x) (h2 : σ = J.ss x) (h3 : ∀ h, S.p h -> (J.sc g x).p h) : Sv Er S OO σ KQ (FNd J) (.ok g):=fun H D w s P=>by
  subst h1 h2
  exact P x H w (Xo.refl _) (h3 _ s)
theorem YK {o : OE ρ} {c : TT} {t1 : TS} {mc : Res Bool} {m1 m2 : Res ρ} (hc : EvT Er S OO σ c mc) (h1 : Sv Er S OO σ t1 (FTd K o) m1) (h2 : Sv Er S OO σ u (FTd K o) m2) : Sv Er S OO σ (Z5 (Bd c t1 KQ) u) (FTd K o) (mc.bind fun b=>if b = true then m1 else m2):=fun H D w s P=>
  hc.st (Fd:=FTd K o) w s P fun b H' w' s' P'=>by
    cases b with
    | true=>rw [if_pos rfl] at P' ⊢; exact h1 H' _ w' s' P'
    | false=>exact h2 H' D w' s' P'
theorem Vt {o : OE ρ} {J : Jn γ ι} {c : TT} {t1 : TS} {mc : Res Bool} {m1 : Res ρ} {m2 : Res (Ctl ρ γ)} (hc : EvT Er S OO σ c mc) (h1 : Sv Er S OO σ t1 (FTd K o) m1) (h2 : Sv Er S OO σ u (FCd K o J) m2) : Sv Er S OO σ (Z5 (Bd c t1 KQ) u) (FCd K o J) (mc.bind fun b=>if b = true then m1.bind (fun r=>.ok (.ret r)) else m2):=fun H D w s P=>
  hc.st (Fd:=FCd K o J) w s P fun b H' w' s' P'=>by
    cases b with
    | true=>
      rw [if_pos rfl] at P' ⊢
      refine h1 H' _ w' s' ?_
      cases m1 with
      | bad=>exact P'
      | err x=>exact P'
      | ok a=>exact P'
    | false=>exact h2 H' D w' s' P'
theorem Zu {c : TT} {t1 t2 : TS} {mc : Res Bool} {m1 m2 : Res β} (hc : EvT Er S OO σ c mc) (h1 : Sv Er S OO σ t1 Fd m1) (h2 : Sv Er S OO σ t2 Fd m2) : Sv Er S OO σ (Bd c t1 t2) Fd (mc.bind fun b=>if b = true then m1 else m2):=fun H D w s P=>
  hc.st w s P fun b H' w' s' P'=>by
    cases b with
    | true=>rw [if_pos rfl] at P' ⊢; exact h1 H' _ w' s' P'
    | false=>exact h2 H' D w' s' P'
theorem Zh {J : Jn γ ι} {t : TS} {m : Res γ} {f : γ -> Res β} (hb : Sv Er S OO σ t (FNd J) m) (hr : ∀ g x, Sv Er (J.sc g x) (J.oo x) (J.ss x) u Fd (f g)) : Sv Er S OO σ (Z5 t u) Fd (m.bind f):=fun H D w s P=>
  hb H _ w s (by
    cases m with
    | bad=>exact P
    | err x=>exact P
    | ok g=>exact fun x H' w' m' q=>hr g x H' D w' q (PZ.tr (fd.tr D) m' P))
noncomputable def YX (f : γ -> Res ρ) : Ctl ρ γ -> Res ρ
  | .ret r=>.ok r
  | .nx g=>f g
noncomputable def Yv {δ : Type} (f : γ -> Res (Ctl ρ δ)) : Ctl ρ γ -> Res (Ctl ρ δ)
  | .ret r=>.ok (.ret r)
  | .nx g=>f g
theorem Uc {δ κ : Type} {o : OE ρ} {J : Jn γ ι} {J2 : Jn δ κ} {t : TS} {m : Res (Ctl ρ γ)} {f : γ -> Res (Ctl ρ δ)} (hb : Sv Er S OO σ t (FCd K o J) m) (hr : ∀ g x, Sv Er (J.sc g x) (J.oo x) (J.ss x) u (FCd K o J2) (f g)) : Sv Er S OO σ (Z5 t u) (FCd K o J2) (m.bind (Yv f)):=fun H D w s P=>
  hb H _ w s (by
    cases m with
    | bad=>exact P
    | err x=>exact P
    | ok g=>
      cases g with
      | ret r=>exact P
      | nx g=>exact fun x H' w' m' q=>hr g x H' D w' q (PZ.tr (FdOk.tr D) m' P))
theorem Sv.weak {S2 : SC} {t : TS} {m : Res β} (h : Sv Er S2 OO σ t Fd m) (hs : ∀ x, S.p x -> S2.p x) : Sv Er S OO σ t Fd m:=fun H D w s P=>h H D w (hs _ s) P
theorem Cy {t : TS} {o : OE α} {r : Enc α} [z : FrzC o r] [MonoE r] {v : V} {a : α} {C : List Xx} {m : Res β} (k : Nat) (hk : OO[k]? = some C) (h : ∀ x, S.p x -> o K x v a C) (hr : Sv Er (S.add K r v a) (OO.set k []) σ t Fd m) : Sv Er S OO σ t Fd m:=fun H D w s P=>by
  have hp:=XQ hk
  have w1 : W (C :: OO.set k []) H:=w.of hp
  have hs : Xo (hid H OO) (hid H (OO.set k [])):=by
    rw [← XJ hp]
    exact Za (Xo.refl _) fun b hb=>by rw [Yy]; simp [hb]
  refine hr H D w1.tail ⟨S.mono _ _ hs s, z.frz (h _ s) hs fun c hc=>ZD (w1.cell c hc) ?_⟩ (PZ.tr (fd.tr D) hs P)
  have:=w1.nd
  rw [Yy] at this
  exact fun hb=>(List.nodup_append.mp this).2.2 c.1 (List.mem_map.mpr ⟨c, hc, rfl⟩) c.1 hb rfl
theorem Eh {C D C' : List Xx} {H : Hp} {k : Nat} {p : Addr} {o : HO} (w : W (D :: OO) H) (hk : OO[k]? = some C) (hp : p ∈ C.map (·.1)) (hC : (C'.map (·.1)).Perm ((C ++ D).map (·.1))) (ht : ∀ c ∈ C', upd H p o c.1 = some c.2) (hm : ∀ c ∈ C', Cl c.2 = true) :
    W (OO.set k C') (upd H p o) /\ hid (upd H p o) (OO.set k C') = hid H (D :: OO):=by
  have hlt : k < OO.length:=by
    rcases Nat.lt_or_ge k OO.length with h | h
    . exact h
    . rw [List.getElem?_eq_none h] at hk; cases hk
  have h1:=XQ hk
  have h2:=XQ (OO:=OO.set k C') (k:=k) (C:=C') (by simp [hlt])
  rw [set_set] at h2
  have h3 : (OO.set k C').flatten.Perm (C' ++ (OO.set k []).flatten):=by simpa using h2.symm
  have h4 : (D :: OO).flatten.Perm (D ++ (C ++ (OO.set k []).flatten)):=by
    rw [List.flatten_cons]; exact (by simpa using h1.symm : OO.flatten.Perm (C ++ (OO.set k []).flatten)).append_left D
  have hfl : (fl (OO.set k C')).Perm (fl (D :: OO)):=by
    unfold fl
    refine (h3.map _).trans (List.Perm.trans ?_ (h4.map _).symm)
    simp only [List.map_append]
    refine (hC.append_right _).trans ?_
    simp only [List.map_append]
    rw [← List.append_assoc]
    exact List.perm_append_comm.append_right _
  have nd:=w.nd
  refine ⟨⟨fun c hc=>?_, hfl.nodup_iff.mpr nd, fun c hc=>?_⟩, ?_⟩
  . rcases List.mem_append.mp (h3.mem_iff.mp hc) with hc | hc
    . exact ht c hc
    . have hne : c.1 ≠ p:=fun e=>by
        have nd2 : ((D ++ (C ++ (OO.set k []).flatten)).map (·.1)).Nodup:=(h4.map _).nodup_iff.mp nd
        simp only [List.map_append] at nd2
        have nd3:=(List.nodup_append.mp nd2).2.1
        exact (List.nodup_append.mp nd3).2.2 p hp c.1 (List.mem_map.mpr ⟨c, hc, rfl⟩) e.symm
      rw [XM hne]
      exact w.tr c (h4.mem_iff.mpr (by simp [hc]))
  . rcases List.mem_append.mp (h3.mem_iff.mp hc) with hc | hc
    . exact hm c hc
    . exact w.mu c (h4.mem_iff.mpr (by simp [hc]))
  . funext b
    unfold hid
    by_cases hb : b ∈ fl (D :: OO)
    . rw [if_pos hb, if_pos (hfl.mem_iff.mpr hb)]
    . rw [if_neg hb, if_neg fun z => hb (hfl.mem_iff.mp z)]
      refine XM fun e=>hb ?_
      rw [e]
      obtain ⟨c, hc, rfl⟩:=List.mem_map.mp hp
      exact Q0 (h4.mem_iff.mpr (by simp [hc]))
theorem YZ {Cs : List (List Xx)} {D : List Xx} : (Cs ++ [D]).flatten = Cs.flatten ++ D:=by simp
theorem ZR {ta : TE} {o : OE α} [MonoO o] {m : Res α} {f : List α -> Res β} {v : V} {as : List α} {C : List Xx} (i k : Nat) (hσ : σ[i]? = some (some v)) (hk : OO[k]? = some C) (hk' : OO'[k]? = some C) (h : ∀ x, S.p x -> oL o K x v as C) (he : Ev K Er S OO OO' σ ta o m)
    (hr : ∀ a C', Sv Er (S.addO K (oL o) v (as ++ [a]) C') (OO'.set k C') σ u Fd (f (as ++ [a]))) : Sv Er S OO σ (Z5 (Uy (tBM K "list" VG (Vc i) (Xw ta Zn))) u) Fd (m.bind fun a=>chk (as.length < sizeLine) (f (as ++ [a]))):=fun H D w s P=>by
  obtain ⟨p, xs, Cs, e, q, c⟩:=h _ s
  subst c
  have hH : H p = some (.lst xs):=w.tr (p, .lst xs) (List.mem_flatten.mpr ⟨_, List.mem_of_getElem? hk, List.mem_cons_self⟩)
  refine ⟨v, hσ, by rw [e]; exact .inl ⟨rfl, _, SqL.of hH⟩, he.st w s P fun a y D' H' w' s' ho P'=>?_⟩
  obtain ⟨p', xs', Cs', e2, q2, c2⟩:=h _ s'
  rw [e] at e2; cases e2
  have c3 : (p, HO.lst xs) = (p, HO.lst xs') /\ Cs.flatten = Cs'.flatten:=by
    injection c2 with h1 h2
    exact ⟨h1, h2⟩
  obtain ⟨c3, c4⟩:=c3
  cases c3
  have hH' : H' p = some (.lst xs):=w'.tr (p, .lst xs) (by rw [List.flatten_cons]; exact List.mem_append_right _ (List.mem_flatten.mpr ⟨_, List.mem_of_getElem? hk', List.mem_cons_self⟩))
  cases hlt : decide (as.length < sizeLine) with
  | false=>rw [chk, if_neg (by simpa using hlt)] at P'; exact P'.elim
  | true=>
    have hlt' : as.length < sizeLine:=by simpa using hlt
    rw [Xz hlt'] at P'
    have wnd:=w'.nd
    have hcell : ∀ c ∈ (p, HO.lst (xs ++ [y])) :: (Cs' ++ [D']).flatten, upd H' p (.lst (xs ++ [y])) c.1 = some c.2:=fun c hc=>by
      rcases List.mem_cons.mp hc with rfl | hc
      . exact Yn
      . have hp1 := XQ hk'
        have w3 : W [D' ++ (((p, HO.lst xs) :: Cs.flatten) ++ (OO'.set k []).flatten)] H':=w'.of (by
          simp only [List.flatten_cons, List.flatten_nil, List.append_nil]
          exact (by simpa using hp1 : (((p, HO.lst xs) :: Cs.flatten) ++ (OO'.set k []).flatten).Perm OO'.flatten).append_left D')
        have hin : c ∈ D' ++ (((p, HO.lst xs) :: Cs.flatten) ++ (OO'.set k []).flatten):=by
          rw [YZ, List.mem_append] at hc
          rcases hc with hc | hc
          . rw [← c4] at hc; simp [hc]
          . simp [hc]
        have hne : c.1 ≠ p:=fun ee=>by
          have nd3:=w3.nd
          rw [YZ, List.mem_append, ← c4] at hc
          simp only [fl, List.flatten_cons, List.flatten_nil, List.append_nil, List.map_append, List.cons_append, List.map_cons] at nd3
          rw [List.nodup_append] at nd3
          obtain ⟨_, n2, n3⟩:=nd3
          rcases hc with hc | hc
          . exact (List.nodup_cons.mp n2).1 (List.mem_append_left _ (List.mem_map.mpr ⟨c, hc, ee⟩))
          . exact n3 c.1 (List.mem_map.mpr ⟨c, hc, rfl⟩) p List.mem_cons_self ee
        rw [XM hne]
        exact w3.tr c (by simpa using hin)
    obtain ⟨w4, h4⟩:=Eh (C':=(p, .lst (xs ++ [y])) :: (Cs' ++ [D']).flatten) w' hk' List.mem_cons_self (by simp [YZ, c4]) hcell (fun c hc=>by
      rcases List.mem_cons.mp hc with rfl | hc
      . rfl
      . rw [YZ, List.mem_append, ← c4] at hc
        rcases hc with hc | hc
        . exact w'.mu c (by rw [List.flatten_cons]; exact List.mem_append_right _ (List.mem_flatten.mpr ⟨_, List.mem_of_getElem? hk', List.mem_cons_of_mem _ hc⟩))
        . exact w'.mu c (by rw [List.flatten_cons]; exact List.mem_append_left _ hc))
    refine ⟨p, xs, y, e, rfl, hH', by rw [(P3.len q).1]; exact hlt', ?_⟩
    refine hr a _ _ D w4 ?_ (by rw [h4]; exact P')
    rw [h4]
    exact ⟨s', ⟨p, xs ++ [y], Cs' ++ [D'], e, q2.snoc ho, rfl⟩⟩
end
end L2
namespace L2
open PySem PySem.Spec PyProof.Rows
section
variable {K : PySem.W.Frag} {Er : Exc -> Hp -> Prop} {S : SC} {OO OO' OO2 : List (List Xx)} {σ : St} {α β γ ρ ι δ ε : Type}
variable {Fd : Ends -> β -> Hp -> Prop} [fd : FdOk Fd] {u : TS}
noncomputable def forN : List α -> γ -> (γ -> α -> Res γ) -> Res γ
  | [], g, _=>.ok g
  | a :: as, g, f=>(f g a).bind fun g'=>forN as g' f
noncomputable def forC : List α -> γ -> (γ -> α -> Res (Ctl ρ γ)) -> Res (Ctl ρ γ)
  | [], g, _=>.ok (.nx g)
  | a :: as, g, f=>(f g a).bind fun c=>match c with
    | .ret r=>.ok (.ret r)
    | .nx g'=>forC as g' f
theorem XF {m : Res α} {f : α -> Res β} {g : β -> Res γ} : (m.bind f).bind g = m.bind fun a=>(f a).bind g:=by cases m <;> rfl
structure Tgt (K : PySem.W.Frag) (OO : List (List Xx)) (g : TG) (r : Enc α) (κ : Type) where
  set : κ -> St -> St
  sc : α -> κ -> SC -> SC
  ok : ∀ {H : Hp} {v : V} {a : α} {σ : St} {S : SC} {Q : St -> Hp -> Prop}, r K (hid H OO) v a -> S.p (hid H OO) -> (∀ x, (sc a x S).p (hid H OO) -> Q (set x σ) H) -> g v σ H Q
noncomputable def tg1 {r : Enc α} [MonoE r] (i : Nat) : Tgt K OO (Z6 i) r V where
  set:=fun v σ=>σ.set i (some v)
  sc:=fun a v S=>S.add K r v a
  ok:=fun {H v a σ S Q} hr hs hq=>hq v ⟨hs, hr⟩
structure Walk (K : PySem.W.Frag) (Er : Exc -> Hp -> Prop) (S : SC) (OO : List (List Xx)) (σ : St) (wi : TI) (r : Enc α) (m : Res (List α)) : Prop where
  ok : ∀ {H : Hp} {R : It -> Hp -> Prop}, W OO H -> S.p (hid H OO) -> PZ Er (fun as H=>∀ J H', Xo H H' ->
      (∀ (i : Nat) a, as[i]? = some a -> ∀ OO2 H2, W OO2 H2 -> Xo (hid H' OO) (hid H2 OO2) -> J.go i H2 /\ ∀ x H3, J.yld i H2 x H3 -> Xo H2 H3 /\ r K (hid H3 OO2) x a) ->
      (∀ OO2 H2, W OO2 H2 -> Xo (hid H' OO) (hid H2 OO2) -> J.stop as.length H2) -> R J H') H m -> wi σ H R
theorem ZL {te : TE} {r : Enc α} [z : MonoE r] {m : Res (List α)} (he : EvS K Er S OO σ te (rV r) m) : Walk K Er S OO σ (KB K te) r m:=⟨fun {H R} w s P=>by
  refine he H _ w s (P.imp fun as _ h v H' s' ⟨p, xs, e, hp, pr⟩=>⟨p, e, ⟨xs, SqL.of (XG _ _ hp)⟩, h _ H' s' ?_ ?_⟩)
  . intro i a ha OO2 H2 w2 m2
    obtain ⟨x, hx, rx⟩:=Paired.getR pr ha
    have hq : SqL K H2 p xs:=SqL.of (XG _ _ (m2 _ _ hp))
    refine ⟨⟨xs, x, hq, hx⟩, fun y H3 ⟨e3, hy⟩=>?_⟩
    subst e3
    refine ⟨Xo.refl _, ?_⟩
    have:=hy xs hq
    rw [hx] at this
    cases this
    exact z.mono m2 rx
  . intro OO2 H2 w2 m2
    exact ⟨xs, SqL.of (XG _ _ (m2 _ _ hp)), by rw [Paired.len pr]; exact Nat.le_refl _⟩⟩
theorem UQ {lo hi : Int} {i : Nat} {a : Int} (h : (Ze lo hi)[i]? = some a) : a = lo + i /\ i < (hi - lo).toNat:=by
  unfold Ze at h
  rw [List.getElem?_map] at h
  rcases Nat.lt_or_ge i (hi - lo).toNat with q | q
  . rw [List.getElem?_range q] at h; exact ⟨(Option.some.inj h).symm, q⟩
  . rw [List.getElem?_eq_none (by simpa using q)] at h; cases h
theorem UC {lo hi : Int} : (Ze lo hi).length = (hi - lo).toNat:=by simp [Ze]
noncomputable def J9 (lo hi : Int) : Res (List Int):=chk (-(2 ^ 62) <= lo /\ lo < 2 ^ 62 /\ -(2 ^ 62) <= hi /\ hi < 2 ^ 62) (.ok (Ze lo hi))
theorem XE {te : TE} {m : Res Int} (he : EvB K Er S OO σ te Xb m) : Walk K Er S OO σ (Cn (Xw te Zn)) Xb (m.bind fun n=>J9 0 n):=⟨fun {H R} w s P=>
  he.run w s (fun as H H' s' h J H2 s2=>h J H2 (s'.trans s2)) P fun n v H1 s1 w1 q1 r1 P1=>by
    obtain ⟨c, hc, P2⟩:=P1.okOf fun x=>Zi
    obtain ⟨⟨_, _, h1, h2⟩, h3⟩:=YE hc
    cases h3
    refine ⟨n, by rw [show v = .int n from r1], h1, h2, P2 _ H1 (Xo.refl _) (fun i a ha OO2 H2 w2 m2=>?_) fun OO2 H2 w2 m2=>?_⟩
    . obtain ⟨e1, e2⟩ := UQ ha
      rw [Int.sub_zero] at e2
      refine ⟨e2, fun x H3 ⟨e3, e4⟩=>?_⟩
      subst e3
      exact ⟨Xo.refl _, by rw [e4, e1]; rfl⟩
    . show n.toNat <= _
      rw [UC, Int.sub_zero]; exact Nat.le_refl _⟩
theorem Zv {wi : TI} {g : TG} {tb : TS} {r : Enc α} {κ : Type} {m : Res (List α)} {body : γ -> α -> Res γ} {f : γ -> Res β} (J : Jn γ ι) (T : ∀ OO, Tgt K OO g r κ) (x0 : ι) (g0 : γ) (he : Walk K Er S OO σ wi r m) (h1 : OO = J.oo x0) (h2 : σ = J.ss x0) (h3 : ∀ h, S.p h -> (J.sc g0 x0).p h)
    (hb : ∀ g x a v, Sv Er ((T (J.oo x)).sc a v (J.sc g x)) (J.oo x) ((T (J.oo x)).set v (J.ss x)) tb (FNd J) (body g a))
    (hr : ∀ g x, Sv Er (J.sc g x) (J.oo x) (J.ss x) u Fd (f g)) : Sv Er S OO σ (Z5 (Cf wi g tb) u) Fd (m.bind fun as=>(forN as g0 body).bind f):=fun H D w s P=>by
  refine he.ok w s ?_
  cases em : m with
  | bad=>rw [em] at P; exact P
  | err x=>rw [em] at P; exact fun H' s'=>P H' (XG.trans s')
  | ok as=>
    rw [em] at P
    have P : PZ Er (Fd D) (hid H OO) ((forN as g0 body).bind f):=P
    intro It H' s' hgo hstop
    refine ⟨fun i mm σ' H2=>mm = as.length - i /\ i <= as.length /\ ∃ x gg, σ' = J.ss x /\ W (J.oo x) H2 /\ Xo (hid H' OO) (hid H2 (J.oo x)) /\ (J.sc gg x).p (hid H2 (J.oo x)) /\ PZ Er (Fd D) (hid H2 (J.oo x)) ((forN (as.drop i) gg body).bind f), ⟨as.length, rfl, Nat.zero_le _, x0, g0, h2, ?_, ?_, ?_, ?_⟩, ?_⟩
    . rw [← h1]; exact w.keep s'
    . rw [← h1]; exact Xo.refl _
    . rw [← h1]; exact h3 _ (S.mono _ _ (Xj s') s)
    . rw [← h1, List.drop_zero]; exact PZ.tr (fd.tr D) (Xj s') P
    . rintro i mm σ' H2 ⟨rfl, hi, x, gg, rfl, w2, m2, sc2, P2⟩
      by_cases hlt : i < as.length
      . right
        have ha : as[i]? = some as[i]:=by simp [hlt]
        obtain ⟨h4, h5⟩:=hgo i _ ha (J.oo x) H2 w2 m2
        refine ⟨h4, fun σ3 H3=>∃ x gg, σ3 = J.ss x /\ W (J.oo x) H3 /\ Xo (hid H' OO) (hid H3 (J.oo x)) /\ (J.sc gg x).p (hid H3 (J.oo x)) /\ PZ Er (Fd D) (hid H3 (J.oo x)) ((forN (as.drop (i + 1)) gg body).bind f), fun σ3 H3 q=>⟨as.length - (i + 1), Nat.sub_lt_sub_left hlt (Nat.lt_succ_self i), rfl, hlt, q⟩, fun y H3 hy=>?_⟩
        obtain ⟨s3, r3⟩:=h5 y H3 hy
        have w3:=w2.keep s3
        have m3:=Xj (OO:=J.oo x) s3
        refine (T (J.oo x)).ok r3 ((J.sc gg x).mono _ _ m3 sc2) fun v hv=>hb gg x as[i] v H3 _ w3 hv ?_
        rw [List.drop_eq_getElem_cons hlt] at P2
        have P3 : PZ Er (Fd D) (hid H2 (J.oo x)) ((body gg as[i]).bind fun g'=>(forN (as.drop (i + 1)) g' body).bind f):=by rw [← XF]; exact P2
        cases eb : body gg as[i] with
        | bad=>rw [eb] at P3; exact P3
        | err x=>rw [eb] at P3; exact fun H4 s4=>P3 H4 (m3.trans s4)
        | ok g'=>
          rw [eb] at P3
          exact fun x' H4 w4 m4 sc4=>⟨x', g', rfl, w4, m2.trans (m3.trans m4), sc4, PZ.tr (fd.tr D) (m3.trans m4) P3⟩
      . left
        have e : i = as.length:=Nat.le_antisymm hi (Nat.not_lt.mp hlt)
        subst e
        refine ⟨hstop (J.oo x) H2 w2 m2, hr gg x H2 D w2 sc2 ?_⟩
        rw [List.drop_length] at P2
        exact P2
theorem Gj {o : OE ρ} {wi : TI} {g : TG} {tb : TS} {r : Enc α} {κ : Type} {m : Res (List α)} {body : γ -> α -> Res (Ctl ρ γ)} {f : γ -> Res ρ} (J : Jn γ ι) (T : ∀ OO, Tgt K OO g r κ) (x0 : ι) (g0 : γ) (he : Walk K Er S OO σ wi r m) (h1 : OO = J.oo x0) (h2 : σ = J.ss x0) (h3 : ∀ h, S.p h -> (J.sc g0 x0).p h)
    (hb : ∀ g x a v, Sv Er ((T (J.oo x)).sc a v (J.sc g x)) (J.oo x) ((T (J.oo x)).set v (J.ss x)) tb (FCd K o J) (body g a))
    (hr : ∀ g x, Sv Er (J.sc g x) (J.oo x) (J.ss x) u (FTd K o) (f g)) : Sv Er S OO σ (Z5 (Cf wi g tb) u) (FTd K o) (m.bind fun as=>(forC as g0 body).bind (YX f)):=fun H D w s P=>by
  refine he.ok w s ?_
  cases em : m with
  | bad=>rw [em] at P; exact P
  | err x=>rw [em] at P; exact fun H' s'=>P H' (XG.trans s')
  | ok as=>
    rw [em] at P
    have P : PZ Er (FTd K o D) (hid H OO) ((forC as g0 body).bind (YX f)):=P
    intro It H' s' hgo hstop
    refine ⟨fun i mm σ' H2=>mm = as.length - i /\ i <= as.length /\ ∃ x gg, σ' = J.ss x /\ W (J.oo x) H2 /\ Xo (hid H' OO) (hid H2 (J.oo x)) /\ (J.sc gg x).p (hid H2 (J.oo x)) /\ PZ Er (FTd K o D) (hid H2 (J.oo x)) ((forC (as.drop i) gg body).bind (YX f)), ⟨as.length, rfl, Nat.zero_le _, x0, g0, h2, ?_, ?_, ?_, ?_⟩, ?_⟩
    . rw [← h1]; exact w.keep s'
    . rw [← h1]; exact Xo.refl _
    . rw [← h1]; exact h3 _ (S.mono _ _ (Xj s') s)
    . rw [← h1, List.drop_zero]; exact PZ.tr (FdOk.tr D) (Xj s') P
    . rintro i mm σ' H2 ⟨rfl, hi, x, gg, rfl, w2, m2, sc2, P2⟩
      by_cases hlt : i < as.length
      . right
        have ha : as[i]? = some as[i]:=by simp [hlt]
        obtain ⟨h4, h5⟩:=hgo i _ ha (J.oo x) H2 w2 m2
        refine ⟨h4, fun σ3 H3=>∃ x gg, σ3 = J.ss x /\ W (J.oo x) H3 /\ Xo (hid H' OO) (hid H3 (J.oo x)) /\ (J.sc gg x).p (hid H3 (J.oo x)) /\ PZ Er (FTd K o D) (hid H3 (J.oo x)) ((forC (as.drop (i + 1)) gg body).bind (YX f)), fun σ3 H3 q=>⟨as.length - (i + 1), Nat.sub_lt_sub_left hlt (Nat.lt_succ_self i), rfl, hlt, q⟩, fun y H3 hy=>?_⟩
        obtain ⟨s3, r3⟩:=h5 y H3 hy
        have w3:=w2.keep s3
        have m3:=Xj (OO:=J.oo x) s3
        refine (T (J.oo x)).ok r3 ((J.sc gg x).mono _ _ m3 sc2) fun v hv=>hb gg x as[i] v H3 _ w3 hv ?_
        rw [List.drop_eq_getElem_cons hlt] at P2
        have P3 : PZ Er (FTd K o D) (hid H2 (J.oo x)) ((body gg as[i]).bind fun c=>(match c with
          | .ret r=>Res.ok (Ctl.ret r)
          | .nx g'=>forC (as.drop (i + 1)) g' body).bind (YX f)):=by rw [← XF]; exact P2
        cases eb : body gg as[i] with
        | bad=>rw [eb] at P3; exact P3
        | err x=>rw [eb] at P3; exact fun H4 s4=>P3 H4 (m3.trans s4)
        | ok c=>
          rw [eb] at P3
          cases c with
          | ret r=>exact FdOk.tr (Fd:=FTd K o) D r _ _ m3 P3
          | nx g'=>exact fun x' H4 w4 m4 sc4=>⟨x', g', rfl, w4, m2.trans (m3.trans m4), sc4, PZ.tr (FdOk.tr D) (m3.trans m4) P3⟩
      . left
        have e : i = as.length:=Nat.le_antisymm hi (Nat.not_lt.mp hlt)
        subst e
        refine ⟨hstop (J.oo x) H2 w2 m2, hr gg x H2 D w2 sc2 ?_⟩
        rw [List.drop_length] at P2
        exact P2
theorem Uf {κ2 : Type} {o : OE ρ} {J2 : Jn δ κ2} {wi : TI} {g : TG} {tb : TS} {r : Enc α} {κ : Type} {m : Res (List α)} {body : γ -> α -> Res (Ctl ρ γ)} {f : γ -> Res (Ctl ρ δ)} (J : Jn γ ι) (T : ∀ OO, Tgt K OO g r κ) (x0 : ι) (g0 : γ) (he : Walk K Er S OO σ wi r m) (h1 : OO = J.oo x0) (h2 : σ = J.ss x0) (h3 : ∀ h, S.p h -> (J.sc g0 x0).p h)
    (hb : ∀ g x a v, Sv Er ((T (J.oo x)).sc a v (J.sc g x)) (J.oo x) ((T (J.oo x)).set v (J.ss x)) tb (FCd K o J) (body g a))
    (hr : ∀ g x, Sv Er (J.sc g x) (J.oo x) (J.ss x) u (FCd K o J2) (f g)) : Sv Er S OO σ (Z5 (Cf wi g tb) u) (FCd K o J2) (m.bind fun as=>(forC as g0 body).bind (Yv f)):=fun H D w s P=>by
  refine he.ok w s ?_
  cases em : m with
  | bad=>rw [em] at P; exact P
  | err x=>rw [em] at P; exact fun H' s'=>P H' (XG.trans s')
  | ok as=>
    rw [em] at P
    have P : PZ Er (FCd K o J2 D) (hid H OO) ((forC as g0 body).bind (Yv f)):=P
    intro It H' s' hgo hstop
    refine ⟨fun i mm σ' H2=>mm = as.length - i /\ i <= as.length /\ ∃ x gg, σ' = J.ss x /\ W (J.oo x) H2 /\ Xo (hid H' OO) (hid H2 (J.oo x)) /\ (J.sc gg x).p (hid H2 (J.oo x)) /\ PZ Er (FCd K o J2 D) (hid H2 (J.oo x)) ((forC (as.drop i) gg body).bind (Yv f)), ⟨as.length, rfl, Nat.zero_le _, x0, g0, h2, ?_, ?_, ?_, ?_⟩, ?_⟩
    . rw [← h1]; exact w.keep s'
    . rw [← h1]; exact Xo.refl _
    . rw [← h1]; exact h3 _ (S.mono _ _ (Xj s') s)
    . rw [← h1, List.drop_zero]; exact PZ.tr (FdOk.tr D) (Xj s') P
    . rintro i mm σ' H2 ⟨rfl, hi, x, gg, rfl, w2, m2, sc2, P2⟩
      by_cases hlt : i < as.length
      . right
        have ha : as[i]? = some as[i]:=by simp [hlt]
        obtain ⟨h4, h5⟩:=hgo i _ ha (J.oo x) H2 w2 m2
        refine ⟨h4, fun σ3 H3=>∃ x gg, σ3 = J.ss x /\ W (J.oo x) H3 /\ Xo (hid H' OO) (hid H3 (J.oo x)) /\ (J.sc gg x).p (hid H3 (J.oo x)) /\ PZ Er (FCd K o J2 D) (hid H3 (J.oo x)) ((forC (as.drop (i + 1)) gg body).bind (Yv f)), fun σ3 H3 q=>⟨as.length - (i + 1), Nat.sub_lt_sub_left hlt (Nat.lt_succ_self i), rfl, hlt, q⟩, fun y H3 hy=>?_⟩
        obtain ⟨s3, r3⟩:=h5 y H3 hy
        have w3:=w2.keep s3
        have m3:=Xj (OO:=J.oo x) s3
        refine (T (J.oo x)).ok r3 ((J.sc gg x).mono _ _ m3 sc2) fun v hv=>hb gg x as[i] v H3 _ w3 hv ?_
        rw [List.drop_eq_getElem_cons hlt] at P2
        have P3 : PZ Er (FCd K o J2 D) (hid H2 (J.oo x)) ((body gg as[i]).bind fun c=>(match c with
          | .ret r=>Res.ok (Ctl.ret r)
          | .nx g'=>forC (as.drop (i + 1)) g' body).bind (Yv f)):=by rw [← XF]; exact P2
        cases eb : body gg as[i] with
        | bad=>rw [eb] at P3; exact P3
        | err x=>rw [eb] at P3; exact fun H4 s4=>P3 H4 (m3.trans s4)
        | ok c=>
          rw [eb] at P3
          cases c with
          | ret r=>exact FdOk.tr (Fd:=FTd K o) D r _ _ m3 P3
          | nx g'=>exact fun x' H4 w4 m4 sc4=>⟨x', g', rfl, w4, m2.trans (m3.trans m4), sc4, PZ.tr (FdOk.tr D) (m3.trans m4) P3⟩
      . left
        have e : i = as.length:=Nat.le_antisymm hi (Nat.not_lt.mp hlt)
        subst e
        refine ⟨hstop (J.oo x) H2 w2 m2, hr gg x H2 D w2 sc2 ?_⟩
        rw [List.drop_length] at P2
        exact P2
noncomputable def Z0 : Nat -> γ -> (γ -> Res Bool) -> (γ -> Res γ) -> Res γ
  | 0, _, _, _=>.bad
  | n + 1, g, c, f=>(c g).bind fun b=>if b = true then (f g).bind fun g'=>Z0 n g' c f else .ok g
theorem VZ {c : TT} {tb : TS} {mc : γ -> Res Bool} {body : γ -> Res γ} {f : γ -> Res β} (J : Jn γ ι) (n : Nat) (x0 : ι) (g0 : γ) (h1 : OO = J.oo x0) (h2 : σ = J.ss x0) (h3 : ∀ h, S.p h -> (J.sc g0 x0).p h)
    (hc : ∀ g x, EvT Er (J.sc g x) (J.oo x) (J.ss x) c (mc g)) (hb : ∀ g x, Sv Er (J.sc g x) (J.oo x) (J.ss x) tb (FNd J) (body g))
    (hr : ∀ g x, Sv Er (J.sc g x) (J.oo x) (J.ss x) u Fd (f g)) : Sv Er S OO σ (Z5 (UU c tb) u) Fd ((Z0 n g0 mc body).bind f):=fun H D w s P=>by
  refine ⟨fun mm σ' H2=>∃ x gg, σ' = J.ss x /\ W (J.oo x) H2 /\ (J.sc gg x).p (hid H2 (J.oo x)) /\ PZ Er (Fd D) (hid H2 (J.oo x)) ((Z0 mm gg mc body).bind f), ⟨n, x0, g0, h2, by rw [← h1]; exact w, by rw [← h1]; exact h3 _ s, by rw [← h1]; exact P⟩, ?_⟩
  rintro mm σ' H2 ⟨x, gg, rfl, w2, sc2, P2⟩
  cases mm with
  | zero=>exact P2.elim
  | succ mm=>
    have P3 : PZ Er (Fd D) (hid H2 (J.oo x)) ((mc gg).bind fun b=>(if b = true then (body gg).bind fun g'=>Z0 mm g' mc body else .ok gg).bind f):=by rw [← XF]; exact P2
    refine (hc gg x).st w2 sc2 P3 fun b H3 w3 sc3 P4=>?_
    cases b with
    | false=>exact hr gg x H3 D w3 sc3 P4
    | true=>
      rw [if_pos rfl] at P4 ⊢
      refine ⟨fun σ3 H4=>∃ x gg, σ3 = J.ss x /\ W (J.oo x) H4 /\ (J.sc gg x).p (hid H4 (J.oo x)) /\ PZ Er (Fd D) (hid H4 (J.oo x)) ((Z0 mm gg mc body).bind f), fun σ3 H4 q=>⟨mm, Nat.lt_succ_self _, q⟩, hb gg x H3 _ w3 sc3 ?_⟩
      rw [XF] at P4
      cases eb : body gg with
      | bad=>rw [eb] at P4; exact P4
      | err x=>rw [eb] at P4; exact P4
      | ok g'=>
        rw [eb] at P4
        exact fun x' H5 w5 m5 sc5=>⟨x', g', rfl, w5, sc5, PZ.tr (fd.tr D) m5 P4⟩
noncomputable def UR (as : List α) (f : α -> Res β) : Res (List β):=match as with
  | []=>.ok []
  | a :: as=>(f a).bind fun b=>(UR as f).bind fun bs=>.ok (b :: bs)
noncomputable def D0 (as : List α) (f : α -> Res β) : Res (List β):=chk (as.length <= sizeLine) (UR as f)
noncomputable def Ua (as : List α) (c : α -> Res Bool) (f : α -> Res β) : Res (List β):=match as with
  | []=>.ok []
  | a :: as=>(c a).bind fun b=>if b = true then (f a).bind fun b=>(Ua as c f).bind fun bs=>.ok (b :: bs) else Ua as c f
noncomputable def Bn (as : List α) (c : α -> Res Bool) (f : α -> Res β) : Res (List β):=chk (as.length <= sizeLine) (Ua as c f)
theorem PZ.chk {F : β -> Hp -> Prop} {H : Hp} {c : Prop} [Decidable c] {m : Res β} (P : PZ Er F H (chk c m)) : c /\ PZ Er F H m:=by
  unfold L2.chk at P; split at P
  . exact ⟨by assumption, P⟩
  . exact P.elim
theorem F9 {o : OE α} [z : MonoO o] {xs : List V} {as : List α} {Cs : List (List Xx)} {H H0 : Hp} {Q : VK} (w : W (Cs.flatten :: OO) H) (m0 : Xo (hid H0 OO) (hid H (Cs.flatten :: OO))) (s0 : Xo H0 H) (pr : P3 (o K (hid H (Cs.flatten :: OO))) xs as Cs) (P : FO K OO OO (oL o) Q as H0) : ∀ p, H p = none -> Q (.ref p) (upd H p (.lst xs)):=fun p hp=>by
  have hn:=Vq (OO:=Cs.flatten :: OO) hp (o:=.lst xs)
  have wn:=w.new hp (o:=.lst xs) rfl
  have pe : (((p, HO.lst xs) :: Cs.flatten) :: OO).flatten.Perm ([(p, HO.lst xs)] :: Cs.flatten :: OO).flatten:=by simp
  refine P (.ref p) ((p, .lst xs) :: Cs.flatten) _ (s0.trans (XH hp _)) (wn.of pe) ?_ ?_
  . rw [XJ pe]; exact m0.trans hn
  . rw [XJ pe]
    exact ⟨p, xs, Cs, rfl, pr.imp fun _ _ _ h=>z.mono hn h, rfl⟩
theorem Vz {o : OE β} [z : MonoO o] {wi : TI} {g : TG} {te : TE} {r : Enc α} {κ : Type} {m : Res (List α)} {f : α -> Res β} {n : Nat} {caps : List (Nat × Str)} (T : ∀ OO, Tgt K OO g r κ) (he : Walk K Er S OO σ wi r m)
    (hb : ∀ C a v, Ev K Er ((T (C :: OO)).sc a v S) (C :: OO) (C :: OO) ((T (C :: OO)).set v (ZN n caps σ)) te o (f a)) : Ev K Er S OO OO σ (KO n caps wi g Q6 te) (oL o) (m.bind fun as=>D0 as f):=fun H Q w s P=>by
  refine he.ok w s ?_
  cases em : m with
  | bad=>rw [em] at P; exact P
  | err x=>rw [em] at P; exact P
  | ok as=>
    rw [em] at P
    obtain ⟨hsz, P⟩:=PZ.chk (show PZ Er _ H (chk (as.length <= sizeLine) (UR as f)) from P)
    intro It H' s' hgo hstop
    -- what is left: the Y7 of the items, then all
    refine ⟨fun i mm ys H2=>mm = as.length - i /\ i <= as.length /\ ∃ bs Cs, Xo H H2 /\ W (Cs.flatten :: OO) H2 /\ Xo (hid H' OO) (hid H2 (Cs.flatten :: OO)) /\ P3 (o K (hid H2 (Cs.flatten :: OO))) ys bs Cs /\ bs.length = i /\ PZ Er (FO K OO OO (oL o) Q) H ((UR (as.drop i) f).bind fun Y7=>.ok (bs ++ Y7)),
      ⟨as.length, rfl, Nat.zero_le _, [], [], s', (w.keep s').nil, by show Xo _ (hid H' ([] :: OO)); rw [Yi]; exact Xo.refl _, .nil, rfl, ?_⟩, ?_⟩
    . rw [List.drop_zero]
      revert P
      cases UR as f <;> exact fun z=>z
    . rintro i mm ys H2 ⟨rfl, hi, bs, Cs, s2, w2, m2, pr, hlen, P2⟩
      refine ⟨by rw [pr.len.1, hlen]; omega, ?_⟩
      by_cases hlt : i < as.length
      . right
        have ha : as[i]? = some as[i]:=by simp [hlt]
        obtain ⟨h4, h5⟩:=hgo i _ ha (Cs.flatten :: OO) H2 w2 m2
        refine ⟨h4, fun ys' H3=>∃ bs Cs, Xo H H3 /\ W (Cs.flatten :: OO) H3 /\ Xo (hid H' OO) (hid H3 (Cs.flatten :: OO)) /\ P3 (o K (hid H3 (Cs.flatten :: OO))) ys' bs Cs /\ bs.length = i + 1 /\ PZ Er (FO K OO OO (oL o) Q) H ((UR (as.drop (i + 1)) f).bind fun Y7=>.ok (bs ++ Y7)), fun ys' H3 q=>⟨as.length - (i + 1), Nat.sub_lt_sub_left hlt (Nat.lt_succ_self i), rfl, hlt, q⟩, fun y H3 hy=>?_⟩
        obtain ⟨s3, r3⟩:=h5 y H3 hy
        have w3:=w2.keep s3
        have m3:=Xj (OO:=Cs.flatten :: OO) s3
        have sS : S.p (hid H3 (Cs.flatten :: OO)):=S.mono _ _ ((Xj s').trans (m2.trans m3)) s
        refine (T (Cs.flatten :: OO)).ok r3 sS fun v hv=>?_
        show Q6 _ _ _
        refine Bv ?_
        rw [List.drop_eq_getElem_cons hlt] at P2
        have P3' : PZ Er (FO K OO OO (oL o) Q) H ((f as[i]).bind fun b=>(UR (as.drop (i + 1)) f).bind fun Y7=>.ok (bs ++ b :: Y7)):=by
          have : ((f as[i]).bind fun b=>(UR (as.drop (i + 1)) f).bind fun Y7=>Res.ok (bs ++ b :: Y7)) = (UR (as[i] :: as.drop (i + 1)) f).bind fun Y7=>.ok (bs ++ Y7):=by
            show _ = ((f as[i]).bind fun b=>(UR (as.drop (i + 1)) f).bind fun bs=>Res.ok (b :: bs)).bind _
            rw [XF]; congr 1; funext b; rw [XF]; rfl
          rw [this]; exact P2
        refine hb Cs.flatten as[i] v H3 _ w3 hv ?_
        cases eb : f as[i] with
        | bad=>rw [eb] at P3'; exact P3'
        | err x=>rw [eb] at P3'; exact fun H4 s4=>P3' H4 (s2.trans (s3.trans s4))
        | ok b=>
          rw [eb] at P3'
          intro v' C' H4 s4 w4 m4 ho
          have pe : ((Cs ++ [C']).flatten :: OO).flatten.Perm (C' :: Cs.flatten :: OO).flatten:=by
            simp only [YZ, List.flatten_cons]
            rw [List.append_assoc, ← List.append_assoc, ← List.append_assoc]
            exact List.perm_append_comm.append_right _
          refine ⟨bs ++ [b], Cs ++ [C'], s2.trans (s3.trans s4), w4.of pe, ?_, ?_, by simp [hlen], ?_⟩
          . rw [XJ pe]; exact m2.trans (m3.trans m4)
          . rw [XJ pe]; exact P3.snoc (pr.imp fun _ _ _ h=>z.mono (m3.trans m4) h) ho
          . have P4 : PZ Er (FO K OO OO (oL o) Q) H ((UR (as.drop (i + 1)) f).bind fun Y7 => .ok (bs ++ b :: Y7)) := P3'
            simpa using P4
      . left
        have e : i = as.length:=Nat.le_antisymm hi (Nat.not_lt.mp hlt)
        subst e
        refine ⟨hstop (Cs.flatten :: OO) H2 w2 m2, ?_⟩
        rw [List.drop_length] at P2
        have P3' : FO K OO OO (oL o) Q (bs ++ []) H:=P2
        rw [List.append_nil] at P3'
        exact F9 (H0:=H) w2 ((Xj s').trans m2) s2 pr P3'
theorem Ur {o : OE β} [z : MonoO o] {wi : TI} {g : TG} {tt : TT} {te : TE} {r : Enc α} {κ : Type} {m : Res (List α)} {c : α -> Res Bool} {f : α -> Res β} {n : Nat} {caps : List (Nat × Str)} (T : ∀ OO, Tgt K OO g r κ) (he : Walk K Er S OO σ wi r m)
    (hc : ∀ C a v, EvT Er ((T (C :: OO)).sc a v S) (C :: OO) ((T (C :: OO)).set v (ZN n caps σ)) tt (c a))
    (hb : ∀ C a v, Ev K Er ((T (C :: OO)).sc a v S) (C :: OO) (C :: OO) ((T (C :: OO)).set v (ZN n caps σ)) te o (f a)) : Ev K Er S OO OO σ (KO n caps wi g tt te) (oL o) (m.bind fun as=>Bn as c f):=fun H Q w s P=>by
  refine he.ok w s ?_
  cases em : m with
  | bad=>rw [em] at P; exact P
  | err x=>rw [em] at P; exact P
  | ok as=>
    rw [em] at P
    obtain ⟨hsz, P⟩:=PZ.chk (show PZ Er _ H (chk (as.length <= sizeLine) (Ua as c f)) from P)
    intro It H' s' hgo hstop
    refine ⟨fun i mm ys H2=>mm = as.length - i /\ i <= as.length /\ ∃ bs Cs, Xo H H2 /\ W (Cs.flatten :: OO) H2 /\ Xo (hid H' OO) (hid H2 (Cs.flatten :: OO)) /\ P3 (o K (hid H2 (Cs.flatten :: OO))) ys bs Cs /\ bs.length <= i /\ PZ Er (FO K OO OO (oL o) Q) H ((Ua (as.drop i) c f).bind fun Y7=>.ok (bs ++ Y7)),
      ⟨as.length, rfl, Nat.zero_le _, [], [], s', (w.keep s').nil, by show Xo _ (hid H' ([] :: OO)); rw [Yi]; exact Xo.refl _, .nil, Nat.zero_le _, ?_⟩, ?_⟩
    . rw [List.drop_zero]
      revert P
      cases Ua as c f <;> exact fun z=>z
    . rintro i mm ys H2 ⟨rfl, hi, bs, Cs, s2, w2, m2, pr, hlen, P2⟩
      refine ⟨by rw [pr.len.1]; omega, ?_⟩
      by_cases hlt : i < as.length
      . right
        have ha : as[i]? = some as[i]:=by simp [hlt]
        obtain ⟨h4, h5⟩:=hgo i _ ha (Cs.flatten :: OO) H2 w2 m2
        refine ⟨h4, fun ys' H3=>∃ bs Cs, Xo H H3 /\ W (Cs.flatten :: OO) H3 /\ Xo (hid H' OO) (hid H3 (Cs.flatten :: OO)) /\ P3 (o K (hid H3 (Cs.flatten :: OO))) ys' bs Cs /\ bs.length <= i + 1 /\ PZ Er (FO K OO OO (oL o) Q) H ((Ua (as.drop (i + 1)) c f).bind fun Y7=>.ok (bs ++ Y7)), fun ys' H3 q=>⟨as.length - (i + 1), Nat.sub_lt_sub_left hlt (Nat.lt_succ_self i), rfl, hlt, q⟩, fun y H3 hy=>?_⟩
        obtain ⟨s3, r3⟩:=h5 y H3 hy
        have w3:=w2.keep s3
        have m3:=Xj (OO:=Cs.flatten :: OO) s3
        have sS : S.p (hid H3 (Cs.flatten :: OO)):=S.mono _ _ ((Xj s').trans (m2.trans m3)) s
        refine (T (Cs.flatten :: OO)).ok r3 sS fun v hv=>?_
        rw [List.drop_eq_getElem_cons hlt] at P2
        have P3' : PZ Er (FO K OO OO (oL o) Q) H ((c as[i]).bind fun b=>(if b = true then (f as[i]).bind fun b=>(Ua (as.drop (i + 1)) c f).bind fun bs=>.ok (b :: bs) else Ua (as.drop (i + 1)) c f).bind fun Y7=>.ok (bs ++ Y7)):=by
          rw [← XF]; exact P2
        refine hc Cs.flatten as[i] v H3 _ w3 hv ?_
        cases ec : c as[i] with
        | bad=>rw [ec] at P3'; exact P3'
        | err x=>rw [ec] at P3'; exact fun H4 s4=>P3' H4 (s2.trans (s3.trans s4))
        | ok b=>
          rw [ec] at P3'
          intro H4 s4
          have w4:=w3.keep s4
          have m4:=Xj (OO:=Cs.flatten :: OO) s4
          cases b with
          | false=>exact ⟨bs, Cs, s2.trans (s3.trans s4), w4, m2.trans (m3.trans m4), pr.imp fun _ _ _ h=>z.mono (m3.trans m4) h, Nat.le_succ_of_le hlen, P3'⟩
          | true=>
            rw [if_pos rfl]
            have P4 : PZ Er (FO K OO OO (oL o) Q) H ((f as[i]).bind fun b=>(Ua (as.drop (i + 1)) c f).bind fun Y7=>.ok (bs ++ b :: Y7)):=by
              have : ((f as[i]).bind fun b=>(Ua (as.drop (i + 1)) c f).bind fun Y7=>Res.ok (bs ++ b :: Y7)) = ((f as[i]).bind fun b=>(Ua (as.drop (i + 1)) c f).bind fun bs=>Res.ok (b :: bs)).bind fun Y7=>.ok (bs ++ Y7):=by
                rw [XF]; congr 1; funext b; rw [XF]; rfl
              rw [this]; exact P3'
            refine hb Cs.flatten as[i] v H4 _ w4 (((T (Cs.flatten :: OO)).sc as[i] v S).mono _ _ m4 hv) ?_
            cases eb : f as[i] with
            | bad=>rw [eb] at P4; exact P4
            | err x=>rw [eb] at P4; exact fun H5 s5=>P4 H5 (s2.trans (s3.trans (s4.trans s5)))
            | ok b=>
              rw [eb] at P4
              intro v' C' H5 s5 w5 m5 ho
              have pe : ((Cs ++ [C']).flatten :: OO).flatten.Perm (C' :: Cs.flatten :: OO).flatten:=by
                simp only [YZ, List.flatten_cons]
                rw [List.append_assoc, ← List.append_assoc, ← List.append_assoc]
                exact List.perm_append_comm.append_right _
              refine ⟨bs ++ [b], Cs ++ [C'], s2.trans (s3.trans (s4.trans s5)), w5.of pe, ?_, ?_, by simpa using hlen, ?_⟩
              . rw [XJ pe]; exact m2.trans (m3.trans (m4.trans m5))
              . rw [XJ pe]; exact P3.snoc (pr.imp fun _ _ _ h=>z.mono (m3.trans (m4.trans m5)) h) ho
              . have P5 : PZ Er (FO K OO OO (oL o) Q) H ((Ua (as.drop (i + 1)) c f).bind fun Y7 => .ok (bs ++ b :: Y7)) := P4
                simpa using P5
      . left
        have e : i = as.length:=Nat.le_antisymm hi (Nat.not_lt.mp hlt)
        subst e
        refine ⟨hstop (Cs.flatten :: OO) H2 w2 m2, ?_⟩
        rw [List.drop_length] at P2
        have P3' : FO K OO OO (oL o) Q (bs ++ []) H:=P2
        rw [List.append_nil] at P3'
        exact F9 (H0:=H) w2 ((Xj s').trans m2) s2 pr P3'
noncomputable def Vd (as : List α) (i : Int) (a : α) : Res (List α):=match ixN as.length i with
  | some j=>.ok (as.set j a)
  | none=>.bad
end
end L2
namespace L2
open PySem PySem.Spec PyProof.Rows
section
variable {K : PySem.W.Frag} {Er : Exc -> Hp -> Prop} {S : SC} {OO OO' OO2 : List (List Xx)} {σ : St} {α β γ ρ ι δ ε : Type}
variable {Fd : Ends -> β -> Hp -> Prop} [fd : FdOk Fd] {u : TS}
theorem Cz {C D C' : List Xx} {H : Hp} {k : Nat} {p : Addr} {o : HO} (w : W (D :: OO) H) (hk : OO[k]? = some C) (hp : p ∈ C.map (·.1)) (hp' : p ∈ C'.map (·.1)) (hnd : (C'.map (·.1)).Nodup) (hin : ∀ b ∈ C'.map (·.1), b ∈ (C ++ D).map (·.1)) (ht : ∀ c ∈ C', upd H p o c.1 = some c.2) (hm : ∀ c ∈ C', Cl c.2 = true) :
    W (OO.set k C') (upd H p o) /\ Xo (hid H (D :: OO)) (hid (upd H p o) (OO.set k C')):=by
  have hlt : k < OO.length:=by
    rcases Nat.lt_or_ge k OO.length with h | h
    . exact h
    . rw [List.getElem?_eq_none h] at hk; cases hk
  have h1:=XQ hk
  have h2:=XQ (OO:=OO.set k C') (k:=k) (C:=C') (by simp [hlt])
  rw [set_set] at h2
  have h3 : (OO.set k C').flatten.Perm (C' ++ (OO.set k []).flatten):=by simpa using h2.symm
  have h4 : (D :: OO).flatten.Perm ((C ++ D) ++ (OO.set k []).flatten):=by
    rw [List.flatten_cons]
    refine ((by simpa using h1.symm : OO.flatten.Perm (C ++ (OO.set k []).flatten)).append_left D).trans ?_
    rw [← List.append_assoc]
    exact List.perm_append_comm.append_right _
  have nd2 : (((C ++ D) ++ (OO.set k []).flatten).map (·.1)).Nodup:=(h4.map _).nodup_iff.mp w.nd
  rw [List.map_append] at nd2
  obtain ⟨n1, n2, n3⟩:=List.nodup_append.mp nd2
  refine ⟨⟨fun c hc=>?_, ?_, fun c hc=>?_⟩, fun b v q=>?_⟩
  . rcases List.mem_append.mp (h3.mem_iff.mp hc) with hc | hc
    . exact ht c hc
    . have hne : c.1 ≠ p := fun e => n3 p (hin p hp') c.1 (List.mem_map.mpr ⟨c, hc, rfl⟩) e.symm
      rw [XM hne]
      exact w.tr c (h4.mem_iff.mpr (by simp [hc]))
  . refine ((h3.map _).nodup_iff).mpr ?_
    rw [List.map_append]
    exact List.nodup_append.mpr ⟨hnd, n2, fun a ha b hb=>n3 a (hin a ha) b hb⟩
  . rcases List.mem_append.mp (h3.mem_iff.mp hc) with hc | hc
    . exact hm c hc
    . exact w.mu c (h4.mem_iff.mpr (by simp [hc]))
  . obtain ⟨q1, q2⟩ := Yt q
    have hbp : b ≠ p:=fun e=>q2 (by
      rw [e]
      obtain ⟨c, hc, rfl⟩:=List.mem_map.mp hp
      exact Q0 (h4.mem_iff.mpr (by simp [hc])))
    refine ZD (by rw [XM hbp]; exact q1) fun z=>q2 ?_
    obtain ⟨o', ho'⟩:=Ka z
    rcases List.mem_append.mp (h3.mem_iff.mp ho') with hc | hc
    . obtain ⟨c, hc2, e⟩ := List.mem_map.mp (hin b (List.mem_map.mpr ⟨_, hc, rfl⟩))
      rw [← e]
      exact Q0 (h4.mem_iff.mpr (List.mem_append_left _ hc2))
    . exact Q0 (c:=(b, o')) (h4.mem_iff.mpr (by simp [hc]))
theorem CS {D : List Xx} {Cs Cs' : List (List Xx)} {H : Hp} {k : Nat} {p : Addr} {xs xs' : List V} (w : W (D :: OO) H) (hk : OO[k]? = some ((p, .lst xs) :: Cs.flatten)) (hin : ∀ c ∈ Cs'.flatten, c ∈ Cs.flatten ++ D) (hnd : (Cs'.flatten.map (·.1)).Nodup) :
    W (OO.set k ((p, .lst xs') :: Cs'.flatten)) (upd H p (.lst xs')) /\ Xo (hid H (D :: OO)) (hid (upd H p (.lst xs')) (OO.set k ((p, .lst xs') :: Cs'.flatten))):=by
  have h1:=XQ hk
  have w3 : W [((p, HO.lst xs) :: (Cs.flatten ++ D)) ++ (OO.set k []).flatten] H:=w.of (by
    simp only [List.flatten_cons, List.flatten_nil, List.append_nil]
    refine List.Perm.trans ?_ ((by simpa using h1 : (((p, HO.lst xs) :: Cs.flatten) ++ (OO.set k []).flatten).Perm OO.flatten).append_left D)
    rw [← List.append_assoc]
    refine List.Perm.append_right _ ?_
    exact (List.perm_append_comm (l₁:=(p, HO.lst xs) :: Cs.flatten) (l₂:=D)))
  have nd:=w3.nd
  simp only [fl, List.flatten_cons, List.flatten_nil, List.append_nil, List.map_append, List.cons_append, List.map_cons] at nd
  have hne : ∀ c ∈ Cs'.flatten, c.1 ≠ p:=fun c hc e=>by
    refine (List.nodup_cons.mp nd).1 ?_
    rw [← e]
    refine List.mem_append_left _ ?_
    rw [← List.map_append]
    exact List.mem_map.mpr ⟨c, hin c hc, rfl⟩
  refine Cz w hk List.mem_cons_self List.mem_cons_self ?_ ?_ ?_ ?_
  . rw [List.map_cons, List.nodup_cons]
    refine ⟨fun z=>?_, hnd⟩
    obtain ⟨c, hc, e⟩:=List.mem_map.mp z
    exact hne c hc e
  . intro b hb
    rcases List.mem_cons.mp hb with rfl | hb
    . exact List.mem_cons_self
    . obtain ⟨c, hc, rfl⟩ := List.mem_map.mp hb
      rw [List.cons_append, List.map_cons]
      exact List.mem_cons_of_mem _ (List.mem_map.mpr ⟨c, hin c hc, rfl⟩)
  . intro c hc
    rcases List.mem_cons.mp hc with rfl | hc
    . exact Yn
    . rw [XM (hne c hc)]
      exact w3.tr c (by
        rw [List.flatten_cons, List.flatten_nil, List.append_nil]
        exact List.mem_append_left _ (List.mem_cons_of_mem _ (hin c hc)))
  . intro c hc
    rcases List.mem_cons.mp hc with rfl | hc
    . rfl
    . exact w3.mu c (by
        rw [List.flatten_cons, List.flatten_nil, List.append_nil]
        exact List.mem_append_left _ (List.mem_cons_of_mem _ (hin c hc)))
theorem Vk {o : OE α} {h : Hp} {p : Addr} {xs : List V} {as : List α} {R : List Xx} (q : oL o K h (.ref p) as ((p, .lst xs) :: R)) : ∃ Cs, P3 (o K h) xs as Cs /\ R = Cs.flatten:=by
  obtain ⟨p', xs', Cs, e, q, c⟩:=q
  injection c with c1 c2
  injection c1 with c3 c4
  injection c4 with c5
  subst c5
  exact ⟨Cs, q, c2⟩
theorem DG {as : List α} {i : Int} {a : α} {bs : List α} (h : Vd as i a = .ok bs) : ∃ j, ixN as.length i = some j /\ bs = as.set j a:=by
  unfold Vd at h; split at h
  . cases h; exact ⟨_, by assumption, rfl⟩
  . cases h
theorem F1 {as : List α} {i : Int} {a : α} {x : Exc} : Vd as i a ≠ .err x:=by unfold Vd; split <;> exact fun z=>nomatch z
theorem GS {Cs : List (List Xx)} {j : Nat} {D : List Xx} (hj : j < Cs.length) : ((Cs.set j D).flatten ++ Cs[j]).Perm (Cs.flatten ++ D):=by
  have h1:=XQ (OO:=Cs) (k:=j) (C:=Cs[j]) (by simp [hj])
  have h2:=XQ (OO:=Cs.set j D) (k:=j) (C:=D) (by simp [hj])
  rw [set_set] at h2
  have h3 : (Cs.set j D).flatten.Perm (D ++ (Cs.set j []).flatten):=by simpa using h2.symm
  have h4 : Cs.flatten.Perm (Cs[j] ++ (Cs.set j []).flatten):=by simpa using h1.symm
  refine (h3.append_right _).trans (List.Perm.trans ?_ (h4.append_right _).symm)
  refine List.perm_append_comm.trans ((List.perm_append_comm.append_left _).trans ?_)
  rw [List.append_assoc]
theorem Y1 {D : List Xx} {Cs : List (List Xx)} {H : Hp} {k : Nat} {p : Addr} {xs : List V} (w : W (D :: OO) H) (hk : OO[k]? = some ((p, .lst xs) :: Cs.flatten)) : ((Cs.flatten ++ D).map (·.1)).Nodup:=by
  have h1:=XQ hk
  have w3 : W [((p, HO.lst xs) :: (Cs.flatten ++ D)) ++ (OO.set k []).flatten] H:=w.of (by
    simp only [List.flatten_cons, List.flatten_nil, List.append_nil]
    refine List.Perm.trans ?_ ((by simpa using h1 : (((p, HO.lst xs) :: Cs.flatten) ++ (OO.set k []).flatten).Perm OO.flatten).append_left D)
    rw [← List.append_assoc]
    refine List.Perm.append_right _ ?_
    exact (List.perm_append_comm (l₁:=(p, HO.lst xs) :: Cs.flatten) (l₂:=D)))
  have nd:=w3.nd
  simp only [fl, List.flatten_cons, List.flatten_nil, List.append_nil, List.cons_append, List.map_cons] at nd
  have n2:=(List.nodup_cons.mp nd).2
  rw [List.map_append] at n2
  exact (List.nodup_append.mp n2).1
theorem CL {ta : TE} {o : OE α} [MonoO o] {m : Res (List α)} {f : List α -> Res β} {v : V} {as : List α} {C : List Xx} (i k : Nat) (hσ : σ[i]? = some (some v)) (hk : OO[k]? = some C) (hk' : OO'[k]? = some C) (h : ∀ x, S.p x -> oL o K x v as C) (he : Ev K Er S OO OO' σ ta (oL o) m)
    (hr : ∀ bs C', Sv Er (S.addO K (oL o) v (as ++ bs) C') (OO'.set k C') σ u Fd (f (as ++ bs))) : Sv Er S OO σ (Z5 (Uy (tBM K "list" KF (Vc i) (Xw ta Zn))) u) Fd (m.bind fun bs=>chk (as.length + bs.length <= sizeLine) (f (as ++ bs))):=fun H D w s P=>by
  obtain ⟨p, xs, Cs, e, q, c⟩:=h _ s
  subst c
  have hH : H p = some (.lst xs):=w.tr (p, .lst xs) (List.mem_flatten.mpr ⟨_, List.mem_of_getElem? hk, List.mem_cons_self⟩)
  refine ⟨v, hσ, by rw [e]; exact .inl ⟨rfl, _, SqL.of hH⟩, he.st w s P fun bs y D' H' w' s' ho P'=>?_⟩
  obtain ⟨hsz, P'⟩:=PZ.chk P'
  subst e
  obtain ⟨Cs2, q2, c2⟩:=Vk (h _ s')
  obtain ⟨p', zs, Ds, e3, q3, c3⟩:=ho
  subst c3
  have hH' : H' p = some (.lst xs):=w'.tr (p, .lst xs) (by rw [List.flatten_cons]; exact List.mem_append_right _ (List.mem_flatten.mpr ⟨_, List.mem_of_getElem? hk', List.mem_cons_self⟩))
  have hH2 : H' p' = some (.lst zs):=w'.tr (p', .lst zs) (by rw [List.flatten_cons]; exact List.mem_append_left _ List.mem_cons_self)
  have cn:=Y1 w' hk'
  obtain ⟨w3, m3⟩:=CS (xs':=xs ++ zs) (Cs':=Cs2 ++ Ds) w' hk' (fun c hc=>by
      rw [List.flatten_append, List.mem_append] at hc
      rcases hc with hc | hc
      . rw [c2]; exact List.mem_append_left _ hc
      . exact List.mem_append_right _ (List.mem_cons_of_mem _ hc)) (by
      rw [List.flatten_append, ← c2]
      refine List.Nodup.sublist (List.Sublist.map _ ?_) cn
      exact List.Sublist.append (List.Sublist.refl _) (List.sublist_cons_self _ _))
  refine ⟨p, p', xs, zs, rfl, by rw [e3], hH', hH2, by rw [q2.len.1, q3.len.1]; exact hsz, ?_⟩
  exact hr bs _ _ D w3 ⟨S.mono _ _ m3 s', ⟨p, _, _, rfl, P3.imp (fun _ _ _ z=>MonoO.mono m3 z) (q2.app q3), rfl⟩⟩ (PZ.tr (fd.tr D) m3 P')
noncomputable def GW (as : List α) (i : Int) : Res (α × List α):=chk (-(2 ^ 63) <= i /\ i < 2 ^ 63) (match seqIndex? i as.length with
  | none=>.bad
  | some k=>match as[k]? with
    | none=>.bad
    | some a=>.ok (a, as.eraseIdx k))
theorem DM {as : List α} {i : Int} {p : α × List α} (h : GW as i = .ok p) : (-(2 ^ 63) <= i /\ i < 2 ^ 63) /\ ∃ k, seqIndex? i as.length = some k /\ as[k]? = some p.1 /\ p.2 = as.eraseIdx k:=by
  obtain ⟨h1, h2⟩:=YE h
  refine ⟨h1, ?_⟩
  split at h2
  . cases h2
  . split at h2
    . cases h2
    . cases h2; exact ⟨_, by assumption, by assumption, rfl⟩
theorem Do {as : List α} {i : Int} {x : Exc} : GW as i ≠ .err x:=by
  unfold GW chk; split
  . split
    . exact fun z=>nomatch z
    . split <;> exact fun z=>nomatch z
  . exact fun z=>nomatch z
theorem Paired.erase' {F : α -> γ -> Prop} : ∀ {l : List α} {m : List γ} (n : Nat), Paired F l m -> Paired F (l.eraseIdx n) (m.eraseIdx n)
  | _, _, _, .nil=>.nil
  | _, _, 0, .cons _ t=>t
  | _, _, n + 1, .cons r t=>.cons r (Paired.erase' n t)
theorem FQ {te ti : TE} {r : Enc α} [MonoE r] {mi : Res Int} {f : α × List α -> Res β} {v : V} {as : List α} {C : List Xx} {D : Ends} {H : Hp} {Q : VK} (i k : Nat) (hσ : σ[i]? = some (some v)) (hk : OO[k]? = some C) (h : ∀ x, S.p x -> oL (oF r) K x v as C) (hi : EvB K Er S OO σ ti Xb mi)
    (w : W OO H) (s : S.p (hid H OO)) (P : PZ Er (Fd D) (hid H OO) (mi.bind fun j=>(GW as j).bind f))
    (hr : ∀ a bs y C' H', W (OO.set k C') H' -> ((S.add K r y a).addO K (oL (oF r)) v bs C').p (hid H' (OO.set k C')) -> PZ Er (Fd D) (hid H' (OO.set k C')) (f (a, bs)) -> Q y H') : tBM K "list" Go (Vc i) (Xw ti Zn) σ H Q:=by
  obtain ⟨p, xs, Cs, e, q, c⟩:=h _ s
  subst c
  have hH : H p = some (.lst xs):=w.tr (p, .lst xs) (List.mem_flatten.mpr ⟨_, List.mem_of_getElem? hk, List.mem_cons_self⟩)
  refine ⟨v, hσ, by rw [e]; exact .inl ⟨rfl, _, SqL.of hH⟩, hi.st w s P fun j z H' s1 w' s' ho P'=>?_⟩
  subst e
  obtain ⟨Cs2, q2, c2⟩:=Vk (h _ s')
  obtain ⟨pr, hfl⟩:=P3.flat q2
  cases es : GW as j with
  | bad=>rw [es] at P'; exact P'.elim
  | err x=>exact absurd es Do
  | ok pp=>
    rw [es] at P'
    obtain ⟨a, bs⟩:=pp
    obtain ⟨h1, kk, h2, h3, h4⟩:=DM es
    obtain ⟨y, hy, ry⟩:=Paired.getR pr h3
    have w0 : W ([] :: OO) H':=w'.nil
    have hk0 : OO[k]? = some ((p, .lst xs) :: ([] : List (List Xx)).flatten):=by rw [hk, c2, hfl]; rfl
    obtain ⟨w3, m3⟩:=CS (D:=[]) (Cs:=[]) (xs':=xs.eraseIdx kk) (Cs':=List.replicate bs.length []) w0 hk0 (fun c hc=>by rw [X9] at hc; cases hc) (by rw [X9]; exact List.nodup_nil)
    rw [Yi] at m3
    refine ⟨p, xs, j, kk, y, rfl, by rw [show z = .int j from ho], s1 _ _ hH, h1.1, h1.2, by rw [Paired.len pr]; exact h2, hy, ?_⟩
    have pr2 : Paired (r K (hid H' OO)) (xs.eraseIdx kk) bs:=by rw [show bs = as.eraseIdx kk from h4]; exact Paired.erase' kk pr
    exact hr a bs y _ _ w3 ⟨⟨S.mono _ _ m3 s', MonoE.mono m3 ry⟩, ⟨p, _, _, rfl, (P3.of (Paired.imp2 (fun _ _ z=>MonoE.mono m3 z) pr2)).imp fun _ _ _ z=>z, rfl⟩⟩ (PZ.tr (fd.tr D) m3 P')
theorem GD {ti : TE} {r : Enc α} [MonoE r] {mi : Res Int} {f : List α -> List α -> Res β} {v v2 : V} {as zs : List α} {C C2 : List Xx} (i k i2 k2 : Nat) (hne : k2 ≠ k) (hσ : σ[i]? = some (some v)) (hk : OO[k]? = some C) (h : ∀ x, S.p x -> oL (oF r) K x v as C)
    (hσ2 : σ[i2]? = some (some v2)) (hk2 : OO[k2]? = some C2) (h2 : ∀ x, S.p x -> oL (oF r) K x v2 zs C2) (hi : EvB K Er S OO σ ti Xb mi)
    (hr : ∀ a bs C' C2', Sv Er ((S.addO K (oL (oF r)) v bs C').addO K (oL (oF r)) v2 (zs ++ [a]) C2') ((OO.set k C').set k2 C2') σ u Fd (f bs (zs ++ [a]))) :
    Sv Er S OO σ (Z5 (Uy (tBM K "list" VG (Vc i2) (Xw (tBM K "list" Go (Vc i) (Xw ti Zn)) Zn))) u) Fd (mi.bind fun j=>(GW as j).bind fun p=>chk (zs.length < sizeLine) (f p.2 (zs ++ [p.1]))):=fun H D w s P=>by
  obtain ⟨p2, xs2, Cs2, e2, q2, c2⟩:=h2 _ s
  subst c2
  have hH2 : H p2 = some (.lst xs2):=w.tr (p2, .lst xs2) (List.mem_flatten.mpr ⟨_, List.mem_of_getElem? hk2, List.mem_cons_self⟩)
  refine ⟨v2, hσ2, by rw [e2]; exact .inl ⟨rfl, _, SqL.of hH2⟩, FQ (te:=ti) i k hσ hk h hi w s P fun a bs y C' H' w' s' P'=>?_⟩
  obtain ⟨hsz, P'⟩:=PZ.chk P'
  subst e2
  obtain ⟨Cs3, q3, c3⟩:=Vk (h2 _ s'.1.1)
  obtain ⟨pr, hfl⟩:=P3.flat q3
  have hkk : (OO.set k C')[k2]? = some ((p2, HO.lst xs2) :: ([] : List (List Xx)).flatten):=by
    rw [List.getElem?_set_ne (fun e=>hne e.symm), hk2, c3, hfl]; rfl
  have hH3 : H' p2 = some (.lst xs2):=w'.tr (p2, .lst xs2) (List.mem_flatten.mpr ⟨_, List.mem_of_getElem? hkk, List.mem_cons_self⟩)
  obtain ⟨w3, m3⟩:=CS (D:=[]) (Cs:=[]) (xs':=xs2 ++ [y]) (Cs':=List.replicate (zs ++ [a]).length []) w'.nil hkk (fun c hc=>by rw [X9] at hc; cases hc) (by rw [X9]; exact List.nodup_nil)
  rw [Yi] at m3
  refine ⟨p2, xs2, y, rfl, rfl, hH3, by rw [Paired.len pr]; exact hsz, ?_⟩
  refine hr a bs C' _ _ D w3 ⟨⟨S.mono _ _ m3 s'.1.1, (SC.oneO K (oL (oF r)) v bs C').mono _ _ m3 s'.2⟩, ⟨p2, _, _, rfl, (P3.of (Paired.app (Paired.imp2 (fun _ _ z=>MonoE.mono m3 z) pr) (.cons (MonoE.mono m3 (show r K _ y a from s'.1.2)) .nil))).imp fun _ _ _ z=>z, rfl⟩⟩ (PZ.tr (fd.tr D) m3 P')
theorem Ks {ta tb : TE} {r : Enc α} {q : Enc γ} [z : MonoE r] [MonoE q] {ma : Res α} {mb : Res γ} {f : α -> γ -> Res β} (i j : Nat) (ha : EvS K Er S OO σ ta r ma) (hb : EvS K Er S OO σ tb q mb)
    (hr : ∀ a b v w, Sv Er ((S.add K r v a).add K q w b) OO ((σ.set i (some v)).set j (some w)) u Fd (f a b)) : Sv Er S OO σ (Z5 (B0 i j (Xw ta (Xw tb Zn))) u) Fd (ma.bind fun a=>mb.bind fun b=>f a b):=fun H D w s P=>
  ha.st w s P fun a x H1 s1 w1 q1 r1 P1=>hb.st w1 q1 P1 fun b y H2 s2 w2 q2 r2 P2=>⟨x, y, rfl, hr a b x y H2 D w2 ⟨⟨q2, z.mono (Xj s2) r1⟩, r2⟩ P2⟩
theorem Bu {te : TE} {r : Enc α} {q : Enc γ} [MonoE r] [MonoE q] {m : Res (α × γ)} {f : α × γ -> Res β} (i j : Nat) (he : EvS K Er S OO σ te (rP2 r q) m)
    (hr : ∀ a v w, Sv Er ((S.add K r v a.1).add K q w a.2) OO ((σ.set i (some v)).set j (some w)) u Fd (f a)) : Sv Er S OO σ (Z5 (Fw te (B8 K 2 (Dc (Z6 i) (Dc (Z6 j) Ec)))) u) Fd (m.bind f):=fun H D w s P=>
  he.st w s P fun a v H1 s1 w1 q1 ⟨p, x, y, e, h, h1, h2⟩ P1=>⟨p, _, e, SqT.of (XG _ _ h), rfl, x, [y], rfl, y, [], rfl, rfl, hr a x y H1 D w1 ⟨⟨q1, h1⟩, h2⟩ P1⟩
theorem Dy {ta tb : TE} {ma mb : Res Int} (ha : EvB K Er S OO σ ta Xb ma) (hb : EvB K Er S OO σ tb Xb mb) : EvB K Er S OO σ (tCB (fun xs H Q=>∃ i j : Int, xs = [.int i, .int j] /\ Q (.int (if j > i then j else i)) H) (Xw ta (Xw tb Zn))) Xb (ma.bind fun a=>mb.bind fun b=>.ok (max a b)):=fun H Q w s P=>
  ha.run w s FB.tr P fun a x H1 s1 w1 q1 r1 P1=>hb.run w1 q1 FB.tr P1 fun b y H2 s2 w2 q2 r2 P2=>⟨a, b, by rw [show x = .int a from r1, show y = .int b from r2], P2 _ H2 (Xo.refl _) (by show V.int _ = V.int _; congr 1; omega)⟩
class TyE {α : Type} (r : Enc α) (n : outParam String) : Prop where
  ty : ∀ {K : PySem.W.Frag} {H : Hp} {v : V} {a : α}, r K H v a -> TyOf K H v (.type n)
instance : TyE Xb "int":=⟨fun {K H v a} h=>by cases (show v = .int a from h); exact .int a⟩
instance : TyE Yc "bool":=⟨fun {K H v a} h=>by cases (show v = .bl a from h); exact .bl a⟩
instance {r : Enc α} : TyE (rV r) "list":=⟨fun ⟨p, xs, e, q, _⟩=>by subst e; exact .lst q⟩
instance {r : Enc α} : TyE (rPL r) "tuple":=⟨fun h9=>(by obtain ⟨p, xs, e, q, _⟩:=h9; subst e; exact .tup q)⟩
instance {r : Enc α} {q : Enc γ} : TyE (rP2 r q) "tuple":=⟨fun h9=>(by obtain ⟨p, x, y, e, q, _⟩:=h9; subst e; exact .tup q)⟩
instance {r : Enc α} {q : Enc γ} {t : Enc δ} : TyE (rP3 r q t) "tuple":=⟨fun h9=>(by obtain ⟨p, x, y, z, e, q, _⟩:=h9; subst e; exact .tup q)⟩
theorem QV {te : TE} {r : Enc α} {n : String} [z : TyE r n] {m : Res α} (t : String) (b : Bool) (hk : PySem.W.kitOne K (.type n) (.type t) = some b) (he : EvB K Er S OO σ te r m) :
    EvB K Er S OO σ (tCB (fun xs H Q=>∃ x n t b, xs = [x, .ty n] /\ TyOf K H x t /\ PySem.W.kitOne K t (.type n) = some b /\ Q (.bl b) H) (Xw te (Xw (tC (.ty t)) Zn))) Yc (m.bind fun _=>.ok b):=fun H Q w s P=>
  he.run w s FB.tr P fun a x H1 s1 w1 q1 r1 P1=>⟨x, t, .type n, b, rfl, z.ty r1, hk, P1 _ H1 (Xo.refl _) rfl⟩
theorem Kv {ta : TE} {ma : Res Int} (ha : EvB K Er S OO σ ta Xb ma) : EvB K Er S OO σ (tCB (fun xs H Q=>∃ i : Int, xs = [.int i] /\ Q (.int (if i < 0 then -i else i)) H) (Xw ta Zn)) Xb (ma.bind fun a=>.ok (a.natAbs : Int)):=fun H Q w s P=>
  ha.run w s FB.tr P fun a x H1 s1 w1 q1 r1 P1=>⟨a, by rw [show x = .int a from r1], P1 _ H1 (Xo.refl _) (by show V.int _ = V.int _; congr 1; omega)⟩
end
end L2
namespace L2
open PySem PySem.Spec PyProof.Rows
section
variable {K : PySem.W.Frag} {Er : Exc -> Hp -> Prop} {S : SC} {OO OO' OO1 OO2 : List (List Xx)} {σ : St} {α β γ ρ ι δ ε : Type}
variable {Fd : Ends -> β -> Hp -> Prop} [fd : FdOk Fd] {u : TS}
theorem Bt (n : Nat) (H : Hp) : W (List.replicate n []) H:=⟨fun c hc=>(by rw [X9] at hc; cases hc), (by unfold fl; rw [X9]; exact List.nodup_nil), fun c hc=>(by rw [X9] at hc; cases hc)⟩
theorem Gy (n : Nat) (H : Hp) : hid H (List.replicate n []) = H:=by funext b; unfold hid fl; rw [X9]; simp
theorem Bo {o : OE ρ} [z : MonoO o] {Q : VK} {b : ρ} {H : Hp} (q : FF K o Q b H) : ∀ v C OO' H', W (C :: OO') H' -> Xo H (hid H' (C :: OO')) -> o K (hid H' (C :: OO')) v b C -> Q v H':=fun v C OO' H' w m ho=>by
  have hs : Xo (hid H' (C :: OO')) (hid H' [C]):=Za (Xo.refl _) fun b hb=>by
    rw [Yy]
    refine List.mem_append_left _ ?_
    simpa [fl] using hb
  exact q v C H' (w.sub (by simp)) (m.trans hs) (z.mono hs ho)
theorem YQ {o : OE ρ} [MonoO o] {t : TS} {m : Res ρ} {Q : VK} {b : ρ} {H : Hp} {D : Ends} (n : Nat) (h : Sv (fun _ _=>False) S (List.replicate n []) σ t (FTd K o) m) (hs : S.p H) (hm : m = .ok b) (q : FF K o Q b H) (hD : D.rt = Q) : t D σ H:=by
  refine h H D (Bt n H) (by rw [Gy]; exact hs) ?_
  subst hm
  rw [Gy]
  intro v C OO' H' w mm ho
  rw [hD]
  exact Bo q v C OO' H' w mm ho
noncomputable def oU : OE Unit:=fun _ _ v _ C=>v = .non /\ C = []
instance : MonoO oU:=⟨fun _ h=>h⟩
instance : FlatO oU:=⟨fun _ h=>h⟩
noncomputable def rU0 : Enc Unit:=fun _ _ v _=>v = .non
instance : FlatE rU0:=⟨fun _ h=>h⟩
instance : FrzC oU rU0:=⟨fun h _ _=>h.1⟩
theorem CM {J : Jn Unit ι} {t : TS} {m : Res Unit} {Q : VK} {b : Unit} {H : Hp} {D : Ends} (n : Nat) (h : Sv (fun _ _=>False) S (List.replicate n []) σ t (FNd J) m) (hs : S.p H) (hm : m = .ok b) (q : FF K oU Q b H) (hD : ∀ σ H, D.nx σ H = Q .non H) : t D σ H:=by
  refine h H D (Bt n H) (by rw [Gy]; exact hs) ?_
  subst hm
  rw [Gy]
  intro x H' w mm ho
  rw [hD]
  have hs : Xo (hid H' (J.oo x)) (hid H' [[]]):=Za (Xo.refl _) fun b hb=>by simp [fl] at hb
  exact q .non [] H' ⟨fun c hc=>by simp at hc, by simp [fl], fun c hc=>by simp at hc⟩ (mm.trans hs) ⟨rfl, rfl⟩
theorem FY {t : TS} {m : Res β} (k : Nat) (hr : Sv Er S (OO.set k []) σ t Fd m) : Sv Er S OO σ t Fd m:=fun H D w s P=>by
  cases hk : OO[k]? with
  | none=>
    rw [List.set_eq_of_length_le (List.getElem?_eq_none_iff.mp hk)] at hr
    exact hr H D w s P
  | some C=>
    have hp:=XQ hk
    have w1 : W (C :: OO.set k []) H:=w.of hp
    have hs : Xo (hid H OO) (hid H (OO.set k [])):=by
      rw [← XJ hp]
      exact Za (Xo.refl _) fun b hb=>by rw [Yy]; simp [hb]
    exact hr H D w1.tail (S.mono _ _ hs s) (PZ.tr (fd.tr D) hs P)
theorem K8 {te : TE} {r : Enc α} {m : Res α} {f : Res β} (he : EvB K Er S OO σ te r m) (hr : Sv Er S OO σ u Fd f) : Sv Er S OO σ (Z5 (Uy te) u) Fd (m.bind fun _=>f):=fun H D w s P=>
  he.st w s P fun a v H' s1 w' s' ho P'=>hr H' D w' s' P'
noncomputable def FAO {α : Type} (K : PySem.W.Frag) (OO OO' : List (List Xx)) (o : OE α) (Q : List V -> Hp -> Prop) (as : List α) (H : Hp) : Prop:=∀ vs Cs H', Xo H H' -> W (Cs.flatten :: OO') H' -> Xo (hid H OO) (hid H' (Cs.flatten :: OO')) -> P3 (o K (hid H' (Cs.flatten :: OO'))) vs as Cs -> Q vs H'
noncomputable def By {α : Type} (K : PySem.W.Frag) (Er : Exc -> Hp -> Prop) (S : SC) (OO OO' : List (List Xx)) (σ : St) (t : TA) (o : OE α) (m : Res (List α)) : Prop:=∀ H Q, W OO H -> S.p (hid H OO) -> PZ Er (FAO K OO OO' o Q) H m -> t σ H Q
theorem Ue {o : OE α} : By K Er S OO OO σ Zn o (.ok []):=fun H Q w s P=>P [] [] H (Xo.refl _) w.nil (by show Xo _ (hid H ([] :: OO)); rw [Yi]; exact Xo.refl _) .nil
theorem Zg {te : TE} {t : TA} {o : OE α} [z : MonoO o] {m : Res α} {n : Res (List α)} (he : Ev K Er S OO OO1 σ te o m) (ht : ∀ C, By K Er S (C :: OO1) (C :: OO2) σ t o n) : By K Er S OO OO2 σ (Xw te t) o (m.bind fun a=>n.bind fun as=>.ok (a :: as)):=fun H Q w s P=>by
  refine he H _ w s ?_
  cases em : m with
  | bad=>rw [em] at P; exact P
  | err x=>rw [em] at P; exact P
  | ok a=>
    rw [em] at P
    intro v C H1 s1 w1 m1 ho
    refine ht C H1 _ w1 (S.mono _ _ m1 s) ?_
    have P1 : PZ Er (FAO K OO OO2 o Q) H (n.bind fun as=>.ok (a :: as)):=P
    cases en : n with
    | bad=>rw [en] at P1; exact P1
    | err x=>rw [en] at P1; exact fun H2 s2=>P1 H2 (s1.trans s2)
    | ok as=>
      rw [en] at P1
      have P1 : FAO K OO OO2 o Q (a :: as) H:=P1
      intro vs Cs H2 s2 w2 m2 pr
      have pe : ((C :: Cs).flatten :: OO2).flatten.Perm (Cs.flatten :: C :: OO2).flatten:=by
        simp only [List.flatten_cons]
        rw [← List.append_assoc]
        exact List.perm_append_comm.append_right _
      refine P1 (v :: vs) (C :: Cs) H2 (s1.trans s2) (w2.of pe) ?_ ?_
      . rw [XJ pe]; exact m1.trans m2
      . rw [XJ pe]; exact .cons (z.mono m2 ho) pr
theorem K2 {t : TA} {o : OE α} [z : MonoO o] {m : Res (List α)} (h : By K Er S OO OO σ t o m) : Ev K Er S OO OO σ (GO t) (oL o) (m.bind fun as=>chk (as.length <= sizeLine) (.ok as)):=fun H Q w s P=>by
  refine h H _ w s ?_
  cases e : m with
  | bad=>rw [e] at P; exact P
  | err x=>rw [e] at P; exact P
  | ok as=>
    rw [e] at P
    obtain ⟨hsz, P⟩:=PZ.chk (show PZ Er _ H (chk (as.length <= sizeLine) (.ok as)) from P)
    intro vs Cs H1 s1 w1 m1 p
    exact ⟨by rw [p.len.1]; exact hsz, F9 w1 m1 s1 p P⟩
class InE {α : Type} [DecidableEq α] (r : Enc α) : Prop where
  fl : ∀ {K : PySem.W.Frag} {H : Hp} {x : V} {a : α}, r K H x a -> QN x = true
  eq : ∀ {K : PySem.W.Frag} {H H' : Hp} {x y : V} {a b : α}, r K H x a -> r K H' y b -> eqV x y = decide (a = b)
instance : InE Xb:=⟨fun {K H x a} h=>by cases (show x = .int a from h); rfl, fun {K H H' x y a b} h h'=>by
  cases (show x = .int a from h); cases (show y = .int b from h'); show (a == b) = _; rw [Gz]⟩
theorem QD [DecidableEq α] {r : Enc α} [z : InE r] {H H' : Hp} {x : V} {a : α} (hx : r K H x a) : ∀ {xs : List V} {as : List α}, Paired (r K H') xs as -> xs.all QN = true /\ inV x xs = decide (a ∈ as)
  | _, _, .nil=>⟨rfl, by simp [inV]⟩
  | _, _, .cons h t=>by
    obtain ⟨h1, h2⟩:=QD hx t
    refine ⟨by rw [List.all_cons, h1, z.fl h]; rfl, ?_⟩
    unfold inV at h2 ⊢
    rw [List.any_cons, h2, z.eq h hx, Bool.eq_iff_iff, Bool.or_eq_true, decide_eq_true_eq, decide_eq_true_eq, decide_eq_true_eq, List.mem_cons]
    exact or_congr ⟨Eq.symm, Eq.symm⟩ Iff.rfl
theorem Dw [DecidableEq α] {ta tb : TE} {r : Enc α} [z : InE r] {ma : Res α} {mb : Res (List α)} (ha : EvB K Er S OO σ ta r ma) (hb : EvB K Er S OO σ tb (rV r) mb) : EvB K Er S OO σ (tOp (rIn K true) ta tb) Yc (ma.bind fun a=>mb.bind fun as=>.ok (!decide (a ∈ as))):=fun H Q w s P=>
  ha.run w s FB.tr P fun a x H1 s1 w1 q1 r1 P1=>hb.run w1 q1 FB.tr P1 fun b y H2 s2 w2 q2 ⟨p, xs, e, q, pr⟩ P2=>by
    obtain ⟨h1, h2⟩:=QD r1 pr
    exact ⟨p, xs, e, .inl (SqL.of q), z.fl r1, h1, P2 _ H2 (Xo.refl _) (by rw [h2]; rfl)⟩
theorem GM [DecidableEq α] {ta tb : TE} {r : Enc α} [z : InE r] {ma : Res α} {mb : Res (List α)} (ha : EvB K Er S OO σ ta r ma) (hb : EvB K Er S OO σ tb (rPL r) mb) : EvB K Er S OO σ (tOp (rIn K true) ta tb) Yc (ma.bind fun a=>mb.bind fun as=>.ok (!decide (a ∈ as))):=fun H Q w s P=>
  ha.run w s FB.tr P fun a x H1 s1 w1 q1 r1 P1=>hb.run w1 q1 FB.tr P1 fun b y H2 s2 w2 q2 ⟨p, xs, e, q, pr⟩ P2=>by
    obtain ⟨h1, h2⟩:=QD r1 pr
    exact ⟨p, xs, e, .inr (SqT.of q), z.fl r1, h1, P2 _ H2 (Xo.refl _) (by rw [h2]; rfl)⟩
theorem DI {ta tb : TE} {r : Enc α} {m : Res (Option α)} (ha : EvB K Er S OO σ ta (QO r) m) : EvB K Er S OO σ (tOp (fun x y H Q=>y = .non /\ Q (.bl (decide (x = .non))) H) ta (tC .non)) Yc (m.bind fun a=>.ok a.isNone):=fun H Q w s P=>
  ha.run w s FB.tr P fun a x H1 s1 w1 q1 r1 P1=>⟨rfl, P1 _ H1 (Xo.refl _) (by
    cases a with
    | none=>rw [show x = .non from r1]; rfl
    | some a=>show V.bl _ = V.bl _; rw [decide_eq_false r1.1]; rfl)⟩
theorem GU {ta tb : TE} {r : Enc α} {m : Res (Option α)} (ha : EvB K Er S OO σ ta (QO r) m) : EvB K Er S OO σ (tOp (fun x y H Q=>y = .non /\ Q (.bl (!decide (x = .non))) H) ta (tC .non)) Yc (m.bind fun a=>.ok a.isSome):=fun H Q w s P=>
  ha.run w s FB.tr P fun a x H1 s1 w1 q1 r1 P1=>⟨rfl, P1 _ H1 (Xo.refl _) (by
    cases a with
    | none=>rw [show x = .non from r1]; rfl
    | some a=>show V.bl _ = V.bl _; rw [decide_eq_false r1.1]; rfl)⟩
theorem Dr {α : Type} [DecidableEq α] {r r' : Enc α} {d : Nat} (E : EqOk r d) (h : ∀ {K : PySem.W.Frag} {H : Hp} {v : V} {a : α}, r' K H v a -> r K H v a) (m : MonoE r') : EqOk r' d where
  uniq:=fun I h1 h2=>E.uniq I (h h1) (h h2)
  eq:=fun I rx ry h1 h2 hu=>E.eq I rx ry (h h1) (h h2) hu
  rc:=fun I rx ry h1 h2 hu=>E.rc I rx ry (h h1) (h h2) hu
  ne:=fun I rx ry h1 h2 hu=>E.ne I rx ry (h h1) (h h2) hu
  keep:=fun s q=>m.mono s q
theorem Fy {α : Type} [DecidableEq α] {r : Enc α} {d : Nat} [m : MonoE r] (E : EqOk r d) : EqOk (rV r) (d + 1):=Dr (FW E) (fun ⟨a, xs, e, q, p⟩=>⟨a, xs, e, SqL.of q, p⟩) inferInstance
end
end L2
namespace L2
open PySem PySem.Spec PyProof.Rows
section
variable {K : PySem.W.Frag} {Er : Exc -> Hp -> Prop} {S : SC} {OO OO' OO1 OO2 : List (List Xx)} {σ : St} {α β γ ρ ι δ ε : Type}
variable {Fd : Ends -> β -> Hp -> Prop} [fd : FdOk Fd] {u : TS}
theorem F0 {te : TE} {o : OE α} {m : Res α} (hn : ∀ {K h v a C}, o K h v a C -> v ≠ .non) (he : Ev K Er S OO OO' σ te o m) : Ev K Er S OO OO' σ te (Ve o) (m.bind fun a=>.ok (some a)):=fun H Q w s P=>by
  refine he H Q w s ?_
  cases m with
  | bad=>exact P
  | err x=>exact P
  | ok a=>exact fun v C H' s' w' m' ho=>P v C H' s' w' m' ⟨hn ho, ho⟩
theorem Jb {ta tb : TE} {o : OE α} {q : OE β} [z : MonoO o] [y : MonoO q] {ma : Res α} {mb : Res β} (ha : Ev K Er S OO OO1 σ ta o ma) (hb : ∀ C, Ev K Er S (C :: OO1) (C :: OO2) σ tb q mb) : Ev K Er S OO OO2 σ (Cm (Xw ta (Xw tb Zn))) (oT2 o q) (ma.bind fun a=>mb.bind fun b=>.ok (a, b)):=fun H Q w s P=>by
  refine ha H _ w s ?_
  cases em : ma with
  | bad=>rw [em] at P; exact P
  | err x=>rw [em] at P; exact P
  | ok a=>
    rw [em] at P
    intro v C H1 s1 w1 m1 ho
    refine hb C H1 _ w1 (S.mono _ _ m1 s) ?_
    have P1 : PZ Er (FO K OO OO2 (oT2 o q) Q) H (mb.bind fun b=>.ok (a, b)):=P
    cases en : mb with
    | bad=>rw [en] at P1; exact P1
    | err x=>rw [en] at P1; exact fun H2 s2=>P1 H2 (s1.trans s2)
    | ok b=>
      rw [en] at P1
      have P1 : FO K OO OO2 (oT2 o q) Q (a, b) H:=P1
      intro v2 C2 H2 s2 w2 m2 ho2
      refine ⟨by show 2 <= sizeLine; decide, fun p hp=>?_⟩
      have pe : ((C ++ C2) :: OO2).flatten.Perm (C2 :: C :: OO2).flatten:=by
        simp only [List.flatten_cons]
        rw [← List.append_assoc]
        exact List.perm_append_comm.append_right _
      have s3 : Xo H2 (upd H2 p (.tup [v, v2])):=XH hp _
      have w3:=(w2.keep s3).of pe
      have m3 : Xo (hid H2 (C2 :: C :: OO2)) (hid (upd H2 p (.tup [v, v2])) ((C ++ C2) :: OO2)):=by rw [XJ pe]; exact Xj s3
      refine P1 (.ref p) (C ++ C2) _ (s1.trans (s2.trans s3)) w3 (m1.trans (m2.trans m3)) ⟨p, v, v2, C, C2, rfl, ?_, z.mono (m2.trans m3) ho, y.mono m3 ho2, rfl⟩
      rw [XJ pe]
      exact ZH w2 hp
theorem Cu {c : TT} {t1 : TS} {mc : Res Bool} {m2 : Res β} (hc : EvT Er S OO σ c mc) (h2 : Sv Er S OO σ u Fd m2) : Sv Er S OO σ (Z5 (Bd c t1 KQ) u) Fd (mc.bind fun b=>if b = true then .bad else m2):=fun H D w s P=>
  hc.st w s P fun b H' w' s' P'=>by
    cases b with
    | true=>rw [if_pos rfl] at P'; exact P'.elim
    | false=>exact h2 H' D w' s' P'
theorem JW : ∀ {l : List Xx} {a b : Xx}, (l.map (·.1)).Nodup -> a ∈ l -> b ∈ l -> a.1 = b.1 -> a = b
  | [], _, _, _, h, _, _=>by cases h
  | c :: l, a, b, n, ha, hb, e=>by
    rw [List.map_cons, List.nodup_cons] at n
    cases ha with
    | head=>cases hb with
      | head=>rfl
      | tail _ hb=>exact absurd (List.mem_map.mpr ⟨b, hb, e.symm⟩) n.1
    | tail _ ha=>cases hb with
      | head=>exact absurd (List.mem_map.mpr ⟨a, ha, e⟩) n.1
      | tail _ hb=>exact JW n.2 ha hb e
theorem VO {Cs : List (List Xx)} {k : Nat} {C : List Xx} (h : Cs[k]? = some C) : ∀ c ∈ C, c ∈ Cs.flatten:=fun c hc=>List.mem_flatten.mpr ⟨C, List.mem_of_getElem? h, hc⟩
theorem CU {as : List α} {i : Int} {a : α} (h : atR as i = .ok a) : ∃ k, ixN as.length i = some k /\ as[k]? = some a:=by
  have:=VP h
  unfold atI at this
  cases e : ixN as.length i with
  | none=>rw [e] at this; cases this
  | some k=>rw [e] at this; exact ⟨k, rfl, this⟩
theorem Dv {r : Enc α} [z : MonoE r] {v : V} {as : List (List α)} {row row' : List α} {H : Hp} {p q : Addr} {xs ys ys' : List V} {Cs : List (List Xx)} {k kk : Nat} (w : W OO H) (hk : OO[k]? = some ((p, .lst xs) :: Cs.flatten)) (hP : P3 (oL (oF r) K (hid H OO)) xs as Cs) (hrow : as[kk]? = some row)
    (hx : xs[kk]? = some (.ref q)) (hq : H q = some (.lst ys)) (hcs : Cs[kk]? = some [(q, .lst ys)]) (pr : Paired (r K (hid H OO)) ys' row') :
    ∃ C', W (OO.set k C') (upd H q (.lst ys')) /\ Xo (hid H OO) (hid (upd H q (.lst ys')) (OO.set k C')) /\ oL (oL (oF r)) K (hid (upd H q (.lst ys')) (OO.set k C')) (.ref p) (as.set kk row') C':=by
  have hkl : kk < Cs.length:=by
    rcases Nat.lt_or_ge kk Cs.length with h | h
    . exact h
    . rw [List.getElem?_eq_none h] at hcs; cases hcs
  have hin : ∀ c ∈ (p, HO.lst xs) :: Cs.flatten, c ∈ OO.flatten:=fun c hc=>List.mem_flatten.mpr ⟨_, List.mem_of_getElem? hk, hc⟩
  have w0 : W ([] :: OO) H:=w.nil
  have cn0:=Y1 w0 hk
  rw [List.append_nil] at cn0
  have e0 : Cs[kk] = [(q, .lst ys)]:=by
    rw [List.getElem?_eq_getElem hkl] at hcs; exact Option.some.inj hcs
  have hp:=GS (Cs:=Cs) (j:=kk) (D:=[(q, HO.lst ys')]) hkl
  rw [e0] at hp
  have hpm : ((Cs.set kk [(q, HO.lst ys')]).flatten.map (·.1)).Perm (Cs.flatten.map (·.1)):=by
    have:=hp.map (·.1)
    simp only [List.map_append, List.map_cons, List.map_nil] at this
    exact (List.perm_append_right_iff _).mp this
  have hpne : p ∉ Cs.flatten.map (·.1):=by
    have h1:=XQ hk
    have:=(w.of (OO':=((p, HO.lst xs) :: Cs.flatten) :: OO.set k []) h1).nd
    rw [Yy, List.map_cons, List.cons_append, List.nodup_cons] at this
    exact fun z=>this.1 (List.mem_append_left _ z)
  have hqC : q ∈ Cs.flatten.map (·.1):=List.mem_map.mpr ⟨(q, .lst ys), VO hcs _ (by simp), rfl⟩
  have hpq : p ≠ q:=fun e=>hpne (e ▸ hqC)
  have hcells : ∀ c ∈ (p, HO.lst xs) :: (Cs.set kk [(q, HO.lst ys')]).flatten, upd H q (.lst ys') c.1 = some c.2 /\ Cl c.2 = true:=fun c hc=>by
    rcases List.mem_cons.mp hc with rfl | hc
    . rw [XM hpq]; exact ⟨w.tr _ (hin _ List.mem_cons_self), rfl⟩
    . obtain ⟨D, hD, hcD⟩ := List.mem_flatten.mp hc
      rcases List.mem_or_eq_of_mem_set hD with hD | hD
      . by_cases hcq : c.1 = q
        . -- a cell at q in another place: then it is this one
          have hc2 : c ∈ (Cs.set kk [(q, HO.lst ys')]).flatten:=hc
          have n1 : ((Cs.set kk [(q, HO.lst ys')]).flatten.map (·.1)).Nodup:=hpm.nodup_iff.mpr cn0
          have hm : (q, HO.lst ys') ∈ (Cs.set kk [(q, HO.lst ys')]).flatten:=List.mem_flatten.mpr ⟨[(q, .lst ys')], List.mem_set (by simpa using hkl) _, by simp⟩
          have e1 : c = (q, HO.lst ys'):=by
            have:=JW n1 hc2 hm hcq
            exact this
          rw [e1]; exact ⟨Yn, rfl⟩
        . rw [XM hcq]
          have : c ∈ OO.flatten:=hin c (List.mem_cons_of_mem _ (List.mem_flatten.mpr ⟨D, hD, hcD⟩))
          exact ⟨w.tr c this, w.mu c this⟩
      . rw [hD] at hcD
        have e1 : c = (q, HO.lst ys'):=by simpa using hcD
        rw [e1]; exact ⟨Yn, rfl⟩
  have hq' : q ∈ (Cs.set kk [(q, HO.lst ys')]).flatten.map (·.1):=hpm.mem_iff.mpr hqC
  obtain ⟨w2, m2⟩:=Cz (C':=(p, .lst xs) :: (Cs.set kk [(q, HO.lst ys')]).flatten) (p:=q) (o:=.lst ys') w0 hk (List.mem_cons_of_mem _ hqC) (List.mem_cons_of_mem _ hq') (by
      rw [List.map_cons, List.nodup_cons]
      exact ⟨fun z=>hpne (hpm.mem_iff.mp z), hpm.nodup_iff.mpr cn0⟩) (fun b hb=>by
      rw [List.append_nil]
      rcases List.mem_cons.mp hb with rfl | hb
      . exact List.mem_cons_self
      . exact List.mem_cons_of_mem _ (hpm.mem_iff.mp hb)) (fun c hc=>(hcells c hc).1) fun c hc=>(hcells c hc).2
  rw [Yi] at m2
  have e3 : xs.set kk (.ref q) = xs:=by
    apply List.ext_getElem?
    intro n
    by_cases hn : n = kk
    . subst hn
      rw [hx, List.getElem?_set_self (by
        rcases Nat.lt_or_ge n xs.length with h | h
        . exact h
        . rw [List.getElem?_eq_none h] at hx; cases hx)]
    . rw [List.getElem?_set_ne (fun e=>hn e.symm)]
  refine ⟨_, w2, m2, ⟨p, xs, Cs.set kk [(q, HO.lst ys')], rfl, ?_, rfl⟩⟩
  have:=P3.set (F:=oL (oF r) K (hid (upd H q (.lst ys')) (OO.set k ((p, .lst xs) :: (Cs.set kk [(q, HO.lst ys')]).flatten)))) (a:=V.ref q) (b:=row') (c:=[(q, HO.lst ys')])
    ⟨q, ys', List.replicate row'.length [], rfl, (P3.of (Paired.imp2 (fun _ _ h=>z.mono m2 h) pr)).imp fun _ _ _ h=>h, by rw [X9]⟩ kk (P3.imp (fun _ _ _ h=>MonoO.mono m2 h) hP)
  rw [e3] at this
  exact this
theorem F5 {r : Enc α} {h : Hp} {as : List (List α)} {xs : List V} {Cs : List (List Xx)} {kk : Nat} {row : List α} (q : P3 (oL (oF r) K h) xs as Cs) (hrow : as[kk]? = some row) : ∃ q0 ys, xs[kk]? = some (.ref q0) /\ Cs[kk]? = some [(q0, .lst ys)] /\ Paired (r K h) ys row:=by
  obtain ⟨x, c, h1, h2, p, ys, Ds, e, h3, h4⟩:=q.get hrow
  obtain ⟨h5, h6⟩:=P3.flat h3
  rw [h6] at h4
  exact ⟨p, ys, by rw [h1, e], by rw [h2, h4], h5⟩
theorem QP {F : V -> α -> Prop} {y : V} {a : α} (r : F y a) : ∀ {l : List V} {m : List α} (i : Nat), Paired F l m -> Paired F (l.set i y) (m.set i a)
  | _, _, _, .nil=>.nil
  | _, _, 0, .cons _ t=>.cons r t
  | _, _, i + 1, .cons q t=>.cons q (QP r i t)
theorem Kq {ta ti tj : TE} {r : Enc α} [z : MonoE r] {m : Res α} {mi mj : Res Int} {f : List (List α) -> Res β} {v : V} {as : List (List α)} {C : List Xx} (i k : Nat) (hσ : σ[i]? = some (some v)) (hk : OO[k]? = some C) (h : ∀ x, S.p x -> oL (oL (oF r)) K x v as C) (he : EvS K Er S OO σ ta r m)
    (hi : EvB K Er S OO σ ti Xb mi) (hj : EvB K Er S OO σ tj Xb mj)
    (hr : ∀ bs C', Sv Er (S.addO K (oL (oL (oF r))) v bs C') (OO.set k C') σ u Fd (f bs)) :
    Sv Er S OO σ (Z5 (Fw ta (B1 (tOp (CD K) (Vc i) ti) tj Cw)) u) Fd (m.bind fun a=>mi.bind fun x=>(atR as x).bind fun row=>mj.bind fun y=>(Vd row y a).bind fun row'=>(Vd as x row').bind f):=fun H D w s P=>
  he.st w s P fun a va H1 s1 w1 q1 r1 P1=>⟨v, hσ, hi.st w1 q1 P1 fun x vx H2 s2 w2 q2 r2 P2=>by
    cases ea : atR as x with
    | bad=>rw [ea] at P2; exact P2.elim
    | err ex=>exact absurd ea V4
    | ok row=>
      rw [ea] at P2
      obtain ⟨kk, hkk, hrow⟩:=CU ea
      obtain ⟨p, xs, Cs, e, q, c⟩:=h _ q2
      subst c e
      obtain ⟨q0, ys, g1, g2, g3⟩:=F5 q hrow
      have hin : ∀ c ∈ (p, HO.lst xs) :: Cs.flatten, c ∈ OO.flatten:=fun c hc=>List.mem_flatten.mpr ⟨_, List.mem_of_getElem? hk, hc⟩
      have hH : H2 p = some (.lst xs):=w2.tr (p, .lst xs) (hin _ List.mem_cons_self)
      have hq0 : H2 q0 = some (.lst ys):=w2.tr (q0, .lst ys) (hin _ (List.mem_cons_of_mem _ (VO g2 _ (by simp))))
      refine ⟨p, xs, x, .ref q0, rfl, r2, SqL.of hH, by unfold atI; rw [q.len.1, hkk]; exact g1, hj.st w2 q2 (f:=fun y=>(Vd row y a).bind fun row'=>(Vd as x row').bind f) P2 fun y vy H3 s3 w3 q3 r3 P3'=>?_⟩
      cases eb : Vd row y a with
      | bad=>rw [eb] at P3'; exact P3'.elim
      | err ex=>exact absurd eb F1
      | ok row'=>
        rw [eb] at P3'
        obtain ⟨jj, hjj, rfl⟩:=DG eb
        have P4 : PZ Er (Fd D) (hid H3 OO) (f (as.set kk (row.set jj a))):=by
          have e5 : Vd as x (row.set jj a) = .ok (as.set kk (row.set jj a)):=by unfold Vd; rw [hkk]
          have : PZ Er (Fd D) (hid H3 OO) ((Vd as x (row.set jj a)).bind f):=P3'
          rw [e5] at this
          exact this
        have m3:=Xj (OO:=OO) s3
        obtain ⟨C', w4, m4, o4⟩:=Dv (ys':=ys.set jj va) (row':=row.set jj a) (v:=.ref p) w3 hk (P3.imp (fun _ _ _ h=>MonoO.mono m3 h) q) hrow g1 (s3 _ _ hq0) g2 (QP (z.mono ((Xj s2).trans m3) r1) jj (Paired.imp2 (fun _ _ h=>z.mono m3 h) g3))
        exact ⟨q0, ys, y, jj, rfl, r3, s3 _ _ hq0, by rw [Paired.len g3]; exact hjj, hr _ C' _ D w4 ⟨S.mono _ _ m4 q3, o4⟩ (PZ.tr (fd.tr D) m4 P4)⟩⟩
theorem VS (K : PySem.W.Frag) (T : String) : PySem.W.kitOne K (.type T) (.type T) = some true:=by
  unfold PySem.W.kitOne
  rw [if_pos (beq_self_eq_true _)]
theorem JB (K : PySem.W.Frag) : PySem.W.kitOne K (.type "int") (.type "bool") = some false:=by
  first
    | rfl
    | decide +kernel
    | (unfold PySem.W.kitOne PySem.W.kitCls; rfl)
end
end L2
namespace L2
open PySem PySem.Spec PyProof.Rows
section
variable {K : PySem.W.Frag} {Er : Exc -> Hp -> Prop} {S : SC} {OO OO' OO1 OO2 : List (List Xx)} {σ : St} {α β γ ρ ι δ ε : Type}
variable {Fd : Ends -> β -> Hp -> Prop} [fd : FdOk Fd] {u : TS}
noncomputable def Cg : Option α -> Res α
  | some a=>.ok a
  | none=>.bad
theorem Fv {te : TE} {r : Enc α} {m : Res (Option α)} (he : EvB K Er S OO σ te (QO r) m) : EvB K Er S OO σ te r (m.bind Cg):=fun H Q w s P=>by
  refine he H Q w s ?_
  cases m with
  | bad=>exact P
  | err x=>exact P
  | ok a=>
    cases a with
    | none=>exact P.elim
    | some a=>exact fun v H' s' hr=>P v H' s' hr.2
theorem BL {r : Enc α} {q : Enc γ} {K : PySem.W.Frag} {h : Hp} {v : V} {a : α × γ} {C : List Xx} (q : oF (rP2 r q) K h v a C) : v ≠ .non:=by
  obtain ⟨_, p, x, y, e, _⟩:=q
  rw [e]; exact fun z=>nomatch z
theorem Em {o : OE α} {K : PySem.W.Frag} {h : Hp} {v : V} {a : List α} {C : List Xx} (q : oL o K h v a C) : v ≠ .non:=by
  obtain ⟨p, x, Cs, e, _⟩:=q
  rw [e]; exact fun z=>nomatch z
end
end L2
namespace L2
open PySem PySem.Spec PyProof.Rows
section
variable {K : PySem.W.Frag} {Er : Exc -> Hp -> Prop} {S : SC} {OO OO' OO1 OO2 : List (List Xx)} {σ : St} {α β γ ρ ι δ ε : Type}
variable {α1 α2 α3 α4 α5 : Type}
noncomputable def rP4 (r1 : Enc α1) (r2 : Enc α2) (r3 : Enc α3) (r4 : Enc α4) : Enc (α1 × α2 × α3 × α4):=fun K H v p=>∃ a x1 x2 x3 x4, v = .ref a /\ H a = some (.tup [x1, x2, x3, x4]) /\ r1 K H x1 p.1 /\ r2 K H x2 p.2.1 /\ r3 K H x3 p.2.2.1 /\ r4 K H x4 p.2.2.2
instance {r1 : Enc α1} {r2 : Enc α2} {r3 : Enc α3} {r4 : Enc α4} [m1 : MonoE r1] [m2 : MonoE r2] [m3 : MonoE r3] [m4 : MonoE r4] : MonoE (rP4 r1 r2 r3 r4):=⟨fun s h9=>(by obtain ⟨a, x1, x2, x3, x4, e, h, p1, p2, p3, p4⟩:=h9; exact ⟨a, x1, x2, x3, x4, e, s _ _ h, m1.mono s p1, m2.mono s p2, m3.mono s p3, m4.mono s p4⟩)⟩
instance {r1 : Enc α1} {r2 : Enc α2} {r3 : Enc α3} {r4 : Enc α4} [m1 : FlatE r1] [m2 : FlatE r2] [m3 : FlatE r3] [m4 : FlatE r4] : FlatE (rP4 r1 r2 r3 r4):=⟨fun s h9=>(by obtain ⟨a, x1, x2, x3, x4, e, h, p1, p2, p3, p4⟩:=h9; exact ⟨a, x1, x2, x3, x4, e, s _ _ h rfl, m1.flat s p1, m2.flat s p2, m3.flat s p3, m4.flat s p4⟩)⟩
instance {r1 : Enc α1} {r2 : Enc α2} {r3 : Enc α3} {r4 : Enc α4} : TyE (rP4 r1 r2 r3 r4) "tuple":=⟨fun h9=>(by obtain ⟨p, x1, x2, x3, x4, e, q, _⟩:=h9; subst e; exact .tup q)⟩
noncomputable def rP5 (r1 : Enc α1) (r2 : Enc α2) (r3 : Enc α3) (r4 : Enc α4) (r5 : Enc α5) : Enc (α1 × α2 × α3 × α4 × α5):=fun K H v p=>∃ a x1 x2 x3 x4 x5, v = .ref a /\ H a = some (.tup [x1, x2, x3, x4, x5]) /\ r1 K H x1 p.1 /\ r2 K H x2 p.2.1 /\ r3 K H x3 p.2.2.1 /\ r4 K H x4 p.2.2.2.1 /\ r5 K H x5 p.2.2.2.2
instance {r1 : Enc α1} {r2 : Enc α2} {r3 : Enc α3} {r4 : Enc α4} {r5 : Enc α5} [m1 : MonoE r1] [m2 : MonoE r2] [m3 : MonoE r3] [m4 : MonoE r4] [m5 : MonoE r5] : MonoE (rP5 r1 r2 r3 r4 r5):=⟨fun s h9=>(by obtain ⟨a, x1, x2, x3, x4, x5, e, h, p1, p2, p3, p4, p5⟩:=h9; exact ⟨a, x1, x2, x3, x4, x5, e, s _ _ h, m1.mono s p1, m2.mono s p2, m3.mono s p3, m4.mono s p4, m5.mono s p5⟩)⟩
instance {r1 : Enc α1} {r2 : Enc α2} {r3 : Enc α3} {r4 : Enc α4} {r5 : Enc α5} [m1 : FlatE r1] [m2 : FlatE r2] [m3 : FlatE r3] [m4 : FlatE r4] [m5 : FlatE r5] : FlatE (rP5 r1 r2 r3 r4 r5):=⟨fun s h9=>(by obtain ⟨a, x1, x2, x3, x4, x5, e, h, p1, p2, p3, p4, p5⟩:=h9; exact ⟨a, x1, x2, x3, x4, x5, e, s _ _ h rfl, m1.flat s p1, m2.flat s p2, m3.flat s p3, m4.flat s p4, m5.flat s p5⟩)⟩
instance {r1 : Enc α1} {r2 : Enc α2} {r3 : Enc α3} {r4 : Enc α4} {r5 : Enc α5} : TyE (rP5 r1 r2 r3 r4 r5) "tuple":=⟨fun h9=>(by obtain ⟨p, x1, x2, x3, x4, x5, e, q, _⟩:=h9; subst e; exact .tup q)⟩
variable {Fd : Ends -> β -> Hp -> Prop} [fd : FdOk Fd] {u : TS}
end
end L2
namespace L2
open PySem PySem.Spec PyProof.Rows
theorem YT.ex {P : Program} {w : World} {H : Hp} {h : Heap} {a : Addr} {o : HO} (x : YT P w H h a o) : ∃ u, h.get? a = some u:=by
  cases o with
  | lst xs=>obtain ⟨_, _, _, _, e⟩:=x; exact ⟨_, e⟩
  | tup xs=>obtain ⟨_, _, _, p⟩:=x; obtain ⟨o, e, _⟩:=p; exact ⟨_, e⟩
  | dK kvs=>obtain ⟨_, _, _, _, o, _, _, e, _⟩:=x; exact ⟨_, e⟩
  | dT kvs=>obtain ⟨_, _, _, _, o, _, _, e, _⟩:=x; exact ⟨_, e⟩
  | set S n=>obtain ⟨o, _, _, _, e, _⟩:=x; exact ⟨_, e⟩
  | ins C dx fs=>obtain ⟨_, _, _, e, _⟩:=x; exact ⟨_, e⟩
  | own y=>exact x
  | xd fs=>obtain ⟨_, ⟨_, _, _, e, _⟩, _⟩:=x; exact ⟨_, e⟩
  | rng lo hi=>obtain ⟨_, _, _, e⟩:=x; exact ⟨_, e⟩
  | frz ob u=>exact ⟨_, x.1⟩
  | tbl ps=>exact ⟨_, x⟩
  | met f y=>exact ⟨_, x⟩
  | ext φ=>exact x.2.1
theorem HOk.un0 {P : Program} {w : World} {H : Hp} {h : Heap} {a : Addr} (x : HOk P w H h) (e : h.get? a = none) : H a = none:=by
  cases q : H a with
  | none=>rfl
  | some u=>obtain ⟨v, hv⟩:=(x a u q).ex; rw [e] at hv; cases hv
structure Fl (h0 h : Heap) (H : Hp) (a T : Addr) (cls : Value) : Prop where
  na : h0.get? a = none
  nT : h0.get? T = none
  fa : H a = none
  fT : H T = none
  ne : T ≠ a
  obj : ∃ oe vs oT ts a0, h.get? a = some oe /\ oe.cls = cls /\ vs[0]? = some a0 /\ oe.data = .fields vs /\ vs[1]? = some (.ref T) /\ h.get? T = some oT /\ oT.data = .fields ts /\ ts[3]? = some Value.none
noncomputable def BK (h : Heap) (fs : List Addr) (a T : Addr) : Heap:=Gu h (fun b=>if b ∈ fs ∨ b = a ∨ b = T then some (.own 0) else none)
theorem VR {h : Heap} {fs : List Addr} {a T b : Addr} {o : Obj} (e : h.get? b = some o) (n1 : b ∉ fs) (n2 : b ≠ a) (n3 : b ≠ T) : (BK h fs a T).get? b = some o:=
  Ul e (if_neg fun z=>z.elim n1 fun z=>z.elim n2 n3)
section
variable {P : Program} {w : World} {h0 h h' base : Heap} {H : Hp} {a T : Addr} {cls a0 : Value} {l : List Env}
theorem Un.traced (hl : h.FunFrames base l) (keep : ∀ b o, b ∉ frs l -> b ≠ a -> b ≠ T -> h.get? b = some o -> h'.get? b = some o) (up : h.UpToSlots h') : Un (frs l) [a, T] H H h h' where
  keep:=fun b o e _ hb hx=>keep b o hb (fun z=>hx (by simp [z])) (fun z=>hx (by simp [z])) e
  slot:=fun b o e _ hb _=>by
    obtain ⟨_, o2, ho2, hd2⟩:=hl.mem hb
    rw [e] at ho2; cases ho2
    exact up b o e hd2
  free:=fun b o e n _=>n
  there:=fun b o e hx=>by
    by_cases hb : b ∈ frs l
    . obtain ⟨_, o2, ho2, hd2⟩ := hl.mem hb
      obtain ⟨sl, q⟩:=up b o2 ho2 hd2
      exact ⟨_, q⟩
    . exact ⟨o, keep b o hb (fun z=>hx (by simp [z])) (fun z=>hx (by simp [z])) e⟩
  tups:=fun _ _ q=>q
  frzs:=fun _ _ _ q=>q
  tbls:=fun _ ps q=>⟨#[], by simpa using q⟩
theorem HOk.traced (hok : HOk P w H h) (hfn : ∀ b ∈ frs l, H b = none) (fa : H a = none) (fT : H T = none) (keep : ∀ b o, b ∉ frs l -> b ≠ a -> b ≠ T -> h.get? b = some o -> h'.get? b = some o) : HOk P w H h':=fun b o e=>by
  refine (hok b o e).stay (fun c u hc q=>?_) (fun _ q=>q) fun _ _ q=>q
  have hn : H c ≠ none:=by
    rcases hc with z | z
    . rw [z, e]; exact fun y=>nomatch y
    . rw [z]; exact fun y=>nomatch y
  exact keep c u (fun z=>hn (hfn c z)) (fun z=>hn (z ▸ fa)) (fun z=>hn (z ▸ fT)) q
theorem Fl.after (x : Fl h0 h H a T cls) (hl : h.FunFrames base l) (hfn : ∀ b ∈ frs l, H b = none) (hok : HOk P w H h) (th : ∀ b o, h0.get? b = some o -> ∃ o', h.get? b = some o')
    (st : (BK h (frs l) a T).StaysIn h') (tr : h'.TracedW (BK h (frs l) a T) a cls a0) (up : h.UpToSlots h') : ∃ T', Fl h0 h' H a T' cls /\ HOk P w H h' /\ Un (frs l) [a, T] H H h h':=by
  obtain ⟨oe, vs, T', oT, ts, ha, ⟨hc, h0'⟩, hd, h1, hnT, hne, hT, hdT, h3⟩:=tr
  have key : T' = T ∨ h.get? T' = none:=by
    cases q : h.get? T' with
    | none=>exact .inr rfl
    | some o=>
      by_cases hf : T' ∈ frs l
      . obtain ⟨_, o2, ho2, hd2⟩ := hl.mem hf
        obtain ⟨sl, e2⟩:=up T' o2 ho2 hd2
        rw [hT] at e2; cases e2
        exact absurd hdT (hd2 ts)
      . by_cases hz : T' = T
        . exact .inl hz
        . rw [VR q hf hne hz] at hnT; cases hnT
  have keep : ∀ b o, b ∉ frs l -> b ≠ a -> b ≠ T -> h.get? b = some o -> h'.get? b = some o:=fun b o n1 n2 n3 e=>st b o (VR e n1 n2 n3)
  refine ⟨T', ⟨x.na, ?_, x.fa, ?_, hne, oe, vs, oT, ts, a0, ha, hc, h0', hd, h1, hT, hdT, h3⟩, hok.traced hfn x.fa x.fT keep, Un.traced hl keep up⟩
  . rcases key with e | e
    . rw [e]; exact x.nT
    . cases q : h0.get? T' with
      | none=>rfl
      | some o=>obtain ⟨o', e'⟩:=th _ _ q; rw [e] at e'; cases e'
  . rcases key with e | e
    . rw [e]; exact x.fT
    . exact hok.un0 e
end
section
variable {fs fs2 ex ex2 : List Addr} {H0 H H' : Hp} {h0 h h' : Heap}
end
section
variable {P : Program} {w : World} {K : PySem.W.Frag} {mg : Str -> Option Value} {base : Heap} {N : List Str} {qual : Str} {scope : Scope} {f : Addr} {cd : Value} {A : Around} {outer : List Env} {s0 : Shared} {H0 : Hp} {E : XK}
end
section
variable {X : Cx} {k j : Nat} {x : Str} {ps : List Str} {sp : Sp} {e : Expr} {es : List Expr} {t : TA} {p pos : Pos} {E : XK}
end
section
variable {X : Cx} {E : XK} {C : Addr} {x : Str} {e : Expr} {es : List Expr} {t : TA} {np cpos pos : Pos}
end
end L2
namespace L2
open PySem PySem.Spec PyProof.Rows
noncomputable abbrev TJ:=St -> Hp -> (Hp -> Prop) -> Prop
section
variable {X : Cx} {e : Expr} {es : List Expr} {te : TE} {t : TJ} {n : Nat} {pos p : Pos}
end
noncomputable abbrev Cx.held (X : Cx) (a : Addr) (pn : List (Addr × Obj)) : Cx:={ X with A:=X.A.mark (some (.ref a)), calm:=false, pn:=pn, xe:=fun _ _=>False }
theorem Cx.Ok.held {X : Cx} (ok : X.Ok) (a : Addr) (pn : List (Addr × Obj)) : (X.held a pn).Ok:=
  ⟨ok.mod, ok.kind, ok.glob, ok.blt, ok.above, ok.inj, ok.has, ok.cab, (fun z=>nomatch z), ok.frames, ok.stk, ok.exf, ok.bs, ok.bsz, ok.noex, ok.exfs, ok.funs, ok.frf⟩
section
variable {X : Cx} {pins : List (Addr × Obj)} {σ : St} {H : Hp} {s : Shared} {h' : Heap}
end
section
variable {X : Cx} {body suite : List Stmt} {b₀ : Stmt} {cn n : Str} {Ch : Addr} {i : Nat} {tb : XK -> TS} {ts : Addr -> Addr -> TS} {np hpos pos : Pos}
end
end L2
namespace L2
open PySem PySem.Spec PyProof.Rows
section
variable {K : PySem.W.Frag} {Er : Exc -> Hp -> Prop} {S : SC} {OO OO' OO2 : List (List Xx)} {σ : St} {α β γ ρ ι : Type} {α1 α2 α3 α4 α5 α6 : Type} {mg : Str -> Option Value} {E : XK}
noncomputable def FJ (Q : Hp -> Prop) (_ : Unit) (H : Hp) : Prop:=∀ H', Xo H H' -> Q H'
theorem FJ.tr {Q : Hp -> Prop} : ∀ (b : Unit) (H H' : Hp), Xo H H' -> FJ Q b H -> FJ Q b H':=fun _ _ _ s h H2 s2=>h H2 (s.trans s2)
variable {Fd : Ends -> β -> Hp -> Prop} [fd : FdOk Fd] {u : TS}
section
variable {te : XK -> TE} {m : Res α} {ts : Addr -> Addr -> TS} {N i : Nat} {Ch : Addr} {o : OE ρ} {g : Exc -> Res ρ} {ns : List Str} {d : Str}
end
end
end L2
namespace L2
open PySem PySem.Spec PyProof.Rows PySem.W PySem.Builtin PySem.Builtin.ObjectAttr PySem.Builtin.Getset_descriptor
section
variable {prog : Program} {w : World} {A : Around} {E : Value -> Shared -> Prop} {K : Frag} {x D : Addr} {s : Shared}
end
theorem CZ {X : Cx} {x : Str} {v : V} {pos : Pos} (h : ∃ u, X.mg x = some u /\ X8 v u) (hg : Gl X x) (hd : (x == ("__debug__" : Str)) = false:=by decide) : PE X (.Name x pos) (tC v):=by
  obtain ⟨u, hm, r⟩:=h
  exact FX hg hm r hd
theorem PS.nox {X : Cx} {st : Stmt} {t : TS} (h : PS X.nox st t) : PS X st t:=fun pins s σ H D I hw=>
  wpAny_mono (h pins s σ H D (I.wish _) hw) (fun _ _ q=>q.unwish) fun _ _ z=>False.elim z
section
variable {K : PySem.W.Frag} {C D : Addr} {b : Bool}
end
end L2
namespace L2
open PySem PySem.Spec PyProof.Rows
theorem P3.dropLast {α β γ : Type} {F : α -> β -> γ -> Prop} : ∀ {l m n}, P3 F l m n -> P3 F l.dropLast m.dropLast n.dropLast
  | _, _, _, .nil=>.nil
  | _, _, _, .cons _ .nil=>.nil
  | _, _, _, .cons r (.cons q t)=>.cons r (P3.dropLast (.cons q t))
theorem ZC {α : Type} (l : List (List α)) : l.dropLast.flatten.Sublist l.flatten:=by
  have e : l.flatten = l.dropLast.flatten ++ (l.drop (l.length - 1)).flatten:=by rw [List.dropLast_eq_take, ← List.flatten_append, List.take_append_drop]
  rw [e]
  exact List.sublist_append_left _ _
section
variable {α β : Type} {K : PySem.W.Frag} {Er : Exc -> Hp -> Prop} {S : SC} {OO : List (List Xx)} {σ : St} {Fd : Ends -> β -> Hp -> Prop} [fd : FdOk Fd] {u : TS}
end
end L2
namespace L2
open PySem PySem.Spec PyProof.Rows
section
variable {α β γ δ ε : Type}
inductive Kd where
  | non | bl | int | str | lst | tup
noncomputable def KdV (s : Shared) (v : Value) : Kd -> Prop
  | .non=>v = .none
  | .bl=>∃ b, v = .bool b
  | .int=>∃ i t, v = .int i t
  | .str=>∃ x t, v = .str x t
  | .lst=>∃ l items, v = .ref l /\ s.heap.IsList l items
  | .tup=>∃ l items, v = .ref l /\ s.heap.IsTuple l items
noncomputable def KdX (K : PySem.W.Frag) (H : Hp) (x : V) : Kd -> Prop
  | .non=>x = .non
  | .bl=>∃ b, x = .bl b
  | .int=>∃ i, x = .int i
  | .str=>∃ i, x = .str i
  | .lst=>∃ a xs, x = .ref a /\ SqL K H a xs
  | .tup=>∃ a xs, x = .ref a /\ SqT K H a xs
noncomputable def Kd.dis : Kd -> Kd -> Bool
  | .non, .bl=>true
  | .non, .int=>true
  | .non, .str=>true
  | .non, .lst=>true
  | .non, .tup=>true
  | .bl, .non=>true
  | .bl, .str=>true
  | .bl, .lst=>true
  | .bl, .tup=>true
  | .int, .non=>true
  | .int, .str=>true
  | .int, .lst=>true
  | .int, .tup=>true
  | .str, .non=>true
  | .str, .bl=>true
  | .str, .int=>true
  | .str, .lst=>true
  | .str, .tup=>true
  | .lst, .non=>true
  | .lst, .bl=>true
  | .lst, .int=>true
  | .lst, .str=>true
  | .lst, .tup=>true
  | .tup, .non=>true
  | .tup, .bl=>true
  | .tup, .int=>true
  | .tup, .str=>true
  | .tup, .lst=>true
  | _, _=>false
theorem kdV {X : Cx} {pins : List (Addr × Obj)} {σ : St} {H : Hp} {s : Shared} {x : V} {v : Value} (I : Inv X pins σ H s) (rx : X8 x v) : ∀ {k : Kd}, KdX X.K H x k -> KdV s v k
  | .non, h=>by cases (show x = .non from h); cases rx; rfl
  | .bl, ⟨b, h⟩=>by subst h; cases rx; exact ⟨b, rfl⟩
  | .int, ⟨b, h⟩=>by subst h; obtain ⟨t, rfl⟩:=rx; exact ⟨b, t, rfl⟩
  | .str, ⟨b, h⟩=>by subst h; obtain ⟨t, rfl⟩:=rx; exact ⟨b, t, rfl⟩
  | .lst, ⟨a, xs, h, q⟩=>by
    subst h; cases rx
    obtain ⟨its, r1, l1, _⟩:=I.list q
    exact ⟨a, _, rfl, l1.isList⟩
  | .tup, ⟨a, xs, h, q⟩=>by
    subst h; cases rx
    obtain ⟨its, r1, l1, _⟩:=I.tuple q
    exact ⟨a, _, rfl, l1⟩
theorem UO {s : Shared} {A : Around} {v u : Value} (hu : A.units < cLine) : ∀ {j k : Kd}, j.dis k = true -> KdV s v j -> KdV s u k -> SeqAt.EqAt A s v u false /\ SeqAt.RcAt A s v u false /\ SeqAt.RcNeAt A s v u true
  | .non, .non, h, _, _=>absurd h Bool.false_ne_true
  | .non, .bl, _, h1, h2=>by
    cases (show _ = Value.none from h1)
    obtain ⟨b2, rfl⟩:=h2
    exact ⟨SeqAt.EqAt.none_bool b2, SeqAt.RcAt.none_bool b2, SeqAt.RcNeAt.none_bool b2⟩
  | .non, .int, _, h1, h2=>by
    cases (show _ = Value.none from h1)
    obtain ⟨i2, t2, rfl⟩:=h2
    exact ⟨SeqAt.EqAt.none_int i2 t2, SeqAt.RcAt.none_int i2 t2, SeqAt.RcNeAt.none_int i2 t2⟩
  | .non, .str, _, h1, h2=>by
    cases (show _ = Value.none from h1)
    obtain ⟨i2, t2, rfl⟩:=h2
    exact ⟨SeqAt.EqAt.none_str i2 t2, SeqAt.RcAt.none_str i2 t2, SeqAt.RcNeAt.none_str i2 t2⟩
  | .non, .lst, _, h1, h2=>by
    cases (show _ = Value.none from h1)
    obtain ⟨l2, is2, rfl, q2⟩:=h2
    exact ⟨SeqAt.EqAt.none_list q2 hu, SeqAt.RcAt.none_list q2 hu, SeqAt.RcNeAt.none_list q2 hu⟩
  | .non, .tup, _, h1, h2=>by
    cases (show _ = Value.none from h1)
    obtain ⟨l2, is2, rfl, q2⟩:=h2
    exact ⟨SeqAt.EqAt.none_tuple q2 hu, SeqAt.RcAt.none_tuple q2 hu, SeqAt.RcNeAt.none_tuple q2 hu⟩
  | .bl, .non, _, h1, h2=>by
    obtain ⟨b1, rfl⟩:=h1
    cases (show _ = Value.none from h2)
    exact ⟨SeqAt.EqAt.bool_none b1, SeqAt.RcAt.bool_none b1, SeqAt.RcNeAt.bool_none b1⟩
  | .bl, .bl, h, _, _=>absurd h Bool.false_ne_true
  | .bl, .int, h, _, _=>absurd h Bool.false_ne_true
  | .bl, .str, _, h1, h2=>by
    obtain ⟨b1, rfl⟩:=h1
    obtain ⟨i2, t2, rfl⟩:=h2
    exact ⟨SeqAt.EqAt.bool_str b1 i2 t2, SeqAt.RcAt.bool_str b1 i2 t2, SeqAt.RcNeAt.bool_str b1 i2 t2⟩
  | .bl, .lst, _, h1, h2=>by
    obtain ⟨b1, rfl⟩:=h1
    obtain ⟨l2, is2, rfl, q2⟩:=h2
    exact ⟨SeqAt.EqAt.bool_list b1 q2 hu, SeqAt.RcAt.bool_list b1 q2 hu, SeqAt.RcNeAt.bool_list b1 q2 hu⟩
  | .bl, .tup, _, h1, h2=>by
    obtain ⟨b1, rfl⟩:=h1
    obtain ⟨l2, is2, rfl, q2⟩:=h2
    exact ⟨SeqAt.EqAt.bool_tuple b1 q2 hu, SeqAt.RcAt.bool_tuple b1 q2 hu, SeqAt.RcNeAt.bool_tuple b1 q2 hu⟩
  | .int, .non, _, h1, h2=>by
    obtain ⟨i1, t1, rfl⟩:=h1
    cases (show _ = Value.none from h2)
    exact ⟨SeqAt.EqAt.int_none i1 t1, SeqAt.RcAt.int_none i1 t1, SeqAt.RcNeAt.int_none i1 t1⟩
  | .int, .bl, h, _, _=>absurd h Bool.false_ne_true
  | .int, .int, h, _, _=>absurd h Bool.false_ne_true
  | .int, .str, _, h1, h2=>by
    obtain ⟨i1, t1, rfl⟩:=h1
    obtain ⟨i2, t2, rfl⟩:=h2
    exact ⟨SeqAt.EqAt.int_str i1 t1 i2 t2, SeqAt.RcAt.int_str i1 t1 i2 t2, SeqAt.RcNeAt.int_str i1 t1 i2 t2⟩
  | .int, .lst, _, h1, h2=>by
    obtain ⟨i1, t1, rfl⟩:=h1
    obtain ⟨l2, is2, rfl, q2⟩:=h2
    exact ⟨SeqAt.EqAt.int_list i1 t1 q2 hu, SeqAt.RcAt.int_list i1 t1 q2 hu, SeqAt.RcNeAt.int_list i1 t1 q2 hu⟩
  | .int, .tup, _, h1, h2=>by
    obtain ⟨i1, t1, rfl⟩:=h1
    obtain ⟨l2, is2, rfl, q2⟩:=h2
    exact ⟨SeqAt.EqAt.int_tuple i1 t1 q2 hu, SeqAt.RcAt.int_tuple i1 t1 q2 hu, SeqAt.RcNeAt.int_tuple i1 t1 q2 hu⟩
  | .str, .non, _, h1, h2=>by
    obtain ⟨i1, t1, rfl⟩:=h1
    cases (show _ = Value.none from h2)
    exact ⟨SeqAt.EqAt.str_none i1 t1, SeqAt.RcAt.str_none i1 t1, SeqAt.RcNeAt.str_none i1 t1⟩
  | .str, .bl, _, h1, h2=>by
    obtain ⟨i1, t1, rfl⟩:=h1
    obtain ⟨b2, rfl⟩:=h2
    exact ⟨SeqAt.EqAt.str_bool i1 t1 b2, SeqAt.RcAt.str_bool i1 t1 b2, SeqAt.RcNeAt.str_bool i1 t1 b2⟩
  | .str, .int, _, h1, h2=>by
    obtain ⟨i1, t1, rfl⟩:=h1
    obtain ⟨i2, t2, rfl⟩:=h2
    exact ⟨SeqAt.EqAt.str_int i1 t1 i2 t2, SeqAt.RcAt.str_int i1 t1 i2 t2, SeqAt.RcNeAt.str_int i1 t1 i2 t2⟩
  | .str, .str, h, _, _=>absurd h Bool.false_ne_true
  | .str, .lst, _, h1, h2=>by
    obtain ⟨i1, t1, rfl⟩:=h1
    obtain ⟨l2, is2, rfl, q2⟩:=h2
    exact ⟨SeqAt.EqAt.str_list i1 t1 q2 hu, SeqAt.RcAt.str_list i1 t1 q2 hu, SeqAt.RcNeAt.str_list i1 t1 q2 hu⟩
  | .str, .tup, _, h1, h2=>by
    obtain ⟨i1, t1, rfl⟩:=h1
    obtain ⟨l2, is2, rfl, q2⟩:=h2
    exact ⟨SeqAt.EqAt.str_tuple i1 t1 q2 hu, SeqAt.RcAt.str_tuple i1 t1 q2 hu, SeqAt.RcNeAt.str_tuple i1 t1 q2 hu⟩
  | .lst, .non, _, h1, h2=>by
    obtain ⟨l1, is1, rfl, q1⟩:=h1
    cases (show _ = Value.none from h2)
    exact ⟨SeqAt.EqAt.list_none q1 hu, SeqAt.RcAt.list_none q1 hu, SeqAt.RcNeAt.list_none q1 hu⟩
  | .lst, .bl, _, h1, h2=>by
    obtain ⟨l1, is1, rfl, q1⟩:=h1
    obtain ⟨b2, rfl⟩:=h2
    exact ⟨SeqAt.EqAt.list_bool b2 q1 hu, SeqAt.RcAt.list_bool b2 q1 hu, SeqAt.RcNeAt.list_bool b2 q1 hu⟩
  | .lst, .int, _, h1, h2=>by
    obtain ⟨l1, is1, rfl, q1⟩:=h1
    obtain ⟨i2, t2, rfl⟩:=h2
    exact ⟨SeqAt.EqAt.list_int i2 t2 q1 hu, SeqAt.RcAt.list_int i2 t2 q1 hu, SeqAt.RcNeAt.list_int i2 t2 q1 hu⟩
  | .lst, .str, _, h1, h2=>by
    obtain ⟨l1, is1, rfl, q1⟩:=h1
    obtain ⟨i2, t2, rfl⟩:=h2
    exact ⟨SeqAt.EqAt.list_str i2 t2 q1 hu, SeqAt.RcAt.list_str i2 t2 q1 hu, SeqAt.RcNeAt.list_str i2 t2 q1 hu⟩
  | .lst, .lst, h, _, _=>absurd h Bool.false_ne_true
  | .lst, .tup, _, h1, h2=>by
    obtain ⟨l1, is1, rfl, q1⟩:=h1
    obtain ⟨l2, is2, rfl, q2⟩:=h2
    exact ⟨SeqAt.EqAt.of_refs (SeqAt.ne_of_list_tuple q1 q2) (SeqAt.RcAt.list_tuple q1 q2 hu), SeqAt.RcAt.list_tuple q1 q2 hu, SeqAt.RcNeAt.list_tuple q1 q2 hu⟩
  | .tup, .non, _, h1, h2=>by
    obtain ⟨l1, is1, rfl, q1⟩:=h1
    cases (show _ = Value.none from h2)
    exact ⟨SeqAt.EqAt.tuple_none q1 hu, SeqAt.RcAt.tuple_none q1 hu, SeqAt.RcNeAt.tuple_none q1 hu⟩
  | .tup, .bl, _, h1, h2=>by
    obtain ⟨l1, is1, rfl, q1⟩:=h1
    obtain ⟨b2, rfl⟩:=h2
    exact ⟨SeqAt.EqAt.tuple_bool b2 q1 hu, SeqAt.RcAt.tuple_bool b2 q1 hu, SeqAt.RcNeAt.tuple_bool b2 q1 hu⟩
  | .tup, .int, _, h1, h2=>by
    obtain ⟨l1, is1, rfl, q1⟩:=h1
    obtain ⟨i2, t2, rfl⟩:=h2
    exact ⟨SeqAt.EqAt.tuple_int i2 t2 q1 hu, SeqAt.RcAt.tuple_int i2 t2 q1 hu, SeqAt.RcNeAt.tuple_int i2 t2 q1 hu⟩
  | .tup, .str, _, h1, h2=>by
    obtain ⟨l1, is1, rfl, q1⟩:=h1
    obtain ⟨i2, t2, rfl⟩:=h2
    exact ⟨SeqAt.EqAt.tuple_str i2 t2 q1 hu, SeqAt.RcAt.tuple_str i2 t2 q1 hu, SeqAt.RcNeAt.tuple_str i2 t2 q1 hu⟩
  | .tup, .lst, _, h1, h2=>by
    obtain ⟨l1, is1, rfl, q1⟩:=h1
    obtain ⟨l2, is2, rfl, q2⟩:=h2
    exact ⟨SeqAt.EqAt.of_refs (fun e=>SeqAt.ne_of_list_tuple q2 q1 e.symm) (SeqAt.RcAt.tuple_list q1 q2 hu), SeqAt.RcAt.tuple_list q1 q2 hu, SeqAt.RcNeAt.tuple_list q1 q2 hu⟩
  | .tup, .tup, h, _, _=>absurd h Bool.false_ne_true
class KdE (r : Enc α) (k : outParam Kd) : Prop where
  to : ∀ {K : PySem.W.Frag} {H : Hp} {x : V} {a : α}, r K H x a -> KdX K H x k
instance : KdE Xb .int:=⟨fun h=>⟨_, h⟩⟩
instance : KdE Yc .bl:=⟨fun h=>⟨_, h⟩⟩
instance {r : Enc α} : KdE (rV r) .lst:=⟨fun ⟨a, xs, e, q, _⟩=>⟨a, xs, e, SqL.of q⟩⟩
instance {r : Enc α} : KdE (rPL r) .tup:=⟨fun ⟨a, xs, e, q, _⟩=>⟨a, xs, e, SqT.of q⟩⟩
instance {r : Enc α} {q : Enc β} : KdE (rP2 r q) .tup:=⟨fun ⟨a, x, y, e, q, _⟩=>⟨a, _, e, SqT.of q⟩⟩
instance {r : Enc α} {q : Enc β} {t : Enc γ} : KdE (rP3 r q t) .tup:=⟨fun ⟨a, x, y, z, e, q, _⟩=>⟨a, _, e, SqT.of q⟩⟩
structure Crs (r : Enc α) (q : Enc β) (d : Nat) : Prop where
  no : ∀ {X : Cx} {pins : List (Addr × Obj)} {σ : St} {H : Hp} {s : Shared} {x : V} {a : α} {b : β}, Inv X pins σ H s -> r X.K H x a -> q X.K H x b -> False
  lr : ∀ {X : Cx} {pins : List (Addr × Obj)} {σ : St} {H : Hp} {s : Shared} {x y : V} {v u : Value} {a : α} {b : β} {A : Around}, Inv X pins σ H s -> X8 x v -> X8 y u -> r X.K H x a -> q X.K H y b -> A.units + d < cLine -> SeqAt.EqAt A s v u false /\ SeqAt.RcAt A s v u false /\ SeqAt.RcNeAt A s v u true
  rl : ∀ {X : Cx} {pins : List (Addr × Obj)} {σ : St} {H : Hp} {s : Shared} {x y : V} {v u : Value} {a : α} {b : β} {A : Around}, Inv X pins σ H s -> X8 x v -> X8 y u -> q X.K H x b -> r X.K H y a -> A.units + d < cLine -> SeqAt.EqAt A s v u false /\ SeqAt.RcAt A s v u false /\ SeqAt.RcNeAt A s v u true
theorem Crs.up {r : Enc α} {q : Enc β} {d e : Nat} (c : Crs r q d) (h : d <= e) : Crs r q e:=⟨c.no, fun I rx ry h1 h2 hu=>c.lr I rx ry h1 h2 (by omega), fun I rx ry h1 h2 hu=>c.rl I rx ry h1 h2 (by omega)⟩
end
end L2
namespace L2
open PySem PySem.Spec PyProof.Rows
section
variable {K : PySem.W.Frag} {Er : Exc -> Hp -> Prop} {S : SC} {OO OO' OO1 OO2 : List (List Xx)} {σ : St} {α β γ ρ ι δ ε ζ : Type}
variable {Fd : Ends -> β -> Hp -> Prop} [fd : FdOk Fd] {u : TS}
noncomputable def getL : α ⊕ γ -> Res α
  | .inl a=>.ok a
  | .inr _=>.bad
noncomputable def getR : α ⊕ γ -> Res γ
  | .inl _=>.bad
  | .inr b=>.ok b
end
end L2
namespace L2
theorem Bm {α : Type} {us : List α} (h : us.length = 1) : ∃ a, us = [a]:=List.length_eq_one_iff.mp h
theorem CO {α : Type} {us : List α} (h : us.length = 2) : ∃ a0 a1, us = [a0, a1]:=by
  cases us with
  | nil=>cases h
  | cons a0 t=>
    obtain ⟨a1, rfl⟩:=Bm (Nat.succ.inj h)
    exact ⟨a0, a1, rfl⟩
theorem CY {α : Type} {us : List α} (h : us.length = 3) : ∃ a0 a1 a2, us = [a0, a1, a2]:=by
  cases us with
  | nil=>cases h
  | cons a0 t=>
    obtain ⟨a1, a2, rfl⟩:=CO (Nat.succ.inj h)
    exact ⟨a0, a1, a2, rfl⟩
theorem BV {α : Type} {us : List α} (h : us.length = 4) : ∃ a0 a1 a2 a3, us = [a0, a1, a2, a3]:=by
  cases us with
  | nil=>cases h
  | cons a0 t=>
    obtain ⟨a1, a2, a3, rfl⟩:=CY (Nat.succ.inj h)
    exact ⟨a0, a1, a2, a3, rfl⟩
theorem BR {α : Type} {us : List α} (h : us.length = 5) : ∃ a0 a1 a2 a3 a4, us = [a0, a1, a2, a3, a4]:=by
  cases us with
  | nil=>cases h
  | cons a0 t=>
    obtain ⟨a1, a2, a3, a4, rfl⟩:=BV (Nat.succ.inj h)
    exact ⟨a0, a1, a2, a3, a4, rfl⟩
end L2
namespace L2
open PySem PySem.Spec PyProof.Rows
section
variable {prog : Program} {w : World} {A : Around} {E : Value -> Shared -> Prop}
end
section
variable {X : Cx} {pos : Pos}
end
section
variable {K : PySem.W.Frag} {Er : Exc -> Hp -> Prop} {S : SC} {OO OO' OO1 OO2 : List (List Xx)} {σ : St} {α β γ ρ ι δ ε ζ : Type}
variable {Fd : Ends -> β -> Hp -> Prop} [fd : FdOk Fd] {u : TS}
theorem FI [DecidableEq α] {r : Enc α} {k : Kd} {d : Nat} [m : MonoE r] [n : KdE r k] (h : Kd.non.dis k = true) (h' : k.dis Kd.non = true) (E : EqOk r d) : EqOk (QO r) d where
  uniq:=fun {X pins σ H s x a b} I h1 h2=>by
    cases a with
    | none=>cases b with
      | none=>rfl
      | some b=>exact absurd h1 h2.1
    | some a=>cases b with
      | none=>exact absurd h2 h1.1
      | some b=>rw [E.uniq I h1.2 h2.2]
  eq:=fun {X pins σ H s x y v u a b A} I rx ry h1 h2 hu=>by
    cases a with
    | none=>cases b with
      | none=>
        cases (show x = .non from h1); cases (show y = .non from h2); cases rx; cases ry
        exact SeqAt.EqAt.same _
      | some b=>simpa using (UO (A:=A) (by omega) h (kdV I rx (show KdX X.K H x .non from h1)) (kdV I ry (n.to h2.2))).1
    | some a=>cases b with
      | none=>simpa using (UO (A:=A) (by omega) h' (kdV I rx (n.to h1.2)) (kdV I ry (show KdX X.K H y .non from h2))).1
      | some b=>simpa using E.eq I rx ry h1.2 h2.2 hu
  rc:=fun {X pins σ H s x y v u a b A} I rx ry h1 h2 hu=>by
    cases a with
    | none=>cases b with
      | none=>
        cases (show x = .non from h1); cases (show y = .non from h2); cases rx; cases ry
        exact SeqAt.RcAt.none_none
      | some b=>simpa using (UO (A:=A) (by omega) h (kdV I rx (show KdX X.K H x .non from h1)) (kdV I ry (n.to h2.2))).2.1
    | some a=>cases b with
      | none=>simpa using (UO (A:=A) (by omega) h' (kdV I rx (n.to h1.2)) (kdV I ry (show KdX X.K H y .non from h2))).2.1
      | some b=>simpa using E.rc I rx ry h1.2 h2.2 hu
  ne:=fun {X pins σ H s x y v u a b A} I rx ry h1 h2 hu=>by
    cases a with
    | none=>cases b with
      | none=>
        cases (show x = .non from h1); cases (show y = .non from h2); cases rx; cases ry
        exact SeqAt.RcNeAt.none_none
      | some b=>simpa using (UO (A:=A) (by omega) h (kdV I rx (show KdX X.K H x .non from h1)) (kdV I ry (n.to h2.2))).2.2
    | some a=>cases b with
      | none=>simpa using (UO (A:=A) (by omega) h' (kdV I rx (n.to h1.2)) (kdV I ry (show KdX X.K H y .non from h2))).2.2
      | some b=>simpa using E.ne I rx ry h1.2 h2.2 hu
  keep:=fun s q=>MonoE.mono s q
theorem Vj {te : TE} {r : Enc α} {n : String} [z : TyE r n] {m : Res (Option α)} (t : String) (b c : Bool) (hk : PySem.W.kitOne K (.type n) (.type t) = some b) (hc : PySem.W.kitOne K (.type "NoneType") (.type t) = some c) (he : EvB K Er S OO σ te (QO r) m) :
    EvB K Er S OO σ (tCB (fun xs H Q=>∃ x n t b, xs = [x, .ty n] /\ TyOf K H x t /\ PySem.W.kitOne K t (.type n) = some b /\ Q (.bl b) H) (Xw te (Xw (tC (.ty t)) Zn))) Yc (m.bind fun a=>.ok (if a.isSome = true then b else c)):=fun H Q w s P=>
  he.run w s FB.tr P fun a x H1 s1 w1 q1 r1 P1=>by
    cases a with
    | none=>
      have e : x = .non:=r1
      subst e
      exact ⟨_, t, .type "NoneType", c, rfl, .non, hc, P1 _ H1 (Xo.refl _) rfl⟩
    | some a=>exact ⟨x, t, .type n, b, rfl, z.ty r1.2, hk, P1 _ H1 (Xo.refl _) rfl⟩
theorem Q8 (K : PySem.W.Frag) : PySem.W.kitOne K (.type "NoneType") (.type "list") = some false:=by
  first
    | rfl
    | decide +kernel
    | (unfold PySem.W.kitOne PySem.W.kitCls; rfl)
theorem Dl {r : Enc α} : Ev K Er S OO OO σ (tC .non) (oF (QO r)) (.ok none):=fun H Q w s P=>P _ [] H (Xo.refl _) w.nil (by rw [Yi]; exact Xo.refl _) ⟨rfl, rfl⟩
theorem GP {te : TE} {r : Enc α} {m : Res α} (hn : ∀ {K h v a C}, oF r K h v a C -> v ≠ .non) (he : Ev K Er S OO OO' σ te (oF r) m) : Ev K Er S OO OO' σ te (oF (QO r)) (m.bind fun a=>.ok (some a)):=fun H Q w s P=>by
  refine he H Q w s ?_
  cases m with
  | bad=>exact P
  | err x=>exact P
  | ok a=>exact fun v C H' s' w' m' ho=>P v C H' s' w' m' ⟨ho.1, hn ho, ho.2⟩
end
end L2
namespace L2
open PySem PySem.Spec PyProof.Rows
section
variable {X : Cx}
end
section
variable {K : PySem.W.Frag} {Er : Exc -> Hp -> Prop} {S : SC} {OO OO' OO1 OO2 : List (List Xx)} {σ : St} {α β γ ρ ι δ ε ζ : Type}
variable {Fd : Ends -> β -> Hp -> Prop} [fd : FdOk Fd] {u : TS}
end
end L2
namespace L2
open PySem PySem.Spec PyProof.Rows
set_option maxRecDepth 100000
section
variable {prog : Program} {w : World} {A : Around} {E : Value -> Shared -> Prop} {s : Shared}
end
section
variable {prog : Program} {w : World} {A : Around} {R : Result -> Shared -> Prop} {K : Type} [DecidableEq K] {knd : KeyKind prog w K}
noncomputable def G6 (acc kv : List (K × Value)) : List (K × Value):=kv.foldl (fun a p=>stored a p.1 p.2) acc
end
end L2
namespace L2
open PySem PySem.Spec PyProof.Rows
section
variable {X : Cx}
noncomputable def CA (acc kvs : List (Key × V)) : List (Key × V):=kvs.foldl (fun a p=>G1 a p.1 p.2) acc
theorem KV.all {kvs : List (Key × V)} {vs : List (Key × Value)} (t : KV kvs vs) : ∀ {acc : List (Key × V)} {acc' : List (Key × Value)}, KV acc acc' -> KV (CA acc kvs) (G6 acc' vs):=by
  induction t with
  | nil=>intro acc acc' h; exact h
  | @cons p q kvs vs r _ ih=>
    intro acc acc' h
    have h2:=h.put p.1 r.2
    have e : stored acc' p.1 q.2 = stored acc' q.1 q.2:=by rw [r.1]
    rw [e] at h2
    exact ih h2
end
end L2
namespace L2
open PySem PySem.Spec PyProof.Rows
section
variable {X : Cx} {pins : List (Addr × Obj)} {σ : St} {H : Hp} {s : Shared} {d : Addr} {o : Obj} {kvs : List (Key × V)}
theorem KV.key {kvs : List (Key × V)} {vs : List (Key × Value)} (h : KV kvs vs) : ∀ {i : Nat} (h1 : i < kvs.length) (h2 : i < vs.length), (kvs[i]).1 = (vs[i]).1:=by
  induction h with
  | nil=>intro i h1; exact absurd h1 (Nat.not_lt_zero _)
  | cons r _ ih=>
    intro i h1 h2
    cases i with
    | zero=>exact r.1
    | succ i=>exact ih (Nat.lt_of_succ_lt_succ h1) (Nat.lt_of_succ_lt_succ h2)
end
section
variable {X : Cx}
end
end L2
namespace L2
open PySem PySem.Spec PyProof.Rows
section
variable {K : PySem.W.Frag} {Er : Exc -> Hp -> Prop} {S : SC} {OO OO' OO2 : List (List Xx)} {σ : St} {α β γ ρ ι δ ε : Type}
variable {Fd : Ends -> β -> Hp -> Prop} [fd : FdOk Fd] {u : TS}
theorem GQ {ta : TE} {r : Enc α} [z : FlatE r] {ma : Res (List α)} (ha : EvB K Er S OO σ ta (rPL r) ma) : Ev K Er S OO OO σ (tCB (Vx K) (Xw ta Zn)) (oL (oF r)) (ma.bind fun as=>.ok as):=fun H Q w s P=>
  ha.run w s FO.tr P fun as x H1 s1 w1 q1 ⟨p, xs, e, q, pr⟩ P1=>⟨p, xs, by rw [e], .inr (SqT.of q), Fh w1 (Paired.imp2 (fun _ _ h=>z.flat w1.i h) pr) P1⟩
theorem JE {ta : TE} {r : Enc α} {m : Res (List α)} (ha : EvB K Er S OO σ ta (rV r) m) : EvB K Er S OO σ ta (QO (rV r)) (m.bind fun a=>.ok (some a)):=fun H Q w s P=>
  ha.run w s FB.tr P fun a x H1 s1 w1 q1 ⟨p, xs, e, q, h⟩ P1=>P1 _ H1 (Xo.refl _) ⟨by rw [e]; exact (fun z=>nomatch z), p, xs, e, q, h⟩
end
end L2
namespace L2
open PySem PySem.Spec PyProof.Rows
section
variable {prog : Program} {w : World} {A : Around}
end
section
variable {X : Cx}
end
end L2
namespace L2
open PySem PySem.Spec PyProof.Rows
section
variable {K : PySem.W.Frag} {Er : Exc -> Hp -> Prop} {S : SC} {OO OO' OO1 OO2 : List (List Xx)} {σ : St} {α β γ ρ ι δ ε : Type}
variable {Fd : Ends -> β -> Hp -> Prop} [fd : FdOk Fd] {u : TS}
end
end L2
namespace L2
open PySem PySem.Spec PyProof.Rows
section
variable {X : Cx}
end
end L2
namespace L2
open PySem PySem.Spec PyProof.Rows
section
variable {K : PySem.W.Frag} {Er : Exc -> Hp -> Prop} {S : SC} {OO OO' OO1 OO2 : List (List Xx)} {σ : St} {α β γ ρ ι δ ε : Type}
end
end L2
namespace L2
open PySem PySem.Spec PyProof.Rows
section
variable {K : PySem.W.Frag} {Er : Exc -> Hp -> Prop} {S : SC} {OO OO' OO1 OO2 : List (List Xx)} {σ : St} {α β γ ρ ι δ ε : Type}
noncomputable def tk (k : List Int) : List Key:=k.map Sum.inl
variable {Fd : Ends -> β -> Hp -> Prop} [fd : FdOk Fd] {u : TS}
end
end L2
namespace L2
open PySem PySem.Spec PyProof.Rows
section
variable {X : Cx} {α : Type} [DecidableEq α] {r : Enc α} {d : Nat}
end
section
variable {K : PySem.W.Frag} {Er : Exc -> Hp -> Prop} {S : SC} {OO OO' OO1 OO2 : List (List Xx)} {σ : St} {α β γ ρ ι δ ε : Type}
end
end L2
namespace L2
open PySem PySem.Spec PyProof.Rows
section
variable {X : Cx} {pins : List (Addr × Obj)} {σ : St} {H : Hp} {s : Shared} {h' : Heap}
theorem Inv.turns {t' : Nat} {ch : List Addr} (I : Inv X pins σ H s) (k : ∀ b o, b ∉ ch -> s.heap.get? b = some o -> h'.get? b = some o) (hf : ∀ b ∈ ch, UI X pins H b) : Inv X pins σ H { s with heap:=h', toks:=t' }:=by
  have nit : ∀ b o, H b = some o -> b ∉ ch:=fun b o e z=>by rw [(hf b z).1] at e; cases e
  refine I.step (g':=s.gens) (d':=s.drawn) (ch:=ch) (fun b hb=>?_) (fun b o _ _ hc e _=>k b o hc e) (fun b o _ _ hc e _=>⟨o.slots, k b o hc e⟩)
    (fun b o _ e n=>n) (fun b o hc e=>⟨o, k b o hc e⟩) (fun b xs e=>e) (fun b o xs e=>e) (fun b ps e=>⟨#[], by rw [e]; simp⟩) (fun m hm=>?_) (fun b v e=>?_) I.bare
  . obtain ⟨f0, f1, f2, f3, f4, f5⟩ := hf b hb
    exact ⟨f3, f1, f4, f5⟩
  . obtain ⟨o, es, ep, ho, r⟩ := hm
    exact ⟨o, es, ep, k _ o (fun z=>(hf _ z).2.1 rfl) ho, r⟩
  . refine (I.hok b v e).stay (fun c o hc q => k c o ?_ q) (fun c q => q) fun c xs q => q
    rcases hc with z | z
    . rw [z]; exact nit b v e
    . exact nit c _ z
end
section
variable {X : Cx} {elts : List Expr} {k : Nat} {pos0 : Pos}
end
end L2
namespace L2
open PySem PySem.Spec PyProof.Rows
section
variable {K : PySem.W.Frag} {Er : Exc -> Hp -> Prop} {S : SC} {OO OO' OO1 OO2 : List (List Xx)} {σ : St} {α β γ ρ ι δ ε : Type}
end
end L2
namespace L2
open PySem PySem.Spec PyProof.Rows
section
variable {X : Cx}
end
section
variable {K : PySem.W.Frag} {Er : Exc -> Hp -> Prop} {S : SC} {OO OO' OO1 OO2 : List (List Xx)} {σ : St} {α β γ ρ ι δ ε : Type}
variable {Fd : Ends -> β -> Hp -> Prop} [fd : FdOk Fd] {u : TS}
end
end L2
namespace L2
open PySem PySem.Spec PyProof.Rows
section
variable {K : PySem.W.Frag} {Er : Exc -> Hp -> Prop} {S : SC} {OO OO' OO1 OO2 : List (List Xx)} {σ : St} {α β γ ρ ι δ ε : Type} {u : TS}
noncomputable def Zw : Nat -> γ -> (γ -> Res Bool) -> (γ -> Res (Ctl ρ γ)) -> Res (Ctl ρ γ)
  | 0, _, _, _=>.bad
  | n + 1, g, c, f=>(c g).bind fun b=>if b = true then (f g).bind fun r=>match r with
    | .ret r=>.ok (.ret r)
    | .nx g'=>Zw n g' c f else .ok (.nx g)
theorem Kp {o : OE ρ} {c : TT} {tb : TS} {mc : γ -> Res Bool} {body : γ -> Res (Ctl ρ γ)} {f : γ -> Res ρ} (J : Jn γ ι) (n : Nat) (x0 : ι) (g0 : γ) (h1 : OO = J.oo x0) (h2 : σ = J.ss x0) (h3 : ∀ h, S.p h -> (J.sc g0 x0).p h)
    (hc : ∀ g x, EvT Er (J.sc g x) (J.oo x) (J.ss x) c (mc g)) (hb : ∀ g x, Sv Er (J.sc g x) (J.oo x) (J.ss x) tb (FCd K o J) (body g))
    (hr : ∀ g x, Sv Er (J.sc g x) (J.oo x) (J.ss x) u (FTd K o) (f g)) : Sv Er S OO σ (Z5 (UU c tb) u) (FTd K o) ((Zw n g0 mc body).bind (YX f)):=fun H D w s P=>by
  refine ⟨fun mm σ' H2=>∃ x gg, σ' = J.ss x /\ W (J.oo x) H2 /\ (J.sc gg x).p (hid H2 (J.oo x)) /\ PZ Er (FTd K o D) (hid H2 (J.oo x)) ((Zw mm gg mc body).bind (YX f)), ⟨n, x0, g0, h2, by rw [← h1]; exact w, by rw [← h1]; exact h3 _ s, by rw [← h1]; exact P⟩, ?_⟩
  rintro mm σ' H2 ⟨x, gg, rfl, w2, sc2, P2⟩
  cases mm with
  | zero=>exact P2.elim
  | succ mm=>
    have P3 : PZ Er (FTd K o D) (hid H2 (J.oo x)) ((mc gg).bind fun b=>(if b = true then (body gg).bind fun r=>match r with
      | .ret r=>.ok (.ret r)
      | .nx g'=>Zw mm g' mc body else .ok (.nx gg)).bind (YX f)):=by rw [← XF]; exact P2
    refine (hc gg x).st w2 sc2 P3 fun b H3 w3 sc3 P4=>?_
    cases b with
    | false=>exact hr gg x H3 D w3 sc3 P4
    | true=>
      rw [if_pos rfl] at P4 ⊢
      refine ⟨fun σ3 H4=>∃ x gg, σ3 = J.ss x /\ W (J.oo x) H4 /\ (J.sc gg x).p (hid H4 (J.oo x)) /\ PZ Er (FTd K o D) (hid H4 (J.oo x)) ((Zw mm gg mc body).bind (YX f)), fun σ3 H4 q=>⟨mm, Nat.lt_succ_self _, q⟩, hb gg x H3 _ w3 sc3 ?_⟩
      rw [XF] at P4
      cases eb : body gg with
      | bad=>rw [eb] at P4; exact P4
      | err x=>rw [eb] at P4; exact P4
      | ok c=>
        rw [eb] at P4
        cases c with
        | ret r=>exact P4
        | nx g'=>exact fun x' H5 w5 m5 sc5=>⟨x', g', rfl, w5, sc5, PZ.tr (FdOk.tr D) m5 P4⟩
end
end L2
namespace L2
open PySem PySem.Spec PyProof.Rows
section
variable {X : Cx}
end
section
variable {K : PySem.W.Frag} {Er : Exc -> Hp -> Prop} {S : SC} {OO : List (List Xx)} {σ : St}
end
end L2
namespace L2
open PySem PySem.Spec PyProof.Rows
section
variable {X : Cx} {pins : List (Addr × Obj)} {σ : St} {H : Hp} {s : Shared} {d : Addr} {o : Obj} {kvs : List (Key × V)}
end
end L2
namespace L2
open PySem PySem.Spec PyProof.Rows
section
variable {X : Cx}
end
section
variable {K : PySem.W.Frag} {Er : Exc -> Hp -> Prop} {S : SC} {OO OO' OO1 OO2 OO3 : List (List Xx)} {σ : St} {α β γ ρ ι δ ε ζ : Type}
variable {Fd : Ends -> β -> Hp -> Prop} [fd : FdOk Fd] {u : TS}
noncomputable def oT3 (o : OE α) (q : OE β) (t : OE γ) : OE (α × β × γ):=fun K h v a C=>∃ p x y z C1 C2 C3, v = .ref p /\ h p = some (.tup [x, y, z]) /\ o K h x a.1 C1 /\ q K h y a.2.1 C2 /\ t K h z a.2.2 C3 /\ C = C1 ++ (C2 ++ C3)
instance {o : OE α} {q : OE β} {t : OE γ} [m : MonoO o] [n : MonoO q] [k : MonoO t] : MonoO (oT3 o q t):=⟨fun s h9=>(by obtain ⟨p, x, y, z, C1, C2, C3, e, h, h1, h2, h3, c⟩:=h9; exact ⟨p, x, y, z, C1, C2, C3, e, s _ _ h, m.mono s h1, n.mono s h2, k.mono s h3, c⟩)⟩
instance {o : OE α} {q : OE β} {t : OE γ} [m : FlatO o] [n : FlatO q] [k : FlatO t] : FlatO (oT3 o q t):=⟨fun s h9=>(by obtain ⟨p, x, y, z, C1, C2, C3, e, h, h1, h2, h3, c⟩:=h9; exact ⟨p, x, y, z, C1, C2, C3, e, s _ _ h rfl, m.flat s h1, n.flat s h2, k.flat s h3, c⟩)⟩
instance {o : OE α} {q : OE β} {t : OE γ} {ro : Enc α} {rq : Enc β} {rt : Enc γ} [m : FrzC o ro] [n : FrzC q rq] [k : FrzC t rt] : FrzC (oT3 o q t) (rP3 ro rq rt):=⟨fun ⟨p, x, y, z, C1, C2, C3, e, h, h1, h2, h3, c⟩ s hc=>by
  subst c
  exact ⟨p, x, y, z, e, s _ _ h, m.frz h1 s fun c hm=>hc c (by simp [hm]), n.frz h2 s fun c hm=>hc c (by simp [hm]), k.frz h3 s fun c hm=>hc c (by simp [hm])⟩⟩
end
end L2
namespace L2
open PySem PySem.Spec PyProof.Rows
section
variable {K : PySem.W.Frag} {Er : Exc -> Hp -> Prop} {S : SC} {OO OO' OO1 OO2 : List (List Xx)} {σ : St} {α β γ ρ ι δ ε ζ : Type}
variable {Fd : Ends -> β -> Hp -> Prop} [fd : FdOk Fd] {u : TS}
end
end L2
namespace L2
open PySem PySem.Spec PyProof.Rows
section
variable {K : PySem.W.Frag} {Er : Exc -> Hp -> Prop} {S : SC} {OO OO' OO1 OO2 : List (List Xx)} {σ : St} {α β γ ρ ι δ ε ζ : Type}
variable {Fd : Ends -> β -> Hp -> Prop} [fd : FdOk Fd] {u : TS}
end
end L2
namespace L2
open PySem PySem.Spec PyProof.Rows
section
variable {K : PySem.W.Frag} {Er : Exc -> Hp -> Prop} {S : SC} {OO OO' OO1 OO2 : List (List Xx)} {σ : St} {α β γ ρ ι δ ε ζ α1 α3 α4 : Type}
variable {Fd : Ends -> β -> Hp -> Prop} [fd : FdOk Fd] {u : TS}
end
end L2
namespace L2
open PySem
noncomputable def Inc (xs : Array Nat) : Prop:=xs.toList.Pairwise (· < ·)
theorem Inc.lt {xs : Array Nat} (h : Inc xs) {i j v u : Nat} (hij : i < j) (hi : xs[i]? = some v) (hj : xs[j]? = some u) : v < u:=by
  rw [← Array.getElem?_toList] at hi hj
  obtain ⟨a, rfl⟩:=List.getElem?_eq_some_iff.mp hi
  obtain ⟨b, rfl⟩:=List.getElem?_eq_some_iff.mp hj
  exact List.pairwise_iff_getElem.mp h i j a b hij
structure TOk (t : SetTable) (led : Bool) : Prop where
  inc : Inc t.place
  dum : t.dummies = #[]
  led : t.led = led
theorem TOk.fresh (f m : Nat) (led : Bool) : TOk (.fresh f m led) led:=⟨List.Pairwise.nil, rfl, rfl⟩
end L2
namespace L2
open PySem PySem.Spec PyProof.Rows
theorem GV {vs : List Value} {ms : List Int} (h : IntsAre vs ms) (k : Int) : (∃ v ∈ vs, Value.isInt k v = true) ↔ k ∈ ms:=by
  induction h with
  | nil=>simp
  | cons n t _ ih=>
    rw [List.mem_cons, ← ih]
    constructor
    . rintro ⟨v, hv, e⟩
      rcases List.mem_cons.mp hv with z | z
      . subst z; obtain ⟨t', e'⟩:=Value.isInt_shape e; cases e'; exact .inl rfl
      . exact .inr ⟨v, z, e⟩
    . rintro (z | ⟨v, hv, e⟩)
      . subst z; exact ⟨_, .head _, beq_self_eq_true _⟩
      . exact ⟨v, .tail _ hv, e⟩
noncomputable def dd (l : List Int) : List Int:=l.foldl step_dedup []
structure SCore (prog : Program) (w : World) (es : Array (Int × Value)) (t : SetTable) (ns : List Int) : Prop where
  el : ElemsOf (intKind prog w) es.toList
  pm : ∃ ms, IntsAre (es.toList.map (·.2)) ms /\ ms.Perm ns
  sz : es.size < scanBound
  fit : t.fits es.size = true
  tok : TOk t (!w.params.followText "set-order")
noncomputable def CH (prog : Program) (w : World) (h : Heap) (a : Addr) (ns : List Int) : Prop:=
  ∃ o es ep t, h.get? a = some o /\ o.ExactSet /\ o.data = .set es ep t /\ SCore prog w es t ns
section
variable {prog : Program} {w : World} {A : Around} {E : Value -> Shared -> Prop} {s : Shared} {a : Addr} {ns : List Int}
theorem SCore.len {es : Array (Int × Value)} {t : SetTable} (c : SCore prog w es t ns) : es.size = ns.length:=by
  obtain ⟨ms, a, b⟩:=c.pm
  rw [← b.length_eq, ← IntsAre.length a, List.length_map, Array.length_toList]
theorem SCore.mem {es : Array (Int × Value)} {t : SetTable} (c : SCore prog w es t ns) (k : Int) : (∃ e ∈ es.toList, Value.isInt k e.2 = true) ↔ k ∈ ns:=by
  obtain ⟨ms, a, b⟩:=c.pm
  rw [← b.mem_iff, ← GV a k]
  constructor
  . rintro ⟨e, h, z⟩; exact ⟨e.2, List.mem_map_of_mem h, z⟩
  . rintro ⟨v, h, z⟩
    obtain ⟨e, h1, rfl⟩:=List.mem_map.mp h
    exact ⟨e, h1, z⟩
theorem CH.put {h : Heap} {o : Obj} {es es' : Array (Int × Value)} {ep : Nat} {t t' : SetTable} (ho : h.get? a = some o) (hx : o.ExactSet) (hd : o.data = .set es ep t) :
    (h.update a (Obj.putSet es' t')).get? a = some { o with data:=.set es' (ep + 1) t' } /\ (SCore prog w es' t' ns -> CH prog w (h.update a (Obj.putSet es' t')) a ns):=by
  have g:=Heap.get?_update_self (Obj.putSet es' t') ho (by rw [putSet_of es' t' hd]; rfl)
  rw [putSet_of es' t' hd] at g
  exact ⟨g, fun c=>⟨_, _, _, _, g, hx, rfl, c⟩⟩
end
end L2
namespace L2
open PySem PySem.Spec PyProof.Rows
section
variable {prog : Program} {w : World} {A : Around} {E : Value -> Shared -> Prop} {s : Shared}
theorem CH.at {h h' : Heap} {a : Addr} {ns : List Int} (x : CH prog w h a ns) (k : ∀ o, h.get? a = some o -> h'.get? a = some o) : CH prog w h' a ns:=
  let ⟨o, es, ep, t, ho, r⟩:=x; ⟨o, es, ep, t, k o ho, r⟩
end
end L2
namespace L2
open PySem PySem.Spec PyProof.Rows
section
variable {M : Model} {A : Around} {E : Value -> Shared -> Prop} {s : Shared}
end
section
variable {prog : Program} {w : World} {A : Around} {E : Value -> Shared -> Prop} {s : Shared} {a : Addr} {o : Obj} {es : Array (Int × Value)} {ep : Nat} {t : SetTable}
end
end L2
namespace L2
open PySem PySem.Spec PyProof.Rows
section
variable {prog : Program} {w : World} {A : Around} {E : Value -> Shared -> Prop} {s : Shared} {a I tp : Addr} {o : Obj} {es : Array (Int × Value)} {ep : Nat} {t : SetTable} {L : List (Int × Value)}
inductive SMode (w : World) (a : Addr) (es : Array (Int × Value)) (ep : Nat) (t : SetTable) (tp : Addr) (L : List (Int × Value)) (h : Heap) (i : Nat) : Value -> Prop
  | text (sl : Nat) (hT : w.params.followText "set-order" = true) (hL : L = (pickOrder (w.params.setOrder a ep) es).toList) : SMode w a es ep t tp L h i (.int sl 0)
  | plain (sl : Nat) (hT : w.params.followText "set-order" = false) (hp : (!t.plain && decide (es.size > 1)) = false) (hL : L = es.toList) (hb : SetTable.below t.place sl = i) : SMode w a es ep t tp L h i (.int sl 0)
  | drawn (ps : List Nat) (hg : h.get? tp = some { cls:=.type "tuple", data:=.seq (ps.map fun i=>Value.int (i : Nat) 0).toArray }) (hn : ps.length = L.length) (hL : ∀ (i : Nat) pl, ps[i]? = some pl -> L[i]? = es[pl]?) : SMode w a es ep t tp L h i (.ref tp)
structure SIt (w : World) (I a : Addr) (es : Array (Int × Value)) (ep : Nat) (t : SetTable) (tp : Addr) (L : List (Int × Value)) (o : Obj) (i : Nat) (h : Heap) : Prop where
  it : ∃ ob first, h.get? I = some ob /\ ob.cls = .type "set_iterator" /\ ob.data = .fields #[first, .int i 0, .ref a, .int es.size 0, .int ep 0] /\ SMode w a es ep t tp L h i first
  st : h.get? a = some o
theorem SMode.at {h h' : Heap} {i : Nat} {v : Value} (m : SMode w a es ep t tp L h i v) (k : ∀ o, h.get? tp = some o -> h'.get? tp = some o) : SMode w a es ep t tp L h' i v:=by
  cases m with
  | text sl hT hL=>exact .text sl hT hL
  | plain sl hT hp hL hb=>exact .plain sl hT hp hL hb
  | drawn ps hg hn hL=>exact .drawn ps (k _ hg) hn hL
end
end L2
namespace L2
open PySem PySem.Spec PyProof.Rows
section
variable {prog : Program} {w : World} {A : Around} {E : Value -> Shared -> Prop} {s : Shared} {a I tp : Addr} {o : Obj} {es : Array (Int × Value)} {ep : Nat} {t : SetTable} {L : List (Int × Value)} {ns : List Int}
theorem SIt.frame {i : Nat} {h h' : Heap} (x : SIt w I a es ep t tp L o i h) (k : ∀ b ∈ [I, a, tp], ∀ o, h.get? b = some o -> h'.get? b = some o) : SIt w I a es ep t tp L o i h':=by
  obtain ⟨⟨ob, f, h1, h2, h3, m⟩, h4⟩:=x
  exact ⟨⟨ob, f, k I (by simp) _ h1, h2, h3, m.at fun o e=>k tp (by simp) o e⟩, k a (by simp) _ h4⟩
end
section
variable {X : Cx}
end
end L2
namespace L2
open PySem PySem.Spec PyProof.Rows
section
variable {K : PySem.W.Frag} {Er : Exc -> Hp -> Prop} {S : SC} {OO : List (List Xx)} {σ : St}
variable {u : TS} {α γ ρ ι : Type}
theorem G8 {o : OE ρ} {g : TG} {tb : TS} {r : Enc α} [z : MonoE r] {κ : Type} {body : γ -> α -> Res (Ctl ρ γ)} {f : γ -> Res ρ} {v : V} {as : List α} {C : List Xx} (n k : Nat) (hσ : σ[n]? = some (some v)) (hk : OO[k]? = some C) (h : ∀ x, S.p x -> oL (oF r) K x v as C)
    (J : Jn γ ι) (T : ∀ OO, Tgt K OO g r κ) (x0 : ι) (g0 : γ) (hC : ∀ x, (J.oo x)[k]? = some C) (h1 : OO = J.oo x0) (h2 : σ = J.ss x0) (h3 : ∀ h, S.p h -> (J.sc g0 x0).p h)
    (hb : ∀ g x a v, Sv Er ((T (J.oo x)).sc a v (J.sc g x)) (J.oo x) ((T (J.oo x)).set v (J.ss x)) tb (FCd K o J) (body g a))
    (hr : ∀ g x, Sv Er (J.sc g x) (J.oo x) (J.ss x) u (FTd K o) (f g)) : Sv Er S OO σ (Z5 (Cf (KB K (Vc n)) g tb) u) (FTd K o) ((forC as g0 body).bind (YX f)):=fun H D w s P=>by
  obtain ⟨p, xs, Cs0, e, q, c⟩:=h _ s
  subst c e
  have hin : ∀ x, (p, HO.lst xs) ∈ (J.oo x).flatten:=fun x=>List.mem_flatten.mpr ⟨_, List.mem_of_getElem? (hC x), List.mem_cons_self⟩
  have pr:=(P3.flat q).1
  have hH : H p = some (.lst xs):=w.tr (p, .lst xs) (by rw [h1]; exact hin x0)
  refine ⟨_, hσ, p, rfl, ⟨xs, SqL.of hH⟩, ?_⟩
  refine ⟨fun i mm σ' H2=>mm = as.length - i /\ i <= as.length /\ ∃ x gg, σ' = J.ss x /\ W (J.oo x) H2 /\ Xo (hid H OO) (hid H2 (J.oo x)) /\ (J.sc gg x).p (hid H2 (J.oo x)) /\ PZ Er (FTd K o D) (hid H2 (J.oo x)) ((forC (as.drop i) gg body).bind (YX f)), ⟨as.length, rfl, Nat.zero_le _, x0, g0, h2, ?_, ?_, ?_, ?_⟩, ?_⟩
  . rw [← h1]; exact w
  . rw [← h1]; exact Xo.refl _
  . rw [← h1]; exact h3 _ s
  . rw [← h1, List.drop_zero]; exact P
  . rintro i mm σ' H2 ⟨rfl, hi, x, gg, rfl, w2, m2, sc2, P2⟩
    have hq : SqL K H2 p xs:=SqL.of (w2.tr (p, .lst xs) (hin x))
    by_cases hlt : i < as.length
    . right
      obtain ⟨y0, hy0, ry⟩:=Paired.getR pr (List.getElem?_eq_getElem hlt)
      refine ⟨⟨xs, y0, hq, hy0⟩, fun σ3 H3=>∃ x gg, σ3 = J.ss x /\ W (J.oo x) H3 /\ Xo (hid H OO) (hid H3 (J.oo x)) /\ (J.sc gg x).p (hid H3 (J.oo x)) /\ PZ Er (FTd K o D) (hid H3 (J.oo x)) ((forC (as.drop (i + 1)) gg body).bind (YX f)), fun σ3 H3 q=>⟨as.length - (i + 1), Nat.sub_lt_sub_left hlt (Nat.lt_succ_self i), rfl, hlt, q⟩, fun y H3 hy=>?_⟩
      obtain ⟨rfl, hy2⟩:=hy
      have:=hy2 xs hq
      rw [hy0] at this
      cases this
      refine (T (J.oo x)).ok (z.mono m2 ry) sc2 fun v hv=>hb gg x as[i] v H3 _ w2 hv ?_
      rw [List.drop_eq_getElem_cons hlt] at P2
      have P3 : PZ Er (FTd K o D) (hid H3 (J.oo x)) ((body gg as[i]).bind fun c=>(match c with
        | .ret r=>Res.ok (Ctl.ret r)
        | .nx g'=>forC (as.drop (i + 1)) g' body).bind (YX f)):=by rw [← XF]; exact P2
      cases eb : body gg as[i] with
      | bad=>rw [eb] at P3; exact P3
      | err x=>rw [eb] at P3; exact P3
      | ok c=>
        rw [eb] at P3
        cases c with
        | ret r=>exact P3
        | nx g'=>exact fun x' H4 w4 m4 sc4=>⟨x', g', rfl, w4, m2.trans m4, sc4, PZ.tr (FdOk.tr D) m4 P3⟩
    . left
      have e : i = as.length:=Nat.le_antisymm hi (Nat.not_lt.mp hlt)
      subst e
      refine ⟨⟨xs, hq, by rw [Paired.len pr]; exact Nat.le_refl _⟩, hr gg x H2 D w2 sc2 ?_⟩
      rw [List.drop_length] at P2
      exact P2
variable {β : Type} {Fd : Ends -> β -> Hp -> Prop} [fd : FdOk Fd]
end
section
variable {α β γ : Type}
end
section
variable {K : PySem.W.Frag} {Er : Exc -> Hp -> Prop} {S : SC} {OO : List (List Xx)} {σ : St} {α1 α2 α3 α4 ρ : Type} {mg : Str -> Option Value} {E : XK}
end
end L2
namespace L2
open PySem PySem.Spec PyProof.Rows
section
variable {X : Cx} {tg : Expr}
noncomputable def FC (K : PySem.W.Frag) : R2:=fun x y H Q=>∃ a b xs ys, x = .ref a /\ y = .ref b /\ SqT K H a xs /\ SqT K H b ys /\ ys ≠ [] /\ xs.length + ys.length <= sizeLine /\
  (xs = [] -> Q (.ref b) H) /\ (xs ≠ [] -> ∀ p, H p = none -> Q (.ref p) (upd H p (.tup (xs ++ ys))))
theorem GR (K : PySem.W.Frag) (hK : X.K = K) : OpR X (binaryOp .Add) (FC K):=by
  subst hK
  intro pins s σ H x y v u Q I rx ry h
  obtain ⟨a, b, xs, ys, e1, e2, ha, hb, hy, hz, q1, q2⟩:=h
  by_cases hx : xs = []
  . subst e1 e2
    cases rx
    cases ry
    obtain ⟨its, r1, p1, _⟩:=I.tuple ha
    obtain ⟨its2, r2, p2, _⟩:=I.tuple hb
    obtain ⟨⟨cls, dd, data, sl⟩, ho, hc, n, hd⟩:=id p1
    obtain ⟨⟨cls2, dd2, data2, sl2⟩, ho2, hc2, n2, hd2⟩:=id p2
    simp only at hc hd hc2 hd2
    subst hc hd hc2 hd2
    have e0 : its = []:=r1.nil_iff.mpr hx
    exact concat_meets ⟨_, ho, rfl⟩ ⟨_, ho2, rfl⟩ noFill_tuple_add seq_tuple_add PySem.F.slot_tuple_add PySem.F.entry_tuple_add (PySem.F.args_tuple_add_2 _ _)
      (tuple_addW0 a b its.toArray its2.toArray n n2 dd dd2 sl sl2 (by simp [e0])) ⟨ho, ho2, ⟨.ref b, H, I, rfl, q1 hx⟩⟩
  . exact Dg pins s σ H x y v u Q I rx ry ⟨a, b, xs, ys, e1, e2, ha, hb, hx, hz, fun z=>absurd z hy, fun _=>q2 hx⟩
noncomputable def BW (lo : Int) (n : Nat) : It:=⟨fun i _=>i < n, fun i H x H'=>H' = H /\ x = .int (lo - i), fun i _=>n <= i⟩
theorem KA {P : Program} {w : World} {K : PySem.W.Frag} {tg : Expr} (it : Addr) (lo : Int) (n : Nat) : Turn P w K tg (BW lo n) [it] it (fun i h=>IsRangeIter h it (lo + (i : Nat) * -1) ((n : Int) - (i : Nat)) (-1)) where
  mem:=by simp
  obj:=fun i h st b hb=>by
    have e : b = it:=by simpa using hb
    subst e
    exact ⟨_, st, fun v z=>by
      have z' : Data.fields _ = Data.cell v:=z
      cases z'⟩
  keep:=fun i h h' st k=>k it (by simp) _ st
  item:=by
    intro X hP hw hK hc i pins s σ H E I hf st hg
    subst hP hw hK
    obtain ⟨f0, f1, f2, f3, f4, f5⟩:=hf it (by simp)
    have W:=Walks.range (prog:=X.prog) (w:=X.w) (I.ok.hd hc) it lo (-1) n
    refine W.item i s _ _ hg st fun v h' tk hv st' kk=>?_
    obtain ⟨t, rfl⟩:=hv
    have I1 : Inv X pins σ H { s with heap:=h', toks:=tk }:=I.turned (fun b o hb e=>kk b o (by simpa using hb) e) f0 f1 f3 f4 f5
    refine ⟨_, rfl, DL (s:={ s with heap:=h', toks:=tk }) (n:="range_iterator") st' rfl rfl (by decide) ⟨.int (lo - i), H, I1, ⟨t, ?_⟩, ⟨rfl, rfl⟩, st', fun b hb=>(hf b hb).1⟩⟩
    rw [show lo + (i : Int) * -1 = lo - i by omega]
  done:=by
    intro X hP hw hK hc i pins s σ H E I hf st hg
    subst hP hw hK
    obtain ⟨f0, f1, f2, f3, f4, f5⟩:=hf it (by simp)
    exact wpAny_pyNext_range_end (I.ok.hd hc) st (by have : n <= i:=hg; omega) fun h' eb=>⟨rfl, I.turned (t':=s.toks) (fun b o hb e=>eb b o hb e) f0 f1 f3 f4 f5⟩
  self:=fun _ _ _ _ _ st h=>wpAny_pyIter_rangeiter st h
theorem Zt (a b : Int) : Builtin.Range.rangeSize a b (-1) = if b < a then a - b else 0:=by
  unfold Builtin.Range.rangeSize
  simp only [show ¬ (-1 : Int) > 0 by decide, if_false, Int.neg_neg, Int.ediv_one]
  split <;> omega
theorem Uw {a b : Int} (ha : -(2 ^ 62) <= a) (ha' : a < 2 ^ 62) (hb : -(2 ^ 62) <= b) (hb' : b < 2 ^ 62) : Builtin.Range.small a b (-1) = true:=by
  unfold Builtin.Range.small
  rw [Zt]
  simp only [Builtin.Range.rangeFitsLong, Bool.and_eq_true, Bool.or_eq_true, decide_eq_true_eq, beq_iff_eq, show ¬ (-1 : Int) > 0 by decide, if_false]
  split <;> omega
noncomputable def Ba (ta : TA) : TI:=fun σ H R=>ta σ H fun vs H1=>∃ i j : Int, vs = [.int i, .int j, .int (-1)] /\ (-(2 ^ 62) <= i /\ i < 2 ^ 62 /\ -(2 ^ 62) <= j /\ j < 2 ^ 62) /\ R (BW i (i - j).toNat) H1
theorem DJ {pins : List (Addr × Obj)} {σ : St} {H : Hp} {s : Shared} {R : It -> Hp -> Prop} {E : Value -> Shared -> Prop} {lo hi : Int} {t u v : Tok} {tk : Nat} (I : Inv X pins σ H s) (h1 : -(2 ^ 62) <= lo) (h2 : lo < 2 ^ 62) (h3 : -(2 ^ 62) <= hi) (h4 : hi < 2 ^ 62)
    (q : R (BW lo (lo - hi).toNat) H) : wpAny (model X.prog X.w) X.A (pyIter (.ref s.heap.objs.size)) (PIE X pins σ tg R) E { s with heap:=s.heap.push { cls:=.type "range", data:=.fields #[.int lo t, .int hi u, .int (-1) v] }, toks:=tk }:=by
  refine wpAny_pyIter_range (IsRange.new ..) (Uw h1 h2 h3 h4) ?_
  have I1 : Inv X pins σ H { s with heap:=s.heap.push { cls:=.type "range", data:=.fields #[.int lo t, .int hi u, .int (-1) v] }, toks:=tk }:=I.kept fun b o e=>Heap.get?_push_of_some _ e
  refine ⟨(s.heap.push { cls:=.type "range", data:=.fields #[.int lo t, .int hi u, .int (-1) v] }).objs.size, [(s.heap.push { cls:=.type "range", data:=.fields #[.int lo t, .int hi u, .int (-1) v] }).objs.size], _, _, H, rfl,
    I1.kept (t':=tk) fun b o e=>Heap.get?_push_of_some _ e, KA _ lo (lo - hi).toNat, ?_, fun b hb=>?_, q⟩
  . have e1 : lo + ((0 : Nat) : Int) * -1 = lo := by simp
    have e2 : (((lo - hi).toNat : Nat) : Int) - ((0 : Nat) : Int) = Builtin.Range.rangeSize lo hi (-1):=by rw [Zt]; split <;> omega
    show IsRangeIter _ _ (lo + ((0 : Nat) : Int) * -1) ((((lo - hi).toNat : Nat) : Int) - ((0 : Nat) : Int)) (-1)
    rw [e1, e2]
    exact Heap.get?_push_size _ rfl
  . have e : b = (s.heap.push { cls := .type "range", data := .fields #[.int lo t, .int hi u, .int (-1) v] }).objs.size := by simpa using hb
    subst e
    exact I1.fpOk (Nat.le_refl _) (I1.hok.fresh (Nat.le_refl _))
theorem KP {a b c : Expr} {ta : TA} {p pos : Pos} (hg : Gl X "range") (hm : X.mg "range" = none) (ha : PA X [a, b, c] ta) (hs : starEach [a, b, c] X.env = [(false, eval a X.env), (false, eval b X.env), (false, eval c X.env)]:=by rfl) (hs2 : starEach [b, c] X.env = [(false, eval b X.env), (false, eval c X.env)]:=by rfl) :
    PI X tg (.Call (.Name "range" p) [a, b, c] [] pos) (Ba ta):=by
  intro pins s σ H R I h
  refine Call_ (Qr I hg hm boot_range (PyProof.Rows.callWith_type1 (thn (ha pos pins s σ H _ I h) fun us s1 ⟨vs, H1, I1, r1, q1⟩=>?_) (by rw [hs, hs2]) (by rw [hs2]; rfl)))
  obtain ⟨i, j, e, ⟨q1, q2, q3, q4⟩, q⟩:=q1
  subst e
  cases r1 with
  | cons r rr=>
    cases rr with
    | cons r' rr=>
      cases rr with
      | cons r'' rr=>
        cases rr
        obtain ⟨t, rfl⟩:=r
        obtain ⟨t', rfl⟩:=r'
        obtain ⟨t'', rfl⟩:=r''
        exact call_range_3 (by decide) (DJ I1 q1 q2 q3 q4 q) (.inl (PyProof.noPylong_of_log2 (by decide +kernel)))
end
end L2
namespace L2
open PySem PySem.Spec PyProof.Rows
section
variable {K : PySem.W.Frag} {Er : Exc -> Hp -> Prop} {S : SC} {OO OO' : List (List Xx)} {σ : St} {α β γ : Type}
theorem GY {ta tb : TE} {r : Enc α} [z : MonoE r] {ma mb : Res (List α)} (ha : EvB K Er S OO σ ta (rPL r) ma) (hb : EvB K Er S OO σ tb (rPL r) mb) : EvB K Er S OO σ (tOp (FC K) ta tb) (rPL r) (ma.bind fun as=>mb.bind fun bs=>chk (0 < bs.length /\ as.length + bs.length <= sizeLine) (.ok (as ++ bs))):=fun H Q w s P=>
  ha.run w s FB.tr P fun as x H1 s1 w1 q1 ⟨p, xs, e, q, pr⟩ P1=>hb.run w1 q1 FB.tr P1 fun bs y H2 s2 w2 q2 ⟨p', ys, e', q', pr'⟩ P2=>by
    obtain ⟨⟨h1, h2⟩, P3⟩:=PZ.chk P2
    have hl:=Paired.len pr
    have hl':=Paired.len pr'
    have pr2 : Paired (r K H2) xs as:=Paired.imp2 (fun _ _ h=>z.mono s2 h) pr
    refine ⟨p, p', xs, ys, e, e', SqT.of (s2 _ _ q), SqT.of q', fun z=>by rw [z] at hl'; simp at hl'; omega, by rw [hl, hl']; exact h2, fun hz=>?_, fun _ a ha=>P3 _ _ (XH ha _) ⟨a, _, rfl, Yn, Paired.imp2 (fun _ _ h=>z.mono (XH ha _) h) (Paired.app pr2 pr')⟩⟩
    subst hz
    have ha : as = []:=List.length_eq_zero_iff.mp (by rw [← hl]; rfl)
    subst ha
    exact P3 _ H2 (Xo.refl _) ⟨p', ys, rfl, q', pr'⟩
noncomputable def QZ (lo hi : Int) : List Int:=(List.range (lo - hi).toNat).map fun (i : Nat)=>lo - (i : Int)
theorem UK {lo hi : Int} {i : Nat} {a : Int} (h : (QZ lo hi)[i]? = some a) : a = lo - i /\ i < (lo - hi).toNat:=by
  unfold QZ at h
  rw [List.getElem?_map] at h
  rcases Nat.lt_or_ge i (lo - hi).toNat with q | q
  . rw [List.getElem?_range q] at h; exact ⟨(Option.some.inj h).symm, q⟩
  . rw [List.getElem?_eq_none (by simpa using q)] at h; cases h
theorem Uv {lo hi : Int} : (QZ lo hi).length = (lo - hi).toNat:=by simp [QZ]
noncomputable def Bw (lo hi st : Int) : Res (List Int):=chk (st = -1 /\ -(2 ^ 62) <= lo /\ lo < 2 ^ 62 /\ -(2 ^ 62) <= hi /\ hi < 2 ^ 62) (.ok (QZ lo hi))
theorem Vg {ta tb tc : TE} {ma mb mc : Res Int} (ha : EvB K Er S OO σ ta Xb ma) (hb : EvB K Er S OO σ tb Xb mb) (hc : EvB K Er S OO σ tc Xb mc) : Walk K Er S OO σ (Ba (Xw ta (Xw tb (Xw tc Zn)))) Xb (ma.bind fun lo=>mb.bind fun n=>mc.bind fun st=>Bw lo n st):=⟨fun {H R} w s P=>
  ha.run w s (fun as H H' s' h J H2 s2=>h J H2 (s'.trans s2)) P fun lo v H1 s1 w1 q1 r1 P1=>hb.run w1 q1 (fun as H H' s' h J H2 s2=>h J H2 (s'.trans s2)) P1 fun n v2 H2 s2 w2 q2 r2 P2=>hc.run w2 q2 (fun as H H' s' h J H2 s2=>h J H2 (s'.trans s2)) P2 fun st v3 H3 s3 w3 q3 r3 P3'=>by
    obtain ⟨c, hc, P3⟩:=P3'.okOf fun x=>Zi
    obtain ⟨⟨h0, h1⟩, h3⟩:=YE hc
    cases h3
    subst h0
    refine ⟨lo, n, by rw [show v = .int lo from r1, show v2 = .int n from r2, show v3 = .int (-1) from r3], h1, P3 _ H3 (Xo.refl _) (fun i a ha OO2 H4 w4 m4=>?_) fun OO2 H4 w4 m4=>?_⟩
    . obtain ⟨e1, e2⟩ := UK ha
      refine ⟨e2, fun x H5 ⟨e3, e4⟩=>?_⟩
      subst e3
      exact ⟨Xo.refl _, by rw [e4, e1]; rfl⟩
    . show (lo - n).toNat <= _
      rw [Uv]; exact Nat.le_refl _⟩
theorem Da {te : TE} {o1 : OE α} {o2 : OE γ} [z : MonoO o1] {m : Res (α × γ)} (he : Ev K Er S OO OO' σ te (oT2 o1 o2) m) : Ev K Er S OO OO' σ (tOp (Ce K) te (tC (.int 0))) o1 (m.bind fun p=>.ok p.1):=fun H Q w s P=>by
  refine he H _ w s ?_
  cases m with
  | bad=>exact P
  | err x=>exact P
  | ok a=>
    intro v C H1 s1 w1 m1 ⟨p, x', y, C1, C2, e, q, h1, h2, c⟩
    subst c
    have hs : Xo (hid H1 ((C1 ++ C2) :: OO')) (hid H1 (C1 :: OO')):=Za (Xo.refl _) fun b hb=>by
      rw [Yy] at hb ⊢
      rw [List.map_append, List.append_assoc]
      rcases List.mem_append.mp hb with z | z
      . exact List.mem_append_left _ z
      . exact List.mem_append_right _ (List.mem_append_right _ z)
    have P2 : FO K OO OO' o1 Q a.1 H:=P
    refine ⟨p, _, 0, x', e, rfl, SqT.of (XG _ _ q), rfl, P2 x' C1 H1 s1 (w1.sub ?_) (m1.trans hs) (z.mono hs h1)⟩
    simp only [List.flatten_cons, List.append_assoc]
    exact List.Sublist.append_left (List.sublist_append_right _ _) _
theorem P3.reverse {δ : Type} {F : α -> γ -> δ -> Prop} : ∀ {l m n}, P3 F l m n -> P3 F l.reverse m.reverse n.reverse:=fun p=>by
  induction p with
  | nil=>exact .nil
  | cons r _ ih=>rw [List.reverse_cons, List.reverse_cons, List.reverse_cons]; exact ih.snoc r
variable {u : TS} {Fd : Ends -> β -> Hp -> Prop} [fd : FdOk Fd]
theorem Bk {o : OE α} [MonoO o] {f : List α -> Res β} {v : V} {as : List α} {C : List Xx} (i k : Nat) (hσ : σ[i]? = some (some v)) (hk : OO[k]? = some C) (h : ∀ x, S.p x -> oL o K x v as C)
    (hr : ∀ C', Sv Er (S.addO K (oL o) v as.reverse C') (OO.set k C') σ u Fd (f as.reverse)) : Sv Er S OO σ (Z5 (Uy (BH K "list" V9 (Vc i))) u) Fd (f as.reverse):=fun H D w s P=>by
  obtain ⟨p, xs, Cs, e, q, c⟩:=h _ s
  subst c e
  have hH : H p = some (.lst xs):=w.tr (p, .lst xs) (List.mem_flatten.mpr ⟨_, List.mem_of_getElem? hk, List.mem_cons_self⟩)
  have nd:=Y1 w.nil hk
  rw [List.append_nil] at nd
  have hp : Cs.reverse.flatten.Perm Cs.flatten:=(List.reverse_perm Cs).flatten
  obtain ⟨w3, m3⟩:=CS (D:=[]) (xs':=xs.reverse) (Cs':=Cs.reverse) w.nil hk (fun c hc=>List.mem_append_left _ (hp.mem_iff.mp hc)) ((hp.map _).nodup_iff.mpr nd)
  rw [Yi] at m3
  refine ⟨.ref p, hσ, .inl ⟨rfl, _, SqL.of hH⟩, p, xs, rfl, rfl, hH, ?_⟩
  exact hr _ _ D w3 ⟨S.mono _ _ m3 s, ⟨p, _, _, rfl, P3.imp (fun _ _ _ z=>MonoO.mono m3 z) q.reverse, rfl⟩⟩ (PZ.tr (fd.tr D) m3 P)
theorem Be {t : TS} {o : OE α} [MonoO o] {f : α -> Res β} {v : V} {a : Option α} {C : List Xx} (h : ∀ x, S.p x -> Ve o K x v a C)
    (hr : ∀ a, Sv Er (S.addO K o v a C) OO σ t Fd (f a)) : Sv Er S OO σ t Fd ((Cg a).bind f):=fun H D w s P=>by
  cases a with
  | none=>exact P.elim
  | some a=>exact hr a H D w ⟨s, (h _ s).2⟩ P
noncomputable def KL (as : List α) : Res (α × List α):=match as.getLast? with
  | some a=>.ok (a, as.dropLast)
  | none=>.bad
theorem DB {r : Enc α} [MonoE r] {f : α × List α -> Res β} {v : V} {as : List α} {C : List Xx} (x i k : Nat) (hσ : σ[i]? = some (some v)) (hk : OO[k]? = some C) (h : ∀ x, S.p x -> oL (oF r) K x v as C)
    (hr : ∀ a bs y C', Sv Er ((S.add K r y a).addO K (oL (oF r)) v bs C') (OO.set k C') (σ.set x (some y)) u Fd (f (a, bs))) : Sv Er S OO σ (Z5 (Fw (BH K "list" Eb (Vc i)) (Z6 x)) u) Fd ((KL as).bind f):=fun H D w s P=>by
  obtain ⟨p, xs, Cs, e, q, c⟩:=h _ s
  subst c e
  unfold KL at P
  cases ha : as.getLast? with
  | none=>rw [ha] at P; exact P.elim
  | some a=>
    rw [ha] at P
    have hH : H p = some (.lst xs):=w.tr (p, .lst xs) (List.mem_flatten.mpr ⟨_, List.mem_of_getElem? hk, List.mem_cons_self⟩)
    have nd:=Y1 w.nil hk
    rw [List.append_nil] at nd
    obtain ⟨w3, m3⟩:=CS (D:=[]) (xs':=xs.dropLast) (Cs':=Cs.dropLast) w.nil hk (fun c hc=>List.mem_append_left _ ((ZC Cs).subset hc)) (nd.sublist ((ZC Cs).map _))
    rw [Yi] at m3
    rw [List.getLast?_eq_getElem?, ← q.len.1] at ha
    obtain ⟨y, c, hy, _, _, ry⟩:=P3.get q ha
    refine ⟨.ref p, hσ, .inl ⟨rfl, _, SqL.of hH⟩, p, xs, y, rfl, rfl, hH, hy, ?_⟩
    exact hr a as.dropLast y _ _ D w3 ⟨⟨S.mono _ _ m3 s, MonoE.mono m3 ry⟩, ⟨p, _, _, rfl, P3.imp (fun _ _ _ z=>MonoO.mono m3 z) q.dropLast, rfl⟩⟩ (PZ.tr (fd.tr D) m3 P)
end
end L2
namespace L2
open PySem PySem.Spec PyProof.Rows
section
variable {K : PySem.W.Frag} {Er : Exc -> Hp -> Prop} {S : SC} {OO : List (List Xx)} {σ : St} {α β γ ι : Type} {u : TS} {Fd : Ends -> β -> Hp -> Prop} [fd : FdOk Fd]
noncomputable def Jn.wR (J : Jn γ ι) (k : Nat) (R : List Xx) : Jn γ ι:={ oo:=fun x=>(J.oo x).set k R, ss:=J.ss, sc:=J.sc }
theorem Fs {k : Nat} {C : List Xx} (hk : OO[k]? = some []) : (OO.set k C).flatten.Perm (C :: OO).flatten:=by
  have hlt : k < OO.length:=(List.getElem?_eq_some_iff.mp hk).1
  have h1 : (OO.set k C)[k]? = some C:=by simp [hlt]
  have h2:=XQ h1
  rw [List.set_set] at h2
  have h3 : OO.set k [] = OO:=by
    refine List.ext_getElem? fun i=>?_
    by_cases e : k = i
    . subst e; rw [hk]; simp [hlt]
    . simp [e]
  rw [h3] at h2
  exact h2.symm
theorem Dt {te : TE} {tb : TS} {o : OE α} [z : MonoO o] {m : Res (List α)} {body : γ -> α -> Res γ} {f : γ -> Res β} (J : Jn γ ι) (kx kr ix : Nat) (x0 : ι) (g0 : γ) (he : Ev K Er S OO OO σ te (oL o) m) (h1 : OO = J.oo x0) (h2 : σ = J.ss x0) (h3 : ∀ h, S.p h -> (J.sc g0 x0).p h)
    (hkx : ∀ x, (J.oo x)[kx]? = some []) (hkr : ∀ x, (J.oo x)[kr]? = some []) (hne : kr ≠ kx)
    (hb : ∀ R g x a v C, Sv Er ((J.sc g x).addO K o v a C) (((J.oo x).set kr R).set kx C) ((J.ss x).set ix (some v)) tb (FNd (J.wR kr R)) (body g a))
    (hr : ∀ g x, Sv Er (J.sc g x) (J.oo x) (J.ss x) u Fd (f g)) : Sv Er S OO σ (Z5 (Cf (KB K te) (Z6 ix) tb) u) Fd (m.bind fun as=>(forN as g0 body).bind f):=fun H D w s P=>by
  refine he H _ w s ?_
  cases em : m with
  | bad=>rw [em] at P; exact P
  | err x=>rw [em] at P; exact fun H' s'=>P H' (XG.trans s')
  | ok as=>
    rw [em] at P
    have P : PZ Er (Fd D) (hid H OO) ((forN as g0 body).bind f):=P
    intro v C H' s' w' m' ⟨p, xs, Cs, e, q, c⟩
    subst c e
    have hp':=w'.cell (p, .lst xs) List.mem_cons_self
    have hlen:=q.len
    let R : Nat -> List Xx:=fun i=>(p, HO.lst xs) :: (Cs.drop i).flatten
    have e0 : R 0 = (p, HO.lst xs) :: Cs.flatten:=by show _ :: (Cs.drop 0).flatten = _; rw [List.drop_zero]
    have pm0 : ∀ x i, ((J.oo x).set kr (R i)).flatten.Perm (R i :: J.oo x).flatten:=fun x i=>Fs (hkr x)
    have hin : ∀ {x i H2}, W ((J.oo x).set kr (R i)) H2 -> SqL K H2 p xs:=fun {x i H2} w2=>SqL.of ((w2.of (pm0 x i).symm).cell (p, .lst xs) List.mem_cons_self)
    refine ⟨p, rfl, ⟨xs, SqL.of hp'⟩, fun i mm σ' H2=>mm = as.length - i /\ i <= as.length /\ ∃ x gg, σ' = J.ss x /\ W ((J.oo x).set kr (R i)) H2 /\ Xo (hid H' (((p, HO.lst xs) :: Cs.flatten) :: OO)) (hid H2 ((J.oo x).set kr (R i))) /\ (J.sc gg x).p (hid H2 ((J.oo x).set kr (R i))) /\ PZ Er (Fd D) (hid H2 ((J.oo x).set kr (R i))) ((forN (as.drop i) gg body).bind f), ⟨as.length, rfl, Nat.zero_le _, x0, g0, h2, ?_⟩, ?_⟩
    . have pm : ((J.oo x0).set kr (R 0)).flatten.Perm (((p, HO.lst xs) :: Cs.flatten) :: OO).flatten := by rw [h1, ← e0]; exact pm0 x0 0
      rw [XJ pm, List.drop_zero]
      exact ⟨w'.of pm, Xo.refl _, h3 _ (S.mono _ _ m' s), PZ.tr (fd.tr D) m' P⟩
    . rintro i mm σ' H2 ⟨rfl, hi, x, gg, rfl, w2, m2, sc2, P2⟩
      by_cases hlt : i < as.length
      . right
        have ha : as[i]? = some as[i]:=by simp [hlt]
        obtain ⟨y0, c0, hy0, hc0, ho0⟩:=P3.get q ha
        have hq:=hin w2
        refine ⟨⟨xs, y0, hq, hy0⟩, fun σ3 H3=>∃ x gg, σ3 = J.ss x /\ W ((J.oo x).set kr (R (i + 1))) H3 /\ Xo (hid H' (((p, HO.lst xs) :: Cs.flatten) :: OO)) (hid H3 ((J.oo x).set kr (R (i + 1)))) /\ (J.sc gg x).p (hid H3 ((J.oo x).set kr (R (i + 1)))) /\ PZ Er (Fd D) (hid H3 ((J.oo x).set kr (R (i + 1)))) ((forN (as.drop (i + 1)) gg body).bind f), fun σ3 H3 q=>⟨as.length - (i + 1), Nat.sub_lt_sub_left hlt (Nat.lt_succ_self i), rfl, hlt, q⟩, fun y H3 ⟨e3, hy⟩=>?_⟩
        subst e3
        have hyy:=hy xs hq
        rw [hy0] at hyy
        cases hyy
        have hkx2 : ((J.oo x).set kr (R (i + 1)))[kx]? = some []:=by rw [List.getElem?_set_ne hne]; exact hkx x
        have hcl : i < Cs.length:=(List.getElem?_eq_some_iff.mp hc0).1
        have hc1 : Cs[i] = c0:=(List.getElem?_eq_some_iff.mp hc0).2
        have pm : (((J.oo x).set kr (R (i + 1))).set kx c0).flatten.Perm ((J.oo x).set kr (R i)).flatten:=by
          refine (Fs hkx2).trans (List.Perm.trans ?_ (pm0 x i).symm)
          rw [List.flatten_cons]
          refine ((pm0 x (i + 1)).append_left c0).trans ?_
          show (c0 ++ (((p, HO.lst xs) :: (Cs.drop (i + 1)).flatten) :: J.oo x).flatten).Perm (((p, HO.lst xs) :: (Cs.drop i).flatten) :: J.oo x).flatten
          rw [List.drop_eq_getElem_cons hcl, hc1]
          simp only [List.flatten_cons, List.cons_append, List.append_assoc]
          exact List.perm_middle
        have w3:=w2.of pm
        have eh:=XJ (H:=H3) pm
        refine hb (R (i + 1)) gg x as[i] y0 c0 H3 _ w3 ⟨by rw [eh]; exact sc2, by rw [eh]; exact z.mono m2 ho0⟩ ?_
        rw [eh]
        rw [List.drop_eq_getElem_cons hlt] at P2
        have P3 : PZ Er (Fd D) (hid H3 ((J.oo x).set kr (R i))) ((body gg as[i]).bind fun g'=>(forN (as.drop (i + 1)) g' body).bind f):=by rw [← XF]; exact P2
        cases eb : body gg as[i] with
        | bad=>rw [eb] at P3; exact P3
        | err x=>rw [eb] at P3; exact P3
        | ok g'=>
          rw [eb] at P3
          exact fun x' H4 w4 m4 sc4=>⟨x', g', rfl, w4, m2.trans m4, sc4, PZ.tr (fd.tr D) m4 P3⟩
      . left
        have e : i = as.length:=Nat.le_antisymm hi (Nat.not_lt.mp hlt)
        subst e
        have hs : Xo (hid H2 ((J.oo x).set kr (R as.length))) (hid H2 (J.oo x)):=by
          rw [XJ (pm0 x as.length)]
          exact Za (Xo.refl _) fun b hb=>by rw [Yy]; exact List.mem_append_right _ hb
        refine ⟨⟨xs, hin w2, by rw [hlen.1]; exact Nat.le_refl _⟩, hr gg x H2 D ((w2.of (pm0 x as.length).symm).tail) ((J.sc gg x).mono _ _ hs sc2) ?_⟩
        rw [List.drop_length] at P2
        exact PZ.tr (fd.tr D) hs P2
end
end L2
namespace L2
open PySem PySem.Spec PyProof.Rows
section
variable {K : PySem.W.Frag} {Er : Exc -> Hp -> Prop} {S : SC} {OO : List (List Xx)} {σ : St} {α β : Type}
theorem GJ {te : TE} {o : OE α} {q : OE β} [z : MonoO o] [y : MonoO q] {v : V} {a : α} {C : List Xx} {m : Res β} (i k : Nat) (hσ : σ[i]? = some (some v)) (hk : OO[k]? = some C) (h : ∀ x, S.p x -> o K x v a C) (he : Ev K Er S OO OO σ te q m) :
    Ev K Er S OO (OO.set k []) σ (Cm (Xw (Vc i) (Xw te Zn))) (oT2 o q) ((Res.ok a).bind fun a=>m.bind fun b=>.ok (a, b)):=fun H Q w s P=>by
  refine ⟨v, hσ, he H _ w s ?_⟩
  have P1 : PZ Er (FO K OO (OO.set k []) (oT2 o q) Q) H (m.bind fun b=>.ok (a, b)):=P
  cases en : m with
  | bad=>rw [en] at P1; exact P1
  | err x=>rw [en] at P1; exact P1
  | ok b=>
    rw [en] at P1
    have P2 : FO K OO (OO.set k []) (oT2 o q) Q (a, b) H:=P1
    intro v2 C2 H2 s2 w2 m2 ho2
    have pm : ((C ++ C2) :: OO.set k []).flatten.Perm (C2 :: OO).flatten:=by
      have h1:=XQ hk
      simp only [List.flatten_cons] at h1 ⊢
      refine List.Perm.trans ?_ (h1.append_left C2)
      rw [List.append_assoc]
      exact List.perm_append_comm_assoc ..
    refine ⟨by show 2 <= sizeLine; decide, fun p hp=>P2 (.ref p) (C ++ C2) _ (s2.trans (XH hp _)) ((w2.of pm).keep (XH hp _)) ?_ ?_⟩
    . rw [XJ pm]
      exact m2.trans (Xj (XH hp _))
    . rw [XJ pm]
      exact ⟨p, v, v2, C, C2, rfl, ZH w2 hp, z.mono (m2.trans (Xj (XH hp _))) (h _ s), y.mono (Xj (XH hp _)) ho2, rfl⟩
end
end L2
namespace My
open PySem L2
noncomputable def X2 (a_0 : Int) (a_1 : Int) : Res Unit:=(Res.bind (Res.bind (Res.ok a_1) fun x5=>(Res.bind (Res.ok a_0) fun x6=>(Res.ok (decide (x6 < x5))))) fun x7=>(if x7 = true then Res.bad else (Res.ok ())))
noncomputable def XZ (a_0 : (List (List Int))) (a_1 : (List (List Int))) : Res Unit:=(Res.bind (Res.bind (Res.ok (6 : Int)) fun x10=>(Res.bind (Res.bind (Res.bind (Res.ok a_0) fun x6=>(Res.ok (x6.length : Int))) fun x8=>(Res.bind (Res.bind (Res.ok a_1) fun x7=>(Res.ok (x7.length : Int))) fun x9=>(Res.ok (max x8 x9)))) fun x11=>(noE (X2 x10 x11)))) fun x12=>(Res.ok ()))
noncomputable def Xp (a_0 : (List (List Int))) (a_1 : (List (List Int))) (a_2 : (List Int)) (a_3 : Int) (a_4 : Int) : Res Bool:=(Res.bind (Res.bind (Res.bind (Res.ok a_0) fun x3=>(Res.bind (Res.ok a_3) fun x4=>(atR x3 x4))) fun x5=>(Res.bind (Res.ok a_4) fun x6=>(atR x5 x6))) fun a1=>(ZS (Res.bind (Res.ok a1) fun x8=>(Res.bind (Res.bind (Res.ok a_2) fun x7=>(Res.ok (x7.length : Int))) fun x9=>(Res.ok (decide (x8 < x9))))) (Res.bind (Res.bind (Res.bind (Res.ok a_1) fun x12=>(Res.bind (Res.bind (Res.ok a_2) fun x10=>(Res.bind (Res.ok a_3) fun x11=>(atR x10 x11))) fun x13=>(atR x12 x13))) fun x16=>(Res.bind (Res.bind (Res.ok a_2) fun x14=>(Res.bind (Res.ok a_4) fun x15=>(atR x14 x15))) fun x17=>(atR x16 x17))) fun x20=>(Res.bind (Res.bind (Res.ok a_2) fun x18=>(Res.bind (Res.ok a1) fun x19=>(atR x18 x19))) fun x21=>(Res.ok (!(decide (x20 = x21))))))))
noncomputable def X3 (a_0 : (List (List Int))) (a_1 : (List (List Int))) (a_2 : (List Int)) : Res (Option (Int × Int)):=(Res.bind (Res.bind (Res.bind (Res.ok a_2) fun x1=>(Res.ok (x1.length : Int))) fun x2=>(J9 0 x2)) fun x35=>(Res.bind (forC x35 () (fun g5 a7=>(Res.bind (Res.bind (Res.bind (Res.ok a_2) fun x9=>(Res.ok (x9.length : Int))) fun x10=>(J9 0 x10)) fun x32=>(Res.bind (forC x32 () (fun g13 a15=>(Res.bind (Res.bind (Res.ok a_0) fun x18=>(Res.bind (Res.ok a_1) fun x19=>(Res.bind (Res.ok a_2) fun x20=>(Res.bind (Res.ok a7) fun x21=>(Res.bind (Res.ok a15) fun x22=>(noE (Xp x18 x19 x20 x21 x22))))))) fun x23=>(if x23 = true then (Res.bind (Res.bind (Res.bind (Res.ok a7) fun x24=>(Res.bind (Res.ok a15) fun x25=>(Res.ok (x24, x25)))) fun x26=>(Res.ok (some x26))) fun x28=>(Res.ok (Ctl.ret x28))) else (Res.bind (Res.ok ()) fun x27=>(Res.ok (Ctl.nx x27))))))) (Yv fun g29=>(Res.bind (Res.ok ()) fun x31=>(Res.ok (Ctl.nx x31)))))))) (YX fun g33=>(Res.ok none))))
noncomputable def XY (a_0 : (List Int)) (a_1 : Int) : Res (List (List Int)):=(Res.bind (Res.bind (Res.bind (Res.ok a_1) fun x1=>(Res.bind (Res.ok (1 : Int)) fun x2=>(Res.ok (x1 - x2)))) fun x5=>(Res.bind (Res.bind (Res.ok (1 : Int)) fun x3=>(Res.ok (-x3))) fun x6=>(Res.bind (Res.bind (Res.ok (1 : Int)) fun x4=>(Res.ok (-x4))) fun x7=>(Bw x5 x6 x7)))) fun x11=>(Bn x11 (fun a9=>(Res.bind (Res.ok a9) fun x17=>(Res.bind (Res.ok a_0) fun x18=>(Res.ok (!(decide (x17 ∈ x18))))))) (fun a9=>(Res.bind (Res.ok a_0) fun x15=>(Res.bind (Res.bind (Res.bind (Res.ok a9) fun x12=>(Res.bind (Res.ok []) fun x13=>(Res.ok (x12 :: x13)))) fun x14=>(chk (x14.length <= sizeLine) (Res.ok x14))) fun x16=>(chk (0 < x16.length /\ x15.length + x16.length <= sizeLine) (Res.ok (x15 ++ x16))))))))
noncomputable def Yl (a_0 : (List (List Int))) (a_1 : (List (List Int))) : Res ((Option (List Int)) × (List ((List Int) × Int × Int))):=(Res.bind (Res.ok []) fun a1=>(Res.bind (Res.bind (Res.bind (Res.bind (Res.ok a_0) fun x7=>(Res.ok (x7.length : Int))) fun x9=>(Res.bind (Res.bind (Res.ok a_1) fun x8=>(Res.ok (x8.length : Int))) fun x10=>(Res.ok (decide (x9 = x10))))) fun x15=>(if x15 = true then (Res.bind (Res.bind (Res.bind (Res.ok []) fun x12=>(chk (x12.length <= sizeLine) (Res.ok x12))) fun x13=>(Res.bind (Res.ok []) fun x14=>(Res.ok (x13 :: x14)))) fun x11=>(chk (x11.length <= sizeLine) (Res.ok x11))) else (Res.ok []))) fun a4=>(Res.bind (Zw (a_0.length + 100000) (a4, a1) (fun g18=>(Res.bind (Res.bind (Res.ok g18.1) fun x20=>(Res.ok (x20.length : Int))) fun x21=>(Res.bind (Res.ok (0 : Int)) fun x22=>(Res.ok (decide (x22 < x21)))))) (fun g18=>(Res.bind (KL g18.1) (fun p27=>(fun a23 a24=>(Res.bind (Res.bind (Res.ok a_0) fun x31=>(Res.bind (Res.ok a_1) fun x32=>(Res.bind (Res.ok a23) fun x33=>(noE (X3 x31 x32 x33))))) fun a28=>(Res.bind (Res.bind (Res.bind (Res.ok a28) fun x34=>(Res.ok x34.isSome)) fun x35=>(if x35 = true then (Res.bind (Res.bind (Res.ok a23) fun x40=>(Res.bind (Res.bind (Res.bind (Res.ok a28) Cg) fun x38=>(Res.ok x38.1)) fun x41=>(Res.bind (Res.bind (Res.bind (Res.ok a28) Cg) fun x39=>(Res.ok x39.2)) fun x42=>(Res.ok (x40, x41, x42))))) fun a43=>(chk (g18.2.length < sizeLine) ((fun a45=>(Res.bind (Res.ok (a45, a24)) fun x46=>(Res.ok (Ctl.nx x46)))) (g18.2 ++ [a43])))) else (Res.bind (Res.bind (Res.bind (Res.bind (Res.ok a23) fun x47=>(Res.ok (x47.length : Int))) fun x49=>(Res.bind (Res.bind (Res.ok a_0) fun x48=>(Res.ok (x48.length : Int))) fun x50=>(Res.ok (decide (x49 = x50))))) fun x51=>(if x51 = true then (Res.bind (Res.bind (Res.bind (Res.bind (Res.ok a23) fun x54=>(Res.ok x54)) fun x55=>(Res.ok (some x55))) fun x56=>(Res.bind (Res.ok g18.2) fun x57=>(Res.ok (x56, x57)))) fun x58=>(Res.ok (Ctl.ret x58))) else (Res.bind (Res.bind (Res.ok a23) fun x61=>(Res.bind (Res.bind (Res.ok a_1) fun x60=>(Res.ok (x60.length : Int))) fun x62=>(noE (XY x61 x62)))) fun a63=>(chk (a24.length + a63.length <= sizeLine) ((fun a65=>(Res.bind (Res.ok (a65)) fun x66=>(Res.ok (Ctl.nx x66)))) (a24 ++ a63)))))) (Yv fun g68=>(Res.bind (Res.ok (g18.2, g68)) fun x69=>(Res.ok (Ctl.nx x69))))))) (Yv fun g71=>(Res.bind (Res.ok (g71.2, g71.1)) fun x72=>(Res.ok (Ctl.nx x72))))))) p27.1 p27.2)))) (YX fun g73=>(Res.bind (Res.ok none) fun x75=>(Res.bind (Res.ok g73.2) fun x76=>(Res.ok (x75, x76))))))))
noncomputable def Zb (a_0 : (List (List Int))) (a_1 : (List (List Int))) : Res (Option (List Int)):=(Res.bind (Res.bind (Res.ok a_0) fun x2=>(Res.bind (Res.ok a_1) fun x3=>(noE (XZ x2 x3)))) fun x4=>(Res.bind (Res.bind (Res.ok a_0) fun x6=>(Res.bind (Res.ok a_1) fun x7=>(noE (Yl x6 x7)))) fun x8=>(Res.ok x8.1)))
noncomputable def Qn (a_0 : (List Int)) (a_1 : Int) : Res Int:=(Res.bind (Res.bind (Res.ok a_1) fun x2=>(Res.bind (Res.bind (Res.ok a_0) fun x1=>(Res.ok (x1.length : Int))) fun x3=>(Res.ok (decide (x2 < x3))))) fun x4=>(if x4 = true then (Res.bind (Res.ok a_0) fun x5=>(Res.bind (Res.ok a_1) fun x6=>(atR x5 x6))) else (Res.bind (Res.ok (5 : Int)) fun a7=>(Res.bind (Res.bind (Res.ok a_0) fun x10=>(Res.bind (Res.ok none) fun x11=>(Res.bind (Res.bind (Res.ok (63 : Int)) fun x9=>(Res.ok (some x9))) fun x12=>(Res.ok (UT x10 x11 x12))))) fun x39=>(Res.bind (forN x39 (a7) (fun g15 a17=>(Res.bind (Res.bind (Res.bind (Res.bind (Res.bind (Res.ok g15) fun x21=>(Res.bind (Res.ok (48271 : Int)) fun x22=>(Vb x21 x22))) fun x25=>(Res.bind (Res.bind (Res.ok a17) fun x23=>(Res.bind (Res.ok (1000003 : Int)) fun x24=>(Z2 x23 x24))) fun x26=>(Res.ok (x25 + x26)))) fun x27=>(Res.bind (Res.ok (1 : Int)) fun x28=>(Res.ok (x27 + x28)))) fun x29=>(Res.bind (Res.ok (2147483647 : Int)) fun x30=>(Z2 x29 x30))) fun a19=>(Res.ok (a19))))) fun g31=>(Res.bind (Res.bind (Res.ok g31) fun x35=>(Res.bind (Res.bind (Res.ok (7919 : Int)) fun x33=>(Res.bind (Res.ok a_1) fun x34=>(Vb x33 x34))) fun x36=>(Res.ok (x35 + x36)))) fun x37=>(Res.bind (Res.ok (1000003 : Int)) fun x38=>(Z2 x37 x38))))))))
noncomputable def Vi (a_0 : Int) (a_1 : Int) : Res Int:=(Res.bind (Res.bind (Res.bind (Res.bind (Res.bind (Res.bind (Res.ok a_0) fun x3=>(Res.bind (Res.ok (2147483629 : Int)) fun x4=>(Z2 x3 x4))) fun x7=>(Res.bind (Res.bind (Res.ok (1013 : Int)) fun x5=>(Res.bind (Res.ok a_1) fun x6=>(Vb x5 x6))) fun x8=>(Res.ok (x7 + x8)))) fun x9=>(Res.bind (Res.ok (7919 : Int)) fun x10=>(Res.ok (x9 + x10)))) fun x11=>(Res.bind (Res.ok (3 : Int)) fun x12=>(Bz x11 x12))) fun x13=>(Res.bind (Res.ok (2147483647 : Int)) fun x14=>(Z2 x13 x14))) fun a1=>(Res.bind (Res.bind (Res.bind (Res.bind (Res.bind (Res.ok a1) fun x17=>(Res.bind (Res.ok (40699 : Int)) fun x18=>(Vb x17 x18))) fun x23=>(Res.bind (Res.bind (Res.bind (Res.ok (3793 : Int)) fun x19=>(Res.bind (Res.ok a_1) fun x20=>(Vb x19 x20))) fun x21=>(Res.bind (Res.ok a_1) fun x22=>(Vb x21 x22))) fun x24=>(Res.ok (x23 + x24)))) fun x25=>(Res.bind (Res.ok (11 : Int)) fun x26=>(Res.ok (x25 + x26)))) fun x27=>(Res.bind (Res.ok (2147483399 : Int)) fun x28=>(Z2 x27 x28))) fun a15=>(Res.bind (Res.ok a15) fun x29=>(Res.bind (Res.ok (101 : Int)) fun x30=>(Ci x29 x30)))))
noncomputable def Qu (a_0 : (List Int)) (a_1 : Int) (a_2 : (List Int)) : Res (List Int):=(Res.bind (Res.bind (Res.ok a_0) fun x4=>(Res.bind (Res.ok a_1) fun x5=>(noE (Qn x4 x5)))) fun a1=>(Res.bind (Res.ok a1) fun a6=>(Res.bind (Res.ok []) fun a8=>(Res.bind (Res.bind (Res.bind (Res.ok a_2) fun x11=>(Res.ok (x11.length : Int))) fun x12=>(J9 0 x12)) fun x81=>(Res.bind (forN x81 (a8, a6) (fun g15 a17=>(Res.bind (Res.bind (Res.bind (Res.ok a1) fun x21=>(Res.bind (Res.bind (Res.ok (10 : Int)) fun x19=>(Res.bind (Res.ok (18 : Int)) fun x20=>(Bz x19 x20))) fun x22=>(Res.ok (decide (x21 < x22))))) fun x23=>(if x23 = true then (Res.bind (Res.bind (Res.bind (Res.ok a1) fun x27=>(Res.bind (Res.ok a17) fun x28=>(noE (Vi x27 x28)))) fun x31=>(Res.bind (Res.bind (Res.ok a_2) fun x29=>(Res.bind (Res.ok a17) fun x30=>(atR x29 x30))) fun x32=>(Z2 x31 x32))) fun a33=>(chk (g15.1.length < sizeLine) ((fun a35=>(Res.ok (a35, g15.2))) (g15.1 ++ [a33])))) else (Res.bind (Res.bind (Res.bind (Res.ok g15.2) fun x36=>(Res.bind (Res.ok (0 : Int)) fun x37=>(Res.ok (decide (x37 < x36))))) fun x38=>(if x38 = true then (Res.bind (Res.bind (Res.ok g15.2) fun x43=>(Res.bind (Res.bind (Res.ok a_2) fun x41=>(Res.bind (Res.ok a17) fun x42=>(atR x41 x42))) fun x44=>(Z2 x43 x44))) fun a45=>(chk (g15.1.length < sizeLine) ((fun a47=>(Res.bind (Res.bind (Res.ok g15.2) fun x52=>(Res.bind (Res.bind (Res.ok a_2) fun x50=>(Res.bind (Res.ok a17) fun x51=>(atR x50 x51))) fun x53=>(Ci x52 x53))) fun a48=>(Res.ok (a48, a47)))) (g15.1 ++ [a45])))) else (Res.bind (Res.bind (Res.ok a_0) fun x63=>(Res.bind (Res.bind (Res.bind (Res.bind (Res.ok a_1) fun x57=>(Res.bind (Res.ok (1 : Int)) fun x58=>(Res.ok (x57 + x58)))) fun x59=>(Res.bind (Res.ok a17) fun x60=>(Res.ok (x59 + x60)))) fun x61=>(Res.bind (Res.ok (63 : Int)) fun x62=>(Z2 x61 x62))) fun x64=>(noE (Qn x63 x64)))) fun a54=>(Res.bind (Res.bind (Res.bind (Res.ok a54) fun x66=>(Res.bind (Res.ok a17) fun x67=>(noE (Vi x66 x67)))) fun x70=>(Res.bind (Res.bind (Res.ok a_2) fun x68=>(Res.bind (Res.ok a17) fun x69=>(atR x68 x69))) fun x71=>(Z2 x70 x71))) fun a72=>(chk (g15.1.length < sizeLine) ((fun a74=>(Res.ok (g15.2, a74))) (g15.1 ++ [a72]))))))) fun g76=>(Res.ok (g76.2, g76.1))))) fun g78=>(Res.ok (g78.1, g78.2))))) fun g79=>(Res.ok g79.1))))))
noncomputable def YL (a_0 : Int) (a_1 : Int) (a_2 : Int) (a_3 : Int) (a_4 : Int) : Res Int:=(Res.bind (Res.bind (Res.ok a_1) fun x3=>(Res.bind (Res.ok (2 : Int)) fun x4=>(Ci x3 x4))) fun a1=>(Res.bind (Res.bind (Res.ok a_0) fun x5=>(Res.bind (Res.ok (1 : Int)) fun x6=>(Res.ok (decide (x5 = x6))))) fun x7=>(if x7 = true then (Res.bind (Res.bind (Res.bind (Res.ok (2 : Int)) fun x8=>(Res.bind (Res.ok a_4) fun x9=>(Vb x8 x9))) fun x10=>(Res.bind (Res.ok a_3) fun x11=>(Res.ok (x10 - x11)))) fun x12=>(Res.bind (Res.ok a_1) fun x13=>(Z2 x12 x13))) else (Res.bind (Res.bind (Res.ok a_0) fun x14=>(Res.bind (Res.ok (2 : Int)) fun x15=>(Res.ok (decide (x14 = x15))))) fun x16=>(if x16 = true then (Res.bind (Res.bind (Res.bind (Res.ok a_2) fun x17=>(Res.bind (Res.ok a_3) fun x18=>(Vb x17 x18))) fun x23=>(Res.bind (Res.bind (Res.bind (Res.ok (1 : Int)) fun x19=>(Res.bind (Res.ok a_2) fun x20=>(Res.ok (x19 - x20)))) fun x21=>(Res.bind (Res.ok a_4) fun x22=>(Vb x21 x22))) fun x24=>(Res.ok (x23 + x24)))) fun x25=>(Res.bind (Res.ok a_1) fun x26=>(Z2 x25 x26))) else (Res.bind (ZS (Res.bind (Res.ok a_0) fun x27=>(Res.bind (Res.ok (3 : Int)) fun x28=>(Res.ok (decide (x27 = x28))))) (ZS (Res.bind (Res.ok a_1) fun x29=>(Res.bind (Res.ok (2 : Int)) fun x30=>(Res.ok (decide (x30 < x29))))) (ZS (Res.bind (Res.ok a_3) fun x31=>(Res.bind (Res.ok (2 : Int)) fun x32=>(Res.ok (decide (x31 < x32))))) (Res.bind (Res.ok a_4) fun x35=>(Res.bind (Res.bind (Res.ok a_1) fun x33=>(Res.bind (Res.ok (1 : Int)) fun x34=>(Res.ok (x33 - x34)))) fun x36=>(Res.ok (decide (x35 = x36)))))))) fun x37=>(if x37 = true then (Res.bind (Res.ok (1 : Int)) fun x38=>(Res.bind (Res.ok a_3) fun x39=>(Res.ok (x38 - x39)))) else (Res.bind (ZS (Res.bind (Res.ok a_0) fun x40=>(Res.bind (Res.ok (6 : Int)) fun x41=>(Res.ok (decide (x40 = x41))))) (ZS (Res.bind (Res.ok a_3) fun x44=>(Res.bind (Res.bind (Res.ok a_1) fun x42=>(Res.bind (Res.ok (1 : Int)) fun x43=>(Res.ok (x42 - x43)))) fun x45=>(Res.ok (decide (x44 < x45))))) (Res.bind (Res.ok a_4) fun x48=>(Res.bind (Res.bind (Res.ok a_1) fun x46=>(Res.bind (Res.ok (1 : Int)) fun x47=>(Res.ok (x46 - x47)))) fun x49=>(Res.ok (decide (x48 = x49))))))) fun x50=>(if x50 = true then (Res.bind (Res.bind (Res.ok a_3) fun x51=>(Res.bind (Res.ok (1 : Int)) fun x52=>(Res.ok (x51 + x52)))) fun x55=>(Res.bind (Res.bind (Res.ok a_1) fun x53=>(Res.bind (Res.ok (1 : Int)) fun x54=>(Res.ok (x53 - x54)))) fun x56=>(Z2 x55 x56))) else (Res.bind (ZS (Res.bind (Res.ok a_0) fun x57=>(Res.bind (Res.ok (4 : Int)) fun x58=>(Res.ok (decide (x57 = x58))))) (ZS (Res.bind (Res.ok a_3) fun x59=>(Res.bind (Res.ok a1) fun x60=>(Res.ok (decide (x59 < x60))))) (Res.bind (Res.ok a_4) fun x61=>(Res.bind (Res.ok a1) fun x62=>(Res.ok (decide (x61 < x62))))))) fun x63=>(if x63 = true then (Res.bind (Res.bind (Res.bind (Res.ok (2 : Int)) fun x64=>(Res.bind (Res.ok a_4) fun x65=>(Vb x64 x65))) fun x66=>(Res.bind (Res.ok a_3) fun x67=>(Res.ok (x66 - x67)))) fun x68=>(Res.bind (Res.ok a1) fun x69=>(Z2 x68 x69))) else (Res.bind (ZS (Res.bind (Res.ok a_0) fun x70=>(Res.bind (Res.ok (4 : Int)) fun x71=>(Res.ok (decide (x70 = x71))))) (ZS (Res.bind (Res.ok a_3) fun x72=>(Res.bind (Res.ok a1) fun x73=>(Res.ok (decide (x73 <= x72))))) (Res.bind (Res.ok a_4) fun x74=>(Res.bind (Res.ok a1) fun x75=>(Res.ok (decide (x75 <= x74))))))) fun x76=>(if x76 = true then (Res.bind (Res.ok a1) fun x87=>(Res.bind (Res.bind (Res.bind (Res.bind (Res.bind (Res.ok (2 : Int)) fun x77=>(Res.bind (Res.ok a_4) fun x78=>(Vb x77 x78))) fun x79=>(Res.bind (Res.ok a_3) fun x80=>(Res.ok (x79 - x80)))) fun x81=>(Res.bind (Res.ok a1) fun x82=>(Res.ok (x81 - x82)))) fun x85=>(Res.bind (Res.bind (Res.ok a_1) fun x83=>(Res.bind (Res.ok a1) fun x84=>(Res.ok (x83 - x84)))) fun x86=>(Z2 x85 x86))) fun x88=>(Res.ok (x87 + x88)))) else (Res.ok a_3))))))))))))))
noncomputable def Zo (a_0 : Int) (a_1 : Int) : Res Int:=(Res.bind (Res.bind (Res.ok a_0) fun x1=>(Res.ok (x1.natAbs : Int))) fun a3=>(Res.bind (Res.bind (Res.ok a_1) fun x2=>(Res.ok (x2.natAbs : Int))) fun a4=>(Res.bind (Z0 (a3.natAbs + a4.natAbs + 2) (a3, a4) (fun g9=>(Res.bind (Res.ok g9.2) fun x11=>(Res.bind (Res.ok (0 : Int)) fun x12=>(Res.ok (decide (x12 < x11)))))) (fun g9=>(Res.bind (Res.ok g9.2) fun a15=>(Res.bind (Res.bind (Res.ok g9.1) fun x13=>(Res.bind (Res.ok g9.2) fun x14=>(Z2 x13 x14))) fun a16=>(Res.ok (a15, a16)))))) fun g19=>(Res.ok g19.1))))
noncomputable def ZZ (a_0 : Int) (a_1 : Int) (a_2 : Int) : Res (List (List Int)):=(Res.bind (ZS (Res.bind (Res.ok a_0) fun x1=>(Res.bind (Res.ok (5 : Int)) fun x2=>(Res.ok (decide (x1 = x2))))) (Res.bind (Res.ok a_1) fun x3=>(Res.bind (Res.ok (4 : Int)) fun x4=>(Res.ok (decide (x3 = x4)))))) fun x5=>(if x5 = true then (Res.bind (Res.bind (Res.bind (Res.bind (Res.ok (0 : Int)) fun x14=>(Res.bind (Res.bind (Res.ok (3 : Int)) fun x12=>(Res.bind (Res.bind (Res.ok (1 : Int)) fun x10=>(Res.bind (Res.bind (Res.ok (2 : Int)) fun x8=>(Res.bind (Res.ok []) fun x9=>(Res.ok (x8 :: x9)))) fun x11=>(Res.ok (x10 :: x11)))) fun x13=>(Res.ok (x12 :: x13)))) fun x15=>(Res.ok (x14 :: x15)))) fun x7=>(chk (x7.length <= sizeLine) (Res.ok x7))) fun x49=>(Res.bind (Res.bind (Res.bind (Res.bind (Res.ok (2 : Int)) fun x23=>(Res.bind (Res.bind (Res.ok (1 : Int)) fun x21=>(Res.bind (Res.bind (Res.ok (3 : Int)) fun x19=>(Res.bind (Res.bind (Res.ok (0 : Int)) fun x17=>(Res.bind (Res.ok []) fun x18=>(Res.ok (x17 :: x18)))) fun x20=>(Res.ok (x19 :: x20)))) fun x22=>(Res.ok (x21 :: x22)))) fun x24=>(Res.ok (x23 :: x24)))) fun x16=>(chk (x16.length <= sizeLine) (Res.ok x16))) fun x47=>(Res.bind (Res.bind (Res.bind (Res.bind (Res.ok (3 : Int)) fun x32=>(Res.bind (Res.bind (Res.ok (0 : Int)) fun x30=>(Res.bind (Res.bind (Res.ok (2 : Int)) fun x28=>(Res.bind (Res.bind (Res.ok (1 : Int)) fun x26=>(Res.bind (Res.ok []) fun x27=>(Res.ok (x26 :: x27)))) fun x29=>(Res.ok (x28 :: x29)))) fun x31=>(Res.ok (x30 :: x31)))) fun x33=>(Res.ok (x32 :: x33)))) fun x25=>(chk (x25.length <= sizeLine) (Res.ok x25))) fun x45=>(Res.bind (Res.bind (Res.bind (Res.bind (Res.ok (1 : Int)) fun x41=>(Res.bind (Res.bind (Res.ok (2 : Int)) fun x39=>(Res.bind (Res.bind (Res.ok (0 : Int)) fun x37=>(Res.bind (Res.bind (Res.ok (3 : Int)) fun x35=>(Res.bind (Res.ok []) fun x36=>(Res.ok (x35 :: x36)))) fun x38=>(Res.ok (x37 :: x38)))) fun x40=>(Res.ok (x39 :: x40)))) fun x42=>(Res.ok (x41 :: x42)))) fun x34=>(chk (x34.length <= sizeLine) (Res.ok x34))) fun x43=>(Res.bind (Res.ok []) fun x44=>(Res.ok (x43 :: x44)))) fun x46=>(Res.ok (x45 :: x46)))) fun x48=>(Res.ok (x47 :: x48)))) fun x50=>(Res.ok (x49 :: x50)))) fun x6=>(chk (x6.length <= sizeLine) (Res.ok x6))) else (Res.bind (Z0 (a_1.natAbs + 2) (a_2) (fun g53=>(Res.bind (Res.bind (Res.ok g53) fun x56=>(Res.bind (Res.ok a_1) fun x57=>(noE (Zo x56 x57)))) fun x58=>(Res.bind (Res.ok (1 : Int)) fun x59=>(Res.ok (!(decide (x58 = x59))))))) (fun g53=>(Res.bind (Res.bind (Res.ok g53) fun x62=>(Res.bind (Res.ok (1 : Int)) fun x63=>(Res.ok (x62 + x63)))) fun a60=>(Res.ok (a60))))) fun g64=>(Res.bind (Res.ok []) fun a66=>(Res.bind (Res.bind (Res.ok a_1) fun x69=>(J9 0 x69)) fun x92=>(Res.bind (forN x92 (a66) (fun g72 a74=>(Res.bind (Res.bind (Res.bind (Res.ok a_1) fun x76=>(J9 0 x76)) fun x80=>(D0 x80 (fun a78=>(Res.bind (Res.ok a_0) fun x82=>(Res.bind (Res.ok a_1) fun x83=>(Res.bind (Res.ok g64) fun x84=>(Res.bind (Res.ok a74) fun x85=>(Res.bind (Res.ok a78) fun x86=>(noE (YL x82 x83 x84 x85 x86)))))))))) fun a87=>(chk (g72.length < sizeLine) ((fun a89=>(Res.ok (a89))) (g72 ++ [a87])))))) fun g90=>(Res.ok g90)))))))
noncomputable def YC (a_0 : (List Int)) (a_1 : Int) : Res (List Int):=(Res.bind (Res.bind (Res.ok a_1) fun x4=>(chk (0 <= x4 /\ x4 <= 1000) (Res.ok (Ze 0 x4)))) fun a1=>(Res.bind (Res.ok []) fun a5=>(Res.bind (Res.bind (Res.ok a_1) fun x8=>(J9 0 x8)) fun x29=>(Res.bind (forN x29 (a5, a1) (fun g11 a13=>(Res.bind (Res.bind (Res.bind (Res.ok a_0) fun x15=>(Res.bind (Res.ok a13) fun x16=>(atR x15 x16))) fun x18=>(Res.bind (Res.bind (Res.ok g11.2) fun x17=>(Res.ok (x17.length : Int))) fun x19=>(Z2 x18 x19))) fun x25=>(Res.bind (GW g11.2 x25) fun p26=>(chk (g11.1.length < sizeLine) ((fun a21 a22=>(Res.ok (a22, a21))) p26.2 (g11.1 ++ [p26.1]))))))) fun g27=>(Res.ok g27.1)))))
noncomputable def Yq (a_0 : (List (List Int))) (a_1 : (List Int)) : Res (List (List Int)):=(Res.bind (Res.bind (Res.ok a_0) fun x7=>(D0 x7 (fun a5=>(Res.bind (Res.ok a5) fun x8=>(Res.ok x8))))) fun a1=>(Res.bind (Res.bind (Res.bind (Res.ok a_0) fun x9=>(Res.ok (x9.length : Int))) fun x10=>(J9 0 x10)) fun x47=>(Res.bind (forN x47 (a1) (fun g13 a15=>(Res.bind (Res.bind (Res.bind (Res.ok a_0) fun x17=>(Res.ok (x17.length : Int))) fun x18=>(J9 0 x18)) fun x44=>(Res.bind (forN x44 (g13) (fun g21 a23=>(Res.bind (Res.bind (Res.ok a_1) fun x29=>(Res.bind (Res.bind (Res.bind (Res.ok a_0) fun x25=>(Res.bind (Res.ok a15) fun x26=>(atR x25 x26))) fun x27=>(Res.bind (Res.ok a23) fun x28=>(atR x27 x28))) fun x30=>(atR x29 x30))) fun x35=>(Res.bind (Res.bind (Res.ok a_1) fun x31=>(Res.bind (Res.ok a15) fun x32=>(atR x31 x32))) fun x36=>(Res.bind (atR g21 x36) fun x40=>(Res.bind (Res.bind (Res.ok a_1) fun x33=>(Res.bind (Res.ok a23) fun x34=>(atR x33 x34))) fun x37=>(Res.bind (Vd x40 x37 x35) fun x41=>(Res.bind (Vd g21 x36 x41) fun a38=>(Res.ok (a38)))))))))) fun g42=>(Res.ok (g42)))))) fun g45=>(Res.ok g45))))
noncomputable def ZB (a_0 : (List Int)) (a_1 : Int) (a_2 : Int) : Res (List (List Int)):=(Res.bind (Res.bind (Res.ok a_0) fun x20=>(Res.bind (Res.ok a_1) fun x21=>(Res.bind (Res.bind (Res.bind (Res.bind (Res.ok (7 : Int)) fun x13=>(Res.bind (Res.bind (Res.ok (24 : Int)) fun x11=>(Res.bind (Res.bind (Res.ok (6 : Int)) fun x9=>(Res.bind (Res.bind (Res.ok (2 : Int)) fun x7=>(Res.bind (Res.ok []) fun x8=>(Res.ok (x7 :: x8)))) fun x10=>(Res.ok (x9 :: x10)))) fun x12=>(Res.ok (x11 :: x12)))) fun x14=>(Res.ok (x13 :: x14)))) fun x6=>(chk (x6.length <= sizeLine) (Res.ok x6))) fun x4=>(Res.bind (Res.bind (Res.bind (Res.bind (Res.ok (24 : Int)) fun x18=>(Res.bind (Res.ok []) fun x19=>(Res.ok (x18 :: x19)))) fun x17=>(chk (x17.length <= sizeLine) (Res.ok x17))) fun x15=>(Res.bind (Res.ok (24 : Int)) fun x16=>(Cr x15 x16))) fun x5=>(Cd x4 x5))) fun x22=>(noE (Qu x20 x21 x22))))) fun a1=>(Res.bind (Res.bind (Res.ok (1 : Int)) fun x29=>(Res.bind (Res.bind (Res.bind (Res.ok a1) fun x25=>(Res.bind (Res.ok (1 : Int)) fun x26=>(atR x25 x26))) fun x27=>(Res.bind (Res.ok a_2) fun x28=>(Z2 x27 x28))) fun x30=>(Res.ok (x29 + x30)))) fun a23=>(Res.bind (Res.bind (Res.bind (Res.ok a1) fun x35=>(Res.bind (Res.ok (0 : Int)) fun x36=>(atR x35 x36))) fun x41=>(Res.bind (Res.ok a23) fun x42=>(Res.bind (Res.bind (Res.ok (2 : Int)) fun x39=>(Res.bind (Res.bind (Res.ok a1) fun x37=>(Res.bind (Res.ok (2 : Int)) fun x38=>(atR x37 x38))) fun x40=>(Res.ok (x39 + x40)))) fun x43=>(noE (ZZ x41 x42 x43))))) fun a31=>(Res.bind (Res.bind (Res.bind (Res.ok a1) fun x44=>(Res.bind (Res.ok (3 : Int)) fun x45=>(atR x44 x45))) fun x46=>(Res.bind (Res.ok (0 : Int)) fun x47=>(Res.ok (decide (x46 = x47))))) fun x48=>(if x48 = true then (Res.ok a31) else (Res.bind (Res.ok a31) fun x57=>(Res.bind (Res.bind (Res.bind (Res.ok a1) fun x52=>(Res.bind (Res.bind (Res.ok (4 : Int)) fun x51=>(Res.ok (some x51))) fun x53=>(Res.bind (Res.ok none) fun x54=>(Res.ok (UT x52 x53 x54))))) fun x55=>(Res.bind (Res.ok a23) fun x56=>(noE (YC x55 x56)))) fun x58=>(noE (Yq x57 x58)))))))))
noncomputable def Zp (a_0 : (List (List Int))) (a_1 : (List (List Int))) (a_2 : (List Int)) : Res Bool:=(Res.bind (Res.bind (Res.ok a_2) fun x3=>(Res.ok (x3.length : Int))) fun a1=>(Res.bind (Res.bind (Res.ok a1) fun x4=>(J9 0 x4)) fun x47=>(Res.bind (forC x47 () (fun g7 a9=>(Res.bind (Res.bind (Res.ok a1) fun x11=>(J9 0 x11)) fun x44=>(Res.bind (forC x44 () (fun g14 a16=>(Res.bind (Res.bind (Res.bind (Res.ok a_0) fun x20=>(Res.bind (Res.ok a9) fun x21=>(atR x20 x21))) fun x22=>(Res.bind (Res.ok a16) fun x23=>(atR x22 x23))) fun a18=>(Res.bind (ZS (Res.bind (Res.ok a18) fun x24=>(Res.bind (Res.ok a1) fun x25=>(Res.ok (decide (x24 < x25))))) (Res.bind (Res.bind (Res.bind (Res.ok a_1) fun x28=>(Res.bind (Res.bind (Res.ok a_2) fun x26=>(Res.bind (Res.ok a9) fun x27=>(atR x26 x27))) fun x29=>(atR x28 x29))) fun x32=>(Res.bind (Res.bind (Res.ok a_2) fun x30=>(Res.bind (Res.ok a16) fun x31=>(atR x30 x31))) fun x33=>(atR x32 x33))) fun x36=>(Res.bind (Res.bind (Res.ok a_2) fun x34=>(Res.bind (Res.ok a18) fun x35=>(atR x34 x35))) fun x37=>(Res.ok (!(decide (x36 = x37))))))) fun x38=>(if x38 = true then (Res.bind (Res.ok false) fun x40=>(Res.ok (Ctl.ret x40))) else (Res.bind (Res.ok ()) fun x39=>(Res.ok (Ctl.nx x39)))))))) (Yv fun g41=>(Res.bind (Res.ok ()) fun x43=>(Res.ok (Ctl.nx x43)))))))) (YX fun g45=>(Res.ok true)))))
noncomputable def Zs (a_0 : (List Int)) (a_1 : Int) : Res (List (List Int)):=(Res.bind (Res.bind (Res.ok a_1) fun x1=>(J9 0 x1)) fun x5=>(Bn x5 (fun a3=>(Res.bind (Res.ok a3) fun x11=>(Res.bind (Res.ok a_0) fun x12=>(Res.ok (!(decide (x11 ∈ x12))))))) (fun a3=>(Res.bind (Res.ok a_0) fun x6=>(Res.bind (Res.bind (Res.bind (Res.ok a3) fun x9=>(Res.bind (Res.ok []) fun x10=>(Res.ok (x9 :: x10)))) fun x8=>(chk (x8.length <= sizeLine) (Res.ok x8))) fun x7=>(Cd x6 x7))))))
noncomputable def Zk (a_0 : (List (List Int))) (a_1 : (List (List Int))) : Res (List (List Int)):=(Res.bind (Res.bind (Res.bind (Res.ok a_0) fun x1=>(Res.ok (x1.length : Int))) fun x3=>(Res.bind (Res.bind (Res.ok a_1) fun x2=>(Res.ok (x2.length : Int))) fun x4=>(Res.ok (!(decide (x3 = x4)))))) fun x5=>(if x5 = true then (Res.ok []) else (Res.bind (Res.bind (Res.bind (Res.ok []) fun x10=>(Res.bind (Res.ok []) fun x11=>(Res.ok (x10 :: x11)))) fun x9=>(chk (x9.length <= sizeLine) (Res.ok x9))) fun a6=>(Res.bind (Res.bind (Res.bind (Res.ok a_0) fun x12=>(Res.ok (x12.length : Int))) fun x13=>(J9 0 x13)) fun x64=>(Res.bind (forN x64 (a6) (fun g16 a18=>(Res.bind (Res.ok []) fun a20=>(Res.bind (Res.ok g16) fun x61=>(Res.bind (forN x61 (a20) (fun g25 a27=>(Res.bind (Res.bind (Res.ok a27) fun x31=>(Res.bind (Res.bind (Res.ok a_0) fun x30=>(Res.ok (x30.length : Int))) fun x32=>(noE (Zs x31 x32)))) fun x55=>(Res.bind (forN x55 (g25) (fun g35 a37=>(Res.bind (Res.bind (Res.bind (Res.ok a_0) fun x42=>(Res.bind (Res.ok a_1) fun x43=>(Res.bind (Res.ok a37) fun x44=>(noE (Zp x42 x43 x44))))) fun x45=>(if x45 = true then (Res.bind (Res.ok a37) fun a48=>(chk (g35.length < sizeLine) ((fun a50=>(Res.ok (a50))) (g35 ++ [a48])))) else (Res.ok (g35)))) fun g52=>(Res.ok (g52))))) fun g53=>(Res.ok (g53)))))) fun g56=>(Res.bind (Res.ok g56) fun a58=>(Res.ok (a58)))))))) fun g62=>(Res.ok g62))))))
noncomputable def Y3 (a_0 : (List (List Int))) : Res (List (List Int)):=(Res.bind (Res.ok a_0) fun x4=>(D0 x4 (fun a2=>(Res.bind (Res.ok a2) fun x5=>(Res.ok x5)))))
noncomputable def QY (a_0 : Int) (a_1 : Int) : Res (List (List Int)):=(Res.bind (Res.ok []) fun a1=>(Res.bind (Res.bind (Res.ok a_1) fun x4=>(J9 0 x4)) fun x70=>(Res.bind (forN x70 (a1) (fun g7 a9=>(Res.bind (Res.ok []) fun a11=>(Res.bind (Res.bind (Res.ok a_1) fun x14=>(J9 0 x14)) fun x67=>(Res.bind (forN x67 (a11) (fun g17 a19=>(Res.bind (Res.ok a9) fun a21=>(Res.bind (Res.bind (ZS (Res.bind (Res.ok a_0) fun x23=>(Res.bind (Res.ok (0 : Int)) fun x24=>(Res.ok (decide (x23 = x24))))) (ZS (Res.bind (Res.ok a9) fun x25=>(Res.bind (Res.ok (2 : Int)) fun x26=>(Res.ok (decide (x25 < x26))))) (Res.bind (Res.ok a19) fun x29=>(Res.bind (Res.bind (Res.ok a_1) fun x27=>(Res.bind (Res.ok (2 : Int)) fun x28=>(Res.ok (x27 - x28)))) fun x30=>(Res.ok (decide (x30 <= x29))))))) fun x31=>(if x31 = true then (Res.bind (Res.bind (Res.ok (1 : Int)) fun x36=>(Res.bind (Res.ok a9) fun x37=>(Res.ok (x36 - x37)))) fun a34=>(Res.ok (a34))) else (Res.ok (a21)))) fun g39=>(Res.bind (Res.bind (ZS (Res.bind (Res.ok a_0) fun x40=>(Res.bind (Res.ok (1 : Int)) fun x41=>(Res.ok (decide (x40 = x41))))) (ZS (Res.bind (Res.ok a9) fun x42=>(Res.bind (Res.ok (3 : Int)) fun x43=>(Res.ok (decide (x42 < x43))))) (Res.bind (Res.ok a19) fun x44=>(Res.bind (Res.ok (3 : Int)) fun x45=>(Res.ok (decide (x44 < x45))))))) fun x46=>(if x46 = true then (Res.bind (Res.bind (Res.bind (Res.bind (Res.ok (2 : Int)) fun x51=>(Res.bind (Res.ok a19) fun x52=>(Vb x51 x52))) fun x53=>(Res.bind (Res.ok a9) fun x54=>(Res.ok (x53 - x54)))) fun x55=>(Res.bind (Res.ok (3 : Int)) fun x56=>(Z2 x55 x56))) fun a49=>(Res.ok (a49))) else (Res.ok (g39)))) fun g58=>(Res.bind (Res.ok g58) fun a59=>(chk (g17.length < sizeLine) ((fun a61=>(Res.ok (a61))) (g17 ++ [a59]))))))))) fun g62=>(Res.bind (Res.ok g62) fun a64=>(chk (g7.length < sizeLine) ((fun a66=>(Res.ok (a66))) (g7 ++ [a64]))))))))) fun g68=>(Res.ok g68))))
noncomputable def Qm (a_0 : (List Int)) (a_1 : Int) : Res ((List (List Int)) × (List (List Int))):=(Res.bind (Res.bind (Res.ok a_0) fun x14=>(Res.bind (Res.ok (2 : Int)) fun x15=>(Res.bind (Res.bind (Res.bind (Res.bind (Res.ok (3 : Int)) fun x7=>(Res.bind (Res.ok []) fun x8=>(Res.ok (x7 :: x8)))) fun x6=>(chk (x6.length <= sizeLine) (Res.ok x6))) fun x4=>(Res.bind (Res.bind (Res.bind (Res.bind (Res.ok (24 : Int)) fun x12=>(Res.bind (Res.ok []) fun x13=>(Res.ok (x12 :: x13)))) fun x11=>(chk (x11.length <= sizeLine) (Res.ok x11))) fun x9=>(Res.bind (Res.ok (8 : Int)) fun x10=>(Cr x9 x10))) fun x5=>(Cd x4 x5))) fun x16=>(noE (Qu x14 x15 x16))))) fun a1=>(Res.bind (Res.bind (Res.ok a_0) fun x21=>(Res.bind (Res.ok (0 : Int)) fun x22=>(Res.bind (Res.ok a_1) fun x23=>(noE (ZB x21 x22 x23))))) fun a17=>(Res.bind (Res.bind (Res.ok a_0) fun x32=>(Res.bind (Res.ok (6 : Int)) fun x33=>(Res.bind (Res.bind (Res.bind (Res.ok (5 : Int)) fun x30=>(Res.bind (Res.bind (Res.ok (2 : Int)) fun x28=>(Res.bind (Res.ok []) fun x29=>(Res.ok (x28 :: x29)))) fun x31=>(Res.ok (x30 :: x31)))) fun x27=>(chk (x27.length <= sizeLine) (Res.ok x27))) fun x34=>(noE (Qu x32 x33 x34))))) fun a24=>(Res.bind (Res.bind (ZS (Res.bind (Res.bind (Res.ok a24) fun x35=>(Res.bind (Res.ok (0 : Int)) fun x36=>(atR x35 x36))) fun x37=>(Res.bind (Res.ok (0 : Int)) fun x38=>(Res.ok (decide (x37 = x38))))) (Res.bind (Res.bind (Res.ok a17) fun x39=>(Res.ok (x39.length : Int))) fun x40=>(Res.bind (Res.ok (3 : Int)) fun x41=>(Res.ok (decide (x41 < x40)))))) fun x42=>(if x42 = true then (Res.bind (Res.bind (Res.bind (Res.ok a24) fun x49=>(Res.bind (Res.ok (1 : Int)) fun x50=>(atR x49 x50))) fun x52=>(Res.bind (Res.bind (Res.ok a17) fun x51=>(Res.ok (x51.length : Int))) fun x53=>(noE (QY x52 x53)))) fun a45=>(Res.ok (a45))) else (Res.ok (a17)))) fun g55=>(Res.bind (Res.bind (Res.bind (Res.ok a1) fun x56=>(Res.bind (Res.ok (0 : Int)) fun x57=>(atR x56 x57))) fun x58=>(Res.bind (Res.ok (0 : Int)) fun x59=>(Res.ok (decide (x59 < x58))))) fun x60=>(if x60 = true then (Res.bind (Res.ok g55) fun x72=>(Res.bind (Res.bind (Res.ok g55) fun x70=>(Res.bind (Res.bind (Res.bind (Res.ok a1) fun x64=>(Res.bind (Res.bind (Res.ok (1 : Int)) fun x63=>(Res.ok (some x63))) fun x65=>(Res.bind (Res.ok none) fun x66=>(Res.ok (UT x64 x65 x66))))) fun x68=>(Res.bind (Res.bind (Res.ok g55) fun x67=>(Res.ok (x67.length : Int))) fun x69=>(noE (YC x68 x69)))) fun x71=>(noE (Yq x70 x71)))) fun x73=>(Res.ok (x72, x73)))) else (Res.bind (Res.bind (Res.ok a_0) fun x78=>(Res.bind (Res.ok (1 : Int)) fun x79=>(Res.bind (Res.ok a_1) fun x80=>(noE (ZB x78 x79 x80))))) fun a74=>(Res.bind (Res.bind (ZS (Res.bind (Res.bind (Res.ok a74) fun x81=>(Res.ok (x81.length : Int))) fun x83=>(Res.bind (Res.bind (Res.ok g55) fun x82=>(Res.ok (x82.length : Int))) fun x84=>(Res.ok (!(decide (x83 = x84)))))) (Res.bind (Res.bind (Res.bind (Res.ok a1) fun x85=>(Res.bind (Res.ok (1 : Int)) fun x86=>(atR x85 x86))) fun x87=>(Res.bind (Res.ok (3 : Int)) fun x88=>(Z2 x87 x88))) fun x89=>(Res.bind (Res.ok (0 : Int)) fun x90=>(Res.ok (decide (x90 < x89)))))) fun x91=>(if x91 = true then (Res.bind (Res.bind (Res.bind (Res.bind (Res.ok a1) fun x98=>(Res.bind (Res.ok (2 : Int)) fun x99=>(atR x98 x99))) fun x100=>(Res.bind (Res.ok (7 : Int)) fun x101=>(Z2 x100 x101))) fun x107=>(Res.bind (Res.bind (Res.ok g55) fun x102=>(Res.ok (x102.length : Int))) fun x108=>(Res.bind (Res.bind (Res.ok (1 : Int)) fun x105=>(Res.bind (Res.bind (Res.ok a1) fun x103=>(Res.bind (Res.ok (3 : Int)) fun x104=>(atR x103 x104))) fun x106=>(Res.ok (x105 + x106)))) fun x109=>(noE (ZZ x107 x108 x109))))) fun a94=>(Res.ok (a94))) else (Res.ok (a74)))) fun g111=>(Res.bind (Res.ok g55) fun x112=>(Res.bind (Res.ok g111) fun x113=>(Res.ok (x112, x113))))))))))))
noncomputable def YN (a_0 : (List (List Int))) (a_1 : (List (List Int))) : Res Bool:=(Res.bind (Res.bind (Res.ok a_0) fun x4=>(Res.bind (Res.ok a_1) fun x5=>(noE (Zk x4 x5)))) fun a1=>(Res.bind (Res.bind (Res.ok a_0) fun x7=>(noE (Y3 x7))) fun a10=>(Res.bind (Res.bind (Res.ok a_1) fun x9=>(noE (Y3 x9))) fun a11=>(Res.bind (Res.bind (Res.ok a10) fun x18=>(Res.bind (Res.ok a11) fun x19=>(noE (Zb x18 x19)))) fun a14=>(Res.bind (orR (Res.bind (Res.ok a10) fun x20=>(Res.bind (Res.ok a_0) fun x21=>(Res.ok (!(decide (x20 = x21)))))) (Res.bind (Res.ok a11) fun x22=>(Res.bind (Res.ok a_1) fun x23=>(Res.ok (!(decide (x22 = x23))))))) fun x24=>(if x24 = true then (Res.ok false) else (Res.bind (Res.bind (Res.bind (Res.ok a1) fun x25=>(Res.ok (x25.length : Int))) fun x26=>(Res.bind (Res.ok (0 : Int)) fun x27=>(Res.ok (decide (x26 = x27))))) fun x28=>(if x28 = true then (Res.bind (Res.ok a14) fun x29=>(Res.ok x29.isNone)) else (Res.bind (orR (Res.bind (Res.bind (Res.ok a14) fun x30=>(Res.ok (if x30.isSome = true then true else false))) fun x31=>(Res.ok (!x31))) (Res.bind (Res.ok a14) fun x34=>(Res.bind (Res.bind (Res.bind (Res.ok a1) fun x32=>(Res.bind (Res.ok (0 : Int)) fun x33=>(atR x32 x33))) fun x36=>(Res.ok (some x36))) fun x35=>(Res.ok (!(decide (x34 = x35))))))) fun x37=>(if x37 = true then (Res.ok false) else (Res.bind (Cg a14) fun a38=>(Res.bind (forC a38 () (fun g41 a43=>(Res.bind (orR (Res.bind (Res.ok a43) fun x45=>(Res.ok false)) (Res.bind (Res.bind (Res.ok a43) fun x46=>(Res.ok true)) fun x47=>(Res.ok (!x47)))) fun x48=>(if x48 = true then (Res.bind (Res.ok false) fun x50=>(Res.ok (Ctl.ret x50))) else (Res.bind (Res.ok ()) fun x49=>(Res.ok (Ctl.nx x49))))))) (YX fun g51=>(Res.bind (Res.bind (Res.bind (Res.ok a_0) fun x54=>(Res.bind (Res.ok a38) fun x55=>(noE (Yq x54 x55)))) fun x56=>(Res.bind (Res.ok a_1) fun x57=>(Res.ok (!(decide (x56 = x57)))))) fun x58=>(if x58 = true then (Res.ok false) else ((fun (a60 : (List Int))=>(Res.bind (Res.ok (7 : Int)) fun a61=>(chk (a60.length < sizeLine) ((fun a63=>(Res.bind (Res.bind (Res.ok a10) fun x65=>(Res.bind (Res.ok a11) fun x66=>(noE (Zb x65 x66)))) fun x69=>(Res.bind (Res.bind (Res.bind (Res.ok a1) fun x67=>(Res.bind (Res.ok (0 : Int)) fun x68=>(atR x67 x68))) fun x71=>(Res.ok (some x71))) fun x70=>(Res.ok (decide (x69 = x70)))))) (a60 ++ [a61]))))) a38.reverse))))))))))))))))
noncomputable def Vp (a_0 : (List Int)) : Res Bool:=(Res.bind (Res.ok (5 : Int)) fun a1=>(Res.bind (Res.bind (Res.bind (Res.bind (Res.bind (Res.ok a_0) fun x7=>(Res.bind (Res.ok (3 : Int)) fun x8=>(Res.bind (Res.bind (Res.bind (Res.ok (8 : Int)) fun x5=>(Res.bind (Res.ok []) fun x6=>(Res.ok (x5 :: x6)))) fun x4=>(chk (x4.length <= sizeLine) (Res.ok x4))) fun x9=>(noE (Qu x7 x8 x9))))) fun x10=>(Res.bind (Res.ok (0 : Int)) fun x11=>(atR x10 x11))) fun x12=>(Res.bind (Res.ok (0 : Int)) fun x13=>(Res.ok (decide (x12 = x13))))) fun x14=>(if x14 = true then (Res.bind (Res.ok (6 : Int)) fun a17=>(Res.ok (a17))) else (Res.ok (a1)))) fun g20=>(Res.bind (Res.bind (Res.ok a_0) fun x22=>(Res.bind (Res.ok g20) fun x23=>(noE (Qm x22 x23)))) fun a24=>(ZS (Res.bind (Res.ok a24.1) fun x28=>(Res.bind (Res.ok a24.2) fun x29=>(noE (YN x28 x29)))) (ZS (Res.bind (Res.ok a24.2) fun x31=>(Res.bind (Res.ok a24.1) fun x32=>(noE (YN x31 x32)))) (Res.bind (Res.ok a24.1) fun x34=>(Res.bind (Res.ok a24.1) fun x35=>(noE (YN x34 x35)))))))))
end My
namespace L2
open PySem
section
variable {α β γ ρ : Type}
theorem Res.okb (a : α) (f : α -> Res β) : (Res.ok a).bind f = f a:=(Eq.refl (f a)).symm.symm
theorem K9 {f : α -> Res β} {h : α -> β} : ∀ {as : List α}, (∀ a ∈ as, f a = .ok (h a)) -> UR as f = .ok (as.map h)
  | [], _=>rfl
  | a :: as, hf=>by
    show (f a).bind _ = _
    rw [hf a (by simp), Res.ok_bind, K9 fun b hb=>hf b (by simp [hb])]; rfl
theorem Vo {f : α -> Res β} {h : α -> β} {as : List α} (hl : as.length <= sizeLine) (hf : ∀ a ∈ as, f a = .ok (h a)) : D0 as f = .ok (as.map h):=by
  unfold D0; rw [Xz hl]; exact K9 hf
theorem KC {c : α -> Res Bool} {f : α -> Res β} {p : α -> Bool} {h : α -> β} : ∀ {as : List α}, (∀ a ∈ as, c a = .ok (p a)) -> (∀ a ∈ as, p a = true -> f a = .ok (h a)) -> Ua as c f = .ok ((as.filter p).map h)
  | [], _, _=>rfl
  | a :: as, hc, hf=>by
    show (c a).bind _ = _
    rw [hc a (by simp), Res.ok_bind]
    have ih:=KC (as:=as) (fun b hb=>hc b (by simp [hb])) fun b hb=>hf b (by simp [hb])
    cases hp : p a with
    | false=>rw [if_neg (by simp), ih, List.filter_cons, hp]; rfl
    | true=>rw [if_pos rfl, hf a (by simp) hp, Res.ok_bind, ih, List.filter_cons, hp]; rfl
theorem Kk {c : α -> Res Bool} {f : α -> Res β} {p : α -> Bool} {h : α -> β} {as : List α} (hl : as.length <= sizeLine) (hc : ∀ a ∈ as, c a = .ok (p a)) (hf : ∀ a ∈ as, p a = true -> f a = .ok (h a)) : Bn as c f = .ok ((as.filter p).map h):=by
  unfold Bn; rw [Xz hl]; exact KC hc hf
theorem Va {f : γ -> α -> Res γ} (P : Nat -> γ -> Prop) : ∀ (as : List α) (k : Nat) (g : γ), P k g -> (∀ i a g, as[i]? = some a -> P (k + i) g -> ∃ g', f g a = .ok g' /\ P (k + i + 1) g') -> ∃ g', forN as g f = .ok g' /\ P (k + as.length) g'
  | [], k, g, h0, _=>⟨g, rfl, h0⟩
  | a :: as, k, g, h0, hs=>by
    obtain ⟨g1, e1, p1⟩:=hs 0 a g rfl h0
    obtain ⟨g2, e2, p2⟩:=Va P as (k + 1) g1 p1 fun i b g hb hp=>by
      obtain ⟨g', e', p'⟩:=hs (i + 1) b g (by simpa using hb) (by rw [show k + (i + 1) = k + 1 + i by omega]; exact hp)
      exact ⟨g', e', by rw [show k + 1 + i + 1 = k + (i + 1) + 1 by omega]; exact p'⟩
    refine ⟨g2, ?_, by rw [List.length_cons, show k + (as.length + 1) = k + 1 + as.length by omega]; exact p2⟩
    show (f g a).bind _ = _
    rw [e1, Res.ok_bind]; exact e2
theorem Uo {f : γ -> α -> Res γ} (P : Nat -> γ -> Prop) {as : List α} {g : γ} (h0 : P 0 g) (hs : ∀ i a g, as[i]? = some a -> P i g -> ∃ g', f g a = .ok g' /\ P (i + 1) g') : ∃ g', forN as g f = .ok g' /\ P as.length g':=by
  have:=Va P as 0 g h0 (by simpa using hs)
  simpa using this
theorem ZG {f : List β -> α -> Res (List β)} {h : α -> β} : ∀ {as : List α} {g : List β}, g.length + as.length <= sizeLine -> (∀ g : List β, g.length < sizeLine -> ∀ a ∈ as, f g a = .ok (g ++ [h a])) -> forN as g f = .ok (g ++ as.map h)
  | [], g, _, _=>by simp [forN]
  | a :: as, g, hl, hf=>by
    show (f g a).bind _ = _
    rw [List.length_cons] at hl
    rw [hf g (by omega) a (by simp), Res.ok_bind, ZG (by simp; omega) fun g hg b hb=>hf g hg b (by simp [hb])]
    simp
theorem VX {f : γ -> α -> Res (Ctl ρ γ)} : ∀ {as : List α} {g : γ}, (∀ a ∈ as, f g a = .ok (.nx g)) -> forC as g f = .ok (.nx g)
  | [], _, _=>rfl
  | a :: as, g, hf=>by
    show (f g a).bind _ = _
    rw [hf a (by simp), Res.ok_bind]
    exact VX fun b hb=>hf b (by simp [hb])
theorem JJ {f : γ -> α -> Res (Ctl ρ γ)} (P : Nat -> γ -> Prop) : ∀ (as : List α) (k : Nat) (g : γ), P k g -> (∀ i a g, as[i]? = some a -> P (k + i) g -> ∃ g', f g a = .ok (.nx g') /\ P (k + i + 1) g') -> ∃ g', forC as g f = .ok (.nx g') /\ P (k + as.length) g'
  | [], k, g, h0, _=>⟨g, rfl, h0⟩
  | a :: as, k, g, h0, hs=>by
    obtain ⟨g1, e1, p1⟩:=hs 0 a g rfl h0
    obtain ⟨g2, e2, p2⟩:=JJ P as (k + 1) g1 p1 fun i b g hb hp=>by
      obtain ⟨g', e', p'⟩:=hs (i + 1) b g (by simpa using hb) (by rw [show k + (i + 1) = k + 1 + i by omega]; exact hp)
      exact ⟨g', e', by rw [show k + 1 + i + 1 = k + (i + 1) + 1 by omega]; exact p'⟩
    refine ⟨g2, ?_, by rw [List.length_cons, show k + (as.length + 1) = k + 1 + as.length by omega]; exact p2⟩
    show (f g a).bind _ = _
    rw [e1, Res.ok_bind]; exact e2
theorem Gw {f : γ -> α -> Res (Ctl ρ γ)} (P : Nat -> γ -> Prop) {as : List α} {g : γ} (h0 : P 0 g) (hs : ∀ i a g, as[i]? = some a -> P i g -> ∃ g', f g a = .ok (.nx g') /\ P (i + 1) g') : ∃ g', forC as g f = .ok (.nx g') /\ P as.length g':=by
  have:=JJ P as 0 g h0 (by simpa using hs)
  simpa using this
theorem Yh {a b : Int} (h : 0 < b) : Z2 a b = .ok (a % b):=Xz h
theorem Qs {a b : Int} (h1 : -(2 ^ 64) < a) (h2 : a < 2 ^ 64) : Vb a b = .ok (a * b):=Xz (.inl ⟨h1, h2⟩)
theorem QB {a b : Int} (h1 : -(2 ^ 64) < b) (h2 : b < 2 ^ 64) : Vb a b = .ok (a * b):=Xz (.inr ⟨h1, h2⟩)
theorem K1 {a b : Int} (h : 0 < b) (h2 : b < 2 ^ 250) : Ci a b = .ok (a / b):=Xz ⟨h, by
  have h3 : b.natAbs < 2 ^ 250:=by omega
  rcases Nat.eq_zero_or_pos b.natAbs with h0 | h0
  . omega
  . have := (Nat.log2_lt (by omega)).mpr h3
    omega⟩
theorem FG {a b : Int} (h0 : 0 <= b) (h1 : b <= 1000000) (h2 : -(2 ^ 64) < a) (h3 : a < 2 ^ 64) : Bz a b = .ok (a ^ b.toNat):=Xz ⟨h0, h1, by omega⟩
theorem Zl {as : List α} {i : Nat} {a : α} (h : as[i]? = some a) : atR as (i : Int) = .ok a:=by
  have hlt:=(List.getElem?_eq_some_iff.mp h).1
  unfold atR atI ixN
  rw [if_pos (by omega), if_pos (by omega)]
  simp [h]
theorem CK {as : List α} {i : Int} {a : α} (h0 : 0 <= i) (h : as[i.toNat]? = some a) : atR as i = .ok a:=by
  have : i = (i.toNat : Int):=by omega
  rw [this]; exact Zl h
theorem ZF {n : Nat} (h : n < 2 ^ 62) : J9 0 (n : Int) = .ok ((List.range n).map fun (i : Nat)=>(i : Int)):=by
  unfold J9
  rw [Xz (by omega)]
  unfold Ze
  congr 1
  rw [Int.sub_zero, Int.toNat_natCast]
  exact List.map_congr_left fun i _=>by omega
theorem Zc {n i : Nat} {a : Int} (h : ((List.range n).map fun (i : Nat)=>(i : Int))[i]? = some a) : a = (i : Int) /\ i < n:=by
  have hlt:=(List.getElem?_eq_some_iff.mp h).1
  simp only [List.length_map, List.length_range] at hlt
  rw [List.getElem?_map, List.getElem?_range hlt] at h
  exact ⟨(Option.some.inj h).symm, hlt⟩
theorem XS {n : Nat} {a : Int} (h : a ∈ (List.range n).map fun (i : Nat)=>(i : Int)) : ∃ i : Nat, i < n /\ a = (i : Int):=by
  obtain ⟨i, hi, rfl⟩:=List.mem_map.mp h
  exact ⟨i, List.mem_range.mp hi, rfl⟩
theorem YY {n : Nat} : ((List.range n).map fun (i : Nat)=>(i : Int)).length = n:=by simp
theorem Fm {a : Bool} {b : Res Bool} {c : Bool} (h : a = true -> b = .ok c) : ZS (.ok a) b = .ok (a && c):=by
  cases a with
  | false=>rfl
  | true=>
    show (if true = true then b else Res.ok false) = _
    rw [if_pos rfl, h rfl]; rfl
theorem sz {n : Nat} (h : n <= 100000) : n <= sizeLine:=Nat.le_trans h (by decide)
theorem Bb {n : Nat} (h : n <= 100000) : n < sizeLine:=Nat.lt_of_le_of_lt h (by decide)
noncomputable def Ok (m : Res β) (R : β -> Prop) : Prop:=∃ r, m = .ok r /\ R r
theorem Ok.pure {R : β -> Prop} {a : β} (h : R a) : Ok (.ok a) R:=⟨a, rfl, h⟩
theorem Ok.bind {m : Res α} {f : α -> Res β} {R : α -> Prop} {T : β -> Prop} (h : Ok m R) (hf : ∀ a, R a -> Ok (f a) T) : Ok (m.bind f) T:=by
  obtain ⟨a, e, ha⟩:=h
  rw [e]; exact hf a ha
theorem Ok.imp {m : Res α} {R T : α -> Prop} (h : Ok m R) (hf : ∀ a, R a -> T a) : Ok m T:=by
  obtain ⟨a, e, ha⟩:=h
  exact ⟨a, e, hf a ha⟩
theorem Ok.noE {m : Res α} {R : α -> Prop} (h : Ok m R) : Ok (noE m) R:=by
  obtain ⟨a, e, ha⟩:=h
  rw [e]; exact ⟨a, rfl, ha⟩
theorem Ok.chk {c : Prop} [Decidable c] {m : Res α} {R : α -> Prop} (hc : c) (h : Ok m R) : Ok (chk c m) R:=by rw [Xz hc]; exact h
theorem Ok.ite {b : Bool} {m n : Res α} {R : α -> Prop} (h1 : b = true -> Ok m R) (h2 : b = false -> Ok n R) : Ok (if b = true then m else n) R:=by
  cases b with
  | true=>rw [if_pos rfl]; exact h1 rfl
  | false=>rw [if_neg Bool.false_ne_true]; exact h2 rfl
theorem Ok.forN {f : γ -> α -> Res γ} (P : Nat -> γ -> Prop) {as : List α} {g : γ} (h0 : P 0 g) (hs : ∀ i a g, as[i]? = some a -> P i g -> Ok (f g a) (P (i + 1))) : Ok (forN as g f) (P as.length):=Uo P h0 hs
theorem Ok.forC {f : γ -> α -> Res (Ctl ρ γ)} (P : Nat -> γ -> Prop) {as : List α} {g : γ} (h0 : P 0 g) (hs : ∀ i a g, as[i]? = some a -> P i g -> ∃ g', f g a = .ok (.nx g') /\ P (i + 1) g') : Ok (forC as g f) (fun c=>∃ g', c = .nx g' /\ P as.length g'):=by
  obtain ⟨g', e, h⟩:=Gw P h0 hs
  exact ⟨_, e, g', rfl, h⟩
theorem Qi {f : γ -> Res ρ} (g : γ) : YX f (.nx g) = f g:=(Eq.refl (f g)).symm.symm
theorem Ql {f : γ -> Res ρ} (r : ρ) : YX f (.ret r) = .ok r:=(Eq.refl (Res.ok r)).symm.symm
theorem JU {δ : Type} {f : γ -> Res (Ctl ρ δ)} (g : γ) : Yv f (.nx g) = f g:=(Eq.refl (f g)).symm.symm
theorem QW {δ : Type} {f : γ -> Res (Ctl ρ δ)} (r : ρ) : Yv f (.ret r) = .ok (.ret r):=(Eq.refl (Res.ok (Ctl.ret r))).symm.symm
theorem XR (a : α) : noE (Res.ok a) = .ok a:=(Eq.refl (Res.ok a)).symm.symm
theorem Ok.of {m : Res α} {a : α} (h : m = .ok a) : Ok m (fun b=>b = a):=⟨a, h, rfl⟩
theorem Ok.eq {m : Res α} {a : α} (h : Ok m (fun b=>b = a)) : m = .ok a:=by
  obtain ⟨b, e, rfl⟩:=h
  exact e
end
end L2
namespace My
noncomputable def Y6 (n : Nat) (f : Nat -> Nat -> Nat) (a : Nat) : List Int:=(List.range n).map fun b=>(f a b : Int)
noncomputable def Xv (n : Nat) (f : Nat -> Nat -> Nat) : List (List Int):=(List.range n).map (Y6 n f)
theorem YS (n : Nat) (f : Nat -> Nat -> Nat) (a : Nat) : (Y6 n f a).length = n:=by simp [Y6]
theorem Xs (n : Nat) (f : Nat -> Nat -> Nat) : (Xv n f).length = n:=by simp [Xv]
theorem Qv {n : Nat} {f : Nat -> Nat -> Nat} {a b : Nat} (h : b < n) : (Y6 n f a)[b]? = some (f a b : Int):=by
  unfold Y6; rw [List.getElem?_map, List.getElem?_range h]; rfl
theorem Qy {n : Nat} {f : Nat -> Nat -> Nat} {a : Nat} (h : a < n) : (Xv n f)[a]? = some (Y6 n f a):=by
  unfold Xv; rw [List.getElem?_map, List.getElem?_range h]; rfl
theorem QI {n : Nat} {f g : Nat -> Nat -> Nat} {a : Nat} (h : ∀ b, b < n -> f a b = g a b) : Y6 n f a = Y6 n g a:=by
  unfold Y6
  exact List.map_congr_left fun b hb=>by rw [h b (List.mem_range.mp hb)]
theorem Yx {n : Nat} {f g : Nat -> Nat -> Nat} (h : ∀ a b, a < n -> b < n -> f a b = g a b) : Xv n f = Xv n g:=by
  unfold Xv
  exact List.map_congr_left fun a ha=>QI fun b hb=>h a b (List.mem_range.mp ha) hb
structure Col (n : Nat) (f : Nat -> Nat -> Nat) : Prop where
  lt : ∀ a b, a < n -> b < n -> f a b < n
  r2 : ∀ x y b, x < n -> y < n -> b < n -> f x b = f y b -> x = y
structure GoodF (n : Nat) (f : Nat -> Nat -> Nat) : Prop extends Col n f where
  r1 : ∀ a, a < n -> f a a = a
  r3 : ∀ a b c, a < n -> b < n -> c < n -> f (f a b) c = f (f a c) (f b c)
theorem GoodF.congr {n : Nat} {f g : Nat -> Nat -> Nat} (h : GoodF n f) (e : ∀ a b, a < n -> b < n -> g a b = f a b) : GoodF n g where
  lt a b ha hb:=by rw [e a b ha hb]; exact h.lt a b ha hb
  r2 x y b hx hy hb q:=by rw [e x b hx hb, e y b hy hb] at q; exact h.r2 x y b hx hy hb q
  r1 a ha:=by rw [e a a ha ha]; exact h.r1 a ha
  r3 a b c ha hb hc:=by
    rw [e a b ha hb, e a c ha hc, e b c hb hc, e _ c (h.lt a b ha hb) hc, e _ _ (h.lt a c ha hc) (h.lt b c hb hc)]
    exact h.r3 a b c ha hb hc
theorem Qk : ∀ (n : Nat) (p : Nat -> Nat), (∀ a, a < n -> p a < n) -> (∀ a b, a < n -> b < n -> p a = p b -> a = b) -> ∀ y, y < n -> ∃ x, x < n /\ p x = y
  | 0, _, _, _, y, hy=>absurd hy (Nat.not_lt_zero _)
  | n + 1, p, hl, hi, y, hy=>by
    by_cases hh : ∃ x, x < n + 1 /\ p x = y
    . exact hh
    . exfalso
      -- send n to y, and y's place away
      have hne : ∀ x, x < n + 1 -> p x ≠ y:=fun x hx e=>hh ⟨x, hx, e⟩
      -- among the first n: p', which skips y
      let s : Nat -> Nat:=fun v=>if v < y then v else v - 1
      have hs : ∀ a, a < n + 1 -> s (p a) < n:=fun a ha=>by
        have h1:=hl a ha; have h2:=hne a ha
        show (if p a < y then p a else p a - 1) < n
        split <;> omega
      have hsi : ∀ a b, a < n + 1 -> b < n + 1 -> s (p a) = s (p b) -> a = b:=fun a b ha hb e=>by
        have h1:=hne a ha; have h2:=hne b hb
        refine hi a b ha hb ?_
        have e' : (if p a < y then p a else p a - 1) = (if p b < y then p b else p b - 1):=e
        split at e' <;> split at e' <;> omega
      obtain ⟨x, hx, ex⟩:=Qk n (fun a=>s (p a)) (fun a ha=>hs a (by omega)) (fun a b ha hb e=>hsi a b (by omega) (by omega) e) (s (p n)) (hs n (by omega))
      have:=hsi x n (by omega) (by omega) ex
      omega
structure PermN (n : Nat) (p q : Nat -> Nat) : Prop where
  lt : ∀ a, a < n -> p a < n
  qlt : ∀ a, a < n -> q a < n
  pq : ∀ a, a < n -> p (q a) = a
  qp : ∀ a, a < n -> q (p a) = a
theorem PermN.good {n : Nat} {p q : Nat -> Nat} {f : Nat -> Nat -> Nat} (h : PermN n p q) (g : GoodF n f) : GoodF n (fun x y=>p (f (q x) (q y))) where
  lt a b ha hb:=h.lt _ (g.lt _ _ (h.qlt a ha) (h.qlt b hb))
  r2 x y b hx hy hb e:=by
    have e1 : q (p (f (q x) (q b))) = q (p (f (q y) (q b))):=congrArg q e
    rw [h.qp _ (g.lt _ _ (h.qlt x hx) (h.qlt b hb)), h.qp _ (g.lt _ _ (h.qlt y hy) (h.qlt b hb))] at e1
    have:=g.r2 _ _ _ (h.qlt x hx) (h.qlt y hy) (h.qlt b hb) e1
    rw [← h.pq x hx, ← h.pq y hy, this]
  r1 a ha:=by
    show p (f (q a) (q a)) = a
    rw [g.r1 _ (h.qlt a ha), h.pq a ha]
  r3 a b c ha hb hc:=by
    have l1:=g.lt _ _ (h.qlt a ha) (h.qlt b hb)
    have l2:=g.lt _ _ (h.qlt a ha) (h.qlt c hc)
    have l3:=g.lt _ _ (h.qlt b hb) (h.qlt c hc)
    show p (f (q (p (f (q a) (q b)))) (q c)) = p (f (q (p (f (q a) (q c)))) (q (p (f (q b) (q c)))))
    rw [h.qp _ l1, h.qp _ l2, h.qp _ l3, g.r3 _ _ _ (h.qlt a ha) (h.qlt b hb) (h.qlt c hc)]
theorem FN {n : Nat} {p : Nat -> Nat} (hl : ∀ a, a < n -> p a < n) (hi : ∀ a b, a < n -> b < n -> p a = p b -> a = b) : ∃ q, PermN n p q:=by
  have ho:=Qk n p hl hi
  refine ⟨fun y=>if h : y < n then Classical.choose (ho y h) else 0, hl, fun a ha=>?_, fun a ha=>?_, fun a ha=>?_⟩
  . simp only [dif_pos ha]; exact (Classical.choose_spec (ho a ha)).1
  . simp only [dif_pos ha]; exact (Classical.choose_spec (ho a ha)).2
  . simp only [dif_pos (hl a ha)]
    have:=Classical.choose_spec (ho (p a) (hl a ha))
    exact hi _ _ this.1 ha this.2
theorem VI {A B n z : Int} (h : A - B = n * z) : A % n = B % n:=by
  have : A = B + n * z:=by omega
  rw [this, Int.add_mul_emod_self_left]
noncomputable def Kg (k n a b : Int) : Int:=(k * a + (1 - k) * b) % n
noncomputable def Gv (k : Int) (n : Nat) (a b : Nat) : Nat:=(Kg k n a b).toNat
theorem XX {k : Int} {n : Nat} (hn : 0 < n) (a b : Nat) : ((Gv k n a b : Nat) : Int) = Kg k n a b:=by
  unfold Gv
  have:=Int.emod_nonneg (k * a + (1 - k) * b) (show (n : Int) ≠ 0 by omega)
  unfold Kg
  omega
theorem Ji {k : Int} {n : Nat} (hn : 0 < n) (hk : ∀ x : Int, (n : Int) ∣ k * x -> (n : Int) ∣ x) : GoodF n (Gv k n) where
  lt a b _ _:=by
    have h:=XX (k:=k) hn a b
    have:=Int.emod_lt_of_pos (k * a + (1 - k) * b) (show 0 < (n : Int) by omega)
    unfold Kg at h
    omega
  r1 a ha:=by
    have h:=XX (k:=k) hn a a
    have e : k * (a : Int) + (1 - k) * a = a:=by grind
    unfold Kg at h
    rw [e, Int.emod_eq_of_lt (by omega) (by omega)] at h
    omega
  r2 x y b hx hy hb e:=by
    have h1:=XX (k:=k) hn x b
    have h2:=XX (k:=k) hn y b
    rw [e, h2] at h1
    unfold Kg at h1
    have:=Int.emod_eq_emod_iff_emod_sub_eq_zero.mp h1
    have hd : (n : Int) ∣ k * ((y : Int) - x):=by
      have:=Int.dvd_of_emod_eq_zero this
      have e2 : (k * (y : Int) + (1 - k) * b) - (k * x + (1 - k) * b) = k * ((y : Int) - x):=by grind
      rwa [e2] at this
    obtain ⟨z, hz⟩:=hk _ hd
    have hz1 : z < 1:=by
      apply Int.lt_of_mul_lt_mul_left (a:=(n : Int)) _ (by omega)
      omega
    have hz2 : -1 < z:=by
      apply Int.lt_of_mul_lt_mul_left (a:=(n : Int)) _ (by omega)
      omega
    have : z = 0:=by omega
    subst this
    omega
  r3 a b c _ _ _:=by
    have e1:=XX (k:=k) hn a b
    have e2:=XX (k:=k) hn a c
    have e3:=XX (k:=k) hn b c
    have e4:=XX (k:=k) hn (Gv k n a b) c
    have e5:=XX (k:=k) hn (Gv k n a c) (Gv k n b c)
    have hh : Kg k n (Gv k n a b : Nat) c = Kg k n (Gv k n a c : Nat) (Gv k n b c : Nat):=by
      rw [e1, e2, e3]
      unfold Kg
      have q1:=Int.emod_add_mul_ediv (k * (a : Int) + (1 - k) * b) n
      have q2:=Int.emod_add_mul_ediv (k * (a : Int) + (1 - k) * c) n
      have q3:=Int.emod_add_mul_ediv (k * (b : Int) + (1 - k) * c) n
      generalize (k * (a : Int) + (1 - k) * b) / n = d1 at q1
      generalize (k * (a : Int) + (1 - k) * c) / n = d2 at q2
      generalize (k * (b : Int) + (1 - k) * c) / n = d3 at q3
      generalize (k * (a : Int) + (1 - k) * b) % n = m1 at *
      generalize (k * (a : Int) + (1 - k) * c) % n = m2 at *
      generalize (k * (b : Int) + (1 - k) * c) % n = m3 at *
      refine VI (z:=-k * d1 + k * d2 + (1 - k) * d3) ?_
      grind
    omega
theorem Uu {k : Int} {n : Nat} (h : Int.gcd k n = 1) (x : Int) (hd : (n : Int) ∣ k * x) : (n : Int) ∣ x:=by
  have h1:=Int.natAbs_dvd_natAbs.mpr hd
  rw [Int.natAbs_mul, Int.natAbs_natCast] at h1
  have h2 : Nat.Coprime n k.natAbs:=by
    have : Nat.gcd k.natAbs n = 1:=h
    rw [Nat.gcd_comm] at this
    exact this
  exact Int.natAbs_dvd_natAbs.mp (by rw [Int.natAbs_natCast]; exact h2.dvd_of_dvd_mul_left h1)
theorem VU {n : Nat} (x : Int) (hd : (n : Int) ∣ (-1) * x) : (n : Int) ∣ x:=by
  have : (-1) * x = -x:=by omega
  rw [this] at hd
  exact Int.dvd_neg.mp hd
theorem ZY (n : Nat) : GoodF n (fun a _=>a):=⟨⟨fun _ _ h _=>h, fun _ _ _ _ _ _ e=>e⟩, fun _ _=>rfl, fun _ _ _ _ _ _=>rfl⟩
theorem JX {n : Nat} {p : Nat -> Nat} (h1 : ∀ a, a < n -> p a < n) (h2 : ∀ a, a + 1 = n -> p a = a) (h3 : ∀ x y, x < n -> y < n -> p x = p y -> x = y) : GoodF n (fun a b=>if b + 1 = n then p a else a) where
  lt a b ha hb:=by
    show (if b + 1 = n then p a else a) < n
    split
    . exact h1 a ha
    . exact ha
  r1 a ha:=by
    show (if a + 1 = n then p a else a) = a
    split
    . next h=>exact h2 a h
    . rfl
  r2 x y b hx hy hb e:=by
    have e : (if b + 1 = n then p x else x) = if b + 1 = n then p y else y:=e
    by_cases h : b + 1 = n
    . rw [if_pos h, if_pos h] at e; exact h3 x y hx hy e
    . rw [if_neg h, if_neg h] at e; exact e
  r3 a b c ha hb hc:=by
    show (if c + 1 = n then p (if b + 1 = n then p a else a) else if b + 1 = n then p a else a) = if (if c + 1 = n then p b else b) + 1 = n then p (if c + 1 = n then p a else a) else if c + 1 = n then p a else a
    by_cases h : c + 1 = n
    . rw [if_pos h, if_pos h, if_pos h]
      by_cases g : b + 1 = n
      . rw [if_pos g, h2 b g, if_pos g]
      . rw [if_neg g, if_neg fun z => g ?_]
        have hp : p b = b:=by
          refine h3 _ _ (h1 b hb) hb (h2 _ z)
        rw [hp] at z
        exact z
    . rw [if_neg h, if_neg h, if_neg h]
theorem Gn (n : Nat) : GoodF n (fun a b=>if 2 < n /\ a < 2 /\ b + 1 = n then 1 - a else a):=by
  by_cases hn : 2 < n
  . refine (JX (n := n) (p := fun a => if a < 2 then 1 - a else a) (fun a ha => ?_) (fun a ha => if_neg (by omega)) fun x y _ _ e => ?_).congr fun a b _ _ => ?_
    . show (if a < 2 then 1 - a else a) < n
      split
      . omega
      . exact ha
    . have e : (if x < 2 then 1 - x else x) = if y < 2 then 1 - y else y := e
      by_cases h : x < 2
      . by_cases g : y < 2
        . rw [if_pos h, if_pos g] at e; clear hn; omega
        . rw [if_pos h, if_neg g] at e; clear hn; omega
      . by_cases g : y < 2
        . rw [if_neg h, if_pos g] at e; clear hn; omega
        . rw [if_neg h, if_neg g] at e; exact e
    . show (if 2 < n /\ a < 2 /\ b + 1 = n then 1 - a else a) = if b + 1 = n then (if a < 2 then 1 - a else a) else a
      by_cases g : b + 1 = n
      . rw [if_pos g]
        by_cases h : a < 2
        . rw [if_pos h, if_pos ⟨hn, h, g⟩]
        . rw [if_neg h, if_neg fun z=>h z.2.1]
      . rw [if_neg g, if_neg fun z=>g z.2.2]
  . exact (ZY n).congr fun a b _ _=>if_neg fun z=>hn z.1
theorem UP (n : Nat) : GoodF n (fun a b=>if a + 1 < n /\ b + 1 = n then (if a + 2 < n then a + 1 else 0) else a):=by
  refine (JX (n:=n) (p:=fun a=>if a + 1 < n then (if a + 2 < n then a + 1 else 0) else a) (fun a ha=>?_) (fun a ha=>if_neg (by omega)) fun x y hx hy e=>?_).congr fun a b _ _=>?_
  . show (if a + 1 < n then (if a + 2 < n then a + 1 else 0) else a) < n
    split
    . split
      . assumption
      . exact Nat.lt_of_le_of_lt (Nat.zero_le _) ha
    . exact ha
  . have e : (if x + 1 < n then (if x + 2 < n then x + 1 else 0) else x) = if y + 1 < n then (if y + 2 < n then y + 1 else 0) else y := e
    by_cases h : x + 1 < n
    . rw [if_pos h] at e
      by_cases g : y + 1 < n
      . rw [if_pos g] at e
        by_cases h' : x + 2 < n
        . rw [if_pos h'] at e
          by_cases g' : y + 2 < n
          . rw [if_pos g'] at e; exact Nat.succ.inj e
          . rw [if_neg g'] at e; exact nomatch e
        . rw [if_neg h'] at e
          by_cases g' : y + 2 < n
          . rw [if_pos g'] at e; exact nomatch e
          . clear e hx hy; omega
      . rw [if_neg g] at e
        by_cases h' : x + 2 < n
        . rw [if_pos h'] at e; clear hx hy h; omega
        . rw [if_neg h'] at e; clear hx hy h'; omega
    . rw [if_neg h] at e
      by_cases g : y + 1 < n
      . rw [if_pos g] at e
        by_cases h' : y + 2 < n
        . rw [if_pos h'] at e; clear hx hy g; omega
        . rw [if_neg h'] at e; clear hx hy h'; omega
      . rw [if_neg g] at e; exact e
  . show (if a + 1 < n /\ b + 1 = n then (if a + 2 < n then a + 1 else 0) else a) = if b + 1 = n then (if a + 1 < n then (if a + 2 < n then a + 1 else 0) else a) else a
    by_cases g : b + 1 = n
    . rw [if_pos g]
      by_cases h : a + 1 < n
      . rw [if_pos h, if_pos ⟨h, g⟩]
      . rw [if_neg h, if_neg fun z=>h z.1]
    . rw [if_neg g, if_neg fun z=>g z.2]
noncomputable def QL (h : Nat) (f g : Nat -> Nat -> Nat) (a b : Nat) : Nat:=if a < h /\ b < h then f a b else if h <= a /\ h <= b then h + g (a - h) (b - h) else a
theorem K7 {h m : Nat} {f g : Nat -> Nat -> Nat} (F : GoodF h f) (G : GoodF m g) : GoodF (h + m) (QL h f g):=by
  have s1 : ∀ a b, a < h -> b < h -> QL h f g a b = f a b:=fun a b ha hb=>by unfold QL; rw [if_pos ⟨ha, hb⟩]
  have s2 : ∀ a b, QL h f g (h + a) (h + b) = h + g a b:=fun a b=>by unfold QL; rw [if_neg (by omega), if_pos (by omega), Nat.add_sub_cancel_left, Nat.add_sub_cancel_left]
  have s3 : ∀ a b, a < h -> QL h f g a (h + b) = a:=fun a b ha=>by unfold QL; rw [if_neg (by omega), if_neg (by omega)]
  have s4 : ∀ a b, b < h -> QL h f g (h + a) b = h + a:=fun a b ha=>by unfold QL; rw [if_neg (by omega), if_neg (by omega)]
  have up : ∀ a, h <= a -> ∃ a', a = h + a':=fun a ha=>⟨a - h, by omega⟩
  refine ⟨⟨fun a b ha hb=>?_, fun x y b hx hy hb e=>?_⟩, fun a ha=>?_, fun a b c ha hb hc=>?_⟩
  . by_cases h1 : a < h <;> by_cases h2 : b < h
    . rw [s1 a b h1 h2]; have:=F.lt a b h1 h2; omega
    . obtain ⟨b, rfl⟩:=up b (by omega); rw [s3 a b h1]; omega
    . obtain ⟨a, rfl⟩:=up a (by omega); rw [s4 a b h2]; omega
    . obtain ⟨a, rfl⟩ := up a (by omega); obtain ⟨b, rfl⟩ := up b (by omega)
      rw [s2]; have:=G.lt a b (by omega) (by omega); omega
  . by_cases h1 : x < h <;> by_cases h2 : y < h <;> by_cases h3 : b < h
    . rw [s1 _ _ h1 h3, s1 _ _ h2 h3] at e; exact F.r2 x y b h1 h2 h3 e
    . obtain ⟨b, rfl⟩:=up b (by omega); rw [s3 _ _ h1, s3 _ _ h2] at e; exact e
    . obtain ⟨y, rfl⟩:=up y (by omega); rw [s1 _ _ h1 h3, s4 _ _ h3] at e; have:=F.lt x b h1 h3; omega
    . obtain ⟨y, rfl⟩:=up y (by omega); obtain ⟨b, rfl⟩:=up b (by omega); rw [s3 _ _ h1, s2] at e; omega
    . obtain ⟨x, rfl⟩:=up x (by omega); rw [s4 _ _ h3, s1 _ _ h2 h3] at e; have:=F.lt y b h2 h3; omega
    . obtain ⟨x, rfl⟩:=up x (by omega); obtain ⟨b, rfl⟩:=up b (by omega); rw [s2, s3 _ _ h2] at e; omega
    . obtain ⟨x, rfl⟩:=up x (by omega); obtain ⟨y, rfl⟩:=up y (by omega); rw [s4 _ _ h3, s4 _ _ h3] at e; exact e
    . obtain ⟨x, rfl⟩ := up x (by omega); obtain ⟨y, rfl⟩ := up y (by omega); obtain ⟨b, rfl⟩ := up b (by omega)
      rw [s2, s2] at e
      rw [G.r2 x y b (by omega) (by omega) (by omega) (by omega)]
  . by_cases h1 : a < h
    . rw [s1 _ _ h1 h1, F.r1 a h1]
    . obtain ⟨a, rfl⟩:=up a (by omega); rw [s2, G.r1 a (by omega)]
  . by_cases h1 : a < h <;> by_cases h2 : b < h <;> by_cases h3 : c < h
    . rw [s1 a b h1 h2, s1 a c h1 h3, s1 b c h2 h3, s1 _ _ (F.lt a b h1 h2) h3, s1 _ _ (F.lt a c h1 h3) (F.lt b c h2 h3)]; exact F.r3 a b c h1 h2 h3
    . obtain ⟨c, rfl⟩ := up c (by omega)
      rw [s1 a b h1 h2, s3 a c h1, s3 b c h2, s3 _ c (F.lt a b h1 h2), s1 a b h1 h2]
    . obtain ⟨b, rfl⟩ := up b (by omega)
      rw [s3 a b h1, s4 b c h3, s1 a c h1 h3, s3 _ b (F.lt a c h1 h3)]
    . obtain ⟨b, rfl⟩ := up b (by omega); obtain ⟨c, rfl⟩ := up c (by omega)
      rw [s3 a b h1, s3 a c h1, s2 b c, s3 _ _ h1]
    . obtain ⟨a, rfl⟩ := up a (by omega)
      rw [s4 a b h2, s4 a c h3, s1 b c h2 h3, s4 _ _ (F.lt b c h2 h3)]
    . obtain ⟨a, rfl⟩ := up a (by omega); obtain ⟨c, rfl⟩ := up c (by omega)
      rw [s4 a b h2, s2 a c, s3 b c h2, s4 _ _ h2]
    . obtain ⟨a, rfl⟩ := up a (by omega); obtain ⟨b, rfl⟩ := up b (by omega)
      rw [s2 a b, s4 _ c h3, s4 a c h3, s4 b c h3, s2 a b]
    . obtain ⟨a, rfl⟩ := up a (by omega); obtain ⟨b, rfl⟩ := up b (by omega); obtain ⟨c, rfl⟩ := up c (by omega)
      rw [s2 a b, s2 a c, s2 b c, s2, s2, G.r3 a b c (by omega) (by omega) (by omega)]
noncomputable def UB (way n k a b : Int) : Int:=
  if way = 1 then (2 * b - a) % n else if way = 2 then (k * a + (1 - k) * b) % n else if way = 3 /\ n > 2 /\ a < 2 /\ b = n - 1 then 1 - a else
  if way = 6 /\ a < n - 1 /\ b = n - 1 then (a + 1) % (n - 1) else if way = 4 /\ a < n / 2 /\ b < n / 2 then (2 * b - a) % (n / 2) else
  if way = 4 /\ a ≥ n / 2 /\ b ≥ n / 2 then n / 2 + (2 * b - a - n / 2) % (n - n / 2) else a
noncomputable def JP (way k : Int) (n a b : Nat) : Nat:=(UB way n k a b).toNat
theorem JA (n : Int) (a b : Int) : (2 * b - a) % n = Kg (-1) n a b:=by
  unfold Kg
  congr 1
  omega
theorem Kz {way k : Int} {n : Nat} (hn : 0 < n) (hk : Int.gcd k n = 1) : GoodF n (JP way k n) /\ ∀ a b, a < n -> b < n -> ((JP way k n a b : Nat) : Int) = UB way n k a b:=by
  suffices h : ∃ f, GoodF n f /\ ∀ a b, a < n -> b < n -> ((f a b : Nat) : Int) = UB way n k a b by
    obtain ⟨f, g, e⟩:=h
    have e2 : ∀ a b, a < n -> b < n -> JP way k n a b = f a b:=fun a b ha hb=>by unfold JP; rw [← e a b ha hb]; omega
    exact ⟨g.congr e2, fun a b ha hb=>by rw [e2 a b ha hb]; exact e a b ha hb⟩
  unfold UB
  by_cases w1 : way = 1
  . refine ⟨_, Ji (k := -1) hn VU, fun a b ha hb => ?_⟩
    rw [if_pos w1, XX hn, JA]
  by_cases w2 : way = 2
  . refine ⟨_, Ji (k := k) hn (Uu hk), fun a b ha hb => ?_⟩
    rw [if_neg w1, if_pos w2, XX hn]; rfl
  by_cases w3 : way = 3
  . refine ⟨_, Gn n, fun a b ha hb => ?_⟩
    rw [if_neg w1, if_neg w2]
    by_cases c : 2 < n /\ a < 2 /\ b + 1 = n
    . rw [if_pos c, if_pos ⟨w3, by omega, by omega, by omega⟩]; omega
    . rw [if_neg c, if_neg (fun z=>c ⟨by omega, by omega, by omega⟩), if_neg (fun z=>by omega), if_neg (fun z=>by omega), if_neg (fun z=>by omega)]
  by_cases w6 : way = 6
  . refine ⟨_, UP n, fun a b ha hb => ?_⟩
    have n3 : ¬ (way = 3 /\ (n : Int) > 2 /\ (a : Int) < 2 /\ (b : Int) = n - 1):=fun z=>w3 z.1
    by_cases c : a + 1 < n /\ b + 1 = n
    . have y6 : way = 6 /\ (a : Int) < n - 1 /\ (b : Int) = n - 1 := ⟨w6, by omega, by omega⟩
      rw [if_pos c, if_neg w1, if_neg w2, if_neg n3, if_pos y6]
      by_cases c2 : a + 2 < n
      . rw [if_pos c2, Int.emod_eq_of_lt (by omega) (by omega)]; omega
      . rw [if_neg c2]
        have : (a : Int) + 1 = (n : Int) - 1:=by omega
        rw [this, Int.emod_self]; rfl
    . rw [if_neg c, if_neg w1, if_neg w2, if_neg n3, if_neg (fun z=>c ⟨by omega, by omega⟩), if_neg (fun z=>by omega), if_neg (fun z=>by omega)]
  by_cases w4 : way = 4
  . have hh : ∀ m : Nat, 0 < m -> GoodF m (Gv (-1) m) := fun m hm => Ji hm VU
    by_cases h0 : n / 2 = 0
    . have hn1 : n = 1 := by omega
      subst hn1
      refine ⟨_, ZY 1, fun a b ha hb=>?_⟩
      have : a = 0:=by omega
      have : b = 0:=by omega
      subst a b
      rw [if_neg w1, if_neg w2, if_neg (fun z=>w3 z.1), if_neg (fun z=>w6 z.1), if_neg (fun z=>by omega), if_pos ⟨w4, by omega, by omega⟩]
      decide
    . have g := K7 (hh (n / 2) (by omega)) (hh (n - n / 2) (by omega))
      rw [show n / 2 + (n - n / 2) = n by omega] at g
      refine ⟨_, g, fun a b ha hb=>?_⟩
      have hc : ((n / 2 : Nat) : Int) = (n : Int) / 2:=by omega
      rw [if_neg w1, if_neg w2, if_neg (fun z=>w3 z.1), if_neg (fun z=>w6 z.1)]
      unfold QL
      by_cases c1 : a < n / 2 /\ b < n / 2
      . rw [if_pos c1, if_pos ⟨w4, by omega, by omega⟩, XX (by omega), ← JA, hc]
      . have m4 : ¬ (way = 4 /\ (a : Int) < (n : Int) / 2 /\ (b : Int) < (n : Int) / 2) := fun z => c1 ⟨by omega, by omega⟩
        rw [if_neg c1, if_neg m4]
        by_cases c2 : n / 2 <= a /\ n / 2 <= b
        . have y4 : way = 4 /\ (a : Int) ≥ (n : Int) / 2 /\ (b : Int) ≥ (n : Int) / 2 := ⟨w4, by omega, by omega⟩
          rw [if_pos c2, if_pos y4]
          have hm : (((n - n / 2 : Nat)) : Int) = (n : Int) - (n : Int) / 2:=by omega
          have:=XX (k:=-1) (n:=n - n / 2) (by omega) (a - n / 2) (b - n / 2)
          rw [← JA, hm] at this
          rw [show 2 * (b : Int) - a - (n : Int) / 2 = 2 * ((b - n / 2 : Nat) : Int) - ((a - n / 2 : Nat) : Int) by omega, ← this]
          omega
        . rw [if_neg c2, if_neg (fun z=>c2 ⟨by omega, by omega⟩)]
  refine ⟨_, ZY n, fun a b ha hb=>?_⟩
  rw [if_neg w1, if_neg w2, if_neg (fun z=>w3 z.1), if_neg (fun z=>w6 z.1), if_neg (fun z=>w4 z.1), if_neg (fun z=>w4 z.1)]
noncomputable def Z7 (a b : Nat) : Nat:=(([[0, 3, 1, 2], [2, 1, 3, 0], [3, 0, 2, 1], [1, 2, 0, 3]] : List (List Nat)).getD a []).getD b 0
theorem Gi : GoodF 4 Z7:=by
  have h1 : ∀ a, a < 4 -> ∀ b, b < 4 -> Z7 a b < 4:=by decide +kernel
  have h2 : ∀ b, b < 4 -> ∀ x, x < 4 -> ∀ y, y < 4 -> Z7 x b = Z7 y b -> x = y:=by decide +kernel
  have h3 : ∀ a, a < 4 -> Z7 a a = a:=by decide +kernel
  have h4 : ∀ a, a < 4 -> ∀ b, b < 4 -> ∀ c, c < 4 -> Z7 (Z7 a b) c = Z7 (Z7 a c) (Z7 b c):=by decide +kernel
  exact ⟨⟨fun a b ha hb=>h1 a ha b hb, fun x y b hx hy hb=>h2 b hb x hx y hy⟩, h3, fun a b c ha hb hc=>h4 a ha b hb c hc⟩
theorem Gx : Xv 4 Z7 = [[0, 3, 1, 2], [2, 1, 3, 0], [3, 0, 2, 1], [1, 2, 0, 3]]:=by decide +kernel
end My
namespace My
open PySem L2
theorem VW {n : Nat} {f : Nat -> Nat -> Nat} {a : Nat} (h : a < n) : atR (Xv n f) (a : Int) = .ok (Y6 n f a):=Zl (Qy h)
theorem Fu {n : Nat} {f : Nat -> Nat -> Nat} {a b : Nat} (h : b < n) : atR (Y6 n f a) (b : Int) = .ok (f a b : Int):=Zl (Qv h)
theorem KD {α : Type} {as : List α} {i : Nat} {a : α} (h : i < as.length) : Vd as (i : Int) a = .ok (as.set i a):=by
  unfold Vd ixN
  rw [if_pos (by omega), if_pos (by omega)]
  simp
theorem DZ {n : Nat} {f : Nat -> Nat -> Nat} {a b v : Nat} : (Y6 n f a).set b (v : Int) = Y6 n (fun x y=>if x = a /\ y = b then v else f x y) a:=by
  apply List.ext_getElem?
  intro j
  by_cases hj : j < n
  . rw [Qv hj]
    by_cases e : j = b
    . subst e; rw [List.getElem?_set_self (by rw [YS]; exact hj)]; simp
    . rw [List.getElem?_set_ne (fun z=>e z.symm), Qv hj]; simp [e]
  . rw [List.getElem?_eq_none (by rw [List.length_set, YS]; omega), List.getElem?_eq_none (by rw [YS]; omega)]
theorem F3 {n : Nat} {f : Nat -> Nat -> Nat} {a b v : Nat} (ha : a < n) : (Xv n f).set a ((Y6 n f a).set b (v : Int)) = Xv n (fun x y=>if x = a /\ y = b then v else f x y):=by
  apply List.ext_getElem?
  intro j
  by_cases hj : j < n
  . rw [Qy hj]
    by_cases e : j = a
    . subst e; rw [List.getElem?_set_self (by rw [Xs]; exact hj), DZ]
    . rw [List.getElem?_set_ne (fun z => e z.symm), Qy hj]
      congr 1
      exact QI fun y _=>by simp [e]
  . rw [List.getElem?_eq_none (by rw [List.length_set, Xs]; omega), List.getElem?_eq_none (by rw [Xs]; omega)]
noncomputable def J7 (n : Nat) (sp : List Int) (p q : Nat -> Nat) : Prop:=PermN n p q /\ sp = (List.range n).map fun i=>((p i : Nat) : Int)
theorem J7.get {n : Nat} {sp : List Int} {p q : Nat -> Nat} (h : J7 n sp p q) {i : Nat} (hi : i < n) : atR sp (i : Int) = .ok ((p i : Nat) : Int):=Zl (by rw [h.2, List.getElem?_map, List.getElem?_range hi]; rfl)
theorem Bl {as : List Int} {i : Nat} (h : i < as.length) (hl : as.length <= 100000) : GW as (i : Int) = .ok (as[i], as.eraseIdx i):=by
  unfold GW
  rw [Xz (by omega)]
  have e : seqIndex? (i : Int) as.length = some i:=by
    unfold seqIndex?
    have h0 : ¬ ((i : Int) < 0):=by omega
    simp [h0, h]
  rw [e]
  simp [h]
theorem Ud {n : Nat} {sp : List Int} (h : sp.Perm ((List.range n).map fun (i : Nat)=>(i : Int))) : ∃ p q, J7 n sp p q:=by
  have hl : sp.length = n:=by have:=h.length_eq; simpa using this
  have hlt : ∀ i, i < n -> ∃ k : Nat, k < n /\ sp[i]? = some (k : Int):=fun i hi=>by
    have hm : sp[i]'(by omega) ∈ (List.range n).map fun (i : Nat)=>(i : Int):=h.mem_iff.mp (List.getElem_mem _)
    obtain ⟨k, hk, e⟩:=XS hm
    exact ⟨k, hk, by rw [List.getElem?_eq_getElem (by omega), e]⟩
  let p : Nat -> Nat:=fun i=>(sp[i]?.getD 0).toNat
  have hp : ∀ i, i < n -> p i < n /\ sp[i]? = some (p i : Int):=fun i hi=>by
    obtain ⟨k, hk, e⟩:=hlt i hi
    have : p i = k:=by simp [p, e]
    rw [this]; exact ⟨hk, e⟩
  have nd : sp.Nodup:=h.nodup_iff.mpr (by
    rw [List.nodup_iff_pairwise_ne, List.pairwise_map]
    exact List.nodup_range.imp fun {a b} h e=>h (by omega))
  obtain ⟨q, hq⟩:=FN (n:=n) (p:=p) (fun a ha=>(hp a ha).1) fun a b ha hb e=>by
    have h1:=(hp a ha).2
    have h2:=(hp b hb).2
    rw [← e] at h2
    exact (List.getElem?_inj (by omega) nd).mp (h1.trans h2.symm)
  refine ⟨p, q, hq, ?_⟩
  apply List.ext_getElem?
  intro i
  by_cases hi : i < n
  . rw [(hp i hi).2, List.getElem?_map, List.getElem?_range hi]; rfl
  . rw [List.getElem?_eq_none (by omega), List.getElem?_eq_none (by simp; omega)]
theorem QR : ∀ {as : List Int} {i : Nat} (h : i < as.length), (as[i] :: as.eraseIdx i).Perm as
  | a :: as, 0, _=>by simp
  | a :: as, i + 1, h=>by
    have:=QR (as:=as) (i:=i) (by simpa using h)
    simp only [List.getElem_cons_succ, List.eraseIdx_cons_succ]
    exact (List.Perm.swap _ _ _).trans (this.cons a)
theorem VM {α : Type} (as : List α) {k : Nat} (h : k <= as.length) : UT as (some (k : Int)) none = as.drop k:=by
  unfold UT
  rw [HT.sIx_nat, HT.sIx_none, Nat.min_eq_left h, List.take_of_length_le (by rw [List.length_drop]; omega)]
end My
namespace My
theorem mem_set {α : Type} : ∀ {l : List α} {j : Nat} {v x : α}, x ∈ l.set j v -> x ∈ l ∨ x = v
  | [], _, _, _, h=>by simp at h
  | a :: r, 0, v, x, h=>by
    rw [List.set_cons_zero] at h
    rcases List.mem_cons.mp h with h | h
    . exact .inr h
    . exact .inl (List.mem_cons_of_mem _ h)
  | a :: r, j + 1, v, x, h=>by
    rw [List.set_cons_succ] at h
    rcases List.mem_cons.mp h with h | h
    . exact .inl (by rw [h]; exact List.mem_cons_self)
    . rcases mem_set h with h | h
      . exact .inl (List.mem_cons_of_mem _ h)
      . exact .inr h
end My
namespace My
noncomputable def Bx (S : Nat) : List Int:=(List.range S).map fun (k : Nat)=>(k : Int)
theorem G5 {S : Nat} {x : Int} : x ∈ Bx S ↔ 0 <= x /\ x < (S : Int):=by
  unfold Bx
  rw [List.mem_map]
  constructor
  . rintro ⟨k, hk, rfl⟩
    have:=List.mem_range.mp hk
    omega
  . rintro ⟨h0, h1⟩
    exact ⟨x.toNat, List.mem_range.mpr (by omega), by omega⟩
theorem ZM {α β : Type} {f : α -> β} : ∀ {l : List α}, (∀ a b, a ∈ l -> b ∈ l -> f a = f b -> a = b) -> l.Nodup -> (l.map f).Nodup
  | [], _, _=>List.nodup_nil
  | a :: r, h, nd=>by
    rw [List.map_cons, List.nodup_cons]
    refine ⟨fun m=>?_, ZM (fun x y hx hy=>h x y (List.mem_cons_of_mem _ hx) (List.mem_cons_of_mem _ hy)) (List.nodup_cons.mp nd).2⟩
    obtain ⟨b, hb, e⟩:=List.mem_map.mp m
    have:=h b a (List.mem_cons_of_mem _ hb) List.mem_cons_self e
    exact (List.nodup_cons.mp nd).1 (by rw [← this]; exact hb)
theorem Us (S : Nat) : (Bx S).Nodup:=ZM (fun a b _ _ e=>by omega) List.nodup_range
theorem QU {α : Type} [DecidableEq α] : ∀ {l m : List α}, l.Nodup -> m.Nodup -> (∀ x, x ∈ l ↔ x ∈ m) -> l.Perm m
  | [], m, _, _, h=>by
    cases m with
    | nil=>exact List.Perm.refl _
    | cons a r=>exact absurd ((h a).mpr List.mem_cons_self) (by simp)
  | a :: r, m, nl, nm, h=>by
    have ha : a ∈ m:=(h a).mp List.mem_cons_self
    have hp : m.Perm (a :: m.erase a):=List.perm_cons_erase ha
    refine List.Perm.trans (List.Perm.cons a ?_) hp.symm
    have nd2 : (a :: m.erase a).Nodup:=hp.nodup_iff.mp nm
    refine QU (List.nodup_cons.mp nl).2 (List.nodup_cons.mp nd2).2 fun x=>?_
    constructor
    . intro hx
      have hxa : x ≠ a:=fun e=>(List.nodup_cons.mp nl).1 (by rw [← e]; exact hx)
      have : x ∈ a :: m.erase a:=hp.mem_iff.mp ((h x).mp (List.mem_cons_of_mem _ hx))
      exact (List.mem_cons.mp this).resolve_left hxa
    . intro hx
      have hxa : x ≠ a:=fun e=>(List.nodup_cons.mp nd2).1 (e ▸ hx)
      have : x ∈ a :: r:=(h x).mpr (hp.mem_iff.mpr (List.mem_cons_of_mem _ hx))
      exact (List.mem_cons.mp this).resolve_left hxa
theorem flatMap_nil {α β : Type} (f : α -> List β) : ∀ {l : List α}, (∀ x ∈ l, f x = []) -> l.flatMap f = []
  | [], _=>rfl
  | a :: r, h=>by rw [List.flatMap_cons, h a List.mem_cons_self, flatMap_nil f fun x hx=>h x (List.mem_cons_of_mem _ hx)]; rfl
end My
namespace My
structure Done (S : Int) (seen : List Bool) (ps : List Int) : Prop where
  nd : ps.Nodup
  at' : ∀ p ∈ ps, 0 <= p /\ p < S /\ seen[p.toNat]? = some true
  of : ∀ q : Nat, seen[q]? = some true -> (q : Int) ∈ ps
theorem Done.none (S : Int) (n : Nat) : Done S (List.replicate n false) []:=
  ⟨List.nodup_nil, fun p h=>by simp at h, fun q h=>by
    rw [List.getElem?_replicate] at h
    split at h <;> cases h⟩
theorem G3 {l : List Bool} {j q : Nat} (h : l[q]? = some true) : (l.set j true)[q]? = some true:=by
  by_cases e : j = q
  . subst e
    rw [List.getElem?_set_self (List.getElem?_eq_some_iff.mp h).1]
  . rw [List.getElem?_set_ne e]; exact h
theorem Done.snoc {S : Int} {seen : List Bool} {ps : List Int} {a : Int} (h : Done S seen ps) (a0 : 0 <= a) (a1 : a < S) (e : seen[a.toNat]? = some false) : Done S (seen.set a.toNat true) (ps ++ [a]):=by
  have hl : a.toNat < seen.length:=(List.getElem?_eq_some_iff.mp e).1
  have hn : a ∉ ps:=fun m=>by
    have:=(h.at' a m).2.2
    rw [e] at this; cases this
  refine ⟨?_, fun p hp=>?_, fun q hq=>?_⟩
  . rw [List.nodup_append]
    refine ⟨h.nd, by simp, fun x hx y hy=>?_⟩
    rw [List.mem_singleton.mp hy]
    exact fun e=>hn (e ▸ hx)
  . rcases List.mem_append.mp hp with hp | hp
    . obtain ⟨h1, h2, h3⟩ := h.at' p hp
      exact ⟨h1, h2, G3 h3⟩
    . rw [List.mem_singleton.mp hp]
      exact ⟨a0, a1, by rw [List.getElem?_set_self hl]⟩
  . by_cases hqa : a.toNat = q
    . exact List.mem_append_right _ (List.mem_singleton.mpr (by omega))
    . rw [List.getElem?_set_ne hqa] at hq
      exact List.mem_append_left _ (h.of q hq)
theorem Done.all {S : Int} {seen : List Bool} {ps : List Int} (h : Done S seen ps) (hl : seen.length = S.toNat) (h0 : 0 <= S) (ha : ∀ q : Nat, q < S.toNat -> seen[q]? = some true) : ps.Perm (Bx S.toNat):=by
  refine QU h.nd (Us _) fun x=>?_
  rw [G5]
  constructor
  . intro hx
    obtain ⟨h1, h2, _⟩:=h.at' x hx
    omega
  . rintro ⟨x0, x1⟩
    have:=h.of x.toNat (ha x.toNat (by omega))
    rw [show ((x.toNat : Nat) : Int) = x by omega] at this
    exact this
end My
namespace My
open PySem L2
theorem KI (ns : List Int) {p : Int} (hp : 0 <= p) : ∃ c, Qn ns p = .ok c:=by
  unfold Qn
  simp only [Res.okb]
  by_cases h : p < (ns.length : Int)
  . rw [decide_eq_true h, if_pos rfl]
    have hl : p.toNat < ns.length:=by omega
    exact ⟨ns[p.toNat], CK hp (by simp [hl])⟩
  . rw [decide_eq_false h, if_neg Bool.false_ne_true]
    obtain ⟨g, e, _⟩:=Uo (as:=UT ns none (some 63)) (g:=(5 : Int)) (f:=fun g15 a17=>(Res.bind (Res.bind (Res.bind (Res.bind (Vb g15 48271) fun x25=>(Res.bind (Z2 a17 1000003) fun x26=>(Res.ok (x25 + x26)))) fun x27=>Res.ok (x27 + 1)) fun x29=>Z2 x29 2147483647) fun a19=>(Res.ok (a19)))) (fun _ _=>True) True.intro fun i a g _ _=>by
      rw [QB (by decide) (by decide), Res.ok_bind, Yh (by decide), Res.ok_bind, Res.ok_bind, Res.ok_bind, Yh (by decide), Res.ok_bind]
      exact ⟨_, rfl, True.intro⟩
    rw [e, Res.ok_bind, Qs (by decide) (by decide), Res.ok_bind, Res.ok_bind, Yh (by decide)]
    exact ⟨_, rfl⟩
theorem Fp (c : Int) {k : Int} (h0 : 0 <= k) (h1 : k <= 100000) : ∃ y, Vi c k = .ok y /\ 0 <= y:=by
  unfold Vi
  simp only [Res.okb]
  have hm : 0 <= c % 2147483629 /\ c % 2147483629 < 2147483629:=⟨Int.emod_nonneg _ (by decide), Int.emod_lt_of_pos _ (by decide)⟩
  rw [Yh (by decide), Res.ok_bind, Qs (by decide) (by decide), Res.ok_bind, Res.ok_bind, Res.ok_bind, FG (by decide) (by decide) (by omega) (by omega), Res.ok_bind, Yh (by decide), Res.ok_bind]
  rw [QB (by decide) (by decide), Res.ok_bind, Qs (by decide) (by decide), Res.ok_bind, QB (by omega) (by omega), Res.ok_bind, Res.ok_bind, Res.ok_bind, Yh (by decide), Res.ok_bind, K1 (by decide) (by decide)]
  exact ⟨_, rfl, Int.ediv_nonneg (Int.emod_nonneg _ (by decide)) (by decide)⟩
theorem VN (ns : List Int) {p : Int} (hp : 0 <= p) (sizes : List Int) (hl : sizes.length <= 100000) (hs : ∀ x ∈ sizes, 0 < x /\ x < 2 ^ 250) :
    Ok (Qu ns p sizes) fun r=>r.length = sizes.length /\ ∀ (i : Nat) x s, r[i]? = some x -> sizes[i]? = some s -> 0 <= x /\ x < s:=by
  obtain ⟨c, ec⟩:=KI ns hp
  unfold Qu
  simp only [Res.okb]
  rw [ec, show noE (Res.ok c) = .ok c from rfl, Res.ok_bind, ZF (by omega), Res.ok_bind, FG (by decide) (by decide) (by decide) (by decide)]
  simp only [Res.okb]
  have key : ∀ (i : Nat) (a : Int) (g : List Int × Int), ((List.range sizes.length).map fun (i : Nat)=>(i : Int))[i]? = some a -> (g.1.length = i /\ ∀ (j : Nat) x s, g.1[j]? = some x -> sizes[j]? = some s -> 0 <= x /\ x < s) -> ∀ y z : Int, ∀ s, sizes[i]? = some s -> 0 <= y /\ y < s -> ((g.1 ++ [y], z).1.length = i + 1 /\ ∀ (j : Nat) x s, (g.1 ++ [y], z).1[j]? = some x -> sizes[j]? = some s -> 0 <= x /\ x < s):=by
    intro i a g ha ⟨hg, hq⟩ y z s hs1 hy
    refine ⟨by simp [hg], fun j x s' hx hs'=>?_⟩
    have hx : (g.1 ++ [y])[j]? = some x:=hx
    rcases Nat.lt_trichotomy j i with hj | hj | hj
    . rw [List.getElem?_append_left (by omega)] at hx; exact hq j x s' hx hs'
    . subst hj
      rw [List.getElem?_append_right (by omega), hg, Nat.sub_self] at hx
      have : y = x:=by simpa using hx
      rw [hs1] at hs'
      cases hs'
      rw [← this]; exact hy
    . rw [List.getElem?_eq_none (by simp; omega)] at hx; cases hx
  refine Ok.bind (Ok.forN (fun i (g : List Int × Int)=>g.1.length = i /\ ∀ (j : Nat) x s, g.1[j]? = some x -> sizes[j]? = some s -> 0 <= x /\ x < s) ⟨rfl, fun j x s h _=>by simp at h⟩ fun i a g ha hg=>?_) (T:=fun (r : List Int)=>r.length = sizes.length /\ ∀ (i : Nat) x s, r[i]? = some x -> sizes[i]? = some s -> 0 <= x /\ x < s) fun g ⟨hg, hq⟩=>?_
  . obtain ⟨rfl, hi⟩ := Zc ha
    have hsz : sizes[i]? = some sizes[i]:=by simp [hi]
    have hsp:=hs _ (List.getElem_mem hi)
    have hgl : g.1.length < sizeLine:=Bb (by have:=hg.1; omega)
    by_cases hc : c < 10 ^ (18 : Int).toNat
    . rw [decide_eq_true hc, if_pos rfl]
      obtain ⟨y, ey, hy⟩:=Fp c (k:=(i : Int)) (by omega) (by omega)
      rw [ey, show noE (Res.ok y) = .ok y from rfl, Res.ok_bind, Zl hsz, Res.ok_bind, Yh hsp.1, Res.ok_bind, Xz hgl]
      exact ⟨_, rfl, key i _ g ha hg _ _ _ hsz ⟨Int.emod_nonneg _ (by omega), Int.emod_lt_of_pos _ hsp.1⟩⟩
    . rw [decide_eq_false hc, if_neg Bool.false_ne_true]
      by_cases hq : 0 < g.2
      . rw [decide_eq_true hq, if_pos rfl, Zl hsz, Res.ok_bind, Yh hsp.1, Res.ok_bind, Xz hgl]
        simp only [Res.okb]
        rw [K1 hsp.1 hsp.2]
        exact ⟨_, rfl, key i _ g ha hg _ _ _ hsz ⟨Int.emod_nonneg _ (by omega), Int.emod_lt_of_pos _ hsp.1⟩⟩
      . rw [decide_eq_false hq, if_neg Bool.false_ne_true, Yh (by decide), Res.ok_bind]
        obtain ⟨c2, ec2⟩:=KI ns (p:=(p + 1 + (i : Int)) % 63) (Int.emod_nonneg _ (by decide))
        obtain ⟨y, ey, hy⟩:=Fp c2 (k:=(i : Int)) (by omega) (by omega)
        rw [ec2, show noE (Res.ok c2) = .ok c2 from rfl, Res.ok_bind, ey, show noE (Res.ok y) = .ok y from rfl, Res.ok_bind, Zl hsz, Res.ok_bind, Yh hsp.1, Res.ok_bind, Xz hgl]
        exact ⟨_, rfl, key i _ g ha hg _ _ _ hsz ⟨Int.emod_nonneg _ (by omega), Int.emod_lt_of_pos _ hsp.1⟩⟩
  . rw [YY] at hg
    exact ⟨g.1, rfl, hg, hq⟩
end My
namespace My
open PySem L2
theorem Y9 {α : Type} {r : List α} {k : Int} {n : Nat} (e : k = (n : Int)) (h : n < r.length) : atR r k = .ok r[n]:=by
  subst e; exact Zl (by simp [h])
theorem Jp {γ : Type} {c : γ -> Res Bool} {f : γ -> Res γ} (P : γ -> Prop) (μ : γ -> Nat) (hs : ∀ g, P g -> ∃ b, c g = .ok b /\ (b = true -> Ok (f g) fun g'=>P g' /\ μ g' < μ g)) : ∀ (n : Nat) (g : γ), P g -> μ g < n -> Ok (Z0 n g c f) fun g'=>P g' /\ c g' = .ok false
  | 0, _, _, h=>by omega
  | n + 1, g, hp, hm=>by
    obtain ⟨b, hb, h⟩:=hs g hp
    show Ok ((c g).bind _) _
    rw [hb, Res.okb]
    cases b with
    | false=>rw [if_neg Bool.false_ne_true]; exact ⟨g, rfl, hp, hb⟩
    | true=>
      rw [if_pos rfl]
      exact Ok.bind (h rfl) fun g' h'=>Jp P μ hs n g' h'.1 (by omega)
end My
namespace My
open PySem L2
theorem Q2 {r : List Int} {n : Nat} (hn : n <= 1000) (hr : n <= r.length) : Ok (YC r (n : Int)) fun sp=>∃ p q, J7 n sp p q:=by
  unfold YC
  simp only [Res.okb]
  rw [Xz (by omega)]
  simp only [Res.okb]
  rw [ZF (by omega)]
  simp only [Res.okb]
  have e0 : Ze 0 (n : Int) = (List.range n).map fun (i : Nat)=>(i : Int):=by
    unfold Ze
    rw [Int.sub_zero, Int.toNat_natCast]
    exact List.map_congr_left fun i _=>by omega
  refine Ok.bind (Ok.forN (fun i (g : List Int × List Int)=>g.1.length = i /\ (g.1 ++ g.2).Perm ((List.range n).map fun (i : Nat)=>(i : Int))) ⟨rfl, by rw [e0]; exact List.Perm.refl _⟩ fun i a g ha hg=>?_) fun g hg=>?_
  . obtain ⟨rfl, hi⟩ := Zc ha
    obtain ⟨h1, h2⟩:=hg
    have hl:=h2.length_eq
    simp only [List.length_append, List.length_map, List.length_range] at hl
    have hri : r[i]? = some r[i]:=by simp [show i < r.length by omega]
    have hpos : (0 : Int) < (g.2.length : Int):=by omega
    have hm1:=Int.emod_nonneg r[i] (show (g.2.length : Int) ≠ 0 by omega)
    have hm2:=Int.emod_lt_of_pos r[i] hpos
    rw [Zl hri, Res.okb, Yh hpos, Res.okb]
    generalize hk : r[i] % (g.2.length : Int) = k at hm1 hm2
    obtain ⟨j, rfl⟩ : ∃ j : Nat, k = j:=⟨k.toNat, by omega⟩
    have hj : j < g.2.length:=by omega
    rw [Bl hj (by omega), Res.okb, Xz (Bb (by omega))]
    refine ⟨_, rfl, by simp [h1], ?_⟩
    refine List.Perm.trans ?_ h2
    show ((g.1 ++ [g.2[j]]) ++ g.2.eraseIdx j).Perm (g.1 ++ g.2)
    rw [List.append_assoc]
    exact (QR hj).append_left _
  . obtain ⟨h1, h2⟩ := hg
    rw [YY] at h1
    have hl:=h2.length_eq
    simp only [List.length_append, List.length_map, List.length_range] at hl
    have : g.2 = []:=List.length_eq_zero_iff.mp (by omega)
    rw [this, List.append_nil] at h2
    exact ⟨_, rfl, Ud h2⟩
theorem QJ {n : Nat} {f : Nat -> Nat -> Nat} {sp : List Int} {p q : Nat -> Nat} (hn : n <= 1000) (hf : ∀ a b, a < n -> b < n -> f a b < n) (hp : J7 n sp p q) : Yq (Xv n f) sp = .ok (Xv n fun x y=>p (f (q x) (q y))):=by
  have P:=hp.1
  unfold Yq
  simp only [Res.okb]
  rw [Vo (h:=fun a=>a) (sz (by rw [Xs]; omega)) fun a _=>rfl, Res.okb]
  simp only [List.map_id', Xs]
  rw [ZF (by omega), Res.okb]
  apply Ok.eq
  refine Ok.bind (Ok.forN (fun i g=>g = Xv n fun x y=>if q x < i then p (f (q x) (q y)) else f x y) (Yx fun x y _ _=>by simp) fun i a g ha hg=>?_) fun g hg=>⟨g, rfl, ?_⟩
  . obtain ⟨rfl, hi⟩ := Zc ha
    subst hg
    simp only [Res.okb]
    refine Ok.bind (Ok.forN (fun j g=>g = Xv n fun x y=>if q x < i ∨ (q x = i /\ q y < j) then p (f (q x) (q y)) else f x y) (Yx fun x y _ _=>by simp) fun j b g hb hg=>?_) fun g hg=>⟨g, rfl, ?_⟩
    . obtain ⟨rfl, hj⟩ := Zc hb
      subst hg
      have hv:=hf i j hi hj
      rw [VW hi, Res.okb, Fu hj, Res.okb, hp.get hv, Res.okb, hp.get hi, Res.okb, VW (P.lt i hi), Res.okb, hp.get hj, Res.okb, KD (by rw [YS]; exact P.lt j hj), Res.okb, KD (by rw [Xs]; exact P.lt i hi), Res.okb]
      refine ⟨_, rfl, ?_⟩
      rw [F3 (P.lt i hi)]
      refine Yx fun x y hx hy=>?_
      by_cases e : x = p i /\ y = p j
      . rw [if_pos e, e.1, e.2, P.qp i hi, P.qp j hj, if_pos (by omega)]
      . rw [if_neg e]
        have : ¬ (q x = i /\ q y = j):=fun ⟨e1, e2⟩=>e ⟨by rw [← e1, P.pq x hx], by rw [← e2, P.pq y hy]⟩
        by_cases c : q x < i ∨ (q x = i /\ q y < j)
        . rw [if_pos c, if_pos (by omega)]
        . rw [if_neg c, if_neg (by omega)]
    . subst hg
      rw [YY]
      refine Yx fun x y hx hy=>?_
      have:=P.qlt y hy
      by_cases c : q x < i + 1
      . rw [if_pos c, if_pos (by omega)]
      . rw [if_neg c, if_neg (by omega)]
  . subst hg
    rw [YY]
    exact Yx fun x y hx hy=>by rw [if_pos (P.qlt x hx)]
end My
namespace My
open PySem L2
theorem Zz (a b : Bool) : ZS (.ok a) (.ok b) = .ok (a && b):=Fm fun _=>rfl
theorem UH {way k : Int} {n a b : Nat} (hn : 0 < n) (h1 : n <= 1000) (ha : a < n) (hb : b < n) : YL way (n : Int) k (a : Int) (b : Int) = .ok (UB way n k a b):=by
  unfold YL UB
  simp only [Res.okb, Zz, Bool.and_eq_true, decide_eq_true_eq, gt_iff_lt, ge_iff_le]
  rw [K1 (by decide) (by decide)]
  simp only [Res.okb, Zz, Bool.and_eq_true, decide_eq_true_eq]
  rw [Qs (a:=2) (by decide) (by decide), QB (a:=k) (by omega) (by omega), QB (a:=1 - k) (by omega) (by omega)]
  simp only [Res.okb]
  by_cases c1 : way = 1
  . rw [if_pos c1, if_pos c1]; exact Yh (by omega)
  rw [if_neg c1, if_neg c1]
  by_cases c2 : way = 2
  . rw [if_pos c2, if_pos c2]; exact Yh (by omega)
  rw [if_neg c2, if_neg c2]
  by_cases c3 : way = 3 /\ 2 < (n : Int) /\ (a : Int) < 2 /\ (b : Int) = (n : Int) - 1
  . rw [if_pos c3, if_pos c3]
  rw [if_neg c3, if_neg c3]
  by_cases c4 : way = 6 /\ (a : Int) < (n : Int) - 1 /\ (b : Int) = (n : Int) - 1
  . rw [if_pos c4, if_pos c4]; exact Yh (by omega)
  rw [if_neg c4, if_neg c4]
  by_cases c5 : way = 4 /\ (a : Int) < (n : Int) / 2 /\ (b : Int) < (n : Int) / 2
  . rw [if_pos c5, if_pos c5]; exact Yh (by omega)
  rw [if_neg c5, if_neg c5]
  by_cases c6 : way = 4 /\ (n : Int) / 2 <= (a : Int) /\ (n : Int) / 2 <= (b : Int)
  . rw [if_pos c6, if_pos c6, Yh (by omega), Res.okb]
  rw [if_neg c6, if_neg c6]
theorem JQ (x y : Int) : Zo x y = .ok (Int.gcd x y : Int):=by
  unfold Zo
  simp only [Res.okb]
  apply Ok.eq
  refine Ok.bind (Jp (fun g : Int × Int=>∃ u v : Nat, g = ((u : Int), (v : Int)) /\ Nat.gcd u v = Int.gcd x y) (fun g=>g.2.toNat) (fun g hg=>?_) _ ((x.natAbs : Int), (y.natAbs : Int)) ⟨x.natAbs, y.natAbs, rfl, rfl⟩ ?_) fun g hg=>?_
  . obtain ⟨u, v, rfl, h⟩ := hg
    refine ⟨_, rfl, fun c=>?_⟩
    have c' : (0 : Int) < (v : Int):=of_decide_eq_true c
    show Ok ((Z2 (u : Int) (v : Int)).bind _) _
    rw [Yh c', Res.okb]
    refine ⟨_, rfl, ⟨v, u % v, by rw [Int.natCast_emod], ?_⟩, ?_⟩
    . rw [← h, Nat.gcd_comm u v, Nat.gcd_rec v u, Nat.gcd_comm]
    . show ((u : Int) % (v : Int)).toNat < ((v : Int)).toNat
      have:=Int.emod_lt_of_pos (u : Int) c'
      have:=Int.emod_nonneg (u : Int) (show (v : Int) ≠ 0 by omega)
      omega
  . show ((y.natAbs : Int)).toNat < _
    omega
  . obtain ⟨⟨u, v, rfl, h⟩, hc⟩ := hg
    have hc' : ¬ (0 : Int) < (v : Int):=by
      have:=Res.ok.inj hc
      simpa using this
    have : v = 0:=by omega
    subst this
    rw [Nat.gcd_zero_right] at h
    exact ⟨_, rfl, by show (u : Int) = _; rw [h]⟩
theorem Df {n : Nat} {t z : Int} (h : t = 1 + (n : Int) * z) : Int.gcd t n = 1:=by
  have h1 : ((Int.gcd t n : Nat) : Int) ∣ t:=Int.gcd_dvd_left ..
  have h2 : ((Int.gcd t n : Nat) : Int) ∣ (n : Int):=Int.gcd_dvd_right ..
  have h3 : ((Int.gcd t n : Nat) : Int) ∣ 1:=by
    have : (1 : Int) = t - (n : Int) * z:=by omega
    rw [this]
    exact Int.dvd_sub h1 (Int.dvd_trans h2 (Int.dvd_mul_right ..))
  have h4:=Int.eq_one_of_dvd_one (by omega) h3
  omega
theorem Ky {way k : Int} {n : Nat} (hn : 0 < n) (h1 : n <= 1000) : Ok (ZZ way (n : Int) k) fun t=>∃ f, GoodF n f /\ t = Xv n f:=by
  unfold ZZ
  simp only [Res.okb, Zz, Bool.and_eq_true, decide_eq_true_eq]
  by_cases c5 : way = 5 /\ (n : Int) = 4
  . rw [if_pos c5]
    have hn : n = 4:=by omega
    subst hn
    exact ⟨[[0, 3, 1, 2], [2, 1, 3, 0], [3, 0, 2, 1], [1, 2, 0, 3]], rfl, Z7, Gi, Gx.symm⟩
  rw [if_neg c5]
  have ht:=Int.emod_add_mul_ediv (1 - k) (n : Int)
  have ht0:=Int.emod_nonneg (1 - k) (show (n : Int) ≠ 0 by omega)
  have ht1:=Int.emod_lt_of_pos (1 - k) (show (0 : Int) < (n : Int) by omega)
  generalize hq : (1 - k) % (n : Int) = m at ht ht0 ht1
  have hcop : Int.gcd (k + m) n = 1:=Df (z:=-((1 - k) / (n : Int))) (by rw [Int.mul_neg]; omega)
  refine Ok.bind (Jp (fun g : Int=>k <= g /\ g <= k + m) (fun g=>(k + m - g).toNat) (fun g hg=>?_) _ k ⟨Int.le_refl _, by omega⟩ ?_) fun g hg=>?_
  . rw [JQ, XR, Res.okb]
    refine ⟨_, rfl, fun c=>?_⟩
    have hne : g ≠ k + m:=fun e=>by
      rw [e, hcop] at c
      exact absurd c (by decide)
    refine ⟨_, rfl, ⟨by omega, by omega⟩, ?_⟩
    show (k + m - (g + 1)).toNat < (k + m - g).toNat
    omega
  . show (k + m - k).toNat < _
    omega
  . obtain ⟨_, hc⟩ := hg
    rw [JQ, XR, Res.okb] at hc
    have hg1 : Int.gcd g n = 1:=by
      have:=Res.ok.inj hc
      simp at this
      omega
    obtain ⟨gd, hce⟩:=Kz (way:=way) (k:=g) (n:=n) hn hg1
    refine ⟨Xv n (JP way g n), ?_, _, gd, rfl⟩
    rw [ZF (by omega), Res.okb]
    have hrow : ∀ a : Nat, a < n -> D0 ((List.range n).map fun (i : Nat)=>(i : Int)) (fun b=>noE (YL way (n : Int) g (a : Int) b)) = .ok (Y6 n (JP way g n) a):=fun a ha=>by
      rw [Vo (h:=fun x=>((JP way g n a x.toNat : Nat) : Int)) (sz (by simp; omega)) fun x hx=>?_]
      . rw [List.map_map]; rfl
      . obtain ⟨b, hb, rfl⟩ := XS hx
        rw [UH hn h1 ha hb, XR, Int.toNat_natCast, hce a b ha hb]
    rw [ZG (h:=fun x=>Y6 n (JP way g n) x.toNat) (sz (by simp; omega)) fun l hl x hx=>?_]
    . rw [Res.okb, List.nil_append, List.map_map]; rfl
    . obtain ⟨a, ha, rfl⟩ := XS hx
      rw [Res.okb, hrow a ha, Res.okb, Xz hl, Int.toNat_natCast]
end My
namespace My
open PySem L2
theorem V5 (ns : List Int) {p : Int} (hp : 0 <= p) {most : Nat} (h0 : 0 < most) (hm : most <= 24) : Ok (ZB ns p (most : Int)) fun t=>∃ n f, 0 < n /\ n <= most /\ GoodF n f /\ t = Xv n f:=by
  unfold ZB
  simp only [Res.okb]
  rw [Xz (sz (by simp))]
  simp only [Res.okb]
  rw [Xz (sz (by simp))]
  simp only [Res.okb]
  rw [show Cr [(24 : Int)] 24 = .ok (List.replicate 24 24) from rfl]
  simp only [Res.okb]
  rw [show Cd [(7 : Int), 24, 6, 2] (List.replicate 24 24) = .ok ([(7 : Int), 24, 6, 2] ++ List.replicate 24 24) from Xz (sz (by simp))]
  simp only [Res.okb]
  refine Ok.bind (Ok.noE (VN ns hp _ (by simp) fun x hx=>?_)) fun r hr=>?_
  . rw [List.mem_append] at hx
    rcases hx with h | h
    . simp only [List.mem_cons, List.not_mem_nil, or_false] at h
      rcases h with rfl | rfl | rfl | rfl <;> decide
    . rw [(List.mem_replicate.mp h).2]; decide
  obtain ⟨hl, hv⟩:=hr
  have hl' : r.length = 28:=by rw [hl]; simp
  clear hl hv
  rw [Y9 (r:=r) (k:=0) (n:=0) rfl (by omega), Y9 (r:=r) (k:=1) (n:=1) rfl (by omega), Y9 (r:=r) (k:=2) (n:=2) rfl (by omega), Y9 (r:=r) (k:=3) (n:=3) rfl (by omega)]
  simp only [Res.okb, Zz]
  rw [Yh (by omega)]
  simp only [Res.okb]
  have a0:=Int.emod_nonneg r[1] (show (most : Int) ≠ 0 by omega)
  have a1:=Int.emod_lt_of_pos r[1] (show (0 : Int) < (most : Int) by omega)
  obtain ⟨s, es⟩ : ∃ s : Int, s = (1 : Int) + r[1] % (most : Int):=⟨_, rfl⟩
  rw [← es]
  have hs : 0 < s /\ s <= (most : Int):=by omega
  clear es
  obtain ⟨n, rfl⟩ : ∃ n : Nat, s = (n : Int):=⟨s.toNat, by omega⟩
  refine Ok.bind (Ok.noE (Ky (by omega) (by omega))) fun t ht=>?_
  obtain ⟨f, gd, rfl⟩:=ht
  refine Ok.ite (fun _=>⟨_, rfl, n, f, by omega, by omega, gd, rfl⟩) fun _=>?_
  rw [show UT r (some 4) none = r.drop 4 from VM r (k:=4) (by omega)]
  refine Ok.bind (Ok.noE (Q2 (by omega) (by rw [List.length_drop]; omega))) fun sp hsp=>?_
  obtain ⟨q, q', hq⟩:=hsp
  rw [QJ (by omega) gd.lt hq, XR]
  exact ⟨_, rfl, n, _, by omega, by omega, hq.1.good gd, rfl⟩
end My
namespace My
open PySem L2
theorem GA {α ρ : Type} {g : Unit -> α -> Res (Ctl ρ Unit)} {P : α -> Prop} {R : ρ -> Prop} {as : List α} : (∀ a ∈ as, (g () a = .ok (.nx ()) /\ P a) ∨ ∃ r, g () a = .ok (.ret r) /\ R r /\ ¬ P a) -> (forC as () g = .ok (.nx ()) /\ ∀ a ∈ as, P a) ∨ ∃ r, forC as () g = .ok (.ret r) /\ R r /\ ¬ ∀ a ∈ as, P a:=by
  induction as with
  | nil=>intro _; exact .inl ⟨rfl, fun a h=>nomatch h⟩
  | cons a as ih=>
    intro h
    rcases h a List.mem_cons_self with ⟨e, p⟩ | ⟨r, e, hr, np⟩
    . rcases ih (fun b hb => h b (List.mem_cons_of_mem _ hb)) with ⟨e2, p2⟩ | ⟨r, e2, hr, np⟩
      . exact .inl ⟨by show (g () a).bind _ = _; rw [e, Res.okb]; exact e2, fun b hb=>(List.mem_cons.mp hb).elim (fun z=>z ▸ p) (p2 b)⟩
      . exact .inr ⟨r, by show (g () a).bind _ = _; rw [e, Res.okb]; exact e2, hr, fun z=>np fun b hb=>z b (List.mem_cons_of_mem _ hb)⟩
    . exact .inr ⟨r, by show (g () a).bind _ = _; rw [e, Res.okb], hr, fun z=>np (z a List.mem_cons_self)⟩
noncomputable def In (n : Nat) (ks : List Int) : Prop:=∀ x ∈ ks, 0 <= x /\ x < (n : Int)
theorem B3 {n : Nat} {f : Nat -> Nat -> Nat} {a b : Int} (ha : 0 <= a /\ a < n) (hb : 0 <= b /\ b < n) : ((atR (Xv n f) a).bind fun r=>atR r b) = .ok (f a.toNat b.toNat : Int):=by
  obtain ⟨i, rfl⟩ : ∃ i : Nat, a = i:=⟨a.toNat, by omega⟩
  obtain ⟨j, rfl⟩ : ∃ j : Nat, b = j:=⟨b.toNat, by omega⟩
  rw [VW (by omega), Res.okb, Fu (by omega)]
  rfl
section
variable {n : Nat} {f g : Nat -> Nat -> Nat}
noncomputable def im1 (im : List Int) (a : Nat) : Int:=im.getD a 0
theorem Dk {im : List Int} {a : Nat} (h : a < im.length) : atR im (a : Int) = .ok (im1 im a):=Zl (by unfold im1; simp [h])
theorem Bi {im : List Int} (hi : In n im) {a : Nat} (h : a < im.length) : 0 <= im1 im a /\ im1 im a < (n : Int):=hi _ (by
  unfold im1
  rw [List.getD_eq_getElem?_getD, List.getElem?_eq_getElem h]
  exact List.getElem_mem h)
noncomputable def bad (f g : Nat -> Nat -> Nat) (im : List Int) (a b : Nat) : Bool:=decide ((f a b : Int) < (im.length : Int)) && !(decide ((g (im1 im a).toNat (im1 im b).toNat : Int) = im1 im (f a b)))
noncomputable def stB (f g : Nat -> Nat -> Nat) (im : List Int) : Bool:=(List.range im.length).all fun a=>(List.range im.length).all fun b=>!(bad f g im a b)
theorem Qz {im : List Int} : stB f g im = true ↔ ∀ a b, a < im.length -> b < im.length -> bad f g im a b = false:=by
  unfold stB
  rw [List.all_eq_true]
  constructor
  . intro h a b ha hb
    have:=List.all_eq_true.mp (h a (List.mem_range.mpr ha)) b (List.mem_range.mpr hb)
    simpa using this
  . intro h a ha
    rw [List.all_eq_true]
    intro b hb
    rw [h a b (List.mem_range.mp ha) (List.mem_range.mp hb)]
    rfl
theorem FE {im : List Int} (hi : In n im) (hl : im.length <= n) {a b : Nat} (ha : a < im.length) (hb : b < im.length) :
    ((Res.bind (atR (Xv n f) (a : Int)) fun x=>atR x (b : Int)).bind fun r=>ZS (.ok (decide (r < (im.length : Int)))) (((Res.bind (atR im (a : Int)) fun x=>atR (Xv n g) x).bind fun x=>Res.bind (atR im (b : Int)) fun y=>atR x y).bind fun x=>Res.bind (atR im r) fun y=>.ok (!(decide (x = y))))) = .ok (bad f g im a b):=by
  rw [B3 (n:=n) (f:=f) (by omega) (by omega), Res.okb, Int.toNat_natCast, Int.toNat_natCast]
  unfold bad
  refine Fm fun h=>?_
  have h : (f a b : Int) < (im.length : Int):=of_decide_eq_true h
  have h1:=Bi hi ha
  have h2:=Bi hi hb
  rw [Dk ha, Dk hb, Res.okb]
  have h3:=B3 (n:=n) (f:=g) h1 h2
  obtain ⟨i, hi'⟩ : ∃ i : Nat, im1 im a = i:=⟨(im1 im a).toNat, by omega⟩
  rw [hi', VW (by omega), Res.okb] at h3 ⊢
  simp only [Res.okb] at h3 ⊢
  rw [h3, Res.okb, Dk (by omega), Res.okb]
theorem BT {m : Res Int} {c : Int -> Res Bool} {b : Bool} (h : m.bind c = .ok b) : (m.bind fun r=>(c r).bind fun x=>if x = true then Res.ok (Ctl.ret false : Ctl Bool Unit) else Res.ok (Ctl.nx ())) = if b = true then .ok (.ret false) else .ok (.nx ()):=by
  rw [← XF, h, Res.okb]
theorem K4 {im : List Int} (hi : In n im) (hl : im.length <= n) {a b : Nat} (ha : a < im.length) (hb : b < im.length) : Xp (Xv n f) (Xv n g) im (a : Int) (b : Int) = .ok (bad f g im a b):=by
  unfold Xp
  simp only [Res.okb]
  exact FE hi hl ha hb
theorem Kx {im : List Int} (hi : In n im) (hl : im.length <= n) (hn : n <= 1000) : ∃ o, X3 (Xv n f) (Xv n g) im = .ok o /\ o.isSome = !(stB f g im):=by
  unfold X3
  simp only [Res.okb]
  rw [ZF (n:=im.length) (by omega)]
  simp only [Res.okb]
  have inner : ∀ a ∈ (List.range im.length).map (fun (i : Nat)=>(i : Int)), ((forC ((List.range im.length).map fun (i : Nat)=>(i : Int)) () (fun (_ : Unit) (b : Int)=>(Res.bind (noE (Xp (Xv n f) (Xv n g) im a b)) fun x23=>(if x23 = true then (Res.ok (Ctl.ret (some (a, b)))) else (Res.ok (Ctl.nx ())))))).bind (Yv fun (_ : Unit)=>Res.ok (Ctl.nx ())) = .ok (.nx ()) /\ ∀ b : Nat, b < im.length -> bad f g im a.toNat b = false) ∨ ∃ r : Option (Int × Int), ((forC ((List.range im.length).map fun (i : Nat)=>(i : Int)) () (fun (_ : Unit) (b : Int)=>(Res.bind (noE (Xp (Xv n f) (Xv n g) im a b)) fun x23=>(if x23 = true then (Res.ok (Ctl.ret (some (a, b)))) else (Res.ok (Ctl.nx ())))))).bind (Yv fun (_ : Unit)=>Res.ok (Ctl.nx ()))) = .ok (.ret r) /\ r.isSome = true /\ ¬ ∀ b : Nat, b < im.length -> bad f g im a.toNat b = false:=fun a ha=>by
    obtain ⟨i, hi', rfl⟩:=XS ha
    rcases GA (g:=fun (_ : Unit) (b : Int)=>(Res.bind (noE (Xp (Xv n f) (Xv n g) im (i : Int) b)) fun x23=>(if x23 = true then (Res.ok (Ctl.ret (some ((i : Int), b)))) else (Res.ok (Ctl.nx ()))))) (P:=fun b : Int=>bad f g im i b.toNat = false) (R:=fun r : Option (Int × Int)=>r.isSome = true) (as:=(List.range im.length).map fun (i : Nat)=>(i : Int)) (fun b hb=>by
      obtain ⟨j, hj, rfl⟩:=XS hb
      show (Res.bind (noE (Xp (Xv n f) (Xv n g) im (i : Int) (j : Int))) _ = _ /\ _) ∨ ∃ r, Res.bind (noE (Xp (Xv n f) (Xv n g) im (i : Int) (j : Int))) _ = _ /\ _
      rw [K4 hi hl hi' hj, XR, Res.okb, Int.toNat_natCast]
      cases q : bad f g im i j with
      | false=>exact .inl ⟨by rw [if_neg (by decide)], rfl⟩
      | true=>exact .inr ⟨_, by rw [if_pos rfl], rfl, by decide⟩) with ⟨e, p⟩ | ⟨r, e, hr, np⟩
    . refine .inl ⟨by rw [e, Res.okb, JU], fun b hb => ?_⟩
      have:=p (b : Int) (List.mem_map.mpr ⟨b, List.mem_range.mpr hb, rfl⟩)
      simpa using this
    . refine .inr ⟨r, by rw [e, Res.okb, QW], hr, fun z => np fun b hb => ?_⟩
      obtain ⟨j, hj, rfl⟩:=XS hb
      simpa using z j hj
  rcases GA (g:=fun (_ : Unit) (a7 : Int)=>(Res.bind (forC ((List.range im.length).map fun (i : Nat)=>(i : Int)) () (fun (_ : Unit) (a15 : Int)=>(Res.bind (noE (Xp (Xv n f) (Xv n g) im a7 a15)) fun x23=>(if x23 = true then (Res.ok (Ctl.ret (some (a7, a15)))) else (Res.ok (Ctl.nx ())))))) (Yv fun (_ : Unit)=>(Res.ok (Ctl.nx ()))))) (P:=fun a : Int=>∀ b : Nat, b < im.length -> bad f g im a.toNat b = false) (R:=fun r : Option (Int × Int)=>r.isSome = true) inner with ⟨e, p⟩ | ⟨r, e, hr, np⟩
  . refine ⟨none, by rw [e, Res.okb, Qi], ?_⟩
    rw [Qz.mpr fun a b ha hb=>by simpa using p (a : Int) (List.mem_map.mpr ⟨a, List.mem_range.mpr ha, rfl⟩) b hb]
    rfl
  . refine ⟨r, by rw [e, Res.okb, Ql], ?_⟩
    cases q : stB f g im with
    | false=>exact hr
    | true=>
      refine absurd (fun a ha b hb=>?_) np
      obtain ⟨i, hi', rfl⟩:=XS ha
      simpa using Qz.mp q i b hi' hb
theorem Kt {im : List Int} (hi : In n im) (hl : im.length <= n) (hn : n <= 1000) : Zp (Xv n f) (Xv n g) im = .ok (stB f g im):=by
  unfold Zp
  simp only [Res.okb]
  rw [ZF (n:=im.length) (by omega)]
  simp only [Res.okb]
  have inner : ∀ {F : Unit -> Int -> Res (Ctl Bool Unit)} {i : Nat}, (∀ j : Nat, j < im.length -> F () (j : Int) = if bad f g im i j = true then .ok (.ret false) else .ok (.nx ())) -> (((forC ((List.range im.length).map fun (i : Nat)=>(i : Int)) () F).bind (Yv fun (_ : Unit)=>Res.ok (Ctl.nx ()))) = .ok (.nx ()) /\ ∀ b : Nat, b < im.length -> bad f g im i b = false) ∨ ∃ r : Bool, ((forC ((List.range im.length).map fun (i : Nat)=>(i : Int)) () F).bind (Yv fun (_ : Unit)=>Res.ok (Ctl.nx ()))) = .ok (.ret r) /\ r = false /\ ¬ ∀ b : Nat, b < im.length -> bad f g im i b = false:=fun {F i} hF=>by
    rcases GA (g:=F) (P:=fun b : Int=>bad f g im i b.toNat = false) (R:=fun r : Bool=>r = false) (as:=(List.range im.length).map fun (i : Nat)=>(i : Int)) (fun b hb=>by
      obtain ⟨j, hj, rfl⟩:=XS hb
      rw [hF j hj, Int.toNat_natCast]
      cases q : bad f g im i j with
      | false=>exact .inl ⟨by rw [if_neg (by decide)], rfl⟩
      | true=>exact .inr ⟨_, by rw [if_pos rfl], rfl, by decide⟩) with ⟨e, p⟩ | ⟨r, e, hr, np⟩
    . refine .inl ⟨by rw [e, Res.okb, JU], fun b hb => ?_⟩
      have:=p (b : Int) (List.mem_map.mpr ⟨b, List.mem_range.mpr hb, rfl⟩)
      simpa using this
    . refine .inr ⟨r, by rw [e, Res.okb, QW], hr, fun z => np fun b hb => ?_⟩
      obtain ⟨j, hj, rfl⟩:=XS hb
      simpa using z j hj
  rcases GA (g:=fun (_ : Unit) (a9 : Int)=>(Res.bind (forC ((List.range im.length).map fun (i : Nat)=>(i : Int)) () (fun (_ : Unit) (a16 : Int)=>(Res.bind (Res.bind (atR (Xv n f) a9) fun x22=>(atR x22 a16)) fun a18=>(Res.bind (ZS (Res.ok (decide (a18 < (im.length : Int)))) (Res.bind (Res.bind (Res.bind (atR im a9) fun x29=>(atR (Xv n g) x29)) fun x32=>(Res.bind (atR im a16) fun x33=>(atR x32 x33))) fun x36=>(Res.bind (atR im a18) fun x37=>(Res.ok (!(decide (x36 = x37))))))) fun x38=>(if x38 = true then (Res.ok (Ctl.ret false)) else (Res.ok (Ctl.nx ()))))))) (Yv fun (_ : Unit)=>(Res.ok (Ctl.nx ()))))) (P:=fun a : Int=>∀ b : Nat, b < im.length -> bad f g im a.toNat b = false) (R:=fun r : Bool=>r = false) (as:=(List.range im.length).map fun (i : Nat)=>(i : Int)) (fun a ha=>by
    obtain ⟨i, hi', rfl⟩:=XS ha
    rw [Int.toNat_natCast]
    exact inner fun j hj=>by
      have:=FE (f:=f) (g:=g) hi hl hi' hj
      have e:=BT this
      exact e) with ⟨e, p⟩ | ⟨r, e, hr, np⟩
  . rw [e, Res.okb, Qi, Qz.mpr fun a b ha hb=>by simpa using p (a : Int) (List.mem_map.mpr ⟨a, List.mem_range.mpr ha, rfl⟩) b hb]
  . rw [e, Res.okb, Ql, hr]
    cases q : stB f g im with
    | false=>rfl
    | true=>
      refine absurd (fun a ha b hb=>?_) np
      obtain ⟨i, hi', rfl⟩:=XS ha
      simpa using Qz.mp q i b hi' hb
noncomputable def lon (n : Nat) (im : List Int) : List (List Int):=(((List.range n).map fun (i : Nat)=>(i : Int)).filter fun c=>!(decide (c ∈ im))).map fun c=>im ++ [c]
theorem U5 {im : List Int} (hl : im.length <= 1000) (hn : n <= 1000) : Zs im (n : Int) = .ok (lon n im):=by
  unfold Zs
  simp only [Res.okb]
  rw [ZF (by omega), Res.okb, Kk (p:=fun c=>!(decide (c ∈ im))) (h:=fun c=>im ++ [c]) (sz (by simp; omega)) (fun _ _=>rfl) fun a _ _=>?_]
  . rfl
  . rw [Xz (sz (by simp)), Res.okb]
    exact Xz (sz (by simp; omega))
theorem Ux {im : List Int} (hl : im.length <= 1000) (hn : n <= 1000) : XY im (n : Int) = .ok (lon n im).reverse:=by
  unfold XY
  simp only [Res.okb]
  have e : Bw ((n : Int) - 1) (-1) (-1) = .ok ((List.range n).map fun (i : Nat)=>(i : Int)).reverse:=by
    unfold Bw
    rw [Xz ⟨rfl, by omega, by omega, by decide, by decide⟩]
    congr 1
    unfold QZ
    refine List.ext_getElem (by simp) fun i h1 h2=>?_
    simp at h1 h2 ⊢
    omega
  rw [e, Res.okb, Kk (p:=fun c=>!(decide (c ∈ im))) (h:=fun c=>im ++ [c]) (sz (by simp; omega)) (fun _ _=>rfl) fun a _ _=>?_]
  . unfold lon
    rw [List.filter_reverse, List.map_reverse]
  . rw [Xz (sz (by simp)), Res.okb]
    exact Xz ⟨by simp, sz (by simp; omega)⟩
theorem Dm {im w : List Int} (h : w ∈ lon n im) : ∃ c, w = im ++ [c] /\ c ∉ im /\ 0 <= c /\ c < (n : Int):=by
  obtain ⟨c, hc, rfl⟩:=List.mem_map.mp h
  obtain ⟨h1, h2⟩:=List.mem_filter.mp hc
  obtain ⟨i, hi, rfl⟩:=XS h1
  exact ⟨_, rfl, by simpa using h2, by omega, by omega⟩
theorem Js (im : List Int) : (lon n im).length <= n:=by
  unfold lon
  rw [List.length_map]
  exact Nat.le_trans (List.length_filter_le ..) (by simp)
structure Im (n k : Nat) (im : List Int) : Prop where
  inn : In n im
  len : im.length = k
  nd : im.Nodup
theorem Im.lon {k : Nat} {im w : List Int} (h : Im n k im) (hw : w ∈ lon n im) : Im n (k + 1) w:=by
  obtain ⟨c, rfl, h1, h2, h3⟩:=Dm hw
  refine ⟨fun x hx=>?_, by rw [List.length_append, h.len]; rfl, ?_⟩
  . rcases List.mem_append.mp hx with z | z
    . exact h.inn x z
    . rw [List.mem_singleton.mp z]; exact ⟨h2, h3⟩
  . rw [List.nodup_append]
    exact ⟨h.nd, by simp, fun x hx y hy=>by rw [List.mem_singleton.mp hy]; exact fun z=>h1 (z ▸ hx)⟩
noncomputable def lvs (n : Nat) (f g : Nat -> Nat -> Nat) : Nat -> List Int -> List (List Int)
  | 0, im=>if stB f g im = true then [im] else []
  | d + 1, im=>if stB f g im = true then (lon n im).flatMap (lvs n f g d) else []
theorem FM {d : Nat} {im : List Int} (h : stB f g im = false) : lvs n f g d im = []:=by
  cases d <;> (unfold lvs; rw [h]; rfl)
theorem UE (d : Nat) (ws : List (List Int)) : (ws.filter (stB f g)).flatMap (lvs n f g d) = ws.flatMap (lvs n f g d):=by
  induction ws with
  | nil=>rfl
  | cons w ws ih=>
    rw [List.flatMap_cons, List.filter_cons]
    cases q : stB f g w with
    | true=>rw [if_pos rfl, List.flatMap_cons, ih]
    | false=>rw [if_neg (by decide), ih, FM q]; rfl
theorem DO {d k : Nat} {im w : List Int} (h : Im n k im) (hw : w ∈ lvs n f g d im) : Im n (k + d) w /\ stB f g w = true:=by
  induction d generalizing k im with
  | zero=>
    unfold lvs at hw
    split at hw
    . rw [List.mem_singleton.mp hw]; exact ⟨h, by assumption⟩
    . cases hw
  | succ d ih=>
    unfold lvs at hw
    split at hw
    . obtain ⟨v, hv, hw⟩ := List.mem_flatMap.mp hw
      have:=ih (h.lon hv) hw
      rw [show k + 1 + d = k + (d + 1) by omega] at this
      exact this
    . cases hw
noncomputable def lev (n : Nat) (f g : Nat -> Nat -> Nat) : Nat -> List (List Int)
  | 0=>[[]]
  | k + 1=>(lev n f g k).flatMap fun im=>(lon n im).filter (stB f g)
theorem VH {k : Nat} {w : List Int} (h : w ∈ lev n f g k) : Im n k w /\ stB f g w = true:=by
  induction k generalizing w with
  | zero=>rw [List.mem_singleton.mp h]; exact ⟨⟨fun x hx=>(nomatch hx), rfl, List.nodup_nil⟩, rfl⟩
  | succ k ih=>
    obtain ⟨v, hv, hw⟩:=List.mem_flatMap.mp h
    obtain ⟨h1, h2⟩:=List.mem_filter.mp hw
    exact ⟨(ih hv).1.lon h1, h2⟩
theorem DE {k d : Nat} (h : k + d = n) : (lev n f g k).flatMap (lvs n f g d) = lvs n f g n []:=by
  induction k generalizing d with
  | zero=>
    have e : d = n:=by omega
    subst e
    show List.flatMap _ [[]] = _
    rw [List.flatMap_cons, List.flatMap_nil, List.append_nil]
  | succ k ih=>
    rw [← ih (d:=d + 1) (by omega)]
    show ((lev n f g k).flatMap fun im=>(lon n im).filter (stB f g)).flatMap (lvs n f g d) = _
    rw [List.flatMap_assoc]
    have : ∀ ws : List (List Int), (∀ w ∈ ws, stB f g w = true) -> (ws.flatMap fun x=>((lon n x).filter (stB f g)).flatMap (lvs n f g d)) = ws.flatMap (lvs n f g (d + 1)):=fun ws=>by
      induction ws with
      | nil=>intro _; rfl
      | cons w ws ih2=>
        intro hw
        rw [List.flatMap_cons, List.flatMap_cons, ih2 fun v hv=>hw v (List.mem_cons_of_mem _ hv), UE]
        congr 1
        conv=>rhs; unfold lvs
        rw [if_pos (hw w List.mem_cons_self)]
    exact this _ fun w hw=>(VH hw).2
theorem U6 : lev n f g n = lvs n f g n []:=by
  rw [← DE (k:=n) (d:=0) (by omega)]
  have : ∀ ws : List (List Int), (∀ w ∈ ws, stB f g w = true) -> ws = ws.flatMap (lvs n f g 0):=fun ws=>by
    induction ws with
    | nil=>intro _; rfl
    | cons w ws ih=>
      intro hw
      rw [List.flatMap_cons, ← ih fun v hv=>hw v (List.mem_cons_of_mem _ hv)]
      conv=>rhs; unfold lvs
      rw [if_pos (hw w List.mem_cons_self)]
      rfl
  exact this _ fun w hw=>(VH hw).2
theorem Vs (k : Nat) : (lev n f g k).length <= n ^ k:=by
  induction k with
  | zero=>exact Nat.le_refl _
  | succ k ih=>
    have : ∀ ws : List (List Int), (ws.flatMap fun im=>(lon n im).filter (stB f g)).length <= ws.length * n:=fun ws=>by
      induction ws with
      | nil=>exact Nat.zero_le _
      | cons w ws ih2=>
        rw [List.flatMap_cons, List.length_append, List.length_cons, Nat.succ_mul]
        have:=Nat.le_trans (List.length_filter_le (stB f g) (lon n w)) (Js w)
        omega
    exact Nat.le_trans (this _) (by rw [Nat.pow_succ]; exact Nat.mul_le_mul_right n ih)
end
end My
namespace My
open PySem L2
section
variable {n : Nat} {f g : Nat -> Nat -> Nat}
theorem Fc {F : List (List Int) -> List Int -> Res (List (List Int))} {ws : List (List Int)} (hF : ∀ acc : List (List Int), acc.length < sizeLine -> ∀ w ∈ ws, F acc w = .ok (if stB f g w = true then acc ++ [w] else acc)) : ∀ {acc : List (List Int)}, acc.length + ws.length <= 100000 -> forN ws acc F = .ok (acc ++ ws.filter (stB f g)):=by
  induction ws with
  | nil=>intro acc _; rw [List.filter_nil, List.append_nil]; rfl
  | cons w ws ih=>
    intro acc ha
    rw [List.length_cons] at ha
    rw [forN, hF acc (Bb (by omega)) w List.mem_cons_self, Res.okb]
    have hx : (if stB f g w = true then acc ++ [w] else acc).length + ws.length <= 100000:=by
      split
      . rw [List.length_append, List.length_singleton]; omega
      . omega
    rw [ih (fun acc h v hv=>hF acc h v (List.mem_cons_of_mem _ hv)) hx, List.filter_cons]
    split
    . rw [List.append_assoc]; rfl
    . rfl
theorem GL (hn : n <= 6) : Zk (Xv n f) (Xv n g) = .ok (lvs n f g n []):=by
  unfold Zk
  simp only [Res.okb, Xs]
  rw [if_neg (by simp), Xz (sz (by simp)), Res.okb, ZF (by omega)]
  simp only [Res.okb]
  rw [← U6]
  have hpow : ∀ k, k <= n -> n ^ k <= 46656:=fun k hk=>by
    rcases Nat.eq_zero_or_pos n with z | z
    . subst z
      have : k = 0:=by omega
      subst this; decide
    . exact Nat.le_trans (Nat.pow_le_pow_right z hk) (by
        have : n = 1 ∨ n = 2 ∨ n = 3 ∨ n = 4 ∨ n = 5 ∨ n = 6:=by omega
        rcases this with rfl | rfl | rfl | rfl | rfl | rfl <;> decide)
  apply Ok.eq
  refine Ok.bind (Ok.forN (fun k g'=>g' = lev n f g k) rfl fun k a g' ha hg=>?_) fun g' hg=>?_
  . obtain ⟨rfl, hk⟩ := Zc ha
    subst hg
    have hlen:=Nat.le_trans (Vs (n:=n) (f:=f) (g:=g) k) (hpow k (by omega))
    have hlen2 : (lev n f g k).length * n <= 46656:=by
      have h1:=Nat.mul_le_mul_right n (Vs (n:=n) (f:=f) (g:=g) k)
      rw [← Nat.pow_succ] at h1
      exact Nat.le_trans h1 (hpow (k + 1) (by omega))
    have key : ∀ {F : List (List Int) -> List Int -> Res (List (List Int))} (ws : List (List Int)), (∀ w ∈ ws, Im n k w) -> (∀ acc : List (List Int), ∀ w, Im n k w -> acc.length <= 50000 -> F acc w = .ok (acc ++ (lon n w).filter (stB f g))) -> ∀ acc : List (List Int), acc.length + ws.length * n <= 46656 -> forN ws acc F = .ok (acc ++ ws.flatMap fun im=>(lon n im).filter (stB f g)):=fun {F} ws=>by
      induction ws with
      | nil=>intro _ _ acc _; rw [List.flatMap_nil, List.append_nil]; rfl
      | cons w ws ih=>
        intro hw hF acc ha
        rw [List.length_cons, Nat.succ_mul] at ha
        have hl:=Nat.le_trans (List.length_filter_le (stB f g) (lon n w)) (Js (n:=n) w)
        rw [forN, hF acc w (hw w List.mem_cons_self) (by omega), Res.okb, ih (fun v hv=>hw v (List.mem_cons_of_mem _ hv)) hF _ (by rw [List.length_append]; omega), List.flatMap_cons, List.append_assoc]
    rw [key _ (fun w hw=>(VH hw).1) (fun acc w hw ha=>?_) [] (by simpa using hlen2), Res.okb]
    . exact ⟨_, rfl, rfl⟩
    . have hwl := hw.len
      rw [U5 (by omega) (by omega), XR, Res.okb, Fc (f:=f) (g:=g) (fun acc ha v hv=>?_) (by have:=Js (n:=n) w; omega), Res.okb]
      have hI:=hw.lon hv
      rw [Kt hI.inn (by have:=hI.len; omega) (by omega), XR, Res.okb]
      cases stB f g v with
      | true=>rw [if_pos rfl, if_pos rfl, Xz ha, Res.okb]
      | false=>rw [if_neg (by decide), if_neg (by decide), Res.okb]
  . rw [YY] at hg
    exact ⟨g', rfl, hg⟩
theorem Ko {α : Type} (as : List α) (a : α) : KL (as ++ [a]) = .ok (a, as):=by
  unfold KL
  rw [List.getLast?_concat, List.dropLast_concat]
noncomputable def tN (n : Nat) : Nat -> Nat
  | 0=>1
  | d + 1=>1 + n * tN n d
noncomputable def mu (n : Nat) (W : List (List Int)) : Nat:=(W.map fun w=>tN n (n - w.length)).sum
theorem FH (d : Nat) : 0 < tN n d:=by cases d <;> (unfold tN; omega)
theorem Fk (V W : List (List Int)) : mu n (V ++ W) = mu n V + mu n W:=by unfold mu; rw [List.map_append, List.sum_append]
theorem CV (W : List (List Int)) : W.length <= mu n W:=by
  unfold mu
  induction W with
  | nil=>exact Nat.zero_le _
  | cons w W ih=>
    rw [List.map_cons, List.sum_cons, List.length_cons]
    have:=FH (n:=n) (n - w.length)
    omega
theorem DS {W : List (List Int)} {k : Nat} (h : ∀ w ∈ W, w.length = k) : mu n W = W.length * tN n (n - k):=by
  unfold mu
  induction W with
  | nil=>simp
  | cons w W ih=>
    rw [List.map_cons, List.sum_cons, List.length_cons, ih fun v hv=>h v (List.mem_cons_of_mem _ hv), h w List.mem_cons_self, Nat.succ_mul]
    omega
noncomputable def Ck (n : Nat) (f g : Nat -> Nat -> Nat) (W : List (List Int)) : Option (List Int):=(W.reverse.flatMap fun w=>lvs n f g (n - w.length) w).head?
theorem U9 {γ ρ : Type} {c : γ -> Res Bool} {F : γ -> Res (Ctl ρ γ)} (P : γ -> Prop) (R : ρ -> Prop) (μ : γ -> Nat) (hs : ∀ g, P g -> ∃ b, c g = .ok b /\ (b = true -> (∃ g', F g = .ok (.nx g') /\ P g' /\ μ g' < μ g) ∨ ∃ x, F g = .ok (.ret x) /\ R x)) (k : Nat) : ∀ g : γ, P g -> μ g < k -> (∃ g', Zw k g c F = .ok (.nx g') /\ P g' /\ c g' = .ok false) ∨ ∃ x, Zw k g c F = .ok (.ret x) /\ R x:=by
  induction k with
  | zero=>intro g _ h; omega
  | succ k ih=>
    intro g hp h
    obtain ⟨b, eb, hb⟩:=hs g hp
    rw [Zw, eb, Res.okb]
    cases b with
    | false=>exact .inl ⟨g, rfl, hp, eb⟩
    | true=>
      rcases hb rfl with ⟨g', e, p', l⟩ | ⟨x, e, hx⟩
      . rw [if_pos rfl, e, Res.okb]
        exact ih g' p' (by omega)
      . rw [if_pos rfl, e, Res.okb]
        exact .inr ⟨x, rfl, hx⟩
theorem K0 {γ ρ : Type} {c : γ -> Res Bool} {F : γ -> Res (Ctl ρ γ)} {fn : γ -> Res ρ} {T : ρ -> Prop} (P : γ -> Prop) (R : ρ -> Prop) (μ : γ -> Nat) (hs : ∀ g, P g -> ∃ b, c g = .ok b /\ (b = true -> (∃ g', F g = .ok (.nx g') /\ P g' /\ μ g' < μ g) ∨ ∃ x, F g = .ok (.ret x) /\ R x)) {k : Nat} {g : γ} (hp : P g) (hk : μ g < k)
    (h1 : ∀ g, P g -> c g = .ok false -> Ok (fn g) T) (h2 : ∀ x, R x -> T x) : Ok ((Zw k g c F).bind (YX fn)) T:=by
  rcases U9 P R μ hs k g hp hk with ⟨s, e, p, hc⟩ | ⟨x, e, hx⟩
  . rw [e, Res.okb, Qi]; exact h1 s p hc
  . rw [e, Res.okb, Ql]; exact .pure (h2 x hx)
theorem G9 {d : Nat} {im : List Int} (h : stB f g im = true) : lvs n f g (d + 1) im = (lon n im).flatMap (lvs n f g d):=by
  show (if stB f g im = true then _ else _) = _
  rw [if_pos h]
theorem G0 {im : List Int} (h : stB f g im = true) : lvs n f g 0 im = [im]:=by
  show (if stB f g im = true then _ else _) = _
  rw [if_pos h]
theorem Vw (hn : n <= 6) : Ok (Yl (Xv n f) (Xv n g)) fun r=>r.1 = (lvs n f g n []).head?:=by
  unfold Yl
  simp only [Res.okb, Xs]
  rw [if_pos (by simp), Xz (sz (by simp)), Res.okb]
  simp only [Res.okb]
  rw [Xz (sz (by simp)), Res.okb]
  have hT : tN n n <= 55987:=by
    have : n = 0 ∨ n = 1 ∨ n = 2 ∨ n = 3 ∨ n = 4 ∨ n = 5 ∨ n = 6:=by omega
    rcases this with rfl | rfl | rfl | rfl | rfl | rfl | rfl <;> decide
  have h0 : Ck n f g [[]] = (lvs n f g n []).head?:=by
    unfold Ck
    show ([[]].flatMap _).head? = _
    rw [List.flatMap_cons, List.flatMap_nil, List.append_nil]
    rfl
  have hm0 : mu n [[]] = tN n n:=by unfold mu; simp
  refine K0 (fun s : List (List Int) × List (List Int × Int × Int)=>(∀ w ∈ s.1, ∃ k, k <= n /\ Im n k w) /\ s.2.length + mu n s.1 <= 60000 /\ Ck n f g s.1 = (lvs n f g n []).head?) (fun r : Option (List Int) × List (List Int × Int × Int)=>r.1 = (lvs n f g n []).head?) (fun s=>mu n s.1) (fun s hs=>?_) ⟨fun w hw=>⟨0, Nat.zero_le _, by rw [List.mem_singleton.mp hw]; exact ⟨fun x hx=>(nomatch hx), rfl, List.nodup_nil⟩⟩, by show 0 + mu n [[]] <= _; rw [hm0]; omega, h0⟩ (by show mu n [[]] < _; rw [hm0]; omega) (fun s hs hc=>?_) fun x hx=>hx
  . obtain ⟨h1, h2, h3⟩ := hs
    refine ⟨decide ((0 : Int) < (s.1.length : Int)), rfl, fun hb=>?_⟩
    have hb : (0 : Int) < (s.1.length : Int):=of_decide_eq_true hb
    obtain ⟨W, im, e⟩ : ∃ W im, s.1 = W ++ [im]:=by
      rcases List.eq_nil_or_concat s.1 with z | ⟨W, im, z⟩
      . rw [z] at hb; simp at hb
      . exact ⟨W, im, by rw [z, List.concat_eq_append]⟩
    rw [e] at h1 h2 h3
    have hW : ∀ w ∈ W, ∃ k, k <= n /\ Im n k w:=fun w hw=>h1 w (List.mem_append_left _ hw)
    obtain ⟨k, hk, hI⟩:=h1 im (by simp)
    have hlen:=hI.len
    have hmu : mu n (W ++ [im]) = mu n W + tN n (n - k):=by rw [Fk]; unfold mu; simp [hlen]
    have hans : Ck n f g (W ++ [im]) = ((lvs n f g (n - k) im) ++ W.reverse.flatMap fun w=>lvs n f g (n - w.length) w).head?:=by
      unfold Ck
      rw [List.reverse_append]
      show ((im :: W.reverse).flatMap _).head? = _
      rw [List.flatMap_cons, hlen]
    rw [hmu] at h2
    rw [hans] at h3
    have hWl:=CV (n:=n) W
    obtain ⟨o, eo, ho⟩:=Kx (f:=f) (g:=g) hI.inn (by omega) (by omega)
    rw [e, Ko, Res.okb, hmu]
    simp only
    rw [eo, XR, Res.okb]
    have htp:=FH (n:=n) (n - k)
    cases o with
    | some o=>
      have hst : stB f g im = false:=by
        cases q : stB f g im with
        | false=>rfl
        | true=>rw [q] at ho; cases ho
      left
      refine ⟨(W, s.2 ++ [(im, o.1, o.2)]), ?_, ⟨hW, by show (s.2 ++ [(im, o.1, o.2)]).length + mu n W <= _; rw [List.length_append, List.length_singleton]; omega, ?_⟩, by show mu n W < _; omega⟩
      . show Res.bind (chk (s.2.length < sizeLine) _) _ = _
        rw [Xz (Bb (by omega))]
        rfl
      . rw [FM hst, List.nil_append] at h3
        exact h3
    | none=>
      have hst : stB f g im = true:=by
        cases q : stB f g im with
        | true=>rfl
        | false=>rw [q] at ho; cases ho
      rw [if_neg (by decide)]
      by_cases hfull : k = n
      . right
        rw [if_pos (decide_eq_true (by omega))]
        refine ⟨(some im, s.2), rfl, ?_⟩
        show some im = _
        rw [← h3, show n - k = 0 by omega, G0 hst]
        rfl
      . left
        rw [if_neg (by rw [decide_eq_true_eq]; omega), Ux (by omega) (by omega), XR]
        have hll:=Js (n:=n) im
        have hsame : ∀ w ∈ (lon n im).reverse, w.length = k + 1:=fun w hw=>(hI.lon (List.mem_reverse.mp hw)).len
        have hmu2 : mu n (W ++ (lon n im).reverse) < mu n W + tN n (n - k):=by
          rw [Fk, DS hsame, List.length_reverse]
          have h4 : tN n (n - k) = 1 + n * tN n (n - (k + 1)):=by
            rw [show n - k = (n - (k + 1)) + 1 by omega]; rfl
          have h5:=Nat.mul_le_mul_right (tN n (n - (k + 1))) hll
          omega
        refine ⟨(W ++ (lon n im).reverse, s.2), ?_, ⟨fun w hw=>?_, by show s.2.length + mu n (W ++ (lon n im).reverse) <= _; omega, ?_⟩, hmu2⟩
        . show Res.bind (Res.bind (chk (W.length + (lon n im).reverse.length <= sizeLine) _) _) _ = _
          rw [Xz (sz (by rw [List.length_reverse]; omega))]
          rfl
        . rcases List.mem_append.mp hw with z | z
          . exact hW w z
          . exact ⟨k + 1, by omega, hI.lon (List.mem_reverse.mp z)⟩
        . have h6 : n - k = (n - (k + 1)) + 1 := by omega
          have h7 : ∀ ws : List (List Int), (∀ w ∈ ws, w.length = k + 1) -> (ws.flatMap fun w=>lvs n f g (n - w.length) w) = ws.flatMap (lvs n f g (n - (k + 1))):=fun ws=>by
            induction ws with
            | nil=>intro _; rfl
            | cons w ws ih=>intro hw; rw [List.flatMap_cons, List.flatMap_cons, ih fun v hv=>hw v (List.mem_cons_of_mem _ hv), hw w List.mem_cons_self]
          rw [h6, G9 hst] at h3
          rw [← h3]
          unfold Ck
          show ((W ++ (lon n im).reverse).reverse.flatMap _).head? = _
          rw [List.reverse_append, List.reverse_reverse, List.flatMap_append, h7 _ fun w hw=>(hI.lon hw).len]
  . obtain ⟨_, _, h3⟩ := hs
    have hc : decide ((0 : Int) < (s.1.length : Int)) = false:=Res.ok.inj hc
    have hc:=of_decide_eq_false hc
    have : s.1 = []:=List.length_eq_zero_iff.mp (by omega)
    rw [this] at h3
    exact ⟨_, rfl, h3⟩
theorem Ca (hn : n <= 6) : Zb (Xv n f) (Xv n g) = .ok (lvs n f g n []).head?:=by
  have e : XZ (Xv n f) (Xv n g) = .ok ():=by
    unfold XZ X2
    simp only [Res.okb, Xs]
    rw [if_neg (by rw [decide_eq_true_eq]; omega)]
    rfl
  unfold Zb
  simp only [Res.okb]
  rw [e, XR, Res.okb]
  obtain ⟨r, er, hr⟩:=Vw (f:=f) (g:=g) hn
  rw [er, XR, Res.okb, hr]
theorem DU {m : Nat} (hn : n <= 6) (hm : m <= 6) (h : n ≠ m) : Zb (Xv n f) (Xv m g) = .ok none:=by
  have e : XZ (Xv n f) (Xv m g) = .ok ():=by
    unfold XZ X2
    simp only [Res.okb, Xs]
    rw [if_neg (by rw [decide_eq_true_eq]; omega)]
    rfl
  unfold Zb
  simp only [Res.okb]
  rw [e, XR, Res.okb]
  have : ∃ p, Yl (Xv n f) (Xv m g) = .ok (none, p):=by
    unfold Yl
    simp only [Res.okb, Xs]
    rw [if_neg (by rw [decide_eq_true_eq]; omega), Res.okb]
    exact ⟨[], rfl⟩
  obtain ⟨p, e⟩:=this
  rw [e]; rfl
theorem GK {m : Nat} (h : n ≠ m) : Zk (Xv n f) (Xv m g) = .ok []:=by
  unfold Zk
  simp only [Res.okb, Xs]
  rw [if_pos (by rw [decide_eq_false (by omega)]; rfl)]
end
end My
namespace My
open PySem L2
section
variable {n : Nat} {f g : Nat -> Nat -> Nat}
theorem Kr : ∀ {a b : List Int}, a.Nodup -> (∀ x ∈ a, x ∈ b) -> b.length <= a.length -> a.Perm b
  | [], b, _, _, h=>by rw [List.length_eq_zero_iff.mp (Nat.le_zero.mp h)]
  | x :: a, b, hn, hs, h=>by
    have hx:=hs x List.mem_cons_self
    have hp:=List.perm_cons_erase hx
    rw [List.nodup_cons] at hn
    have hl:=hp.length_eq
    rw [List.length_cons] at hl h
    refine List.Perm.trans (List.Perm.cons x (Kr hn.2 (fun y hy=>?_) (by omega))) hp.symm
    have:=hp.mem_iff.mp (hs y (List.mem_cons_of_mem _ hy))
    rcases List.mem_cons.mp this with z | z
    . exact absurd (z ▸ hy) hn.1
    . exact z
theorem J1 (hn : n <= 1000) : Y3 (Xv n f) = .ok (Xv n f):=by
  unfold Y3
  simp only [Res.okb]
  rw [Vo (h:=fun a=>a) (sz (by rw [Xs]; omega)) fun _ _=>rfl, List.map_id']
theorem VB {e : List Int} (hn : n <= 6) (hf : ∀ a b, a < n -> b < n -> f a b < n) (hI : Im n n e) (hs : stB f g e = true) : Yq (Xv n f) e = .ok (Xv n g):=by
  have hl:=hI.len
  have hp : e.Perm ((List.range n).map fun (i : Nat)=>(i : Int)):=by
    have hsub : ∀ x ∈ e, x ∈ (List.range n).map fun (i : Nat)=>(i : Int):=fun x hx=>by
      obtain ⟨h1, h2⟩:=hI.inn x hx
      exact List.mem_map.mpr ⟨x.toNat, List.mem_range.mpr (by omega), by omega⟩
    exact Kr hI.nd hsub (by rw [YY]; omega)
  obtain ⟨p, q, hpq⟩:=Ud hp
  have P:=hpq.1
  rw [QJ (by omega) hf hpq]
  congr 1
  refine Yx fun x y hx hy=>?_
  have hqx:=P.qlt x hx
  have hqy:=P.qlt y hy
  have hb:=Qz.mp hs (q x) (q y) (by omega) (by omega)
  have hi : ∀ i, i < n -> im1 e i = (p i : Int):=fun i hi=>by
    unfold im1
    rw [hpq.2]
    simp [hi]
  have hlt:=hf _ _ hqx hqy
  unfold bad at hb
  rw [hi _ hqx, hi _ hqy, hi _ hlt, P.pq x hx, P.pq y hy, Int.toNat_natCast, Int.toNat_natCast, hl, decide_eq_true (by omega)] at hb
  simp only [Bool.true_and, Bool.not_eq_eq_eq_not, Bool.not_false, decide_eq_true_eq] at hb
  omega
theorem Jk {m : Nat} (hn : n <= 6) (hm : m <= 6) (hf : ∀ a b, a < n -> b < n -> f a b < n) : YN (Xv n f) (Xv m g) = .ok true:=by
  unfold YN
  simp only [Res.okb]
  rw [J1 (by omega), J1 (by omega), XR, XR]
  by_cases h : n = m
  . subst h
    rw [GL hn, XR]
    simp only [Res.okb, decide_true]
    rw [Ca hn, XR]
    simp only [Res.okb]
    have hmem : ∀ w ∈ lvs n f g n [], Im n n w /\ stB f g w = true:=fun w hw=>by
      have:=DO (k:=0) (im:=[]) ⟨fun x hx=>(nomatch hx), rfl, List.nodup_nil⟩ hw
      rw [Nat.zero_add] at this
      exact this
    have hlen : (lvs n f g n []).length <= 50000:=by
      rw [← U6]
      refine Nat.le_trans (Vs n) ?_
      have : n = 0 ∨ n = 1 ∨ n = 2 ∨ n = 3 ∨ n = 4 ∨ n = 5 ∨ n = 6:=by omega
      rcases this with rfl | rfl | rfl | rfl | rfl | rfl | rfl <;> decide
    generalize lvs n f g n [] = E at hmem hlen
    cases E with
    | nil=>rfl
    | cons e E=>
      obtain ⟨hI, hs⟩:=hmem e List.mem_cons_self
      have hat : atR (e :: E) (0 : Int) = .ok e:=Zl (as:=e :: E) (i:=0) rfl
      have hl:=hI.len
      rw [show (orR (Res.ok (!true)) (Res.ok (!true))) = .ok false from rfl, Res.okb, if_neg (by decide)]
      rw [if_neg (by rw [decide_eq_true_eq, List.length_cons]; omega), hat]
      simp only [Res.okb]
      rw [show ((e :: E).head?) = some e from rfl]
      rw [show (orR (Res.ok (!(if (some e).isSome = true then true else false))) (Res.ok (!(decide (some e = some e))))) = .ok false from by rw [decide_eq_true (rfl : some e = some e)]; rfl, Res.okb, if_neg (by decide)]
      rw [show Cg (some e) = .ok e from rfl, Res.okb, VX fun _ _=>rfl, Res.okb, Qi, VB hn hf hI hs, XR, Res.okb, Res.okb, decide_eq_true (rfl : Xv n g = Xv n g), if_neg (by decide), Xz (Bb (by rw [List.length_reverse]; omega)), decide_eq_true (rfl : some e = some e)]
  . rw [GK h, XR]
    simp only [Res.okb, decide_true]
    rw [DU hn hm h, XR]
    rfl
end
noncomputable def Qw (way n a b : Int) : Int:=if way = 1 /\ a < 3 /\ b < 3 then (2 * b - a) % 3 else if way = 0 /\ a < 2 /\ n - 2 <= b then 1 - a else a
theorem Di {way : Int} {n : Nat} (h3 : 3 < n) (hn : n <= 1000) : Ok (QY way (n : Int)) fun t=>∃ f, (∀ a b, a < n -> b < n -> f a b < n) /\ t = Xv n f:=by
  have hr : ∀ a b : Nat, a < n -> b < n -> 0 <= Qw way n a b /\ Qw way n a b < (n : Int):=fun a b ha hb=>by
    unfold Qw
    have m1:=Int.emod_nonneg (2 * (b : Int) - a) (show (3 : Int) ≠ 0 by decide)
    have m2:=Int.emod_lt_of_pos (2 * (b : Int) - a) (show (0 : Int) < 3 by decide)
    split
    . omega
    . split <;> omega
  refine ⟨Xv n fun a b=>(Qw way n a b).toNat, ?_, fun a b=>(Qw way n a b).toNat, fun a b ha hb=>by
    have:=hr a b ha hb
    show (Qw way n a b).toNat < n
    omega, rfl⟩
  unfold QY
  simp only [Res.okb]
  rw [ZF (by omega)]
  simp only [Res.okb]
  rw [ZG (h:=fun a : Int=>((List.range n).map fun (i : Nat)=>(i : Int)).map fun b=>Qw way n a b) (sz (by simp; omega)) fun acc hacc a ha=>?_]
  . rw [Res.okb, List.nil_append]
    congr 1
    unfold Xv
    rw [List.map_map]
    refine List.map_congr_left fun a ha=>?_
    show ((List.range n).map fun (i : Nat)=>(i : Int)).map _ = Y6 n _ a
    unfold Y6
    rw [List.map_map]
    refine List.map_congr_left fun b hb=>?_
    have:=hr a b (List.mem_range.mp ha) (List.mem_range.mp hb)
    show Qw way n a b = ((Qw way n a b).toNat : Int)
    omega
  . rw [ZG (h := fun b : Int => Qw way n a b) (sz (by simp; omega)) fun acc2 hacc2 b hb => ?_]
    . rw [Res.okb, List.nil_append, Xz hacc]
    . obtain ⟨i, hi, rfl⟩ := XS ha
      obtain ⟨j, hj, rfl⟩:=XS hb
      simp only [Zz, Res.okb]
      rw [Qs (by decide) (by decide)]
      simp only [Res.okb]
      rw [Yh (by decide)]
      simp only [Res.okb]
      have hb : ∀ {p q t : Prop} [Decidable p] [Decidable q] [Decidable t] {α : Type} {x y : α}, (if (decide p && (decide q && decide t)) = true then x else y) = if p /\ q /\ t then x else y:=fun {p q t} _ _ _ {α x y}=>by
        by_cases c : p /\ q /\ t
        . rw [if_pos c, if_pos (by rw [decide_eq_true c.1, decide_eq_true c.2.1, decide_eq_true c.2.2]; rfl)]
        . rw [if_neg c, if_neg fun z=>c (by simpa only [Bool.and_eq_true, decide_eq_true_eq] using z)]
      simp only [hb]
      unfold Qw
      by_cases c1 : way = 1 /\ (i : Int) < 3 /\ (j : Int) < 3
      . have c0 : ¬ (way = 0 /\ (i : Int) < 2 /\ (n : Int) - 2 <= (j : Int)) := by omega
        rw [if_pos c1, if_neg c0, Res.okb, if_pos c1, Res.okb]
        exact Xz hacc2
      . rw [if_neg c1]
        by_cases c0 : way = 0 /\ (i : Int) < 2 /\ (n : Int) - 2 <= (j : Int)
        . rw [if_pos c0, if_pos c0, Res.okb, if_neg c1, Res.okb]
          exact Xz hacc2
        . rw [if_neg c0, if_neg c0, Res.okb, if_neg c1, Res.okb]
          exact Xz hacc2
theorem Dq (ns : List Int) {most : Nat} (h0 : 0 < most) (hm : most <= 6) : Ok (Qm ns (most : Int)) fun t=>∃ n m f g, (n <= 6 /\ m <= 6) /\ (∀ a b, a < n -> b < n -> f a b < n) /\ (∀ a b, a < m -> b < m -> g a b < m) /\ t = (Xv n f, Xv m g):=by
  unfold Qm
  simp only [Res.okb]
  rw [Xz (sz (by simp))]
  simp only [Res.okb]
  rw [Xz (sz (by simp))]
  simp only [Res.okb]
  rw [show Cr [(24 : Int)] 8 = .ok (List.replicate 8 24) from rfl]
  simp only [Res.okb]
  rw [show Cd [(3 : Int)] (List.replicate 8 24) = .ok ([(3 : Int)] ++ List.replicate 8 24) from Xz (sz (by simp))]
  simp only [Res.okb]
  refine Ok.bind (Ok.noE (VN ns (by decide) _ (by simp) (by decide))) fun r hr=>?_
  obtain ⟨hl, hv⟩:=hr
  have hl' : r.length = 9:=by rw [hl]; simp
  clear hl hv
  refine Ok.bind (Ok.noE (V5 ns (p:=0) (by decide) h0 (by omega))) fun t ht=>?_
  obtain ⟨n, f, hn0, hnm, gd, rfl⟩:=ht
  rw [Xz (sz (by simp)), Res.okb]
  refine Ok.bind (Ok.noE (VN ns (by decide) _ (by simp) (by decide))) fun r2 hr2=>?_
  obtain ⟨hl2, _⟩:=hr2
  have hl2' : r2.length = 2:=by rw [hl2]; simp
  rw [Y9 (r:=r) (k:=0) (n:=0) rfl (by omega), Y9 (r:=r) (k:=1) (n:=1) rfl (by omega), Y9 (r:=r) (k:=2) (n:=2) rfl (by omega), Y9 (r:=r) (k:=3) (n:=3) rfl (by omega), Y9 (r:=r2) (k:=0) (n:=0) rfl (by omega), Y9 (r:=r2) (k:=1) (n:=1) rfl (by omega)]
  simp only [Res.okb, Zz, Xs]
  refine Ok.bind (R:=fun t=>∃ f, (∀ a b, a < n -> b < n -> f a b < n) /\ t = Xv n f) (Ok.ite (fun c=>?_) fun _=>⟨_, rfl, f, gd.lt, rfl⟩) fun t ht=>?_
  . rw [Bool.and_eq_true, decide_eq_true_eq, decide_eq_true_eq] at c
    exact Ok.bind (Ok.noE (Di (by omega) (by omega))) fun t ht=>⟨t, rfl, ht⟩
  obtain ⟨f', hf', rfl⟩:=ht
  clear gd f
  rw [Xs]
  refine Ok.ite (fun _=>?_) fun _=>?_
  . rw [show UT r (some 1) none = r.drop 1 from VM r (k := 1) (by omega)]
    refine Ok.bind (R:=fun u=>∃ g, (∀ a b, a < n -> b < n -> g a b < n) /\ u = Xv n g) (Ok.bind (Ok.noE (Q2 (by omega) (by rw [List.length_drop]; omega))) fun sp hsp=>?_) fun u hu=>?_
    . obtain ⟨q, q', hq⟩ := hsp
      rw [QJ (by omega) hf' hq, XR]
      exact ⟨_, rfl, _, fun a b ha hb=>hq.1.lt _ (hf' _ _ (hq.1.qlt a ha) (hq.1.qlt b hb)), rfl⟩
    . obtain ⟨g, hg, rfl⟩ := hu
      exact ⟨_, rfl, n, n, f', g, by omega, hf', hg, rfl⟩
  . refine Ok.bind (Ok.noE (V5 ns (p := 1) (by decide) h0 (by omega))) fun t ht => ?_
    obtain ⟨m, g, hm0, hmm, gd2, rfl⟩:=ht
    rw [Yh (by decide), Yh (by decide)]
    simp only [Res.okb, Zz, Xs]
    refine Ok.bind (R:=fun u=>∃ m g, m <= 6 /\ (∀ a b, a < m -> b < m -> g a b < m) /\ u = Xv m g) (Ok.ite (fun _=>?_) fun _=>⟨_, rfl, m, g, by omega, gd2.lt, rfl⟩) fun u hu=>?_
    . refine Ok.bind (Ok.noE (Ky (by omega) (by omega))) fun t ht => ?_
      obtain ⟨g', gd3, rfl⟩:=ht
      exact ⟨_, rfl, n, g', by omega, gd3.lt, rfl⟩
    . obtain ⟨m, g, h1, h2, rfl⟩ := hu
      exact ⟨_, rfl, n, m, f', g, by omega, hf', h2, rfl⟩
theorem GG (ns : List Int) (_ : ns.length <= 63) : Vp ns = .ok true:=by
  unfold Vp
  simp only [Res.okb]
  rw [Xz (sz (by simp)), Res.okb]
  obtain ⟨r, er, hrl, _⟩:=VN ns (p:=3) (by decide) [8] (by decide) (by decide)
  have hrl : r.length = 1:=hrl
  rw [er, XR, Res.okb, Y9 (r:=r) (k:=0) (n:=0) rfl (by omega)]
  simp only [Res.okb]
  have key : ∀ most : Nat, 0 < most -> most <= 6 -> (Res.bind (noE (Qm ns (most : Int))) fun a24=>(ZS (noE (YN a24.1 a24.2)) (ZS (noE (YN a24.2 a24.1)) (noE (YN a24.1 a24.1))))) = .ok true:=fun most h0 hm=>by
    obtain ⟨t, et, n, m, f, g, ⟨hn, hm'⟩, hf, hg, rfl⟩:=Dq ns h0 hm
    rw [et, XR, Res.okb]
    simp only
    rw [Jk hn hm' hf, Jk hm' hn hg, Jk hn hn hf]
    rfl
  split
  . exact key 6 (by decide) (by decide)
  . exact key 5 (by decide) (by decide)
end My
namespace My
open PySem L2
noncomputable def top (i : Nat) : Stmt:=PySem.Challenge.pw_plait_k43_least_images.main.body.getD i (.Pass ⟨0, 0, 0, 0⟩)
noncomputable abbrev YV : Stmt:=top 4
noncomputable abbrev K3 : Stmt:=top 7
noncomputable abbrev Zj : Stmt:=top 8
noncomputable abbrev ZT : Stmt:=top 9
noncomputable abbrev Ym : Stmt:=top 10
noncomputable abbrev YW : Stmt:=top 11
noncomputable abbrev Yz : Stmt:=top 12
noncomputable abbrev Gh : Stmt:=top 14
noncomputable abbrev DA : Stmt:=top 15
noncomputable abbrev Dz : Stmt:=top 16
noncomputable abbrev QA : Stmt:=top 17
noncomputable abbrev Q4 : Stmt:=top 18
noncomputable abbrev VQ : Stmt:=top 19
noncomputable abbrev Qq : Stmt:=top 20
noncomputable abbrev Qf : Stmt:=top 21
noncomputable abbrev Vu : Stmt:=top 22
noncomputable abbrev Jl : Stmt:=top 23
noncomputable abbrev Qb : Stmt:=top 24
noncomputable abbrev VF : Stmt:=top 25
noncomputable abbrev Qh : Stmt:=top 26
noncomputable abbrev Ge : Stmt:=top 27
noncomputable abbrev KK : Stmt:=top 28
noncomputable abbrev VC : Stmt:=top 29
noncomputable abbrev Q3 : Stmt:=top 30
theorem Vv {X : Cx} : PE X (.List [.List [.Constant (.int 0) 0 ⟨89, 17, 89, 18⟩, .Constant (.int 3) 0 ⟨89, 20, 89, 21⟩, .Constant (.int 1) 0 ⟨89, 23, 89, 24⟩, .Constant (.int 2) 0 ⟨89, 26, 89, 27⟩] ⟨89, 16, 89, 28⟩, .List [.Constant (.int 2) 0 ⟨89, 31, 89, 32⟩, .Constant (.int 1) 0 ⟨89, 34, 89, 35⟩, .Constant (.int 3) 0 ⟨89, 37, 89, 38⟩, .Constant (.int 0) 0 ⟨89, 40, 89, 41⟩] ⟨89, 30, 89, 42⟩, .List [.Constant (.int 3) 0 ⟨89, 45, 89, 46⟩, .Constant (.int 0) 0 ⟨89, 48, 89, 49⟩, .Constant (.int 2) 0 ⟨89, 51, 89, 52⟩, .Constant (.int 1) 0 ⟨89, 54, 89, 55⟩] ⟨89, 44, 89, 56⟩, .List [.Constant (.int 1) 0 ⟨89, 59, 89, 60⟩, .Constant (.int 2) 0 ⟨89, 62, 89, 63⟩, .Constant (.int 0) 0 ⟨89, 65, 89, 66⟩, .Constant (.int 3) 0 ⟨89, 68, 89, 69⟩] ⟨89, 58, 89, 70⟩] ⟨89, 15, 89, 71⟩) (GO (Xw (GO (Xw (tC (.int 0)) (Xw (tC (.int 3)) (Xw (tC (.int 1)) (Xw (tC (.int 2)) Zn))))) (Xw (GO (Xw (tC (.int 2)) (Xw (tC (.int 1)) (Xw (tC (.int 3)) (Xw (tC (.int 0)) Zn))))) (Xw (GO (Xw (tC (.int 3)) (Xw (tC (.int 0)) (Xw (tC (.int 2)) (Xw (tC (.int 1)) Zn))))) (Xw (GO (Xw (tC (.int 1)) (Xw (tC (.int 2)) (Xw (tC (.int 0)) (Xw (tC (.int 3)) Zn))))) Zn))))):=by
  refine X7 ?_
  refine Jd ?_ ?_
  . exact X7 (Xc Xh (Xc Xh (Xc Xh (Xc Xh Xf))))
  refine Jd ?_ ?_
  . exact X7 (Xc Xh (Xc Xh (Xc Xh (Xc Xh Xf))))
  refine Jd ?_ ?_
  . exact X7 (Xc Xh (Xc Xh (Xc Xh (Xc Xh Xf))))
  refine Jd ?_ ?_
  . exact X7 (Xc Xh (Xc Xh (Xc Xh (Xc Xh Xf))))
  exact Xf
structure Blt (mg : Str -> Option Value) : Prop where
  b_abs : mg "abs" = none
  b_bool : mg "bool" = none
  b_int : mg "int" = none
  b_isinstance : mg "isinstance" = none
  b_len : mg "len" = none
  b_list : mg "list" = none
  b_max : mg "max" = none
  b_range : mg "range" = none
  c_MOST_TO_COMPARE : ∃ u, mg "MOST_TO_COMPARE" = some u /\ X8 (.int 6) u
section
variable {P : Program} {w : World} {K : PySem.W.Frag} {mg : Str -> Option Value} {base : Heap}
theorem Qj : FnScope ["most", "size"] ["most", "size"] (Xl YV):=⟨rfl, rfl, rfl, by decide +kernel, rfl, by decide +kernel, by decide +kernel⟩
set_option maxHeartbeats 4000000 in
theorem Qp (D : Def K mg "refuse_above" YV ["most", "size"])  (Z : Blt mg) : Fn P w K mg base 1 "refuse_above" ["most", "size"] (sp2 Xb Xb oU X2 K):=by
  refine YM D Qj (fun vs H Q E h=>?_) (fun f cdv A outer s H vs Q E hr h=>?_)
  . obtain ⟨v_0, v_1, a_0, a_1, b, rfl, _⟩:=h; rfl
  obtain ⟨v_0, v_1, a_0, a_1, b, rfl, h_0, h_1, hm, q⟩:=h
  have hu:=hu8 hr
  have hu1:=YH hr
  refine ⟨_, (Xd (Ys (Xm JZ (pv 1) (pv 0) (Xr _))
      (Xd GN
      Xg)
      Xg)
    Xg), ?_⟩
  refine CM (J:=({ oo:=fun x3=>[], ss:=fun x3=>[some v_0, some v_1], sc:=fun g4 x3=>(SC.add (SC.add SC.nil K Xb v_0 a_0) K Xb v_1 a_1) } : Jn (Unit) (Unit))) (K:=K) (S:=(SC.add (SC.add SC.nil K Xb v_0 a_0) K Xb v_1 a_1)) (σ:=[some v_0, some v_1]) 0 ?_ (SC.i (SC.i SC.t h_0) h_1) hm q (fun _ _=>rfl)
  unfold X2
  exact (Cu (Xk (K:=K) (Z4 (Xa (r:=Xb) 1 rfl (fun _ s=>(SC.r s))) (Xa (r:=Xb) 0 rfl (fun _ s=>(SC.r (SC.l s)))))) (XC (J:=_) () () rfl rfl (fun _ s=>(SC.i (SC.i SC.t (SC.r (SC.l s))) (SC.r s)))))
theorem Jx : FnScope ["one", "other"] ["one", "other"] (Xl Zj):=⟨rfl, rfl, rfl, by decide +kernel, rfl, by decide +kernel, by decide +kernel⟩
set_option maxHeartbeats 4000000 in
theorem Q5 (D : Def K mg "refuse_big" Zj ["one", "other"]) (g_refuse_above : Fn P w K mg base 1 "refuse_above" ["most", "size"] (sp2 Xb Xb oU X2 K)) (Z : Blt mg) : Fn P w K mg base 2 "refuse_big" ["one", "other"] (sp2 (rV (rV Xb)) (rV (rV Xb)) oU XZ K):=by
  refine YM D Jx (fun vs H Q E h=>?_) (fun f cdv A outer s H vs Q E hr h=>?_)
  . obtain ⟨v_0, v_1, a_0, a_1, b, rfl, _⟩:=h; rfl
  obtain ⟨v_0, v_1, a_0, a_1, b, rfl, h_0, h_1, hm, q⟩:=h
  have hu:=hu8 hr
  have hu1:=YH hr
  refine ⟨_, (Xd (Yo (X5 g_refuse_above hr (by decide) (Xc (CZ Z.c_MOST_TO_COMPARE rfl) (Xc (Xq (Gm rfl) rfl Z.b_max PyProof.Rows.boot_max (Xc (Xq (Xi K rfl) rfl Z.b_len PySem.boot_len (Xc (pv 0) Xf)) (Xc (Xq (Xi K rfl) rfl Z.b_len PySem.boot_len (Xc (pv 1) Xf)) Xf))) Xf))))
    Xg), ?_⟩
  refine CM (J:=({ oo:=fun x3=>[], ss:=fun x3=>[some v_0, some v_1], sc:=fun g4 x3=>(SC.add (SC.add SC.nil K (rV (rV Xb)) v_0 a_0) K (rV (rV Xb)) v_1 a_1) } : Jn (Unit) (Unit))) (K:=K) (S:=(SC.add (SC.add SC.nil K (rV (rV Xb)) v_0 a_0) K (rV (rV Xb)) v_1 a_1)) (σ:=[some v_0, some v_1]) 0 ?_ (SC.i (SC.i SC.t h_0) h_1) hm q (fun _ _=>rfl)
  unfold XZ
  exact (K8 (Ev.toB (XD (Xe 6) (Dy (XN (Xa (r:=(rV (rV Xb))) 0 rfl (fun _ s=>(SC.r (SC.l s))))) (XN (Xa (r:=(rV (rV Xb))) 1 rfl (fun _ s=>(SC.r s))))))) (XC (J:=_) () () rfl rfl (fun _ s=>(SC.i (SC.i SC.t (SC.r (SC.l s))) (SC.r s)))))
theorem YR : FnScope ["one", "other", "images", "a", "b", "result"] ["one", "other", "images", "a", "b"] (Xl Yz):=⟨rfl, rfl, rfl, by decide +kernel, rfl, by decide +kernel, by decide +kernel⟩
set_option maxHeartbeats 4000000 in
theorem ZE (D : Def K mg "equation_broken" Yz ["one", "other", "images", "a", "b"])  (Z : Blt mg) : Fn P w K mg base 1 "equation_broken" ["one", "other", "images", "a", "b"] (sp5 (rV (rV Xb)) (rV (rV Xb)) (rPL Xb) Xb Xb (oF Yc) Xp K):=by
  refine YM D YR (fun vs H Q E h=>?_) (fun f cdv A outer s H vs Q E hr h=>?_)
  . obtain ⟨v_0, v_1, v_2, v_3, v_4, a_0, a_1, a_2, a_3, a_4, b, rfl, _⟩:=h; rfl
  obtain ⟨v_0, v_1, v_2, v_3, v_4, a_0, a_1, a_2, a_3, a_4, b, rfl, h_0, h_1, h_2, h_3, h_4, hm, q⟩:=h
  have hu:=hu8 hr
  have hu1:=YH hr
  refine ⟨_, (Xd (Xy (i:=5) YR.nd rfl (Or.inl rfl) (XW (Xn K rfl) (XW (Xn K rfl) (pv 0) (pv 3) (fun _ _=>rfl)) (pv 4) (fun _ _=>rfl)))
    (Xd (XA (U3 (Jw QE (pv 5) (Xq (Xi K rfl) rfl Z.b_len PySem.boot_len (Xc (pv 2) Xf)) (Xr _)) (FK (Jw KG (XW (Xn K rfl) (XW (Xn K rfl) (pv 1) (XW (ZU K rfl) (pv 2) (pv 3) (fun _ _=>rfl)) (fun _ _=>rfl)) (XW (ZU K rfl) (pv 2) (pv 4) (fun _ _=>rfl)) (fun _ _=>rfl)) (XW (ZU K rfl) (pv 2) (pv 5) (fun _ _=>rfl)) (Xr _)))))
    Xg)), ?_⟩
  refine YQ (S:=(SC.add (SC.add (SC.add (SC.add (SC.add SC.nil K (rV (rV Xb)) v_0 a_0) K (rV (rV Xb)) v_1 a_1) K (rPL Xb) v_2 a_2) K Xb v_3 a_3) K Xb v_4 a_4)) (σ:=[some v_0, some v_1, some v_2, some v_3, some v_4, none]) 0 ?_ (SC.i (SC.i (SC.i (SC.i (SC.i SC.t h_0) h_1) h_2) h_3) h_4) hm q rfl
  unfold Xp
  exact (X6 (K:=K) (r:=Xb) 5 (EvB.sh (XI (XI (Xa (r:=(rV (rV Xb))) 0 rfl (fun _ s=>(SC.r (SC.l (SC.l (SC.l (SC.l s))))))) (Xa (r:=Xb) 3 rfl (fun _ s=>(SC.r (SC.l s))))) (Xa (r:=Xb) 4 rfl (fun _ s=>(SC.r s))))) fun a1 v2=>(XB (EvS.ev (EvB.sh (Ja (Zf (Xa (r:=Xb) 5 rfl (fun _ s=>(SC.r s))) (Qd (Xa (r:=(rPL Xb)) 2 rfl (fun _ s=>(SC.r (SC.l (SC.l (SC.l s)))))))) (JG (XI (XI (Xa (r:=(rV (rV Xb))) 1 rfl (fun _ s=>(SC.r (SC.l (SC.l (SC.l (SC.l s))))))) (Vr (Xa (r:=(rPL Xb)) 2 rfl (fun _ s=>(SC.r (SC.l (SC.l (SC.l s)))))) (Xa (r:=Xb) 3 rfl (fun _ s=>(SC.r (SC.l (SC.l s))))))) (Vr (Xa (r:=(rPL Xb)) 2 rfl (fun _ s=>(SC.r (SC.l (SC.l (SC.l s)))))) (Xa (r:=Xb) 4 rfl (fun _ s=>(SC.r (SC.l s)))))) (Vr (Xa (r:=(rPL Xb)) 2 rfl (fun _ s=>(SC.r (SC.l (SC.l (SC.l s)))))) (Xa (r:=Xb) 5 rfl (fun _ s=>(SC.r s))))))))))
theorem YO : FnScope ["one", "other", "images", "a", "b"] ["one", "other", "images"] (Xl YW):=⟨rfl, rfl, rfl, by decide +kernel, rfl, by decide +kernel, by decide +kernel⟩
set_option maxHeartbeats 4000000 in
theorem Qo (D : Def K mg "first_breach" YW ["one", "other", "images"]) (g_equation_broken : Fn P w K mg base 1 "equation_broken" ["one", "other", "images", "a", "b"] (sp5 (rV (rV Xb)) (rV (rV Xb)) (rPL Xb) Xb Xb (oF Yc) Xp K)) (Z : Blt mg) : Fn P w K mg base 2 "first_breach" ["one", "other", "images"] (sp3 (rV (rV Xb)) (rV (rV Xb)) (rPL Xb) (oF (QO (rP2 Xb Xb))) X3 K):=by
  refine YM D YO (fun vs H Q E h=>?_) (fun f cdv A outer s H vs Q E hr h=>?_)
  . obtain ⟨v_0, v_1, v_2, a_0, a_1, a_2, b, rfl, _⟩:=h; rfl
  obtain ⟨v_0, v_1, v_2, a_0, a_1, a_2, b, rfl, h_0, h_1, h_2, hm, q⟩:=h
  have hu:=hu8 hr
  have hu1:=YH hr
  refine ⟨_, (Xd (YG PassesOwn.never rfl (XT rfl Z.b_range (Xc (Xq (Xi K rfl) rfl Z.b_len PySem.boot_len (Xc (pv 2) Xf)) Xf)) (XO (i:=3) YO.nd rfl (Or.inl rfl))
      (Xd (YG PassesOwn.never rfl (XT rfl Z.b_range (Xc (Xq (Xi K rfl) rfl Z.b_len PySem.boot_len (Xc (pv 2) Xf)) Xf)) (XO (i:=4) YO.nd rfl (Or.inl rfl))
        (Xd (Ys (JH (X5 g_equation_broken hr (by decide) (Xc (pv 0) (Xc (pv 1) (Xc (pv 2) (Xc (pv 3) (Xc (pv 4) Xf)))))))
          (Xd (XA (Z3 (Xc (pv 3) (Xc (pv 4) Xf))))
          Xg)
          Xg)
        Xg))
      Xg))
    (Xd (XA Up)
    Xg)), ?_⟩
  refine YQ (S:=(SC.add (SC.add (SC.add SC.nil K (rV (rV Xb)) v_0 a_0) K (rV (rV Xb)) v_1 a_1) K (rPL Xb) v_2 a_2)) (σ:=[some v_0, some v_1, some v_2, none, none]) 0 ?_ (SC.i (SC.i (SC.i SC.t h_0) h_1) h_2) hm q rfl
  unfold X3
  exact (Gj (K:=K) (J:=({ oo:=fun x3=>[], ss:=fun x3=>[some v_0, some v_1, some v_2, x3.1, x3.2], sc:=fun g4 x3=>(SC.add (SC.add (SC.add SC.nil K (rV (rV Xb)) v_0 a_0) K (rV (rV Xb)) v_1 a_1) K (rPL Xb) v_2 a_2) } : Jn (Unit) (Option V × Option V))) (fun _=>tg1 3) ((none), (none)) () (XE (Qd (Xa (r:=(rPL Xb)) 2 rfl (fun _ s=>(SC.r s))))) rfl rfl (fun _ s=>(SC.i (SC.i (SC.i SC.t (SC.r (SC.l (SC.l s)))) (SC.r (SC.l s))) (SC.r s))) (fun g5 x6 a7 v8=>(Uf (K:=K) (J:=({ oo:=fun x11=>[], ss:=fun x11=>[some v_0, some v_1, some v_2, some v8, x11], sc:=fun g12 x11=>(SC.add (SC.add (SC.add (SC.add SC.nil K (rV (rV Xb)) v_0 a_0) K (rV (rV Xb)) v_1 a_1) K (rPL Xb) v_2 a_2) K Xb v8 a7) } : Jn (Unit) (Option V))) (fun _=>tg1 4) ((x6.2)) () (XE (Qd (Xa (r:=(rPL Xb)) 2 rfl (fun _ s=>(SC.r (SC.l s)))))) rfl rfl (fun _ s=>(SC.i (SC.i (SC.i (SC.i SC.t (SC.r (SC.l (SC.l (SC.l s))))) (SC.r (SC.l (SC.l s)))) (SC.r (SC.l s))) (SC.r s))) (fun g13 x14 a15 v16=>(Vt (UL (K:=K) (Ev.toB (V6 (Xa (r:=(rV (rV Xb))) 0 rfl (fun _ s=>(SC.r (SC.l (SC.l (SC.l (SC.l s))))))) (Xa (r:=(rV (rV Xb))) 1 rfl (fun _ s=>(SC.r (SC.l (SC.l (SC.l s)))))) (Xa (r:=(rPL Xb)) 2 rfl (fun _ s=>(SC.r (SC.l (SC.l s))))) (Xa (r:=Xb) 3 rfl (fun _ s=>(SC.r (SC.l s)))) (Xa (r:=Xb) 4 rfl (fun _ s=>(SC.r s)))))) (XB (GP BL (EvS.ev (Fa (X1 (r:=Xb) 3 rfl (fun _ s=>(SC.r (SC.l s)))) (X1 (r:=Xb) 4 rfl (fun _ s=>(SC.r s))))))) (ZK (XC (J:=_) ((some v16)) () rfl rfl (fun _ s=>(SC.i (SC.i (SC.i (SC.i SC.t (SC.r (SC.l (SC.l (SC.l (SC.l s)))))) (SC.r (SC.l (SC.l (SC.l s))))) (SC.r (SC.l (SC.l s)))) (SC.r (SC.l s)))))))) fun g29 x30=>(ZK (XC (J:=_) ((some v8), (x30)) () rfl rfl (fun _ s=>(SC.i (SC.i (SC.i SC.t (SC.r (SC.l (SC.l (SC.l s))))) (SC.r (SC.l (SC.l s)))) (SC.r (SC.l s)))))))) fun g33 x34=>(XB Dl))
theorem Z9 : FnScope ["images", "size"] ["images", "size"] (Xl Ym):=⟨rfl, rfl, rfl, by decide +kernel, rfl, by decide +kernel, by decide +kernel⟩
set_option maxHeartbeats 4000000 in
theorem Qa (D : Def K mg "longer_images" Ym ["images", "size"])  (Z : Blt mg) : Fn P w K mg base 1 "longer_images" ["images", "size"] (sp2 (rPL Xb) Xb (oL (oF (rPL Xb))) XY K):=by
  refine YM D Z9 (fun vs H Q E h=>?_) (fun f cdv A outer s H vs Q E hr h=>?_)
  . obtain ⟨v_0, v_1, a_0, a_1, b, rfl, _⟩:=h; rfl
  obtain ⟨v_0, v_1, a_0, a_1, b, rfl, h_0, h_1, hm, q⟩:=h
  have hu:=hu8 hr
  have hu1:=YH hr
  refine ⟨_, (Xd (XA (Qe (sc:=(Xl Ym)) (N0:=["images", "size"]) (tns:=["colour"]) (caps:=[(0, "images")]) rfl (KP rfl Z.b_range (Xc (Xt YJ (pv 1) Xh) (Xc (CN Fo Xh) (Xc (CN Fo Xh) Xf)))) (QF (by decide)) (fun cl C s H ex E=>⟨XO (i:=0) (show List.Nodup (["colour", "images"] : List Str) by decide +kernel) rfl (Or.inl rfl), (KN (Xm (ZJ K rfl) (pv 0) (pv 1) rfl)), (Xt (GR K rfl) (pv 1) (Z3 (Xc (pv 0) Xf)))⟩)))
    Xg), ?_⟩
  refine YQ (S:=(SC.add (SC.add SC.nil K (rPL Xb) v_0 a_0) K Xb v_1 a_1)) (σ:=[some v_0, some v_1]) 0 ?_ (SC.i (SC.i SC.t h_0) h_1) hm q rfl
  unfold XY
  exact (XB (Ur (fun _=>tg1 0) (Vg (Yj (Xa (r:=Xb) 1 rfl (fun _ s=>(SC.r s))) (Xe 1)) (U4 (Xe 1)) (U4 (Xe 1))) (fun C8 a9 v10=>(Xk (K:=K) (GM (Xa (r:=Xb) 0 rfl (fun _ s=>(SC.r s))) (Xa (r:=(rPL Xb)) 1 rfl (fun _ s=>(SC.r (SC.l (SC.l s)))))))) (fun C8 a9 v10=>(EvS.ev (EvB.sh (GY (Xa (r:=(rPL Xb)) 1 rfl (fun _ s=>(SC.r (SC.l (SC.l s))))) (Ev.toB (EvS.ev (V0 (Xu (X1 (r:=Xb) 0 rfl (fun _ s=>(SC.r s))) Yr))))))))))
theorem YI : FnScope ["one", "other", "paper", "waiting", "images", "breach"] ["one", "other"] (Xl ZT):=⟨rfl, rfl, rfl, by decide +kernel, rfl, by decide +kernel, by decide +kernel⟩
set_option maxHeartbeats 4000000 in
theorem VA (D : Def K mg "searched" ZT ["one", "other"]) (g_first_breach : Fn P w K mg base 2 "first_breach" ["one", "other", "images"] (sp3 (rV (rV Xb)) (rV (rV Xb)) (rPL Xb) (oF (QO (rP2 Xb Xb))) X3 K)) (g_longer_images : Fn P w K mg base 1 "longer_images" ["images", "size"] (sp2 (rPL Xb) Xb (oL (oF (rPL Xb))) XY K)) (Z : Blt mg) : Fn P w K mg base 3 "searched" ["one", "other"] (sp2 (rV (rV Xb)) (rV (rV Xb)) (oT2 (Ve (oL (oF Xb))) (oL (oF (rP3 (rPL Xb) Xb Xb)))) Yl K):=by
  refine YM D YI (fun vs H Q E h=>?_) (fun f cdv A outer s H vs Q E hr h=>?_)
  . obtain ⟨v_0, v_1, a_0, a_1, b, rfl, _⟩:=h; rfl
  obtain ⟨v_0, v_1, a_0, a_1, b, rfl, h_0, h_1, hm, q⟩:=h
  have hu:=hu8 hr
  have hu1:=YH hr
  refine ⟨_, (Xd (Xy (i:=2) YI.nd rfl (Or.inl rfl) (X7 Xf))
    (Xd (Xy (i:=3) YI.nd rfl (Or.inl rfl) (G2 (Xm Y8 (Xq (Xi K rfl) rfl Z.b_len PySem.boot_len (Xc (pv 0) Xf)) (Xq (Xi K rfl) rfl Z.b_len PySem.boot_len (Xc (pv 1) Xf)) (Xr _)) (X7 (Xc (Z3 Xf) Xf)) (X7 Xf)))
    (Xd (Jy PassesOwn.never (Xm JZ (Xq (Xi K rfl) rfl Z.b_len PySem.boot_len (Xc (pv 3) Xf)) Xh (Xr _))
      (Xd (Xy (i:=4) YI.nd rfl (Or.inl rfl) (Fq PySem.F.plainAttrs_list PySem.F.slot_list_pop PySem.F.type_list_pop CT (pv 3)))
      (Xd (Xy (i:=5) YI.nd rfl (Or.inl rfl) (X5 g_first_breach hr (by decide) (Xc (pv 0) (Xc (pv 1) (Xc (pv 4) Xf)))))
      (Xd (Ys (Xm Dd (pv 5) Up (Xr _))
        (Xd (Yo (Z8 PySem.F.plainAttrs_list PySem.F.slot_list_append PySem.F.type_list_append Yg (pv 2) (Xc (Z3 (Xc (pv 4) (Xc (XW (ZU K rfl) (pv 5) Xh (fun _ _=>rfl)) (Xc (XW (ZU K rfl) (pv 5) Xh (fun _ _=>rfl)) Xf)))) Xf)))
        Xg)
        (Xd (Ys (Xm Y8 (Xq (Xi K rfl) rfl Z.b_len PySem.boot_len (Xc (pv 4) Xf)) (Xq (Xi K rfl) rfl Z.b_len PySem.boot_len (Xc (pv 0) Xf)) (Xr _))
          (Xd (XA (Z3 (Xc (QH (Y0 K rfl) rfl Z.b_list PyProof.Rows.boot_list (Xc (pv 4) Xf)) (Xc (pv 2) Xf))))
          Xg)
          (Xd (Yo (Z8 PySem.F.plainAttrs_list PySem.F.slot_list_extend PySem.F.type_list_extend Gp (pv 3) (Xc (X5 g_longer_images hr (by decide) (Xc (pv 4) (Xc (Xq (Xi K rfl) rfl Z.b_len PySem.boot_len (Xc (pv 1) Xf)) Xf))) Xf)))
          Xg))
        Xg))
      Xg))))
    (Xd (XA (Z3 (Xc Up (Xc (pv 2) Xf))))
    Xg)))), ?_⟩
  refine YQ (S:=(SC.add (SC.add SC.nil K (rV (rV Xb)) v_0 a_0) K (rV (rV Xb)) v_1 a_1)) (σ:=[some v_0, some v_1, none, none, none, none]) 2 ?_ (SC.i (SC.i SC.t h_0) h_1) hm q rfl
  unfold Yl
  exact (X4 (K:=K) (o:=(oL (oF (rP3 (rPL Xb) Xb Xb)))) 2 0 (QM (o:=(oF (rP3 (rPL Xb) Xb Xb)))) (Nat.le_of_ble_eq_true rfl) fun a1 v2 C3=>(X4 (K:=K) (o:=(oL (oF (rPL Xb)))) 3 1 (BG (Xk (K:=K) (Yw (XN (Xa (r:=(rV (rV Xb))) 0 rfl (fun _ s=>(SC.r (SC.l (SC.l s)))))) (XN (Xa (r:=(rV (rV Xb))) 1 rfl (fun _ s=>(SC.r (SC.l s))))))) (Y4 (Xu (V0 Yr) Yr)) (QM (o:=(oF (rPL Xb))))) (Nat.le_of_ble_eq_true rfl) fun a4 v5 C6=>(Kp (K:=K) (J:=({ oo:=fun x16=>[x16.2.2.2.2.2, x16.2.2.2.2.1], ss:=fun x16=>[some v_0, some v_1, some x16.2.2.2.1, some x16.2.2.1, x16.1, x16.2.1], sc:=fun g17 x16=>(SC.addO (SC.addO (SC.add (SC.add SC.nil K (rV (rV Xb)) v_0 a_0) K (rV (rV Xb)) v_1 a_1) K (oL (oF (rPL Xb))) x16.2.2.1 g17.1 x16.2.2.2.2.1) K (oL (oF (rP3 (rPL Xb) Xb Xb))) x16.2.2.2.1 g17.2 x16.2.2.2.2.2) } : Jn ((List (List Int)) × (List ((List Int) × Int × Int))) (Option V × Option V × V × V × List Xx × List Xx))) (a_0.length + 100000) ((none), (none), v5, v2, C6, C3) (a4, a1) rfl rfl (fun _ s=>(SC.i (SC.i (SC.i (SC.i SC.t (SC.r (SC.l (SC.l (SC.l s))))) (SC.r (SC.l (SC.l s)))) (SC.r s)) (SC.r (SC.l s)))) (fun g18 x19=>(Xk (K:=K) (Z4 (XN (Yk (o:=(oL (oF (rPL Xb)))) 3 1 rfl rfl (fun _ s=>(SC.r (SC.l s))))) (Xe 0)))) (fun g18 x19=>(DB (K:=K) (r:=(rPL Xb)) 4 3 1 rfl rfl (fun _ s=>(SC.r (SC.l s))) fun a23 a24 v25 C26=>(X6 (K:=K) (r:=(QO (rP2 Xb Xb))) 5 (EvB.sh (Ev.toB (YA (Xa (r:=(rV (rV Xb))) 0 rfl (fun _ s=>(SC.r (SC.l (SC.l (SC.l (SC.l (SC.l s)))))))) (Xa (r:=(rV (rV Xb))) 1 rfl (fun _ s=>(SC.r (SC.l (SC.l (SC.l (SC.l s))))))) (Xa (r:=(rPL Xb)) 4 rfl (fun _ s=>(SC.r (SC.l s))))))) fun a28 v29=>(Uc (J:=({ oo:=fun x36=>[x36.2.2.1, x36.2.2.2], ss:=fun x36=>[some v_0, some v_1, some x36.1, some x36.2.1, some v25, some v29], sc:=fun g37 x36=>(SC.addO (SC.addO (SC.add (SC.add (SC.add (SC.add SC.nil K (rV (rV Xb)) v_0 a_0) K (rV (rV Xb)) v_1 a_1) K (rPL Xb) v25 a23) K (QO (rP2 Xb Xb)) v29 a28) K (oL (oF (rP3 (rPL Xb) Xb Xb))) x36.1 g37.1 x36.2.2.1) K (oL (oF (rPL Xb))) x36.2.1 g37.2 x36.2.2.2) } : Jn ((List ((List Int) × Int × Int)) × (List (List Int))) (V × V × List Xx × List Xx))) (Zu (Fd:=FCd K (oT2 (Ve (oL (oF Xb))) (oL (oF (rP3 (rPL Xb) Xb Xb)))) ({ oo:=fun x36=>[x36.2.2.1, x36.2.2.2], ss:=fun x36=>[some v_0, some v_1, some x36.1, some x36.2.1, some v25, some v29], sc:=fun g37 x36=>(SC.addO (SC.addO (SC.add (SC.add (SC.add (SC.add SC.nil K (rV (rV Xb)) v_0 a_0) K (rV (rV Xb)) v_1 a_1) K (rPL Xb) v25 a23) K (QO (rP2 Xb Xb)) v29 a28) K (oL (oF (rP3 (rPL Xb) Xb Xb))) x36.1 g37.1 x36.2.2.1) K (oL (oF (rPL Xb))) x36.2.1 g37.2 x36.2.2.2) } : Jn ((List ((List Int) × Int × Int)) × (List (List Int))) (V × V × List Xx × List Xx))) (Xk (K:=K) (GU (tb:=tC .non) (Xa (r:=(QO (rP2 Xb Xb))) 5 rfl (fun _ s=>(SC.r s))))) (ZR (K:=K) (o:=(oF (rP3 (rPL Xb) Xb Xb))) (f:=fun a45=>(Res.bind (Res.ok (a45, a24)) fun x46=>(Res.ok (Ctl.nx x46)))) 2 0 rfl rfl rfl (fun _ s=>(SC.r (SC.l (SC.l (SC.l s))))) (EvS.ev (GE (X1 (r:=(rPL Xb)) 4 rfl (fun _ s=>(SC.r (SC.l (SC.l s))))) (EvB.sh (DC (Fv (Xa (r:=(QO (rP2 Xb Xb))) 5 rfl (fun _ s=>(SC.r s)))))) (EvB.sh (DN (Fv (Xa (r:=(QO (rP2 Xb Xb))) 5 rfl (fun _ s=>(SC.r s)))))))) fun a43 C44=>(ZK (XC (J:=_) (x19.2.2.2.1, x19.2.2.1, C44, C26) ((g18.2 ++ [a43]), a24) rfl rfl (fun _ s=>(SC.i (SC.i (SC.i (SC.i (SC.i (SC.i SC.t (SC.r (SC.l (SC.l (SC.l (SC.l (SC.l (SC.l (SC.l s))))))))) (SC.r (SC.l (SC.l (SC.l (SC.l (SC.l (SC.l s)))))))) (SC.r (SC.l (SC.l (SC.l s))))) (SC.r (SC.l s))) (SC.r s)) (SC.r (SC.l (SC.l s)))))))) (Uc (J:=({ oo:=fun x52=>[x19.2.2.2.2.2, x52.2], ss:=fun x52=>[some v_0, some v_1, some x19.2.2.2.1, some x52.1, some v25, some v29], sc:=fun g53 x52=>(SC.addO (SC.add (SC.add (SC.addO (SC.add (SC.add SC.nil K (rV (rV Xb)) v_0 a_0) K (rV (rV Xb)) v_1 a_1) K (oL (oF (rP3 (rPL Xb) Xb Xb))) x19.2.2.2.1 g18.2 x19.2.2.2.2.2) K (rPL Xb) v25 a23) K (QO (rP2 Xb Xb)) v29 a28) K (oL (oF (rPL Xb))) x52.1 g53 x52.2) } : Jn ((List (List Int))) (V × List Xx))) (Zu (Fd:=FCd K (oT2 (Ve (oL (oF Xb))) (oL (oF (rP3 (rPL Xb) Xb Xb)))) ({ oo:=fun x52=>[x19.2.2.2.2.2, x52.2], ss:=fun x52=>[some v_0, some v_1, some x19.2.2.2.1, some x52.1, some v25, some v29], sc:=fun g53 x52=>(SC.addO (SC.add (SC.add (SC.addO (SC.add (SC.add SC.nil K (rV (rV Xb)) v_0 a_0) K (rV (rV Xb)) v_1 a_1) K (oL (oF (rP3 (rPL Xb) Xb Xb))) x19.2.2.2.1 g18.2 x19.2.2.2.2.2) K (rPL Xb) v25 a23) K (QO (rP2 Xb Xb)) v29 a28) K (oL (oF (rPL Xb))) x52.1 g53 x52.2) } : Jn ((List (List Int))) (V × List Xx))) (Xk (K:=K) (Yw (Qd (Xa (r:=(rPL Xb)) 4 rfl (fun _ s=>(SC.r (SC.l (SC.l s)))))) (XN (Xa (r:=(rV (rV Xb))) 0 rfl (fun _ s=>(SC.r (SC.l (SC.l (SC.l (SC.l (SC.l (SC.l s)))))))))))) (Dh (XB (Jb (F0 Em (GQ (Xa (r:=(rPL Xb)) 4 rfl (fun _ s=>(SC.r (SC.l (SC.l s))))))) fun _=>(Yu (o:=(oL (oF (rP3 (rPL Xb) Xb Xb)))) 2 1 rfl rfl (fun _ s=>(SC.r (SC.l (SC.l (SC.l s))))))))) (CL (K:=K) (o:=(oF (rPL Xb))) (f:=fun a65=>(Res.bind (Res.ok (a65)) fun x66=>(Res.ok (Ctl.nx x66)))) 3 1 rfl rfl rfl (fun _ s=>(SC.r (SC.l s))) (XD (Xa (r:=(rPL Xb)) 4 rfl (fun _ s=>(SC.r (SC.l (SC.l s))))) (XN (Xa (r:=(rV (rV Xb))) 1 rfl (fun _ s=>(SC.r (SC.l (SC.l (SC.l (SC.l (SC.l s)))))))))) fun a63 C64=>(ZK (XC (J:=_) (x19.2.2.1, C64) ((a24 ++ a63)) rfl rfl (fun _ s=>(SC.i (SC.i (SC.i (SC.i (SC.i (SC.i SC.t (SC.r (SC.l (SC.l (SC.l (SC.l (SC.l (SC.l (SC.l s))))))))) (SC.r (SC.l (SC.l (SC.l (SC.l (SC.l (SC.l s)))))))) (SC.r (SC.l (SC.l (SC.l (SC.l s)))))) (SC.r (SC.l (SC.l (SC.l s))))) (SC.r (SC.l s))) (SC.r s))))))) fun g68 x67=>(ZK (XC (J:=_) (x19.2.2.2.1, x67.1, x19.2.2.2.2.2, x67.2) (g18.2, g68) rfl rfl (fun _ s=>(SC.i (SC.i (SC.i (SC.i (SC.i (SC.i SC.t (SC.r (SC.l (SC.l (SC.l (SC.l (SC.l s))))))) (SC.r (SC.l (SC.l (SC.l (SC.l s)))))) (SC.r (SC.l (SC.l s)))) (SC.r (SC.l s))) (SC.r (SC.l (SC.l (SC.l s))))) (SC.r s))))))) fun g71 x70=>(ZK (XC (J:=_) ((some v25), (some v29), x70.2.1, x70.1, x70.2.2.2, x70.2.2.1) (g71.2, g71.1) rfl rfl (fun _ s=>(SC.i (SC.i (SC.i (SC.i SC.t (SC.r (SC.l (SC.l (SC.l (SC.l (SC.l s))))))) (SC.r (SC.l (SC.l (SC.l (SC.l s)))))) (SC.r s)) (SC.r (SC.l s)))))))))) fun g73 x74=>(XB (Jb Br fun _=>(Yu (o:=(oL (oF (rP3 (rPL Xb) Xb Xb)))) 2 1 rfl rfl (fun _ s=>(SC.r s))))))))
theorem F4 : FnScope ["one", "other"] ["one", "other"] (Xl K3):=⟨rfl, rfl, rfl, by decide +kernel, rfl, by decide +kernel, by decide +kernel⟩
set_option maxHeartbeats 4000000 in
theorem Cb (D : Def K mg "like" K3 ["one", "other"]) (g_refuse_big : Fn P w K mg base 2 "refuse_big" ["one", "other"] (sp2 (rV (rV Xb)) (rV (rV Xb)) oU XZ K)) (g_searched : Fn P w K mg base 3 "searched" ["one", "other"] (sp2 (rV (rV Xb)) (rV (rV Xb)) (oT2 (Ve (oL (oF Xb))) (oL (oF (rP3 (rPL Xb) Xb Xb)))) Yl K)) (Z : Blt mg) : Fn P w K mg base 4 "like" ["one", "other"] (sp2 (rV (rV Xb)) (rV (rV Xb)) (Ve (oL (oF Xb))) Zb K):=by
  refine YM D F4 (fun vs H Q E h=>?_) (fun f cdv A outer s H vs Q E hr h=>?_)
  . obtain ⟨v_0, v_1, a_0, a_1, b, rfl, _⟩:=h; rfl
  obtain ⟨v_0, v_1, a_0, a_1, b, rfl, h_0, h_1, hm, q⟩:=h
  have hu:=hu8 hr
  have hu1:=YH hr
  refine ⟨_, (Xd (Yo (X5 g_refuse_big hr (by decide) (Xc (pv 0) (Xc (pv 1) Xf))))
    (Xd (XA (XW (ZU K rfl) (X5 g_searched hr (by decide) (Xc (pv 0) (Xc (pv 1) Xf))) Xh (fun _ _=>rfl)))
    Xg)), ?_⟩
  refine YQ (S:=(SC.add (SC.add SC.nil K (rV (rV Xb)) v_0 a_0) K (rV (rV Xb)) v_1 a_1)) (σ:=[some v_0, some v_1]) 0 ?_ (SC.i (SC.i SC.t h_0) h_1) hm q rfl
  unfold Zb
  exact (K8 (Ev.toB (XD (Xa (r:=(rV (rV Xb))) 0 rfl (fun _ s=>(SC.r (SC.l s)))) (Xa (r:=(rV (rV Xb))) 1 rfl (fun _ s=>(SC.r s))))) (XB (Da (XD (Xa (r:=(rV (rV Xb))) 0 rfl (fun _ s=>(SC.r (SC.l s)))) (Xa (r:=(rV (rV Xb))) 1 rfl (fun _ s=>(SC.r s)))))))
theorem Jj : FnScope ["_law_script", "_law_place", "_law_seed", "_law_cell_here"] ["_law_script", "_law_place"] (Xl Gh):=⟨rfl, rfl, rfl, by decide +kernel, rfl, by decide +kernel, by decide +kernel⟩
set_option maxHeartbeats 4000000 in
theorem DX (D : Def K mg "_law_cell" Gh ["_law_script", "_law_place"])  (Z : Blt mg) : Fn P w K mg base 1 "_law_cell" ["_law_script", "_law_place"] (sp2 (rL Xb) Xb (oF Xb) Qn K):=by
  refine YM D Jj (fun vs H Q E h=>?_) (fun f cdv A outer s H vs Q E hr h=>?_)
  . obtain ⟨v_0, v_1, a_0, a_1, b, rfl, _⟩:=h; rfl
  obtain ⟨v_0, v_1, a_0, a_1, b, rfl, h_0, h_1, hm, q⟩:=h
  have hu:=hu8 hr
  have hu1:=YH hr
  refine ⟨_, (Xd (Ys (Xm QE (pv 1) (Xq (Xi K rfl) rfl Z.b_len PySem.boot_len (Xc (pv 0) Xf)) (Xr _))
      (Xd (XA (XW (Xn K rfl) (pv 0) (pv 1) (fun _ _=>rfl)))
      Xg)
      Xg)
    (Xd (Xy (i:=2) Jj.nd rfl (Or.inl rfl) Xh)
    (Xd (YG PassesOwn.never rfl (Zr (K:=K) rfl (Je (Jh K rfl) (pv 0) VJ (Vl Xh))) (XO (i:=3) Jj.nd rfl (Or.inl rfl))
      (Xd (Xy (i:=2) Jj.nd rfl (Or.inl rfl) (Xt Yf (Xt YF (Xt YF (Xt Y5 (pv 2) Xh) (Xt Yf (pv 3) Xh)) Xh) Xh))
      Xg))
    (Xd (XA (Xt Yf (Xt YF (pv 2) (Xt Y5 Xh (pv 1))) Xh))
    Xg)))), ?_⟩
  refine YQ (S:=(SC.add (SC.add SC.nil K (rL Xb) v_0 a_0) K Xb v_1 a_1)) (σ:=[some v_0, some v_1, none, none]) 0 ?_ (SC.i (SC.i SC.t h_0) h_1) hm q rfl
  unfold Qn
  exact (YK (Xk (K:=K) (Zf (Xa (r:=Xb) 1 rfl (fun _ s=>(SC.r s))) (GF (Xa (r:=(rL Xb)) 0 rfl (fun _ s=>(SC.r (SC.l s))))))) (XB (EvS.ev (EvB.sh (DH (Xa (r:=(rL Xb)) 0 rfl (fun _ s=>(SC.r (SC.l s)))) (Xa (r:=Xb) 1 rfl (fun _ s=>(SC.r s))))))) (X6 (K:=K) (r:=Xb) 2 (EvB.sh (Xe 5)) fun a7 v8=>(Zv (K:=K) (J:=({ oo:=fun x13=>[], ss:=fun x13=>[some v_0, some v_1, some x13.2, x13.1], sc:=fun g14 x13=>(SC.add (SC.add (SC.add SC.nil K (rL Xb) v_0 a_0) K Xb v_1 a_1) K Xb x13.2 g14) } : Jn (Int) (Option V × V))) (fun _=>tg1 3) ((none), v8) (a7) (ZL (Ev.sh (Ki (Xa (r:=(rL Xb)) 0 rfl (fun _ s=>(SC.r (SC.l (SC.l s))))) Jv (Jo (K:=K) (Xe 63))))) rfl rfl (fun _ s=>(SC.i (SC.i (SC.i SC.t (SC.r (SC.l (SC.l s)))) (SC.r (SC.l s))) (SC.r s))) (fun g15 x16 a17 v18=>(X6 (K:=K) (r:=Xb) 2 (EvB.sh (XU (Ye (Ye (YD (Xa (r:=Xb) 2 rfl (fun _ s=>(SC.r (SC.l s)))) (Xe 48271)) (XU (Xa (r:=Xb) 3 rfl (fun _ s=>(SC.r s))) (Xe 1000003))) (Xe 1)) (Xe 2147483647))) fun a19 v20=>(XC (J:=_) ((some v18), v20) (a19) rfl rfl (fun _ s=>(SC.i (SC.i (SC.i SC.t (SC.r (SC.l (SC.l (SC.l (SC.l s)))))) (SC.r (SC.l (SC.l (SC.l s))))) (SC.r s)))))) fun g31 x32=>(XB (EvS.ev (EvB.sh (XU (Ye (Xa (r:=Xb) 2 rfl (fun _ s=>(SC.r s))) (YD (Xe 7919) (Xa (r:=Xb) 1 rfl (fun _ s=>(SC.r (SC.l s)))))) (Xe 1000003))))))))
theorem KE : FnScope ["_law_cell_here", "_law_k", "_law_one", "_law_two"] ["_law_cell_here", "_law_k"] (Xl DA):=⟨rfl, rfl, rfl, by decide +kernel, rfl, by decide +kernel, by decide +kernel⟩
set_option maxHeartbeats 4000000 in
theorem CC (D : Def K mg "_law_mix" DA ["_law_cell_here", "_law_k"])  (Z : Blt mg) : Fn P w K mg base 1 "_law_mix" ["_law_cell_here", "_law_k"] (sp2 Xb Xb (oF Xb) Vi K):=by
  refine YM D KE (fun vs H Q E h=>?_) (fun f cdv A outer s H vs Q E hr h=>?_)
  . obtain ⟨v_0, v_1, a_0, a_1, b, rfl, _⟩:=h; rfl
  obtain ⟨v_0, v_1, a_0, a_1, b, rfl, h_0, h_1, hm, q⟩:=h
  have hu:=hu8 hr
  have hu1:=YH hr
  refine ⟨_, (Xd (Xy (i:=2) KE.nd rfl (Or.inl rfl) (Xt Yf (Xt Fz (Xt YF (Xt YF (Xt Yf (pv 0) Xh) (Xt Y5 Xh (pv 1))) Xh) Xh) Xh))
    (Xd (Xy (i:=3) KE.nd rfl (Or.inl rfl) (Xt Yf (Xt YF (Xt YF (Xt Y5 (pv 2) Xh) (Xt Y5 (Xt Y5 Xh (pv 1)) (pv 1))) Xh) Xh))
    (Xd (XA (Xt Jz (pv 3) Xh))
    Xg))), ?_⟩
  refine YQ (S:=(SC.add (SC.add SC.nil K Xb v_0 a_0) K Xb v_1 a_1)) (σ:=[some v_0, some v_1, none, none]) 0 ?_ (SC.i (SC.i SC.t h_0) h_1) hm q rfl
  unfold Vi
  exact (X6 (K:=K) (r:=Xb) 2 (EvB.sh (XU (Gs (Ye (Ye (XU (Xa (r:=Xb) 0 rfl (fun _ s=>(SC.r (SC.l s)))) (Xe 2147483629)) (YD (Xe 1013) (Xa (r:=Xb) 1 rfl (fun _ s=>(SC.r s))))) (Xe 7919)) (Xe 3)) (Xe 2147483647))) fun a1 v2=>(X6 (K:=K) (r:=Xb) 3 (EvB.sh (XU (Ye (Ye (YD (Xa (r:=Xb) 2 rfl (fun _ s=>(SC.r s))) (Xe 40699)) (YD (YD (Xe 3793) (Xa (r:=Xb) 1 rfl (fun _ s=>(SC.r (SC.l s))))) (Xa (r:=Xb) 1 rfl (fun _ s=>(SC.r (SC.l s)))))) (Xe 11)) (Xe 2147483399))) fun a15 v16=>(XB (EvS.ev (EvB.sh (Vy (Xa (r:=Xb) 3 rfl (fun _ s=>(SC.r s))) (Xe 101)))))))
theorem QK : FnScope ["_law_script", "_law_place", "_law_sizes", "_law_cell_here", "_law_left", "_law_some", "_law_k", "_law_other"] ["_law_script", "_law_place", "_law_sizes"] (Xl Dz):=⟨rfl, rfl, rfl, by decide +kernel, rfl, by decide +kernel, by decide +kernel⟩
set_option maxHeartbeats 4000000 in
theorem CF (D : Def K mg "_law_row" Dz ["_law_script", "_law_place", "_law_sizes"]) (g_cell : Fn P w K mg base 1 "_law_cell" ["_law_script", "_law_place"] (sp2 (rL Xb) Xb (oF Xb) Qn K)) (g_mix : Fn P w K mg base 1 "_law_mix" ["_law_cell_here", "_law_k"] (sp2 Xb Xb (oF Xb) Vi K)) (Z : Blt mg) : Fn P w K mg base 2 "_law_row" ["_law_script", "_law_place", "_law_sizes"] (sp3 (rL Xb) Xb (rV Xb) (oL (oF Xb)) Qu K):=by
  refine YM D QK (fun vs H Q E h=>?_) (fun f cdv A outer s H vs Q E hr h=>?_)
  . obtain ⟨v_0, v_1, v_2, a_0, a_1, a_2, b, rfl, _⟩:=h; rfl
  obtain ⟨v_0, v_1, v_2, a_0, a_1, a_2, b, rfl, h_0, h_1, h_2, hm, q⟩:=h
  have hu:=hu8 hr
  have hu1:=YH hr
  refine ⟨_, (Xd (Xy (i:=3) QK.nd rfl (Or.inl rfl) (X5 g_cell hr (by decide) (Xc (pv 0) (Xc (pv 1) Xf))))
    (Xd (Xy (i:=4) QK.nd rfl (Or.inl rfl) (pv 3))
    (Xd (Xy (i:=5) QK.nd rfl (Or.inl rfl) (X7 Xf))
    (Xd (YG PassesOwn.never rfl (XT rfl Z.b_range (Xc (Xq (Xi K rfl) rfl Z.b_len PySem.boot_len (Xc (pv 2) Xf)) Xf)) (XO (i:=6) QK.nd rfl (Or.inl rfl))
      (Xd (Ys (Xm QE (pv 3) (Xt Fz Xh Xh) (Xr _))
        (Xd (Yo (Z8 PySem.F.plainAttrs_list PySem.F.slot_list_append PySem.F.type_list_append Yg (pv 5) (Xc (Xt Yf (X5 g_mix hr (by decide) (Xc (pv 3) (Xc (pv 6) Xf))) (XW (Xn K rfl) (pv 2) (pv 6) (fun _ _=>rfl))) Xf)))
        Xg)
        (Xd (Ys (Xm JZ (pv 4) Xh (Xr _))
          (Xd (Yo (Z8 PySem.F.plainAttrs_list PySem.F.slot_list_append PySem.F.type_list_append Yg (pv 5) (Xc (Xt Yf (pv 4) (XW (Xn K rfl) (pv 2) (pv 6) (fun _ _=>rfl))) Xf)))
          (Xd (Xy (i:=4) QK.nd rfl (Or.inl rfl) (Xt Jz (pv 4) (XW (Xn K rfl) (pv 2) (pv 6) (fun _ _=>rfl))))
          Xg))
          (Xd (Xy (i:=7) QK.nd rfl (Or.inl rfl) (X5 g_cell hr (by decide) (Xc (pv 0) (Xc (Xt Yf (Xt YF (Xt YF (pv 1) Xh) (pv 6)) Xh) Xf))))
          (Xd (Yo (Z8 PySem.F.plainAttrs_list PySem.F.slot_list_append PySem.F.type_list_append Yg (pv 5) (Xc (Xt Yf (X5 g_mix hr (by decide) (Xc (pv 7) (Xc (pv 6) Xf))) (XW (Xn K rfl) (pv 2) (pv 6) (fun _ _=>rfl))) Xf)))
          Xg)))
        Xg))
      Xg))
    (Xd (XA (pv 5))
    Xg))))), ?_⟩
  refine YQ (S:=(SC.add (SC.add (SC.add SC.nil K (rL Xb) v_0 a_0) K Xb v_1 a_1) K (rV Xb) v_2 a_2)) (σ:=[some v_0, some v_1, some v_2, none, none, none, none, none]) 1 ?_ (SC.i (SC.i (SC.i SC.t h_0) h_1) h_2) hm q rfl
  unfold Qu
  exact (X6 (K:=K) (r:=Xb) 3 (EvB.sh (Ev.toB (XD (Xa (r:=(rL Xb)) 0 rfl (fun _ s=>(SC.r (SC.l (SC.l s))))) (Xa (r:=Xb) 1 rfl (fun _ s=>(SC.r (SC.l s))))))) fun a1 v2=>(X6 (K:=K) (r:=Xb) 4 (X1 (r:=Xb) 3 rfl (fun _ s=>(SC.r s))) fun a6 v7=>(X4 (K:=K) (o:=(oL (oF Xb))) 5 0 (QM (o:=(oF Xb))) (Nat.le_of_ble_eq_true rfl) fun a8 v9 C10=>(Zv (K:=K) (J:=({ oo:=fun x13=>[x13.2.2.2.2], ss:=fun x13=>[some v_0, some v_1, some v_2, some v2, some x13.2.2.1, some x13.2.1, x13.1, x13.2.2.2.1], sc:=fun g14 x13=>(SC.add (SC.addO (SC.add (SC.add (SC.add (SC.add SC.nil K (rL Xb) v_0 a_0) K Xb v_1 a_1) K (rV Xb) v_2 a_2) K Xb v2 a1) K (oL (oF Xb)) x13.2.1 g14.1 x13.2.2.2.2) K Xb x13.2.2.1 g14.2) } : Jn ((List Int) × Int) (Option V × V × V × Option V × List Xx))) (fun _=>tg1 6) ((none), v9, v7, (none), C10) (a8, a6) (XE (XN (Xa (r:=(rV Xb)) 2 rfl (fun _ s=>(SC.r (SC.l (SC.l (SC.l s)))))))) rfl rfl (fun _ s=>(SC.i (SC.i (SC.i (SC.i (SC.i (SC.i SC.t (SC.r (SC.l (SC.l (SC.l (SC.l (SC.l s))))))) (SC.r (SC.l (SC.l (SC.l (SC.l s)))))) (SC.r (SC.l (SC.l (SC.l s))))) (SC.r (SC.l (SC.l s)))) (SC.r s)) (SC.r (SC.l s)))) (fun g15 x16 a17 v18=>(Zh (J:=({ oo:=fun x24=>[x24.2.2.2], ss:=fun x24=>[some v_0, some v_1, some v_2, some v2, some x24.2.1, some x24.1, some v18, x24.2.2.1], sc:=fun g25 x24=>(SC.add (SC.addO (SC.add (SC.add (SC.add (SC.add (SC.add SC.nil K (rL Xb) v_0 a_0) K Xb v_1 a_1) K (rV Xb) v_2 a_2) K Xb v2 a1) K Xb v18 a17) K (oL (oF Xb)) x24.1 g25.1 x24.2.2.2) K Xb x24.2.1 g25.2) } : Jn ((List Int) × Int) (V × V × Option V × List Xx))) (Zu (Fd:=FNd ({ oo:=fun x24=>[x24.2.2.2], ss:=fun x24=>[some v_0, some v_1, some v_2, some v2, some x24.2.1, some x24.1, some v18, x24.2.2.1], sc:=fun g25 x24=>(SC.add (SC.addO (SC.add (SC.add (SC.add (SC.add (SC.add SC.nil K (rL Xb) v_0 a_0) K Xb v_1 a_1) K (rV Xb) v_2 a_2) K Xb v2 a1) K Xb v18 a17) K (oL (oF Xb)) x24.1 g25.1 x24.2.2.2) K Xb x24.2.1 g25.2) } : Jn ((List Int) × Int) (V × V × Option V × List Xx))) (Xk (K:=K) (Zf (Xa (r:=Xb) 3 rfl (fun _ s=>(SC.r (SC.l (SC.l (SC.l s)))))) (Gs (Xe 10) (Xe 18)))) (ZR (K:=K) (o:=(oF Xb)) (f:=fun a35=>(Res.ok (a35, g15.2))) 5 0 rfl rfl rfl (fun _ s=>(SC.r (SC.l (SC.l s)))) (EvS.ev (EvB.sh (XU (Ev.toB (XD (Xa (r:=Xb) 3 rfl (fun _ s=>(SC.r (SC.l (SC.l (SC.l s)))))) (Xa (r:=Xb) 6 rfl (fun _ s=>(SC.r s))))) (XI (Xa (r:=(rV Xb)) 2 rfl (fun _ s=>(SC.r (SC.l (SC.l (SC.l (SC.l s))))))) (Xa (r:=Xb) 6 rfl (fun _ s=>(SC.r s))))))) fun a33 C34=>(XC (J:=_) (x16.2.1, x16.2.2.1, (x16.2.2.2.1), C34) ((g15.1 ++ [a33]), g15.2) rfl rfl (fun _ s=>(SC.i (SC.i (SC.i (SC.i (SC.i (SC.i (SC.i SC.t (SC.r (SC.l (SC.l (SC.l (SC.l (SC.l (SC.l (SC.l s))))))))) (SC.r (SC.l (SC.l (SC.l (SC.l (SC.l (SC.l s)))))))) (SC.r (SC.l (SC.l (SC.l (SC.l (SC.l s))))))) (SC.r (SC.l (SC.l (SC.l (SC.l s)))))) (SC.r (SC.l s))) (SC.r s)) (SC.r (SC.l (SC.l s))))))) (Zh (J:=({ oo:=fun x39=>[x39.2.2.2], ss:=fun x39=>[some v_0, some v_1, some v_2, some v2, some x39.1, some x39.2.2.1, some v18, x39.2.1], sc:=fun g40 x39=>(SC.addO (SC.add (SC.add (SC.add (SC.add (SC.add (SC.add SC.nil K (rL Xb) v_0 a_0) K Xb v_1 a_1) K (rV Xb) v_2 a_2) K Xb v2 a1) K Xb v18 a17) K Xb x39.1 g40.1) K (oL (oF Xb)) x39.2.2.1 g40.2 x39.2.2.2) } : Jn (Int × (List Int)) (V × Option V × V × List Xx))) (Zu (Fd:=FNd ({ oo:=fun x39=>[x39.2.2.2], ss:=fun x39=>[some v_0, some v_1, some v_2, some v2, some x39.1, some x39.2.2.1, some v18, x39.2.1], sc:=fun g40 x39=>(SC.addO (SC.add (SC.add (SC.add (SC.add (SC.add (SC.add SC.nil K (rL Xb) v_0 a_0) K Xb v_1 a_1) K (rV Xb) v_2 a_2) K Xb v2 a1) K Xb v18 a17) K Xb x39.1 g40.1) K (oL (oF Xb)) x39.2.2.1 g40.2 x39.2.2.2) } : Jn (Int × (List Int)) (V × Option V × V × List Xx))) (Xk (K:=K) (Z4 (Xa (r:=Xb) 4 rfl (fun _ s=>(SC.r (SC.l s)))) (Xe 0))) (ZR (K:=K) (o:=(oF Xb)) (f:=fun a47=>(Res.bind (Res.bind (Res.ok g15.2) fun x52=>(Res.bind (Res.bind (Res.ok a_2) fun x50=>(Res.bind (Res.ok a17) fun x51=>(atR x50 x51))) fun x53=>(Ci x52 x53))) fun a48=>(Res.ok (a48, a47)))) 5 0 rfl rfl rfl (fun _ s=>(SC.r (SC.l (SC.l s)))) (EvS.ev (EvB.sh (XU (Xa (r:=Xb) 4 rfl (fun _ s=>(SC.r (SC.l s)))) (XI (Xa (r:=(rV Xb)) 2 rfl (fun _ s=>(SC.r (SC.l (SC.l (SC.l (SC.l s))))))) (Xa (r:=Xb) 6 rfl (fun _ s=>(SC.r s))))))) fun a45 C46=>(X6 (K:=K) (r:=Xb) 4 (EvB.sh (Vy (Xa (r:=Xb) 4 rfl (fun _ s=>(SC.r (SC.l (SC.l s))))) (XI (Xa (r:=(rV Xb)) 2 rfl (fun _ s=>(SC.r (SC.l (SC.l (SC.l (SC.l (SC.l s)))))))) (Xa (r:=Xb) 6 rfl (fun _ s=>(SC.r (SC.l s))))))) fun a48 v49=>(XC (J:=_) (v49, (x16.2.2.2.1), x16.2.1, C46) (a48, (g15.1 ++ [a45])) rfl rfl (fun _ s=>(SC.i (SC.i (SC.i (SC.i (SC.i (SC.i (SC.i SC.t (SC.r (SC.l (SC.l (SC.l (SC.l (SC.l (SC.l (SC.l (SC.l s)))))))))) (SC.r (SC.l (SC.l (SC.l (SC.l (SC.l (SC.l (SC.l s))))))))) (SC.r (SC.l (SC.l (SC.l (SC.l (SC.l (SC.l s)))))))) (SC.r (SC.l (SC.l (SC.l (SC.l (SC.l s))))))) (SC.r (SC.l (SC.l s)))) (SC.r s)) (SC.r (SC.l s))))))) (X6 (K:=K) (r:=Xb) 7 (EvB.sh (Ev.toB (XD (Xa (r:=(rL Xb)) 0 rfl (fun _ s=>(SC.r (SC.l (SC.l (SC.l (SC.l (SC.l (SC.l s))))))))) (XU (Ye (Ye (Xa (r:=Xb) 1 rfl (fun _ s=>(SC.r (SC.l (SC.l (SC.l (SC.l (SC.l s)))))))) (Xe 1)) (Xa (r:=Xb) 6 rfl (fun _ s=>(SC.r s)))) (Xe 63))))) fun a54 v55=>(ZR (K:=K) (o:=(oF Xb)) (f:=fun a74=>(Res.ok (g15.2, a74))) 5 0 rfl rfl rfl (fun _ s=>(SC.r (SC.l (SC.l (SC.l s))))) (EvS.ev (EvB.sh (XU (Ev.toB (XD (Xa (r:=Xb) 7 rfl (fun _ s=>(SC.r s))) (Xa (r:=Xb) 6 rfl (fun _ s=>(SC.r (SC.l s)))))) (XI (Xa (r:=(rV Xb)) 2 rfl (fun _ s=>(SC.r (SC.l (SC.l (SC.l (SC.l (SC.l s)))))))) (Xa (r:=Xb) 6 rfl (fun _ s=>(SC.r (SC.l s)))))))) fun a72 C73=>(XC (J:=_) (x16.2.2.1, (some v55), x16.2.1, C73) (g15.2, (g15.1 ++ [a72])) rfl rfl (fun _ s=>(SC.i (SC.i (SC.i (SC.i (SC.i (SC.i (SC.i SC.t (SC.r (SC.l (SC.l (SC.l (SC.l (SC.l (SC.l (SC.l (SC.l s)))))))))) (SC.r (SC.l (SC.l (SC.l (SC.l (SC.l (SC.l (SC.l s))))))))) (SC.r (SC.l (SC.l (SC.l (SC.l (SC.l (SC.l s)))))))) (SC.r (SC.l (SC.l (SC.l (SC.l (SC.l s))))))) (SC.r (SC.l (SC.l s)))) (SC.r (SC.l (SC.l (SC.l s))))) (SC.r s))))))) fun g76 x75=>(XC (J:=_) (x75.2.2.1, x75.1, (x75.2.1), x75.2.2.2) (g76.2, g76.1) rfl rfl (fun _ s=>(SC.i (SC.i (SC.i (SC.i (SC.i (SC.i (SC.i SC.t (SC.r (SC.l (SC.l (SC.l (SC.l (SC.l (SC.l s)))))))) (SC.r (SC.l (SC.l (SC.l (SC.l (SC.l s))))))) (SC.r (SC.l (SC.l (SC.l (SC.l s)))))) (SC.r (SC.l (SC.l (SC.l s))))) (SC.r (SC.l (SC.l s)))) (SC.r s)) (SC.r (SC.l s))))))) fun g78 x77=>(XC (J:=_) ((some v18), x77.1, x77.2.1, (x77.2.2.1), x77.2.2.2) (g78.1, g78.2) rfl rfl (fun _ s=>(SC.i (SC.i (SC.i (SC.i (SC.i (SC.i SC.t (SC.r (SC.l (SC.l (SC.l (SC.l (SC.l (SC.l s)))))))) (SC.r (SC.l (SC.l (SC.l (SC.l (SC.l s))))))) (SC.r (SC.l (SC.l (SC.l (SC.l s)))))) (SC.r (SC.l (SC.l (SC.l s))))) (SC.r (SC.l s))) (SC.r s)))))) fun g79 x80=>(XB (Yu (o:=(oL (oF Xb))) 5 0 rfl rfl (fun _ s=>(SC.r (SC.l s)))))))))
theorem Q1 : FnScope ["_law_way", "_law_size", "_law_factor", "_law_a", "_law_b", "_law_half"] ["_law_way", "_law_size", "_law_factor", "_law_a", "_law_b"] (Xl QA):=⟨rfl, rfl, rfl, by decide +kernel, rfl, by decide +kernel, by decide +kernel⟩
set_option maxHeartbeats 4000000 in
theorem UM (D : Def K mg "_law_cell_of" QA ["_law_way", "_law_size", "_law_factor", "_law_a", "_law_b"])  (Z : Blt mg) : Fn P w K mg base 1 "_law_cell_of" ["_law_way", "_law_size", "_law_factor", "_law_a", "_law_b"] (sp5 Xb Xb Xb Xb Xb (oF Xb) YL K):=by
  refine YM D Q1 (fun vs H Q E h=>?_) (fun f cdv A outer s H vs Q E hr h=>?_)
  . obtain ⟨v_0, v_1, v_2, v_3, v_4, a_0, a_1, a_2, a_3, a_4, b, rfl, _⟩:=h; rfl
  obtain ⟨v_0, v_1, v_2, v_3, v_4, a_0, a_1, a_2, a_3, a_4, b, rfl, h_0, h_1, h_2, h_3, h_4, hm, q⟩:=h
  have hu:=hu8 hr
  have hu1:=YH hr
  refine ⟨_, (Xd (Xy (i:=5) Q1.nd rfl (Or.inl rfl) (Xt Jz (pv 1) Xh))
    (Xd (Ys (Xm Y8 (pv 0) Xh (Xr _))
      (Xd (XA (Xt Yf (Xt YJ (Xt Y5 Xh (pv 4)) (pv 3)) (pv 1)))
      Xg)
      Xg)
    (Xd (Ys (Xm Y8 (pv 0) Xh (Xr _))
      (Xd (XA (Xt Yf (Xt YF (Xt Y5 (pv 2) (pv 3)) (Xt Y5 (Xt YJ Xh (pv 2)) (pv 4))) (pv 1)))
      Xg)
      Xg)
    (Xd (Ys (PW.pt (YB (Xm Y8 (pv 0) Xh (Xr _)) (YB (Xm JZ (pv 1) Xh (Xr _)) (YB (Xm QE (pv 3) Xh (Xr _)) (YU (Xm Y8 (pv 4) (Xt YJ (pv 1) Xh) (Xr _)))))))
      (Xd (XA (Xt YJ Xh (pv 3)))
      Xg)
      Xg)
    (Xd (Ys (PW.pt (YB (Xm Y8 (pv 0) Xh (Xr _)) (YB (Xm QE (pv 3) (Xt YJ (pv 1) Xh) (Xr _)) (YU (Xm Y8 (pv 4) (Xt YJ (pv 1) Xh) (Xr _))))))
      (Xd (XA (Xt Yf (Xt YF (pv 3) Xh) (Xt YJ (pv 1) Xh)))
      Xg)
      Xg)
    (Xd (Ys (PW.pt (YB (Xm Y8 (pv 0) Xh (Xr _)) (YB (Xm QE (pv 3) (pv 5) (Xr _)) (YU (Xm QE (pv 4) (pv 5) (Xr _))))))
      (Xd (XA (Xt Yf (Xt YJ (Xt Y5 Xh (pv 4)) (pv 3)) (pv 5)))
      Xg)
      Xg)
    (Xd (Ys (PW.pt (YB (Xm Y8 (pv 0) Xh (Xr _)) (YB (Xm F6 (pv 3) (pv 5) (Xr _)) (YU (Xm F6 (pv 4) (pv 5) (Xr _))))))
      (Xd (XA (Xt YF (pv 5) (Xt Yf (Xt YJ (Xt YJ (Xt Y5 Xh (pv 4)) (pv 3)) (pv 5)) (Xt YJ (pv 1) (pv 5)))))
      Xg)
      Xg)
    (Xd (XA (pv 3))
    Xg)))))))), ?_⟩
  refine YQ (S:=(SC.add (SC.add (SC.add (SC.add (SC.add SC.nil K Xb v_0 a_0) K Xb v_1 a_1) K Xb v_2 a_2) K Xb v_3 a_3) K Xb v_4 a_4)) (σ:=[some v_0, some v_1, some v_2, some v_3, some v_4, none]) 0 ?_ (SC.i (SC.i (SC.i (SC.i (SC.i SC.t h_0) h_1) h_2) h_3) h_4) hm q rfl
  unfold YL
  exact (X6 (K:=K) (r:=Xb) 5 (EvB.sh (Vy (Xa (r:=Xb) 1 rfl (fun _ s=>(SC.r (SC.l (SC.l (SC.l s)))))) (Xe 2))) fun a1 v2=>(YK (Xk (K:=K) (Yw (Xa (r:=Xb) 0 rfl (fun _ s=>(SC.r (SC.l (SC.l (SC.l (SC.l (SC.l s)))))))) (Xe 1))) (XB (EvS.ev (EvB.sh (XU (Yj (YD (Xe 2) (Xa (r:=Xb) 4 rfl (fun _ s=>(SC.r (SC.l s))))) (Xa (r:=Xb) 3 rfl (fun _ s=>(SC.r (SC.l (SC.l s)))))) (Xa (r:=Xb) 1 rfl (fun _ s=>(SC.r (SC.l (SC.l (SC.l (SC.l s))))))))))) (YK (Xk (K:=K) (Yw (Xa (r:=Xb) 0 rfl (fun _ s=>(SC.r (SC.l (SC.l (SC.l (SC.l (SC.l s)))))))) (Xe 2))) (XB (EvS.ev (EvB.sh (XU (Ye (YD (Xa (r:=Xb) 2 rfl (fun _ s=>(SC.r (SC.l (SC.l (SC.l s)))))) (Xa (r:=Xb) 3 rfl (fun _ s=>(SC.r (SC.l (SC.l s)))))) (YD (Yj (Xe 1) (Xa (r:=Xb) 2 rfl (fun _ s=>(SC.r (SC.l (SC.l (SC.l s))))))) (Xa (r:=Xb) 4 rfl (fun _ s=>(SC.r (SC.l s)))))) (Xa (r:=Xb) 1 rfl (fun _ s=>(SC.r (SC.l (SC.l (SC.l (SC.l s))))))))))) (YK (Ya (Xk (K:=K) (Yw (Xa (r:=Xb) 0 rfl (fun _ s=>(SC.r (SC.l (SC.l (SC.l (SC.l (SC.l s)))))))) (Xe 3))) (Ya (Xk (K:=K) (Z4 (Xa (r:=Xb) 1 rfl (fun _ s=>(SC.r (SC.l (SC.l (SC.l (SC.l s))))))) (Xe 2))) (Ya (Xk (K:=K) (Zf (Xa (r:=Xb) 3 rfl (fun _ s=>(SC.r (SC.l (SC.l s))))) (Xe 2))) (Xk (K:=K) (Yw (Xa (r:=Xb) 4 rfl (fun _ s=>(SC.r (SC.l s)))) (Yj (Xa (r:=Xb) 1 rfl (fun _ s=>(SC.r (SC.l (SC.l (SC.l (SC.l s))))))) (Xe 1))))))) (XB (EvS.ev (EvB.sh (Yj (Xe 1) (Xa (r:=Xb) 3 rfl (fun _ s=>(SC.r (SC.l (SC.l s))))))))) (YK (Ya (Xk (K:=K) (Yw (Xa (r:=Xb) 0 rfl (fun _ s=>(SC.r (SC.l (SC.l (SC.l (SC.l (SC.l s)))))))) (Xe 6))) (Ya (Xk (K:=K) (Zf (Xa (r:=Xb) 3 rfl (fun _ s=>(SC.r (SC.l (SC.l s))))) (Yj (Xa (r:=Xb) 1 rfl (fun _ s=>(SC.r (SC.l (SC.l (SC.l (SC.l s))))))) (Xe 1)))) (Xk (K:=K) (Yw (Xa (r:=Xb) 4 rfl (fun _ s=>(SC.r (SC.l s)))) (Yj (Xa (r:=Xb) 1 rfl (fun _ s=>(SC.r (SC.l (SC.l (SC.l (SC.l s))))))) (Xe 1)))))) (XB (EvS.ev (EvB.sh (XU (Ye (Xa (r:=Xb) 3 rfl (fun _ s=>(SC.r (SC.l (SC.l s))))) (Xe 1)) (Yj (Xa (r:=Xb) 1 rfl (fun _ s=>(SC.r (SC.l (SC.l (SC.l (SC.l s))))))) (Xe 1)))))) (YK (Ya (Xk (K:=K) (Yw (Xa (r:=Xb) 0 rfl (fun _ s=>(SC.r (SC.l (SC.l (SC.l (SC.l (SC.l s)))))))) (Xe 4))) (Ya (Xk (K:=K) (Zf (Xa (r:=Xb) 3 rfl (fun _ s=>(SC.r (SC.l (SC.l s))))) (Xa (r:=Xb) 5 rfl (fun _ s=>(SC.r s))))) (Xk (K:=K) (Zf (Xa (r:=Xb) 4 rfl (fun _ s=>(SC.r (SC.l s)))) (Xa (r:=Xb) 5 rfl (fun _ s=>(SC.r s))))))) (XB (EvS.ev (EvB.sh (XU (Yj (YD (Xe 2) (Xa (r:=Xb) 4 rfl (fun _ s=>(SC.r (SC.l s))))) (Xa (r:=Xb) 3 rfl (fun _ s=>(SC.r (SC.l (SC.l s)))))) (Xa (r:=Xb) 5 rfl (fun _ s=>(SC.r s))))))) (YK (Ya (Xk (K:=K) (Yw (Xa (r:=Xb) 0 rfl (fun _ s=>(SC.r (SC.l (SC.l (SC.l (SC.l (SC.l s)))))))) (Xe 4))) (Ya (Xk (K:=K) (K5 (Xa (r:=Xb) 3 rfl (fun _ s=>(SC.r (SC.l (SC.l s))))) (Xa (r:=Xb) 5 rfl (fun _ s=>(SC.r s))))) (Xk (K:=K) (K5 (Xa (r:=Xb) 4 rfl (fun _ s=>(SC.r (SC.l s)))) (Xa (r:=Xb) 5 rfl (fun _ s=>(SC.r s))))))) (XB (EvS.ev (EvB.sh (Ye (Xa (r:=Xb) 5 rfl (fun _ s=>(SC.r s))) (XU (Yj (Yj (YD (Xe 2) (Xa (r:=Xb) 4 rfl (fun _ s=>(SC.r (SC.l s))))) (Xa (r:=Xb) 3 rfl (fun _ s=>(SC.r (SC.l (SC.l s)))))) (Xa (r:=Xb) 5 rfl (fun _ s=>(SC.r s)))) (Yj (Xa (r:=Xb) 1 rfl (fun _ s=>(SC.r (SC.l (SC.l (SC.l (SC.l s))))))) (Xa (r:=Xb) 5 rfl (fun _ s=>(SC.r s))))))))) (XB (EvS.ev (X1 (r:=Xb) 3 rfl (fun _ s=>(SC.r (SC.l (SC.l s))))))))))))))
theorem Qt : FnScope ["_law_one", "_law_other"] ["_law_one", "_law_other"] (Xl Q4):=⟨rfl, rfl, rfl, by decide +kernel, rfl, by decide +kernel, by decide +kernel⟩
set_option maxHeartbeats 4000000 in
theorem Kj (D : Def K mg "_law_common" Q4 ["_law_one", "_law_other"])  (Z : Blt mg) : Fn P w K mg base 1 "_law_common" ["_law_one", "_law_other"] (sp2 Xb Xb (oF Xb) Zo K):=by
  refine YM D Qt (fun vs H Q E h=>?_) (fun f cdv A outer s H vs Q E hr h=>?_)
  . obtain ⟨v_0, v_1, a_0, a_1, b, rfl, _⟩:=h; rfl
  obtain ⟨v_0, v_1, a_0, a_1, b, rfl, h_0, h_1, hm, q⟩:=h
  have hu:=hu8 hr
  have hu1:=YH hr
  refine ⟨_, (Xd (Gr (i:=0) (j:=1) rfl Qt.nd rfl rfl (by decide) rfl rfl (Xc (Xq V1 rfl Z.b_abs PyProof.Rows.boot_abs (Xc (pv 0) Xf)) (Xc (Xq V1 rfl Z.b_abs PyProof.Rows.boot_abs (Xc (pv 1) Xf)) Xf)) rfl)
    (Xd (Jy PassesOwn.never (Xm JZ (pv 1) Xh (Xr _))
      (Xd (Gr (i:=0) (j:=1) rfl Qt.nd rfl rfl (by decide) rfl rfl (Xc (pv 1) (Xc (Xt Yf (pv 0) (pv 1)) Xf)) rfl)
      Xg))
    (Xd (XA (pv 0))
    Xg))), ?_⟩
  refine YQ (S:=(SC.add (SC.add SC.nil K Xb v_0 a_0) K Xb v_1 a_1)) (σ:=[some v_0, some v_1]) 0 ?_ (SC.i (SC.i SC.t h_0) h_1) hm q rfl
  unfold Zo
  exact (Ks (K:=K) 0 1 (EvB.sh (Kv (Xa (r:=Xb) 0 rfl (fun _ s=>(SC.r (SC.l s)))))) (EvB.sh (Kv (Xa (r:=Xb) 1 rfl (fun _ s=>(SC.r s))))) fun a3 a4 v5 v6=>(VZ (J:=({ oo:=fun x7=>[], ss:=fun x7=>[some x7.1, some x7.2], sc:=fun g8 x7=>(SC.add (SC.add SC.nil K Xb x7.1 g8.1) K Xb x7.2 g8.2) } : Jn (Int × Int) (V × V))) (a3.natAbs + a4.natAbs + 2) (v5, v6) (a3, a4) rfl rfl (fun _ s=>(SC.i (SC.i SC.t (SC.r (SC.l s))) (SC.r s))) (fun g9 x10=>(Xk (K:=K) (Z4 (Xa (r:=Xb) 1 rfl (fun _ s=>(SC.r s))) (Xe 0)))) (fun g9 x10=>(Ks (K:=K) 0 1 (X1 (r:=Xb) 1 rfl (fun _ s=>(SC.r s))) (EvB.sh (XU (Xa (r:=Xb) 0 rfl (fun _ s=>(SC.r (SC.l s)))) (Xa (r:=Xb) 1 rfl (fun _ s=>(SC.r s))))) fun a15 a16 v17 v18=>(XC (J:=_) (v17, v18) (a15, a16) rfl rfl (fun _ s=>(SC.i (SC.i SC.t (SC.r (SC.l s))) (SC.r s)))))) fun g19 x20=>(XB (EvS.ev (X1 (r:=Xb) 0 rfl (fun _ s=>(SC.r (SC.l s))))))))
theorem Jg : FnScope ["_law_way", "_law_size", "_law_factor", "_law_some", "_law_a"] ["_law_way", "_law_size", "_law_factor"] (Xl VQ):=⟨rfl, rfl, rfl, by decide +kernel, rfl, by decide +kernel, by decide +kernel⟩
set_option maxHeartbeats 4000000 in
theorem DF (D : Def K mg "_law_made" VQ ["_law_way", "_law_size", "_law_factor"]) (g_common : Fn P w K mg base 1 "_law_common" ["_law_one", "_law_other"] (sp2 Xb Xb (oF Xb) Zo K)) (g_cell_of : Fn P w K mg base 1 "_law_cell_of" ["_law_way", "_law_size", "_law_factor", "_law_a", "_law_b"] (sp5 Xb Xb Xb Xb Xb (oF Xb) YL K)) (Z : Blt mg) : Fn P w K mg base 2 "_law_made" ["_law_way", "_law_size", "_law_factor"] (sp3 Xb Xb Xb (oL (oL (oF Xb))) ZZ K):=by
  refine YM D Jg (fun vs H Q E h=>?_) (fun f cdv A outer s H vs Q E hr h=>?_)
  . obtain ⟨v_0, v_1, v_2, a_0, a_1, a_2, b, rfl, _⟩:=h; rfl
  obtain ⟨v_0, v_1, v_2, a_0, a_1, a_2, b, rfl, h_0, h_1, h_2, hm, q⟩:=h
  have hu:=hu8 hr
  have hu1:=YH hr
  refine ⟨_, (Xd (Ys (PW.pt (YB (Xm Y8 (pv 0) Xh (Xr _)) (YU (Xm Y8 (pv 1) Xh (Xr _)))))
      (@Xd _ _ _ _ _ (@XA _ _ _ _ (@Vv _))
      Xg)
      Xg)
    (Xd (Jy PassesOwn.never (Xm KG (X5 g_common hr (by decide) (Xc (pv 2) (Xc (pv 1) Xf))) Xh (Xr _))
      (Xd (Xy (i:=2) Jg.nd rfl (Or.inr rfl) (Xt YF (pv 2) Xh))
      Xg))
    (Xd (Xy (i:=3) Jg.nd rfl (Or.inl rfl) (X7 Xf))
    (Xd (YG PassesOwn.never rfl (XT rfl Z.b_range (Xc (pv 1) Xf)) (XO (i:=4) Jg.nd rfl (Or.inr rfl))
      (Xd (Yo (Z8 PySem.F.plainAttrs_list PySem.F.slot_list_append PySem.F.type_list_append Yg (pv 3) (Xc (Qe (sc:=(Xl VQ)) (N0:=["_law_way", "_law_size", "_law_factor", "_law_some", "_law_a"]) (tns:=["_law_b"]) (caps:=[(0, "_law_way"), (1, "_law_size"), (2, "_law_factor"), (4, "_law_a")]) rfl (XT rfl Z.b_range (Xc (pv 1) Xf)) (QF (by decide)) (fun cl C s H ex E=>⟨XO (i:=0) (show List.Nodup (["_law_b", "_law_way", "_law_size", "_law_factor", "_law_a"] : List Str) by decide +kernel) rfl (Or.inl rfl), Vm, (X5 g_cell_of hr (by decide) (Xc (pv 1) (Xc (pv 2) (Xc (pv 3) (Xc (pv 4) (Xc (pv 0) Xf))))))⟩)) Xf)))
      Xg))
    (Xd (XA (pv 3))
    Xg))))), ?_⟩
  refine YQ (S:=(SC.add (SC.add (SC.add SC.nil K Xb v_0 a_0) K Xb v_1 a_1) K Xb v_2 a_2)) (σ:=[some v_0, some v_1, some v_2, none, none]) 1 ?_ (SC.i (SC.i (SC.i SC.t h_0) h_1) h_2) hm q rfl
  unfold ZZ
  exact (YK (Ya (Xk (K:=K) (Yw (Xa (r:=Xb) 0 rfl (fun _ s=>(SC.r (SC.l (SC.l s))))) (Xe 5))) (Xk (K:=K) (Yw (Xa (r:=Xb) 1 rfl (fun _ s=>(SC.r (SC.l s)))) (Xe 4)))) (XB (K2 (Zg (Y4 (Xu (EvB.sh (Xe 0)) (Xu (EvB.sh (Xe 3)) (Xu (EvB.sh (Xe 1)) (Xu (EvB.sh (Xe 2)) Yr))))) fun _=>(Zg (Y4 (Xu (EvB.sh (Xe 2)) (Xu (EvB.sh (Xe 1)) (Xu (EvB.sh (Xe 3)) (Xu (EvB.sh (Xe 0)) Yr))))) fun _=>(Zg (Y4 (Xu (EvB.sh (Xe 3)) (Xu (EvB.sh (Xe 0)) (Xu (EvB.sh (Xe 2)) (Xu (EvB.sh (Xe 1)) Yr))))) fun _=>(Zg (Y4 (Xu (EvB.sh (Xe 1)) (Xu (EvB.sh (Xe 2)) (Xu (EvB.sh (Xe 0)) (Xu (EvB.sh (Xe 3)) Yr))))) fun _=>Ue)))))) (VZ (J:=({ oo:=fun x51=>[[]], ss:=fun x51=>[some v_0, some v_1, some x51, none, none], sc:=fun g52 x51=>(SC.add (SC.add (SC.add SC.nil K Xb v_0 a_0) K Xb v_1 a_1) K Xb x51 g52) } : Jn (Int) (V))) (a_1.natAbs + 2) (v_2) (a_2) rfl rfl (fun _ s=>(SC.i (SC.i (SC.i SC.t (SC.r (SC.l (SC.l s)))) (SC.r (SC.l s))) (SC.r s))) (fun g53 x54=>(Xk (K:=K) (JG (Ev.toB (XD (Xa (r:=Xb) 2 rfl (fun _ s=>(SC.r s))) (Xa (r:=Xb) 1 rfl (fun _ s=>(SC.r (SC.l s)))))) (Xe 1)))) (fun g53 x54=>(X6 (K:=K) (r:=Xb) 2 (EvB.sh (Ye (Xa (r:=Xb) 2 rfl (fun _ s=>(SC.r s))) (Xe 1))) fun a60 v61=>(XC (J:=_) (v61) (a60) rfl rfl (fun _ s=>(SC.i (SC.i (SC.i SC.t (SC.r (SC.l (SC.l (SC.l s))))) (SC.r (SC.l (SC.l s)))) (SC.r s)))))) fun g64 x65=>(X4 (K:=K) (o:=(oL (oL (oF Xb)))) 3 0 (QM (o:=(oL (oF Xb)))) (Nat.le_of_ble_eq_true rfl) fun a66 v67 C68=>(Zv (K:=K) (J:=({ oo:=fun x70=>[x70.2.2], ss:=fun x70=>[some v_0, some v_1, some x65, some x70.2.1, x70.1], sc:=fun g71 x70=>(SC.addO (SC.add (SC.add (SC.add SC.nil K Xb v_0 a_0) K Xb v_1 a_1) K Xb x65 g64) K (oL (oL (oF Xb))) x70.2.1 g71 x70.2.2) } : Jn ((List (List Int))) (Option V × V × List Xx))) (fun _=>tg1 4) ((none), v67, C68) (a66) (XE (Xa (r:=Xb) 1 rfl (fun _ s=>(SC.r (SC.l (SC.l s)))))) rfl rfl (fun _ s=>(SC.i (SC.i (SC.i (SC.i SC.t (SC.r (SC.l (SC.l (SC.l s))))) (SC.r (SC.l (SC.l s)))) (SC.r (SC.l s))) (SC.r s))) (fun g72 x73 a74 v75=>(ZR (K:=K) (o:=(oL (oF Xb))) (f:=fun a89=>(Res.ok (a89))) 3 0 rfl rfl rfl (fun _ s=>(SC.r (SC.l s))) (Vz (fun _=>tg1 0) (XE (Xa (r:=Xb) 1 rfl (fun _ s=>(SC.r (SC.l (SC.l (SC.l s))))))) (fun C77 a78 v79=>(V6 (Xa (r:=Xb) 1 rfl (fun _ s=>(SC.r (SC.l (SC.l (SC.l (SC.l (SC.l s)))))))) (Xa (r:=Xb) 2 rfl (fun _ s=>(SC.r (SC.l (SC.l (SC.l (SC.l s))))))) (Xa (r:=Xb) 3 rfl (fun _ s=>(SC.r (SC.l (SC.l (SC.l s)))))) (Xa (r:=Xb) 4 rfl (fun _ s=>(SC.r (SC.l s)))) (Xa (r:=Xb) 0 rfl (fun _ s=>(SC.r s)))))) fun a87 C88=>(XC (J:=_) ((some v75), x73.2.1, C88) ((g72 ++ [a87])) rfl rfl (fun _ s=>(SC.i (SC.i (SC.i (SC.i SC.t (SC.r (SC.l (SC.l (SC.l (SC.l (SC.l s))))))) (SC.r (SC.l (SC.l (SC.l (SC.l s)))))) (SC.r (SC.l (SC.l (SC.l s))))) (SC.r s)))))) fun g90 x91=>(XB (Yu (o:=(oL (oL (oF Xb)))) 3 0 rfl rfl (fun _ s=>(SC.r s))))))))
theorem Zq : FnScope ["_law_some", "_law_count", "_law_left", "_law_found", "_law_k"] ["_law_some", "_law_count"] (Xl Qq):=⟨rfl, rfl, rfl, by decide +kernel, rfl, by decide +kernel, by decide +kernel⟩
set_option maxHeartbeats 4000000 in
theorem UD (D : Def K mg "_law_ordered" Qq ["_law_some", "_law_count"])  (Z : Blt mg) : Fn P w K mg base 1 "_law_ordered" ["_law_some", "_law_count"] (sp2 (rV Xb) Xb (oL (oF Xb)) YC K):=by
  refine YM D Zq (fun vs H Q E h=>?_) (fun f cdv A outer s H vs Q E hr h=>?_)
  . obtain ⟨v_0, v_1, a_0, a_1, b, rfl, _⟩:=h; rfl
  obtain ⟨v_0, v_1, a_0, a_1, b, rfl, h_0, h_1, hm, q⟩:=h
  have hu:=hu8 hr
  have hu1:=YH hr
  refine ⟨_, (Xd (Xy (i:=2) Zq.nd rfl (Or.inl rfl) (J6 rfl rfl rfl Z.b_list Z.b_range (Xc (pv 1) Xf)))
    (Xd (Xy (i:=3) Zq.nd rfl (Or.inl rfl) (X7 Xf))
    (Xd (YG PassesOwn.never rfl (XT rfl Z.b_range (Xc (pv 1) Xf)) (XO (i:=4) Zq.nd rfl (Or.inl rfl))
      (Xd (Yo (Z8 PySem.F.plainAttrs_list PySem.F.slot_list_append PySem.F.type_list_append Yg (pv 3) (Xc (Z8 PySem.F.plainAttrs_list PySem.F.slot_list_pop PySem.F.type_list_pop GX (pv 2) (Xc (Xt Yf (XW (Xn K rfl) (pv 0) (pv 4) (fun _ _=>rfl)) (Xq (Xi K rfl) rfl Z.b_len PySem.boot_len (Xc (pv 2) Xf))) Xf)) Xf)))
      Xg))
    (Xd (XA (pv 3))
    Xg)))), ?_⟩
  refine YQ (S:=(SC.add (SC.add SC.nil K (rV Xb) v_0 a_0) K Xb v_1 a_1)) (σ:=[some v_0, some v_1, none, none, none]) 2 ?_ (SC.i (SC.i SC.t h_0) h_1) hm q rfl
  unfold YC
  exact (X4 (K:=K) (o:=(oL (oF Xb))) 2 1 (JV (Xa (r:=Xb) 1 rfl (fun _ s=>(SC.r s)))) (Nat.le_of_ble_eq_true rfl) fun a1 v2 C3=>(X4 (K:=K) (o:=(oL (oF Xb))) 3 0 (QM (o:=(oF Xb))) (Nat.le_of_ble_eq_true rfl) fun a5 v6 C7=>(Zv (K:=K) (J:=({ oo:=fun x9=>[x9.2.2.2.1, x9.2.2.2.2], ss:=fun x9=>[some v_0, some v_1, some x9.2.2.1, some x9.2.1, x9.1], sc:=fun g10 x9=>(SC.addO (SC.addO (SC.add (SC.add SC.nil K (rV Xb) v_0 a_0) K Xb v_1 a_1) K (oL (oF Xb)) x9.2.1 g10.1 x9.2.2.2.1) K (oL (oF Xb)) x9.2.2.1 g10.2 x9.2.2.2.2) } : Jn ((List Int) × (List Int)) (Option V × V × V × List Xx × List Xx))) (fun _=>tg1 4) ((none), v6, v2, C7, C3) (a5, a1) (XE (Xa (r:=Xb) 1 rfl (fun _ s=>(SC.r (SC.l (SC.l s)))))) rfl rfl (fun _ s=>(SC.i (SC.i (SC.i (SC.i SC.t (SC.r (SC.l (SC.l (SC.l s))))) (SC.r (SC.l (SC.l s)))) (SC.r s)) (SC.r (SC.l s)))) (fun g11 x12 a13 v14=>(GD (K:=K) (r:=Xb) (f:=fun a21 a22=>(Res.ok (a22, a21))) 2 1 3 0 (by decide) rfl rfl (fun _ s=>(SC.r (SC.l s))) rfl rfl (fun _ s=>(SC.r (SC.l (SC.l s)))) (XU (XI (Xa (r:=(rV Xb)) 0 rfl (fun _ s=>(SC.r (SC.l (SC.l (SC.l (SC.l s))))))) (Xa (r:=Xb) 4 rfl (fun _ s=>(SC.r s)))) (XN (Yk (o:=(oL (oF Xb))) 2 1 rfl rfl (fun _ s=>(SC.r (SC.l s)))))) fun a20 a21 C23 C24=>(XC (J:=_) ((some v14), x12.2.1, x12.2.2.1, C24, C23) ((g11.1 ++ [a20]), a21) rfl rfl (fun _ s=>(SC.i (SC.i (SC.i (SC.i SC.t (SC.r (SC.l (SC.l (SC.l (SC.l (SC.l (SC.l s)))))))) (SC.r (SC.l (SC.l (SC.l (SC.l (SC.l s))))))) (SC.r s)) (SC.r (SC.l s))))))) fun g27 x28=>(XB (Yu (o:=(oL (oF Xb))) 3 0 rfl rfl (fun _ s=>(SC.r (SC.l s))))))))
theorem ZI : FnScope ["_law_some", "_law_spots", "_law_found", "_law_a", "_law_b"] ["_law_some", "_law_spots"] (Xl Qf):=⟨rfl, rfl, rfl, by decide +kernel, rfl, by decide +kernel, by decide +kernel⟩
set_option maxHeartbeats 4000000 in
theorem KM (D : Def K mg "_law_relaid" Qf ["_law_some", "_law_spots"])  (Z : Blt mg) : Fn P w K mg base 1 "_law_relaid" ["_law_some", "_law_spots"] (sp2 (rV (rV Xb)) (rV Xb) (oL (oL (oF Xb))) Yq K):=by
  refine YM D ZI (fun vs H Q E h=>?_) (fun f cdv A outer s H vs Q E hr h=>?_)
  . obtain ⟨v_0, v_1, a_0, a_1, b, rfl, _⟩:=h; rfl
  obtain ⟨v_0, v_1, a_0, a_1, b, rfl, h_0, h_1, hm, q⟩:=h
  have hu:=hu8 hr
  have hu1:=YH hr
  refine ⟨_, (Xd (FR 2 (Xl Qf) ["_law_some", "_law_spots", "_law_found", "_law_a", "_law_b"] ["_law_line"] [] rfl ZI.nd rfl rfl (Zr (K:=K) rfl (pv 0)) (QF (by decide)) (fun cl C s H ex E=>⟨XO (i:=0) (show List.Nodup (["_law_line"] : List Str) by decide +kernel) rfl (Or.inl rfl), Vm, (QH (Y0 K rfl) rfl Z.b_list PyProof.Rows.boot_list (Xc (pv 0) Xf))⟩))
    (Xd (YG PassesOwn.never rfl (XT rfl Z.b_range (Xc (Xq (Xi K rfl) rfl Z.b_len PySem.boot_len (Xc (pv 0) Xf)) Xf)) (XO (i:=3) ZI.nd rfl (Or.inl rfl))
      (Xd (YG PassesOwn.never rfl (XT rfl Z.b_range (Xc (Xq (Xi K rfl) rfl Z.b_len PySem.boot_len (Xc (pv 0) Xf)) Xf)) (XO (i:=4) ZI.nd rfl (Or.inl rfl))
        (Xd (Fx (XW (Xn K rfl) (pv 1) (XW (Xn K rfl) (XW (Xn K rfl) (pv 0) (pv 3) (fun _ _=>rfl)) (pv 4) (fun _ _=>rfl)) (fun _ _=>rfl)) (C9 (XW (Xn K rfl) (pv 2) (XW (Xn K rfl) (pv 1) (pv 3) (fun _ _=>rfl)) (fun _ _=>rfl)) (XW (Xn K rfl) (pv 1) (pv 4) (fun _ _=>rfl)) G4))
        Xg))
      Xg))
    (Xd (XA (pv 2))
    Xg))), ?_⟩
  refine YQ (S:=(SC.add (SC.add SC.nil K (rV (rV Xb)) v_0 a_0) K (rV Xb) v_1 a_1)) (σ:=[some v_0, some v_1, none, none, none]) 1 ?_ (SC.i (SC.i SC.t h_0) h_1) hm q rfl
  unfold Yq
  exact (X4 (K:=K) (o:=(oL (oL (oF Xb)))) 2 0 (Vz (fun _=>tg1 0) (ZL (X1 (r:=(rV (rV Xb))) 0 rfl (fun _ s=>(SC.r (SC.l s))))) (fun C4 a5 v6=>(K6 (EvS.ls (X1 (r:=(rV Xb)) 0 rfl (fun _ s=>(SC.r s))))))) (Nat.le_of_ble_eq_true rfl) fun a1 v2 C3=>(Zv (K:=K) (J:=({ oo:=fun x11=>[x11.2.2.2], ss:=fun x11=>[some v_0, some v_1, some x11.2.2.1, x11.1, x11.2.1], sc:=fun g12 x11=>(SC.addO (SC.add (SC.add SC.nil K (rV (rV Xb)) v_0 a_0) K (rV Xb) v_1 a_1) K (oL (oL (oF Xb))) x11.2.2.1 g12 x11.2.2.2) } : Jn ((List (List Int))) (Option V × Option V × V × List Xx))) (fun _=>tg1 3) ((none), (none), v2, C3) (a1) (XE (XN (Xa (r:=(rV (rV Xb))) 0 rfl (fun _ s=>(SC.r (SC.l (SC.l s))))))) rfl rfl (fun _ s=>(SC.i (SC.i (SC.i SC.t (SC.r (SC.l (SC.l s)))) (SC.r (SC.l s))) (SC.r s))) (fun g13 x14 a15 v16=>(Zv (K:=K) (J:=({ oo:=fun x19=>[x19.2.2], ss:=fun x19=>[some v_0, some v_1, some x19.2.1, some v16, x19.1], sc:=fun g20 x19=>(SC.addO (SC.add (SC.add (SC.add SC.nil K (rV (rV Xb)) v_0 a_0) K (rV Xb) v_1 a_1) K Xb v16 a15) K (oL (oL (oF Xb))) x19.2.1 g20 x19.2.2) } : Jn ((List (List Int))) (Option V × V × List Xx))) (fun _=>tg1 4) ((x14.2.1), x14.2.2.1, x14.2.2.2) (g13) (XE (XN (Xa (r:=(rV (rV Xb))) 0 rfl (fun _ s=>(SC.r (SC.l (SC.l (SC.l s)))))))) rfl rfl (fun _ s=>(SC.i (SC.i (SC.i (SC.i SC.t (SC.r (SC.l (SC.l (SC.l s))))) (SC.r (SC.l (SC.l s)))) (SC.r s)) (SC.r (SC.l s)))) (fun g21 x22 a23 v24=>(Kq (K:=K) (r:=Xb) 2 0 rfl rfl (fun _ s=>(SC.r (SC.l s))) (EvB.sh (XI (Xa (r:=(rV Xb)) 1 rfl (fun _ s=>(SC.r (SC.l (SC.l (SC.l s)))))) (XI (XI (Xa (r:=(rV (rV Xb))) 0 rfl (fun _ s=>(SC.r (SC.l (SC.l (SC.l (SC.l s))))))) (Xa (r:=Xb) 3 rfl (fun _ s=>(SC.r (SC.l (SC.l s)))))) (Xa (r:=Xb) 4 rfl (fun _ s=>(SC.r s)))))) (XI (Xa (r:=(rV Xb)) 1 rfl (fun _ s=>(SC.r (SC.l (SC.l (SC.l s)))))) (Xa (r:=Xb) 3 rfl (fun _ s=>(SC.r (SC.l (SC.l s)))))) (XI (Xa (r:=(rV Xb)) 1 rfl (fun _ s=>(SC.r (SC.l (SC.l (SC.l s)))))) (Xa (r:=Xb) 4 rfl (fun _ s=>(SC.r s)))) fun a38 C39=>(XC (J:=_) ((some v24), x22.2.1, C39) (a38) rfl rfl (fun _ s=>(SC.i (SC.i (SC.i (SC.i SC.t (SC.r (SC.l (SC.l (SC.l (SC.l (SC.l s))))))) (SC.r (SC.l (SC.l (SC.l (SC.l s)))))) (SC.r (SC.l (SC.l (SC.l s))))) (SC.r s)))))) fun g42 x43=>(XC (J:=_) ((some v16), (x43.1), x43.2.1, x43.2.2) (g42) rfl rfl (fun _ s=>(SC.i (SC.i (SC.i SC.t (SC.r (SC.l (SC.l (SC.l s))))) (SC.r (SC.l (SC.l s)))) (SC.r s)))))) fun g45 x46=>(XB (Yu (o:=(oL (oL (oF Xb)))) 2 0 rfl rfl (fun _ s=>(SC.r s))))))
theorem Qg : FnScope ["_law_script", "_law_place", "_law_most", "_law_some", "_law_size", "_law_found"] ["_law_script", "_law_place", "_law_most"] (Xl Vu):=⟨rfl, rfl, rfl, by decide +kernel, rfl, by decide +kernel, by decide +kernel⟩
set_option maxHeartbeats 4000000 in
theorem Fe (D : Def K mg "_law_table" Vu ["_law_script", "_law_place", "_law_most"]) (g_row : Fn P w K mg base 2 "_law_row" ["_law_script", "_law_place", "_law_sizes"] (sp3 (rL Xb) Xb (rV Xb) (oL (oF Xb)) Qu K)) (g_made : Fn P w K mg base 2 "_law_made" ["_law_way", "_law_size", "_law_factor"] (sp3 Xb Xb Xb (oL (oL (oF Xb))) ZZ K)) (g_relaid : Fn P w K mg base 1 "_law_relaid" ["_law_some", "_law_spots"] (sp2 (rV (rV Xb)) (rV Xb) (oL (oL (oF Xb))) Yq K)) (g_ordered : Fn P w K mg base 1 "_law_ordered" ["_law_some", "_law_count"] (sp2 (rV Xb) Xb (oL (oF Xb)) YC K)) (Z : Blt mg) : Fn P w K mg base 3 "_law_table" ["_law_script", "_law_place", "_law_most"] (sp3 (rL Xb) Xb Xb (oL (oL (oF Xb))) ZB K):=by
  refine YM D Qg (fun vs H Q E h=>?_) (fun f cdv A outer s H vs Q E hr h=>?_)
  . obtain ⟨v_0, v_1, v_2, a_0, a_1, a_2, b, rfl, _⟩:=h; rfl
  obtain ⟨v_0, v_1, v_2, a_0, a_1, a_2, b, rfl, h_0, h_1, h_2, hm, q⟩:=h
  have hu:=hu8 hr
  have hu1:=YH hr
  refine ⟨_, (Xd (Xy (i:=3) Qg.nd rfl (Or.inl rfl) (X5 g_row hr (by decide) (Xc (pv 0) (Xc (pv 1) (Xc (Xt Kl (X7 (Xc Xh (Xc Xh (Xc Xh (Xc Xh Xf))))) (Xt Ft (X7 (Xc Xh Xf)) Xh)) Xf)))))
    (Xd (Xy (i:=4) Qg.nd rfl (Or.inl rfl) (Xt YF Xh (Xt Yf (XW (Xn K rfl) (pv 3) Xh (fun _ _=>rfl)) (pv 2))))
    (Xd (Xy (i:=5) Qg.nd rfl (Or.inl rfl) (X5 g_made hr (by decide) (Xc (XW (Xn K rfl) (pv 3) Xh (fun _ _=>rfl)) (Xc (pv 4) (Xc (Xt YF Xh (XW (Xn K rfl) (pv 3) Xh (fun _ _=>rfl))) Xf)))))
    (Xd (Ys (Xm Y8 (XW (Xn K rfl) (pv 3) Xh (fun _ _=>rfl)) Xh (Xr _))
      (Xd (XA (pv 5))
      Xg)
      Xg)
    (Xd (XA (X5 g_relaid hr (by decide) (Xc (pv 5) (Xc (X5 g_ordered hr (by decide) (Xc (Je (Jh K rfl) (pv 3) (Vl Xh) VJ) (Xc (pv 4) Xf))) Xf))))
    Xg))))), ?_⟩
  refine YQ (S:=(SC.add (SC.add (SC.add SC.nil K (rL Xb) v_0 a_0) K Xb v_1 a_1) K Xb v_2 a_2)) (σ:=[some v_0, some v_1, some v_2, none, none, none]) 1 ?_ (SC.i (SC.i (SC.i SC.t h_0) h_1) h_2) hm q rfl
  unfold ZB
  exact (X6 (K:=K) (r:=(rV Xb)) 3 (Ev.sh (YA (Xa (r:=(rL Xb)) 0 rfl (fun _ s=>(SC.r (SC.l (SC.l s))))) (Xa (r:=Xb) 1 rfl (fun _ s=>(SC.r (SC.l s)))) (Ev.toB (Kf (Ev.ls (Y4 (Xu (EvB.sh (Xe 7)) (Xu (EvB.sh (Xe 24)) (Xu (EvB.sh (Xe 6)) (Xu (EvB.sh (Xe 2)) Yr)))))) (Ev.ls (Fi (Ev.ls (Y4 (Xu (EvB.sh (Xe 24)) Yr))) (Xe 24))))))) fun a1 v2=>(X6 (K:=K) (r:=Xb) 4 (EvB.sh (Ye (Xe 1) (XU (XI (Xa (r:=(rV Xb)) 3 rfl (fun _ s=>(SC.r s))) (Xe 1)) (Xa (r:=Xb) 2 rfl (fun _ s=>(SC.r (SC.l s))))))) fun a23 v24=>(X4 (K:=K) (o:=(oL (oL (oF Xb)))) 5 0 (YA (XI (Xa (r:=(rV Xb)) 3 rfl (fun _ s=>(SC.r (SC.l s)))) (Xe 0)) (Xa (r:=Xb) 4 rfl (fun _ s=>(SC.r s))) (Ye (Xe 2) (XI (Xa (r:=(rV Xb)) 3 rfl (fun _ s=>(SC.r (SC.l s)))) (Xe 2)))) (Nat.le_of_ble_eq_true rfl) fun a31 v32 C33=>(YK (Xk (K:=K) (Yw (XI (Xa (r:=(rV Xb)) 3 rfl (fun _ s=>(SC.r (SC.l (SC.l s))))) (Xe 3)) (Xe 0))) (XB (Yu (o:=(oL (oL (oF Xb)))) 5 0 rfl rfl (fun _ s=>(SC.r s)))) (XB (XD (Yk (o:=(oL (oL (oF Xb)))) 5 0 rfl rfl (fun _ s=>(SC.r s))) (Ev.toB (XD (Ev.toB (V8 (EvS.ls (X1 (r:=(rV Xb)) 3 rfl (fun _ s=>(SC.r (SC.l (SC.l s)))))) (Jo (K:=K) (Xe 4)) Jv)) (Xa (r:=Xb) 4 rfl (fun _ s=>(SC.r (SC.l s))))))))))))
theorem Zm : FnScope ["_law_one", "_law_other", "_law_images", "_law_count", "_law_a", "_law_b", "_law_met"] ["_law_one", "_law_other", "_law_images"] (Xl Jl):=⟨rfl, rfl, rfl, by decide +kernel, rfl, by decide +kernel, by decide +kernel⟩
set_option maxHeartbeats 4000000 in
theorem UX (D : Def K mg "_law_stands" Jl ["_law_one", "_law_other", "_law_images"])  (Z : Blt mg) : Fn P w K mg base 1 "_law_stands" ["_law_one", "_law_other", "_law_images"] (sp3 (rV (rV Xb)) (rV (rV Xb)) (rV Xb) (oF Yc) Zp K):=by
  refine YM D Zm (fun vs H Q E h=>?_) (fun f cdv A outer s H vs Q E hr h=>?_)
  . obtain ⟨v_0, v_1, v_2, a_0, a_1, a_2, b, rfl, _⟩:=h; rfl
  obtain ⟨v_0, v_1, v_2, a_0, a_1, a_2, b, rfl, h_0, h_1, h_2, hm, q⟩:=h
  have hu:=hu8 hr
  have hu1:=YH hr
  refine ⟨_, (Xd (Xy (i:=3) Zm.nd rfl (Or.inl rfl) (Xq (Xi K rfl) rfl Z.b_len PySem.boot_len (Xc (pv 2) Xf)))
    (Xd (YG PassesOwn.never rfl (XT rfl Z.b_range (Xc (pv 3) Xf)) (XO (i:=4) Zm.nd rfl (Or.inl rfl))
      (Xd (YG PassesOwn.never rfl (XT rfl Z.b_range (Xc (pv 3) Xf)) (XO (i:=5) Zm.nd rfl (Or.inl rfl))
        (Xd (Xy (i:=6) Zm.nd rfl (Or.inl rfl) (XW (Xn K rfl) (XW (Xn K rfl) (pv 0) (pv 4) (fun _ _=>rfl)) (pv 5) (fun _ _=>rfl)))
        (Xd (Ys (PW.pt (YB (Xm QE (pv 6) (pv 3) (Xr _)) (YU (Xm KG (XW (Xn K rfl) (XW (Xn K rfl) (pv 1) (XW (Xn K rfl) (pv 2) (pv 4) (fun _ _=>rfl)) (fun _ _=>rfl)) (XW (Xn K rfl) (pv 2) (pv 5) (fun _ _=>rfl)) (fun _ _=>rfl)) (XW (Xn K rfl) (pv 2) (pv 6) (fun _ _=>rfl)) (Xr _)))))
          (Xd (XA UF)
          Xg)
          Xg)
        Xg)))
      Xg))
    (Xd (XA UF)
    Xg))), ?_⟩
  refine YQ (S:=(SC.add (SC.add (SC.add SC.nil K (rV (rV Xb)) v_0 a_0) K (rV (rV Xb)) v_1 a_1) K (rV Xb) v_2 a_2)) (σ:=[some v_0, some v_1, some v_2, none, none, none, none]) 0 ?_ (SC.i (SC.i (SC.i SC.t h_0) h_1) h_2) hm q rfl
  unfold Zp
  exact (X6 (K:=K) (r:=Xb) 3 (EvB.sh (XN (Xa (r:=(rV Xb)) 2 rfl (fun _ s=>(SC.r s))))) fun a1 v2=>(Gj (K:=K) (J:=({ oo:=fun x5=>[], ss:=fun x5=>[some v_0, some v_1, some v_2, some v2, x5.1, x5.2.1, x5.2.2], sc:=fun g6 x5=>(SC.add (SC.add (SC.add (SC.add SC.nil K (rV (rV Xb)) v_0 a_0) K (rV (rV Xb)) v_1 a_1) K (rV Xb) v_2 a_2) K Xb v2 a1) } : Jn (Unit) (Option V × Option V × Option V))) (fun _=>tg1 4) ((none), (none), (none)) () (XE (Xa (r:=Xb) 3 rfl (fun _ s=>(SC.r s)))) rfl rfl (fun _ s=>(SC.i (SC.i (SC.i (SC.i SC.t (SC.r (SC.l (SC.l (SC.l s))))) (SC.r (SC.l (SC.l s)))) (SC.r (SC.l s))) (SC.r s))) (fun g7 x8 a9 v10=>(Uf (K:=K) (J:=({ oo:=fun x12=>[], ss:=fun x12=>[some v_0, some v_1, some v_2, some v2, some v10, x12.1, x12.2], sc:=fun g13 x12=>(SC.add (SC.add (SC.add (SC.add (SC.add SC.nil K (rV (rV Xb)) v_0 a_0) K (rV (rV Xb)) v_1 a_1) K (rV Xb) v_2 a_2) K Xb v2 a1) K Xb v10 a9) } : Jn (Unit) (Option V × Option V))) (fun _=>tg1 5) ((x8.2.1), (x8.2.2)) () (XE (Xa (r:=Xb) 3 rfl (fun _ s=>(SC.r (SC.l s))))) rfl rfl (fun _ s=>(SC.i (SC.i (SC.i (SC.i (SC.i SC.t (SC.r (SC.l (SC.l (SC.l (SC.l s)))))) (SC.r (SC.l (SC.l (SC.l s))))) (SC.r (SC.l (SC.l s)))) (SC.r (SC.l s))) (SC.r s))) (fun g14 x15 a16 v17=>(X6 (K:=K) (r:=Xb) 6 (EvB.sh (XI (XI (Xa (r:=(rV (rV Xb))) 0 rfl (fun _ s=>(SC.r (SC.l (SC.l (SC.l (SC.l (SC.l s)))))))) (Xa (r:=Xb) 4 rfl (fun _ s=>(SC.r (SC.l s))))) (Xa (r:=Xb) 5 rfl (fun _ s=>(SC.r s))))) fun a18 v19=>(Vt (Ya (Xk (K:=K) (Zf (Xa (r:=Xb) 6 rfl (fun _ s=>(SC.r s))) (Xa (r:=Xb) 3 rfl (fun _ s=>(SC.r (SC.l (SC.l (SC.l s)))))))) (Xk (K:=K) (JG (XI (XI (Xa (r:=(rV (rV Xb))) 1 rfl (fun _ s=>(SC.r (SC.l (SC.l (SC.l (SC.l (SC.l s)))))))) (XI (Xa (r:=(rV Xb)) 2 rfl (fun _ s=>(SC.r (SC.l (SC.l (SC.l (SC.l s))))))) (Xa (r:=Xb) 4 rfl (fun _ s=>(SC.r (SC.l (SC.l s))))))) (XI (Xa (r:=(rV Xb)) 2 rfl (fun _ s=>(SC.r (SC.l (SC.l (SC.l (SC.l s))))))) (Xa (r:=Xb) 5 rfl (fun _ s=>(SC.r (SC.l s)))))) (XI (Xa (r:=(rV Xb)) 2 rfl (fun _ s=>(SC.r (SC.l (SC.l (SC.l (SC.l s))))))) (Xa (r:=Xb) 6 rfl (fun _ s=>(SC.r s))))))) (XB (EvS.ev (EvB.sh (QS false)))) (ZK (XC (J:=_) ((some v17), (some v19)) () rfl rfl (fun _ s=>(SC.i (SC.i (SC.i (SC.i (SC.i SC.t (SC.r (SC.l (SC.l (SC.l (SC.l (SC.l (SC.l s)))))))) (SC.r (SC.l (SC.l (SC.l (SC.l (SC.l s))))))) (SC.r (SC.l (SC.l (SC.l (SC.l s)))))) (SC.r (SC.l (SC.l (SC.l s))))) (SC.r (SC.l (SC.l s)))))))))) fun g41 x42=>(ZK (XC (J:=_) ((some v10), (x42.1), (x42.2)) () rfl rfl (fun _ s=>(SC.i (SC.i (SC.i (SC.i SC.t (SC.r (SC.l (SC.l (SC.l (SC.l s)))))) (SC.r (SC.l (SC.l (SC.l s))))) (SC.r (SC.l (SC.l s)))) (SC.r (SC.l s)))))))) fun g45 x46=>(XB (EvS.ev (EvB.sh (QS true))))))
theorem U0 : FnScope ["_law_images", "_law_size"] ["_law_images", "_law_size"] (Xl Qb):=⟨rfl, rfl, rfl, by decide +kernel, rfl, by decide +kernel, by decide +kernel⟩
set_option maxHeartbeats 4000000 in
theorem Km (D : Def K mg "_law_longer" Qb ["_law_images", "_law_size"])  (Z : Blt mg) : Fn P w K mg base 1 "_law_longer" ["_law_images", "_law_size"] (sp2 (rV Xb) Xb (oL (oL (oF Xb))) Zs K):=by
  refine YM D U0 (fun vs H Q E h=>?_) (fun f cdv A outer s H vs Q E hr h=>?_)
  . obtain ⟨v_0, v_1, a_0, a_1, b, rfl, _⟩:=h; rfl
  obtain ⟨v_0, v_1, a_0, a_1, b, rfl, h_0, h_1, hm, q⟩:=h
  have hu:=hu8 hr
  have hu1:=YH hr
  refine ⟨_, (Xd (XA (Qe (sc:=(Xl Qb)) (N0:=["_law_images", "_law_size"]) (tns:=["_law_colour"]) (caps:=[(0, "_law_images")]) rfl (XT rfl Z.b_range (Xc (pv 1) Xf)) (QF (by decide)) (fun cl C s H ex E=>⟨XO (i:=0) (show List.Nodup (["_law_colour", "_law_images"] : List Str) by decide +kernel) rfl (Or.inl rfl), (KN (Xm (ZJ K rfl) (pv 0) (pv 1) rfl)), (Xt Kl (pv 1) (X7 (Xc (pv 0) Xf)))⟩)))
    Xg), ?_⟩
  refine YQ (S:=(SC.add (SC.add SC.nil K (rV Xb) v_0 a_0) K Xb v_1 a_1)) (σ:=[some v_0, some v_1]) 0 ?_ (SC.i (SC.i SC.t h_0) h_1) hm q rfl
  unfold Zs
  exact (XB (Ur (fun _=>tg1 0) (XE (Xa (r:=Xb) 1 rfl (fun _ s=>(SC.r s)))) (fun C2 a3 v4=>(Xk (K:=K) (Dw (Xa (r:=Xb) 0 rfl (fun _ s=>(SC.r s))) (Xa (r:=(rV Xb)) 1 rfl (fun _ s=>(SC.r (SC.l (SC.l s)))))))) (fun C2 a3 v4=>(Kf (EvS.ls (X1 (r:=(rV Xb)) 1 rfl (fun _ s=>(SC.r (SC.l (SC.l s)))))) (Ev.ls (Y4 (Xu (X1 (r:=Xb) 0 rfl (fun _ s=>(SC.r s))) Yr)))))))
theorem Y2 : FnScope ["_law_one", "_law_other", "_law_found", "_law_k", "_law_standing", "_law_images", "_law_longer_here"] ["_law_one", "_law_other"] (Xl VF):=⟨rfl, rfl, rfl, by decide +kernel, rfl, by decide +kernel, by decide +kernel⟩
set_option maxHeartbeats 4000000 in
theorem GC (D : Def K mg "_law_every" VF ["_law_one", "_law_other"]) (g_longer : Fn P w K mg base 1 "_law_longer" ["_law_images", "_law_size"] (sp2 (rV Xb) Xb (oL (oL (oF Xb))) Zs K)) (g_stands : Fn P w K mg base 1 "_law_stands" ["_law_one", "_law_other", "_law_images"] (sp3 (rV (rV Xb)) (rV (rV Xb)) (rV Xb) (oF Yc) Zp K)) (Z : Blt mg) : Fn P w K mg base 2 "_law_every" ["_law_one", "_law_other"] (sp2 (rV (rV Xb)) (rV (rV Xb)) (oL (oL (oF Xb))) Zk K):=by
  refine YM D Y2 (fun vs H Q E h=>?_) (fun f cdv A outer s H vs Q E hr h=>?_)
  . obtain ⟨v_0, v_1, a_0, a_1, b, rfl, _⟩:=h; rfl
  obtain ⟨v_0, v_1, a_0, a_1, b, rfl, h_0, h_1, hm, q⟩:=h
  have hu:=hu8 hr
  have hu1:=YH hr
  refine ⟨_, (Xd (Ys (Xm KG (Xq (Xi K rfl) rfl Z.b_len PySem.boot_len (Xc (pv 0) Xf)) (Xq (Xi K rfl) rfl Z.b_len PySem.boot_len (Xc (pv 1) Xf)) (Xr _))
      (Xd (XA (X7 Xf))
      Xg)
      Xg)
    (Xd (Xy (i:=2) Y2.nd rfl (Or.inl rfl) (X7 (Xc (X7 Xf) Xf ZQ)))
    (Xd (YG PassesOwn.never rfl (XT rfl Z.b_range (Xc (Xq (Xi K rfl) rfl Z.b_len PySem.boot_len (Xc (pv 0) Xf)) Xf)) (XO (i:=3) Y2.nd rfl (Or.inl rfl))
      (Xd (Xy (i:=4) Y2.nd rfl (Or.inl rfl) (X7 Xf))
      (Xd (YG PassesOwn.never rfl (Zr (K:=K) rfl (pv 2)) (XO (i:=5) Y2.nd rfl (Or.inl rfl))
        (Xd (YG PassesOwn.never rfl (Zr (K:=K) rfl (X5 g_longer hr (by decide) (Xc (pv 5) (Xc (Xq (Xi K rfl) rfl Z.b_len PySem.boot_len (Xc (pv 0) Xf)) Xf)))) (XO (i:=6) Y2.nd rfl (Or.inl rfl))
          (Xd (Ys (JH (X5 g_stands hr (by decide) (Xc (pv 0) (Xc (pv 1) (Xc (pv 6) Xf)))))
            (Xd (Yo (Z8 PySem.F.plainAttrs_list PySem.F.slot_list_append PySem.F.type_list_append Yg (pv 4) (Xc (pv 6) Xf)))
            Xg)
            Xg)
          Xg))
        Xg))
      (Xd (Xy (i:=2) Y2.nd rfl (Or.inl rfl) (pv 4))
      Xg))))
    (Xd (XA (pv 2))
    Xg)))), ?_⟩
  refine YQ (S:=(SC.add (SC.add SC.nil K (rV (rV Xb)) v_0 a_0) K (rV (rV Xb)) v_1 a_1)) (σ:=[some v_0, some v_1, none, none, none, none, none]) 4 ?_ (SC.i (SC.i SC.t h_0) h_1) hm q rfl
  unfold Zk
  exact (YK (Xk (K:=K) (JG (XN (Xa (r:=(rV (rV Xb))) 0 rfl (fun _ s=>(SC.r (SC.l s))))) (XN (Xa (r:=(rV (rV Xb))) 1 rfl (fun _ s=>(SC.r s)))))) (XB (QM (o:=(oL (oF Xb))))) (X4 (K:=K) (o:=(oL (oL (oF Xb)))) 2 0 (K2 (Zg (QM (o:=(oF Xb))) fun _=>Ue)) (Nat.le_of_ble_eq_true rfl) fun a6 v7 C8=>(Zv (K:=K) (J:=({ oo:=fun x14=>[x14.2.2.2.2.2, [], [], []], ss:=fun x14=>[some v_0, some v_1, some x14.2.2.2.1, x14.1, x14.2.1, x14.2.2.1, x14.2.2.2.2.1], sc:=fun g15 x14=>(SC.addO (SC.add (SC.add SC.nil K (rV (rV Xb)) v_0 a_0) K (rV (rV Xb)) v_1 a_1) K (oL (oL (oF Xb))) x14.2.2.2.1 g15 x14.2.2.2.2.2) } : Jn ((List (List Int))) (Option V × Option V × Option V × V × Option V × List Xx))) (fun _=>tg1 3) ((none), (none), (none), v7, (none), C8) (a6) (XE (XN (Xa (r:=(rV (rV Xb))) 0 rfl (fun _ s=>(SC.r (SC.l (SC.l s))))))) rfl rfl (fun _ s=>(SC.i (SC.i (SC.i SC.t (SC.r (SC.l (SC.l s)))) (SC.r (SC.l s))) (SC.r s))) (fun g16 x17 a18 v19=>(X4 (K:=K) (o:=(oL (oL (oF Xb)))) 4 1 (QM (o:=(oL (oF Xb)))) (Nat.le_of_ble_eq_true rfl) fun a20 v21 C22=>(Cy (K:=K) (o:=(oL (oL (oF Xb)))) 0 rfl (fun _ s=>(SC.r (SC.l (SC.l s)))) (Zv (K:=K) (J:=({ oo:=fun x23=>[[], x23.2.2.2, [], []], ss:=fun x23=>[some v_0, some v_1, some x17.2.2.2.1, some v19, some x23.2.2.1, x23.1, x23.2.1], sc:=fun g24 x23=>(SC.addO (SC.add (SC.add (SC.add (SC.add SC.nil K (rV (rV Xb)) v_0 a_0) K (rV (rV Xb)) v_1 a_1) K (rV (rV Xb)) x17.2.2.2.1 g16) K Xb v19 a18) K (oL (oL (oF Xb))) x23.2.2.1 g24 x23.2.2.2) } : Jn ((List (List Int))) (Option V × Option V × V × List Xx))) (fun _=>tg1 5) ((x17.2.2.1), (x17.2.2.2.2.1), v21, C22) (a20) (ZL (X1 (r:=(rV (rV Xb))) 2 rfl (fun _ s=>(SC.r s)))) rfl rfl (fun _ s=>(SC.i (SC.i (SC.i (SC.i (SC.i SC.t (SC.r (SC.l (SC.l (SC.l (SC.l (SC.l s))))))) (SC.r (SC.l (SC.l (SC.l (SC.l s)))))) (SC.r s)) (SC.r (SC.l (SC.l s)))) (SC.r (SC.l s)))) (fun g25 x26 a27 v28=>(Dt (K:=K) (o:=(oL (oF Xb))) (J:=({ oo:=fun x33=>[[], x33.2.2, [], []], ss:=fun x33=>[some v_0, some v_1, some x17.2.2.2.1, some v19, some x33.2.1, some v28, x33.1], sc:=fun g34 x33=>(SC.addO (SC.add (SC.add (SC.add (SC.add (SC.add SC.nil K (rV (rV Xb)) v_0 a_0) K (rV (rV Xb)) v_1 a_1) K (rV (rV Xb)) x17.2.2.2.1 g16) K Xb v19 a18) K (rV Xb) v28 a27) K (oL (oL (oF Xb))) x33.2.1 g34 x33.2.2) } : Jn ((List (List Int))) (Option V × V × List Xx))) 2 3 6 ((x26.2.1), x26.2.2.1, x26.2.2.2) (g25) (XD (Xa (r:=(rV Xb)) 5 rfl (fun _ s=>(SC.r s))) (XN (Xa (r:=(rV (rV Xb))) 0 rfl (fun _ s=>(SC.r (SC.l (SC.l (SC.l (SC.l (SC.l s)))))))))) rfl rfl (fun _ s=>(SC.i (SC.i (SC.i (SC.i (SC.i (SC.i SC.t (SC.r (SC.l (SC.l (SC.l (SC.l (SC.l s))))))) (SC.r (SC.l (SC.l (SC.l (SC.l s)))))) (SC.r (SC.l (SC.l (SC.l s))))) (SC.r (SC.l (SC.l s)))) (SC.r s)) (SC.r (SC.l s)))) (fun _=>rfl) (fun _=>rfl) (by decide) (fun R40 g35 x36 a37 v38 C39=>(Zh (J:=({ oo:=fun x46=>[[], x46.2.2, [], R40], ss:=fun x46=>[some v_0, some v_1, some x17.2.2.2.1, some v19, some x46.1, some v28, x46.2.1], sc:=fun g47 x46=>(SC.addO (SC.add (SC.add (SC.add (SC.add (SC.add SC.nil K (rV (rV Xb)) v_0 a_0) K (rV (rV Xb)) v_1 a_1) K (rV (rV Xb)) x17.2.2.2.1 g16) K Xb v19 a18) K (rV Xb) v28 a27) K (oL (oL (oF Xb))) x46.1 g47 x46.2.2) } : Jn ((List (List Int))) (V × Option V × List Xx))) (Zu (Fd:=FNd ({ oo:=fun x46=>[[], x46.2.2, [], R40], ss:=fun x46=>[some v_0, some v_1, some x17.2.2.2.1, some v19, some x46.1, some v28, x46.2.1], sc:=fun g47 x46=>(SC.addO (SC.add (SC.add (SC.add (SC.add (SC.add SC.nil K (rV (rV Xb)) v_0 a_0) K (rV (rV Xb)) v_1 a_1) K (rV (rV Xb)) x17.2.2.2.1 g16) K Xb v19 a18) K (rV Xb) v28 a27) K (oL (oL (oF Xb))) x46.1 g47 x46.2.2) } : Jn ((List (List Int))) (V × Option V × List Xx))) (UL (K:=K) (Ev.toB (YA (Xa (r:=(rV (rV Xb))) 0 rfl (fun _ s=>(SC.r (SC.l (SC.l (SC.l (SC.l (SC.l (SC.l s))))))))) (Xa (r:=(rV (rV Xb))) 1 rfl (fun _ s=>(SC.r (SC.l (SC.l (SC.l (SC.l (SC.l s)))))))) (Yk (o:=(oL (oF Xb))) 6 2 rfl rfl (fun _ s=>(SC.r s)))))) (ZR (K:=K) (o:=(oL (oF Xb))) (f:=fun a50=>(Res.ok (a50))) 4 1 rfl rfl rfl (fun _ s=>(SC.r (SC.l s))) (Yu (o:=(oL (oF Xb))) 6 2 rfl rfl (fun _ s=>(SC.r s))) fun a48 C49=>(XC (J:=_) (x36.2.1, (some v38), C49) ((g35 ++ [a48])) rfl rfl (fun _ s=>(SC.i (SC.i (SC.i (SC.i (SC.i (SC.i SC.t (SC.r (SC.l (SC.l (SC.l (SC.l (SC.l (SC.l (SC.l s))))))))) (SC.r (SC.l (SC.l (SC.l (SC.l (SC.l (SC.l s)))))))) (SC.r (SC.l (SC.l (SC.l (SC.l (SC.l s))))))) (SC.r (SC.l (SC.l (SC.l (SC.l s)))))) (SC.r (SC.l (SC.l (SC.l s))))) (SC.r s))))) (FY 2 (XC (J:=_) (x36.2.1, (some v38), x36.2.2) (g35) rfl rfl (fun _ s=>(SC.i (SC.i (SC.i (SC.i (SC.i (SC.i SC.t (SC.r (SC.l (SC.l (SC.l (SC.l (SC.l (SC.l s)))))))) (SC.r (SC.l (SC.l (SC.l (SC.l (SC.l s))))))) (SC.r (SC.l (SC.l (SC.l (SC.l s)))))) (SC.r (SC.l (SC.l (SC.l s))))) (SC.r (SC.l (SC.l s)))) (SC.r (SC.l s))))))) fun g52 x51=>(XC (J:=_) ((x51.2.1), x51.1, x51.2.2) (g52) rfl rfl (fun _ s=>(SC.i (SC.i (SC.i (SC.i (SC.i (SC.i SC.t (SC.r (SC.l (SC.l (SC.l (SC.l (SC.l s))))))) (SC.r (SC.l (SC.l (SC.l (SC.l s)))))) (SC.r (SC.l (SC.l (SC.l s))))) (SC.r (SC.l (SC.l s)))) (SC.r (SC.l s))) (SC.r s)))))) fun g53 x54=>(XC (J:=_) ((some v28), (x54.1), x54.2.1, x54.2.2) (g53) rfl rfl (fun _ s=>(SC.i (SC.i (SC.i (SC.i (SC.i SC.t (SC.r (SC.l (SC.l (SC.l (SC.l (SC.l s))))))) (SC.r (SC.l (SC.l (SC.l (SC.l s)))))) (SC.r (SC.l (SC.l (SC.l s))))) (SC.r (SC.l (SC.l s)))) (SC.r s)))))) fun g56 x57=>(X4 (K:=K) (o:=(oL (oL (oF Xb)))) 2 0 (Yu (o:=(oL (oL (oF Xb)))) 4 1 rfl rfl (fun _ s=>(SC.r s))) (Nat.le_of_ble_eq_true rfl) fun a58 v59 C60=>(XC (J:=_) ((some v19), (some x57.2.2.1), (x57.1), v59, (x57.2.1), C60) (a58) rfl rfl (fun _ s=>(SC.i (SC.i (SC.i SC.t (SC.r (SC.l (SC.l (SC.l (SC.l (SC.l s))))))) (SC.r (SC.l (SC.l (SC.l (SC.l s)))))) (SC.r s))))))))) fun g62 x63=>(XB (Yu (o:=(oL (oL (oF Xb)))) 2 0 rfl rfl (fun _ s=>(SC.r s)))))))
theorem Gk : FnScope ["_law_some"] ["_law_some"] (Xl Qh):=⟨rfl, rfl, rfl, by decide +kernel, rfl, by decide +kernel, by decide +kernel⟩
set_option maxHeartbeats 4000000 in
theorem KY (D : Def K mg "_law_copied" Qh ["_law_some"])  (Z : Blt mg) : Fn P w K mg base 1 "_law_copied" ["_law_some"] (sp1 (rV (rV Xb)) (oL (oL (oF Xb))) Y3 K):=by
  refine YM D Gk (fun vs H Q E h=>?_) (fun f cdv A outer s H vs Q E hr h=>?_)
  . obtain ⟨v_0, a_0, b, rfl, _⟩:=h; rfl
  obtain ⟨v_0, a_0, b, rfl, h_0, hm, q⟩:=h
  have hu:=hu8 hr
  have hu1:=YH hr
  refine ⟨_, (Xd (XA (Qe (sc:=(Xl Qh)) (N0:=["_law_some"]) (tns:=["_law_line"]) (caps:=[]) rfl (Zr (K:=K) rfl (pv 0)) (QF (by decide)) (fun cl C s H ex E=>⟨XO (i:=0) (show List.Nodup (["_law_line"] : List Str) by decide +kernel) rfl (Or.inl rfl), Vm, (QH (Y0 K rfl) rfl Z.b_list PyProof.Rows.boot_list (Xc (pv 0) Xf))⟩)))
    Xg), ?_⟩
  refine YQ (S:=(SC.add SC.nil K (rV (rV Xb)) v_0 a_0)) (σ:=[some v_0]) 0 ?_ (SC.i SC.t h_0) hm q rfl
  unfold Y3
  exact (XB (Vz (fun _=>tg1 0) (ZL (X1 (r:=(rV (rV Xb))) 0 rfl (fun _ s=>(SC.r s)))) (fun C1 a2 v3=>(K6 (EvS.ls (X1 (r:=(rV Xb)) 0 rfl (fun _ s=>(SC.r s))))))))
theorem Zd : FnScope ["_law_way", "_law_size", "_law_found", "_law_a", "_law_line", "_law_b", "_law_one"] ["_law_way", "_law_size"] (Xl Ge):=⟨rfl, rfl, rfl, by decide +kernel, rfl, by decide +kernel, by decide +kernel⟩
set_option maxHeartbeats 4000000 in
theorem F2 (D : Def K mg "_law_rare" Ge ["_law_way", "_law_size"])  (Z : Blt mg) : Fn P w K mg base 1 "_law_rare" ["_law_way", "_law_size"] (sp2 Xb Xb (oL (oL (oF Xb))) QY K):=by
  refine YM D Zd (fun vs H Q E h=>?_) (fun f cdv A outer s H vs Q E hr h=>?_)
  . obtain ⟨v_0, v_1, a_0, a_1, b, rfl, _⟩:=h; rfl
  obtain ⟨v_0, v_1, a_0, a_1, b, rfl, h_0, h_1, hm, q⟩:=h
  have hu:=hu8 hr
  have hu1:=YH hr
  refine ⟨_, (Xd (Xy (i:=2) Zd.nd rfl (Or.inl rfl) (X7 Xf))
    (Xd (YG PassesOwn.never rfl (XT rfl Z.b_range (Xc (pv 1) Xf)) (XO (i:=3) Zd.nd rfl (Or.inl rfl))
      (Xd (Xy (i:=4) Zd.nd rfl (Or.inl rfl) (X7 Xf))
      (Xd (YG PassesOwn.never rfl (XT rfl Z.b_range (Xc (pv 1) Xf)) (XO (i:=5) Zd.nd rfl (Or.inl rfl))
        (Xd (Xy (i:=6) Zd.nd rfl (Or.inl rfl) (pv 3))
        (Xd (Ys (PW.pt (YB (Xm Y8 (pv 0) Xh (Xr _)) (YB (Xm QE (pv 3) Xh (Xr _)) (YU (Xm F6 (pv 5) (Xt YJ (pv 1) Xh) (Xr _))))))
          (Xd (Xy (i:=6) Zd.nd rfl (Or.inl rfl) (Xt YJ Xh (pv 3)))
          Xg)
          Xg)
        (Xd (Ys (PW.pt (YB (Xm Y8 (pv 0) Xh (Xr _)) (YB (Xm QE (pv 3) Xh (Xr _)) (YU (Xm QE (pv 5) Xh (Xr _))))))
          (Xd (Xy (i:=6) Zd.nd rfl (Or.inl rfl) (Xt Yf (Xt YJ (Xt Y5 Xh (pv 5)) (pv 3)) Xh))
          Xg)
          Xg)
        (Xd (Yo (Z8 PySem.F.plainAttrs_list PySem.F.slot_list_append PySem.F.type_list_append Yg (pv 4) (Xc (pv 6) Xf)))
        Xg)))))
      (Xd (Yo (Z8 PySem.F.plainAttrs_list PySem.F.slot_list_append PySem.F.type_list_append Yg (pv 2) (Xc (pv 4) Xf)))
      Xg))))
    (Xd (XA (pv 2))
    Xg))), ?_⟩
  refine YQ (S:=(SC.add (SC.add SC.nil K Xb v_0 a_0) K Xb v_1 a_1)) (σ:=[some v_0, some v_1, none, none, none, none, none]) 2 ?_ (SC.i (SC.i SC.t h_0) h_1) hm q rfl
  unfold QY
  exact (X4 (K:=K) (o:=(oL (oL (oF Xb)))) 2 0 (QM (o:=(oL (oF Xb)))) (Nat.le_of_ble_eq_true rfl) fun a1 v2 C3=>(Zv (K:=K) (J:=({ oo:=fun x5=>[x5.2.2.2.2.2, []], ss:=fun x5=>[some v_0, some v_1, some x5.2.2.2.2.1, x5.1, x5.2.1, x5.2.2.1, x5.2.2.2.1], sc:=fun g6 x5=>(SC.addO (SC.add (SC.add SC.nil K Xb v_0 a_0) K Xb v_1 a_1) K (oL (oL (oF Xb))) x5.2.2.2.2.1 g6 x5.2.2.2.2.2) } : Jn ((List (List Int))) (Option V × Option V × Option V × Option V × V × List Xx))) (fun _=>tg1 3) ((none), (none), (none), (none), v2, C3) (a1) (XE (Xa (r:=Xb) 1 rfl (fun _ s=>(SC.r (SC.l s))))) rfl rfl (fun _ s=>(SC.i (SC.i (SC.i SC.t (SC.r (SC.l (SC.l s)))) (SC.r (SC.l s))) (SC.r s))) (fun g7 x8 a9 v10=>(X4 (K:=K) (o:=(oL (oF Xb))) 4 1 (QM (o:=(oF Xb))) (Nat.le_of_ble_eq_true rfl) fun a11 v12 C13=>(Zv (K:=K) (J:=({ oo:=fun x15=>[x8.2.2.2.2.2, x15.2.2.2], ss:=fun x15=>[some v_0, some v_1, some x8.2.2.2.2.1, some v10, some x15.2.2.1, x15.1, x15.2.1], sc:=fun g16 x15=>(SC.addO (SC.add (SC.addO (SC.add (SC.add SC.nil K Xb v_0 a_0) K Xb v_1 a_1) K (oL (oL (oF Xb))) x8.2.2.2.2.1 g7 x8.2.2.2.2.2) K Xb v10 a9) K (oL (oF Xb)) x15.2.2.1 g16 x15.2.2.2) } : Jn ((List Int)) (Option V × Option V × V × List Xx))) (fun _=>tg1 5) ((x8.2.2.1), (x8.2.2.2.1), v12, C13) (a11) (XE (Xa (r:=Xb) 1 rfl (fun _ s=>(SC.r (SC.l (SC.l (SC.l s))))))) rfl rfl (fun _ s=>(SC.i (SC.i (SC.i (SC.i (SC.i SC.t (SC.r (SC.l (SC.l (SC.l (SC.l s)))))) (SC.r (SC.l (SC.l (SC.l s))))) (SC.r (SC.l (SC.l s)))) (SC.r (SC.l s))) (SC.r s))) (fun g17 x18 a19 v20=>(X6 (K:=K) (r:=Xb) 6 (X1 (r:=Xb) 3 rfl (fun _ s=>(SC.r (SC.l (SC.l s))))) fun a21 v22=>(Zh (J:=({ oo:=fun x32=>[x8.2.2.2.2.2, x18.2.2.2], ss:=fun x32=>[some v_0, some v_1, some x8.2.2.2.2.1, some v10, some x18.2.2.1, some v20, some x32], sc:=fun g33 x32=>(SC.add (SC.add (SC.addO (SC.add (SC.addO (SC.add (SC.add SC.nil K Xb v_0 a_0) K Xb v_1 a_1) K (oL (oL (oF Xb))) x8.2.2.2.2.1 g7 x8.2.2.2.2.2) K Xb v10 a9) K (oL (oF Xb)) x18.2.2.1 g17 x18.2.2.2) K Xb v20 a19) K Xb x32 g33) } : Jn (Int) (V))) (Zu (Fd:=FNd ({ oo:=fun x32=>[x8.2.2.2.2.2, x18.2.2.2], ss:=fun x32=>[some v_0, some v_1, some x8.2.2.2.2.1, some v10, some x18.2.2.1, some v20, some x32], sc:=fun g33 x32=>(SC.add (SC.add (SC.addO (SC.add (SC.addO (SC.add (SC.add SC.nil K Xb v_0 a_0) K Xb v_1 a_1) K (oL (oL (oF Xb))) x8.2.2.2.2.1 g7 x8.2.2.2.2.2) K Xb v10 a9) K (oL (oF Xb)) x18.2.2.1 g17 x18.2.2.2) K Xb v20 a19) K Xb x32 g33) } : Jn (Int) (V))) (Ya (Xk (K:=K) (Yw (Xa (r:=Xb) 0 rfl (fun _ s=>(SC.r (SC.l (SC.l (SC.l (SC.l (SC.l (SC.l s))))))))) (Xe 0))) (Ya (Xk (K:=K) (Zf (Xa (r:=Xb) 3 rfl (fun _ s=>(SC.r (SC.l (SC.l (SC.l s)))))) (Xe 2))) (Xk (K:=K) (K5 (Xa (r:=Xb) 5 rfl (fun _ s=>(SC.r (SC.l s)))) (Yj (Xa (r:=Xb) 1 rfl (fun _ s=>(SC.r (SC.l (SC.l (SC.l (SC.l (SC.l s)))))))) (Xe 2)))))) (X6 (K:=K) (r:=Xb) 6 (EvB.sh (Yj (Xe 1) (Xa (r:=Xb) 3 rfl (fun _ s=>(SC.r (SC.l (SC.l (SC.l s)))))))) fun a34 v35=>(XC (J:=_) (v35) (a34) rfl rfl (fun _ s=>(SC.i (SC.i (SC.i (SC.i (SC.i (SC.i (SC.i SC.t (SC.r (SC.l (SC.l (SC.l (SC.l (SC.l (SC.l (SC.l s))))))))) (SC.r (SC.l (SC.l (SC.l (SC.l (SC.l (SC.l s)))))))) (SC.r (SC.l (SC.l (SC.l (SC.l (SC.l s))))))) (SC.r (SC.l (SC.l (SC.l (SC.l s)))))) (SC.r (SC.l (SC.l (SC.l s))))) (SC.r (SC.l (SC.l s)))) (SC.r s))))) (XC (J:=_) (v22) (a21) rfl rfl (fun _ s=>(SC.i (SC.i (SC.i (SC.i (SC.i (SC.i (SC.i SC.t (SC.r (SC.l (SC.l (SC.l (SC.l (SC.l (SC.l s)))))))) (SC.r (SC.l (SC.l (SC.l (SC.l (SC.l s))))))) (SC.r (SC.l (SC.l (SC.l (SC.l s)))))) (SC.r (SC.l (SC.l (SC.l s))))) (SC.r (SC.l (SC.l s)))) (SC.r (SC.l s))) (SC.r s))))) fun g39 x38=>(Zh (J:=({ oo:=fun x47=>[x8.2.2.2.2.2, x18.2.2.2], ss:=fun x47=>[some v_0, some v_1, some x8.2.2.2.2.1, some v10, some x18.2.2.1, some v20, some x47], sc:=fun g48 x47=>(SC.add (SC.add (SC.addO (SC.add (SC.addO (SC.add (SC.add SC.nil K Xb v_0 a_0) K Xb v_1 a_1) K (oL (oL (oF Xb))) x8.2.2.2.2.1 g7 x8.2.2.2.2.2) K Xb v10 a9) K (oL (oF Xb)) x18.2.2.1 g17 x18.2.2.2) K Xb v20 a19) K Xb x47 g48) } : Jn (Int) (V))) (Zu (Fd:=FNd ({ oo:=fun x47=>[x8.2.2.2.2.2, x18.2.2.2], ss:=fun x47=>[some v_0, some v_1, some x8.2.2.2.2.1, some v10, some x18.2.2.1, some v20, some x47], sc:=fun g48 x47=>(SC.add (SC.add (SC.addO (SC.add (SC.addO (SC.add (SC.add SC.nil K Xb v_0 a_0) K Xb v_1 a_1) K (oL (oL (oF Xb))) x8.2.2.2.2.1 g7 x8.2.2.2.2.2) K Xb v10 a9) K (oL (oF Xb)) x18.2.2.1 g17 x18.2.2.2) K Xb v20 a19) K Xb x47 g48) } : Jn (Int) (V))) (Ya (Xk (K:=K) (Yw (Xa (r:=Xb) 0 rfl (fun _ s=>(SC.r (SC.l (SC.l (SC.l (SC.l (SC.l (SC.l s))))))))) (Xe 1))) (Ya (Xk (K:=K) (Zf (Xa (r:=Xb) 3 rfl (fun _ s=>(SC.r (SC.l (SC.l (SC.l s)))))) (Xe 3))) (Xk (K:=K) (Zf (Xa (r:=Xb) 5 rfl (fun _ s=>(SC.r (SC.l s)))) (Xe 3))))) (X6 (K:=K) (r:=Xb) 6 (EvB.sh (XU (Yj (YD (Xe 2) (Xa (r:=Xb) 5 rfl (fun _ s=>(SC.r (SC.l s))))) (Xa (r:=Xb) 3 rfl (fun _ s=>(SC.r (SC.l (SC.l (SC.l s))))))) (Xe 3))) fun a49 v50=>(XC (J:=_) (v50) (a49) rfl rfl (fun _ s=>(SC.i (SC.i (SC.i (SC.i (SC.i (SC.i (SC.i SC.t (SC.r (SC.l (SC.l (SC.l (SC.l (SC.l (SC.l (SC.l s))))))))) (SC.r (SC.l (SC.l (SC.l (SC.l (SC.l (SC.l s)))))))) (SC.r (SC.l (SC.l (SC.l (SC.l (SC.l s))))))) (SC.r (SC.l (SC.l (SC.l (SC.l s)))))) (SC.r (SC.l (SC.l (SC.l s))))) (SC.r (SC.l (SC.l s)))) (SC.r s))))) (XC (J:=_) (x38) (g39) rfl rfl (fun _ s=>(SC.i (SC.i (SC.i (SC.i (SC.i (SC.i (SC.i SC.t (SC.r (SC.l (SC.l (SC.l (SC.l (SC.l (SC.l s)))))))) (SC.r (SC.l (SC.l (SC.l (SC.l (SC.l s))))))) (SC.r (SC.l (SC.l (SC.l (SC.l s)))))) (SC.r (SC.l (SC.l (SC.l s))))) (SC.r (SC.l (SC.l s)))) (SC.r (SC.l s))) (SC.r s))))) fun g58 x57=>(ZR (K:=K) (o:=(oF Xb)) (f:=fun a61=>(Res.ok (a61))) 4 1 rfl rfl rfl (fun _ s=>(SC.r (SC.l (SC.l s)))) (EvS.ev (X1 (r:=Xb) 6 rfl (fun _ s=>(SC.r s)))) fun a59 C60=>(XC (J:=_) ((some v20), (some x57), x18.2.2.1, C60) ((g17 ++ [a59])) rfl rfl (fun _ s=>(SC.i (SC.i (SC.i (SC.i (SC.i SC.t (SC.r (SC.l (SC.l (SC.l (SC.l (SC.l (SC.l (SC.l s))))))))) (SC.r (SC.l (SC.l (SC.l (SC.l (SC.l (SC.l s)))))))) (SC.r (SC.l (SC.l (SC.l (SC.l (SC.l s))))))) (SC.r (SC.l (SC.l (SC.l (SC.l s)))))) (SC.r s))))))))) fun g62 x63=>(ZR (K:=K) (o:=(oL (oF Xb))) (f:=fun a66=>(Res.ok (a66))) 2 0 rfl rfl rfl (fun _ s=>(SC.r (SC.l (SC.l s)))) (Yu (o:=(oL (oF Xb))) 4 1 rfl rfl (fun _ s=>(SC.r s))) fun a64 C65=>(XC (J:=_) ((some v10), (some x63.2.2.1), (x63.1), (x63.2.1), x8.2.2.2.2.1, C65) ((g7 ++ [a64])) rfl rfl (fun _ s=>(SC.i (SC.i (SC.i SC.t (SC.r (SC.l (SC.l (SC.l (SC.l (SC.l s))))))) (SC.r (SC.l (SC.l (SC.l (SC.l s)))))) (SC.r s)))))))) fun g68 x69=>(XB (Yu (o:=(oL (oL (oF Xb)))) 2 0 rfl rfl (fun _ s=>(SC.r s))))))
theorem Zy : FnScope ["_law_script", "_law_most", "_law_some", "_law_one", "_law_rare_here", "_law_other"] ["_law_script", "_law_most"] (Xl KK):=⟨rfl, rfl, rfl, by decide +kernel, rfl, by decide +kernel, by decide +kernel⟩
set_option maxHeartbeats 4000000 in
theorem Du (D : Def K mg "_law_pair" KK ["_law_script", "_law_most"]) (g_row : Fn P w K mg base 2 "_law_row" ["_law_script", "_law_place", "_law_sizes"] (sp3 (rL Xb) Xb (rV Xb) (oL (oF Xb)) Qu K)) (g_table : Fn P w K mg base 3 "_law_table" ["_law_script", "_law_place", "_law_most"] (sp3 (rL Xb) Xb Xb (oL (oL (oF Xb))) ZB K)) (g_rare : Fn P w K mg base 1 "_law_rare" ["_law_way", "_law_size"] (sp2 Xb Xb (oL (oL (oF Xb))) QY K)) (g_made : Fn P w K mg base 2 "_law_made" ["_law_way", "_law_size", "_law_factor"] (sp3 Xb Xb Xb (oL (oL (oF Xb))) ZZ K)) (g_relaid : Fn P w K mg base 1 "_law_relaid" ["_law_some", "_law_spots"] (sp2 (rV (rV Xb)) (rV Xb) (oL (oL (oF Xb))) Yq K)) (g_ordered : Fn P w K mg base 1 "_law_ordered" ["_law_some", "_law_count"] (sp2 (rV Xb) Xb (oL (oF Xb)) YC K)) (Z : Blt mg) : Fn P w K mg base 4 "_law_pair" ["_law_script", "_law_most"] (sp2 (rL Xb) Xb (oT2 (oL (oL (oF Xb))) (oL (oL (oF Xb)))) Qm K):=by
  refine YM D Zy (fun vs H Q E h=>?_) (fun f cdv A outer s H vs Q E hr h=>?_)
  . obtain ⟨v_0, v_1, a_0, a_1, b, rfl, _⟩:=h; rfl
  obtain ⟨v_0, v_1, a_0, a_1, b, rfl, h_0, h_1, hm, q⟩:=h
  have hu:=hu8 hr
  have hu1:=YH hr
  refine ⟨_, (Xd (Xy (i:=2) Zy.nd rfl (Or.inl rfl) (X5 g_row hr (by decide) (Xc (pv 0) (Xc Xh (Xc (Xt Kl (X7 (Xc Xh Xf)) (Xt Ft (X7 (Xc Xh Xf)) Xh)) Xf)))))
    (Xd (Xy (i:=3) Zy.nd rfl (Or.inl rfl) (X5 g_table hr (by decide) (Xc (pv 0) (Xc Xh (Xc (pv 1) Xf)))))
    (Xd (Xy (i:=4) Zy.nd rfl (Or.inl rfl) (X5 g_row hr (by decide) (Xc (pv 0) (Xc Xh (Xc (X7 (Xc Xh (Xc Xh Xf))) Xf ZQ)))))
    (Xd (Ys (PW.pt (YB (Xm Y8 (XW (Xn K rfl) (pv 4) Xh (fun _ _=>rfl)) Xh (Xr _)) (YU (Xm JZ (Xq (Xi K rfl) rfl Z.b_len PySem.boot_len (Xc (pv 3) Xf)) Xh (Xr _)))))
      (Xd (Xy (i:=3) Zy.nd rfl (Or.inl rfl) (X5 g_rare hr (by decide) (Xc (XW (Xn K rfl) (pv 4) Xh (fun _ _=>rfl)) (Xc (Xq (Xi K rfl) rfl Z.b_len PySem.boot_len (Xc (pv 3) Xf)) Xf))))
      Xg)
      Xg)
    (Xd (Ys (Xm JZ (XW (Xn K rfl) (pv 2) Xh (fun _ _=>rfl)) Xh (Xr _))
      (Xd (XA (Z3 (Xc (pv 3) (Xc (X5 g_relaid hr (by decide) (Xc (pv 3) (Xc (X5 g_ordered hr (by decide) (Xc (Je (Jh K rfl) (pv 2) (Vl Xh) VJ) (Xc (Xq (Xi K rfl) rfl Z.b_len PySem.boot_len (Xc (pv 3) Xf)) Xf))) Xf))) Xf))))
      Xg)
      Xg)
    (Xd (Xy (i:=5) Zy.nd rfl (Or.inl rfl) (X5 g_table hr (by decide) (Xc (pv 0) (Xc Xh (Xc (pv 1) Xf)))))
    (Xd (Ys (PW.pt (YB (Xm KG (Xq (Xi K rfl) rfl Z.b_len PySem.boot_len (Xc (pv 5) Xf)) (Xq (Xi K rfl) rfl Z.b_len PySem.boot_len (Xc (pv 3) Xf)) (Xr _)) (YU (Xm JZ (Xt Yf (XW (Xn K rfl) (pv 2) Xh (fun _ _=>rfl)) Xh) Xh (Xr _)))))
      (Xd (Xy (i:=5) Zy.nd rfl (Or.inl rfl) (X5 g_made hr (by decide) (Xc (Xt Yf (XW (Xn K rfl) (pv 2) Xh (fun _ _=>rfl)) Xh) (Xc (Xq (Xi K rfl) rfl Z.b_len PySem.boot_len (Xc (pv 3) Xf)) (Xc (Xt YF Xh (XW (Xn K rfl) (pv 2) Xh (fun _ _=>rfl))) Xf)))))
      Xg)
      Xg)
    (Xd (XA (Z3 (Xc (pv 3) (Xc (pv 5) Xf))))
    Xg)))))))), ?_⟩
  refine YQ (S:=(SC.add (SC.add SC.nil K (rL Xb) v_0 a_0) K Xb v_1 a_1)) (σ:=[some v_0, some v_1, none, none, none, none]) 2 ?_ (SC.i (SC.i SC.t h_0) h_1) hm q rfl
  unfold Qm
  exact (X6 (K:=K) (r:=(rV Xb)) 2 (Ev.sh (YA (Xa (r:=(rL Xb)) 0 rfl (fun _ s=>(SC.r (SC.l s)))) (Xe 2) (Ev.toB (Kf (Ev.ls (Y4 (Xu (EvB.sh (Xe 3)) Yr))) (Ev.ls (Fi (Ev.ls (Y4 (Xu (EvB.sh (Xe 24)) Yr))) (Xe 8))))))) fun a1 v2=>(X4 (K:=K) (o:=(oL (oL (oF Xb)))) 3 0 (YA (Xa (r:=(rL Xb)) 0 rfl (fun _ s=>(SC.r (SC.l (SC.l s))))) (Xe 0) (Xa (r:=Xb) 1 rfl (fun _ s=>(SC.r (SC.l s))))) (Nat.le_of_ble_eq_true rfl) fun a17 v18 C19=>(X6 (K:=K) (r:=(rV Xb)) 4 (Ev.sh (YA (Xa (r:=(rL Xb)) 0 rfl (fun _ s=>(SC.r (SC.l (SC.l (SC.l s)))))) (Xe 6) (Ev.toB (Y4 (Xu (EvB.sh (Xe 5)) (Xu (EvB.sh (Xe 2)) Yr)))))) fun a24 v25=>(Zh (J:=({ oo:=fun x43=>[x43.2, []], ss:=fun x43=>[some v_0, some v_1, some v2, some x43.1, some v25, none], sc:=fun g44 x43=>(SC.addO (SC.add (SC.add (SC.add (SC.add SC.nil K (rL Xb) v_0 a_0) K Xb v_1 a_1) K (rV Xb) v2 a1) K (rV Xb) v25 a24) K (oL (oL (oF Xb))) x43.1 g44 x43.2) } : Jn ((List (List Int))) (V × List Xx))) (Zu (Fd:=FNd ({ oo:=fun x43=>[x43.2, []], ss:=fun x43=>[some v_0, some v_1, some v2, some x43.1, some v25, none], sc:=fun g44 x43=>(SC.addO (SC.add (SC.add (SC.add (SC.add SC.nil K (rL Xb) v_0 a_0) K Xb v_1 a_1) K (rV Xb) v2 a1) K (rV Xb) v25 a24) K (oL (oL (oF Xb))) x43.1 g44 x43.2) } : Jn ((List (List Int))) (V × List Xx))) (Ya (Xk (K:=K) (Yw (XI (Xa (r:=(rV Xb)) 4 rfl (fun _ s=>(SC.r s))) (Xe 0)) (Xe 0))) (Xk (K:=K) (Z4 (XN (Yk (o:=(oL (oL (oF Xb)))) 3 0 rfl rfl (fun _ s=>(SC.r (SC.l s))))) (Xe 3)))) (X4 (K:=K) (o:=(oL (oL (oF Xb)))) 3 0 (XD (XI (Xa (r:=(rV Xb)) 4 rfl (fun _ s=>(SC.r s))) (Xe 1)) (XN (Yk (o:=(oL (oL (oF Xb)))) 3 0 rfl rfl (fun _ s=>(SC.r (SC.l s)))))) (Nat.le_of_ble_eq_true rfl) fun a45 v46 C47=>(XC (J:=_) (v46, C47) (a45) rfl rfl (fun _ s=>(SC.i (SC.i (SC.i (SC.i (SC.i SC.t (SC.r (SC.l (SC.l (SC.l (SC.l (SC.l s))))))) (SC.r (SC.l (SC.l (SC.l (SC.l s)))))) (SC.r (SC.l (SC.l (SC.l s))))) (SC.r (SC.l s))) (SC.r s))))) (XC (J:=_) (v18, C19) (a17) rfl rfl (fun _ s=>(SC.i (SC.i (SC.i (SC.i (SC.i SC.t (SC.r (SC.l (SC.l (SC.l (SC.l s)))))) (SC.r (SC.l (SC.l (SC.l s))))) (SC.r (SC.l (SC.l s)))) (SC.r s)) (SC.r (SC.l s)))))) fun g55 x54=>(YK (Xk (K:=K) (Z4 (XI (Xa (r:=(rV Xb)) 2 rfl (fun _ s=>(SC.r (SC.l (SC.l s))))) (Xe 0)) (Xe 0))) (XB (GJ (K:=K) (o:=(oL (oL (oF Xb)))) 3 0 rfl rfl (fun _ s=>(SC.r s)) (XD (Yk (o:=(oL (oL (oF Xb)))) 3 0 rfl rfl (fun _ s=>(SC.r s))) (Ev.toB (XD (Ev.toB (V8 (EvS.ls (X1 (r:=(rV Xb)) 2 rfl (fun _ s=>(SC.r (SC.l (SC.l s)))))) (Jo (K:=K) (Xe 1)) Jv)) (XN (Yk (o:=(oL (oL (oF Xb)))) 3 0 rfl rfl (fun _ s=>(SC.r s))))))))) (X4 (K:=K) (o:=(oL (oL (oF Xb)))) 5 1 (YA (Xa (r:=(rL Xb)) 0 rfl (fun _ s=>(SC.r (SC.l (SC.l (SC.l (SC.l s))))))) (Xe 1) (Xa (r:=Xb) 1 rfl (fun _ s=>(SC.r (SC.l (SC.l (SC.l s))))))) (Nat.le_of_ble_eq_true rfl) fun a74 v75 C76=>(Zh (J:=({ oo:=fun x92=>[x54.2, x92.2], ss:=fun x92=>[some v_0, some v_1, some v2, some x54.1, some v25, some x92.1], sc:=fun g93 x92=>(SC.addO (SC.addO (SC.add (SC.add (SC.add (SC.add SC.nil K (rL Xb) v_0 a_0) K Xb v_1 a_1) K (rV Xb) v2 a1) K (rV Xb) v25 a24) K (oL (oL (oF Xb))) x54.1 g55 x54.2) K (oL (oL (oF Xb))) x92.1 g93 x92.2) } : Jn ((List (List Int))) (V × List Xx))) (Zu (Fd:=FNd ({ oo:=fun x92=>[x54.2, x92.2], ss:=fun x92=>[some v_0, some v_1, some v2, some x54.1, some v25, some x92.1], sc:=fun g93 x92=>(SC.addO (SC.addO (SC.add (SC.add (SC.add (SC.add SC.nil K (rL Xb) v_0 a_0) K Xb v_1 a_1) K (rV Xb) v2 a1) K (rV Xb) v25 a24) K (oL (oL (oF Xb))) x54.1 g55 x54.2) K (oL (oL (oF Xb))) x92.1 g93 x92.2) } : Jn ((List (List Int))) (V × List Xx))) (Ya (Xk (K:=K) (JG (XN (Yk (o:=(oL (oL (oF Xb)))) 5 1 rfl rfl (fun _ s=>(SC.r s)))) (XN (Yk (o:=(oL (oL (oF Xb)))) 3 0 rfl rfl (fun _ s=>(SC.r (SC.l s))))))) (Xk (K:=K) (Z4 (XU (XI (Xa (r:=(rV Xb)) 2 rfl (fun _ s=>(SC.r (SC.l (SC.l (SC.l s)))))) (Xe 1)) (Xe 3)) (Xe 0)))) (X4 (K:=K) (o:=(oL (oL (oF Xb)))) 5 1 (YA (XU (XI (Xa (r:=(rV Xb)) 2 rfl (fun _ s=>(SC.r (SC.l (SC.l (SC.l s)))))) (Xe 2)) (Xe 7)) (XN (Yk (o:=(oL (oL (oF Xb)))) 3 0 rfl rfl (fun _ s=>(SC.r (SC.l s))))) (Ye (Xe 1) (XI (Xa (r:=(rV Xb)) 2 rfl (fun _ s=>(SC.r (SC.l (SC.l (SC.l s)))))) (Xe 3)))) (Nat.le_of_ble_eq_true rfl) fun a94 v95 C96=>(XC (J:=_) (v95, C96) (a94) rfl rfl (fun _ s=>(SC.i (SC.i (SC.i (SC.i (SC.i (SC.i SC.t (SC.r (SC.l (SC.l (SC.l (SC.l (SC.l (SC.l s)))))))) (SC.r (SC.l (SC.l (SC.l (SC.l (SC.l s))))))) (SC.r (SC.l (SC.l (SC.l (SC.l s)))))) (SC.r (SC.l (SC.l (SC.l s))))) (SC.r (SC.l (SC.l s)))) (SC.r s))))) (XC (J:=_) (v75, C76) (a74) rfl rfl (fun _ s=>(SC.i (SC.i (SC.i (SC.i (SC.i (SC.i SC.t (SC.r (SC.l (SC.l (SC.l (SC.l (SC.l s))))))) (SC.r (SC.l (SC.l (SC.l (SC.l s)))))) (SC.r (SC.l (SC.l (SC.l s))))) (SC.r (SC.l (SC.l s)))) (SC.r (SC.l s))) (SC.r s))))) fun g111 x110=>(XB (Jb (Yu (o:=(oL (oL (oF Xb)))) 3 0 rfl rfl (fun _ s=>(SC.r (SC.l s)))) fun _=>(Yu (o:=(oL (oL (oF Xb)))) 5 2 rfl rfl (fun _ s=>(SC.r s))))))))))))
theorem ZP : FnScope ["_law_one", "_law_other", "_law_every_here", "_law_first", "_law_second", "_law_found", "_law_colour"] ["_law_one", "_law_other"] (Xl VC):=⟨rfl, rfl, rfl, by decide +kernel, rfl, by decide +kernel, by decide +kernel⟩
set_option maxHeartbeats 4000000 in
theorem GH (D : Def K mg "_law_right" VC ["_law_one", "_law_other"]) (g_every : Fn P w K mg base 2 "_law_every" ["_law_one", "_law_other"] (sp2 (rV (rV Xb)) (rV (rV Xb)) (oL (oL (oF Xb))) Zk K)) (g_like : Fn P w K mg base 4 "like" ["one", "other"] (sp2 (rV (rV Xb)) (rV (rV Xb)) (Ve (oL (oF Xb))) Zb K)) (g_copied : Fn P w K mg base 1 "_law_copied" ["_law_some"] (sp1 (rV (rV Xb)) (oL (oL (oF Xb))) Y3 K)) (g_relaid : Fn P w K mg base 1 "_law_relaid" ["_law_some", "_law_spots"] (sp2 (rV (rV Xb)) (rV Xb) (oL (oL (oF Xb))) Yq K)) (Z : Blt mg) : Fn P w K mg base 5 "_law_right" ["_law_one", "_law_other"] (sp2 (rV (rV Xb)) (rV (rV Xb)) (oF Yc) YN K):=by
  refine YM D ZP (fun vs H Q E h=>?_) (fun f cdv A outer s H vs Q E hr h=>?_)
  . obtain ⟨v_0, v_1, a_0, a_1, b, rfl, _⟩:=h; rfl
  obtain ⟨v_0, v_1, a_0, a_1, b, rfl, h_0, h_1, hm, q⟩:=h
  have hu:=hu8 hr
  have hu1:=YH hr
  refine ⟨_, (Xd (Xy (i:=2) ZP.nd rfl (Or.inl rfl) (X5 g_every hr (by decide) (Xc (pv 0) (Xc (pv 1) Xf))))
    (Xd (Gr (i:=3) (j:=4) rfl ZP.nd rfl rfl (by decide) rfl rfl (Xc (X5 g_copied hr (by decide) (Xc (pv 0) Xf)) (Xc (X5 g_copied hr (by decide) (Xc (pv 1) Xf)) Xf)) rfl)
    (Xd (Xy (i:=5) ZP.nd rfl (Or.inl rfl) (X5 g_like hr (by decide) (Xc (pv 3) (Xc (pv 4) Xf))))
    (Xd (Ys (PW.pt (DV (Xm (Ug (Fy (Fy eq_int)) (UY (by decide) hu)) (pv 3) (pv 0) (Xr _)) (Gb (Xm (Ug (Fy (Fy eq_int)) (UY (by decide) hu)) (pv 4) (pv 1) (Xr _)))))
      (Xd (XA UF)
      Xg)
      Xg)
    (Xd (Ys (Xm Y8 (Xq (Xi K rfl) rfl Z.b_len PySem.boot_len (Xc (pv 2) Xf)) Xh (Xr _))
      (Xd (XA (Jw Ct (pv 5) Up (Xr _)))
      Xg)
      Xg)
    (Xd (Ys (PW.pt (DV (Fr (JH (Xq Zx rfl Z.b_isinstance PyProof.Rows.boot_isinstance (Xc (pv 5) (Xc (Vh (v:=V.ty "list") rfl Z.b_list PyProof.Rows.boot_list rfl) Xf))))) (Gb (Xm (Ug (FI rfl rfl (Fy eq_int)) (UY (by decide) hu)) (pv 5) (XW (Xn K rfl) (pv 2) Xh (fun _ _=>rfl)) (Xr _)))))
      (Xd (XA UF)
      Xg)
      Xg)
    (Xd (YG PassesOwn.never rfl (Zr (K:=K) rfl (pv 5)) (XO (i:=6) ZP.nd rfl (Or.inl rfl))
      (Xd (Ys (PW.pt (DV (JH (Xq Zx rfl Z.b_isinstance PyProof.Rows.boot_isinstance (Xc (pv 6) (Xc (Vh (v:=V.ty "bool") rfl Z.b_bool PyProof.Rows.boot_bool rfl) Xf)))) (Gb (Fr (JH (Xq Zx rfl Z.b_isinstance PyProof.Rows.boot_isinstance (Xc (pv 6) (Xc (Vh (v:=V.ty "int") rfl Z.b_int PyProof.Rows.boot_int rfl) Xf))))))))
        (Xd (XA UF)
        Xg)
        Xg)
      Xg))
    (Xd (Ys (Xm (Ug (Fy (Fy eq_int)) (UY (by decide) hu)) (X5 g_relaid hr (by decide) (Xc (pv 0) (Xc (pv 5) Xf))) (pv 1) (Xr _))
      (Xd (XA UF)
      Xg)
      Xg)
    (Xd (Yo (Fq PySem.F.plainAttrs_list PySem.F.slot_list_reverse PySem.F.type_list_reverse Uz (pv 5)))
    (Xd (Yo (Z8 PySem.F.plainAttrs_list PySem.F.slot_list_append PySem.F.type_list_append Yg (pv 5) (Xc Xh Xf)))
    (Xd (XA (Jw (CW (FI rfl rfl (Fy eq_int)) (UY (by decide) hu)) (X5 g_like hr (by decide) (Xc (pv 3) (Xc (pv 4) Xf))) (XW (Xn K rfl) (pv 2) Xh (fun _ _=>rfl)) (Xr _)))
    Xg))))))))))), ?_⟩
  refine YQ (S:=(SC.add (SC.add SC.nil K (rV (rV Xb)) v_0 a_0) K (rV (rV Xb)) v_1 a_1)) (σ:=[some v_0, some v_1, none, none, none, none, none]) 1 ?_ (SC.i (SC.i SC.t h_0) h_1) hm q rfl
  unfold YN
  exact (X6 (K:=K) (r:=(rV (rV Xb))) 2 (Ev.sh (XD (Xa (r:=(rV (rV Xb))) 0 rfl (fun _ s=>(SC.r (SC.l s)))) (Xa (r:=(rV (rV Xb))) 1 rfl (fun _ s=>(SC.r s))))) fun a1 v2=>(Ks (K:=K) 3 4 (Ev.sh (V3 (Xa (r:=(rV (rV Xb))) 0 rfl (fun _ s=>(SC.r (SC.l (SC.l s))))))) (Ev.sh (V3 (Xa (r:=(rV (rV Xb))) 1 rfl (fun _ s=>(SC.r (SC.l s)))))) fun a10 a11 v12 v13=>(X4 (K:=K) (o:=(Ve (oL (oF Xb)))) 5 0 (XD (Xa (r:=(rV (rV Xb))) 3 rfl (fun _ s=>(SC.r (SC.l s)))) (Xa (r:=(rV (rV Xb))) 4 rfl (fun _ s=>(SC.r s)))) (Nat.le_of_ble_eq_true rfl) fun a14 v15 C16=>(YK (Ku (Xk (K:=K) (Q7 (Xa (r:=(rV (rV Xb))) 3 rfl (fun _ s=>(SC.r (SC.l (SC.l s))))) (Xa (r:=(rV (rV Xb))) 0 rfl (fun _ s=>(SC.r (SC.l (SC.l (SC.l (SC.l (SC.l s)))))))))) (Xk (K:=K) (Q7 (Xa (r:=(rV (rV Xb))) 4 rfl (fun _ s=>(SC.r (SC.l s)))) (Xa (r:=(rV (rV Xb))) 1 rfl (fun _ s=>(SC.r (SC.l (SC.l (SC.l (SC.l s)))))))))) (XB (EvS.ev (EvB.sh (QS false)))) (YK (Xk (K:=K) (Yw (XN (Xa (r:=(rV (rV Xb))) 2 rfl (fun _ s=>(SC.r (SC.l (SC.l (SC.l s))))))) (Xe 0))) (XB (EvS.ev (EvB.sh (DI (tb:=tC .non) (Yk (o:=(Ve (oL (oF Xb)))) 5 0 rfl rfl (fun _ s=>(SC.r s))))))) (YK (Ku (Gd (UL (K:=K) (Vj "list" true false (VS K "list") (Q8 K) (Yk (o:=(Ve (oL (oF Xb)))) 5 0 rfl rfl (fun _ s=>(SC.r s)))))) (Xk (K:=K) (Q7 (Yk (o:=(Ve (oL (oF Xb)))) 5 0 rfl rfl (fun _ s=>(SC.r s))) (JE (XI (Xa (r:=(rV (rV Xb))) 2 rfl (fun _ s=>(SC.r (SC.l (SC.l (SC.l s)))))) (Xe 0)))))) (XB (EvS.ev (EvB.sh (QS false)))) (Be (K:=K) (o:=(oL (oF Xb))) (fun _ s=>(SC.r s)) fun a38=>(G8 (K:=K) (r:=Xb) (J:=({ oo:=fun x39=>[C16], ss:=fun x39=>[some v_0, some v_1, some v2, some v12, some v13, some v15, x39], sc:=fun g40 x39=>(SC.addO (SC.add (SC.add (SC.add (SC.add (SC.add SC.nil K (rV (rV Xb)) v_0 a_0) K (rV (rV Xb)) v_1 a_1) K (rV (rV Xb)) v2 a1) K (rV (rV Xb)) v12 a10) K (rV (rV Xb)) v13 a11) K (oL (oF Xb)) v15 a38 C16) } : Jn (Unit) (Option V))) 5 0 rfl rfl (fun _ s=>(SC.r s)) (fun _=>tg1 6) ((none)) () (fun _=>rfl) rfl rfl (fun _ s=>(SC.i (SC.i (SC.i (SC.i (SC.i (SC.i SC.t (SC.r (SC.l (SC.l (SC.l (SC.l (SC.l (SC.l s)))))))) (SC.r (SC.l (SC.l (SC.l (SC.l (SC.l s))))))) (SC.r (SC.l (SC.l (SC.l (SC.l s)))))) (SC.r (SC.l (SC.l (SC.l s))))) (SC.r (SC.l (SC.l s)))) (SC.r s))) (fun g41 x42 a43 v44=>(Vt (Ku (UL (K:=K) (QV "bool" false (JB K) (Xa (r:=Xb) 6 rfl (fun _ s=>(SC.r s))))) (Gd (UL (K:=K) (QV "int" true (VS K "int") (Xa (r:=Xb) 6 rfl (fun _ s=>(SC.r s))))))) (XB (EvS.ev (EvB.sh (QS false)))) (ZK (XC (J:=_) ((some v44)) () rfl rfl (fun _ s=>(SC.i (SC.i (SC.i (SC.i (SC.i (SC.i SC.t (SC.r (SC.l (SC.l (SC.l (SC.l (SC.l (SC.l s)))))))) (SC.r (SC.l (SC.l (SC.l (SC.l (SC.l s))))))) (SC.r (SC.l (SC.l (SC.l (SC.l s)))))) (SC.r (SC.l (SC.l (SC.l s))))) (SC.r (SC.l (SC.l s)))) (SC.r (SC.l s)))))))) fun g51 x52=>(YK (Xk (K:=K) (Q7 (Ev.toB (XD (Xa (r:=(rV (rV Xb))) 0 rfl (fun _ s=>(SC.r (SC.l (SC.l (SC.l (SC.l (SC.l s)))))))) (Yk (o:=(oL (oF Xb))) 5 0 rfl rfl (fun _ s=>(SC.r s))))) (Xa (r:=(rV (rV Xb))) 1 rfl (fun _ s=>(SC.r (SC.l (SC.l (SC.l (SC.l s))))))))) (XB (EvS.ev (EvB.sh (QS false)))) (Bk (K:=K) (o:=(oF Xb)) (f:=fun a60=>(Res.bind (Res.ok (7 : Int)) fun a61=>(chk (a60.length < sizeLine) ((fun a63=>(Res.bind (Res.bind (Res.ok a10) fun x65=>(Res.bind (Res.ok a11) fun x66=>(noE (Zb x65 x66)))) fun x69=>(Res.bind (Res.bind (Res.bind (Res.ok a1) fun x67=>(Res.bind (Res.ok (0 : Int)) fun x68=>(atR x67 x68))) fun x71=>(Res.ok (some x71))) fun x70=>(Res.ok (decide (x69 = x70)))))) (a60 ++ [a61]))))) 5 0 rfl rfl (fun _ s=>(SC.r s)) fun C59=>(ZR (K:=K) (o:=(oF Xb)) (f:=fun a63=>(Res.bind (Res.bind (Res.ok a10) fun x65=>(Res.bind (Res.ok a11) fun x66=>(noE (Zb x65 x66)))) fun x69=>(Res.bind (Res.bind (Res.bind (Res.ok a1) fun x67=>(Res.bind (Res.ok (0 : Int)) fun x68=>(atR x67 x68))) fun x71=>(Res.ok (some x71))) fun x70=>(Res.ok (decide (x69 = x70)))))) 5 0 rfl rfl rfl (fun _ s=>(SC.r s)) (EvS.ev (EvB.sh (Xe 7))) fun a61 C62=>(XB (EvS.ev (EvB.sh (DK (Ev.toB (XD (Xa (r:=(rV (rV Xb))) 3 rfl (fun _ s=>(SC.r (SC.l (SC.l (SC.l (SC.l s))))))) (Xa (r:=(rV (rV Xb))) 4 rfl (fun _ s=>(SC.r (SC.l (SC.l (SC.l s)))))))) (JE (XI (Xa (r:=(rV (rV Xb))) 2 rfl (fun _ s=>(SC.r (SC.l (SC.l (SC.l (SC.l (SC.l s)))))))) (Xe 0))))))))))))))))))
theorem JY : FnScope ["_law_script", "_law_most", "_law_one", "_law_other"] ["_law_script"] (Xl Q3):=⟨rfl, rfl, rfl, by decide +kernel, rfl, by decide +kernel, by decide +kernel⟩
set_option maxHeartbeats 4000000 in
theorem Bh {f : Addr} {fd : FuncData} (F : Fun K "law" "law" Q3 f fd) (g_pair : Fn P w K mg base 4 "_law_pair" ["_law_script", "_law_most"] (sp2 (rL Xb) Xb (oT2 (oL (oL (oF Xb))) (oL (oL (oF Xb)))) Qm K)) (g_right : Fn P w K mg base 5 "_law_right" ["_law_one", "_law_other"] (sp2 (rV (rV Xb)) (rV (rV Xb)) (oF Yc) YN K)) (g_row : Fn P w K mg base 2 "_law_row" ["_law_script", "_law_place", "_law_sizes"] (sp3 (rL Xb) Xb (rV Xb) (oL (oF Xb)) Qu K)) (Z : Blt mg) : FnOk P w K mg base CX0 6 f fd ["_law_script"] (sp1 (rL Xb) (oF Yc) Vp K):=by
  refine F.ok JY (fun vs H Q E h=>?_) (fun cdv A outer s H vs Q E hr h=>?_)
  . obtain ⟨v_0, a_0, b, rfl, _⟩:=h; rfl
  obtain ⟨v_0, a_0, b, rfl, h_0, hm, q⟩:=h
  have hu:=hu8 hr
  have hu1:=YH hr
  refine ⟨_, (Xd (Xy (i:=1) JY.nd rfl (Or.inl rfl) Xh)
    (Xd (Ys (Xm Y8 (XW (Xn K rfl) (X5 g_row hr (by decide) (Xc (pv 0) (Xc Xh (Xc (X7 (Xc Xh Xf)) Xf ZQ)))) Xh (fun _ _=>rfl)) Xh (Xr _))
      (Xd (Xy (i:=1) JY.nd rfl (Or.inl rfl) Xh)
      Xg)
      Xg)
    (Xd (Fx (X5 g_pair hr (by decide) (Xc (pv 0) (Xc (pv 1) Xf))) (Bg rfl (VY (XO (i:=2) JY.nd rfl (Or.inl rfl)) (VY (XO (i:=3) JY.nd rfl (Or.inl rfl)) Dn))))
    (Xd (XA (U3 (X5 g_right hr (by decide) (Xc (pv 2) (Xc (pv 3) Xf))) (U3 (X5 g_right hr (by decide) (Xc (pv 3) (Xc (pv 2) Xf))) (FK (X5 g_right hr (by decide) (Xc (pv 2) (Xc (pv 2) Xf)))))))
    Xg)))), ?_⟩
  refine YQ (S:=(SC.add SC.nil K (rL Xb) v_0 a_0)) (σ:=[some v_0, none, none, none]) 0 ?_ (SC.i SC.t h_0) hm q rfl
  unfold Vp
  exact (X6 (K:=K) (r:=Xb) 1 (EvB.sh (Xe 5)) fun a1 v2=>(Zh (J:=({ oo:=fun x15=>[], ss:=fun x15=>[some v_0, some x15, none, none], sc:=fun g16 x15=>(SC.add (SC.add SC.nil K (rL Xb) v_0 a_0) K Xb x15 g16) } : Jn (Int) (V))) (Zu (Fd:=FNd ({ oo:=fun x15=>[], ss:=fun x15=>[some v_0, some x15, none, none], sc:=fun g16 x15=>(SC.add (SC.add SC.nil K (rL Xb) v_0 a_0) K Xb x15 g16) } : Jn (Int) (V))) (Xk (K:=K) (Yw (XI (Ev.toB (YA (Xa (r:=(rL Xb)) 0 rfl (fun _ s=>(SC.r (SC.l s)))) (Xe 3) (Ev.toB (Y4 (Xu (EvB.sh (Xe 8)) Yr))))) (Xe 0)) (Xe 0))) (X6 (K:=K) (r:=Xb) 1 (EvB.sh (Xe 6)) fun a17 v18=>(XC (J:=_) (v18) (a17) rfl rfl (fun _ s=>(SC.i (SC.i SC.t (SC.r (SC.l (SC.l s)))) (SC.r s))))) (XC (J:=_) (v2) (a1) rfl rfl (fun _ s=>(SC.i (SC.i SC.t (SC.r (SC.l s))) (SC.r s))))) fun g20 x19=>(Bu 2 3 (Ev.sh (XD (Xa (r:=(rL Xb)) 0 rfl (fun _ s=>(SC.r (SC.l s)))) (Xa (r:=Xb) 1 rfl (fun _ s=>(SC.r s))))) fun a24 v25 v26=>(XB (EvS.ev (EvB.sh (Ja (Ev.toB (XD (Xa (r:=(rV (rV Xb))) 2 rfl (fun _ s=>(SC.r (SC.l s)))) (Xa (r:=(rV (rV Xb))) 3 rfl (fun _ s=>(SC.r s))))) (Ja (Ev.toB (XD (Xa (r:=(rV (rV Xb))) 3 rfl (fun _ s=>(SC.r s))) (Xa (r:=(rV (rV Xb))) 2 rfl (fun _ s=>(SC.r (SC.l s)))))) (Ev.toB (XD (Xa (r:=(rV (rV Xb))) 2 rfl (fun _ s=>(SC.r (SC.l s)))) (Xa (r:=(rV (rV Xb))) 2 rfl (fun _ s=>(SC.r (SC.l s))))))))))))))
end
theorem Ei {K : PySem.W.Frag} {mg : Str -> Option Value} {h : Heap} (X : K.In h) (G : h.Ns mainGlobals mg) {x p0 : Str} {st : Stmt} {f : Addr} {oc : Value} {od an : Option Addr} {osl : Array (Option Value)} {kV doc pm cdv ct : Value} (hb : ∀ (kV doc pm : Value) (an : Option Addr) (cdv ct u0 : Value), bindArgs (PySem.W.fnOf x x (Yp st) (Yd st) (Xl st) .none kV doc pm an cdv ct) ⟨[u0], []⟩ = pure ([p0].zip [u0])) (a : PySem.W.nsIn K mainGlobals x = some (some (.ref f))) (l : K.lookup f = some ⟨oc, od, .func (PySem.W.fnOf x x (Yp st) (Yd st) (Xl st) .none kV doc pm an cdv ct), osl⟩) (c : PySem.W.codeIn K cdv x = true) (k : PySem.W.keepIn K (.ref f) = true) : Def K mg x st [p0]:=⟨f, _, ZO l c k, (ZO l c k).binds fun _ _ _ _ _ _ us hl=>(by obtain ⟨_, rfl⟩:=Bm hl; exact hb ..), PySem.W.mg_of X G a⟩
theorem VD {K : PySem.W.Frag} {mg : Str -> Option Value} {h : Heap} (X : K.In h) (G : h.Ns mainGlobals mg) {x p0 p1 : Str} {st : Stmt} {f : Addr} {oc : Value} {od an : Option Addr} {osl : Array (Option Value)} {kV doc pm cdv ct : Value} (hb : ∀ (kV doc pm : Value) (an : Option Addr) (cdv ct u0 u1 : Value), bindArgs (PySem.W.fnOf x x (Yp st) (Yd st) (Xl st) .none kV doc pm an cdv ct) ⟨[u0, u1], []⟩ = pure ([p0, p1].zip [u0, u1])) (a : PySem.W.nsIn K mainGlobals x = some (some (.ref f))) (l : K.lookup f = some ⟨oc, od, .func (PySem.W.fnOf x x (Yp st) (Yd st) (Xl st) .none kV doc pm an cdv ct), osl⟩) (c : PySem.W.codeIn K cdv x = true) (k : PySem.W.keepIn K (.ref f) = true) : Def K mg x st [p0, p1]:=⟨f, _, ZO l c k, (ZO l c k).binds fun _ _ _ _ _ _ us hl=>(by obtain ⟨_, _, rfl⟩:=CO hl; exact hb ..), PySem.W.mg_of X G a⟩
theorem CG {K : PySem.W.Frag} {mg : Str -> Option Value} {h : Heap} (X : K.In h) (G : h.Ns mainGlobals mg) {x p0 p1 p2 : Str} {st : Stmt} {f : Addr} {oc : Value} {od an : Option Addr} {osl : Array (Option Value)} {kV doc pm cdv ct : Value} (hb : ∀ (kV doc pm : Value) (an : Option Addr) (cdv ct u0 u1 u2 : Value), bindArgs (PySem.W.fnOf x x (Yp st) (Yd st) (Xl st) .none kV doc pm an cdv ct) ⟨[u0, u1, u2], []⟩ = pure ([p0, p1, p2].zip [u0, u1, u2])) (a : PySem.W.nsIn K mainGlobals x = some (some (.ref f))) (l : K.lookup f = some ⟨oc, od, .func (PySem.W.fnOf x x (Yp st) (Yd st) (Xl st) .none kV doc pm an cdv ct), osl⟩) (c : PySem.W.codeIn K cdv x = true) (k : PySem.W.keepIn K (.ref f) = true) : Def K mg x st [p0, p1, p2]:=⟨f, _, ZO l c k, (ZO l c k).binds fun _ _ _ _ _ _ us hl=>(by obtain ⟨_, _, _, rfl⟩:=CY hl; exact hb ..), PySem.W.mg_of X G a⟩
theorem Ee {K : PySem.W.Frag} {mg : Str -> Option Value} {h : Heap} (X : K.In h) (G : h.Ns mainGlobals mg) {x p0 p1 p2 p3 p4 : Str} {st : Stmt} {f : Addr} {oc : Value} {od an : Option Addr} {osl : Array (Option Value)} {kV doc pm cdv ct : Value} (hb : ∀ (kV doc pm : Value) (an : Option Addr) (cdv ct u0 u1 u2 u3 u4 : Value), bindArgs (PySem.W.fnOf x x (Yp st) (Yd st) (Xl st) .none kV doc pm an cdv ct) ⟨[u0, u1, u2, u3, u4], []⟩ = pure ([p0, p1, p2, p3, p4].zip [u0, u1, u2, u3, u4])) (a : PySem.W.nsIn K mainGlobals x = some (some (.ref f))) (l : K.lookup f = some ⟨oc, od, .func (PySem.W.fnOf x x (Yp st) (Yd st) (Xl st) .none kV doc pm an cdv ct), osl⟩) (c : PySem.W.codeIn K cdv x = true) (k : PySem.W.keepIn K (.ref f) = true) : Def K mg x st [p0, p1, p2, p3, p4]:=⟨f, _, ZO l c k, (ZO l c k).binds fun _ _ _ _ _ _ us hl=>(by obtain ⟨_, _, _, _, _, rfl⟩:=BR hl; exact hb ..), PySem.W.mg_of X G a⟩
theorem Bq {l : PySem.W.OpenLaw} {w : World} {K : PySem.W.Frag} {h : Heap} {mg : Str -> Option Value} {fa f : Addr} {tk0 : Tok} (X : K.In h) (G : h.Ns mainGlobals mg) (hfa : mg "law" = some (.ref fa)) {od an : Option Addr} {sl : Array (Option Value)} {oc kV dc pm cd ct : Value}
    (D1 : Def K mg "refuse_above" YV ["most", "size"])
    (D2 : Def K mg "like" K3 ["one", "other"])
    (D3 : Def K mg "refuse_big" Zj ["one", "other"])
    (D4 : Def K mg "searched" ZT ["one", "other"])
    (D5 : Def K mg "longer_images" Ym ["images", "size"])
    (D6 : Def K mg "first_breach" YW ["one", "other", "images"])
    (D7 : Def K mg "equation_broken" Yz ["one", "other", "images", "a", "b"])
    (D8 : Def K mg "_law_cell" Gh ["_law_script", "_law_place"])
    (D9 : Def K mg "_law_mix" DA ["_law_cell_here", "_law_k"])
    (D10 : Def K mg "_law_row" Dz ["_law_script", "_law_place", "_law_sizes"])
    (D11 : Def K mg "_law_cell_of" QA ["_law_way", "_law_size", "_law_factor", "_law_a", "_law_b"])
    (D12 : Def K mg "_law_common" Q4 ["_law_one", "_law_other"])
    (D13 : Def K mg "_law_made" VQ ["_law_way", "_law_size", "_law_factor"])
    (D14 : Def K mg "_law_ordered" Qq ["_law_some", "_law_count"])
    (D15 : Def K mg "_law_relaid" Qf ["_law_some", "_law_spots"])
    (D16 : Def K mg "_law_table" Vu ["_law_script", "_law_place", "_law_most"])
    (D17 : Def K mg "_law_stands" Jl ["_law_one", "_law_other", "_law_images"])
    (D18 : Def K mg "_law_longer" Qb ["_law_images", "_law_size"])
    (D19 : Def K mg "_law_every" VF ["_law_one", "_law_other"])
    (D20 : Def K mg "_law_copied" Qh ["_law_some"])
    (D21 : Def K mg "_law_rare" Ge ["_law_way", "_law_size"])
    (D22 : Def K mg "_law_pair" KK ["_law_script", "_law_most"])
    (D23 : Def K mg "_law_right" VC ["_law_one", "_law_other"])
    (a : PySem.W.nsIn K mainGlobals "law" = some (some (.ref f))) (l0 : K.lookup f = some ⟨oc, od, .func (PySem.W.fnOf "law" "law" (Yp Q3) (Yd Q3) (Xl Q3) .none kV dc pm an cd ct), sl⟩) (c : PySem.W.codeIn K cd "law" = true) (k : PySem.W.keepIn K (.ref f) = true)
    (z1 : PySem.W.nsIn K mainGlobals "abs" = some none)
    (z2 : PySem.W.nsIn K mainGlobals "bool" = some none)
    (z3 : PySem.W.nsIn K mainGlobals "int" = some none)
    (z4 : PySem.W.nsIn K mainGlobals "isinstance" = some none)
    (z5 : PySem.W.nsIn K mainGlobals "len" = some none)
    (z6 : PySem.W.nsIn K mainGlobals "list" = some none)
    (z7 : PySem.W.nsIn K mainGlobals "max" = some none)
    (z8 : PySem.W.nsIn K mainGlobals "range" = some none)
    (w0 : PySem.W.nsIn K mainGlobals "MOST_TO_COMPARE" = some (some (.int 6 tk0)))
    : ∃ fd : FuncData, (∀ (s : Shared) (v : Value), BindsTo s fd ⟨[v], []⟩ [("_law_script", v)]) /\ ∀ base : Heap, K.In base -> base.Ns mainGlobals mg -> FnOk l.prog w K mg base CX0 6 fa fd ["_law_script"] (sp1 (rL Xb) (oF Yc) Vp K):=by
  have e:=hfa.symm.trans (PySem.W.mg_of X G a)
  cases e
  have N : ∀ {x : Str}, PySem.W.nsIn K mainGlobals x = some none -> mg x = none:=fun z=>PySem.W.mg_none_of X G z
  have Z : Blt mg:=⟨N z1, N z2, N z3, N z4, N z5, N z6, N z7, N z8, ⟨_, PySem.W.mg_of X G w0, _, rfl⟩⟩
  refine ⟨PySem.W.fnOf "law" "law" (Yp Q3) (Yd Q3) (Xl Q3) .none kV dc pm an cd ct, fun s v=>.of_eq rfl, fun base _ _=>?_⟩
  have g_cell:=DX (P:=l.prog) (w:=w) (base:=base) D8  Z
  have g_mix:=CC (P:=l.prog) (w:=w) (base:=base) D9  Z
  have g_row:=CF (P:=l.prog) (w:=w) (base:=base) D10 g_cell g_mix Z
  have g_common:=Kj (P:=l.prog) (w:=w) (base:=base) D12  Z
  have g_cell_of:=UM (P:=l.prog) (w:=w) (base:=base) D11  Z
  have g_made:=DF (P:=l.prog) (w:=w) (base:=base) D13 g_common g_cell_of Z
  have g_relaid:=KM (P:=l.prog) (w:=w) (base:=base) D15  Z
  have g_ordered:=UD (P:=l.prog) (w:=w) (base:=base) D14  Z
  have g_table:=Fe (P:=l.prog) (w:=w) (base:=base) D16 g_row g_made g_relaid g_ordered Z
  have g_rare:=F2 (P:=l.prog) (w:=w) (base:=base) D21  Z
  have g_pair:=Du (P:=l.prog) (w:=w) (base:=base) D22 g_row g_table g_rare g_made g_relaid g_ordered Z
  have g_longer:=Km (P:=l.prog) (w:=w) (base:=base) D18  Z
  have g_stands:=UX (P:=l.prog) (w:=w) (base:=base) D17  Z
  have g_every:=GC (P:=l.prog) (w:=w) (base:=base) D19 g_longer g_stands Z
  have g_refuse_above:=Qp (P:=l.prog) (w:=w) (base:=base) D1  Z
  have g_refuse_big:=Q5 (P:=l.prog) (w:=w) (base:=base) D3 g_refuse_above Z
  have g_equation_broken:=ZE (P:=l.prog) (w:=w) (base:=base) D7  Z
  have g_first_breach:=Qo (P:=l.prog) (w:=w) (base:=base) D6 g_equation_broken Z
  have g_longer_images:=Qa (P:=l.prog) (w:=w) (base:=base) D5  Z
  have g_searched:=VA (P:=l.prog) (w:=w) (base:=base) D4 g_first_breach g_longer_images Z
  have g_like:=Cb (P:=l.prog) (w:=w) (base:=base) D2 g_refuse_big g_searched Z
  have g_copied:=KY (P:=l.prog) (w:=w) (base:=base) D20  Z
  have g_right:=GH (P:=l.prog) (w:=w) (base:=base) D23 g_every g_like g_copied g_relaid Z
  exact Bh (P:=l.prog) (w:=w) (base:=base) (ZO (st:=Q3) l0 c k) g_pair g_right g_row Z
theorem Eo {l : PySem.W.OpenLaw} {q : Program} {loose : List Str} {XP : (Str -> Option Value) -> Heap -> Prop} {YP : World -> Heap -> Prop} {d : DefRec} {K : Params -> PySem.W.Frag} (hn : l.most = some 63) (hdf : d.params.defaults = [])
    (hY : ∀ (w : World) (h : Heap), YP w h -> (K w.params).In h)
    (F : ∀ (w : World) (mg : Str -> Option Value) (fa : Addr) (h : Heap), (K w.params).In h -> h.Ns mainGlobals mg -> mg d.name = some (.ref fa) ->
      ∃ fd : FuncData, (∀ (s : Shared) (u : Value), BindsTo s fd ⟨[u], []⟩ [("_law_script", u)]) /\ ∀ base : Heap, (K w.params).In base -> base.Ns mainGlobals mg -> FnOk l.prog w (K w.params) mg base CX0 6 fa fd ["_law_script"] (sp1 (rL Xb) (oF Yc) Vp (K w.params))) :
    PySem.W.WalkO q loose XP YP l.row.toRowW d [] (fun f vs=>PySem.call f vs):=
  L2.Db (n:=63) (k:=6) (x:="_law_script") (CX:=fun _=>CX0) (sp:=fun w=>sp1 (rL Xb) (oF Yc) Vp (K w.params)) hn (by decide) hdf ⟨rfl, by decide, by decide⟩ hY F (fun _ _ a ns hl _ hS=>⟨.ref a, ns, true, rfl, ⟨a, _, rfl, hS, Vf ns⟩, GG ns hl, fun v C H' w m ho=>ho.2⟩) fun _ _ _ _ _ z=>z
end My
open PySem PySem.W PyProof.Rows
set_option maxRecDepth 100000 in
set_option maxHeartbeats 0 in
theorem PySem.Challenge.cw_plait_k43_least_images_holds : PySem.Challenge.rw_plait_k43_least_images.Holds := by
  w_on; o_law; k_head; (case hw => w_witness2)
  k_fill
  refine My.Eo (l := PySem.Challenge.rw_plait_k43_least_images) rfl rfl (fun w h Y => PySem.W.kIn_of Y) ?F
  case F =>
    intro w mg fa h KX G hmg
    refine' My.Bq KX G hmg (My.VD KX G (by intros; rfl) ?a1 ?l1 ?c1 ?k1) (My.VD KX G (by intros; rfl) ?a2 ?l2 ?c2 ?k2) (My.VD KX G (by intros; rfl) ?a3 ?l3 ?c3 ?k3) (My.VD KX G (by intros; rfl) ?a4 ?l4 ?c4 ?k4) (My.VD KX G (by intros; rfl) ?a5 ?l5 ?c5 ?k5) (My.CG KX G (by intros; rfl) ?a6 ?l6 ?c6 ?k6) (My.Ee KX G (by intros; rfl) ?a7 ?l7 ?c7 ?k7) (My.VD KX G (by intros; rfl) ?a8 ?l8 ?c8 ?k8) (My.VD KX G (by intros; rfl) ?a9 ?l9 ?c9 ?k9) (My.CG KX G (by intros; rfl) ?a10 ?l10 ?c10 ?k10) (My.Ee KX G (by intros; rfl) ?a11 ?l11 ?c11 ?k11) (My.VD KX G (by intros; rfl) ?a12 ?l12 ?c12 ?k12) (My.CG KX G (by intros; rfl) ?a13 ?l13 ?c13 ?k13) (My.VD KX G (by intros; rfl) ?a14 ?l14 ?c14 ?k14) (My.VD KX G (by intros; rfl) ?a15 ?l15 ?c15 ?k15) (My.CG KX G (by intros; rfl) ?a16 ?l16 ?c16 ?k16) (My.CG KX G (by intros; rfl) ?a17 ?l17 ?c17 ?k17) (My.VD KX G (by intros; rfl) ?a18 ?l18 ?c18 ?k18) (My.VD KX G (by intros; rfl) ?a19 ?l19 ?c19 ?k19) (My.Ei KX G (by intros; rfl) ?a20 ?l20 ?c20 ?k20) (My.VD KX G (by intros; rfl) ?a21 ?l21 ?c21 ?k21) (My.VD KX G (by intros; rfl) ?a22 ?l22 ?c22 ?k22) (My.VD KX G (by intros; rfl) ?a23 ?l23 ?c23 ?k23) ?a24 ?l24 ?c24 ?k24 ?z1 ?z2 ?z3 ?z4 ?z5 ?z6 ?z7 ?z8 ?w0
    (case a1 => k_is); (case l1 => k_is); (case c1 => k_is); (case k1 => k_is); (case a2 => k_is); (case l2 => k_is); (case c2 => k_is); (case k2 => k_is); (case a3 => k_is); (case l3 => k_is); (case c3 => k_is); (case k3 => k_is); (case a4 => k_is); (case l4 => k_is); (case c4 => k_is); (case k4 => k_is); (case a5 => k_is); (case l5 => k_is); (case c5 => k_is); (case k5 => k_is); (case a6 => k_is); (case l6 => k_is); (case c6 => k_is); (case k6 => k_is); (case a7 => k_is); (case l7 => k_is); (case c7 => k_is); (case k7 => k_is); (case a8 => k_is); (case l8 => k_is); (case c8 => k_is); (case k8 => k_is); (case a9 => k_is); (case l9 => k_is); (case c9 => k_is); (case k9 => k_is); (case a10 => k_is); (case l10 => k_is); (case c10 => k_is); (case k10 => k_is); (case a11 => k_is); (case l11 => k_is); (case c11 => k_is); (case k11 => k_is); (case a12 => k_is); (case l12 => k_is); (case c12 => k_is); (case k12 => k_is); (case a13 => k_is); (case l13 => k_is); (case c13 => k_is); (case k13 => k_is); (case a14 => k_is); (case l14 => k_is); (case c14 => k_is); (case k14 => k_is); (case a15 => k_is); (case l15 => k_is); (case c15 => k_is); (case k15 => k_is); (case a16 => k_is); (case l16 => k_is); (case c16 => k_is); (case k16 => k_is); (case a17 => k_is); (case l17 => k_is); (case c17 => k_is); (case k17 => k_is); (case a18 => k_is); (case l18 => k_is); (case c18 => k_is); (case k18 => k_is); (case a19 => k_is); (case l19 => k_is); (case c19 => k_is); (case k19 => k_is); (case a20 => k_is); (case l20 => k_is); (case c20 => k_is); (case k20 => k_is); (case a21 => k_is); (case l21 => k_is); (case c21 => k_is); (case k21 => k_is); (case a22 => k_is); (case l22 => k_is); (case c22 => k_is); (case k22 => k_is); (case a23 => k_is); (case l23 => k_is); (case c23 => k_is); (case k23 => k_is); (case a24 => k_is); (case l24 => k_is); (case c24 => k_is); (case k24 => k_is); (case z1 => k_is); (case z2 => k_is); (case z3 => k_is); (case z4 => k_is); (case z5 => k_is); (case z6 => k_is); (case z7 => k_is); (case z8 => k_is); (case w0 => k_is)
