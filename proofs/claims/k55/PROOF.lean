import PyProof.Rows.All
import Wide.All
import OpenK.AllK
import Wide.FinOn
import Lean
import PyProof.EqAt
import PyProof.EqKinds
import PyProof.TupleCall
import PySem.Challenge.RW_plait_k55_one_colour_and_pushed
set_option Elab.async false
set_option linter.all false
set_option maxRecDepth 100000
set_option maxHeartbeats 4000000
namespace L2
open PySem PySem.Spec PyProof.Rows
noncomputable abbrev Key:=Sum Int Str
noncomputable def Fj : Key -> Value -> Bool
  | .inl k, v=>Value.isInt k v
  | .inr x, v=>Value.isStrOf x v
noncomputable def Mb (w : World) : Key -> Int
  | .inl k=>hashInt k
  | .inr x=>hashStr w x
theorem YA : ∀ {k : Key} {v : Value}, Fj k v = true -> (∃ i t, k = Sum.inl i /\ v = Value.int i t) ∨ (∃ x t, k = Sum.inr x /\ v = Value.str x t)
  | .inl i, v, h=>by
    obtain ⟨t, e⟩:=Value.isInt_shape (k:=i) (v:=v) h
    exact .inl ⟨i, t, rfl, e⟩
  | .inr x, v, h=>by
    obtain ⟨t, e⟩:=Value.isStrOf_shape (x:=x) (v:=v) h
    exact .inr ⟨x, t, rfl, e⟩
theorem F9 (i : Int) (t : Tok) : Fj (.inl i) (.int i t) = true:=by simp [Fj, Value.isInt]
theorem Dv (x : Str) (t : Tok) : Fj (.inr x) (.str x t) = true:=by simp [Fj, Value.isStrOf]
theorem Lb (a b : Int) : decide ((Sum.inl a : Key) = Sum.inl b) = (a == b):=by
  by_cases e : a = b
  . subst e; simp
  . have h : ¬ (Sum.inl a : Key) = Sum.inl b := fun q => e (Sum.inl.inj q)
    rw [decide_eq_false h]
    exact (beq_eq_false_iff_ne.mpr e).symm
theorem IM (a b : Str) : decide ((Sum.inr a : Key) = Sum.inr b) = decide (a = b):=by
  by_cases e : a = b
  . subst e; simp
  . have h : ¬ (Sum.inr a : Key) = Sum.inr b := fun q => e (Sum.inr.inj q)
    rw [decide_eq_false h, decide_eq_false e]
theorem IJ (a : Int) (b : Str) : decide ((Sum.inl a : Key) = Sum.inr b) = false:=decide_eq_false (fun q=>nomatch q)
theorem H9 (a : Str) (b : Int) : decide ((Sum.inr a : Key) = Sum.inl b) = false:=decide_eq_false (fun q=>nomatch q)
noncomputable def Zn (prog : Program) (w : World) : PySem.KeyKind prog w Key where
  is:=Fj
  hash:=Mb w
  inj:=fun v a b ha hb=>by
    rcases YA ha with ⟨i, t, rfl, rfl⟩ | ⟨x, t, rfl, rfl⟩
    . rcases YA hb with ⟨j, u, rfl, e⟩ | ⟨y, u, rfl, e⟩
      . injection e with e1 _; rw [e1]
      . exact nomatch e
    . rcases YA hb with ⟨j, u, rfl, e⟩ | ⟨y, u, rfl, e⟩
      . exact nomatch e
      . injection e with e1 _; rw [e1]
  byValue := fun k v h => by
    rcases YA h with ⟨i, t, rfl, rfl⟩ | ⟨x, t, rfl, rfl⟩ <;> rfl
  pyHash:=fun hv h=>by
    rcases YA hv with ⟨i, t, rfl, rfl⟩ | ⟨x, t, rfl, rfl⟩
    . exact wpAny_pyHash_int h
    . exact wpAny_pyHash_str h
  eqBool:=fun hu hv h=>by
    rcases YA hu with ⟨i, t, rfl, rfl⟩ | ⟨x, t, rfl, rfl⟩
    . rcases YA hv with ⟨j, u, rfl, rfl⟩ | ⟨y, u, rfl, rfl⟩
      . rw [Lb] at h; exact wpAny_eqBool_int h
      . rw [IJ] at h; exact SeqAt.EqAt.int_str i t y u _ _ _ _ h
    . rcases YA hv with ⟨j, u, rfl, rfl⟩ | ⟨y, u, rfl, rfl⟩
      . rw [H9] at h; exact SeqAt.EqAt.str_int x t j u _ _ _ _ h
      . rw [IM] at h; exact wpAny_eqBool_str h
  «strs»:=fun k x t v h=>by
    rcases YA h with ⟨i, u, rfl, e⟩ | ⟨y, u, rfl, e⟩
    . exact nomatch e
    . injection e with e1 _
      subst e1
      cases v <;> rfl
theorem Gk (prog : Program) (w : World) (i : Int) (t : Tok) : (Zn prog w).is (.inl i) (.int i t) = true:=F9 i t
theorem Gd (prog : Program) (w : World) (x : Str) (t : Tok) : (Zn prog w).is (.inr x) (.str x t) = true:=Dv x t
end L2
namespace L2
open PySem PySem.Spec PyProof.Rows
inductive V where
  | non | bl (b : Bool) | int (i : Int) | str (x : Str) | byt (b : Array UInt8) | flt (b : UInt64) | ref (a : Addr) | ty (n : String)
  deriving DecidableEq
noncomputable def Yw : V -> Value -> Prop
  | .non, u=>u = Value.none
  | .bl b, u=>u = Value.bool b
  | .int i, u=>∃ t, u = Value.int i t
  | .str x, u=>∃ t, u = Value.str x t
  | .byt b, u=>∃ t, u = Value.bytes b t
  | .flt b, u=>∃ t, u = Value.float b t
  | .ref a, u=>u = Value.ref a
  | .ty n, u=>u = Value.type n
noncomputable abbrev Yj : List V -> List Value -> Prop:=Paired Yw
theorem Yj.length {xs : List V} {us : List Value} (r : Yj xs us) : xs.length = us.length:=Paired.length r
theorem Yj.get : ∀ {xs : List V} {us : List Value} {i : Nat} {x : V}, Yj xs us -> xs[i]? = some x -> ∃ u, us[i]? = some u /\ Yw x u
  | _, _, _, _, .nil, e=>by simp at e
  | _, _, 0, _, .cons r _, e=>by simp at e; subst e; exact ⟨_, rfl, r⟩
  | _, _, i + 1, x, .cons _ t, e=>by
    obtain ⟨u, h1, h2⟩:=Yj.get (i:=i) (x:=x) t (by simpa using e)
    exact ⟨u, by simpa using h1, h2⟩
theorem Yj.set {x : V} {u : Value} (r : Yw x u) : ∀ {xs : List V} {us : List Value} (i : Nat), Yj xs us -> Yj (xs.set i x) (us.set i u)
  | _, _, _, .nil=>.nil
  | _, _, 0, .cons _ t=>.cons r t
  | _, _, i + 1, .cons q t=>.cons q (Yj.set r i t)
theorem Yj.append : ∀ {xs ys : List V} {us ws : List Value}, Yj xs us -> Yj ys ws -> Yj (xs ++ ys) (us ++ ws):=fun p s=>by
  induction p with
  | nil=>exact s
  | cons r _ ih=>exact .cons r ih
theorem Yj.take : ∀ {xs : List V} {us : List Value} (n : Nat), Yj xs us -> Yj (xs.take n) (us.take n)
  | _, _, 0, _=>.nil
  | _, _, _ + 1, .nil=>.nil
  | _, _, n + 1, .cons r t=>.cons r (Yj.take n t)
theorem Yj.drop : ∀ {xs : List V} {us : List Value} (n : Nat), Yj xs us -> Yj (xs.drop n) (us.drop n)
  | _, _, 0, r=>r
  | _, _, _ + 1, .nil=>.nil
  | _, _, n + 1, .cons _ t=>Yj.drop n t
noncomputable def Fv : Option V -> Option Value -> Prop
  | some v, some u=>Yw v u
  | none, none=>True
  | _, _=>False
noncomputable def KV {κ : Type} : List (κ × V) -> List (κ × Value) -> Prop:=Paired fun (p : κ × V) (q : κ × Value)=>p.1 = q.1 /\ Yw p.2 q.2
noncomputable def kV : Key -> V
  | .inl i=>.int i
  | .inr x=>.str x
inductive HO where
  /-- a list -/
  | lst (xs : List V)
  /-- a tuple (never changes) -/
  | tup (xs : List V)
  /-- a dict whose keys are ints and texts; one whose keys are tuples of ints and texts (the empty one is both) -/
  | dK (kvs : List (Key × V)) | dT (kvs : List (List Key × V))
  /-- a set of ints: its members, its size -/
  | set (S : Int -> Bool) (n : Nat)
  /-- an instance of the class at C, its dict at dx, its attributes -/
  | ins (C dx : Addr) (fs : List (Str × V))
  /-- the dict of the instance at x -/
  | own (x : Addr)
  /-- the dict of an exception -/
  | xd (fs : List (Str × V))
  /-- a bound method, f of x -/
  | met (f x : Addr)
  /-- a range object lo, lo + 1, .. below hi -/
  | rng (lo hi : Int)
  /-- a thing that is known to the object (the script; a dict while a loop walks it): read, never written while it is so -/
  | frz (o : Obj) (u : HO)
  /-- a code object's table -/
  | tbl (ps : Array Value)
  /-- any other thing, by what is true of its one object (a def of one's own: SetO a S n:=HO.ext fun h=>..) -/
  | ext (φ : Heap -> Prop)
noncomputable abbrev Hp:=Addr -> Option HO
noncomputable def upd (H : Hp) (a : Addr) (o : HO) : Hp:=fun b=>if b = a then some o else H b
theorem YM {H : Hp} {a : Addr} {o : HO} : upd H a o a = some o:=by unfold upd; rw [if_pos rfl]
theorem XQ {H : Hp} {a b : Addr} {o : HO} (h : b ≠ a) : upd H a o b = H b:=by unfold upd; rw [if_neg h]
theorem LG {H : Hp} {a b : Addr} {o u : HO} (h : H a = some o) (h' : H b = some u) (d : o ≠ u) : a ≠ b:=by
  intro e; subst e; rw [h] at h'; exact d (Option.some.inj h')
theorem XR {H : Hp} {a b : Addr} {o : HO} (h : H a = some o) (h' : H b = none) : a ≠ b:=by
  intro e; subst e; rw [h] at h'; cases h'
section
variable (P : Program) (w : World)
noncomputable def Y5 (H : Hp) (h : Heap) (a : Addr) : HO -> Prop
  | .lst xs=>xs.length <= sizeLine /\ ∃ (its : List Value) (n : Nat), Yj xs its /\ h.get? a = some { cls:=.type "list", data:=.seq its.toArray n }
  | .tup xs=>xs.length <= sizeLine /\ ∃ its : List Value, Yj xs its /\ IsTup h a its.toArray
  | .dK kvs=>kvs.length <= sizeLine /\ (a == sysModules) = false /\ ∃ vs, KV kvs vs /\ h.DictOf (Zn P w) a vs
  | .dT kvs=>kvs.length <= sizeLine /\ (a == sysModules) = false /\ ∃ xs : List (List Key × Addr × Value),
      Paired (fun (p : List Key × V) (q : List Key × Addr × Value)=>p.1 = q.1 /\ H q.2.1 = some (.tup (p.1.map kV)) /\ Yw p.2 q.2.2) kvs xs /\
      ∃ o es ep, h.get? a = some o /\ o.ExactDict /\ o.data = .dict es ep /\ es.toList = xs.map (entryOfKey (tupleKind (Zn P w))) /\ (xs.map (·.1)).Nodup
  | .set S n=>h.SetOf (intKind P w) a S n
  | .ins C dx fs=>H dx = some (.own a) /\ fs.length <= 1000 /\ dx ≠ a /\ h.get? a = some (PySem.W.instObj C dx) /\
      ∃ mA, h.Ns1 dx mA /\ (∀ f, Fv (fs.lookup f) (mA f)) /\ PySem.Within mA (fs.map (·.1))
  | .own _=>∃ o, h.get? a = some o
  | .xd fs=>∃ mA, h.Ns1 a mA /\ ∀ f, Fv (fs.lookup f) (mA f)
  | .rng lo hi=>∃ t u v, h.get? a = some { cls:=.type "range", data:=.fields #[.int lo t, .int hi u, .int 1 v] }
  | .frz o u=>h.get? a = some o /\ Y5 H h a u
  | .tbl ps=>h.get? a = some { cls:=.none, data:=.fields ps }
  | .met f x=>h.get? a = some (PySem.W.methodObj (.ref f) (.ref x))
  | .ext φ=>φ h /\ (∃ o, h.get? a = some o) /\ ∀ h1 h2 : Heap, φ h1 -> (∀ o, h1.get? a = some o -> h2.get? a = some o) -> φ h2
noncomputable def HOk (H : Hp) (h : Heap) : Prop:=∀ a o, H a = some o -> Y5 P w H h a o
end
section
variable {P : Program} {w : World} {H H' : Hp} {h h' : Heap} {a : Addr} {o : HO}
theorem Y5.lt (x : Y5 P w H h a o) : a < h.objs.size:=by
  cases o with
  | lst xs=>obtain ⟨_, _, _, _, e⟩:=x; exact Heap.lt_size e
  | tup xs=>obtain ⟨_, _, _, p⟩:=x; exact p.lt
  | dK kvs=>obtain ⟨_, _, _, _, o, _, _, e, _⟩:=x; exact Heap.lt_size e
  | dT kvs=>obtain ⟨_, _, _, _, o, _, _, e, _⟩:=x; exact Heap.lt_size e
  | set S n=>obtain ⟨o, _, _, _, e, _⟩:=x; exact Heap.lt_size e
  | ins C dx fs=>obtain ⟨_, _, _, e, _⟩:=x; exact Heap.lt_size e
  | own y=>obtain ⟨_, e⟩:=x; exact Heap.lt_size e
  | xd fs=>obtain ⟨_, ⟨_, _, _, e, _⟩, _⟩:=x; exact Heap.lt_size e
  | rng lo hi=>obtain ⟨_, _, _, e⟩:=x; exact Heap.lt_size e
  | frz ob u=>obtain ⟨e, _⟩:=x; exact Heap.lt_size e
  | tbl ps=>exact Heap.lt_size (show h.get? a = some _ from x)
  | met f y=>exact Heap.lt_size (show h.get? a = some _ from x)
  | ext φ=>obtain ⟨_, ⟨_, e⟩, _⟩:=x; exact Heap.lt_size e
theorem Paired.mapP {α β : Type} {F G : α -> β -> Prop} : ∀ {l₁ : List α} {l₂ : List β}, Paired F l₁ l₂ -> (∀ a b, F a b -> G a b) -> Paired G l₁ l₂:=fun p f=>by
  induction p with
  | nil=>exact .nil
  | cons r _ ih=>exact .cons (f _ _ r) ih
theorem Y5.stay (x : Y5 P w H h a o) (k : ∀ b u, (b = a ∨ H b = some (.own a)) -> h.get? b = some u -> h'.get? b = some u)
    (ho : ∀ b, H b = some (.own a) -> H' b = some (.own a)) (ht : ∀ b xs, H b = some (.tup xs) -> H' b = some (.tup xs)) : Y5 P w H' h' a o:=by
  induction o with
  | lst xs=>obtain ⟨z, its, n, r, e⟩:=x; exact ⟨z, its, n, r, k _ _ (.inl rfl) e⟩
  | tup xs=>obtain ⟨z, its, r, ob, e, c⟩:=x; exact ⟨z, its, r, ob, k _ _ (.inl rfl) e, c⟩
  | dK kvs=>obtain ⟨z, y, vs, r, ob, es, ep, e, c⟩:=x; exact ⟨z, y, vs, r, ob, es, ep, k _ _ (.inl rfl) e, c⟩
  | dT kvs=>
    obtain ⟨z, y, xs, r, ob, es, ep, e, c⟩:=x
    exact ⟨z, y, xs, Paired.mapP r fun p q z=>⟨z.1, ht _ _ z.2.1, z.2.2⟩, ob, es, ep, k _ _ (.inl rfl) e, c⟩
  | set S n=>obtain ⟨ob, es, ep, t, e, c⟩:=x; exact ⟨ob, es, ep, t, k _ _ (.inl rfl) e, c⟩
  | ins C dx fs=>
    obtain ⟨d, z, ne, e, mA, ⟨od, es, ep, e2, c⟩, r⟩:=x
    exact ⟨ho _ d, z, ne, k _ _ (.inl rfl) e, mA, ⟨od, es, ep, k _ _ (.inr d) e2, c⟩, r⟩
  | own y=>obtain ⟨ob, e⟩:=x; exact ⟨ob, k _ _ (.inl rfl) e⟩
  | xd fs=>obtain ⟨mA, ⟨od, es, ep, e, c⟩, r⟩:=x; exact ⟨mA, ⟨od, es, ep, k _ _ (.inl rfl) e, c⟩, r⟩
  | rng lo hi=>obtain ⟨t, u, v, e⟩:=x; exact ⟨t, u, v, k _ _ (.inl rfl) e⟩
  | frz ob u ih=>obtain ⟨e, q⟩:=x; exact ⟨k _ _ (.inl rfl) e, ih q⟩
  | tbl ps=>
    have e : h.get? a = some { cls:=.none, data:=.fields ps }:=x
    show h'.get? a = some { cls:=.none, data:=.fields ps }
    exact k a _ (.inl rfl) e
  | met f y=>
    have e : h.get? a = some (PySem.W.methodObj (.ref f) (.ref y)):=x
    show h'.get? a = some (PySem.W.methodObj (.ref f) (.ref y))
    exact k a _ (.inl rfl) e
  | ext φ=>obtain ⟨p, ⟨o, e⟩, st⟩:=x; exact ⟨st _ _ p fun o q=>k _ _ (.inl rfl) q, ⟨o, k _ _ (.inl rfl) e⟩, st⟩
theorem HOk.lt (x : HOk P w H h) (e : H a = some o) : a < h.objs.size:=(x a o e).lt
theorem HOk.fresh (x : HOk P w H h) (e : h.objs.size <= a) : H a = none:=by
  cases q : H a with
  | none=>rfl
  | some u=>exact absurd (Nat.lt_of_lt_of_le (x.lt q) e) (Nat.lt_irrefl _)
theorem HOk.kept (x : HOk P w H h) (k : ∀ b u, h.get? b = some u -> h'.get? b = some u) : HOk P w H h':=fun a o e=>
  (x a o e).stay (fun b u _ q=>k b u q) (fun _ q=>q) fun _ _ q=>q
theorem HOk.laid (x : HOk P w H h) (k : ∀ b u, h.get? b = some u -> h'.get? b = some u) (hp : h.objs.size <= a) (new : Y5 P w (upd H a o) h' a o) : HOk P w (upd H a o) h':=fun b u e=>by
  have hn:=x.fresh hp
  by_cases hb : b = a
  . subst hb; rw [YM] at e; cases e; exact new
  . rw [XQ hb] at e
    exact (x b u e).stay (fun c v _ q=>k c v q) (fun c q=>by rw [XQ (XR q hn)]; exact q) fun c xs q=>by rw [XQ (XR q hn)]; exact q
end
noncomputable def Rd (H : Hp) (a : Addr) (u : HO) : Prop:=H a = some u ∨ ∃ o, H a = some (.frz o u)
theorem Rd.of {H : Hp} {a : Addr} {u : HO} (h : H a = some u) : Rd H a u:=.inl h
theorem Rd.ok {P : Program} {w : World} {H : Hp} {h : Heap} {a : Addr} {u : HO} (r : Rd H a u) (x : HOk P w H h) : Y5 P w H h a u:=by
  rcases r with r | ⟨o, r⟩
  . exact x a u r
  . obtain ⟨_, q⟩ := x a _ r
    exact q
noncomputable def Mut : Option HO -> Prop
  | some (.lst _)=>True
  | some (.dK _)=>True
  | some (.dT _)=>True
  | some (.set _ _)=>True
  | some (.ins _ _ _)=>True
  | some (.ext _)=>True
  | _=>False
section
variable {P : Program} {w : World} {H : Hp} {h h' : Heap} {x e : Addr} {o' : HO}
theorem HOk.write (ok : HOk P w H h) (mu : Mut (H x)) (he : e = x ∨ H e = some (.own x)) (k : ∀ b u, b ≠ e -> h.get? b = some u -> h'.get? b = some u) (heo : ∃ u, h'.get? e = some u)
    (new : Y5 P w (upd H x o') h' x o') : HOk P w (upd H x o') h':=fun b u q=>by
  have nown : ∀ c y, H c = some (.own y) -> c ≠ x:=fun c y r z=>by subst z; rw [r] at mu; exact mu
  have ntup : ∀ c xs, H c = some (.tup xs) -> c ≠ x:=fun c xs r z=>by subst z; rw [r] at mu; exact mu
  by_cases hb : b = x
  . subst hb; rw [YM] at q; cases q; exact new
  . rw [XQ hb] at q
    by_cases hbe : b = e
    . have q' : H b = some (.own x):=by
        rcases he with z | z
        . exact absurd (hbe.trans z) hb
        . rw [hbe]; exact z
      rw [q] at q'; cases q'
      obtain ⟨v, hv⟩:=heo
      exact ⟨v, by rw [hbe]; exact hv⟩
    . refine (ok b u q).stay (fun c v hc r => k c v ?_ r) (fun c r => by rw [XQ (nown c b r)]; exact r) fun c xs r => by rw [XQ (ntup c xs r)]; exact r
      rcases hc with rfl | hc
      . exact hbe
      . rintro rfl
        rcases he with z | z
        . exact nown c b hc z
        . rw [hc] at z; cases z; exact hb rfl
end
structure Un (fs ex : List Addr) (H H' : Hp) (h h' : Heap) : Prop where
  keep : ∀ b o, h.get? b = some o -> H b = none -> b ∉ fs -> b ∉ ex -> h'.get? b = some o
  slot : ∀ b o, h.get? b = some o -> H b = none -> b ∈ fs -> b ∉ ex -> ∃ sl, h'.get? b = some { o with slots:=sl }
  free : ∀ b o, h.get? b = some o -> H b = none -> b ∉ ex -> H' b = none
  there : ∀ b o, h.get? b = some o -> b ∉ ex -> ∃ o', h'.get? b = some o'
  tups : ∀ b xs, H b = some (.tup xs) -> H' b = some (.tup xs)
  frzs : ∀ b o u, H b = some (.frz o u) -> H' b = some (.frz o u)
  tbls : ∀ b ps, H b = some (.tbl ps) -> ∃ more, H' b = some (.tbl (ps ++ more))
section
variable {fs fs' ex ex' : List Addr} {H H1 H2 : Hp} {h h1 h2 h' : Heap} {a x e : Addr} {o : HO}
theorem Un.any (u : Un fs ex H H1 h h1) {b : Addr} {ob : Obj} (q : h.get? b = some ob) (n : H b = none) (hx : b ∉ ex) : ∃ sl, h1.get? b = some { ob with slots:=sl }:=by
  by_cases hb : b ∈ fs
  . exact u.slot b ob q n hb hx
  . exact ⟨ob.slots, u.keep b ob q n hb hx⟩
theorem Un.trans (a : Un fs ex H H1 h h1) (b : Un fs ex H1 H2 h1 h2) : Un fs ex H H2 h h2 where
  keep:=fun c ob q n hc hx=>b.keep c ob (a.keep c ob q n hc hx) (a.free c ob q n hx) hc hx
  slot:=fun c ob q n hc hx=>by
    obtain ⟨sl, e1⟩:=a.slot c ob q n hc hx
    obtain ⟨sl', e2⟩:=b.slot c _ e1 (a.free c ob q n hx) hc hx
    exact ⟨sl', e2⟩
  free:=fun c ob q n hx=>by
    obtain ⟨o', e1⟩:=a.there c ob q hx
    exact b.free c o' e1 (a.free c ob q n hx) hx
  there:=fun c ob q hx=>by
    obtain ⟨o', e1⟩:=a.there c ob q hx
    exact b.there c o' e1 hx
  tups:=fun c xs q=>b.tups c xs (a.tups c xs q)
  frzs:=fun c ob xs q=>b.frzs c ob xs (a.frzs c ob xs q)
  tbls:=fun c ps q=>by
    obtain ⟨m1, e1⟩:=a.tbls c ps q
    obtain ⟨m2, e2⟩:=b.tbls c _ e1
    exact ⟨m1 ++ m2, by rw [e2, Array.append_assoc]⟩
theorem Un.kept (k : ∀ b u, h.get? b = some u -> h'.get? b = some u) : Un fs ex H H h h':=
  ⟨fun b ob q _ _ _=>k b ob q, fun b ob q _ _ _=>⟨ob.slots, k b ob q⟩, fun _ _ _ n _=>n, fun b ob q _=>⟨ob, k b ob q⟩, fun _ _ q=>q, fun _ _ _ q=>q, fun _ ps q=>⟨#[], by rw [q]; simp⟩⟩
theorem Un.refl : Un fs ex H H h h:=Un.kept fun _ _ q=>q
theorem Un.laid (k : ∀ b u, h.get? b = some u -> h'.get? b = some u) (hp : h.objs.size <= a) (hn : H a = none) : Un fs ex H (upd H a o) h h' where
  keep:=fun b u q _ _ _=>k b u q
  slot:=fun b u q _ _ _=>⟨u.slots, k b u q⟩
  free:=fun b u q n _=>by rw [XQ (Nat.ne_of_lt (Nat.lt_of_lt_of_le (Heap.lt_size q) hp))]; exact n
  there:=fun b u q _=>⟨u, k b u q⟩
  tups:=fun b xs q=>by rw [XQ (XR q hn)]; exact q
  frzs:=fun b u xs q=>by rw [XQ (XR q hn)]; exact q
  tbls:=fun b ps q=>⟨#[], by rw [XQ (XR q hn), q]; simp⟩
theorem Un.write (mu : Mut (H x)) (he : e = x ∨ H e = some (.own x)) (k : ∀ b u, b ≠ e -> h.get? b = some u -> h'.get? b = some u) (heo : ∃ u, h'.get? e = some u) : Un fs ex H (upd H x o) h h':=by
  have hx : ∀ b, H b = none -> b ≠ x:=fun b n z=>by subst z; rw [n] at mu; exact mu
  have hb : ∀ b, H b = none -> b ≠ e:=fun b n z=>by
    subst z
    rcases he with r | r
    . exact hx b n r
    . rw [n] at r; cases r
  have hm : ∀ b u, H b = some u -> ¬ Mut (some u) -> b ≠ x:=fun b u q nm z=>by subst z; rw [q] at mu; exact nm mu
  refine ⟨fun b u q n _ _=>k b u (hb b n) q, fun b u q n _ _=>⟨u.slots, k b u (hb b n) q⟩, fun b u q n _=>by rw [XQ (hx b n)]; exact n, fun b u q _=>?_,
    fun b xs q=>by rw [XQ (hm b _ q fun z=>z)]; exact q, fun b u xs q=>by rw [XQ (hm b _ q fun z=>z)]; exact q, fun b ps q=>⟨#[], by rw [XQ (hm b _ q fun z=>z), q]; simp⟩⟩
  by_cases hbe : b = e
  . subst hbe; exact heo
  . exact ⟨u, k b u hbe q⟩
theorem Un.mono (u : Un fs ex H H1 h h1) (hs : ∀ b ∈ fs, b ∈ fs') (hx : ∀ b ∈ ex, b ∈ ex') : Un fs' ex' H H1 h h1:=
  ⟨fun b ob q n hb he=>u.keep b ob q n (fun z=>hb (hs b z)) fun z=>he (hx b z), fun _ _ q n _ he=>u.any q n fun z=>he (hx _ z), fun b ob q n he=>u.free b ob q n fun z=>he (hx b z), fun b ob q he=>u.there b ob q fun z=>he (hx b z), u.tups, u.frzs, u.tbls⟩
end
noncomputable def trk (h : Heap) (H : Hp) : List Addr:=(List.range h.objs.size).filter fun a=>(H a).isSome
noncomputable def Bc (h : Heap) (H : Hp) : Heap:=PySem.W.hideAll h (trk h H)
theorem Ci (h : Heap) (H : Hp) : (Bc h H).objs.size = h.objs.size:=PySem.W.hideAll_size _ _
theorem GY {h : Heap} {H : Hp} {b : Addr} {o : Obj} (e : h.get? b = some o) (n : H b = none) : (Bc h H).get? b = some o:=
  PySem.W.hideAll_get _ e fun hm=>by
    have q : (H b).isSome = true:=(List.mem_filter.mp hm).2
    rw [n] at q; simp at q
theorem E5 {h : Heap} {H : Hp} {b : Addr} {o : Obj} (e : (Bc h H).get? b = some o) : h.get? b = some o /\ H b = none:=by
  have e' : h.get? b = some o:=PySem.W.of_hideAll (trk h H) e
  refine ⟨e', ?_⟩
  cases q : H b with
  | none=>rfl
  | some x=>
    have hm : b ∈ trk h H:=List.mem_filter.mpr ⟨List.mem_range.mpr (Heap.lt_size e'), by simp [q]⟩
    have z : (Bc h H).get? b = none:=PySem.W.hideAll_none (trk h H) hm
    rw [z] at e; cases e
noncomputable def Hh (g h : Heap) (L : Addr) : List (Addr × Obj):=(List.range h.objs.size).filterMap fun a=>if a = L ∨ (g.get? a).isSome = true then none else (h.get? a).map fun o=>(a, o)
noncomputable def Qm (g h : Heap) (L d : Addr) : List (Addr × Obj):=(Hh g h L).filter fun p=>decide (p.1 ≠ d)
end L2
namespace L2
open PySem PySem.Spec PyProof.Rows
structure Mod (K : PySem.W.Frag) (mg : Str -> Option Value) (base : Heap) : Prop where
  kin : K.In base
  glob : base.Ns mainGlobals mg
  blt : ∃ mb, base.Ns builtinsNs mb /\ ∀ x : Str, x ≠ "__name__" -> mb x = bootBuiltins x
  nolimit : base.NoLimit
structure Cx where
  prog : Program
  w : World
  K : PySem.W.Frag
  mg : Str -> Option Value
  base : Heap
  A : Around
  N : List Str
  s₀ : Shared
  H₀ : Hp
  env : Env
  outer : List Env
  stack : List Env
  ex : List Addr
  fn : Str -> Bool
  calm : Bool
  pn : List (Addr × Obj)
  xe : Value -> Shared -> Prop
noncomputable def frs (l : List Env) : List Addr:=l.filterMap (·.frame)
noncomputable abbrev Cx.fs (X : Cx) : List Addr:=frs X.outer
noncomputable def Vis (sc : Scope) (x : Str) : Prop:=sc.names.lookup x = some .local ∨ sc.names.lookup x = some .cell ∨ sc.names.lookup x = some .free
noncomputable def Loc (sc : Scope) (x : Str) : Prop:=sc.names.lookup x = some .local ∨ sc.names.lookup x = some .cell
noncomputable def L4 (env : Env) (h : Heap) (m : Str -> Option Value) (x : Str) (u : Value) : Prop:=
  (env.kindOf x = some .local /\ m x = some u) ∨ ((env.kindOf x = some .cell ∨ env.kindOf x = some .free) /\ ∃ c, env.cells.lookup x = some c /\ h.IsCell c (some u))
structure Cx.Ok (X : Cx) : Prop where
  mod : Mod X.K X.mg X.base
  kind : X.env.scope.kind = .function
  glob : X.env.globals = mainGlobals
  blt : X.env.builtins = builtinsNs
  above : X.s₀.heap.objs.size <= X.env.locals
  inj : ∀ x y c, X.env.cells.lookup x = some c -> X.env.cells.lookup y = some c -> x = y
  has : ∀ x, (X.env.kindOf x = some .cell ∨ X.env.kindOf x = some .free) -> ∃ c, X.env.cells.lookup x = some c
  cab : ∀ x c, X.fn x = true -> X.env.cells.lookup x = some c -> X.s₀.heap.objs.size <= c
  hd : X.calm = true -> X.A.handled = none
  frames : X.A.frames = some X.stack
  stk : X.stack = X.outer ∨ (X.stack = X.env :: X.outer /\ X.env.frame = some X.env.locals)
  exf : ∀ b ∈ X.ex, b ≠ X.env.locals /\ ∀ x c, X.env.cells.lookup x = some c -> c ≠ b
  bs : ∀ b o, X.base.get? b = some o -> X.s₀.heap.get? b = some o /\ X.H₀ b = none
  bsz : X.base.objs.size <= X.s₀.heap.objs.size
  noex : ∀ b o, X.base.get? b = some o -> b ∉ X.ex
  exfs : ∀ b ∈ X.ex, b ∉ X.fs
  funs : X.s₀.heap.FunFrames X.base X.outer
  frf : ∀ b ∈ X.fs, X.H₀ b = none
structure Inv (X : Cx) (pins : List (Addr × Obj)) (σ : List (Option V)) (H : Hp) (s : Shared) : Prop where
  ok : X.Ok
  os : s.os = X.s₀.os
  bare : AllBare s.gens
  base : Un X.fs X.ex X.H₀ H X.s₀.heap s.heap
  loc : ∃ m, s.heap.Ns X.env.locals m /\ ∀ (i : Nat) (x : Str) (v : V), X.N[i]? = some x -> σ[i]? = some (some v) -> Vis X.env.scope x -> ∃ u, Yw v u /\ L4 X.env s.heap m x u
  cell : ∀ x c, X.env.cells.lookup x = some c -> ∃ v, s.heap.IsCell c v
  free : H X.env.locals = none
  freeC : ∀ x c, X.env.cells.lookup x = some c -> H c = none
  pin : ∀ p ∈ X.pn ++ pins, s.heap.get? p.1 = some p.2 /\ H p.1 = none /\ p.1 ≠ X.env.locals /\ p.1 ∉ X.fs /\ ∀ v, p.2.data ≠ .cell v
  hok : HOk X.prog X.w H s.heap
  len : σ.length = X.N.length
section
variable {X : Cx} {pins : List (Addr × Obj)} {σ : List (Option V)} {H H' : Hp} {s : Shared} {h' : Heap}
theorem Cx.Ok.nofr (ok : X.Ok) {b : Addr} {o : Obj} (e : X.base.get? b = some o) : b ∉ X.fs:=fun hb=>by
  have:=(ok.funs.mem hb).1
  rw [e] at this; cases this
theorem Inv.bs (I : Inv X pins σ H s) : ∀ b o, X.base.get? b = some o -> s.heap.get? b = some o /\ H b = none:=fun b o e=>
  ⟨I.base.keep b o (I.ok.bs b o e).1 (I.ok.bs b o e).2 (I.ok.nofr e) (I.ok.noex b o e), I.base.free b o (I.ok.bs b o e).1 (I.ok.bs b o e).2 (I.ok.noex b o e)⟩
theorem Inv.bk (I : Inv X pins σ H s) : ∀ b o, X.base.get? b = some o -> s.heap.get? b = some o:=fun b o e=>(I.bs b o e).1
theorem Inv.mod (I : Inv X pins σ H s) : Mod X.K X.mg X.base:=I.ok.mod
theorem Inv.kIn (I : Inv X pins σ H s) : X.K.In s.heap:=I.ok.mod.kin.keeps I.bk
theorem Inv.nolimit (I : Inv X pins σ H s) : s.heap.NoLimit:=I.ok.mod.nolimit.keeps I.bk
theorem Inv.lt (I : Inv X pins σ H s) : X.env.locals < s.heap.objs.size:=let ⟨_, hn, _⟩:=I.loc; hn.lt
theorem Inv.sz (I : Inv X pins σ H s) : X.s₀.heap.objs.size <= s.heap.objs.size:=Nat.le_trans I.ok.above (Nat.le_of_lt I.lt)
theorem Inv.nofs (I : Inv X pins σ H s) {a : Addr} (h : s.heap.objs.size <= a) : a ∉ X.fs:=fun hb=>by
  obtain ⟨_, o, ho, _⟩:=I.ok.funs.mem hb
  exact absurd (Nat.lt_of_lt_of_le (Heap.lt_size ho) (Nat.le_trans I.sz h)) (Nat.lt_irrefl _)
theorem Inv.cne (I : Inv X pins σ H s) : ∀ x c, X.env.cells.lookup x = some c -> c ≠ X.env.locals:=fun x c e z=>by
  obtain ⟨v, o, ho, hd⟩:=I.cell x c e
  obtain ⟨m, ⟨o', es, ep, ho', hd', _⟩, _⟩:=I.loc
  rw [z, ho'] at ho; cases ho; rw [hd'] at hd; cases hd
theorem Inv.funs (I : Inv X pins σ H s) : s.heap.FunFrames X.base X.outer:=by
  have all : ∀ (l : List Env), (∀ b ∈ frs l, b ∈ X.fs) -> X.s₀.heap.FunFrames X.base l -> s.heap.FunFrames X.base l:=by
    intro l
    induction l with
    | nil=>intro _ _; trivial
    | cons env r ih=>
      intro hs hl
      obtain ⟨hk, ⟨L, o, hf, hn, ho, hd⟩, hr⟩:=hl
      have hL : L ∈ X.fs:=hs L (by unfold frs; rw [List.filterMap_cons, hf]; exact List.mem_cons_self)
      obtain ⟨sl, e⟩:=I.base.slot L o ho (I.ok.frf L hL) hL fun z=>I.ok.exfs L z hL
      exact ⟨hk, ⟨L, _, hf, hn, e, hd⟩, ih (fun b hb=>hs b (by unfold frs; rw [List.filterMap_cons, hf]; exact List.mem_cons_of_mem _ hb)) hr⟩
  exact all X.outer (fun _ hb=>hb) I.ok.funs
theorem Inv.stack (I : Inv X pins σ H s) : s.heap.FunFrames X.base X.stack:=by
  rcases I.ok.stk with e | ⟨e, hf⟩
  . rw [e]; exact I.funs
  . rw [e]
    obtain ⟨m, hn, _⟩:=I.loc
    refine .cons (by rw [I.ok.kind]; decide) hf hn ?_ I.funs
    exact Heap.get?_none_of_le (Nat.le_trans I.ok.bsz I.ok.above)
theorem Inv.stkSub (I : Inv X pins σ H s) : ∀ b ∈ frs X.stack, b ∈ X.env.locals :: X.fs:=fun b hb=>by
  rcases I.ok.stk with e | ⟨e, hf⟩
  . rw [e] at hb; exact List.mem_cons_of_mem _ hb
  . rw [e] at hb
    unfold frs at hb
    rw [List.filterMap_cons, hf] at hb
    exact hb
theorem Inv.stkFree (I : Inv X pins σ H s) : ∀ b ∈ frs X.stack, H b = none:=fun b hb=>by
  rcases List.mem_cons.mp (I.stkSub b hb) with e | hb
  . rw [e]; exact I.free
  . obtain ⟨_, o, ho, _⟩ := I.ok.funs.mem hb
    exact I.base.free b o ho (I.ok.frf b hb) fun z=>I.ok.exfs b z hb
theorem Inv.step {g' : Array GenState} {t' : Nat} {d' : Drawn} {ch : List Addr} (I : Inv X pins σ H s)
    (hch : ∀ b ∈ ch, (b ∈ X.ex ∨ X.s₀.heap.objs.size <= b) /\ b ≠ X.env.locals /\ (∀ x c, X.env.cells.lookup x = some c -> c ≠ b) /\ ∀ p ∈ X.pn ++ pins, p.1 ≠ b)
    (keep : ∀ b o, b ≠ X.env.locals -> b ∉ X.fs -> b ∉ ch -> s.heap.get? b = some o -> H b = none -> h'.get? b = some o)
    (slot : ∀ b o, b ≠ X.env.locals -> b ∈ X.fs -> b ∉ ch -> s.heap.get? b = some o -> H b = none -> ∃ sl, h'.get? b = some { o with slots:=sl }) (free : ∀ b o, b ∉ ch -> s.heap.get? b = some o -> H b = none -> H' b = none)
    (there : ∀ b o, b ∉ ch -> s.heap.get? b = some o -> ∃ o', h'.get? b = some o')
    (tups : ∀ b xs, H b = some (.tup xs) -> H' b = some (.tup xs)) (frzs : ∀ b o u, H b = some (.frz o u) -> H' b = some (.frz o u)) (tbls : ∀ b ps, H b = some (.tbl ps) -> ∃ more, H' b = some (.tbl (ps ++ more)))
    (ns : ∀ m, s.heap.Ns X.env.locals m -> h'.Ns X.env.locals m) (hok : HOk X.prog X.w H' h') (hg : AllBare g') :
    Inv X pins σ H' { s with heap:=h', gens:=g', drawn:=d', toks:=t' }:=by
  have neL : ∀ b o, X.s₀.heap.get? b = some o -> b ≠ X.env.locals:=fun b o e=>Nat.ne_of_lt (Nat.lt_of_lt_of_le (Heap.lt_size e) I.ok.above)
  have neC : ∀ b o, X.s₀.heap.get? b = some o -> b ∉ X.ex -> b ∉ ch:=fun b o e hx hb=>by
    rcases (hch b hb).1 with z | z
    . exact hx z
    . exact absurd (Nat.lt_of_lt_of_le (Heap.lt_size e) z) (Nat.lt_irrefl _)
  have cellK : ∀ x c, X.env.cells.lookup x = some c -> ∀ v, s.heap.IsCell c v -> h'.IsCell c v:=fun x c e v ⟨o, ho, hd⟩=>by
    have nch : c ∉ ch:=fun z=>(hch c z).2.2.1 x c e rfl
    by_cases hc : c ∈ X.fs
    . obtain ⟨sl, q⟩ := slot c o (I.cne x c e) hc nch ho (I.freeC x c e)
      exact ⟨_, q, hd⟩
    . exact ⟨o, keep c o (I.cne x c e) hc nch ho (I.freeC x c e), hd⟩
  refine ⟨I.ok, I.os, hg, ⟨fun b o e n hb hx=>?_, fun b o e n hb hx=>?_, fun b o e n hx=>?_, fun b o e hx=>?_, fun b xs e=>tups b xs (I.base.tups b xs e), fun b o xs e=>frzs b o xs (I.base.frzs b o xs e), fun b ps e=>?_⟩, ?_, fun x c e=>?_, ?_, fun x c e=>?_, fun p hp=>?_, hok, I.len⟩
  . exact keep b o (neL b o e) hb (neC b o e hx) (I.base.keep b o e n hb hx) (I.base.free b o e n hx)
  . obtain ⟨sl, e1⟩ := I.base.slot b o e n hb hx
    obtain ⟨sl', e2⟩:=slot b _ (neL b o e) hb (neC b o e hx) e1 (I.base.free b o e n hx)
    exact ⟨sl', e2⟩
  . obtain ⟨o', e1⟩ := I.base.there b o e hx
    exact free b o' (neC b o e hx) e1 (I.base.free b o e n hx)
  . obtain ⟨o', e1⟩ := I.base.there b o e hx
    exact there b o' (neC b o e hx) e1
  . obtain ⟨m1, e1⟩ := I.base.tbls b ps e
    obtain ⟨m2, e2⟩:=tbls b _ e1
    exact ⟨m1 ++ m2, by rw [e2, Array.append_assoc]⟩
  . obtain ⟨m, hn, hl⟩ := I.loc
    refine ⟨m, ns m hn, fun i x v e1 e2 e3=>?_⟩
    obtain ⟨u, r, l⟩:=hl i x v e1 e2 e3
    refine ⟨u, r, ?_⟩
    rcases l with l | ⟨k, c, e, z⟩
    . exact .inl l
    . exact .inr ⟨k, c, e, cellK x c e _ z⟩
  . obtain ⟨v, z⟩ := I.cell x c e
    exact ⟨v, cellK x c e v z⟩
  . obtain ⟨m, ⟨o, _, _, ho, _⟩, _⟩ := I.loc
    exact free _ o (fun z=>(hch _ z).2.1 rfl) ho I.free
  . obtain ⟨v, o, ho, hd⟩ := I.cell x c e
    exact free c o (fun z=>(hch c z).2.2.1 x c e rfl) ho (I.freeC x c e)
  . obtain ⟨e, n, ne, nf, d⟩ := I.pin p hp
    have nch : p.1 ∉ ch:=fun z=>(hch p.1 z).2.2.2 p hp rfl
    exact ⟨keep p.1 p.2 ne nf nch e n, free p.1 p.2 nch e n, ne, nf, d⟩
theorem Inv.un {t' : Nat} (I : Inv X pins σ H s) (u : Un X.fs [] H H' s.heap h') (hok : HOk X.prog X.w H' h') : Inv X pins σ H' { s with heap:=h', toks:=t' }:=by
  obtain ⟨m, ⟨o, es, ep, ho, r⟩, _⟩:=id I.loc
  obtain ⟨sl, hL⟩:=u.any ho I.free (by simp)
  exact I.step (g':=s.gens) (d':=s.drawn) (ch:=[]) (fun _ z=>nomatch z) (fun b o _ hb _ e n=>u.keep b o e n hb (by simp)) (fun b o _ hb _ e n=>u.slot b o e n hb (by simp)) (fun b o _ e n=>u.free b o e n (by simp)) (fun b o _ e=>u.there b o e (by simp)) u.tups u.frzs u.tbls (fun m' hm=>by
    obtain ⟨o', es', ep', ho', r'⟩:=hm
    rw [ho] at ho'; cases ho'
    exact ⟨_, es', ep', hL, r'⟩) hok I.bare
theorem Inv.call {g' : Array GenState} {t' : Nat} {d' : Drawn} {ch : List Addr} (I : Inv X pins σ H s) (u : Un (frs X.stack) ch H H' s.heap h') (hok : HOk X.prog X.w H' h') (hg : AllBare g')
    (hch : ∀ b ∈ ch, (b ∈ X.ex ∨ X.s₀.heap.objs.size <= b) /\ b ≠ X.env.locals /\ (∀ x c, X.env.cells.lookup x = some c -> c ≠ b) /\ ∀ p ∈ X.pn ++ pins, p.1 ≠ b) :
    Inv X pins σ H' { s with heap:=h', gens:=g', drawn:=d', toks:=t' }:=by
  obtain ⟨m, ⟨o, es, ep, ho, r⟩, _⟩:=id I.loc
  obtain ⟨sl, hL⟩:=u.any ho I.free fun z=>(hch _ z).2.1 rfl
  exact I.step (ch:=ch) hch (fun b o hL hb hc e n=>u.keep b o e n (fun z=>(List.mem_cons.mp (I.stkSub b z)).elim hL hb) hc) (fun b o _ _ hc e n=>u.any e n hc) (fun b o hc e n=>u.free b o e n hc) (fun b o hc e=>u.there b o e hc) u.tups u.frzs u.tbls (fun m' hm=>by
    obtain ⟨o', es', ep', ho', r'⟩:=hm
    rw [ho] at ho'; cases ho'
    exact ⟨_, es', ep', hL, r'⟩) hok hg
theorem Inv.turned {t' : Nat} {it : Addr} (I : Inv X pins σ H s) (k : ∀ b o, b ≠ it -> s.heap.get? b = some o -> h'.get? b = some o) (hn : H it = none) (hL : it ≠ X.env.locals)
    (h1 : it ∈ X.ex ∨ X.s₀.heap.objs.size <= it) (h2 : ∀ x c, X.env.cells.lookup x = some c -> c ≠ it) (h3 : ∀ p ∈ X.pn ++ pins, p.1 ≠ it) : Inv X pins σ H { s with heap:=h', toks:=t' }:=by
  have nit : ∀ b u, H b = some u -> b ≠ it:=fun b u e z=>by rw [z, hn] at e; cases e
  refine I.step (g':=s.gens) (d':=s.drawn) (ch:=[it]) (fun b hb=>?_) (fun b o _ _ hc e _=>k b o (fun z=>hc (by simp [z])) e) (fun b o _ _ hc e _=>⟨o.slots, k b o (fun z=>hc (by simp [z])) e⟩) (fun _ _ _ _ n=>n)
    (fun b o hc e=>⟨o, k b o (fun z=>hc (by simp [z])) e⟩) (fun _ _ e=>e) (fun _ _ _ e=>e) (fun b ps e=>⟨#[], by rw [e]; simp⟩) (fun m hm=>?_) (fun b u e=>?_) I.bare
  . have e : b = it := by simpa using hb
    subst e
    exact ⟨h1, hL, h2, h3⟩
  . obtain ⟨o, es, ep, ho, r⟩ := hm
    exact ⟨o, es, ep, k _ o (Ne.symm hL) ho, r⟩
  . refine (I.hok b u e).stay (fun c v hc q => k c v ?_ q) (fun _ q => q) fun _ _ q => q
    rcases hc with z | z
    . rw [z]; exact nit b u e
    . exact nit c _ z
theorem Inv.tok (I : Inv X pins σ H s) (t : Nat) : Inv X pins σ H { s with toks:=t }:=I.un (h':=s.heap) (t':=t) Un.refl I.hok
theorem Inv.kept {t' : Nat} (I : Inv X pins σ H s) (k : ∀ b u, s.heap.get? b = some u -> h'.get? b = some u) : Inv X pins σ H { s with heap:=h', toks:=t' }:=I.un (Un.kept k) (I.hok.kept k)
theorem Inv.laid {a : Addr} {o : HO} {t' : Nat} (I : Inv X pins σ H s) (k : ∀ b u, s.heap.get? b = some u -> h'.get? b = some u) (hp : s.heap.objs.size <= a) (new : Y5 X.prog X.w (upd H a o) h' a o) :
    Inv X pins σ (upd H a o) { s with heap:=h', toks:=t' }:=I.un (Un.laid k hp (I.hok.fresh hp)) (I.hok.laid k hp new)
theorem Inv.write {x e : Addr} {o : HO} {t' : Nat} (I : Inv X pins σ H s) (mu : Mut (H x)) (he : e = x ∨ H e = some (.own x)) (k : ∀ b u, b ≠ e -> s.heap.get? b = some u -> h'.get? b = some u) (heo : ∃ u, h'.get? e = some u)
    (new : Y5 X.prog X.w (upd H x o) h' x o) : Inv X pins σ (upd H x o) { s with heap:=h', toks:=t' }:=I.un (Un.write mu he k heo) (I.hok.write mu he k heo new)
theorem Inv.weak {σ' : List (Option V)} (I : Inv X pins σ H s) (hl : σ'.length = σ.length) (w : ∀ (i : Nat) v, σ'[i]? = some (some v) -> σ[i]? = some (some v)) : Inv X pins σ' H s:=
  ⟨I.ok, I.os, I.bare, I.base, let ⟨m, hn, hl'⟩:=I.loc; ⟨m, hn, fun i x v e1 e2 e3=>hl' i x v e1 (w i v e2) e3⟩, I.cell, I.free, I.freeC, I.pin, I.hok, hl.trans I.len⟩
theorem Inv.pins_of {pins' : List (Addr × Obj)} (I : Inv X pins σ H s) (h : ∀ p ∈ pins', s.heap.get? p.1 = some p.2 /\ H p.1 = none /\ p.1 ≠ X.env.locals /\ p.1 ∉ X.fs /\ ∀ v, p.2.data ≠ .cell v) : Inv X pins' σ H s:=
  ⟨I.ok, I.os, I.bare, I.base, I.loc, I.cell, I.free, I.freeC, fun p hp=>(List.mem_append.mp hp).elim (fun z=>I.pin p (List.mem_append_left _ z)) (h p), I.hok, I.len⟩
theorem G8 {N : List Str} (hN : N.Nodup) {i j : Nat} {x : Str} (a : N[i]? = some x) (b : N[j]? = some x) : i = j:=by
  obtain ⟨h1, e1⟩:=List.getElem?_eq_some_iff.mp a
  obtain ⟨h2, e2⟩:=List.getElem?_eq_some_iff.mp b
  exact (List.getElem_inj hN).mp (e1.trans e2.symm)
theorem KG {M : Model} {A : Around} {E : Value -> Shared -> Prop} {i : Nat} {x : Str} {v : V} {u : Value} {Q : Unit -> Shared -> Prop} (I : Inv X pins σ H s) (hN : X.N.Nodup) (hi : X.N[i]? = some x) (hx : Loc X.env.scope x) (r : Yw v u)
    (h : ∀ s', Inv X pins (σ.set i (some v)) H s' -> (∃ a, Heap.SameBut a s.heap s'.heap /\ (a = X.env.locals ∨ X.env.cells.lookup x = some a)) -> Q () s') (hf : X.fn x = true ∨ X.env.scope.names.lookup x = some .local:=by first | exact .inl rfl | exact .inr rfl | assumption) : wpAny M A (storeName X.env x u) Q E s:=by
  obtain ⟨m, hn, hl⟩:=id I.loc
  have hcls : (X.env.scope.kind == .class || (X.env.scope.kind == .module && X.env.locals != X.env.globals)) = false:=by rw [I.ok.kind]; rfl
  have hiσ : i < σ.length:=by rw [I.len]; exact (List.getElem?_eq_some_iff.mp hi).1
  have cne:=I.cne
  have tracked : ∀ {a : Addr} {h' : Heap}, (∃ o, s.heap.get? a = some o /\ H a = none) -> Heap.SameBut a s.heap h' -> HOk X.prog X.w H h':=fun {a h'} ha hs b ob e=>by
    obtain ⟨_, _, hfree⟩:=ha
    refine (I.hok b ob e).stay (fun c w' hc q=>(hs.2 c ?_).trans q) (fun _ q=>q) fun _ _ q=>q
    rintro rfl
    rcases hc with rfl | hc
    . rw [hfree] at e; cases e
    . rw [hfree] at hc; cases hc
  rcases hx with hk | hk
  . refine wpAny_storeName_local hk hn (fun h' hn' hs => ?_) hcls
    obtain ⟨oL, _, _, hoL, _⟩:=id hn
    refine h _ ⟨I.ok, I.os, I.bare, ⟨fun b o e n hb hx=>?_, fun b o e n hb hx=>?_, I.base.free, fun b o e hx=>?_, I.base.tups, I.base.frzs, I.base.tbls⟩, ⟨_, hn', fun j y v' e1 e2 e3=>?_⟩, fun y c e=>?_, I.free, I.freeC, fun p hp=>?_, tracked ⟨oL, hoL, I.free⟩ hs, by simpa using I.len⟩ ⟨_, hs, .inl rfl⟩
    . exact (hs.2 b (Nat.ne_of_lt (Nat.lt_of_lt_of_le (Heap.lt_size e) I.ok.above))).trans (I.base.keep b o e n hb hx)
    . obtain ⟨sl, e1⟩ := I.base.slot b o e n hb hx
      exact ⟨sl, (hs.2 b (Nat.ne_of_lt (Nat.lt_of_lt_of_le (Heap.lt_size e) I.ok.above))).trans e1⟩
    . obtain ⟨o', e1⟩ := I.base.there b o e hx
      exact ⟨o', (hs.2 b (Nat.ne_of_lt (Nat.lt_of_lt_of_le (Heap.lt_size e) I.ok.above))).trans e1⟩
    . by_cases hj : j = i
      . subst hj
        rw [hi] at e1; cases e1
        rw [List.getElem?_set_self hiσ] at e2
        cases e2
        exact ⟨u, r, .inl ⟨hk, by simp⟩⟩
      . rw [List.getElem?_set_ne (Ne.symm hj)] at e2
        obtain ⟨u', r', q⟩:=hl j y v' e1 e2 e3
        refine ⟨u', r', ?_⟩
        rcases q with ⟨k, e⟩ | ⟨k, c, e, z⟩
        . refine .inl ⟨k, ?_⟩
          have : y ≠ x:=fun e=>hj (G8 hN e1 (e ▸ hi))
          simp [this, e]
        . exact .inr ⟨k, c, e, z.sameBut hs (cne y c e)⟩
    . obtain ⟨w', z⟩ := I.cell y c e
      exact ⟨w', z.sameBut hs (cne y c e)⟩
    . obtain ⟨e, n, ne, nf, d⟩ := I.pin p hp
      exact ⟨(hs.2 p.1 ne).trans e, n, ne, nf, d⟩
  . have hfn : X.fn x = true:=by
      rcases hf with z | z
      . exact z
      . rw [z] at hk; cases hk
    obtain ⟨c, hc⟩:=I.ok.has x (.inl hk)
    obtain ⟨w', z⟩:=I.cell x c hc
    refine wpAny_storeName_cell I.ok.kind hk hc z (fun h' hc' hs=>?_)
    obtain ⟨oc, hoc, hocd⟩:=id z
    refine h { s with heap:=h' } ⟨I.ok, I.os, I.bare, ⟨fun b o e n hb hx=>?_, fun b o e n hb hx=>?_, I.base.free, fun b o e hx=>?_, I.base.tups, I.base.frzs, I.base.tbls⟩, ⟨m, hn.sameBut hs (Ne.symm (cne x c hc)), fun j y v' e1 e2 e3=>?_⟩, fun y c' e=>?_, I.free, I.freeC, fun p hp=>?_, tracked ⟨oc, hoc, I.freeC x c hc⟩ hs, by simpa using I.len⟩ ⟨c, hs, .inr hc⟩
    . exact (hs.2 b (Nat.ne_of_lt (Nat.lt_of_lt_of_le (Heap.lt_size e) (I.ok.cab x c hfn hc)))).trans (I.base.keep b o e n hb hx)
    . obtain ⟨sl, e1⟩ := I.base.slot b o e n hb hx
      exact ⟨sl, (hs.2 b (Nat.ne_of_lt (Nat.lt_of_lt_of_le (Heap.lt_size e) (I.ok.cab x c hfn hc)))).trans e1⟩
    . obtain ⟨o', e1⟩ := I.base.there b o e hx
      exact ⟨o', (hs.2 b (Nat.ne_of_lt (Nat.lt_of_lt_of_le (Heap.lt_size e) (I.ok.cab x c hfn hc)))).trans e1⟩
    . by_cases hj : j = i
      . subst hj
        rw [hi] at e1; cases e1
        rw [List.getElem?_set_self hiσ] at e2
        cases e2
        exact ⟨u, r, .inr ⟨.inl hk, c, hc, hc'⟩⟩
      . rw [List.getElem?_set_ne (Ne.symm hj)] at e2
        obtain ⟨u', r', q⟩:=hl j y v' e1 e2 e3
        refine ⟨u', r', ?_⟩
        rcases q with q | ⟨k, c', e, z'⟩
        . exact .inl q
        . refine .inr ⟨k, c', e, z'.sameBut hs ?_⟩
          rintro rfl
          exact hj (G8 hN e1 (I.ok.inj _ _ _ e hc ▸ hi))
    . by_cases hcc : c' = c
      . subst hcc; exact ⟨_, hc'⟩
      . obtain ⟨w2, z2⟩ := I.cell y c' e
        exact ⟨w2, z2.sameBut hs hcc⟩
    . obtain ⟨e, n, ne, nf, d⟩ := I.pin p hp
      refine ⟨(hs.2 p.1 ?_).trans e, n, ne, nf, d⟩
      intro q
      rw [q, hoc] at e
      have q' : oc = p.2:=Option.some.inj e
      exact d w' (by rw [← q']; exact hocd)
theorem Jf {M : Model} {A : Around} {E : Value -> Shared -> Prop} {i : Nat} {x : Str} {v : V} {u : Value} {Q : Unit -> Shared -> Prop} (I : Inv X pins σ H s) (hN : X.N.Nodup) (hi : X.N[i]? = some x) (hx : Loc X.env.scope x) (r : Yw v u)
    (h : ∀ s', Inv X pins (σ.set i (some v)) H s' -> Q () s') (hf : X.fn x = true ∨ X.env.scope.names.lookup x = some .local:=by first | exact .inl rfl | exact .inr rfl | assumption) : wpAny M A (storeName X.env x u) Q E s:=
  KG I hN hi hx r (fun s' I' _=>h s' I') hf
theorem Inv.call' {s' : Shared} {ch : List Addr} (I : Inv X pins σ H s) (ho : s'.os = s.os) (u : Un (frs X.stack) ch H H' s.heap s'.heap) (hok : HOk X.prog X.w H' s'.heap) (hg : AllBare s'.gens)
    (hch : ∀ b ∈ ch, (b ∈ X.ex ∨ X.s₀.heap.objs.size <= b) /\ b ≠ X.env.locals /\ (∀ x c, X.env.cells.lookup x = some c -> c ≠ b) /\ ∀ p ∈ X.pn ++ pins, p.1 ≠ b) : Inv X pins σ H' s':=by
  obtain ⟨h', g', d', t', o'⟩:=s'
  have e : o' = s.os:=ho
  subst e
  exact I.call (g':=g') (t':=t') (d':=d') u hok hg hch
end
noncomputable abbrev XK:=Value -> Option Addr -> Hp -> Prop
noncomputable abbrev St:=List (Option V)
noncomputable abbrev VK:=V -> Hp -> Prop
noncomputable abbrev TE:=St -> Hp -> VK -> Prop
noncomputable abbrev TT:=St -> Hp -> (Bool -> Hp -> Prop) -> Prop
noncomputable abbrev TA:=St -> Hp -> (List V -> Hp -> Prop) -> Prop
structure Ends where
  nx : St -> Hp -> Prop
  rt : VK
  bk : St -> Hp -> Prop:=fun _ _=>False
  ct : St -> Hp -> Prop:=fun _ _=>False
noncomputable abbrev TS:=Ends -> St -> Hp -> Prop
noncomputable def EP (X : Cx) (pins : List (Addr × Obj)) (σ : St) (Q : VK) (u : Value) (s' : Shared) : Prop:=∃ v H', Inv X pins σ H' s' /\ Yw v u /\ Q v H'
noncomputable def TP (X : Cx) (pins : List (Addr × Obj)) (σ : St) (Q : Bool -> Hp -> Prop) (b : Bool) (s' : Shared) : Prop:=∃ H', Inv X pins σ H' s' /\ Q b H'
noncomputable def AP (X : Cx) (pins : List (Addr × Obj)) (σ : St) (Q : List V -> Hp -> Prop) (us : List Value) (s' : Shared) : Prop:=∃ vs H', Inv X pins σ H' s' /\ Yj vs us /\ Q vs H'
noncomputable def SP (X : Cx) (pins : List (Addr × Obj)) (D : Ends) (f : Flow) (s' : Shared) : Prop:=
  match f with
  | .next=>∃ σ' H', Inv X pins σ' H' s' /\ D.nx σ' H'
  | .brk=>∃ σ' H', Inv X pins σ' H' s' /\ D.bk σ' H'
  | .cont=>∃ σ' H', Inv X pins σ' H' s' /\ D.ct σ' H'
  | .ret u=>∃ v σ' H', Inv X pins σ' H' s' /\ Yw v u /\ D.rt v H'
noncomputable def PE (X : Cx) (e : Expr) (t : TE) : Prop:=
  ∀ (pins : List (Addr × Obj)) (s : Shared) (σ : St) (H : Hp) (Q : VK), Inv X pins σ H s -> t σ H Q -> wpAny (model X.prog X.w) X.A (eval e X.env) (EP X pins σ Q) X.xe s
noncomputable def PT (X : Cx) (e : Expr) (t : TT) : Prop:=
  ∀ (pins : List (Addr × Obj)) (s : Shared) (σ : St) (H : Hp) (Q : Bool -> Hp -> Prop), Inv X pins σ H s -> t σ H Q -> wpAny (model X.prog X.w) X.A (isTrue e X.env (eval e X.env)) (TP X pins σ Q) X.xe s
noncomputable def PW (X : Cx) (e : Expr) (t : TT) : Prop:=
  ∀ (whole : Sem Value) (pins : List (Addr × Obj)) (s : Shared) (σ : St) (H : Hp) (Q : Bool -> Hp -> Prop), Inv X pins σ H s -> t σ H Q -> wpAny (model X.prog X.w) X.A (isTrue e X.env whole) (TP X pins σ Q) X.xe s
theorem PW.pt {X : Cx} {e : Expr} {t : TT} (h : PW X e t) : PT X e t:=h _
noncomputable def PA (X : Cx) (es : List Expr) (t : TA) : Prop:=
  ∀ (pos : Pos) (pins : List (Addr × Obj)) (s : Shared) (σ : St) (H : Hp) (Q : List V -> Hp -> Prop), Inv X pins σ H s -> t σ H Q -> wpAny (model X.prog X.w) X.A (spliced (backTo pos (starEach es X.env))) (AP X pins σ Q) X.xe s
noncomputable def PS (X : Cx) (st : Stmt) (t : TS) : Prop:=
  ∀ (pins : List (Addr × Obj)) (s : Shared) (σ : St) (H : Hp) (D : Ends), Inv X pins σ H s -> t D σ H -> wpAny (model X.prog X.w) X.A (exec st X.env) (SP X pins D) X.xe s
noncomputable def PSs (X : Cx) (st : List Stmt) (t : TS) : Prop:=
  ∀ (pins : List (Addr × Obj)) (s : Shared) (σ : St) (H : Hp) (D : Ends), Inv X pins σ H s -> t D σ H -> wpAny (model X.prog X.w) X.A (execs st X.env) (SP X pins D) X.xe s
theorem thn {α : Type} {t : Sem α} {Q Q' : α -> Shared -> Prop} {M : Model} {A : Around} {E : Value -> Shared -> Prop} {s : Shared} (h : wpAny M A t Q E s) (hQ : ∀ a s, Q a s -> Q' a s) : wpAny M A t Q' E s:=wpAny_mono h hQ fun _ _ x=>x
end L2
namespace L2
open PySem PySem.Spec PyProof.Rows
section
variable {X : Cx}
noncomputable def UV (i : Nat) : TE:=fun σ H Q=>∃ v, σ[i]? = some (some v) /\ Q v H
noncomputable def tC (v : V) : TE:=fun _ H Q=>Q v H
theorem Lc {i : Nat} {x : Str} {pos : Pos} (hN : X.N[i]? = some x) (hv : Vis X.env.scope x) (hd : (x == ("__debug__" : Str)) = false:=by decide) (hcd : (x == ("__classdict__" : Str)) = false:=by decide) : PE X (.Name x pos) (UV i):=by
  intro pins s σ H Q I h
  obtain ⟨v, e, h⟩:=h
  obtain ⟨m, hn, hl⟩:=I.loc
  obtain ⟨u, r, l⟩:=hl i x v hN e hv
  have fin : EP X pins σ Q u s:=⟨v, H, I, r, h⟩
  rcases l with ⟨hk, hm⟩ | ⟨hk, c, hc, hcell⟩
  . exact wpAny_Name (wpAny_loadName_local I.ok.kind hk hn hm fin) hd
  . rcases hk with hk | hk
    . exact wpAny_Name (wpAny_loadName_cell I.ok.kind hk hc hcell fin) hd
    . exact wpAny_Name (wpAny_loadName_free I.ok.kind hk hc hcell fin hcd) hd
theorem Xh {i j pos} : PE X (.Constant (.int i) j pos) (tC (.int i)):=fun _ _ _ H _ I h=>wpAny_Constant_int ⟨.int i, H, I.tok _, ⟨_, rfl⟩, h⟩
theorem Qn {b j pos} : PE X (.Constant (.bool b) j pos) (tC (.bl b)):=fun _ _ _ H _ I h=>Constant_bool ⟨.bl b, H, I, rfl, h⟩
noncomputable def Gl (X : Cx) (x : Str) : Prop:=X.env.kindOf x = some .globalImplicit
theorem Cp {E : Value -> Shared -> Prop} {pins : List (Addr × Obj)} {s : Shared} {σ : St} {H : Hp} {x : Str} {u : Value} {pos : Pos} {Q : Value -> Shared -> Prop} (I : Inv X pins σ H s) (hg : Gl X x) (hm : X.mg x = some u) (h : Q u s)
    (hd : (x == ("__debug__" : Str)) = false:=by decide) : wpAny (model X.prog X.w) X.A (eval (.Name x pos) X.env) Q E s:=
  Calls.Name_function_global I.ok.kind hg (Calls.loadGlobal_global (by rw [I.ok.glob]; exact I.mod.glob.keeps I.bk) hm h) hd
theorem Vu {E : Value -> Shared -> Prop} {pins : List (Addr × Obj)} {s : Shared} {σ : St} {H : Hp} {x : Str} {u : Value} {pos : Pos} {Q : Value -> Shared -> Prop} (I : Inv X pins σ H s) (hg : Gl X x) (hm : X.mg x = none) (hv : bootBuiltins x = some u) (h : Q u s)
    (hn : x ≠ "__name__":=by decide) (hd : (x == ("__debug__" : Str)) = false:=by decide) : wpAny (model X.prog X.w) X.A (eval (.Name x pos) X.env) Q E s:=by
  obtain ⟨mb, h1, h2⟩:=I.mod.blt
  exact Calls.Name_function_global I.ok.kind hg (Calls.loadGlobal_builtin (by rw [I.ok.glob]; exact I.mod.glob.keeps I.bk) hm (by rw [I.ok.blt]; exact h1.keeps I.bk) ((h2 x hn).trans hv) h) hd
theorem HA {x : Str} {v : V} {u : Value} {pos : Pos} (hg : Gl X x) (hm : X.mg x = some u) (r : Yw v u) (hd : (x == ("__debug__" : Str)) = false:=by decide) : PE X (.Name x pos) (tC v):=
  fun _ _ _ H _ I h=>Cp I hg hm ⟨v, H, I, r, h⟩ hd
theorem UF {x : Str} {v : V} {u : Value} {pos : Pos} (hg : Gl X x) (hm : X.mg x = none) (hv : bootBuiltins x = some u) (r : Yw v u) (hn : x ≠ "__name__":=by decide) (hd : (x == ("__debug__" : Str)) = false:=by decide) : PE X (.Name x pos) (tC v):=
  fun _ _ _ H _ I h=>Vu I hg hm hv ⟨v, H, I, r, h⟩ hn hd
variable {a b : Expr} {ta tb : TE} {pos : Pos}
noncomputable def PC (X : Cx) (op : CmpOp) (a b : Expr) (t : TE) : Prop:=
  ∀ (pins : List (Addr × Obj)) (s : Shared) (σ : St) (H : Hp) (Q : VK), Inv X pins σ H s -> t σ H Q ->
    wpAny (model X.prog X.w) X.A (eval a X.env) (fun v s₁=>wpAny (model X.prog X.w) X.A (eval b X.env) (fun u s₂=>wpAny (model X.prog X.w) X.A (compareOp op v u) (EP X pins σ Q) X.xe s₂) X.xe s₁) X.xe s
theorem BA (b : Expr) {op : CmpOp} (h : op ≠ .In) (h2 : op ≠ .NotIn) : behindInMarks op b = false:=by
  have e1 : (op == CmpOp.In) = false:=by cases op <;> first | rfl | exact absurd rfl h
  have e2 : (op == CmpOp.NotIn) = false:=by cases op <;> first | rfl | exact absurd rfl h2
  cases b <;> simp [behindInMarks, e1, e2]
noncomputable def tB (t : TE) : TT:=fun σ H Q=>t σ H fun x H1=>∃ c, x = .bl c /\ Q c H1
theorem Lh {op : CmpOp} {t : TE} (h : PC X op a b t) (h1 : behindInMarks op b = false:=by first | exact BA _ (by decide) (by decide) | rfl) : PT X (.Compare a [op] [b] pos) (tB t):=by
  intro pins s σ H Q I hw
  refine wpAny_isTrue_Compare1 (thn (h pins s σ H _ I hw) fun v s1 h1=>thn h1 fun u s2 h2=>thn h2 fun c s3 r9=>?_) h1
  obtain ⟨x, H1, I1, r1, q1⟩:=r9
  obtain ⟨d, rfl, q⟩:=q1
  cases r1
  exact wpAny_truthy_bool ⟨H1, I1, q⟩
theorem QS {e : Expr} {t : TE} (h : PE X e t) (he : ∀ whole, isTrue e X.env whole = (do let v ← whole; standAt e.pos; holding [v] (truthy v)):=by intro _; rfl) : PT X e (tB t):=by
  intro pins s σ H Q I hw
  refine isTrue_plain (thn (h pins s σ H _ I hw) fun v s1 r9=>?_) (he _)
  obtain ⟨x, H1, I1, r1, q1⟩:=r9
  obtain ⟨d, rfl, q⟩:=q1
  cases r1
  exact wpAny_truthy_bool ⟨H1, I1, q⟩
variable {tA tB' : TT} {Qm : List Expr}
noncomputable def LP (t u : TT) : TT:=fun σ H Q=>t σ H fun c H1=>if c = true then u σ H1 Q else Q false H1
noncomputable def tOr (t u : TT) : TT:=fun σ H Q=>t σ H fun c H1=>if c = true then Q true H1 else u σ H1 Q
noncomputable def LS (t : TT) : TT:=fun σ H Q=>t σ H fun c H1=>Q (!c) H1
theorem Z6 (ha : PT X a tA) : PW X (.BoolOp .And [a] pos) tA:=by
  intro wh pins s σ H Q I h
  refine isTrue_and (thn (ha pins s σ H Q I h) fun c s1 e=>?_)
  cases c with
  | true=>exact isTrue_and_nil e
  | false=>exact e
theorem Kv (ha : PT X a tA) : PW X (.BoolOp .Or [a] pos) tA:=by
  intro wh pins s σ H Q I h
  refine isTrue_or (thn (ha pins s σ H Q I h) fun c s1 e=>?_)
  cases c with
  | false=>exact isTrue_or_nil e
  | true=>exact e
theorem ZW (ha : PT X a tA) (hb : PW X (.BoolOp .And (b :: Qm) pos) tB') : PW X (.BoolOp .And (a :: b :: Qm) pos) (LP tA tB'):=by
  intro wh pins s σ H Q I h
  refine isTrue_and (thn (ha pins s σ H _ I h) fun c s1 r9=>?_)
  obtain ⟨H1, I1, q1⟩:=r9
  cases c with
  | true=>exact hb wh pins s1 σ H1 Q I1 q1
  | false=>exact ⟨H1, I1, q1⟩
theorem Dh (ha : PT X a tA) (hb : PW X (.BoolOp .Or (b :: Qm) pos) tB') : PW X (.BoolOp .Or (a :: b :: Qm) pos) (tOr tA tB'):=by
  intro wh pins s σ H Q I h
  refine isTrue_or (thn (ha pins s σ H _ I h) fun c s1 r9=>?_)
  obtain ⟨H1, I1, q1⟩:=r9
  cases c with
  | true=>exact ⟨H1, I1, q1⟩
  | false=>exact hb wh pins s1 σ H1 Q I1 q1
theorem QW (ha : PT X a tA) : PT X (.UnaryOp .Not a pos) (LS tA):=by
  intro pins s σ H Q I h
  exact isTrue_not (ha pins s σ H (fun c H1=>Q (!c) H1) I h)
noncomputable def IK (ta tb : TE) : TE:=fun σ H Q=>ta σ H fun x H1=>∃ c, x = .bl c /\ if c = true then tb σ H1 Q else Q (.bl false) H1
noncomputable def Ih (ta : TE) : TE:=fun σ H Q=>ta σ H fun x H1=>∃ c, x = .bl c /\ Q (.bl (!c)) H1
theorem IR {op} {t : TE} (h : PE X a t) : PE X (.BoolOp op [a] pos) t:=fun pins s σ H Q I hw=>BoolOp_one (h pins s σ H Q I hw)
theorem ID (ha : PE X a ta) (hb : PE X (.BoolOp .And (b :: Qm) pos) tb) : PE X (.BoolOp .And (a :: b :: Qm) pos) (IK ta tb):=by
  intro pins s σ H Q I h
  refine BoolOp_and (thn (ha pins s σ H _ I h) fun v s1 r9=>?_)
  obtain ⟨x, H1, I1, r1, q1⟩:=r9
  obtain ⟨c, rfl, q1⟩:=q1
  cases r1
  refine wpAny_truthy_bool ?_
  cases c with
  | true=>exact hb pins s1 σ H1 Q I1 q1
  | false=>exact ⟨.bl false, H1, I1, rfl, q1⟩
theorem Iy (ha : PE X a ta) : PE X (.UnaryOp .Not a pos) (Ih ta):=by
  intro pins s σ H Q I h
  refine UnaryOp_ (thn (ha pins s σ H _ I h) fun v s1 r9=>?_)
  obtain ⟨x, H1, I1, r1, q1⟩:=r9
  obtain ⟨c, rfl, q1⟩:=q1
  cases r1
  exact not_of (wpAny_truthy_bool ⟨.bl (!c), H1, I1, rfl, q1⟩)
noncomputable def tIf (t : TT) (ta tb : TE) : TE:=fun σ H Q=>t σ H fun c H1=>if c = true then ta σ H1 Q else tb σ H1 Q
theorem BN {c : Expr} (hc : PT X c tA) (ha : PE X a ta) (hb : PE X b tb) : PE X (.IfExp c a b pos) (tIf tA ta tb):=by
  intro pins s σ H Q I h
  refine wpAny_IfExp (thn (hc pins s σ H _ I h) fun d s1 r9=>?_)
  obtain ⟨H1, I1, q1⟩:=r9
  cases d with
  | true=>exact ha pins s1 σ H1 Q I1 q1
  | false=>exact hb pins s1 σ H1 Q I1 q1
end
end L2
namespace L2
open PySem PySem.Spec PyProof.Rows
noncomputable def SqL (K : PySem.W.Frag) (H : Hp) (a : Addr) (xs : List V) : Prop:=
  Rd H a (.lst xs) ∨
    ∃ (o : Obj) (its : Array Value) (n : Nat), K.lookup a = some o /\ o.cls = .type "list" /\ o.dict = none /\ o.data = .seq its n /\ its.size <= sizeLine /\ Yj xs its.toList
noncomputable def SqT (K : PySem.W.Frag) (H : Hp) (a : Addr) (xs : List V) : Prop:=
  Rd H a (.tup xs) ∨
    ∃ (o : Obj) (its : Array Value) (n : Nat), K.lookup a = some o /\ o.cls = .type "tuple" /\ o.data = .seq its n /\ its.size <= sizeLine /\ Yj xs its.toList
noncomputable def L5 : Value -> Option V
  | .none=>some .non
  | .bool b=>some (.bl b)
  | .int i _=>some (.int i)
  | .str x _=>some (.str x)
  | .bytes b _=>some (.byt b)
  | .float b _=>some (.flt b)
  | .ref a=>some (.ref a)
  | .type n=>some (.ty n)
  | _=>none
theorem Yw.abs {x : V} {u : Value} (r : Yw x u) : L5 u = some x:=by
  cases x with
  | non=>cases r; rfl
  | bl _=>cases r; rfl
  | int _=>obtain ⟨t, rfl⟩:=r; rfl
  | str _=>obtain ⟨t, rfl⟩:=r; rfl
  | byt _=>obtain ⟨t, rfl⟩:=r; rfl
  | flt _=>obtain ⟨t, rfl⟩:=r; rfl
  | ref _=>cases r; rfl
  | ty _=>cases r; rfl
theorem Yw.inj {x y : V} {u : Value} (r : Yw x u) (q : Yw y u) : x = y:=Option.some.inj (r.abs.symm.trans q.abs)
theorem Yj.inj : ∀ {xs ys : List V} {us : List Value}, Yj xs us -> Yj ys us -> xs = ys:=fun {xs ys us} p=>by
  induction p generalizing ys with
  | nil=>intro q; cases q; rfl
  | cons r _ ih=>intro q; cases q with | cons r' t'=>rw [r.inj r', ih t']
section
variable {X : Cx} {pins : List (Addr × Obj)} {σ : St} {H : Hp} {s : Shared} {a : Addr} {xs ys : List V}
theorem SqL.of {K : PySem.W.Frag} (h : H a = some (.lst xs)) : SqL K H a xs:=.inl (.inl h)
theorem SqT.of {K : PySem.W.Frag} (h : H a = some (.tup xs)) : SqT K H a xs:=.inl (.inl h)
theorem Inv.list (I : Inv X pins σ H s) (h : SqL X.K H a xs) : ∃ its : List Value, Yj xs its /\ PlainL s.heap a its.toArray /\ xs.length <= sizeLine:=by
  rcases h with h | ⟨o, its, n, hk, hc, hd, hs, hz, r⟩
  . obtain ⟨z, its, n, r, e⟩ := h.ok I.hok
    exact ⟨its, r, ⟨_, n, e, rfl, rfl, rfl⟩, z⟩
  . refine ⟨its.toList, r, ⟨o, n, I.kIn a o hk, hc, hd, by simpa using hs⟩, ?_⟩
    have e:=r.length
    simp only [Array.length_toList] at e
    first | lia | omega
theorem Inv.tuple (I : Inv X pins σ H s) (h : SqT X.K H a xs) : ∃ its : List Value, Yj xs its /\ IsTup s.heap a its.toArray /\ xs.length <= sizeLine:=by
  rcases h with h | ⟨o, its, n, hk, hc, hs, hz, r⟩
  . obtain ⟨z, its, r, p⟩ := h.ok I.hok
    exact ⟨its, r, p, z⟩
  . refine ⟨its.toList, r, ⟨o, I.kIn a o hk, hc, n, by simpa using hs⟩, ?_⟩
    have e:=r.length
    simp only [Array.length_toList] at e
    first | lia | omega
theorem Inv.list_inj (I : Inv X pins σ H s) (h : SqL X.K H a xs) (h' : SqL X.K H a ys) : xs = ys:=by
  obtain ⟨its, r, ⟨o, n, e, _, _, d⟩, _⟩:=I.list h
  obtain ⟨its', r', ⟨o', n', e', _, _, d'⟩, _⟩:=I.list h'
  rw [e] at e'; cases e'
  rw [d] at d'
  injection d' with d1 _
  have : its = its':=by simpa using congrArg Array.toList d1
  subst this
  exact r.inj r'
end
noncomputable abbrev Cx.wish (X : Cx) (E : Value -> Shared -> Prop) : Cx:={ X with xe:=E }
noncomputable abbrev Cx.nox (X : Cx) : Cx:=X.wish fun _ _=>False
theorem Cx.Ok.wish {X : Cx} (ok : X.Ok) (E : Value -> Shared -> Prop) : (X.wish E).Ok:=
  ⟨ok.mod, ok.kind, ok.glob, ok.blt, ok.above, ok.inj, ok.has, ok.cab, ok.hd, ok.frames, ok.stk, ok.exf, ok.bs, ok.bsz, ok.noex, ok.exfs, ok.funs, ok.frf⟩
theorem Cx.Ok.unwish {X : Cx} {E : Value -> Shared -> Prop} (ok : (X.wish E).Ok) : X.Ok:=
  ⟨ok.mod, ok.kind, ok.glob, ok.blt, ok.above, ok.inj, ok.has, ok.cab, ok.hd, ok.frames, ok.stk, ok.exf, ok.bs, ok.bsz, ok.noex, ok.exfs, ok.funs, ok.frf⟩
section
variable {X : Cx} {pins : List (Addr × Obj)} {σ : St} {H : Hp} {s : Shared} {E : Value -> Shared -> Prop}
theorem Inv.wish (I : Inv X pins σ H s) (E : Value -> Shared -> Prop) : Inv (X.wish E) pins σ H s:=⟨I.ok.wish E, I.os, I.bare, I.base, I.loc, I.cell, I.free, I.freeC, I.pin, I.hok, I.len⟩
theorem Inv.unwish (I : Inv (X.wish E) pins σ H s) : Inv X pins σ H s:=⟨I.ok.unwish, I.os, I.bare, I.base, I.loc, I.cell, I.free, I.freeC, I.pin, I.hok, I.len⟩
theorem SP.unwish {D : Ends} {f : Flow} {s' : Shared} (h : SP (X.wish E) pins D f s') : SP X pins D f s':=by
  cases f with
  | next=>obtain ⟨σ', H', I, q⟩:=h; exact ⟨σ', H', I.unwish, q⟩
  | brk=>obtain ⟨σ', H', I, q⟩:=h; exact ⟨σ', H', I.unwish, q⟩
  | cont=>obtain ⟨σ', H', I, q⟩:=h; exact ⟨σ', H', I.unwish, q⟩
  | ret u=>obtain ⟨v, σ', H', I, r, q⟩:=h; exact ⟨v, σ', H', I.unwish, r, q⟩
theorem PE.nox {e : Expr} {t : TE} (h : PE X.nox e t) : PE X e t:=fun pins s σ H Q I hw=>
  wpAny_mono (h pins s σ H Q (I.wish _) hw) (fun _ _ r9=>by obtain ⟨v, H', I', r, q⟩:=r9; exact ⟨v, H', I'.unwish, r, q⟩) fun _ _ z=>False.elim z
theorem PT.nox {e : Expr} {t : TT} (h : PT X.nox e t) : PT X e t:=fun pins s σ H Q I hw=>
  wpAny_mono (h pins s σ H Q (I.wish _) hw) (fun _ _ r9=>by obtain ⟨H', I', q⟩:=r9; exact ⟨H', I'.unwish, q⟩) fun _ _ z=>False.elim z
theorem PSs.nox {st : List Stmt} {t : TS} (h : PSs X.nox st t) : PSs X st t:=fun pins s σ H D I hw=>
  wpAny_mono (h pins s σ H D (I.wish _) hw) (fun _ _ q=>q.unwish) fun _ _ z=>False.elim z
end
section
variable {X : Cx} {st : Stmt} {Qm : List Stmt} {t u : TS} {e : Expr} {te : TE} {pos : Pos}
noncomputable def Dn : TS:=fun D σ H=>D.nx σ H
noncomputable def JI (t u : TS) : TS:=fun D σ H=>t { D with nx:=u D } σ H
theorem Xf : PSs X [] Dn:=fun _ _ σ H _ I h=>wpAny_execs_nil ⟨σ, H, I, h⟩
theorem Xc (h1 : PS X st t) (h2 : PSs X Qm u) : PSs X (st :: Qm) (JI t u):=by
  intro pins s σ H D I h
  refine wpAny_execs_cons (thn (h1 pins s σ H { D with nx:=u D } I h) fun f s1 q=>?_)
  cases f with
  | next=>
    obtain ⟨σ', H', I', q⟩:=q
    exact h2 pins s1 σ' H' D I' q
  | ret v=>exact q
  | brk=>exact q
  | cont=>exact q
theorem Inv.quiet {pins : List (Addr × Obj)} {σ : St} {H : Hp} {s : Shared} (I : Inv X pins σ H s) : interactive X.env = false:=by simp [interactive, I.ok.kind]
noncomputable def Fc (te : TE) : TS:=fun D σ H=>te σ H fun _ H1=>D.nx σ H1
theorem Yv (he : PE X e te) (hs : swapsWith e none pos.line X.env = pure false:=by rfl) : PS X (.Expr e pos) (Fc te):=by
  intro pins s σ H D I h
  exact wpAny_Expr_any (thn (he pins s σ H _ I h) fun v s1 r9=>by obtain ⟨x, H1, I1, r1, q1⟩:=r9; exact ⟨σ, H1, I1, q1⟩) I.quiet hs
noncomputable def LM (te : TE) : TS:=fun D σ H=>te σ H D.rt
theorem XA (he : PE X e te) : PS X (.Return (some e) pos) (LM te):=by
  intro pins s σ H D I h
  exact wpAny_Return_some (thn (he pins s σ H _ I h) fun v s1 r9=>by obtain ⟨x, H1, I1, r1, q1⟩:=r9; exact ⟨x, σ, H1, I1, r1, q1⟩)
noncomputable def Iq (c : TT) (t u : TS) : TS:=fun D σ H=>c σ H fun b H1=>if b = true then t D σ H1 else u D σ H1
theorem YI {c : Expr} {a b : List Stmt} {tc : TT} (hc : PT X c tc) (ha : PSs X a t) (hb : PSs X b u) : PS X (.If c a b pos) (Iq tc t u):=by
  intro pins s σ H D I h
  refine wpAny_If (thn (hc pins s σ H _ I h) fun d s1 r9=>?_)
  obtain ⟨H1, I1, q1⟩:=r9
  cases d with
  | true=>exact ha pins s1 σ H1 D I1 q1
  | false=>exact hb pins s1 σ H1 D I1 q1
noncomputable def Le : TS:=fun _ _ _=>False
theorem Fa : PS X st Le:=fun _ _ _ _ _ _ h=>h.elim
end
noncomputable abbrev TG:=V -> St -> Hp -> (St -> Hp -> Prop) -> Prop
noncomputable abbrev TGs:=List V -> St -> Hp -> (St -> Hp -> Prop) -> Prop
noncomputable def PG (X : Cx) (target : Expr) (t : TG) : Prop:=
  ∀ (pins : List (Addr × Obj)) (s : Shared) (σ : St) (H : Hp) (v : V) (u : Value) (Q : St -> Hp -> Prop), Inv X pins σ H s -> Yw v u -> t v σ H Q ->
    wpAny (model X.prog X.w) X.A (assign target X.env u) (fun _ s'=>∃ σ' H', Inv X pins σ' H' s' /\ Q σ' H') X.xe s
noncomputable def PGs (X : Cx) (ts : List Expr) (t : TGs) : Prop:=
  ∀ (pins : List (Addr × Obj)) (s : Shared) (σ : St) (H : Hp) (vs : List V) (us : List Value) (Q : St -> Hp -> Prop), Inv X pins σ H s -> Yj vs us -> t vs σ H Q ->
    wpAny (model X.prog X.w) X.A (assignInOrder ((assignEach ts X.env).map (·.2)) us) (fun _ s'=>∃ σ' H', Inv X pins σ' H' s' /\ Q σ' H') X.xe s
noncomputable abbrev Ls:=V -> V -> V -> Hp -> (Hp -> Prop) -> Prop
noncomputable def LX (X : Cx) (t : Ls) : Prop:=
  ∀ (pins : List (Addr × Obj)) (s : Shared) (σ : St) (H : Hp) (o i v : V) (ov iv u : Value) (Q : Hp -> Prop), Inv X pins σ H s -> Yw o ov -> Yw i iv -> Yw v u -> t o i v H Q ->
    wpAny (model X.prog X.w) X.A (setItem ov iv u) (fun _ s'=>∃ H', Inv X pins σ H' s' /\ Q H') X.xe s
noncomputable abbrev TIp:=V -> V -> Hp -> VK -> Prop
noncomputable def PIp (X : Cx) (op : Operator) (t : TIp) : Prop:=
  ∀ (pins : List (Addr × Obj)) (s : Shared) (σ : St) (H : Hp) (x y : V) (v u : Value) (Q : VK), Inv X pins σ H s -> Yw x v -> Yw y u -> t x y H Q ->
    wpAny (model X.prog X.w) X.A (inplaceOp op v u) (EP X pins σ Q) X.xe s
section
variable {X : Cx} {pos : Pos}
noncomputable def ZD (i : Nat) : TG:=fun v σ H Q=>Q (σ.set i (some v)) H
theorem Xn {i : Nat} {x : Str} (hN : X.N.Nodup) (hi : X.N[i]? = some x) (hx : Loc X.env.scope x) (hf : X.fn x = true ∨ X.env.scope.names.lookup x = some .local:=by first | exact .inl rfl | exact .inr rfl | assumption) : PG X (.Name x pos) (ZD i):=by
  intro pins s σ H v u Q I r h
  exact wpAny_assign_Name (Jf I hN hi hx r (fun s' I'=>⟨_, H, I', h⟩) hf)
noncomputable def HR : TGs:=fun vs σ H Q=>vs = [] /\ Q σ H
noncomputable def QO (t : TG) (u : TGs) : TGs:=fun vs σ H Q=>∃ v r, vs = v :: r /\ t v σ H fun σ' H'=>u r σ' H' Q
theorem Qd : PGs X [] HR:=by
  intro pins s σ H vs us Q I r h
  obtain ⟨e, h⟩:=h
  subst e
  cases r
  exact assignInOrder_nil ⟨σ, H, I, h⟩
theorem XU {e : Expr} {es : List Expr} {t : TG} {u : TGs} (h1 : PG X e t) (h2 : PGs X es u)
    (hs : (assignEach (e :: es) X.env).map (·.2) = assign e X.env :: (assignEach es X.env).map (·.2):=by rfl) : PGs X (e :: es) (QO t u):=by
  intro pins s σ H vs us Q I r h
  obtain ⟨v, vr, e1, h⟩:=h
  subst e1
  cases r with
  | cons r rr=>
    rw [hs]
    refine assignInOrder_cons (thn (h1 pins s σ H _ _ _ I r h) fun _ s1 r9=>?_)
    obtain ⟨σ1, H1, I1, q1⟩:=r9
    exact h2 pins s1 σ1 H1 _ _ Q I1 rr q1
noncomputable def EV (K : PySem.W.Frag) (n : Nat) (t : TGs) : TG:=fun v σ H Q=>∃ a xs, v = .ref a /\ SqT K H a xs /\ xs.length = n /\ t xs σ H Q
theorem Jd {es : List Expr} {k : Nat} {t : TGs} {n : Nat} (hc : X.calm = true) (h : PGs X es t)
    (hn : (assignEach es X.env).length = n:=by rfl) (hst : (assignEach es X.env).findIdx? (·.1) = none:=by rfl) : PG X (.Tuple es k pos) (EV X.K n t):=by
  intro pins s σ H v u Q I r hw
  obtain ⟨a, xs, e1, hq, hl, hw⟩:=hw
  subst e1
  cases r
  obtain ⟨its, rv, ht, hz⟩:=I.tuple hq
  refine assign_Tuple_tuple (I.ok.hd hc) ht (by simp [hn, ← hl, rv.length]) hst fun h' hx=>?_
  have I1 : Inv X pins σ H { s with heap:=h' }:=I.kept (t':=s.toks) fun b o e=>hx b o (Nat.ne_of_lt (Heap.lt_size e)) e
  exact h pins _ σ H xs _ Q I1 (by simpa using rv) hw
noncomputable def LK (to ti : TE) (t : Ls) : TG:=fun v σ H Q=>to σ H fun o H1=>ti σ H1 fun i H2=>t o i v H2 fun H3=>Q σ H3
theorem CI {o i : Expr} {to ti : TE} {t : Ls} (ho : PE X o to) (hi : PE X i ti) (hs : LX X t)
    (ha : ∀ v, assign (.Subscript o i pos) X.env v = (do
      let ov ← holding [v] (eval o X.env)
      let iv ← holding [v, ov] (eval i X.env)
      standAt pos
      holding [v, ov, iv] (setItem ov iv v)
      release [v, ov, iv] []):=by intro _; rfl) : PG X (.Subscript o i pos) (LK to ti t):=by
  intro pins s σ H v u Q I r h
  rw [ha]
  refine wpAny_bind (wpAny_holding (thn (ho pins s σ H _ I h) fun ov s1 r9=>?_))
  obtain ⟨x, H1, I1, r1, q1⟩:=r9
  refine wpAny_bind (wpAny_holding (thn (hi pins s1 σ H1 _ I1 q1) fun iv s2 r9=>?_))
  obtain ⟨y, H2, I2, r2, q2⟩:=r9
  refine wpAny_bind (wpAny_standAt (wpAny_bind (wpAny_holding (thn (hs pins s2 σ H2 x y v ov iv u _ I2 r1 r2 r q2) fun _ s3 r9=>?_))))
  obtain ⟨H3, I3, q3⟩:=r9
  exact wpAny_release ⟨σ, H3, I3, q3⟩
noncomputable def Bm (te : TE) (g : TG) : TS:=fun D σ H=>te σ H fun x H1=>g x σ H1 D.nx
theorem V8 {tg e : Expr} {te : TE} {g : TG} (he : PE X e te) (hg : PG X tg g) (hs : swapsWithSole [tg] e pos.line X.env = pure false:=by rfl) (hw : swappedStores [tg] e X.env = pure none:=by rfl)
    (h1 : (assignEach [tg] X.env).map (·.2) = [assign tg X.env]:=by rfl) : PS X (.Assign [tg] e pos) (Bm te g):=by
  intro pins s σ H D I h
  refine wpAny_Assign_stores (thn (he pins s σ H _ I h) fun v s1 r9=>?_) hs hw
  obtain ⟨x, H1, I1, r1, q1⟩:=r9
  rw [h1]
  exact thn (hg pins s1 σ H1 x v _ I1 r1 q1) fun _ s2 q=>q
theorem Xo {i : Nat} {x : Str} {e : Expr} {te : TE} {pos' : Pos} (hN : X.N.Nodup) (hi : X.N[i]? = some x) (hx : Loc X.env.scope x) (he : PE X e te) (hs : swapsWith e (some (.Name x pos')) pos.line X.env = pure false:=by rfl) (hf : X.fn x = true ∨ X.env.scope.names.lookup x = some .local:=by first | exact .inl rfl | exact .inr rfl | assumption) :
    PS X (.Assign [.Name x pos'] e pos) (Bm te (ZD i)):=by
  intro pins s σ H D I h
  refine wpAny_Assign_Name (thn (he pins s σ H _ I h) fun v s1 r9=>?_) hs
  obtain ⟨y, H1, I1, r1, q1⟩:=r9
  exact Jf I1 hN hi hx r1 (fun s2 I2=>⟨_, H1, I2, q1⟩) hf
noncomputable def LR (i j : Nat) (ta : TA) : TS:=fun D σ H=>ta σ H fun vs H1=>∃ v w, vs = [v, w] /\ D.nx ((σ.set i (some v)).set j (some w)) H1
theorem GP {i j : Nat} {x y : Str} {a b : Expr} {ta : TA} {px py pt : Pos} {kt k2 pt2} (hc : X.calm = true) (hN : X.N.Nodup) (hi : X.N[i]? = some x) (hj : X.N[j]? = some y) (hij : i ≠ j)
    (hx : X.env.scope.names.lookup x = some .local) (hy : X.env.scope.names.lookup y = some .local) (ha : PA X [a, b] ta)
    (hw : swappedStores [.Tuple [.Name x px, .Name y py] kt pt] (.Tuple [a, b] k2 pt2) X.env = pure (some [x, y]))
    (hs : swapsWithSole [.Tuple [.Name x px, .Name y py] kt pt] (.Tuple [a, b] k2 pt2) pos.line X.env = pure false:=by rfl) :
    PS X (.Assign [.Tuple [.Name x px, .Name y py] kt pt] (.Tuple [a, b] k2 pt2) pos) (LR i j ta):=by
  intro pins s σ H D I h
  rw [exec_Assign_arm]
  refine wpAny_bind (wpAny_standAt ?_)
  rw [hs]
  refine wpAny_bind (wpAny_pure ?_)
  rw [if_neg (by decide)]
  refine wpAny_bind (Tuple_ (thn (ha _ pins s σ H _ I h) fun us s1 r9=>?_))
  obtain ⟨vs, H1, I1, r1, q1⟩:=r9
  obtain ⟨v, w, e1, q1⟩:=q1
  subst e1
  obtain ⟨u1, u2, rfl, rv, rw'⟩ : ∃ u1 u2, us = [u1, u2] /\ Yw v u1 /\ Yw w u2:=by
    cases r1 with
    | cons p q=>
      cases q with
      | cons p' q'=>
        cases q'
        exact ⟨_, _, rfl, p, p'⟩
  refine wpAny_newObj_type ?_ (by show 2 <= sizeLine; decide)
  have I2 : Inv X pins σ H1 { s1 with heap:=s1.heap.push { cls:=.type "tuple", data:=.seq [u1, u2].toArray } }:=I1.kept (t':=s1.toks) fun b o e=>Heap.get?_push_of_some _ e
  rw [hw]
  refine wpAny_bind (wpAny_pure ?_)
  show wpAny (model X.prog X.w) X.A (do rule "assign.swapped-stores"; let items ← unpackItems (.ref s1.heap.objs.size) 2 none; assignInOrder [fun v=>bindName X.env y v, fun v=>bindName X.env x v] items.reverse; pure Flow.next) _ _ _
  refine wpAny_bind (wpAny_rule (wpAny_bind (unpackItems_tuple (items:=#[u1, u2]) (I.ok.hd hc) (IsTup.new s1.heap _) fun h' hx'=>?_)))
  have I3:=I2.kept (h':=h') (t':=s1.toks) fun b o e=>hx' b o (Nat.ne_of_lt (Heap.lt_size e)) e
  show wpAny _ _ (assignInOrder [fun v=>bindName X.env y v, fun v=>bindName X.env x v] [u2, u1] >>= fun _=>pure Flow.next) _ _ _
  refine wpAny_bind (assignInOrder_cons (wpAny_bindName (Jf I3 hN hj (.inl hy) rw' (fun s2 I4=>?_) (.inr hy))))
  refine assignInOrder_cons (wpAny_bindName (Jf I4 hN hi (.inl hx) rv (fun s3 I5=>assignInOrder_nil (wpAny_pure ?_)) (.inr hx)))
  rw [List.set_comm _ _ (Ne.symm hij)] at I5
  exact ⟨_, H1, I5, q1⟩
noncomputable def Lz (i : Nat) (te : TE) (ti : TIp) : TS:=fun D σ H=>∃ x, σ[i]? = some (some x) /\ te σ H fun y H1=>ti x y H1 fun z H2=>D.nx (σ.set i (some z)) H2
theorem Dz {i : Nat} {x : Str} {e : Expr} {te : TE} {op : Operator} {ti : TIp} {pos' : Pos} (hN : X.N.Nodup) (hi : X.N[i]? = some x) (hx : Loc X.env.scope x) (he : PE X e te) (ho : PIp X op ti) (hf : X.fn x = true ∨ X.env.scope.names.lookup x = some .local:=by first | exact .inl rfl | exact .inr rfl | assumption) :
    PS X (.AugAssign (.Name x pos') op e pos) (Lz i te ti):=by
  intro pins s σ H D I h
  obtain ⟨v, e1, h⟩:=h
  obtain ⟨m, hn, hl⟩:=I.loc
  have vis : Vis X.env.scope x:=by rcases hx with k | k; exact .inl k; exact .inr (.inl k)
  obtain ⟨u, r, l⟩:=hl i x v hi e1 vis
  refine wpAny_AugAssign_Name ?_
  have go : wpAny (model X.prog X.w) X.A (eval e X.env) (fun w s₂=>wpAny (model X.prog X.w) X.A (inplaceOp op u w) (fun r s₃=>wpAny (model X.prog X.w) X.A (storeName X.env x r) (fun _=>SP X pins D .next) X.xe s₃) X.xe s₂) X.xe s:=by
    refine thn (he pins s σ H _ I h) fun w s1 r9=>?_
    obtain ⟨y, H1, I1, r1, q1⟩:=r9
    refine thn (ho pins s1 σ H1 v y u w _ I1 r r1 q1) fun z s2 r9=>?_
    obtain ⟨zv, H2, I2, r2, q2⟩:=r9
    exact Jf I2 hN hi hx r2 (fun s3 I3=>⟨_, H2, I3, q2⟩) hf
  rcases l with ⟨hk, hm⟩ | ⟨hk, c, hc, hcell⟩
  . exact wpAny_loadName_local I.ok.kind hk hn hm go
  . rcases hk with hk | hk
    . exact wpAny_loadName_cell I.ok.kind hk hc hcell go
    . rcases hx with k | k
      . have : X.env.scope.names.lookup x = some .free := hk
        rw [k] at this; cases this
      . have : X.env.scope.names.lookup x = some .free := hk
        rw [k] at this; cases this
noncomputable def ipI (f : Int -> Int -> Int) : TIp:=fun x y H Q=>∃ i j, x = .int i /\ y = .int j /\ Q (.int (f i j)) H
theorem Ea : PIp X .Add (ipI fun i j=>i + j):=by
  intro pins s σ H x y v u Q I r1 r2 h
  obtain ⟨i, j, e1, e2, q⟩:=h
  subst e1; subst e2
  obtain ⟨t, rfl⟩:=r1
  obtain ⟨t', rfl⟩:=r2
  exact iadd_int ⟨.int _, H, I.tok _, ⟨_, rfl⟩, q⟩
end
section
variable {X : Cx} {pos : Pos}
noncomputable def Eh (c : TT) (tb : TS) : TS:=fun D σ H=>∃ W : Nat -> St -> Hp -> Prop, (∃ m, W m σ H) /\ ∀ m σ H, W m σ H ->
  c σ H fun b H1=>if b = true then ∃ N : St -> Hp -> Prop, (∀ σ' H', N σ' H' -> ∃ m', m' < m /\ W m' σ' H') /\ tb { D with nx:=N, ct:=N, bk:=D.nx } σ H1 else D.nx σ H1
theorem Vd {c : Expr} {body : List Stmt} {tc : TT} {tb : TS} (hp : PassesOwn (model X.prog X.w) X.A X.env X.xe) (hc : PT X c tc) (hb : PSs X body tb) : PS X (.While c body [] pos) (Eh tc tb):=by
  intro pins s σ H D I h
  obtain ⟨W, ⟨m0, w0⟩, turn⟩:=h
  refine wpAny_While (codeAny_whileLoop (fun n s'=>∃ σ' H', Inv X pins σ' H' s' /\ W n σ' H') ?_ m0 ⟨σ, H, I, w0⟩)
  rintro n s1 ⟨σ1, H1, I1, w1⟩
  refine wpAny_passesOwn hp (thn (hc pins s1 σ1 H1 _ I1 (turn n σ1 H1 w1)) fun b s2 r9=>?_)
  obtain ⟨H2, I2, q2⟩:=r9
  cases b with
  | true=>
    obtain ⟨N, hN, q2⟩:=q2
    rw [if_pos rfl]
    refine wpAny_passesOwn hp (thn (hb pins s2 σ1 H2 _ I2 q2) fun f s3 q3=>?_)
    cases f with
    | next=>
      obtain ⟨σ3, H3, I3, n3⟩:=q3
      obtain ⟨m', hm, w3⟩:=hN σ3 H3 n3
      exact ⟨m', hm, σ3, H3, I3, w3⟩
    | cont=>
      obtain ⟨σ3, H3, I3, n3⟩:=q3
      obtain ⟨m', hm, w3⟩:=hN σ3 H3 n3
      exact ⟨m', hm, σ3, H3, I3, w3⟩
    | brk=>exact q3
    | ret v=>exact q3
  | false=>
    rw [if_neg Bool.false_ne_true]
    exact wpAny_execs_nil ⟨σ1, H2, I2, q2⟩
end
structure It where
  go : Nat -> Hp -> Prop
  yld : Nat -> Hp -> V -> Hp -> Prop
  stop : Nat -> Hp -> Prop
noncomputable def Cu (X : Cx) (pins : List (Addr × Obj)) (H : Hp) (b : Addr) : Prop:=
  H b = none /\ b ≠ X.env.locals /\ b ∉ X.fs /\ (b ∈ X.ex ∨ X.s₀.heap.objs.size <= b) /\ (∀ x c, X.env.cells.lookup x = some c -> c ≠ b) /\ ∀ p ∈ X.pn ++ pins, p.1 ≠ b
theorem Inv.fpOk {X : Cx} {pins : List (Addr × Obj)} {σ : St} {H H' : Hp} {s : Shared} {b : Addr} (I : Inv X pins σ H s) (hb : s.heap.objs.size <= b) (hn : H' b = none) : Cu X pins H' b:=by
  refine ⟨hn, Nat.ne_of_gt (Nat.lt_of_lt_of_le I.lt hb), I.nofs hb, .inr (Nat.le_trans I.sz hb), fun x c e z=>?_, fun p hp z=>?_⟩
  . obtain ⟨v, q⟩ := I.cell x c e
    exact absurd (Nat.lt_of_lt_of_le q.lt (by rw [z]; exact hb)) (Nat.lt_irrefl _)
  . exact absurd (Nat.lt_of_lt_of_le (Heap.lt_size (I.pin p hp).1) (by rw [z]; exact hb)) (Nat.lt_irrefl _)
structure Turn (P : Program) (w : World) (K : PySem.W.Frag) (tg : Expr) (J : It) (fp : List Addr) (it : Addr) (tn : Nat -> Heap -> Prop) : Prop where
  mem : it ∈ fp
  obj : ∀ i h, tn i h -> ∀ b ∈ fp, ∃ o, h.get? b = some o /\ ∀ v, o.data ≠ .cell v
  keep : ∀ i h h', tn i h -> (∀ b ∈ fp, ∀ o, h.get? b = some o -> h'.get? b = some o) -> tn i h'
  item : ∀ (X : Cx), X.prog = P -> X.w = w -> X.K = K -> X.calm = true -> ∀ (i : Nat) (pins : List (Addr × Obj)) (s : Shared) (σ : St) (H : Hp) (E : Value -> Shared -> Prop), Inv X pins σ H s -> (∀ b ∈ fp, Cu X pins H b) -> tn i s.heap -> J.go i H ->
    wpAny (model P w) X.A (pyNext (.ref it)) (fun r s1=>∃ u, r = some u /\
      wpAny (model P w) X.A (letOwnedTupleGo tg (.ref it) u) (fun _ s2=>∃ x H', Inv X pins σ H' s2 /\ Yw x u /\ J.yld i H x H' /\ tn (i + 1) s2.heap /\ ∀ b ∈ fp, H' b = none) E s1) E s
  done : ∀ (X : Cx), X.prog = P -> X.w = w -> X.K = K -> X.calm = true -> ∀ (i : Nat) (pins : List (Addr × Obj)) (s : Shared) (σ : St) (H : Hp) (E : Value -> Shared -> Prop), Inv X pins σ H s -> (∀ b ∈ fp, Cu X pins H b) -> tn i s.heap -> J.stop i H ->
    wpAny (model P w) X.A (pyNext (.ref it)) (fun r s1=>r = none /\ Inv X pins σ H s1) E s
  self : ∀ (A : Around) (i : Nat) (s : Shared) (Q : Value -> Shared -> Prop) (E : Value -> Shared -> Prop), tn i s.heap -> Q (.ref it) s -> wpAny (model P w) A (pyIter (.ref it)) Q E s
noncomputable abbrev TI:=St -> Hp -> (It -> Hp -> Prop) -> Prop
noncomputable def PIE (X : Cx) (pins : List (Addr × Obj)) (σ : St) (tg : Expr) (R : It -> Hp -> Prop) (itv : Value) (s2 : Shared) : Prop:=
  ∃ (it : Addr) (fp : List Addr) (tn : Nat -> Heap -> Prop) (J : It) (H' : Hp), itv = .ref it /\ Inv X pins σ H' s2 /\ Turn X.prog X.w X.K tg J fp it tn /\ tn 0 s2.heap /\ (∀ b ∈ fp, Cu X pins H' b) /\ R J H'
noncomputable def PI (X : Cx) (tg iter : Expr) (wi : TI) : Prop:=
  ∀ (pins : List (Addr × Obj)) (s : Shared) (σ : St) (H : Hp) (R : It -> Hp -> Prop), Inv X pins σ H s -> wi σ H R ->
    wpAny (model X.prog X.w) X.A (eval iter X.env) (fun v s1=>wpAny (model X.prog X.w) X.A (pyIter v) (PIE X pins σ tg R) X.xe s1) X.xe s
theorem Ig {M : Model} {A : Around} {E : Value -> Shared -> Prop} {s : Shared} {tg : Expr} {it : Addr} {u : Value} {o : Obj} {n : String} {vs : Array Value} {Q : Unit -> Shared -> Prop} (ho : s.heap.get? it = some o) (hc : o.cls = .type n) (hd : o.data = .fields vs)
    (hn : ["enumerate", "zip", "dict_itemiterator", "dict_reverseitemiterator", "odict_iterator", "itertools.zip_longest", "itertools.pairwise"].contains n = false) (hQ : Q () s) : wpAny M A (letOwnedTupleGo tg (.ref it) u) Q E s:=by
  unfold letOwnedTupleGo
  cases tg <;> first
    | exact wpAny_pure hQ
    | (cases u <;> first
        | exact wpAny_pure hQ
        | (refine wpAny_bind (wpAny_load ho ?_)
           rw [hc, hd]
           show wpAny M A (if (["enumerate", "zip", "dict_itemiterator", "dict_reverseitemiterator", "odict_iterator", "itertools.zip_longest", "itertools.pairwise"].contains n && vs[0]? == some (rawInt _)) = true then _ else _) Q E s
           rw [if_neg (by intro h; rw [hn, Bool.false_and] at h; cases h)]
           exact wpAny_pure hQ))
noncomputable def Itl (K : PySem.W.Frag) (a : Addr) : It:=
  ⟨fun i H=>∃ xs x, SqL K H a xs /\ xs[i]? = some x, fun i H x H'=>H' = H /\ ∀ xs, SqL K H a xs -> xs[i]? = some x, fun i H=>∃ xs, SqL K H a xs /\ xs.length <= i⟩
noncomputable def Itr (lo : Int) (n : Nat) : It:=⟨fun i _=>i < n, fun i H x H'=>H' = H /\ x = .int (lo + i), fun i _=>n <= i⟩
theorem FW {P : Program} {w : World} {K : PySem.W.Frag} {tg : Expr} (a it : Addr) : Turn P w K tg (Itl K a) [it] it (fun i h=>h.IsListIter it a i) where
  mem:=by simp
  obj:=fun i h st b hb=>by
    have e : b = it:=by simpa using hb
    subst e
    obtain ⟨o, e, c, d⟩:=st
    exact ⟨o, e, fun v z=>by rw [d] at z; cases z⟩
  keep:=fun i h h' st k=>st.at fun o e=>k it (by simp) o e
  item:=by
    intro X hP hw hK hc i pins s σ H E I hf st hg
    subst hP hw hK
    obtain ⟨xs, x, hq, hx⟩:=hg
    obtain ⟨its, rv, p, hz⟩:=I.list hq
    obtain ⟨u, hu, ru⟩:=rv.get hx
    obtain ⟨f0, f1, f2, f3, f4, f5⟩:=hf it (by simp)
    refine wpAny_pyNext_list_item st p.isList (x:=u) (by simpa using hu) fun h' st' sb=>?_
    have I1 : Inv X pins σ H { s with heap:=h' }:=I.turned (t':=s.toks) (fun b o hb e=>(sb.2 b hb).trans e) f0 f1 f3 f4 f5
    obtain ⟨o, e, c, d⟩:=id st'
    exact ⟨u, rfl, Ig (s:={ s with heap:=h' }) e c d (by decide) ⟨x, H, I1, ru, ⟨rfl, fun ys hy=>by rw [I.list_inj hy hq]; exact hx⟩, st', fun b hb=>(hf b hb).1⟩⟩
  done:=by
    intro X hP hw hK hc i pins s σ H E I hf st hg
    subst hP hw hK
    obtain ⟨xs, hq, hx⟩:=hg
    obtain ⟨its, rv, p, hz⟩:=I.list hq
    obtain ⟨f0, f1, f2, f3, f4, f5⟩:=hf it (by simp)
    have hl:=rv.length
    exact wpAny_pyNext_list_end (I.ok.hd hc) st p.isList (by simp; (first | lia | omega)) fun h' eb=>⟨rfl, I.turned (t':=s.toks) (fun b o hb e=>eb b o hb e) f0 f1 f3 f4 f5⟩
  self:=fun _ _ _ _ _ st h=>wpAny_pyIter_listiter st h
theorem FE {P : Program} {w : World} {K : PySem.W.Frag} {tg : Expr} (it : Addr) (lo : Int) (n : Nat) : Turn P w K tg (Itr lo n) [it] it (fun i h=>IsRangeIter h it (lo + (i : Nat) * 1) ((n : Int) - (i : Nat)) 1) where
  mem:=by simp
  obj:=fun i h st b hb=>by
    have e : b = it:=by simpa using hb
    subst e
    exact ⟨_, st, fun v z=>by
      have z' : Data.fields _ = Data.cell v:=z
      cases z'⟩
  keep:=fun i h h' st k=>k it (by simp) _ st
  item:=by
    intro X hP hw hK hc i pins s σ H E I hf st hg
    subst hP hw hK
    obtain ⟨f0, f1, f2, f3, f4, f5⟩:=hf it (by simp)
    have W:=Walks.range (prog:=X.prog) (w:=X.w) (I.ok.hd hc) it lo 1 n
    refine W.item i s _ _ hg st fun v h' tk hv st' kk=>?_
    obtain ⟨t, rfl⟩:=hv
    have I1 : Inv X pins σ H { s with heap:=h', toks:=tk }:=I.turned (fun b o hb e=>kk b o (by simpa using hb) e) f0 f1 f3 f4 f5
    refine ⟨_, rfl, Ig (s:={ s with heap:=h', toks:=tk }) (n:="range_iterator") st' rfl rfl (by decide) ⟨.int (lo + i), H, I1, ⟨t, ?_⟩, ⟨rfl, rfl⟩, st', fun b hb=>(hf b hb).1⟩⟩
    rw [Int.mul_one]
  done:=by
    intro X hP hw hK hc i pins s σ H E I hf st hg
    subst hP hw hK
    obtain ⟨f0, f1, f2, f3, f4, f5⟩:=hf it (by simp)
    exact wpAny_pyNext_range_end (I.ok.hd hc) st (by have : n <= i:=hg; (first | lia | omega)) fun h' eb=>⟨rfl, I.turned (t':=s.toks) (fun b o hb e=>eb b o hb e) f0 f1 f3 f4 f5⟩
  self:=fun _ _ _ _ _ st h=>wpAny_pyIter_rangeiter st h
end L2
namespace L2
open PySem PySem.Spec PyProof.Rows
section
variable {X : Cx} {tg : Expr}
noncomputable def EM (K : PySem.W.Frag) (tl : TE) : TI:=fun σ H R=>tl σ H fun x H1=>∃ a, x = .ref a /\ (∃ xs, SqL K H1 a xs) /\ R (Itl K a) H1
theorem EB {l : Expr} {tl : TE} (hl : PE X l tl) : PI X tg l (EM X.K tl):=by
  intro pins s σ H R I h
  refine thn (hl pins s σ H _ I h) fun v s1 r9=>?_
  obtain ⟨x, H1, I1, r1, q1⟩:=r9
  obtain ⟨a, e, ⟨xs, hq⟩, q⟩:=q1
  subst e
  cases r1
  obtain ⟨its, rv, p, hz⟩:=I1.list hq
  refine wpAny_pyIter_list p.isList ?_
  refine ⟨s1.heap.objs.size, [s1.heap.objs.size], _, _, H1, rfl, I1.kept (t':=s1.toks) fun b o e=>Heap.get?_push_of_some _ e, FW a _, ⟨_, Heap.get?_push_size _ rfl, rfl, rfl⟩, fun b hb=>?_, q⟩
  have e : b = s1.heap.objs.size:=by simpa using hb
  subst e
  exact I1.fpOk (Nat.le_refl _) (I1.hok.fresh (Nat.le_refl _))
theorem Br {pins : List (Addr × Obj)} {σ : St} {H : Hp} {s : Shared} {R : It -> Hp -> Prop} {E : Value -> Shared -> Prop} {lo hi : Int} {t u v : Tok} {tk : Nat} (I : Inv X pins σ H s) (h1 : -(2 ^ 62) <= lo) (h2 : lo < 2 ^ 62) (h3 : -(2 ^ 62) <= hi) (h4 : hi < 2 ^ 62)
    (q : R (Itr lo (hi - lo).toNat) H) : wpAny (model X.prog X.w) X.A (pyIter (.ref s.heap.objs.size)) (PIE X pins σ tg R) E { s with heap:=s.heap.push { cls:=.type "range", data:=.fields #[.int lo t, .int hi u, .int 1 v] }, toks:=tk }:=by
  refine wpAny_pyIter_range (IsRange.new ..) (small_one h1 h2 h3 h4) ?_
  have I1 : Inv X pins σ H { s with heap:=s.heap.push { cls:=.type "range", data:=.fields #[.int lo t, .int hi u, .int 1 v] }, toks:=tk }:=I.kept fun b o e=>Heap.get?_push_of_some _ e
  refine ⟨(s.heap.push { cls:=.type "range", data:=.fields #[.int lo t, .int hi u, .int 1 v] }).objs.size, [(s.heap.push { cls:=.type "range", data:=.fields #[.int lo t, .int hi u, .int 1 v] }).objs.size], _, _, H, rfl,
    I1.kept (t':=tk) fun b o e=>Heap.get?_push_of_some _ e, FE _ lo (hi - lo).toNat, ?_, fun b hb=>?_, q⟩
  . have e1 : lo + ((0 : Nat) : Int) * 1 = lo := by simp
    have e2 : (((hi - lo).toNat : Nat) : Int) - ((0 : Nat) : Int) = Builtin.Range.rangeSize lo hi 1:=by rw [rangeSize_one]; split <;> (first | lia | omega)
    show IsRangeIter _ _ (lo + ((0 : Nat) : Int) * 1) ((((hi - lo).toNat : Nat) : Int) - ((0 : Nat) : Int)) 1
    rw [e1, e2]
    exact Heap.get?_push_size _ rfl
  . have e : b = (s.heap.push { cls := .type "range", data := .fields #[.int lo t, .int hi u, .int 1 v] }).objs.size := by simpa using hb
    subst e
    exact I1.fpOk (Nat.le_refl _) (I1.hok.fresh (Nat.le_refl _))
noncomputable def IU (ta : TA) : TI:=fun σ H R=>ta σ H fun vs H1=>∃ j : Int, vs = [.int j] /\ -(2 ^ 62) <= j /\ j < 2 ^ 62 /\ R (Itr 0 j.toNat) H1
theorem XM {a : Expr} {ta : TA} {p pos : Pos} (hg : Gl X "range") (hm : X.mg "range" = none) (ha : PA X [a] ta) (hs : starEach [a] X.env = [(false, eval a X.env)]:=by rfl) : PI X tg (.Call (.Name "range" p) [a] [] pos) (IU ta):=by
  intro pins s σ H R I h
  refine Call_ (Vu I hg hm boot_range (PyProof.Rows.callWith_type1 (thn (ha pos pins s σ H _ I h) fun us s1 r9=>?_) hs rfl))
  obtain ⟨vs, H1, I1, r1, q1⟩:=r9
  obtain ⟨j, e, q1, q2, q⟩:=q1
  subst e
  cases r1 with
  | cons r rr=>
    cases rr
    obtain ⟨t, rfl⟩:=r
    exact call_range_1 (Br I1 (by first | lia | omega) (by first | lia | omega) q1 q2 (by simpa using q))
noncomputable def Ll (wi : TI) (g : TG) (tb : TS) : TS:=fun D σ H=>wi σ H fun J H1=>∃ W : Nat -> Nat -> St -> Hp -> Prop, (∃ m, W 0 m σ H1) /\ ∀ i m σ H, W i m σ H ->
  (J.stop i H /\ D.nx σ H) ∨ (J.go i H /\ ∃ N : St -> Hp -> Prop, (∀ σ' H', N σ' H' -> ∃ m', m' < m /\ W (i + 1) m' σ' H') /\ ∀ x H', J.yld i H x H' -> g x σ H' fun σ2 H2=>tb { D with nx:=N, ct:=N, bk:=D.nx } σ2 H2)
noncomputable def Uc (fp : List Addr) (h : Heap) : List (Addr × Obj):=fp.filterMap fun b=>(h.get? b).map fun o=>(b, o)
theorem ZF {fp : List Addr} {h : Heap} {b : Addr} {o : Obj} (hb : b ∈ fp) (e : h.get? b = some o) : (b, o) ∈ Uc fp h:=List.mem_filterMap.mpr ⟨b, hb, by rw [e]; rfl⟩
theorem Ki {fp : List Addr} {h : Heap} {p : Addr × Obj} (hp : p ∈ Uc fp h) : p.1 ∈ fp /\ h.get? p.1 = some p.2:=by
  obtain ⟨b, hb, e⟩:=List.mem_filterMap.mp hp
  cases q : h.get? b with
  | none=>rw [q] at e; cases e
  | some o=>
    rw [q] at e
    have e' : (b, o) = p:=Option.some.inj e
    subst e'
    exact ⟨hb, q⟩
theorem Inv.pinned {pins : List (Addr × Obj)} {σ : St} {H : Hp} {s : Shared} {fp : List Addr} (I : Inv X pins σ H s) (hf : ∀ b ∈ fp, Cu X pins H b) (ho : ∀ b ∈ fp, ∃ o, s.heap.get? b = some o /\ ∀ v, o.data ≠ .cell v) : Inv X (pins ++ Uc fp s.heap) σ H s:=
  I.pins_of fun p hp=>(List.mem_append.mp hp).elim (fun z=>I.pin p (List.mem_append_right _ z)) fun z=>by
    obtain ⟨hb, e⟩:=Ki z
    obtain ⟨f0, f1, f2, _⟩:=hf p.1 hb
    obtain ⟨o, e', d⟩:=ho p.1 hb
    rw [e] at e'; cases e'
    exact ⟨e, f0, f1, f2, d⟩
theorem Inv.unpinned {pins pl : List (Addr × Obj)} {σ : St} {H : Hp} {s : Shared} (I : Inv X (pins ++ pl) σ H s) : Inv X pins σ H s:=I.pins_of fun p hp=>I.pin p (List.mem_append_right _ (List.mem_append_left _ hp))
theorem X4 {iter : Expr} {body : List Stmt} {wi : TI} {g : TG} {tb : TS} {pos : Pos} (hp : PassesOwn (model X.prog X.w) X.A X.env X.xe) (hc : X.calm = true) (hi : PI X tg iter wi) (hg : PG X tg g) (hb : PSs X body tb)
    (hs : ∀ x, foldedSetIterable iter X.env x = pure x:=by intro _; rfl) : PS X (.For tg iter body [] pos) (Ll wi g tb):=by
  intro pins s σ H D I h
  refine wpAny_For (thn (hi pins s σ H _ I h) fun v s1 h1=>thn h1 fun itv s2 h2=>?_) hs
  obtain ⟨it, fp, tn, J, H2, e, I2, T, st2, f2, W, ⟨m0, w0⟩, turn⟩:=h2
  subst e
  -- what stays true of the iterator's objects through the loop
  have stat : ∀ {H' : Hp}, (∀ b ∈ fp, H' b = none) -> ∀ b ∈ fp, Cu X pins H' b:=fun hn b hb=>⟨hn b hb, (f2 b hb).2⟩
  refine codeAny_forLoop_any (fun n s'=>∃ i σ' H', Inv X pins σ' H' s' /\ tn i s'.heap /\ (∀ b ∈ fp, H' b = none) /\ W i n σ' H') ?_ m0 ⟨0, σ, H2, I2, st2, fun b hb=>(f2 b hb).1, w0⟩
  rintro n s3 ⟨i, σ3, H3, I3, st3, fr3, w3⟩
  rcases turn i n σ3 H3 w3 with ⟨stop, qn⟩ | ⟨go, N, hN, step⟩
  . refine wpAny_passesOwn hp (thn (T.done X rfl rfl rfl hc i pins s3 σ3 H3 X.xe I3 (stat fr3) st3 stop) fun r s4 r9 => ?_)
    obtain ⟨hr, I4⟩:=r9
    subst hr
    exact wpAny_execs_nil ⟨σ3, H3, I4, qn⟩
  . refine wpAny_passesOwn hp (thn (T.item X rfl rfl rfl hc i pins s3 σ3 H3 X.xe I3 (stat fr3) st3 go) fun r s4 r9 => ?_)
    obtain ⟨u, hr, h4⟩:=r9
    subst hr
    refine wpAny_passesOwn hp (thn h4 fun _ s5 r9=>?_)
    obtain ⟨x, H5, I5, r5, y5, st5, fr5⟩:=r9
    have I5':=I5.pinned (stat fr5) (T.obj _ _ st5)
    refine wpAny_passesOwn hp (thn (hg _ s5 σ3 H5 x u _ I5' r5 (step x H5 y5)) fun _ s6 r9=>?_)
    obtain ⟨σ6, H6, I6, q6⟩:=r9
    refine wpAny_passesOwn hp (thn (hb _ s6 σ6 H6 _ I6 q6) fun f s7 q7=>?_)
    have again : ∀ {σ7 : St} {H7 : Hp}, Inv X (pins ++ Uc fp s5.heap) σ7 H7 s7 -> N σ7 H7 -> ∃ m, m < n /\ ∃ i σ' H', Inv X pins σ' H' s7 /\ tn i s7.heap /\ (∀ b ∈ fp, H' b = none) /\ W i m σ' H':=fun {σ7 H7} I7 n7=>by
      obtain ⟨m', hm, w7⟩:=hN σ7 H7 n7
      refine ⟨m', hm, i + 1, σ7, H7, I7.unpinned, T.keep _ _ _ st5 fun b hb o e=>(I7.pin (b, o) (List.mem_append_right _ (List.mem_append_right _ (ZF hb e)))).1, fun b hb=>?_, w7⟩
      obtain ⟨o, e, d⟩:=T.obj _ _ st5 b hb
      exact (I7.pin (b, o) (List.mem_append_right _ (List.mem_append_right _ (ZF hb e)))).2.1
    cases f with
    | next=>obtain ⟨σ7, H7, I7, n7⟩:=q7; exact again I7 n7
    | cont=>obtain ⟨σ7, H7, I7, n7⟩:=q7; exact again I7 n7
    | brk=>obtain ⟨σ7, H7, I7, q7⟩:=q7; exact ⟨σ7, H7, I7.unpinned, q7⟩
    | ret v=>obtain ⟨x7, σ7, H7, I7, r7, q7⟩:=q7; exact ⟨x7, σ7, H7, I7.unpinned, r7, q7⟩
end
end L2
namespace L2
open PySem PySem.Spec PyProof.Rows
noncomputable abbrev R2:=V -> V -> Hp -> VK -> Prop
noncomputable def OpR (X : Cx) (f : Value -> Value -> Sem Value) (r : R2) : Prop:=
  ∀ (pins : List (Addr × Obj)) (s : Shared) (σ : St) (H : Hp) (x y : V) (v u : Value) (Q : VK), Inv X pins σ H s -> Yw x v -> Yw y u -> r x y H Q ->
    wpAny (model X.prog X.w) X.A (f v u) (EP X pins σ Q) X.xe s
noncomputable def UnR (X : Cx) (f : Value -> Sem Value) (r : V -> Hp -> VK -> Prop) : Prop:=
  ∀ (pins : List (Addr × Obj)) (s : Shared) (σ : St) (H : Hp) (x : V) (v : Value) (Q : VK), Inv X pins σ H s -> Yw x v -> r x H Q ->
    wpAny (model X.prog X.w) X.A (f v) (EP X pins σ Q) X.xe s
noncomputable def Z9 (X : Cx) (f : Value) (r : List V -> Hp -> VK -> Prop) : Prop:=
  ∀ (pins : List (Addr × Obj)) (s : Shared) (σ : St) (H : Hp) (xs : List V) (us : List Value) (Q : VK), Inv X pins σ H s -> Yj xs us -> r xs H Q ->
    wpAny (model X.prog X.w) X.A (call f us) (EP X pins σ Q) X.xe s
noncomputable def tOp (r : R2) (ta tb : TE) : TE:=fun σ H Q=>ta σ H fun x H1=>tb σ H1 fun y H2=>r x y H2 Q
noncomputable def tUn (r : V -> Hp -> VK -> Prop) (ta : TE) : TE:=fun σ H Q=>ta σ H fun x H1=>r x H1 Q
noncomputable def rI (C : Int -> Int -> Prop) (g : Int -> Int -> V) : R2:=fun x y H Q=>∃ i j, x = .int i /\ y = .int j /\ C i j /\ Q (g i j) H
noncomputable def rI0 (g : Int -> Int -> V) : R2:=fun x y H Q=>∃ i j, x = .int i /\ y = .int j /\ Q (g i j) H
noncomputable def rU (g : Int -> V) : V -> Hp -> VK -> Prop:=fun x H Q=>∃ i, x = .int i /\ Q (g i) H
section
variable {X : Cx} {a b c : Expr} {ta tb tc : TE} {pos : Pos}
theorem LJ (ha : PE X a ta) (hb : PE X b tb) {pins : List (Addr × Obj)} {s : Shared} {σ : St} {H : Hp} {R : V -> V -> Hp -> Prop} (I : Inv X pins σ H s)
    (h : ta σ H fun x H1=>tb σ H1 fun y H2=>R x y H2) {Q : Value -> Shared -> Prop} {f : Value -> Value -> Sem Value}
    (hf : ∀ v u s2 x y H2, Inv X pins σ H2 s2 -> Yw x v -> Yw y u -> R x y H2 -> wpAny (model X.prog X.w) X.A (f v u) Q X.xe s2) :
    wpAny (model X.prog X.w) X.A (eval a X.env) (fun v s₁=>wpAny (model X.prog X.w) X.A (eval b X.env) (fun u s₂=>wpAny (model X.prog X.w) X.A (f v u) Q X.xe s₂) X.xe s₁) X.xe s:=by
  refine thn (ha pins s σ H _ I h) fun v s1 r9=>?_
  obtain ⟨x, H1, I1, r1, q1⟩:=r9
  refine thn (hb pins s1 σ H1 _ I1 q1) fun u s2 r9=>?_
  obtain ⟨y, H2, I2, r2, q2⟩:=r9
  exact hf v u s2 x y H2 I2 r1 r2 q2
theorem Xq {op : Operator} {r : R2} (ho : OpR X (binaryOp op) r) (ha : PE X a ta) (hb : PE X b tb) : PE X (.BinOp a op b pos) (tOp r ta tb):=by
  intro pins s σ H Q I h
  exact wpAny_BinOp (LJ ha hb I h fun v u s2 x y H2 I2 rx ry q=>ho pins s2 σ H2 x y v u Q I2 rx ry q)
theorem U0 {op : UnaryOp} {r : V -> Hp -> VK -> Prop} (ho : UnR X (unaryOp op) r) (ha : PE X a ta) : PE X (.UnaryOp op a pos) (tUn r ta):=by
  intro pins s σ H Q I h
  exact UnaryOp_ (thn (ha pins s σ H _ I h) fun v s1 r9=>by obtain ⟨x, H1, I1, r1, q1⟩:=r9; exact ho pins s1 σ H1 x v Q I1 r1 q1)
theorem opI {f : Value -> Value -> Sem Value} {C : Int -> Int -> Prop} {g : Int -> Int -> Int}
    (rule : ∀ (i j : Int) (t u : Tok) (s : Shared) (Q : Value -> Shared -> Prop) (E : Value -> Shared -> Prop), C i j -> Q (.int (g i j) s.toks) { s with toks:=s.toks + 1 } -> wpAny (model X.prog X.w) X.A (f (.int i t) (.int j u)) Q E s) :
    OpR X f (rI C fun i j=>.int (g i j)):=by
  intro pins s σ H x y v u Q I rx ry h
  obtain ⟨i, j, rfl, rfl, hc, q⟩:=h
  obtain ⟨t, rfl⟩:=rx
  obtain ⟨t', rfl⟩:=ry
  exact rule i j t t' s _ _ hc ⟨.int (g i j), H, I.tok _, ⟨_, rfl⟩, q⟩
theorem LQ {f : Value -> Value -> Sem Value} {g : Int -> Int -> Int}
    (rule : ∀ (i j : Int) (t u : Tok) (s : Shared) (Q : Value -> Shared -> Prop) (E : Value -> Shared -> Prop), Q (.int (g i j) s.toks) { s with toks:=s.toks + 1 } -> wpAny (model X.prog X.w) X.A (f (.int i t) (.int j u)) Q E s) :
    OpR X f (rI0 fun i j=>.int (g i j)):=by
  intro pins s σ H x y v u Q I rx ry h
  obtain ⟨i, j, rfl, rfl, q⟩:=h
  obtain ⟨t, rfl⟩:=rx
  obtain ⟨t', rfl⟩:=ry
  exact rule i j t t' s _ _ ⟨.int (g i j), H, I.tok _, ⟨_, rfl⟩, q⟩
theorem Li {f : Value -> Value -> Sem Value} {g : Int -> Int -> Bool}
    (rule : ∀ (i j : Int) (t u : Tok) (s : Shared) (Q : Value -> Shared -> Prop) (E : Value -> Shared -> Prop), Q (.bool (g i j)) s -> wpAny (model X.prog X.w) X.A (f (.int i t) (.int j u)) Q E s) :
    OpR X f (rI0 fun i j=>.bl (g i j)):=by
  intro pins s σ H x y v u Q I rx ry h
  obtain ⟨i, j, rfl, rfl, q⟩:=h
  obtain ⟨t, rfl⟩:=rx
  obtain ⟨t', rfl⟩:=ry
  exact rule i j t t' s _ _ ⟨.bl (g i j), H, I, rfl, q⟩
noncomputable def LZ (i j : Int) : Prop:=0 <= j /\ j <= 1000000 /\ i.natAbs < 2 ^ 64
noncomputable def Ii (i j : Int) : Prop:=(-(2 ^ 64) < i /\ i < 2 ^ 64) ∨ (-(2 ^ 64) < j /\ j < 2 ^ 64)
theorem Ii.ok {i j : Int} (h : Ii i j) : IntMulOk i j:=by
  rcases h with ⟨h1, h2⟩ | ⟨h1, h2⟩
  . exact .of_left (intBits_le_64 h1 h2)
  . exact .of_right (intBits_le_64 h1 h2)
theorem X2 : OpR X (binaryOp .Add) (rI0 fun i j=>.int (i + j)):=LQ fun _ _ _ _ _ _ _ q=>add_int q
theorem ZN : OpR X (binaryOp .Sub) (rI0 fun i j=>.int (i - j)):=LQ fun _ _ _ _ _ _ _ q=>sub_int q
theorem YT : OpR X (binaryOp .Mult) (rI Ii fun i j=>.int (i * j)):=opI fun _ _ _ _ _ _ _ hc q=>mul_int q hc.ok
theorem Yq : OpR X (binaryOp .Mod) (rI (fun _ j=>0 < j) fun i j=>.int (i % j)):=opI fun i j _ _ _ _ _ hc q=>by
  have h1 : (0 : Int) < j:=hc
  exact mod_int' (by first | lia | omega) (by rw [Int.fmod_eq_emod_of_nonneg i (by first | lia | omega)]; exact q)
theorem F5 : OpR X (binaryOp .Pow) (rI LZ fun i j=>.int (i ^ j.toNat)):=opI fun _ _ _ _ _ _ _ hc q=>pow_int_small hc.1 hc.2.1 hc.2.2 q
theorem unI {f : Value -> Sem Value} {g : Int -> Int}
    (rule : ∀ (i : Int) (t : Tok) (s : Shared) (Q : Value -> Shared -> Prop) (E : Value -> Shared -> Prop), Q (.int (g i) s.toks) { s with toks:=s.toks + 1 } -> wpAny (model X.prog X.w) X.A (f (.int i t)) Q E s) :
    UnR X f (rU fun i=>.int (g i)):=by
  intro pins s σ H x v Q I rx h
  obtain ⟨i, rfl, q⟩:=h
  obtain ⟨t, rfl⟩:=rx
  exact rule i t s _ _ ⟨.int (g i), H, I.tok _, ⟨_, rfl⟩, q⟩
theorem JP : UnR X (unaryOp .USub) (rU fun i=>.int (-i)):=unI fun _ _ _ _ _ q=>neg_int q
end
noncomputable def LF : V -> V -> Bool
  | .non, .non=>true | .non, .int _=>true | .int _, .non=>true | .non, .bl _=>true | .bl _, .non=>true | .non, .str _=>true | .str _, .non=>true
  | .int _, .int _=>true | .bl _, .bl _=>true | .str _, .str _=>true | .byt _, .byt _=>true
  | .int _, .str _=>true | .str _, .int _=>true | .bl _, .str _=>true | .str _, .bl _=>true
  | _, _=>false
noncomputable def rEq : R2:=fun x y H Q=>LF x y = true /\ Q (.bl (decide (x = y))) H
noncomputable def rNe : R2:=fun x y H Q=>LF x y = true /\ Q (.bl (!decide (x = y))) H
theorem DH {i j : Int} : decide (V.int i = V.int j) = (i == j):=by
  rw [Bool.eq_iff_iff]
  simp
theorem Ek {i j : Bool} : decide (V.bl i = V.bl j) = (i == j):=by
  rw [Bool.eq_iff_iff]
  simp
theorem Dy {i j : Str} : decide (V.str i = V.str j) = (i == j):=by
  rw [Bool.eq_iff_iff]
  simp
theorem Dc {i j : Array UInt8} : decide (V.byt i = V.byt j) = (i.toList == j.toList):=by
  rw [Bool.eq_iff_iff]
  cases i
  cases j
  simp
section
variable {X : Cx} {a b c : Expr} {ta tb tc : TE} {pos : Pos}
theorem Ye {pins : List (Addr × Obj)} {σ : St} {H : Hp} {s : Shared} {Q : VK} {k k' : Bool} (I : Inv X pins σ H s) (q : Q (.bl k) H) (e : k = k') : EP X pins σ Q (.bool k') s:=by
  subst e
  exact ⟨.bl k, H, I, rfl, q⟩
theorem Ql : OpR X (compareOp .Eq) rEq:=by
  intro pins s σ H x y v u Q I rx ry h
  obtain ⟨hs, q⟩:=h
  cases x with
  | non=>
    cases rx
    cases y with
    | non=>cases ry; exact PySem.EqNone.eq_none_none (Ye I q (by simp))
    | bl j=>cases ry; exact PySem.EqNone.eq_none_bool (Ye I q (by simp))
    | int j=>obtain ⟨t', rfl⟩:=ry; exact PySem.EqNone.eq_none_int (Ye I q (by simp))
    | str j=>obtain ⟨t', rfl⟩:=ry; exact PySem.EqNone.eq_none_str (Ye I q (by simp))
    | _=>exact absurd (show false = true from hs) Bool.false_ne_true
  | bl i=>
    cases rx
    cases y with
    | non=>cases ry; exact PySem.EqNone.eq_bool_none (Ye I q (by simp))
    | bl j=>cases ry; exact eq_bool (Ye I q Ek)
    | str j=>obtain ⟨t', rfl⟩:=ry; exact PySem.EqMixed.eq_bool_str (Ye I q (by simp))
    | _=>exact absurd (show false = true from hs) Bool.false_ne_true
  | int i=>
    obtain ⟨t, rfl⟩:=rx
    cases y with
    | non=>cases ry; exact PySem.EqNone.eq_int_none (Ye I q (by simp))
    | int j=>obtain ⟨t', rfl⟩:=ry; exact eq_int (Ye I q DH)
    | str j=>obtain ⟨t', rfl⟩:=ry; exact PySem.EqMixed.eq_int_str (Ye I q (by simp))
    | _=>exact absurd (show false = true from hs) Bool.false_ne_true
  | str i=>
    obtain ⟨t, rfl⟩:=rx
    cases y with
    | non=>cases ry; exact PySem.EqNone.eq_str_none (Ye I q (by simp))
    | bl j=>cases ry; exact PySem.EqMixed.eq_str_bool (Ye I q (by simp))
    | int j=>obtain ⟨t', rfl⟩:=ry; exact PySem.EqMixed.eq_str_int (Ye I q (by simp))
    | str j=>obtain ⟨t', rfl⟩:=ry; exact eq_str (Ye I q Dy)
    | _=>exact absurd (show false = true from hs) Bool.false_ne_true
  | byt i=>
    obtain ⟨t, rfl⟩:=rx
    cases y with
    | byt j=>obtain ⟨t', rfl⟩:=ry; exact PySem.W.eq_bytes (Ye I q Dc)
    | _=>exact absurd (show false = true from hs) Bool.false_ne_true
  | _=>cases y <;> exact absurd (show false = true from hs) Bool.false_ne_true
theorem Bj : OpR X (compareOp .NotEq) rNe:=by
  intro pins s σ H x y v u Q I rx ry h
  obtain ⟨hs, q⟩:=h
  cases x with
  | non=>
    cases rx
    cases y with
    | non=>cases ry; exact PySem.EqNone.ne_none_none (Ye I q (by simp))
    | bl j=>cases ry; exact PySem.EqNone.ne_none_bool (Ye I q (by simp))
    | int j=>obtain ⟨t', rfl⟩:=ry; exact PySem.EqNone.ne_none_int (Ye I q (by simp))
    | str j=>obtain ⟨t', rfl⟩:=ry; exact PySem.EqNone.ne_none_str (Ye I q (by simp))
    | _=>exact absurd (show false = true from hs) Bool.false_ne_true
  | bl i=>
    cases rx
    cases y with
    | non=>cases ry; exact PySem.EqNone.ne_bool_none (Ye I q (by simp))
    | bl j=>cases ry; exact ne_bool (Ye I q (congrArg not Ek))
    | str j=>obtain ⟨t', rfl⟩:=ry; exact PySem.EqMixed.ne_bool_str (Ye I q (by simp))
    | _=>exact absurd (show false = true from hs) Bool.false_ne_true
  | int i=>
    obtain ⟨t, rfl⟩:=rx
    cases y with
    | non=>cases ry; exact PySem.EqNone.ne_int_none (Ye I q (by simp))
    | int j=>obtain ⟨t', rfl⟩:=ry; exact ne_int (Ye I q (congrArg not DH))
    | str j=>obtain ⟨t', rfl⟩:=ry; exact PySem.EqMixed.ne_int_str (Ye I q (by simp))
    | _=>exact absurd (show false = true from hs) Bool.false_ne_true
  | str i=>
    obtain ⟨t, rfl⟩:=rx
    cases y with
    | non=>cases ry; exact PySem.EqNone.ne_str_none (Ye I q (by simp))
    | bl j=>cases ry; exact PySem.EqMixed.ne_str_bool (Ye I q (by simp))
    | int j=>obtain ⟨t', rfl⟩:=ry; exact PySem.EqMixed.ne_str_int (Ye I q (by simp))
    | str j=>obtain ⟨t', rfl⟩:=ry; exact ne_str (Ye I q (congrArg not Dy))
    | _=>exact absurd (show false = true from hs) Bool.false_ne_true
  | byt i=>
    obtain ⟨t, rfl⟩:=rx
    cases y with
    | byt j=>obtain ⟨t', rfl⟩:=ry; exact PySem.W.ne_bytes (Ye I q (congrArg not Dc))
    | _=>exact absurd (show false = true from hs) Bool.false_ne_true
  | _=>cases y <;> exact absurd (show false = true from hs) Bool.false_ne_true
theorem Qv : OpR X (compareOp .Lt) (rI0 fun i j=>.bl (decide (i < j))):=Li fun _ _ _ _ _ _ _ q=>lt_int q
theorem LC : OpR X (compareOp .LtE) (rI0 fun i j=>.bl (decide (i <= j))):=Li fun _ _ _ _ _ _ _ q=>le_int q
theorem Gc : OpR X (compareOp .Gt) (rI0 fun i j=>.bl (decide (j < i))):=Li fun _ _ _ _ _ _ _ q=>gt_int q
theorem EA : OpR X (compareOp .GtE) (rI0 fun i j=>.bl (decide (j <= i))):=Li fun _ _ _ _ _ _ _ q=>ge_int q
theorem OpR.or {f : Value -> Value -> Sem Value} {r r' : R2} (h : OpR X f r) (h' : OpR X f r') : OpR X f (fun x y H Q=>r x y H Q ∨ r' x y H Q):=by
  intro pins s σ H x y v u Q I rx ry q
  rcases q with q | q
  . exact h pins s σ H x y v u Q I rx ry q
  . exact h' pins s σ H x y v u Q I rx ry q
theorem XG (b : Expr) {op : CmpOp} (h : op ≠ .In:=by decide) (h2 : op ≠ .NotIn:=by decide) : behindInMarks op b = false:=by
  have e1 : (op == CmpOp.In) = false:=by cases op <;> first | rfl | exact absurd rfl h
  have e2 : (op == CmpOp.NotIn) = false:=by cases op <;> first | rfl | exact absurd rfl h2
  cases b <;> simp [behindInMarks, e1, e2]
theorem Ew {op : CmpOp} {r : R2} (ho : OpR X (compareOp op) r) (ha : PE X a ta) (hb : PE X b tb) (hm : behindInMarks op b = false) : PE X (.Compare a [op] [b] pos) (tOp r ta tb):=by
  intro pins s σ H Q I h
  exact wpAny_Compare1 (LJ ha hb I h fun v u s2 x y H2 I2 rx ry q=>ho pins s2 σ H2 x y v u Q I2 rx ry q) hm
noncomputable def Ld (t : TE) : TT:=fun σ H Q=>t σ H fun x H'=>∃ k, x = .bl k /\ Q k H'
theorem Xs {op : CmpOp} {r : R2} (ho : OpR X (compareOp op) r) (ha : PE X a ta) (hb : PE X b tb) (hm : behindInMarks op b = false) : PT X (.Compare a [op] [b] pos) (Ld (tOp r ta tb)):=by
  intro pins s σ H Q I h
  refine wpAny_isTrue_Compare1 (thn (ha pins s σ H _ I h) fun v s1 ⟨x, H1, I1, r1, q1⟩=>thn (hb pins s1 σ H1 _ I1 q1) fun u s2 ⟨y, H2, I2, r2, q2⟩=>
    thn (ho pins s2 σ H2 x y v u _ I2 r1 r2 q2) fun c s3 ⟨z, H3, I3, r3, k, e, q3⟩=>?_) hm
  subst e
  cases r3
  exact wpAny_truthy_bool ⟨H3, I3, q3⟩
theorem GU : (sizeLine : Nat) < 2 ^ 63:=by rw [sizeLine_eq]; decide
theorem Gw {x : V} {us : List Value} (r : Yj [x] us) : ∃ u, us = [u] /\ Yw x u:=by
  cases r with
  | cons r1 r2=>cases r2; exact ⟨_, rfl, r1⟩
theorem IZ {x y : V} {us : List Value} (r : Yj [x, y] us) : ∃ u w', us = [u, w'] /\ Yw x u /\ Yw y w':=by
  cases r with
  | cons r1 r2=>
    cases r2 with
    | cons r3 r4=>cases r4; exact ⟨_, _, rfl, r1, r3⟩
theorem GL : Z9 X (.builtin "abs") (fun xs H Q=>∃ i, xs = [.int i] /\ Q (.int (if i < 0 then -i else i)) H):=by
  intro pins s σ H xs us Q I r h
  obtain ⟨i, rfl, q⟩:=h
  obtain ⟨u, rfl, t, rfl⟩:=Gw r
  exact call_abs_int fun u tk=>⟨.int (if i < 0 then -i else i), H, I.tok _, ⟨_, rfl⟩, q⟩
theorem VG (hc : X.calm = true) : Z9 X (.builtin "max") (fun xs H Q=>∃ i j, xs = [.int i, .int j] /\ Q (.int (if j > i then j else i)) H):=by
  intro pins s σ H xs us Q I r h
  obtain ⟨i, j, rfl, q⟩:=h
  obtain ⟨u, w', rfl, ⟨t, rfl⟩, ⟨t', rfl⟩⟩:=IZ r
  refine max_two_ints (I.ok.hd hc) fun h' tk k=>⟨_, H, I.kept k, ?_, q⟩
  by_cases hj : j > i
  . rw [if_pos hj, if_pos hj]; exact ⟨_, rfl⟩
  . rw [if_neg hj, if_neg hj]; exact ⟨_, rfl⟩
theorem Co (hc : X.calm = true) : Z9 X (.builtin "min") (fun xs H Q=>∃ i j, xs = [.int i, .int j] /\ Q (.int (if j < i then j else i)) H):=by
  intro pins s σ H xs us Q I r h
  obtain ⟨i, j, rfl, q⟩:=h
  obtain ⟨u, w', rfl, ⟨t, rfl⟩, ⟨t', rfl⟩⟩:=IZ r
  refine min_two_ints (I.ok.hd hc) fun h' tk k=>⟨_, H, I.kept k, ?_, q⟩
  by_cases hj : j < i
  . rw [if_pos hj, if_pos hj]; exact ⟨_, rfl⟩
  . rw [if_neg hj, if_neg hj]; exact ⟨_, rfl⟩
end
end L2
namespace L2
open PySem PySem.Spec PyProof.Rows
structure ObjM (h : Heap) (x dx C : Addr) (mA : Str -> Option Value) : Prop where
  obj : h.get? x = some (PySem.W.instObj C dx)
  ns : h.Ns1 dx mA
  ne : dx ≠ x
theorem DS {h : Heap} {dx : Addr} {mA : Str -> Option Value} (n : h.Ns1 dx mA) : ∃ od, h.get? dx = some od /\ ∀ name, PySem.W.lookIn name od = some (mA name):=by
  obtain ⟨o, es, ep, ho, hd, hk, _, hm⟩:=n
  refine ⟨o, ho, fun name=>?_⟩
  have e:=hm name
  unfold nsFind findBy at e
  rw [← Array.find?_toList] at e
  unfold PySem.W.lookIn
  rw [hd]
  dsimp only
  split
  . rename_i y q
    rw [q] at e
    exact congrArg some e
  . rename_i q
    rw [q] at e
    have a : es.toList.any (·.refKey) = false:=by
      rw [List.any_eq_false]
      intro y hy
      obtain ⟨z, t, hkey⟩:=hk y (Array.mem_toList_iff.mp hy)
      simp [DictEntry.refKey, hkey]
    have a' : ¬ es.toList.any (·.refKey) = true:=by rw [a]; exact Bool.false_ne_true
    rw [if_neg a']
    exact congrArg some e
theorem ObjM.look {h : Heap} {x dx C : Addr} {mA : Str -> Option Value} (I : ObjM h x dx C mA) : ∃ od, PySem.W.InstAt h x (PySem.W.instObj C dx) C (some od) /\ ∀ name, PySem.W.lookIn name od = some (mA name):=
  let ⟨od, ho, hl⟩:=DS I.ns
  ⟨od, ⟨I.obj, rfl, rfl, ho⟩, hl⟩
section
variable {prog : Program} {w : World} {A : Around} {E : Value -> Shared -> Prop} {s : Shared} {K : PySem.W.Frag} {x dx C f : Addr} {mA : Str -> Option Value} {name : Str} {v : Value}
end
theorem Fv.some_of {v : V} {o : Option Value} (r : Fv (some v) o) : ∃ u, o = some u /\ Yw v u:=by
  cases o with
  | none=>exact (show False from r).elim
  | some u=>exact ⟨u, rfl, r⟩
section
variable {P : Program} {w : World} {H H' : Hp} {h h' : Heap} {a C dx : Addr} {fs fs' : List (Str × V)}
theorem HL (hok : HOk P w H h) (e : H a = some (.ins C dx fs)) : ∃ mA, ObjM h a dx C mA /\ (∀ f, Fv (fs.lookup f) (mA f)) /\ PySem.Within mA (fs.map (·.1)) /\ fs.length <= 1000 /\ H dx = some (.own a):=by
  obtain ⟨d, z, ne, ob, mA, n, r, q⟩:=(show Y5 P w H h a (.ins C dx fs) from hok a _ e)
  exact ⟨mA, ⟨ob, n, ne⟩, r, q, z, d⟩
end
structure Cls (K : PySem.W.Frag) (C : Addr) : Prop where
  pg : PySem.W.plainGet K C Str.empty = true
  hd : PySem.W.hasDictIn K C = true
  po : PySem.W.plainOver K C = true
  sa : PySem.W.findIn K (.ref C) "__setattr__" = some (some (.builtin "object.__setattr__"))
theorem Cls.get {K : PySem.W.Frag} {C : Addr} (c : Cls K C) (f : Str) : PySem.W.plainGet K C f = true:=c.pg
section
variable {X : Cx} {pins : List (Addr × Obj)} {σ : St} {H : Hp} {s : Shared} {a C dx : Addr} {fs : List (Str × V)} {f : Str} {v : V} {A : Around} {E : Value -> Shared -> Prop}
theorem Inv.made (I : Inv X pins σ H s) : Inv X pins σ (upd (upd H s.heap.objs.size (.own (s.heap.objs.size + 1))) (s.heap.objs.size + 1) (.ins C s.heap.objs.size []))
    { s with heap:=(s.heap.push PySem.W.emptyDict).push (PySem.W.instObj C s.heap.objs.size) }:=by
  have e1 : (s.heap.push PySem.W.emptyDict).get? s.heap.objs.size = some PySem.W.emptyDict:=Heap.get?_push_size s.heap rfl
  have e2 : ((s.heap.push PySem.W.emptyDict).push (PySem.W.instObj C s.heap.objs.size)).get? (s.heap.objs.size + 1) = some (PySem.W.instObj C s.heap.objs.size):=by
    have:=Heap.get?_push_size (s.heap.push PySem.W.emptyDict) (o:=PySem.W.instObj C s.heap.objs.size) rfl
    rwa [Heap.size_push] at this
  have e3 : (s.heap.push PySem.W.emptyDict).Ns s.heap.objs.size (fun _=>none):=⟨PySem.W.emptyDict, #[], _, e1, rfl, (fun e he=>absurd he (by simp)), fun _=>rfl⟩
  have I1:=I.laid (a:=s.heap.objs.size) (o:=.own (s.heap.objs.size + 1)) (h':=s.heap.push PySem.W.emptyDict) (t':=s.toks) (fun b u q=>Heap.get?_push_of_some _ q) (Nat.le_refl _) ⟨_, e1⟩
  refine I1.laid (a:=s.heap.objs.size + 1) (o:=.ins C s.heap.objs.size []) (t':=s.toks) (fun b u q=>Heap.get?_push_of_some _ q) (Nat.le_of_eq (Heap.size_push _ _)) ?_
  have ne : s.heap.objs.size ≠ s.heap.objs.size + 1:=Nat.ne_of_lt (Nat.lt_succ_self _)
  refine ⟨by rw [XQ ne, YM], Nat.zero_le _, ne, e2, fun _=>none, (Heap.Ns1.of_empty e3).at fun o q=>Heap.get?_push_of_some _ q, fun _=>True.intro, fun y hy=>absurd rfl hy⟩
end
section
variable {X : Cx} {o e value : Expr} {f : Str} {pos pos' tpos : Pos} {ta tv : TE}
end
section
variable {X : Cx} {pins : List (Addr × Obj)} {σ : St} {H : Hp} {s : Shared} {A : Around} {E : Value -> Shared -> Prop} {Q : Value -> Shared -> Prop} {c : Value} {b : Bool}
inductive TyOf (K : PySem.W.Frag) (H : Hp) : V -> Value -> Prop where
  | non : TyOf K H .non (.type "NoneType")
  | bl (x : Bool) : TyOf K H (.bl x) (.type "bool")
  | int (i : Int) : TyOf K H (.int i) (.type "int")
  | str (x : Str) : TyOf K H (.str x) (.type "str")
  | flt (x : UInt64) : TyOf K H (.flt x) (.type "float")
  | lst {a : Addr} {xs : List V} (e : H a = some (.lst xs)) : TyOf K H (.ref a) (.type "list")
  | frz {a : Addr} {o : Obj} {xs : List V} (e : H a = some (.frz o (.lst xs))) : TyOf K H (.ref a) (.type "list")
  | tup {a : Addr} {xs : List V} (e : H a = some (.tup xs)) : TyOf K H (.ref a) (.type "tuple")
  | dK {a : Addr} {kvs : List (Key × V)} (e : H a = some (.dK kvs)) : TyOf K H (.ref a) (.type "dict")
  | dT {a : Addr} {kvs : List (List Key × V)} (e : H a = some (.dT kvs)) : TyOf K H (.ref a) (.type "dict")
  | ins {a C dx : Addr} {fs : List (Str × V)} (e : H a = some (.ins C dx fs)) (cl : Cls K C) (ha : PySem.W.findIn K (.ref C) "__class__" = some (some (.builtin "object.__class__")))
      (hn : PySem.W.specialIn K (.builtin "object.__class__") "__get__" = some (some (.builtin "getset_descriptor.__get__"))) (htk : PySem.W.takesIn K (.builtin "object.__class__") = some true)
      (hm : PySem.W.mroIn K C (.type "object") = some true) : TyOf K H (.ref a) (.ref C)
theorem CP {x : V} {u t : Value} (I : Inv X pins σ H s) (rx : Yw x u) (ty : TyOf X.K H x t) (e : PySem.W.kitOne X.K t c = some b) (h : ∀ tk, Q (.bool b) { s with toks:=tk }) :
    wpAny (model X.prog X.w) A (call (.builtin "isinstance") [u, c]) Q E s:=by
  cases ty with
  | non=>cases (show u = Value.none from rx); exact PySem.W.kia_one PySem.W.kitx_none I.kIn True.intro e (fun z=>nomatch z) h
  | bl y=>cases (show u = Value.bool y from rx); exact PySem.W.kia_one PySem.W.kitx_bool I.kIn True.intro e (fun z=>nomatch z) h
  | int i=>obtain ⟨t, q⟩:=(show ∃ t, u = Value.int i t from rx); cases q; exact PySem.W.kia_one PySem.W.kitx_int I.kIn True.intro e (fun z=>nomatch z) h
  | str y=>obtain ⟨t, q⟩:=(show ∃ t, u = Value.str y t from rx); cases q; exact PySem.W.kia_one PySem.W.kitx_str I.kIn True.intro e (fun z=>nomatch z) h
  | flt y=>obtain ⟨t, q⟩:=(show ∃ t, u = Value.float y t from rx); cases q; exact PySem.W.kia_one PySem.W.kitx_float I.kIn True.intro e (fun z=>nomatch z) h
  | @lst a xs ea=>
    cases (show u = Value.ref a from rx)
    obtain ⟨_, _, n, _, h1⟩:=(show Y5 X.prog X.w H s.heap a (.lst xs) from I.hok a _ ea)
    exact PySem.W.kia_one PySem.W.kitx_list I.kIn ⟨_, h1, rfl⟩ e (fun z=>nomatch z) h
  | @frz a ob xs ea=>
    cases (show u = Value.ref a from rx)
    obtain ⟨_, _, _, n, _, h1⟩:=(show Y5 X.prog X.w H s.heap a (.frz ob (.lst xs)) from I.hok a _ ea)
    exact PySem.W.kia_one PySem.W.kitx_list I.kIn ⟨_, h1, rfl⟩ e (fun z=>nomatch z) h
  | @tup a xs ea=>
    cases (show u = Value.ref a from rx)
    obtain ⟨_, _, _, p⟩:=(show Y5 X.prog X.w H s.heap a (.tup xs) from I.hok a _ ea)
    obtain ⟨o, h1, h2, _⟩:=p
    exact PySem.W.kia_one PySem.W.kitx_tuple I.kIn ⟨o, h1, h2⟩ e (fun z=>nomatch z) h
  | @dK a kvs ea=>
    cases (show u = Value.ref a from rx)
    obtain ⟨_, _, vs, _, p⟩:=(show Y5 X.prog X.w H s.heap a (.dK kvs) from I.hok a _ ea)
    obtain ⟨o, es, ep, h1, h2, _⟩:=p
    exact PySem.W.kia_one PySem.W.kitx_dict I.kIn ⟨o, h1, h2.1⟩ e (fun z=>nomatch z) h
  | @dT a kvs ea=>
    cases (show u = Value.ref a from rx)
    obtain ⟨_, _, xs, _, o, es, ep, h1, h2, _⟩:=(show Y5 X.prog X.w H s.heap a (.dT kvs) from I.hok a _ ea)
    exact PySem.W.kia_one PySem.W.kitx_dict I.kIn ⟨o, h1, h2.1⟩ e (fun z=>nomatch z) h
  | @ins a C dx fs ea cl ha hn htk hm=>
    cases (show u = Value.ref a from rx)
    obtain ⟨mA, O, _⟩:=HL I.hok ea
    obtain ⟨od, J, _⟩:=O.look
    exact PySem.W.kia_one (PySem.W.kitx_own (cl.get _) cl.hd ha hn htk hm) I.kIn J e (fun z=>nomatch z) h
end
end L2
namespace L2
open PySem PySem.Spec PyProof.Rows
structure Room (k : Nat) (A : Around) : Prop where
  hd : A.handled = none
  dp : A.depth + 3 * k + 5 < recursionLimit
  un : A.units + 16 * k + 200 < cLine
theorem Room.mono {j k : Nat} {A : Around} (r : Room k A) (h : j <= k) : Room j A:=⟨r.hd, by have:=r.dp; (first | lia | omega), by have:=r.un; (first | lia | omega)⟩
theorem Room.deeper {k : Nat} {A : Around} (r : Room (k + 1) A) (env : Env) : Room k (A.deeper env):=
  ⟨r.hd, by have:=r.dp; show A.depth + 1 + 3 * k + 5 < _; (first | lia | omega), by have:=r.un; show A.units + 3 + 16 * k + 200 < _; (first | lia | omega)⟩
theorem Room.in1 {k : Nat} {A : Around} (r : Room (k + 1) A) : Room k A.in1:=
  ⟨r.hd, by have:=r.dp; show A.depth + 3 * k + 5 < _; (first | lia | omega), by have:=r.un; show A.units + 1 + 16 * k + 200 < _; (first | lia | omega)⟩
theorem Room.depth {k : Nat} {A : Around} (r : Room k A) : A.depth < recursionLimit:=by have:=r.dp; (first | lia | omega)
theorem Room.units {k : Nat} {A : Around} (r : Room k A) : A.units + 64 < cLine:=by have:=r.un; (first | lia | omega)
noncomputable def Z5 : TA:=fun _ H Q=>Q [] H
noncomputable def XI (ta : TE) (tr : TA) : TA:=fun σ H Q=>ta σ H fun x H1=>tr σ H1 fun xs H2=>Q (x :: xs) H2
section
variable {X : Cx} {e : Expr} {es : List Expr} {te : TE} {t : TA} {pos : Pos}
theorem Xg : PA X [] Z5:=fun _ _ _ _ H Q I h=>Calls.spliced_nil ⟨[], H, I, .nil, h⟩
theorem Xd (ha : PE X e te) (hr : PA X es t) (hs : starEach (e :: es) X.env = (false, eval e X.env) :: starEach es X.env:=by rfl) : PA X (e :: es) (XI te t):=by
  intro pos pins s σ H Q I h
  rw [hs]
  show wpAny _ _ (spliced ((false, eval e X.env) :: backTo pos (starEach es X.env))) _ _ s
  refine Calls.spliced_cons (thn (ha pins s σ H _ I h) fun u s1 r9=>?_)
  obtain ⟨x, H1, I1, r1, q1⟩:=r9
  exact thn (hr pos pins s1 σ H1 _ I1 q1) fun us s2 r9=>by obtain ⟨xs, H2, I2, r2, q2⟩:=r9; exact ⟨x :: xs, H2, I2, .cons r1 r2, q2⟩
noncomputable def IQ (t : TA) : TE:=fun σ H Q=>t σ H fun xs H1=>xs.length <= sizeLine /\ ∀ p, H1 p = none -> Q (.ref p) (upd H1 p (.tup xs))
noncomputable def BL (t : TA) : TE:=fun σ H Q=>t σ H fun xs H1=>xs.length <= sizeLine /\ ∀ p, H1 p = none -> Q (.ref p) (upd H1 p (.lst xs))
theorem QU {x1} (h : PA X es t) : PE X (.Tuple es x1 pos) (IQ t):=by
  intro pins s σ H Q I hq
  refine wpAny_Tuple_spliced (thn (h pos pins s σ H _ I hq) fun us s1 ⟨xs, H1, I1, r, z, q⟩=>⟨by rw [← r.length]; exact z, ?_⟩)
  have hf : H1 s1.heap.objs.size = none:=I1.hok.fresh (Nat.le_refl _)
  refine ⟨.ref s1.heap.objs.size, upd H1 s1.heap.objs.size (.tup xs), I1.laid (t':=s1.toks) (fun b u e=>Heap.get?_push_of_some _ e) (Nat.le_refl _) ?_, rfl, q _ hf⟩
  exact ⟨z, us, r, ⟨_, Heap.get?_push_size _ rfl, rfl, _, rfl⟩⟩
theorem X7 (h : PA X es t) : PE X (.List es pos) (BL t):=by
  intro pins s σ H Q I hq
  refine wpAny_List_spliced (thn (h pos pins s σ H _ I hq) fun us s1 ⟨xs, H1, I1, r, z, q⟩=>⟨by rw [← r.length]; exact z, ?_⟩)
  have hf : H1 s1.heap.objs.size = none:=I1.hok.fresh (Nat.le_refl _)
  refine ⟨.ref s1.heap.objs.size, upd H1 s1.heap.objs.size (.lst xs), I1.laid (t':=s1.toks) (fun b u e=>Heap.get?_push_of_some _ e) (Nat.le_refl _) ?_, rfl, q _ hf⟩
  exact ⟨z, us, 0, r, Heap.get?_push_size _ rfl⟩
end
noncomputable abbrev Sp:=List V -> Hp -> VK -> XK -> Prop
noncomputable abbrev CXT:=List Env -> Hp -> Shared -> XK -> Value -> Shared -> Prop
structure Env0 (P : Program) (w : World) (K : PySem.W.Frag) (mg : Str -> Option Value) (base : Heap) (A : Around) (outer : List Env) (s : Shared) (H : Hp) : Prop where
  frames : A.frames = some outer
  mod : Mod K mg base
  bs : ∀ b o, base.get? b = some o -> s.heap.get? b = some o /\ H b = none
  bsz : base.objs.size <= s.heap.objs.size
  funs : s.heap.FunFrames base outer
  frf : ∀ b ∈ frs outer, H b = none
  hok : HOk P w H s.heap
  bare : AllBare s.gens
noncomputable def CE (outer : List Env) (P : Program) (w : World) (H : Hp) (s : Shared) (Q : VK) (u : Value) (s' : Shared) : Prop:=
  ∃ v H', s'.os = s.os /\ AllBare s'.gens /\ Un (frs outer) [] H H' s.heap s'.heap /\ HOk P w H' s'.heap /\ Yw v u /\ Q v H'
noncomputable def CR (CX : CXT) (outer : List Env) (P : Program) (w : World) (H : Hp) (s : Shared) (Q : VK) (E : XK) (r : Result) (s' : Shared) : Prop:=
  match r with
  | .ok (.ret u)=>CE outer P w H s Q u s'
  | .ok _=>False
  | .error e=>CX outer H s E e s'
structure FnOk (P : Program) (w : World) (K : PySem.W.Frag) (mg : Str -> Option Value) (base : Heap) (CX : CXT) (k : Nat) (f : Addr) (fd : FuncData) (ps : List Str) (sp : Sp) : Prop where
  len : ∀ vs H Q E, sp vs H Q E -> vs.length = ps.length
  run : ∀ (A : Around) (outer : List Env) (s : Shared) (H : Hp) (args : Args) (us : List Value) (vs : List V) (Q : VK) (E : XK), Room k A -> Env0 P w K mg base A outer s H -> BindsTo s fd args (ps.zip us) -> Yj vs us -> sp vs H Q E ->
    codeAny (model P w) A (.call (.ref f) args) (CR CX outer P w H s Q E) s
theorem FnOk.mono {P : Program} {w : World} {K : PySem.W.Frag} {mg : Str -> Option Value} {base : Heap} {CX : CXT} {j k : Nat} {f : Addr} {fd : FuncData} {ps : List Str} {sp : Sp} (F : FnOk P w K mg base CX j f fd ps sp) (h : j <= k) :
    FnOk P w K mg base CX k f fd ps sp:=⟨F.len, fun A outer s H args us vs Q E hr=>F.run A outer s H args us vs Q E (hr.mono h)⟩
theorem FnOk.imp {P : Program} {w : World} {K : PySem.W.Frag} {mg : Str -> Option Value} {base : Heap} {CX : CXT} {k : Nat} {f : Addr} {fd : FuncData} {ps : List Str} {sp sp' : Sp} (F : FnOk P w K mg base CX k f fd ps sp)
    (h : ∀ vs H Q E, sp' vs H Q E -> sp vs H Q E) : FnOk P w K mg base CX k f fd ps sp':=
  ⟨fun vs H Q E q=>F.len vs H Q E (h _ _ _ _ q), fun A outer s H args us vs Q E hr he hb hv hs=>F.run A outer s H args us vs Q E hr he hb hv (h _ _ _ _ hs)⟩
theorem Env0.in1 {P : Program} {w : World} {K : PySem.W.Frag} {mg : Str -> Option Value} {base : Heap} {A : Around} {outer : List Env} {s : Shared} {H : Hp} (e : Env0 P w K mg base A outer s H) :
    Env0 P w K mg base A.in1 outer s H:=⟨e.frames, e.mod, e.bs, e.bsz, e.funs, e.frf, e.hok, e.bare⟩
section
variable {X : Cx} {pins : List (Addr × Obj)} {σ : St} {H : Hp} {s s' : Shared}
theorem Inv.env0 (I : Inv X pins σ H s) : Env0 X.prog X.w X.K X.mg X.base X.A X.stack s H:=
  ⟨I.ok.frames, I.ok.mod, I.bs, Nat.le_trans I.ok.bsz I.sz, I.stack, I.stkFree, I.hok, I.bare⟩
theorem Inv.after {Q : VK} {u : Value} (I : Inv X pins σ H s) (h : CE X.stack X.prog X.w H s Q u s') : EP X pins σ Q u s':=by
  obtain ⟨v, H', os, bare, un, hok, r, q⟩:=h
  obtain ⟨hh, g, d, t, os'⟩:=s'
  obtain rfl : os' = s.os:=os
  exact ⟨v, H', I.call (h':=hh) (g':=g) (d':=d) (t':=t) (ch:=[]) un hok bare (fun b z=>absurd z (by simp)), r, q⟩
end
noncomputable def KN (sp : Sp) (dvs : List V) (E : XK) (t : TA) : TE:=fun σ H Q=>t σ H fun vs H1=>sp (vs ++ dvs) H1 Q E
noncomputable def KY (K : PySem.W.Frag) (fd : FuncData) (ps : List Str) (ds : List Value) : Prop:=
  ∀ (s : Shared) (us : List Value), K.In s.heap -> (us ++ ds).length = ps.length -> BindsTo s fd ⟨us, []⟩ (ps.zip (us ++ ds))
theorem KY.all {K : PySem.W.Frag} {fd : FuncData} {ps : List Str} (h : ∀ us : List Value, us.length = ps.length -> bindArgs fd ⟨us, []⟩ = pure (ps.zip us)) : KY K fd ps []:=fun s us _ hl=>by
  rw [List.append_nil] at hl ⊢
  exact .of_eq (h us hl)
noncomputable def Cj (CX : CXT) (X : Cx) (E : XK) : Prop:=∀ (pins : List (Addr × Obj)) (σ : St) (H : Hp) (s : Shared) (e : Value) (s' : Shared), Inv X pins σ H s -> CX X.stack H s E e s' -> X.xe e s'
section
variable {X : Cx} {CX : CXT} {k : Nat} {f C : Addr} {fd : FuncData} {ps : List Str} {sp : Sp} {dvs : List V} {ds : List Value} {E : XK} {x m : Str} {p pos apos : Pos} {e o : Expr} {es : List Expr} {ta : TE} {t : TA}
theorem IW {pins : List (Addr × Obj)} {σ : St} {H : Hp} {s : Shared} {Q : VK} {us : List Value} {vs : List V} (F : FnOk X.prog X.w X.K X.mg X.base CX k f fd ps sp) (hr : Room k X.A) (hb : KY X.K fd ps ds) (hd : Yj dvs ds) (hx : Cj CX X E)
    (I : Inv X pins σ H s) (r : Yj vs us) (h : sp (vs ++ dvs) H Q E) : wpAny (model X.prog X.w) X.A (call (.ref f) us) (EP X pins σ Q) X.xe s:=by
  have r2 : Yj (vs ++ dvs) (us ++ ds):=r.append hd
  have hl : (us ++ ds).length = ps.length:=by rw [← r2.length]; exact F.len _ _ _ _ h
  refine wpAny_call (codeAny_mono (F.run X.A X.stack s H ⟨us, []⟩ (us ++ ds) (vs ++ dvs) Q E hr I.env0 (hb s us I.kIn hl) r2 h) fun r s' hq=>?_)
  cases r with
  | error e=>exact hx pins σ H s e s' I hq
  | ok fl=>
    cases fl with
    | ret u=>exact I.after hq
    | next=>exact False.elim hq
    | brk=>exact False.elim hq
    | cont=>exact False.elim hq
theorem EL (F : FnOk X.prog X.w X.K X.mg X.base CX k f fd ps sp) (hr : Room k X.A) (hg : Gl X x) (hm : X.mg x = some (.ref f)) (hk : PySem.W.keepIn X.K (.ref f) = true) (hb : KY X.K fd ps ds) (hd : Yj dvs ds) (hx : Cj CX X E)
    (ha : PA X (e :: es) t) (hdb : (x == ("__debug__" : Str)) = false:=by decide) (he : starEach (e :: es) X.env = (false, eval e X.env) :: starEach es X.env:=by rfl) (hpl : (backTo pos (starEach es X.env)).any (·.1) = false:=by rfl) :
    PE X (.Call (.Name x p) (e :: es) [] pos) (KN sp dvs E t):=by
  intro pins s σ H Q I h
  refine wpAny_Call_Name_kw (Cp I hg hm ?_ hdb)
  refine PySem.W.callWith_K (h₀:=X.base) I.ok.mod.kin hk (thn (ha pos pins s σ H _ I h) fun us s1 ⟨vs, H1, I1, r, q⟩=>⟨I1.kIn, ?_⟩) he hpl
  exact IW F hr hb hd hx I1 r q
end
section
variable {X : Cx} {CX : CXT} {k : Nat} {f C : Addr} {fd : FuncData} {ps ks : List Str} {sp : Sp} {E : XK} {x m : Str} {p pos apos kpos : Pos} {e o : Expr} {es : List Expr} {kws : List Keyword} {te ta : TE} {t tk : TA} {nm : Option Str}
variable {g : List Value -> List Value -> List Value} {gV : List V -> List V -> List V}
end
structure FnScope (N P : List Str) (sc : Scope) : Prop where
  kind : sc.kind = .function
  co : sc.isCoroutine = false
  gen : sc.isGenerator = false
  nd : N.Nodup
  pre : N.take P.length = P
  par : ∀ x ∈ P, sc.names.lookup x = some .local ∨ sc.names.lookup x = some .cell
  nofree : ∀ y ∈ sc.names, y.2 ≠ .free
theorem Kr {kindOf : Str -> Option NameKind} {x : Str} : ∀ {binds : List (Str × Value)} {m : Str -> Option Value}, (∀ v, (x, v) ∉ binds) -> bindL kindOf binds m x = m x
  | [], _, _=>rfl
  | (n, v) :: r, m, h=>by
    unfold bindL
    rw [Kr fun w hw=>h w (List.mem_cons_of_mem _ hw)]
    split
    . have : x ≠ n := by rintro rfl; exact h v List.mem_cons_self
      simp [this]
    . rfl
theorem UR {kindOf : Str -> Option NameKind} {x : Str} : ∀ {binds : List (Str × Value)} {m : Str -> Option Value}, (∀ v, (x, v) ∉ binds) -> bindC kindOf binds m x = m x
  | [], _, _=>rfl
  | (n, v) :: r, m, h=>by
    unfold bindC
    rw [UR fun w hw=>h w (List.mem_cons_of_mem _ hw)]
    split
    . rfl
    . have : x ≠ n := by rintro rfl; exact h v List.mem_cons_self
      simp [this]
theorem Kt {kindOf : Str -> Option NameKind} {x : Str} {v : Value} : ∀ {P : List Str} {vs : List Value} {i : Nat} {m : Str -> Option Value}, P.Nodup -> P[i]? = some x -> vs[i]? = some v -> kindOf x = some .local ->
    bindL kindOf (P.zip vs) m x = some v
  | [], _, _, _, _, h, _, _=>by simp at h
  | _ :: _, [], _, _, _, _, h, _=>by simp at h
  | p :: P, w :: vs, 0, m, nd, h1, h2, hk=>by
    simp at h1 h2; subst h1; subst h2
    show bindL kindOf ((p, w) :: P.zip vs) m p = _
    unfold bindL
    rw [Kr fun v hv=>(List.nodup_cons.mp nd).1 (List.of_mem_zip hv).1, if_pos hk]
    simp
  | p :: P, w :: vs, i + 1, m, nd, h1, h2, hk=>by
    show bindL kindOf ((p, w) :: P.zip vs) m x = _
    unfold bindL
    exact Kt (i:=i) (List.nodup_cons.mp nd).2 (by simpa using h1) (by simpa using h2) hk
theorem Ky {kindOf : Str -> Option NameKind} {x : Str} {v : Value} : ∀ {P : List Str} {vs : List Value} {i : Nat} {m : Str -> Option Value}, P.Nodup -> P[i]? = some x -> vs[i]? = some v -> kindOf x ≠ some .local ->
    bindC kindOf (P.zip vs) m x = some v
  | [], _, _, _, _, h, _, _=>by simp at h
  | _ :: _, [], _, _, _, _, h, _=>by simp at h
  | p :: P, w :: vs, 0, m, nd, h1, h2, hk=>by
    simp at h1 h2; subst h1; subst h2
    show bindC kindOf ((p, w) :: P.zip vs) m p = _
    unfold bindC
    rw [UR fun v hv=>(List.nodup_cons.mp nd).1 (List.of_mem_zip hv).1, if_neg hk]
    simp
  | p :: P, w :: vs, i + 1, m, nd, h1, h2, hk=>by
    show bindC kindOf ((p, w) :: P.zip vs) m x = _
    unfold bindC
    exact Ky (i:=i) (List.nodup_cons.mp nd).2 (by simpa using h1) (by simpa using h2) hk
noncomputable def UQ (N : List Str) (vs : List V) : St:=vs.map some ++ List.replicate (N.length - vs.length) none
noncomputable def Ez (CX : CXT) (P : Program) (w : World) (K : PySem.W.Frag) (mg : Str -> Option Value) (base : Heap) (N : List Str) (qual : Str) (scope : Scope) (f : Addr) (cd : Value) (A : Around) (outer : List Env) (s : Shared) (H : Hp) (E : XK) : Cx where
  prog:=P
  w:=w
  K:=K
  mg:=mg
  base:=base
  A:=A.deeper (envOfC qual scope s.heap.objs.size f cd)
  N:=N
  s₀:=s
  H₀:=H
  env:=envOfC qual scope s.heap.objs.size f cd
  outer:=outer
  stack:=envOfC qual scope s.heap.objs.size f cd :: outer
  ex:=[]
  calm:=true
  fn:=fun _=>true
  pn:=[]
  xe:=fun e s'=>wpAny (model P w) (A.deeper (envOfC qual scope s.heap.objs.size f cd)) (leaving (envOfC qual scope s.heap.objs.size f cd) e) (fun _ s''=>CX outer H s E e s'') (fun e' s''=>CX outer H s E e' s'') s'
theorem GE {sc : Scope} {n : Nat} {x : Str} (h : sc.names.lookup x = some .cell) : ∃ c, (cellsFrom n sc.names []).lookup x = some c:=by
  have q:=PySem.W.cellsFrom_some sc.names n [] (.inl h)
  exact Option.isSome_iff_exists.mp q
theorem CT {CX : CXT} {P : Program} {w : World} {K : PySem.W.Frag} {mg : Str -> Option Value} {base : Heap} {N ps : List Str} {qual : Str} {scope : Scope} {f : Addr} {cd : Value} {A : Around} {outer : List Env} {s s1 : Shared} {H : Hp} {E : XK} {us : List Value} {vs : List V}
    (S : FnScope N ps scope) (hd : A.handled = none) (e0 : Env0 P w K mg base A outer s H) (hl : vs.length = ps.length) (r : Yj vs us)
    (x : InCallC s s.heap.objs.size (bindL (envOfC qual scope s.heap.objs.size f cd).kindOf (ps.zip us) fun _=>none) (cellsFrom (s.heap.objs.size + 1) scope.names []) (bindC (envOfC qual scope s.heap.objs.size f cd).kindOf (ps.zip us) fun _=>none) s1) :
    Inv (Ez CX P w K mg base N qual scope f cd A outer s H E) [] (UQ N vs) H s1:=by
  have hpl : ps.length <= N.length:=by have:=congrArg List.length S.pre; rw [List.length_take] at this; (first | lia | omega)
  obtain ⟨h1, tk, rfl, hk⟩:=x.done
  have noA : ∀ b : Addr, b ∉ (Ez CX P w K mg base N qual scope f cd A outer s H E).ex:=fun b z=>absurd (show b ∈ ([] : List Addr) from z) (by simp)
  refine ⟨⟨e0.mod, S.kind, rfl, rfl, Nat.le_refl _, fun y z c h1 h2=>?_, fun y hy=>?_, fun y c _ h=>?_, fun _=>hd, Around.frames_deeper e0.frames, .inr ⟨rfl, rfl⟩, fun b z=>absurd z (noA b), e0.bs, e0.bsz, fun b _ _=>noA b, fun b z=>absurd z (noA b), e0.funs, e0.frf⟩,
    rfl, e0.bare, Un.kept hk, ⟨_, x.toInCall.ns, fun i y v h1 h2 h3=>?_⟩, fun y c h=>⟨_, x.cell y c h⟩, e0.hok.fresh (Nat.le_refl _), fun y c h=>?_, fun p hp=>absurd (show p ∈ ([] : List (Addr × Obj)) from hp) (by simp), e0.hok.kept hk, ?_⟩
  . exact name_of_addr x.apart (PySem.mem_of_lookup h1) (PySem.mem_of_lookup h2)
  . have hy : scope.names.lookup y = some .cell ∨ scope.names.lookup y = some .free := hy
    rcases hy with hy | hy
    . exact GE hy
    . exact absurd rfl (S.nofree _ (PySem.mem_of_lookup hy))
  . exact Nat.le_of_lt (x.above y c (PySem.mem_of_lookup h))
  . have hi : i < vs.length:=by
      unfold UQ at h2
      by_cases hi : i < vs.length
      . exact hi
      . rw [List.getElem?_append_right (by simpa using hi)] at h2
        rw [List.getElem?_replicate] at h2
        split at h2 <;> cases h2
    have ha : vs[i]? = some v:=by
      unfold UQ at h2
      rw [List.getElem?_append_left (by simpa using hi), List.getElem?_map] at h2
      cases e : vs[i]? with
      | none=>rw [e] at h2; cases h2
      | some a=>rw [e] at h2; cases h2; rfl
    obtain ⟨u, hu, rv⟩:=r.get ha
    have hp : ps[i]? = some y:=by
      rw [← S.pre, List.getElem?_take_of_lt (by first | lia | omega)]; exact h1
    have ndP : ps.Nodup:=by rw [← S.pre]; exact S.nd.sublist (List.take_sublist _ _)
    refine ⟨u, rv, ?_⟩
    rcases S.par y (List.mem_of_getElem? hp) with k | k
    . exact .inl ⟨k, Kt ndP hp hu k⟩
    . obtain ⟨c, e⟩ := GE (n := s.heap.objs.size + 1) k
      refine .inr ⟨.inl k, c, e, ?_⟩
      have q:=x.cell y c e
      rw [Ky ndP hp hu (by show scope.names.lookup y ≠ _; rw [k]; decide)] at q
      exact q
  . exact e0.hok.fresh (Nat.le_of_lt (x.above y c (PySem.mem_of_lookup h)))
  . unfold UQ
    show _ = N.length
    rw [List.length_append, List.length_map, List.length_replicate]
    first | lia | omega
theorem LD {CX : CXT} {P : Program} {w : World} {K : PySem.W.Frag} {mg : Str -> Option Value} {base : Heap} {k : Nat} {f : Addr} {name qual : Str} {params : Arguments} {body : List Stmt} {scope : Scope} {dV kV doc pm cdv ct oc : Value} {an od : Option Addr}
    {osl : Array (Option Value)} {N ps : List Str} {sp : Sp} (lk : K.lookup f = some ⟨oc, od, .func (PySem.W.fnOf name qual params body scope dV kV doc pm an cdv ct), osl⟩) (hcd : PySem.W.codeIn K cdv qual = true) (S : FnScope N ps scope)
    (len : ∀ vs H Q E, sp vs H Q E -> vs.length = ps.length)
    (hbody : ∀ (A : Around) (outer : List Env) (s : Shared) (H : Hp) (vs : List V) (Q : VK) (E : XK), Room k (A.deeper (envOfC qual scope s.heap.objs.size f cdv)) -> sp vs H Q E ->
      ∃ t, PSs (Ez CX P w K mg base N qual scope f cdv A outer s H E) body t /\ t { nx:=fun _ H'=>Q .non H', rt:=Q } (UQ N vs) H) :
    FnOk P w K mg base CX (k + 1) f (PySem.W.fnOf name qual params body scope dV kV doc pm an cdv ct) ps sp:=by
  refine ⟨len, fun A outer s H args us vs Q E hr e0 hb r hsp=>?_⟩
  have hl:=len _ _ _ _ hsp
  have KX : K.In s.heap:=e0.mod.kin.keeps fun b o e=>(e0.bs b o e).1
  have lim : s.heap.NoLimit:=e0.mod.nolimit.keeps fun b o e=>(e0.bs b o e).1
  have hkind : ∀ y ∈ ps.zip us, scope.names.lookup y.1 = some .local ∨ (scope.names.lookup y.1 = some .cell /\ ((cellsFrom (s.heap.objs.size + 1) scope.names []).lookup y.1).isSome = true):=fun ⟨n, v⟩ hy=>by
    rcases S.par n (List.of_mem_zip hy).1 with q | q
    . exact .inl q
    . exact .inr ⟨q, PySem.W.cellsFrom_some _ _ _ (.inl q)⟩
  refine codeAny_call_function hr.depth (KX _ _ lk) rfl S.co S.gen rfl (PySem.W.codeRec_of KX hcd) (hb _ _ _ _ ?_)
  refine wpAny_newFunctionEnv_cells S.kind hkind fun env he s1 x=>?_
  subst he
  refine ⟨lim.keeps x.toInCall.keep, codeAny_func ?_⟩
  obtain ⟨t, ht, hq⟩:=hbody A outer s H vs Q E (hr.deeper _) hsp
  have I : Inv (Ez CX P w K mg base N qual scope f cdv A outer s H E) [] (UQ N vs) H s1:=CT S hr.hd e0 hl r x
  refine wpAny_mono (ht [] s1 (UQ N vs) H _ I hq) (fun fl s' hs=>?_) fun e s' hs=>hs
  have fin : ∀ {σ' : St} {H' : Hp} {v : V} {u : Value}, Inv (Ez CX P w K mg base N qual scope f cdv A outer s H E) [] σ' H' s' -> Yw v u -> Q v H' -> CE outer P w H s Q u s':=
    fun {σ' H' v u} J rv q=>⟨v, H', J.os, J.bare, J.base, J.hok, rv, q⟩
  cases fl with
  | ret u=>
    obtain ⟨v, σ', H', J, rv, q⟩:=hs
    exact fin J rv q
  | next=>
    obtain ⟨σ', H', J, q⟩:=hs
    exact fin (v:=V.non) (u:=Value.none) J rfl q
  | brk=>
    obtain ⟨_, _, _, q⟩:=hs
    exact False.elim q
  | cont=>
    obtain ⟨_, _, _, q⟩:=hs
    exact False.elim q
end L2
namespace L2
open PySem PySem.Spec PyProof.Rows
section
variable {X : Cx} {x : Str} {p pos : Pos} {e : Expr} {es : List Expr} {t : TA} {id T : String} {r : List V -> Hp -> VK -> Prop}
noncomputable def tCB (r : List V -> Hp -> VK -> Prop) (t : TA) : TE:=fun σ H Q=>t σ H fun vs H1=>r vs H1 Q
theorem Xu (hc : Z9 X (.builtin id) r) (hg : Gl X x) (hm : X.mg x = none) (hv : bootBuiltins x = some (.builtin id)) (ha : PA X (e :: es) t) (hn : x ≠ "__name__":=by decide) (hdb : (x == ("__debug__" : Str)) = false:=by decide)
    (he : starEach (e :: es) X.env = (false, eval e X.env) :: starEach es X.env:=by rfl) (hpl : (backTo pos (starEach es X.env)).any (·.1) = false:=by rfl) : PE X (.Call (.Name x p) (e :: es) [] pos) (tCB r t):=by
  intro pins s σ H Q I h
  refine wpAny_Call_Name_kw (Vu I hg hm hv ?_ hn hdb)
  exact PyProof.Rows.callWith_builtin1 (thn (ha pos pins s σ H _ I h) fun us s1 r9=>by obtain ⟨vs, H1, I1, r1, q1⟩:=r9; exact hc pins s1 σ H1 vs us Q I1 r1 q1) he hpl
theorem Zu (hc : Z9 X (.type T) r) (hg : Gl X x) (hm : X.mg x = none) (hv : bootBuiltins x = some (.type T)) (ha : PA X (e :: es) t) (hn : x ≠ "__name__":=by decide) (hdb : (x == ("__debug__" : Str)) = false:=by decide)
    (he : starEach (e :: es) X.env = (false, eval e X.env) :: starEach es X.env:=by rfl) (hpl : (backTo pos (starEach es X.env)).any (·.1) = false:=by rfl) : PE X (.Call (.Name x p) (e :: es) [] pos) (tCB r t):=by
  intro pins s σ H Q I h
  refine wpAny_Call_Name_kw (Vu I hg hm hv ?_ hn hdb)
  exact PyProof.Rows.callWith_type1 (thn (ha pos pins s σ H _ I h) fun us s1 r9=>by obtain ⟨vs, H1, I1, r1, q1⟩:=r9; exact hc pins s1 σ H1 vs us Q I1 r1 q1) he hpl
end
end L2
namespace HT
open PySem PyProof.Rows
section
open PySem.SeqAt
open PySem.AutoSeq1 (wpAny_loadPart')
open PySem.MeetsSeq PySem.MeetsSeq2 PySem.MeetsSeq3
end
section
variable {prog : Program} {w : World} {A : Around} {E : Value -> Shared -> Prop} {s : Shared}
noncomputable def sIx (n d : Nat) : Option Int -> Nat
  | none=>d
  | some v=>if v < 0 then (v + (n : Int)).toNat else min v.toNat n
theorem sIx_none (n d : Nat) : sIx n d none = d:=rfl
theorem sIx_nat (n d k : Nat) : sIx n d (some (k : Int)) = min k n:=by
  show (if (k : Int) < 0 then ((k : Int) + (n : Int)).toNat else min (k : Int).toNat n) = min k n
  rw [if_neg (by first | lia | omega), Int.toNat_natCast]
end
end HT
namespace L2
open PySem PySem.Spec PyProof.Rows
noncomputable abbrev TO:=St -> Hp -> (Option Int -> Hp -> Prop) -> Prop
noncomputable def PO (X : Cx) (e : Option Expr) (t : TO) : Prop:=
  ∀ (pins : List (Addr × Obj)) (s : Shared) (σ : St) (H : Hp) (Q : Option Int -> Hp -> Prop), Inv X pins σ H s -> t σ H Q ->
    wpAny (model X.prog X.w) X.A (evalPart e X.env) (fun u s'=>∃ o H', Inv X pins σ H' s' /\ IsPart u o /\ Q o H') X.xe s
noncomputable def DA : TO:=fun _ H Q=>Q none H
noncomputable def La (t : TE) : TO:=fun σ H Q=>t σ H fun x H1=>∃ i, x = .int i /\ Q (some i) H1
theorem Fx {ns : List Int} : ∀ {us : List Value}, Yj (ns.map V.int) us -> IntsAre us ns:=by
  induction ns with
  | nil=>intro us r; rw [List.map_nil] at r; cases r; exact .nil
  | cons n ns ih=>
    intro us r
    rw [List.map_cons] at r
    cases r with
    | cons r1 r2=>
      obtain ⟨t, e⟩:=r1
      subst e
      exact .cons n t (ih r2)
section
variable {X : Cx} {e : Expr} {te : TE} {lo hi : Option Expr} {tl th : TO} {pos p2 : Pos}
theorem KR : PO X none DA:=by
  intro pins s σ H Q I h
  rw [evalPart_none]
  exact wpAny_pure ⟨none, H, I, .none, h⟩
theorem Gs (h : PE X e te) : PO X (some e) (La te):=by
  intro pins s σ H Q I hw
  rw [evalPart_some]
  refine thn (h pins s σ H _ I hw) fun u s1 r9=>?_
  obtain ⟨x, H1, I1, r1, q1⟩:=r9
  obtain ⟨i, rfl, q⟩:=q1
  obtain ⟨t, rfl⟩:=r1
  exact ⟨some i, H1, I1, .int i t, q⟩
noncomputable def SlR (X : Cx) (r : V -> Option Int -> Option Int -> Hp -> VK -> Prop) : Prop:=
  ∀ (pins : List (Addr × Obj)) (s : Shared) (σ : St) (H : Hp) (x : V) (v vl vu : Value) (lo hi : Option Int) (sl : Addr) (Q : VK), Inv X pins σ H s -> Yw x v -> s.heap.IsSliceOf sl vl vu .none -> IsPart vl lo -> IsPart vu hi -> r x lo hi H Q ->
    ∃ T id, typeLookup (.type T) "__getitem__" = pure (some (.builtin id)) /\ s.TypeIs v T /\ wpAny (model X.prog X.w) X.A (getItem v (.ref sl)) (EP X pins σ Q) X.xe s
theorem SlR.or {r r' : V -> Option Int -> Option Int -> Hp -> VK -> Prop} (h : SlR X r) (h' : SlR X r') : SlR X (fun x lo hi H Q=>r x lo hi H Q ∨ r' x lo hi H Q):=by
  intro pins s σ H x v vl vu lo hi sl Q I rx hs pl pu q
  rcases q with q | q
  . exact h pins s σ H x v vl vu lo hi sl Q I rx hs pl pu q
  . exact h' pins s σ H x v vl vu lo hi sl Q I rx hs pl pu q
noncomputable def tSl (r : V -> Option Int -> Option Int -> Hp -> VK -> Prop) (te : TE) (tl th : TO) : TE:=fun σ H Q=>te σ H fun x H1=>tl σ H1 fun l H2=>th σ H2 fun u H3=>r x l u H3 Q
theorem Uy {r : V -> Option Int -> Option Int -> Hp -> VK -> Prop} (hr : SlR X r) (he : PE X e te) (hl : PO X lo tl) (hu : PO X hi th) : PE X (.Subscript e (.Slice lo hi none p2) pos) (tSl r te tl th):=by
  intro pins s σ H Q I h
  refine Subscript_ (thn (he pins s σ H _ I h) fun v s1 r9=>?_)
  obtain ⟨x, H1, I1, r1, q1⟩:=r9
  refine wpAny_Slice (thn (hl pins s1 σ H1 _ I1 q1) fun vl s2 ⟨l, H2, I2, pl, q2⟩=>thn (hu pins s2 σ H2 _ I2 q2) fun vu s3 r9=>?_)
  obtain ⟨u, H3, I3, pu, q3⟩:=r9
  rw [evalPart_none]
  refine wpAny_pure ?_
  have I4 : Inv X pins σ H3 { s3 with heap:=s3.heap.push { cls:=.type "slice", data:=.fields #[vl, vu, .none] } }:=I3.kept (t':=s3.toks) fun b ob q=>Heap.get?_push_of_some _ q
  obtain ⟨T, id, hT, ht, hg⟩:=hr pins { s3 with heap:=s3.heap.push { cls:=.type "slice", data:=.fields #[vl, vu, .none] } } σ H3 x v vl vu l u s3.heap.objs.size Q I4 r1 (Heap.IsSliceOf.new ..) pl pu q3
  show wpAny (model X.prog X.w) X.A (subscriptTail e (.Slice lo hi none p2) v (.ref s3.heap.objs.size)) (EP X pins σ Q) X.xe { s3 with heap:=s3.heap.push { cls:=.type "slice", data:=.fields #[vl, vu, .none] } }
  exact tail_any (ops:=[.ref s3.heap.objs.size, v]) ht hT hg (by with_unfolding_all rfl)
noncomputable def HV (xs : List V) (lo hi : Option Int) : List V:=(xs.drop (HT.sIx xs.length 0 lo)).take (HT.sIx xs.length xs.length hi - HT.sIx xs.length 0 lo)
theorem KZ (xs : List V) (lo hi : Option Int) : (HV xs lo hi).length <= xs.length:=by
  unfold HV
  rw [List.length_take, List.length_drop]
  first | lia | omega
end
end L2
namespace L2
open PySem PySem.Spec PyProof.Rows
noncomputable def ixN (n : Nat) (i : Int) : Option Nat:=if 0 <= i then (if i < n then some i.toNat else none) else if -(n : Int) <= i then some (i + n).toNat else none
noncomputable def atI {α : Type} (xs : List α) (i : Int) : Option α:=(ixN xs.length i).bind fun j=>xs[j]?
theorem D0 {n : Nat} {i : Int} {j : Nat} (h : ixN n i = some j) : seqIndex? i n = some j /\ j < n /\ -(n : Int) <= i /\ i < n:=by
  unfold ixN at h
  by_cases h0 : 0 <= i
  . rw [if_pos h0] at h
    by_cases h1 : i < n
    . rw [if_pos h1] at h
      have e : i.toNat = j:=Option.some.inj h
      exact ⟨by rw [seqIndex_of h0 h1, e], by first | lia | omega, by first | lia | omega, h1⟩
    . rw [if_neg h1] at h; cases h
  . rw [if_neg h0] at h
    by_cases h1 : -(n : Int) <= i
    . rw [if_pos h1] at h
      have e : (i + n).toNat = j:=Option.some.inj h
      exact ⟨by rw [seqIndex_neg (by first | lia | omega) h1, e], by first | lia | omega, h1, by first | lia | omega⟩
    . rw [if_neg h1] at h; cases h
theorem Df {α : Type} {xs : List α} {i : Int} {v : α} (h : atI xs i = some v) : ∃ j, seqIndex? i xs.length = some j /\ xs[j]? = some v /\ j < xs.length /\ -(xs.length : Int) <= i /\ i < xs.length:=by
  unfold atI at h
  cases e : ixN xs.length i with
  | none=>rw [e] at h; cases h
  | some j=>
    rw [e] at h
    obtain ⟨h1, h2, h3, h4⟩:=D0 e
    exact ⟨j, h1, h, h2, h3, h4⟩
noncomputable def Eu (b : Expr) : Prop:=∀ o i, subscripted b false o i = operate [o, i] (getItem o i)
noncomputable def IxR (X : Cx) (r : R2) : Prop:=
  ∀ (value slice : Expr) (pins : List (Addr × Obj)) (s : Shared) (σ : St) (H : Hp) (x y : V) (v u : Value) (Q : VK), Inv X pins σ H s -> Yw x v -> Yw y u -> r x y H Q ->
    subscripted slice false v u = operate [v, u] (getItem v u) -> wpAny (model X.prog X.w) X.A (subscriptTail value slice v u) (EP X pins σ Q) X.xe s
noncomputable def MtR (X : Cx) (id : String) (r : V -> List V -> Hp -> VK -> Prop) : Prop:=
  ∀ (pins : List (Addr × Obj)) (s : Shared) (σ : St) (H : Hp) (x : V) (xs : List V) (v : Value) (us : List Value) (Q : VK), Inv X pins σ H s -> Yw x v -> Yj xs us -> r x xs H Q ->
    wpAny (model X.prog X.w) X.A (call (.builtin id) (v :: us)) (EP X pins σ Q) X.xe s
section
variable {X : Cx} {a b : Expr} {ta tb : TE} {pos : Pos}
theorem IxR.or {r r' : R2} (h : IxR X r) (h' : IxR X r') : IxR X (fun x y H Q=>r x y H Q ∨ r' x y H Q):=by
  intro value slice pins s σ H x y v u Q I rx ry q hs
  rcases q with q | q
  . exact h value slice pins s σ H x y v u Q I rx ry q hs
  . exact h' value slice pins s σ H x y v u Q I rx ry q hs
theorem MtR.or {id : String} {r r' : V -> List V -> Hp -> VK -> Prop} (h : MtR X id r) (h' : MtR X id r') : MtR X id (fun x xs H Q=>r x xs H Q ∨ r' x xs H Q):=by
  intro pins s σ H x xs v us Q I rx rs q
  rcases q with q | q
  . exact h pins s σ H x xs v us Q I rx rs q
  . exact h' pins s σ H x xs v us Q I rx rs q
theorem XE {r : R2} (hr : IxR X r) (ha : PE X a ta) (hb : PE X b tb) (hs : Eu b) : PE X (.Subscript a b pos) (tOp r ta tb):=by
  intro pins s σ H Q I h
  exact Subscript_ (LJ ha hb I h fun v u s2 x y H2 I2 rx ry q=>hr a b pins s2 σ H2 x y v u Q I2 rx ry q (hs _ _))
noncomputable def EU (K : PySem.W.Frag) : R2:=fun x y H Q=>∃ p xs i v, x = .ref p /\ y = .int i /\ SqL K H p xs /\ atI xs i = some v /\ Q v H
noncomputable def HW (K : PySem.W.Frag) : R2:=fun x y H Q=>∃ p xs i v, x = .ref p /\ y = .int i /\ SqT K H p xs /\ atI xs i = some v /\ Q v H
theorem ER : IxR X (EU X.K):=by
  intro value slice pins s σ H x y v u Q I rx ry h hs
  obtain ⟨p, xs, i, z, rfl, rfl, hq, he, q⟩:=h
  cases rx
  obtain ⟨t, rfl⟩:=ry
  obtain ⟨its, r, pl, hz⟩:=I.list hq
  obtain ⟨j, h1, h2, h3, h4, h5⟩:=Df he
  obtain ⟨w, ew, rw'⟩:=r.get h2
  have hl:=r.length
  have hn:=GU
  have fin : EP X pins σ Q w s:=⟨z, H, I, rw', q⟩
  by_cases h0 : 0 <= i
  . have hj : i.toNat = j:=by
      rw [seqIndex_of h0 h5] at h1
      exact Option.some.inj h1
    exact item_listR pl.isList h0 (by first | lia | omega) (by rw [hj]; simpa using ew) fin hs
  . have hj : (i + (its.toArray.size : Int)).toNat = j:=by
      rw [seqIndex_neg (by first | lia | omega) h4] at h1
      rw [List.size_toArray, ← hl]
      exact Option.some.inj h1
    exact subscriptTail_builtinR (x:=w) pl.isList.typeIs slot_list_getitem.lookup
      (wpAny_getItem_list_neg (Q:=fun r s'=>r = w /\ EP X pins σ Q r s') pl.isList (by first | lia | omega) (by rw [List.size_toArray] <;> (first | lia | omega)) (by first | lia | omega) (by rw [hj]; simpa using ew) ⟨rfl, fin⟩) hs
theorem Is : IxR X (HW X.K):=by
  intro value slice pins s σ H x y v u Q I rx ry h hs
  obtain ⟨p, xs, i, z, rfl, rfl, hq, he, q⟩:=h
  cases rx
  obtain ⟨t, rfl⟩:=ry
  obtain ⟨its, r, pl, hz⟩:=I.tuple hq
  obtain ⟨j, h1, h2, h3, h4, h5⟩:=Df he
  obtain ⟨w, ew, rw'⟩:=r.get h2
  have hl:=r.length
  have hn:=GU
  have fin : EP X pins σ Q w s:=⟨z, H, I, rw', q⟩
  exact subscriptTail_builtinR (x:=w) pl.typeIs slot_tuple_getitem.lookup
    (getItem_tuple (j:=j) (Q:=fun r s'=>r = w /\ EP X pins σ Q r s') pl (by first | lia | omega) (by first | lia | omega) (by rw [List.size_toArray, ← hl]; exact h1) (by simpa using ew) ⟨rfl, fin⟩) hs
theorem FH (its : List Value) (n j : Nat) (u : Value) : Obj.mapSeq (·.setIfInBounds j u) { cls:=.type "list", data:=.seq its.toArray n } = { cls:=.type "list", data:=.seq (its.set j u).toArray n }:=by
  simp [Obj.mapSeq]
theorem Inv.lst {pins : List (Addr × Obj)} {σ : St} {H : Hp} {s : Shared} {p : Addr} {xs : List V} (I : Inv X pins σ H s) (h : H p = some (.lst xs)) :
    ∃ (its : List Value) (n : Nat), Yj xs its /\ s.heap.get? p = some { cls:=.type "list", data:=.seq its.toArray n } /\ xs.length <= sizeLine:=by
  obtain ⟨z, its, n, r, e⟩:=I.hok p _ h
  exact ⟨its, n, r, e, z⟩
theorem Inv.lstUpd {pins : List (Addr × Obj)} {σ : St} {H : Hp} {s : Shared} {p : Addr} {xs ys : List V} {its its' : List Value} {n n' : Nat} {f : Obj -> Obj} (I : Inv X pins σ H s) (h : H p = some (.lst xs))
    (ho : s.heap.get? p = some { cls:=.type "list", data:=.seq its.toArray n }) (hf : f { cls:=.type "list", data:=.seq its.toArray n } = { cls:=.type "list", data:=.seq its'.toArray n' }) (r : Yj ys its') (hz : ys.length <= sizeLine) (t : Nat) :
    Inv X pins σ (upd H p (.lst ys)) { s with heap:=s.heap.update p f, toks:=t }:=by
  have e : (s.heap.update p f).get? p = some { cls:=.type "list", data:=.seq its'.toArray n' }:=by
    rw [Heap.get?_update_self f ho (by rw [hf] <;> rfl), hf]
  refine I.write (x:=p) (e:=p) (by rw [h]; trivial) (.inl rfl) (fun b u hb q=>(Heap.get?_update_other _ _ (Ne.symm hb)).trans q) ⟨_, e⟩ ?_
  exact ⟨hz, its', n', r, e⟩
noncomputable def He : V -> V -> V -> Hp -> (Hp -> Prop) -> Prop:=fun o i v H Q=>∃ p xs k j, o = .ref p /\ i = .int k /\ H p = some (.lst xs) /\ ixN xs.length k = some j /\ Q (upd H p (.lst (xs.set j v)))
theorem UB : LX X He:=by
  intro pins s σ H o i v ov iv u Q I ro ri rv h
  obtain ⟨p, xs, k, j, rfl, rfl, hp, hj, q⟩:=h
  cases ro
  obtain ⟨t, rfl⟩:=ri
  obtain ⟨its, n, r, ho, hz⟩:=I.lst hp
  obtain ⟨h1, h2, h3, h4⟩:=D0 hj
  have hl:=r.length
  have hn:=GU
  have I' : Inv X pins σ (upd H p (.lst (xs.set j v))) { s with heap:=s.heap.update p (Obj.mapSeq (·.setIfInBounds j u)) }:=
    I.lstUpd hp ho (FH its n j u) (r.set rv j) (by rw [List.length_set]; exact hz) s.toks
  by_cases h0 : 0 <= k
  . have hk : k.toNat = j:=by
      rw [seqIndex_of h0 h4] at h1
      exact Option.some.inj h1
    exact PySem.W.ki_setAt ho h0 (by first | lia | omega) (by rw [List.size_toArray, ← hl]; exact h4) (by rw [hk]; exact ⟨_, I', q⟩)
  . have hk : (k + (its.toArray.size : Int)).toNat = j:=by
      rw [seqIndex_neg (by first | lia | omega) h3] at h1
      rw [List.size_toArray, ← hl]
      exact Option.some.inj h1
    exact PySem.W.ki_setBack ho (by first | lia | omega) (by rw [List.size_toArray, ← hl]; exact h3) (by first | lia | omega) (by rw [hk]; exact ⟨_, I', q⟩)
theorem UW (lo hi : Option Int) (n : Nat) : (sliceBounds lo hi none n).1 = ((HT.sIx n 0 lo : Nat) : Int) /\ (sliceBounds lo hi none n).2.1 = ((HT.sIx n n hi : Nat) : Int) /\ (sliceBounds lo hi none n).2.2 = 1:=by
  refine ⟨?_, ?_, rfl⟩
  . cases lo with
    | none=>simp [sliceBounds, HT.sIx]
    | some i=>
      simp only [sliceBounds, HT.sIx, Option.getD_none, show (1 : Int) > 0 by decide, if_true]
      by_cases h : i < 0
      . simp only [h, if_true] <;> (first | lia | omega)
      . simp only [h, if_false] <;> (first | lia | omega)
  . cases hi with
    | none=>simp [sliceBounds, HT.sIx]
    | some i=>
      simp only [sliceBounds, HT.sIx, Option.getD_none, show (1 : Int) > 0 by decide, if_true]
      by_cases h : i < 0
      . simp only [h, if_true] <;> (first | lia | omega)
      . simp only [h, if_false] <;> (first | lia | omega)
theorem UM (its : List Value) (lo hi : Option Int) : slicePick its.toArray lo hi none = ((its.drop (HT.sIx its.length 0 lo)).take (HT.sIx its.length its.length hi - HT.sIx its.length 0 lo)).toArray:=by
  obtain ⟨h1, h2, h3⟩:=UW lo hi its.toArray.size
  unfold slicePick
  rw [h1, h2, h3]
  simp only [sliceRange_one, pick_run, List.size_toArray] <;> rfl
noncomputable def Lj (K : PySem.W.Frag) : V -> Option Int -> Option Int -> Hp -> VK -> Prop:=fun x lo hi H Q=>∃ a xs, x = .ref a /\ SqL K H a xs /\ ∀ p, H p = none -> Q (.ref p) (upd H p (.lst (HV xs lo hi)))
theorem EX : SlR X (Lj X.K):=by
  intro pins s σ H x v vl vu lo hi sl Q I rx hs pl pu h
  obtain ⟨a, xs, rfl, hx, q⟩:=h
  cases rx
  obtain ⟨its, r, ht, hz⟩:=I.list hx
  have hlen:=r.length
  refine ⟨"list", _, slot_list_getitem.lookup, ht.isList.typeIs, ?_⟩
  refine wpAny_getItem_list_slice ht.isList hs pl pu .none (by simp) ?_ (by rw [List.size_toArray] <;> (first | lia | omega))
  rw [UM, ← hlen]
  refine ⟨.ref s.heap.objs.size, _, I.laid (t':=s.toks) (o:=.lst (HV xs lo hi)) (fun b ob q=>Heap.get?_push_of_some _ q) (Nat.le_refl _) ?_, rfl, q _ (I.hok.fresh (Nat.le_refl _))⟩
  exact ⟨Nat.le_trans (KZ xs lo hi) hz, _, 0, (r.drop (HT.sIx xs.length 0 lo)).take (HT.sIx xs.length xs.length hi - HT.sIx xs.length 0 lo), Heap.get?_push_size _ rfl⟩
noncomputable def J3 : V -> Bool
  | .non=>true
  | .bl _=>true
  | .int _=>true
  | .str _=>true
  | _=>false
noncomputable def eqV : V -> V -> Bool
  | .non, .non=>true
  | .bl a, .bl b=>a == b
  | .bl a, .int b=>(if a then 1 else 0) == b
  | .int a, .bl b=>a == (if b then 1 else 0)
  | .int a, .int b=>a == b
  | .str a, .str b=>a == b
  | _, _=>false
theorem Lf {A : Around} {s : Shared} {y x : V} {u v : Value} (ry : Yw y u) (rx : Yw x v) (fy : J3 y = true) (fx : J3 x = true) : SeqAt.EqAt A s u v (eqV y x):=by
  cases y with
  | non=>
    cases ry
    cases x with
    | non=>cases rx; exact SeqAt.EqAt.same _
    | bl b=>cases rx; exact SeqAt.EqAt.none_bool b
    | int b=>obtain ⟨t, rfl⟩:=rx; exact SeqAt.EqAt.none_int b t
    | str b=>obtain ⟨t, rfl⟩:=rx; exact SeqAt.EqAt.none_str b t
    | _=>exact absurd (show false = true from fx) Bool.false_ne_true
  | bl a=>
    cases ry
    cases x with
    | non=>cases rx; exact SeqAt.EqAt.bool_none a
    | bl b=>cases rx; exact SeqAt.EqAt.bool_bool a b
    | int b=>obtain ⟨t, rfl⟩:=rx; exact SeqAt.EqAt.bool_int a b t
    | str b=>obtain ⟨t, rfl⟩:=rx; exact SeqAt.EqAt.bool_str a b t
    | _=>exact absurd (show false = true from fx) Bool.false_ne_true
  | int a=>
    obtain ⟨t', rfl⟩:=ry
    cases x with
    | non=>cases rx; exact SeqAt.EqAt.int_none a t'
    | bl b=>cases rx; exact SeqAt.EqAt.int_bool a t' b
    | int b=>obtain ⟨t, rfl⟩:=rx; exact SeqAt.EqAt.int_int a t' b t
    | str b=>obtain ⟨t, rfl⟩:=rx; exact SeqAt.EqAt.int_str a t' b t
    | _=>exact absurd (show false = true from fx) Bool.false_ne_true
  | str a=>
    obtain ⟨t', rfl⟩:=ry
    cases x with
    | non=>cases rx; exact SeqAt.EqAt.str_none a t'
    | bl b=>cases rx; exact SeqAt.EqAt.str_bool a t' b
    | int b=>obtain ⟨t, rfl⟩:=rx; exact SeqAt.EqAt.str_int a t' b t
    | str b=>obtain ⟨t, rfl⟩:=rx; exact SeqAt.EqAt.str_str a t' b t
    | _=>exact absurd (show false = true from fx) Bool.false_ne_true
  | _=>exact absurd (show false = true from fy) Bool.false_ne_true
noncomputable def eqU (x : V) (u : Value) : Bool:=match u with
  | .none=>eqV .non x
  | .bool b=>eqV (.bl b) x
  | .int i _=>eqV (.int i) x
  | .str z _=>eqV (.str z) x
  | _=>false
theorem Db {x y : V} {u : Value} (r : Yw y u) (f : J3 y = true) : eqU x u = eqV y x:=by
  cases y with
  | non=>cases r; rfl
  | bl b=>cases r; rfl
  | int i=>obtain ⟨t, rfl⟩:=r; rfl
  | str z=>obtain ⟨t, rfl⟩:=r; rfl
  | _=>exact absurd (show false = true from f) Bool.false_ne_true
theorem Gp {x : V} : ∀ {xs : List V} {us : List Value}, Yj xs us -> xs.all J3 = true -> us.any (eqU x) = xs.any fun y=>eqV y x
  | _, _, .nil, _=>rfl
  | y :: xs, u :: us, .cons r t, f=>by
    rw [List.all_cons, Bool.and_eq_true] at f
    rw [List.any_cons, List.any_cons, Db r f.1, Gp t f.2]
theorem Vg {A : Around} {s : Shared} {x : V} {v : Value} (rx : Yw x v) (fx : J3 x = true) : ∀ {xs : List V} {us : List Value}, Yj xs us -> xs.all J3 = true -> ∀ u ∈ us, SeqAt.EqAt A s u v (eqU x u)
  | _, _, .nil, _=>fun u hu=>by cases hu
  | y :: xs, u :: us, .cons r t, f=>fun u' hu=>by
    rw [List.all_cons, Bool.and_eq_true] at f
    rcases List.mem_cons.mp hu with rfl | hu
    . rw [Db r f.1]; exact Lf r rx f.1 fx
    . exact Vg rx fx t f.2 u' hu
noncomputable def inV (x : V) (xs : List V) : Bool:=xs.any fun y=>eqV y x
noncomputable def rIn (K : PySem.W.Frag) (neg : Bool) : R2:=fun x y H Q=>∃ p xs, y = .ref p /\ (SqL K H p xs ∨ SqT K H p xs) /\ J3 x = true /\ xs.all J3 = true /\ Q (.bl (if neg then !inV x xs else inV x xs)) H
theorem U3 : OpR X (compareOp .In) (rIn X.K false):=by
  intro pins s σ H x y v u Q I rx ry h
  obtain ⟨p, xs, rfl, hq, fx, fs, q⟩:=h
  cases ry
  rcases hq with hq | hq
  . obtain ⟨its, r, pl, hz⟩ := I.list hq
    refine SeqAt.in_listAt (eqU x) pl.isList (fun w hw=>Vg rx fx r fs w (by simpa using hw)) ⟨.bl _, H, I, rfl, ?_⟩
    rw [show its.toArray.any (eqU x) = its.any (eqU x) by simp, Gp r fs]
    exact q
  . obtain ⟨its, r, pl, hz⟩ := I.tuple hq
    refine SeqAt.in_tupleAt (eqU x) pl (fun w hw=>Vg rx fx r fs w (by simpa using hw)) ⟨.bl _, H, I, rfl, ?_⟩
    rw [show its.toArray.any (eqU x) = its.any (eqU x) by simp, Gp r fs]
    exact q
theorem Kb : Z9 X (.builtin "len") (fun xs H Q=>∃ p ys, xs = [.ref p] /\ (SqL X.K H p ys ∨ SqT X.K H p ys) /\ Q (.int ys.length) H):=by
  intro pins s σ H xs us Q I r h
  obtain ⟨p, ys, rfl, hq, q⟩:=h
  obtain ⟨u, rfl, rx⟩:=Gw r
  cases rx
  have hn:=GU
  rcases hq with hq | hq
  . obtain ⟨its, r', pl, hz⟩ := I.list hq
    have hlen:=r'.length
    exact Calls.call_len_list pl.isList (by simp only [List.size_toArray] <;> (first | lia | omega)) ⟨.int ys.length, H, I.tok _, ⟨s.toks + 1, by rw [List.size_toArray, hlen]⟩, q⟩
  . obtain ⟨its, r', pl, hz⟩ := I.tuple hq
    have hlen:=r'.length
    exact len_tuple pl (by simp only [List.size_toArray] <;> (first | lia | omega)) ⟨.int ys.length, H, I.tok _, ⟨s.toks + 1, by rw [List.size_toArray, hlen]⟩, q⟩
theorem Z9.or {f : Value} {r r' : List V -> Hp -> VK -> Prop} (h : Z9 X f r) (h' : Z9 X f r') : Z9 X f (fun xs H Q=>r xs H Q ∨ r' xs H Q):=by
  intro pins s σ H xs us Q I rs q
  rcases q with q | q
  . exact h pins s σ H xs us Q I rs q
  . exact h' pins s σ H xs us Q I rs q
theorem U7 : Z9 X (.type "list") (fun xs H Q=>∃ p ys, xs = [.ref p] /\ (SqL X.K H p ys ∨ SqT X.K H p ys) /\ ∀ l, H l = none -> Q (.ref l) (upd H l (.lst ys))):=by
  intro pins s σ H xs us Q I r h
  obtain ⟨p, ys, rfl, hq, q⟩:=h
  obtain ⟨u, rfl, rx⟩:=Gw r
  cases rx
  have fin : ∀ (its : List Value), Yj ys its -> ys.length <= sizeLine -> ∀ (h' : Heap) (c' : Nat), (∀ b o', s.heap.get? b = some o' -> h'.get? b = some o') ->
      h'.get? s.heap.objs.size = some { cls:=.type "list", dict:=none, data:=.seq its.toArray c', slots:=#[] } -> EP X pins σ Q (.ref s.heap.objs.size) { s with heap:=h' }:=fun its r' hz h' c' kp e=>
    ⟨.ref s.heap.objs.size, _, I.laid (t':=s.toks) kp (Nat.le_refl _) (show Y5 X.prog X.w _ h' _ (.lst ys) from ⟨hz, its, c', r', e⟩), rfl, q _ (I.hok.fresh (Nat.le_refl _))⟩
  rcases hq with hq | hq
  . obtain ⟨its, r', pl, hz⟩ := I.list hq
    have hlen:=r'.length
    obtain ⟨o, ho, hc, n, hd⟩:=pl.isList
    exact call_list_seq p (.inl rfl) ho hc hd (fun h' c' kp e=>fin its r' hz h' c' kp e) (by simp only [List.size_toArray] <;> (first | lia | omega))
  . obtain ⟨its, r', pl, hz⟩ := I.tuple hq
    have hlen:=r'.length
    obtain ⟨o, ho, hc, n, hd⟩:=pl
    exact call_list_seq p (.inr rfl) ho hc hd (fun h' c' kp e=>fin its r' hz h' c' kp e) (by simp only [List.size_toArray] <;> (first | lia | omega))
theorem UI : Z9 X (.type "tuple") (fun xs H Q=>∃ p ys, xs = [.ref p] /\ ((SqL X.K H p ys /\ ∀ l, H l = none -> Q (.ref l) (upd H l (.tup ys))) ∨ (SqT X.K H p ys /\ Q (.ref p) H))):=by
  intro pins s σ H xs us Q I r h
  obtain ⟨p, ys, rfl, h⟩:=h
  obtain ⟨u, rfl, rx⟩:=Gw r
  cases rx
  rcases h with ⟨hq, q⟩ | ⟨hq, q⟩
  . obtain ⟨its, r', pl, hz⟩ := I.list hq
    have hlen:=r'.length
    refine call_tuple_list pl.isList (fun h' kp=>?_) (by simp only [List.size_toArray] <;> (first | lia | omega))
    have I1 : Inv X pins σ H { s with heap:=h' }:=I.kept (t':=s.toks) kp
    have I2 : Inv X pins σ (upd H h'.objs.size (.tup ys)) { s with heap:=h'.push { cls:=.type "tuple", data:=.seq its.toArray } }:=
      I1.laid (t':=s.toks) (fun b o e=>Heap.get?_push_of_some _ e) (Nat.le_refl _) (show Y5 X.prog X.w _ _ _ (.tup ys) from ⟨hz, its, r', IsTup.new _ _⟩)
    exact ⟨.ref h'.objs.size, _, I2, rfl, q _ (I1.hok.fresh (Nat.le_refl _))⟩
  . obtain ⟨its, r', pl, hz⟩ := I.tuple hq
    exact call_tuple_same pl ⟨.ref p, H, I, rfl, q⟩
noncomputable def tyV (K : PySem.W.Frag) (T : String) (x : V) (H : Hp) : Prop:=match x with
  | .str _=>T = "str"
  | .int _=>T = "int"
  | .ref p=>(T = "list" /\ ∃ xs, SqL K H p xs) ∨ (T = "tuple" /\ ∃ o, K.lookup p = some o /\ o.cls = .type "tuple" /\ o.dict = none) ∨
      (T = "dict" /\ ((∃ kvs, H p = some (.dK kvs)) ∨ ∃ kvs, H p = some (.dT kvs))) ∨ (T = "set" /\ ∃ S n, H p = some (.set S n))
  | _=>False
theorem IY {pins : List (Addr × Obj)} {σ : St} {H : Hp} {s : Shared} {T : String} {x : V} {v : Value} (I : Inv X pins σ H s) (r : Yw x v) (ty : tyV X.K T x H) :
    s.TypeIs v T /\ ∀ a, v = .ref a -> ∃ ob, s.heap.get? a = some ob /\ ob.dict = none:=by
  cases x with
  | str z=>
    obtain ⟨t, rfl⟩:=r
    cases (show T = "str" from ty)
    exact ⟨typeIs_str s z t, fun _ e=>nomatch e⟩
  | int i=>
    obtain ⟨t, rfl⟩:=r
    cases (show T = "int" from ty)
    exact ⟨typeIs_int s i t, fun _ e=>nomatch e⟩
  | ref p=>
    cases r
    rcases ty with ⟨rfl, xs, hq⟩ | ⟨rfl, o, hk, hc, hd⟩ | ⟨rfl, hk⟩ | ⟨rfl, S, n, hk⟩
    . obtain ⟨its, _, pl, _⟩ := I.list hq
      refine ⟨pl.isList.typeIs, fun a e=>?_⟩
      cases e
      obtain ⟨o, n, e, c, hd, _⟩:=pl
      exact ⟨o, e, hd⟩
    . refine ⟨⟨o, I.kIn p o hk, hc⟩, fun a e => ?_⟩
      cases e
      exact ⟨o, I.kIn _ o hk, hd⟩
    . have z : ∃ o, s.heap.get? p = some o /\ o.ExactDict:=by
        rcases hk with ⟨kvs, hk⟩ | ⟨kvs, hk⟩
        . obtain ⟨_, _, _, _, o, _, _, e, ex, _⟩ := I.hok p _ hk
          exact ⟨o, e, ex⟩
        . obtain ⟨_, _, _, _, o, _, _, e, ex, _⟩ := I.hok p _ hk
          exact ⟨o, e, ex⟩
      obtain ⟨o, e, ex⟩:=z
      refine ⟨⟨o, e, ex.1⟩, fun a e2=>?_⟩
      cases e2
      exact ⟨o, e, ex.2.1⟩
    . obtain ⟨o, _, _, _, e, ex, _⟩ := I.hok p _ hk
      refine ⟨⟨o, e, ex.1⟩, fun a e2=>?_⟩
      cases e2
      exact ⟨o, e, ex.2.1⟩
  | _=>exact False.elim ty
noncomputable def tBM (K : PySem.W.Frag) (T : String) (r : V -> List V -> Hp -> VK -> Prop) (to : TE) (t : TA) : TE:=fun σ H Q=>to σ H fun x H1=>tyV K T x H1 /\ t σ H1 fun xs H2=>r x xs H2 Q
variable {o e : Expr} {es : List Expr} {to : TE} {t : TA} {name : Str} {apos cpos : Pos} {T id : String} {r : V -> List V -> Hp -> VK -> Prop}
theorem ZK (pa : PlainAttrs T) (slot : Slot T name id) (hty : typeOf (.builtin id) = pure (.type "method_descriptor")) (hm : MtR X id r) (ho : PE X o to) (ha : PA X (e :: es) t)
    (hbase : attributeBase o name X.env (eval o X.env) = eval o X.env:=by rfl)
    (hfew : ((backTo cpos (starEach (e :: es) X.env)).all (fun x=>!x.1) && (backToKw cpos (keywordEach [] X.env)).all (fun x=>x.1.isSome)
      && decide ((e :: es).length + ([] : List Keyword).length + (if ([] : List Keyword).isEmpty then 0 else 1) < 30)) = true:=by rfl)
    (hline : (apos.endLine == cpos.line) = true:=by rfl) (hs : starEach (e :: es) X.env = (false, eval e X.env) :: starEach es X.env:=by rfl) (hplain : (backTo cpos (starEach es X.env)).any (·.1) = false:=by rfl) :
    PE X (.Call (.Attribute o name apos) (e :: es) [] cpos) (tBM X.K T r to t):=by
  intro pins s σ H Q I h
  refine wpAny_Call_method_late hbase hfew hline rfl (thn (ho pins s σ H _ I h) fun v s1 r9=>?_)
  obtain ⟨x, H1, I1, r1, ty, q1⟩:=r9
  obtain ⟨h1, h2⟩:=IY I1 r1 ty
  refine ⟨T, id, pa, slot, hty, h1, h2, ?_⟩
  have hA:=ha cpos pins s1 σ H1 _ I1 q1
  rw [hs] at hA ⊢
  refine Calls.callWith_builtin (by show (false || (backTo cpos (starEach es X.env)).any (·.1)) = false; rw [hplain] <;> rfl) (Calls.evalArgs_plain ?_)
  exact thn hA fun us s2 r9=>by obtain ⟨vs, H2, I2, r2, q2⟩:=r9; exact hm pins s2 σ H2 x vs v us Q I2 r1 r2 q2
/- xs.append(e), list.index on a module's tuple .. are MtR facts of 06m -/
end
end L2
namespace L2
open PySem PySem.Spec PyProof.Rows
noncomputable def MtM (X : Cx) (id : String) (r : V -> List V -> Hp -> VK -> Prop) : Prop:=
  ∀ (pins : List (Addr × Obj)) (s : Shared) (σ : St) (H : Hp) (x : V) (xs : List V) (v : Value) (us : List Value) (Q : VK), Inv X pins σ H s -> Yw x v -> Yj xs us -> r x xs H Q ->
    wpAny (model X.prog X.w) X.A (call (.builtin id) (v :: us)) (EP X pins σ Q) X.xe s
theorem Yj.one : ∀ {x : V} {us : List Value}, Yj [x] us -> ∃ u, us = [u] /\ Yw x u:=fun {x us} h=>by
  cases h with
  | cons r t=>
    cases t
    exact ⟨_, rfl, r⟩
theorem Yj.two : ∀ {x y : V} {us : List Value}, Yj [x, y] us -> ∃ u v, us = [u, v] /\ Yw x u /\ Yw y v:=fun {x y us} h=>by
  cases h with
  | cons r t=>
    cases t with
    | cons q t=>
      cases t
      exact ⟨_, _, rfl, r, q⟩
theorem Yj.zero : ∀ {us : List Value}, Yj [] us -> us = []
  | _, .nil=>rfl
theorem Yj.dropLast {xs : List V} {us : List Value} (h : Yj xs us) : Yj xs.dropLast us.dropLast:=by
  induction h with
  | nil=>exact .nil
  | cons r t ih=>
    cases t with
    | nil=>exact .nil
    | cons q t'=>exact .cons r ih
theorem Yj.eraseIdx : ∀ {xs : List V} {us : List Value} (i : Nat), Yj xs us -> Yj (xs.eraseIdx i) (us.eraseIdx i)
  | _, _, _, .nil=>.nil
  | _, _, 0, .cons _ t=>t
  | _, _, i + 1, .cons r t=>.cons r (Yj.eraseIdx i t)
theorem Yj.reverse {xs : List V} {us : List Value} (h : Yj xs us) : Yj xs.reverse us.reverse:=by
  induction h with
  | nil=>exact .nil
  | cons r t ih=>rw [List.reverse_cons, List.reverse_cons]; exact Yj.append ih (.cons r .nil)
theorem Yj.rep {xs : List V} {us : List Value} (h : Yj xs us) : ∀ k : Nat, Yj (List.replicate k xs).flatten (List.replicate k us).flatten
  | 0=>.nil
  | k + 1=>by
    rw [List.replicate_succ, List.replicate_succ, List.flatten_cons, List.flatten_cons]
    exact Yj.append h (Yj.rep h k)
theorem Ku {α : Type} : ∀ (l : List α) (i : Nat), (l.eraseIdx i).length <= l.length
  | [], _=>Nat.le_refl _
  | _ :: _, 0=>Nat.le_succ _
  | _ :: r, i + 1=>Nat.succ_le_succ (Ku r i)
theorem Kd (its : List Value) : ∀ (k : Nat) (acc : List Value),
    List.foldl (fun x1 x2=>x1 ++ x2) acc.toArray (List.replicate k its.toArray) = (acc ++ (List.replicate k its).flatten).toArray
  | 0, acc=>by simp
  | k + 1, acc=>by
    have e : acc.toArray ++ its.toArray = (acc ++ its).toArray:=by simp
    have e2 : (acc ++ its) ++ (List.replicate k its).flatten = acc ++ (List.replicate (k + 1) its).flatten:=by
      rw [List.replicate_succ, List.flatten_cons, List.append_assoc]
    rw [← e2, ← Kd its k (acc ++ its), ← e, List.replicate_succ, List.foldl_cons]
section
variable {X : Cx} {pins : List (Addr × Obj)} {σ : St} {H : Hp} {s : Shared} {l b : Addr} {xs ys zs : List V}
theorem Inv.lset {its its' : List Value} {n : Nat} {f : Array Value -> Array Value} {t' : Nat} (I : Inv X pins σ H s) (hH : H l = some (.lst xs))
    (e : s.heap.get? l = some { cls:=.type "list", data:=.seq its.toArray n }) (hf : f its.toArray = its'.toArray) (hv : Yj ys its') (hz : ys.length <= sizeLine) :
    Inv X pins σ (upd H l (.lst ys)) { s with heap:=s.heap.update l (Obj.mapSeq f), toks:=t' }:=by
  have q:=PySem.IsL.update e f
  rw [hf] at q
  refine I.write (x:=l) (e:=l) (by rw [hH]; exact trivial) (.inl rfl) (fun b' u hb hu=>(Heap.get?_update_other s.heap (Obj.mapSeq f) (Ne.symm hb)).trans hu) ⟨_, q⟩ ?_
  exact ⟨hz, its', _, hv, q⟩
theorem Inv.lnew {its : List Value} {t' : Nat} (I : Inv X pins σ H s) (hv : Yj ys its) (hz : ys.length <= sizeLine) :
    Inv X pins σ (upd H s.heap.objs.size (.lst ys)) { s with heap:=s.heap.push { cls:=.type "list", data:=.seq its.toArray }, toks:=t' }:=
  I.laid (fun _ _ q=>Heap.get?_push_of_some _ q) (Nat.le_refl _) ⟨hz, its, 0, hv, Heap.get?_push_size _ rfl⟩
theorem Inv.fresh (I : Inv X pins σ H s) : H s.heap.objs.size = none:=I.hok.fresh (Nat.le_refl _)
theorem Inv.lstM (I : Inv X pins σ H s) (hH : H l = some (.lst xs)) : xs.length <= sizeLine /\ ∃ (its : List Value) (n : Nat), Yj xs its /\ xs.length = its.length /\ s.heap.get? l = some { cls:=.type "list", data:=.seq its.toArray n }:=by
  obtain ⟨z, its, n, r, e⟩:=I.hok l _ hH
  exact ⟨z, its, n, r, r.length, e⟩
theorem G9 {n : Nat} (h : n <= sizeLine) : Builtin.List.listTooLong n = false:=by
  unfold Builtin.List.listTooLong
  exact decide_eq_false (by first | lia | omega)
end
section
variable {X : Cx}
noncomputable def Uz : V -> List V -> Hp -> VK -> Prop:=fun x vs H Q=>∃ l xs y, x = .ref l /\ vs = [y] /\ H l = some (.lst xs) /\ xs.length < sizeLine /\ Q .non (upd H l (.lst (xs ++ [y])))
theorem X1 : MtM X "list.append" Uz:=by
  intro pins s σ H x vs v us Q I rx rv h
  obtain ⟨l, xs, y, rfl, rfl, hH, hz, q⟩:=h
  cases rx
  obtain ⟨u, rfl, ru⟩:=rv.one
  obtain ⟨z, its, n, r, hl, e⟩:=I.lstM hH
  refine call_meets F.slot_list_append ⟨_, e, rfl⟩ F.entry_list_append (F.args_list_append_2 _ _) (PySem.list_append l its.toArray n u (by rw [List.size_toArray]; (first | lia | omega))) ⟨e, ?_⟩
  refine ⟨.non, _, I.lset (its':=its ++ [u]) hH e (by simp) (r.append (.cons ru .nil)) ?_, rfl, q⟩
  rw [List.length_append, List.length_singleton]
  first | lia | omega
noncomputable def Cz : V -> List V -> Hp -> VK -> Prop:=fun x vs H Q=>∃ l b xs zs, x = .ref l /\ vs = [.ref b] /\ H l = some (.lst xs) /\ H b = some (.lst zs) /\ xs.length + zs.length <= sizeLine /\ Q .non (upd H l (.lst (xs ++ zs)))
theorem DZ : MtM X "list.extend" Cz:=by
  intro pins s σ H x vs v us Q I rx rv h
  obtain ⟨l, b, xs, zs, rfl, rfl, hH, hB, hz, q⟩:=h
  cases rx
  obtain ⟨u, rfl, ru⟩:=rv.one
  cases ru
  obtain ⟨z, its, n, r, hl, e⟩:=I.lstM hH
  obtain ⟨z2, its2, n2, r2, hl2, e2⟩:=I.lstM hB
  have hsz : its.toArray.size + its2.toArray.size <= sizeLine:=by rw [List.size_toArray, List.size_toArray]; (first | lia | omega)
  have hlong : ¬ (!its.toArray.isEmpty && Builtin.List.listTooLong (its.toArray.size + its2.toArray.size)) = true:=by
    rw [G9 hsz, Bool.and_false]
    exact Bool.false_ne_true
  refine call_meets F.slot_list_extend ⟨_, e, rfl⟩ F.entry_list_extend (F.args_list_extend_2 _ _)
    (AutoSeq1.list_extend_list_list_0 l its.toArray n b its2.toArray n2 hlong (by rw [List.size_toArray]; (first | lia | omega)) (by first | lia | omega)) ⟨e, e2, ?_⟩
  refine ⟨.non, _, I.lset (its':=its ++ its2) hH e (by simp) (r.append r2) ?_, rfl, q⟩
  rw [List.length_append]
  first | lia | omega
noncomputable def G0 : V -> List V -> Hp -> VK -> Prop:=fun x vs H Q=>∃ l xs i k y, x = .ref l /\ vs = [.int i] /\ H l = some (.lst xs) /\ -(2 ^ 63) <= i /\ i < 2 ^ 63 /\ seqIndex? i xs.length = some k /\ xs[k]? = some y /\ Q y (upd H l (.lst (xs.eraseIdx k)))
theorem Uw : MtM X "list.pop" G0:=by
  intro pins s σ H x vs v us Q I rx rv h
  obtain ⟨l, xs, i, k, y, rfl, rfl, hH, h1, h2, hk, hy, q⟩:=h
  cases rx
  obtain ⟨u, rfl, ru⟩:=rv.one
  obtain ⟨t, rfl⟩:=ru
  obtain ⟨z, its, n, r, hl, e⟩:=I.lstM hH
  obtain ⟨w, hw, rw'⟩:=r.get hy
  refine call_meets F.slot_list_pop ⟨_, e, rfl⟩ F.entry_list_pop (F.args_list_pop_2 _ _)
    (MeetsSeq.list_pop_at l its.toArray n i t k w (fitsIndex_both h1 h2) (by rw [List.size_toArray, ← hl]; exact hk) (by rw [← Array.getElem?_toList]; exact hw) (by rw [List.size_toArray]; (first | lia | omega))) ⟨e, ?_⟩
  refine ⟨y, _, I.lset (its':=its.eraseIdx k) hH e ?_ (r.eraseIdx k) ?_, rw', q⟩
  . show its.toArray.eraseIdxIfInBounds k = (its.eraseIdx k).toArray
    rw [List.eraseIdxIfInBounds_toArray]
  . have := Ku xs k
    first | lia | omega
noncomputable def L1 : R2:=fun x y H Q=>∃ l b xs zs, x = .ref l /\ y = .ref b /\ H l = some (.lst xs) /\ H b = some (.lst zs) /\ xs.length + zs.length <= sizeLine /\ ∀ p, H p = none -> Q (.ref p) (upd H p (.lst (xs ++ zs)))
theorem F1 : OpR X (binaryOp .Add) L1:=by
  intro pins s σ H x y v u Q I rx ry h
  obtain ⟨l, b, xs, zs, rfl, rfl, hH, hB, hz, q⟩:=h
  cases rx
  cases ry
  obtain ⟨z, its, n, r, hl, e⟩:=I.lstM hH
  obtain ⟨z2, its2, n2, r2, hl2, e2⟩:=I.lstM hB
  refine PySem.P.add_list e e2 ?_ (by rw [List.size_toArray, List.size_toArray]; (first | lia | omega))
  have ea : its.toArray ++ its2.toArray = (its ++ its2).toArray:=by simp
  rw [ea]
  exact ⟨.ref _, _, I.lnew (t':=s.toks) (r.append r2) (by rw [List.length_append]; (first | lia | omega)), rfl, q _ I.fresh⟩
noncomputable def LV : R2:=fun x y H Q=>∃ l k xs, x = .ref l /\ y = .int k /\ H l = some (.lst xs) /\ -(2 ^ 63) <= k /\ k < 2 ^ 63 /\ xs.length * k.toNat <= sizeLine /\
  ∀ p, H p = none -> Q (.ref p) (upd H p (.lst (List.replicate k.toNat xs).flatten))
theorem Hr {α : Type} (xs : List α) (k : Nat) : (List.replicate k xs).flatten.length = k * xs.length:=by
  induction k with
  | zero=>simp
  | succ k ih=>rw [List.replicate_succ, List.flatten_cons, List.length_append, ih, Nat.succ_mul, Nat.add_comm]
theorem UZ : OpR X (binaryOp .Mult) LV:=by
  intro pins s σ H x y v u Q I rx ry h
  obtain ⟨l, k, xs, rfl, rfl, hH, h1, h2, hz, q⟩:=h
  cases rx
  obtain ⟨t, rfl⟩:=ry
  obtain ⟨z, its, n, r, hl, e⟩:=I.lstM hH
  have hlen : its.toArray.size * k.toNat <= sizeLine:=by rw [List.size_toArray, ← hl]; exact hz
  have hcap : ¬ its.toArray.size * k.toNat > (2 ^ 63 - 1) / 8:=by
    have : (sizeLine : Nat) <= (2 ^ 63 - 1) / 8:=by decide
    first | lia | omega
  have hfit : ¬ (!Builtin.List.listFitsIndex k) = true:=by
    rw [fitsIndex_both h1 h2]
    exact Bool.false_ne_true
  have hlong : ¬ Builtin.List.listTooLong (its.toArray.size * k.toNat) = true:=by
    rw [G9 hlen]
    exact Bool.false_ne_true
  have hnew : List.foldl (fun x1 x2=>x1 ++ x2) #[] (List.replicate (if its.toArray.isEmpty = true then 0 else k.toNat) its.toArray) = (List.replicate k.toNat its).flatten.toArray:=by
    have f0 : ∀ m : Nat, List.foldl (fun x1 x2=>x1 ++ x2) #[] (List.replicate m its.toArray) = (List.replicate m its).flatten.toArray:=fun m=>by
      have:=Kd its m []
      rw [List.nil_append] at this
      exact this
    rw [f0]
    cases its with
    | nil=>simp
    | cons a r'=>rw [if_neg (by simp)]
  refine wpAny_binaryOp_repeat_ref (T:="list") (U:="int") (by decide) ⟨_, e, rfl⟩ (fun s'=>typeIs_int s' k t) noFill_list_mul F.fills_int_mul F.slot_int_rmul repeat_list F.slot_int_index.lookup
    (call_meets F.slot_int_rmul (typeIs_int s k t) F.entry_int_rmul (F.args_int_rmul_2 _ _) (int___rmul___int_list k t l its.toArray n)
      ⟨e, rfl, ⟨_, e, rfl⟩, call_meets F.slot_list_mul ⟨_, e, rfl⟩ F.entry_list_mul (F.args_list_mul_2 _ _) (AutoListH.list___mul___list_int_3 l its.toArray n k t hfit hcap hlong) ⟨e, ?_⟩⟩)
  rw [hnew]
  exact ⟨.ref _, _, I.lnew (t':=s.toks) (r.rep k.toNat) (by rw [Hr, Nat.mul_comm]; exact hz), rfl, q _ I.fresh⟩
end
section
variable {prog : Program} {w : World} {A : Around} {E : Value -> Shared -> Prop} {s : Shared}
end
section
variable {X : Cx}
end
end L2
namespace Att
open PySem PySem.W PySem.Calls PyProof.Rows
theorem Vk {P : Params} {h : Heap} : ∀ (ns : List Int) (vs : List Value), WellAll P h vs (ns.map WData.int) -> IntsAre vs ns:=by
  intro ns
  induction ns with
  | nil=>
    intro vs w
    rw [List.map_nil] at w
    cases w
    exact .nil
  | cons n ns ih=>
    intro vs w
    rw [List.map_cons] at w
    cases w with
    | cons a b=>
      cases a
      exact .cons _ _ (ih _ b)
theorem F6 {l : OpenLaw} {n : Nat} (hn : l.most = some n) {P : Params} {h : Heap} {args : List WData} {vals : List Value}
    (hpre : l.row.toRowW.claim.pre args = true) (hwl : WellAll P h vals args) :
    ∃ a vs ns, vals = [Value.ref a] /\ args = [WData.list (ns.map WData.int)] /\ h.get? a = some { cls:=.type "list", data:=.seq vs.toArray } /\ IntsAre vs ns /\ ns.length <= n:=by
  have hsh : WShape.hasAll [] args [.list .int] = true:=(pre_splitW hpre).1
  have hc : l.pre.holds [] { args:=args } = true:=(pre_splitW hpre).2
  obtain ⟨d, r, rfl, h1, h2⟩:=hasAllW_cons hsh
  obtain rfl:=hasAllW_nil h2
  obtain ⟨xs, rfl, h3⟩:=hasW_list h1
  obtain ⟨ns, rfl⟩:=items_int h3
  have hlen : ns.length <= n:=by
    unfold OpenLaw.pre at hc
    have h4 : (WTm.not (.lt (.lit (.int (n : Int))) (.len (.arg 0)))).holds [] { args:=[.list (ns.map .int)] } = true:=by
      have h4:=(holds_andW hc).1
      rw [hn] at h4
      exact h4
    have h5:=condW_of h4 (w_not (w_lt w_lit (w_len_list (w_arg rfl))))
    rw [List.length_map] at h5
    refine Nat.le_of_not_lt fun q=>?_
    have q' : (n : Int) < ((ns.length : Nat) : Int):=by first | lia | omega
    first
      | (rw [decide_eq_true q'] at h5; exact absurd h5 (by decide))
      | (simp at h5; (first | lia | omega))
  cases hwl with
  | cons w1 w2=>
    cases w2
    cases w1 with
    | list ho hall=>exact ⟨_, _, ns, rfl, rfl, ho, Vk ns _ hall, hlen⟩
theorem Dr (l : OpenLaw) (args : List WData) : l.row.toRowW.claim.post args (.bool true) args = true:=
  postW_of (r:=l.row.toRowW) (X:=(true == true))
    (show WShape.has [] (.bool true) .bool = true by first | rfl | decide | simp [WShape.has, WShape.arms, WShape.armsAll])
    (show (WTm.eq .res (.lit (.bool true))).value [] { args:=args, res:=some (.bool true), after:=args } = some (.bool (true == true)) from w_eq_bool (w_res rfl) w_lit) rfl
theorem attach_call {l : OpenLaw} {n : Nat} {q : Program} {loose : List Str} {XP : (Str -> Option Value) -> Heap -> Prop} {YP : World -> Heap -> Prop} {d : DefRec}
    (hn : l.most = some n) (hdf : d.params.defaults = [])
    (call : ∀ (w : World) (s₀ s₁ : Shared) (mg mb : Str -> Option Value) (fa : Addr) (o : Obj) (pm cd doc : Value) (a : Addr) (vs : List Value) (ns : List Int),
      Ground q loose [] XP w s₀ mg mb s₁.heap -> YP w s₁.heap ->
      s₁.heap.get? fa = some o -> o.data = .func (docDef d.name d.params d.body d.scope pm cd doc) -> s₁.heap.CodeRec cd d.name -> mg d.name = some (.ref fa) ->
      s₁.heap.get? a = some { cls:=.type "list", data:=.seq vs.toArray } -> IntsAre vs ns -> ns.length <= n -> s₁.gens = #[] ->
      codeAny (model l.prog w) callerA (.call (.ref fa) ⟨[.ref a], []⟩) (fun r s'=>r = .ok (.ret (.bool true)) /\ OldK s₁.heap s'.heap /\ s'.os = s₁.os /\ AllBare s'.gens) s₁) :
    WalkO q loose XP YP l.row.toRowW d [] (fun f vs=>PySem.call f vs):=by
  intro w s₀ s₁ mg mb G Y fa o pm cd doc dV kV ho hd hcd hD hmg hg args vals as hpre hlay hrd hwl hlo
  obtain rfl : dV = .none:=Dflts.none hD hdf
  obtain rfl : kV = .none:=Dflts.noKw hD
  obtain ⟨a, vs, ns, rfl, rfl, hobj, hints, hlen⟩:=F6 hn hpre hwl
  refine enter_call (codeAny_mono (call w s₀ s₁ mg mb fa o pm cd doc a vs ns G Y ho (fd_plain hd) hcd hmg hobj hints hlen hg) fun r s' hq=>?_)
  obtain ⟨rfl, h2, h3, h4⟩:=hq
  exact ⟨.inl ⟨.bool true, .bool true, [], rfl, fun _=>rfl, .bool true, Dr l _, fun _=>⟨List.Pairwise.nil, fun _ hm=>(nomatch hm)⟩⟩, h2, h3, h4⟩
section
variable {prog : Program} {w : World} {A : Around} {E : Value -> Shared -> Prop} {s : Shared} {K : Frag}
noncomputable def LO (h : Heap) (L d : Addr) : List (Addr × Obj):=(List.range h.objs.size).filterMap fun a=>if a = L ∨ a = d then none else (h.get? a).map fun o=>(a, o)
end
end Att
namespace L2
open PySem PySem.Spec PyProof.Rows
theorem DO : ∀ {vs : List Value} {ns : List Int}, IntsAre vs ns -> Yj (ns.map V.int) vs:=fun p=>by
  induction p with
  | nil=>exact .nil
  | cons n t _ ih=>exact .cons ⟨t, rfl⟩ ih
noncomputable def LL (H : Hp) : Prop:=∀ b, H b = none ∨ ∃ o xs, H b = some (.frz o (.lst xs))
theorem Bw {P : Program} {w : World} {K : PySem.W.Frag} {mg mb : Str -> Option Value} {CX : CXT} {k : Nat} {fa a : Addr} {fd : FuncData} {x : Str} {sp : Sp} {s₁ : Shared} {vs : List Value} {ns : List Int}
    (KX : K.In s₁.heap) (hns : s₁.heap.Ns mainGlobals mg) (hb : s₁.heap.Ns builtinsNs mb) (hbb : ∀ x : Str, x ≠ "__name__" -> mb x = bootBuiltins x) (hlim : s₁.heap.NoLimit) (hg : s₁.gens = #[])
    (ha : s₁.heap.get? a = some { cls:=.type "list", data:=.seq vs.toArray }) (hi : IntsAre vs ns) (hl : ns.length <= sizeLine) (hr : Room k callerA)
    (F : ∀ base : Heap, K.In base -> base.Ns mainGlobals mg -> FnOk P w K mg base CX k fa fd [x] sp) (hbind : ∀ (s : Shared) (u : Value), BindsTo s fd ⟨[u], []⟩ [(x, u)])
    (hsp : ∀ H : Hp, LL H -> SqL K H a (ns.map V.int) -> sp [.ref a] H (fun v _=>v = .bl true) fun _ _ _=>False)
    (hCX : ∀ H e s', CX [] H s₁ (fun _ _ _=>False) e s' -> False) :
    codeAny (model P w) callerA (.call (.ref fa) ⟨[.ref a], []⟩) (fun r s'=>r = .ok (.ret (.bool true)) /\ OldK s₁.heap s'.heap /\ s'.os = s₁.os /\ AllBare s'.gens) s₁:=by
  have rv:=DO hi
  have lenV:=hi.length
  -- from an abstract heap in which nothing but the script may be tracked
  have core : ∀ H : Hp, LL H -> SqL K H a (ns.map V.int) -> HOk P w H s₁.heap -> (∀ b, H b ≠ none -> b = a) -> (H a ≠ none -> K.lookup a = none) ->
      codeAny (model P w) callerA (.call (.ref fa) ⟨[.ref a], []⟩) (fun r s'=>r = .ok (.ret (.bool true)) /\ OldK s₁.heap s'.heap /\ s'.os = s₁.os /\ AllBare s'.gens) s₁:=by
    intro H hO hS hok hA hK
    have base_of : ∀ {b : Addr} {o : Obj}, s₁.heap.get? b = some o -> H b = none -> (Bc s₁.heap H).get? b = some o:=fun e n=>GY e n
    have noA : ∀ {b : Addr} {o : Obj} {es : Array DictEntry} {ep : Nat}, s₁.heap.get? b = some o -> o.data = .dict es ep -> H b = none:=fun {b o es ep} e d=>by
      cases q : H b with
      | none=>rfl
      | some u=>
        have e' : b = a:=hA b (by rw [q]; simp)
        subst e'
        rw [ha] at e; cases e
        have d' : Data.seq vs.toArray _ = Data.dict es ep:=d
        cases d'
    have nsK : ∀ {b : Addr} {m : Str -> Option Value}, s₁.heap.Ns b m -> (Bc s₁.heap H).Ns b m:=fun {b m} ⟨o, es, ep, e, d, r⟩=>⟨o, es, ep, base_of e (noA e d), d, r⟩
    have hKb : K.In (Bc s₁.heap H):=fun b o e=>base_of (KX b o e) (by
      cases q : H b with
      | none=>rfl
      | some u=>
        have e' : b = a:=hA b (by rw [q]; simp)
        subst e'
        rw [hK (by rw [q]; simp)] at e; cases e)
    have hM : Mod K mg (Bc s₁.heap H):=⟨hKb, nsK hns, ⟨mb, nsK hb, hbb⟩, let ⟨mc, h1, h2⟩:=hlim; ⟨mc, nsK h1, h2⟩⟩
    have e0 : Env0 P w K mg (Bc s₁.heap H) callerA [] s₁ H:=⟨rfl, hM, fun b o e=>E5 e, Nat.le_of_eq (Ci _ _), trivial, fun b hb=>absurd (show b ∈ ([] : List Addr) from hb) (by simp), hok, .of_eq hg⟩
    refine codeAny_mono ((F _ hKb (nsK hns)).run callerA [] s₁ H ⟨[.ref a], []⟩ [.ref a] [.ref a] _ _ hr e0 (hbind s₁ (.ref a)) (.cons rfl .nil) (hsp H hO hS)) fun r s' h=>?_
    cases r with
    | error e=>exact (hCX H e s' h).elim
    | ok fl=>
      cases fl with
      | next=>exact False.elim h
      | brk=>exact False.elim h
      | cont=>exact False.elim h
      | ret u=>
        obtain ⟨v, H', os, bare, un, hok', r', q⟩:=h
        have q' : v = .bl true:=q
        subst q'
        obtain rfl : u = Value.bool true:=r'
        refine ⟨rfl, OldK.of_keep fun b o e=>?_, os, bare⟩
        cases q : H b with
        | none=>exact un.keep b o e q (by intro z; exact absurd (show b ∈ ([] : List Addr) from z) (by simp)) (by simp)
        | some u=>
          rcases hO b with z | ⟨ob, xs, z⟩
          . rw [q] at z; cases z
          . have z2 := un.frzs b ob _ z
            obtain ⟨e1, _⟩:=hok b _ z
            obtain ⟨e2, _⟩:=hok' b _ z2
            rw [e] at e1; cases e1
            exact e2
  cases hk : K.lookup a with
  | some o=>
    -- the script is one of the module's own objects
    have e:=KX a o hk
    rw [ha] at e
    cases e
    refine core (fun _=>none) (fun _=>.inl rfl) (.inr ⟨_, vs.toArray, _, hk, rfl, rfl, rfl, by rw [List.size_toArray, lenV]; exact hl, by simpa using rv⟩) (fun b u z=>by have z' : (none : Option HO) = some u:=z; cases z') (fun b z=>absurd rfl z) fun z=>absurd rfl z
  | none=>
    refine core (fun b=>if b = a then some (.frz { cls:=.type "list", data:=.seq vs.toArray } (.lst (ns.map V.int))) else none) (fun b=>?_) (.inl (.inr ⟨{ cls:=.type "list", data:=.seq vs.toArray }, if_pos rfl⟩)) (fun b u z=>?_) (fun b z=>?_) fun _=>hk
    . by_cases hb : b = a
      . exact .inr ⟨_, _, if_pos hb⟩
      . exact .inl (if_neg hb)
    . by_cases hb : b = a
      . have z' := (if_pos hb).symm.trans z
        cases z'
        subst hb
        exact ⟨ha, by rw [List.length_map]; exact hl, vs, _, rv, ha⟩
      . have z' := (if_neg hb).symm.trans z
        cases z'
    . by_cases hb : b = a
      . exact hb
      . exact absurd (if_neg hb) z
end L2
namespace L2
open PySem PySem.Spec PyProof.Rows
theorem EQ {l : PySem.W.OpenLaw} {n k : Nat} {q : Program} {loose : List Str} {XP : (Str -> Option Value) -> Heap -> Prop} {YP : World -> Heap -> Prop} {d : DefRec} {K : Params -> PySem.W.Frag} {CX : World -> CXT} {sp : World -> Sp} {x : Str}
    (hn : l.most = some n) (hn2 : n <= sizeLine) (hdf : d.params.defaults = []) (hr : Room k callerA)
    (hY : ∀ (w : World) (h : Heap), YP w h -> (K w.params).In h)
    (F : ∀ (w : World) (mg : Str -> Option Value) (fa : Addr) (h : Heap), (K w.params).In h -> h.Ns mainGlobals mg -> mg d.name = some (.ref fa) ->
      ∃ fd : FuncData, (∀ (s : Shared) (u : Value), BindsTo s fd ⟨[u], []⟩ [(x, u)]) /\
        ∀ base : Heap, (K w.params).In base -> base.Ns mainGlobals mg -> FnOk l.prog w (K w.params) mg base (CX w) k fa fd [x] (sp w))
    (hsp : ∀ (w : World) (H : Hp) (a : Addr) (ns : List Int), ns.length <= n -> LL H -> SqL (K w.params) H a (ns.map V.int) -> sp w [.ref a] H (fun v _=>v = .bl true) fun _ _ _=>False)
    (hCX : ∀ (w : World) (H : Hp) (s : Shared) (e : Value) (s' : Shared), CX w [] H s (fun _ _ _=>False) e s' -> False) :
    PySem.W.WalkO q loose XP YP l.row.toRowW d [] (fun f vs=>PySem.call f vs):=by
  refine Att.attach_call hn hdf fun w s₀ s₁ mg mb fa o pm cd doc a vs ns G Y ho hd hcd hmg hobj hints hlen hg=>?_
  have KX:=hY w _ Y
  obtain ⟨fd, hb, hF⟩:=F w mg fa _ KX G.T.g hmg
  exact Bw KX G.T.g G.T.b G.T.builtins G.T.nolimit hg hobj hints (Nat.le_trans hlen hn2) hr hF hb (fun H hO hS=>hsp w H a ns hlen hO hS) fun H e s'=>hCX w H s₁ e s'
end L2
namespace L2
open PySem PySem.Spec PyProof.Rows
noncomputable def XC (s : Stmt) : Arguments:=match s with
  | .FunctionDef _ a _ _ _ _ _ _ _ _=>a
  | _=>{ posonlyargs:=[], args:=[], vararg:=none, kwonlyargs:=[], kw_defaults:=[], kwarg:=none, defaults:=[] }
noncomputable def Xz (s : Stmt) : List Stmt:=match s with
  | .FunctionDef _ _ b _ _ _ _ _ _ _=>b
  | _=>[]
noncomputable def Xi (s : Stmt) : Scope:=match s with
  | .FunctionDef _ _ _ _ _ _ sc _ _ _=>sc
  | _=>{ kind:=.function, names:=[], isGenerator:=false, isCoroutine:=false }
noncomputable abbrev CX0 : CXT:=fun _ _ _ _ _ _=>False
noncomputable abbrev E0 : XK:=fun _ _ _=>False
theorem Ly {X : Cx} : Cj CX0 X E0:=fun _ _ _ _ _ _ _ h=>h.elim
structure Fun (K : PySem.W.Frag) (x qual : Str) (st : Stmt) (f : Addr) (fd : FuncData) : Prop where
  ex : ∃ (oc : Value) (od : Option Addr) (kV doc pm : Value) (an : Option Addr) (cdv ct : Value) (osl : Array (Option Value)),
    fd = PySem.W.fnOf x qual (XC st) (Xz st) (Xi st) .none kV doc pm an cdv ct /\ K.lookup f = some ⟨oc, od, .func fd, osl⟩ /\ PySem.W.codeIn K cdv qual = true
  kp : PySem.W.keepIn K (.ref f) = true
section
variable {P : Program} {w : World} {K : PySem.W.Frag} {mg : Str -> Option Value} {base : Heap}
theorem Fun.ok {x qual : Str} {st : Stmt} {f : Addr} {fd : FuncData} {N ps : List Str} {k : Nat} {sp : Sp} (F : Fun K x qual st f fd) (S : FnScope N ps (Xi st)) (len : ∀ vs H Q E, sp vs H Q E -> vs.length = ps.length)
    (hbody : ∀ (cdv : Value) (A : Around) (outer : List Env) (s : Shared) (H : Hp) (vs : List V) (Q : VK) (E : XK), Room k (A.deeper (envOfC qual (Xi st) s.heap.objs.size f cdv)) -> sp vs H Q E ->
      ∃ t, PSs (Ez CX0 P w K mg base N qual (Xi st) f cdv A outer s H E).nox (Xz st) t /\ t { nx:=fun _ H'=>Q .non H', rt:=Q } (UQ N vs) H) : FnOk P w K mg base CX0 (k + 1) f fd ps sp:=by
  obtain ⟨oc, od, kV, doc, pm, an, cdv, ct, osl, rfl, lk, hcd⟩:=F.ex
  refine LD lk hcd S len fun A outer s H vs Q E hr hsp=>?_
  obtain ⟨t, h, q⟩:=hbody cdv A outer s H vs Q E hr hsp
  exact ⟨t, h.nox, q⟩
theorem Fun.binds {x qual : Str} {st : Stmt} {f : Addr} {fd : FuncData} {ps : List Str} (F : Fun K x qual st f fd)
    (h : ∀ (kV doc pm : Value) (an : Option Addr) (cdv ct : Value) (us : List Value), us.length = ps.length -> bindArgs (PySem.W.fnOf x qual (XC st) (Xz st) (Xi st) .none kV doc pm an cdv ct) ⟨us, []⟩ = pure (ps.zip us)) : KY K fd ps []:=by
  obtain ⟨oc, od, kV, doc, pm, an, cdv, ct, osl, rfl, lk, hcd⟩:=F.ex
  exact .all (h kV doc pm an cdv ct)
theorem Xr {x qual : Str} {st : Stmt} {f : Addr} {oc : Value} {od an : Option Addr} {osl : Array (Option Value)} {kV doc pm cdv ct : Value} (l : K.lookup f = some ⟨oc, od, .func (PySem.W.fnOf x qual (XC st) (Xz st) (Xi st) .none kV doc pm an cdv ct), osl⟩)
    (c : PySem.W.codeIn K cdv qual = true) (k : PySem.W.keepIn K (.ref f) = true) : Fun K x qual st f (PySem.W.fnOf x qual (XC st) (Xz st) (Xi st) .none kV doc pm an cdv ct):=⟨⟨oc, od, kV, doc, pm, an, cdv, ct, osl, rfl, l, c⟩, k⟩
end
theorem YD {A : Around} {k : Nat} (hr : Room k A) : A.units + 1 < cLine:=Nat.lt_of_le_of_lt (Nat.add_le_add_left (by decide : 1 <= 64) _) hr.units
theorem CF {n : Nat} (h : n <= 1000) : n < sizeLine:=Nat.lt_of_le_of_lt h (by decide)
section
variable {X : Cx}
theorem pv (i : Nat) {x : Str} {pos : Pos} (hN : X.N[i]? = some x:=by rfl) (hv : Vis X.env.scope x:=by first | exact Or.inl rfl | exact Or.inr (Or.inl rfl) | exact Or.inr (Or.inr rfl)) (hd : (x == ("__debug__" : Str)) = false:=by decide)
    (hcd : (x == ("__classdict__" : Str)) = false:=by decide) : PE X (.Name x pos) (UV i):=Lc hN hv hd hcd
end
noncomputable def XD (H H' : Hp) : Prop:=∀ b o, H b = some o -> H' b = some o
theorem XD.refl (H : Hp) : XD H H:=fun _ _ h=>h
theorem XD.trans {H H1 H2 : Hp} (a : XD H H1) (b : XD H1 H2) : XD H H2:=fun c o h=>b c o (a c o h)
theorem XD.free {H H' : Hp} (e : XD H H') {l : Addr} (h : H' l = Option.none) : H l = Option.none:=by
  cases q : H l with
  | none=>rfl
  | some o=>
    rw [e l o q] at h
    cases h
theorem XD.seq {K : PySem.W.Frag} {H H' : Hp} {a : Addr} {xs : List V} (e : XD H H') (h : SqL K H a xs) : SqL K H' a xs:=by
  rcases h with (h | ⟨o, h⟩) | h
  . exact .inl (.inl (e _ _ h))
  . exact .inl (.inr ⟨o, e _ _ h⟩)
  . exact .inr h
end L2
namespace L2
open PySem PySem.Spec PyProof.Rows
section
variable {κ : Type} [DecidableEq κ]
noncomputable def KK (kvs : List (κ × V)) (k : κ) : Option V:=(kvs.find? fun kv=>decide (kv.1 = k)).map (·.2)
noncomputable def J4 (kvs : List (κ × V)) (k : κ) (v : V) : List (κ × V):=
  if (kvs.any fun kv=>decide (kv.1 = k)) = true then kvs.map (fun kv=>if kv.1 = k then (kv.1, v) else kv) else kvs ++ [(k, v)]
noncomputable def Ip (kvs : List (κ × V)) (k : κ) : List (κ × V):=kvs.filter fun kv=>decide (kv.1 ≠ k)
theorem Jb {p : κ × V} {r : List (κ × V)} {k : κ} (e : p.1 = k) : KK (p :: r) k = some p.2:=by simp [KK, List.find?_cons, e]
theorem Jr {p : κ × V} {r : List (κ × V)} {k : κ} (e : ¬ p.1 = k) : KK (p :: r) k = KK r k:=by simp [KK, List.find?_cons, e]
theorem GV (k : κ) : ∀ kvs : List (κ × V), (kvs.any fun kv=>decide (kv.1 = k)) = (KK kvs k).isSome
  | []=>rfl
  | p :: r=>by
    rw [List.any_cons]
    by_cases e : p.1 = k
    . simp only [Jb e, decide_eq_true e, Bool.true_or, Option.isSome_some]
    . rw [Jr e, decide_eq_false e, Bool.false_or]; exact GV k r
theorem Vz (kvs : List (κ × V)) (k : κ) (v : V) : (J4 kvs k v).length <= kvs.length + 1:=by
  unfold J4
  split
  . rw [List.length_map]; (first | lia | omega)
  . rw [List.length_append, List.length_cons, List.length_nil]; (first | lia | omega)
theorem Fv.isSome_eq {o : Option V} {u : Option Value} (r : Fv o u) : o.isSome = u.isSome:=by
  cases o with
  | none=>cases u with
    | none=>rfl
    | some _=>exact (show False from r).elim
  | some _=>cases u with
    | none=>exact (show False from r).elim
    | some _=>rfl
theorem Fv.getD {o : Option V} {u : Option Value} {d : V} {d' : Value} (r : Fv o u) (rd : Yw d d') : Yw (o.getD d) (u.getD d'):=by
  cases o with
  | none=>cases u with
    | none=>exact rd
    | some _=>exact (show False from r).elim
  | some _=>cases u with
    | none=>exact (show False from r).elim
    | some _=>exact r
theorem KV.val {kvs : List (κ × V)} {vs : List (κ × Value)} (r : KV kvs vs) (k : κ) : Fv (KK kvs k) (valueAt vs k):=by
  unfold KV at r
  induction r with
  | nil=>exact True.intro
  | @cons p q ps qs h t ih=>
    obtain ⟨h1, h2⟩:=h
    by_cases e : p.1 = k
    . have e' : q.1 = k := h1.symm.trans e
      have b : valueAt (q :: qs) k = some q.2:=by simp [valueAt, List.find?_cons, e']
      rw [Jb e, b]; exact h2
    . have e' : ¬ q.1 = k := fun z => e (h1.trans z)
      have b : valueAt (q :: qs) k = valueAt qs k:=by simp [valueAt, List.find?_cons, e']
      rw [Jr e, b]; exact ih
theorem KV.any {kvs : List (κ × V)} {vs : List (κ × Value)} (r : KV kvs vs) (k : κ) : (kvs.any fun kv=>decide (kv.1 = k)) = vs.any fun kv=>decide (kv.1 = k):=by
  unfold KV at r
  induction r with
  | nil=>rfl
  | cons h t ih=>rw [List.any_cons, List.any_cons, ih, h.1]
theorem KV.repl {kvs : List (κ × V)} {vs : List (κ × Value)} (r : KV kvs vs) (k : κ) {y : V} {u : Value} (ry : Yw y u) :
    KV (kvs.map fun kv=>if kv.1 = k then (kv.1, y) else kv) (vs.map fun kv=>if kv.1 = k then (kv.1, u) else kv):=by
  unfold KV at r ⊢
  induction r with
  | nil=>exact .nil
  | @cons p q ps qs h t ih=>
    rw [List.map_cons, List.map_cons]
    refine .cons ?_ ih
    obtain ⟨h1, h2⟩:=h
    by_cases e : p.1 = k
    . rw [if_pos e, if_pos (h1.symm.trans e)]; exact ⟨h1, ry⟩
    . rw [if_neg e, if_neg (fun z=>e (h1.trans z))]; exact ⟨h1, h2⟩
theorem KV.put {kvs : List (κ × V)} {vs : List (κ × Value)} (r : KV kvs vs) (k : κ) {y : V} {u : Value} (ry : Yw y u) : KV (J4 kvs k y) (stored vs k u):=by
  unfold J4 stored
  rw [r.any k]
  by_cases e : (vs.any fun kv=>decide (kv.1 = k)) = true
  . rw [if_pos e, if_pos e]; exact r.repl k ry
  . rw [if_neg e, if_neg e]; exact Paired.snoc r ⟨rfl, ry⟩
theorem KV.drop {kvs : List (κ × V)} {vs : List (κ × Value)} (r : KV kvs vs) (k : κ) : KV (Ip kvs k) (without vs k):=by
  unfold KV at r ⊢
  unfold Ip without
  induction r with
  | nil=>exact .nil
  | @cons p q ps qs h t ih=>
    obtain ⟨h1, h2⟩:=h
    rw [List.filter_cons, List.filter_cons]
    by_cases e : p.1 = k
    . have a : ¬ decide (p.1 ≠ k) = true := by simp [e]
      have b : ¬ decide (q.1 ≠ k) = true:=by simp [h1.symm.trans e]
      rw [if_neg a, if_neg b]; exact ih
    . have e' : ¬ q.1 = k := fun z => e (h1.trans z)
      have a : decide (p.1 ≠ k) = true:=by simp [e]
      have b : decide (q.1 ≠ k) = true:=by simp [e']
      rw [if_pos a, if_pos b]; exact .cons ⟨h1, h2⟩ ih
theorem KV.keys {kvs : List (κ × V)} {vs : List (κ × Value)} (r : KV kvs vs) : kvs.map (·.1) = vs.map (·.1):=by
  unfold KV at r
  induction r with
  | nil=>rfl
  | cons h t ih=>rw [List.map_cons, List.map_cons, ih, h.1]
theorem KV.length {kvs : List (κ × V)} {vs : List (κ × Value)} (r : KV kvs vs) : kvs.length = vs.length:=Paired.length r
end
theorem BK {P : Program} {w : World} {k : Key} {u : Value} (r : Yw (kV k) u) : (Zn P w).is k u = true:=by
  cases k with
  | inl i=>obtain ⟨t, e⟩:=(show ∃ t, u = Value.int i t from r); subst e; exact Gk P w i t
  | inr x=>obtain ⟨t, e⟩:=(show ∃ t, u = Value.str x t from r); subst e; exact Gd P w x t
theorem Kc {P : Program} {w : World} : ∀ {ks : List Key} {us : List Value}, Yj (ks.map kV) us -> ItemsAre (Zn P w) ks us
  | [], _, r=>by rw [List.map_nil] at r; cases r; exact .nil
  | k :: ks, _, r=>by
    rw [List.map_cons] at r
    cases r with
    | cons h t=>exact .cons (BK h) (Kc t)
noncomputable abbrev KT (H : Hp) : List (List Key × V) -> List (List Key × Addr × Value) -> Prop:=Paired fun p q=>p.1 = q.1 /\ H q.2.1 = some (.tup (p.1.map kV)) /\ Yw p.2 q.2.2
theorem KT.val {H : Hp} {kvs : List (List Key × V)} {xs : List (List Key × Addr × Value)} (r : KT H kvs xs) (k : List Key) : Fv (KK kvs k) ((atKey xs k).map (·.2)):=by
  induction r with
  | nil=>exact True.intro
  | @cons p q ps qs h t ih=>
    obtain ⟨h1, _, h2⟩:=h
    by_cases e : p.1 = k
    . have e' : q.1 = k := h1.symm.trans e
      have b : atKey (q :: qs) k = some q.2:=by simp [atKey, List.find?_cons, e']
      rw [Jb e, b]; exact h2
    . have e' : ¬ q.1 = k := fun z => e (h1.trans z)
      have b : atKey (q :: qs) k = atKey qs k:=by simp [atKey, List.find?_cons, e']
      rw [Jr e, b]; exact ih
theorem KT.repl {H : Hp} {kvs : List (List Key × V)} {xs : List (List Key × Addr × Value)} (r : KT H kvs xs) (k : List Key) {y : V} {u : Value} (ry : Yw y u) :
    KT H (kvs.map fun kv=>if kv.1 = k then (kv.1, y) else kv) (xs.map (putAt k u)):=by
  induction r with
  | nil=>exact .nil
  | @cons p q ps qs h t ih=>
    rw [List.map_cons, List.map_cons]
    refine .cons ?_ ih
    obtain ⟨h1, h2, h3⟩:=h
    unfold putAt
    by_cases e : p.1 = k
    . rw [if_pos e, if_pos (h1.symm.trans e)]; exact ⟨h1, h2, ry⟩
    . rw [if_neg e, if_neg (fun z=>e (h1.trans z))]; exact ⟨h1, h2, h3⟩
theorem KT.put {H : Hp} {kvs : List (List Key × V)} {xs : List (List Key × Addr × Value)} (r : KT H kvs xs) (k : List Key) {b : Addr} {y : V} {u : Value} (hb : H b = some (.tup (k.map kV))) (ry : Yw y u) :
    KT H (J4 kvs k y) (storedH xs k b u):=by
  have e : (kvs.any fun kv=>decide (kv.1 = k)) = (atKey xs k).isSome:=by
    rw [GV, (r.val k).isSome_eq, Option.isSome_map]
  unfold J4 storedH
  rw [e]
  by_cases q : (atKey xs k).isSome = true
  . rw [if_pos q, if_pos q]; exact r.repl k ry
  . rw [if_neg q, if_neg q]; exact Paired.snoc r ⟨rfl, hb, ry⟩
theorem KT.keeps {H H' : Hp} {kvs : List (List Key × V)} {xs : List (List Key × Addr × Value)} (r : KT H kvs xs) (ht : ∀ b ys, H b = some (.tup ys) -> H' b = some (.tup ys)) : KT H' kvs xs:=
  Paired.mapP r fun _ _ z=>⟨z.1, ht _ _ z.2.1, z.2.2⟩
section
variable {P : Program} {w : World} {H : Hp} {h : Heap} {a : Addr}
theorem IV {u : HO} (ok : HOk P w H h) (e : Rd H a u) : Y5 P w H h a u:=e.ok ok
theorem Bs {kvs : List (Key × V)} (ok : HOk P w H h) (e : Rd H a (.dK kvs)) : kvs.length <= sizeLine /\ (a == sysModules) = false /\ ∃ vs, KV kvs vs /\ h.DictOf (Zn P w) a vs:=
  show Y5 P w H h a (.dK kvs) from IV ok e
theorem LB {kvs : List (Key × V)} (ok : HOk P w H h) (e : H a = some (.dK kvs)) : kvs.length <= sizeLine /\ (a == sysModules) = false /\ ∃ vs, KV kvs vs /\ h.DictOf (Zn P w) a vs:=Bs ok (.inl e)
theorem Gy {ks : List Key} (ok : HOk P w H h) (e : H a = some (.tup (ks.map kV))) : (tupleKind (Zn P w)).is h ks a:=by
  obtain ⟨_, its, r, o, h1, h2, n, h3⟩:=(show Y5 P w H h a (.tup (ks.map kV)) from ok a _ e)
  exact ⟨o, its.toArray, n, h1, h2, h3, by simpa using Kc r⟩
theorem Bi {kvs : List (List Key × V)} (ok : HOk P w H h) (e : Rd H a (.dT kvs)) : kvs.length <= sizeLine /\ (a == sysModules) = false /\
    ∃ xs, KT H kvs xs /\ h.DictOfH (tupleKind (Zn P w)) a xs:=by
  obtain ⟨z, y, xs, r, o, es, ep, h1, h2, h3, h4, h5⟩:=(show Y5 P w H h a (.dT kvs) from IV ok e)
  refine ⟨z, y, xs, r, o, es, ep, h1, h2, h3, h4, fun x hx=>?_, h5⟩
  have all : ∀ {l : List (List Key × V)} {m : List (List Key × Addr × Value)}, KT H l m -> ∀ x ∈ m, (tupleKind (Zn P w)).is h x.1 x.2.1:=by
    intro l m q
    induction q with
    | nil=>intro x hx; exact nomatch hx
    | @cons p q ps qs hq t ih=>
      intro x hx
      rcases List.mem_cons.mp hx with e | hx
      . subst e
        exact Gy ok (by rw [← hq.1]; exact hq.2.1)
      . exact ih x hx
  exact all r x hx
theorem Lr {kvs : List (List Key × V)} (ok : HOk P w H h) (e : H a = some (.dT kvs)) : kvs.length <= sizeLine /\ (a == sysModules) = false /\
    ∃ xs, KT H kvs xs /\ h.DictOfH (tupleKind (Zn P w)) a xs:=Bi ok (.inl e)
end
noncomputable def B2 (H : Hp) (a : Addr) (y : V) (r : Option V) : Prop:=
  (∃ kvs k, Rd H a (.dK kvs) /\ y = kV k /\ r = KK kvs k) ∨ ∃ kvs k b, Rd H a (.dT kvs) /\ y = .ref b /\ H b = some (.tup (k.map kV)) /\ r = KK kvs k
noncomputable def HU (H : Hp) (a : Addr) (y v : V) (H' : Hp) : Prop:=
  (∃ kvs k, H a = some (.dK kvs) /\ y = kV k /\ kvs.length < sizeLine /\ H' = upd H a (.dK (J4 kvs k v))) ∨
  ∃ kvs k b, H a = some (.dT kvs) /\ y = .ref b /\ H b = some (.tup (k.map kV)) /\ kvs.length < sizeLine /\ H' = upd H a (.dT (J4 kvs k v))
theorem B2.k {H : Hp} {a : Addr} {kvs : List (Key × V)} {k : Key} (e : H a = some (.dK kvs)) : B2 H a (kV k) (KK kvs k):=.inl ⟨kvs, k, .inl e, rfl, rfl⟩
theorem B2.t {H : Hp} {a b : Addr} {kvs : List (List Key × V)} {k : List Key} (e : H a = some (.dT kvs)) (eb : H b = some (.tup (k.map kV))) : B2 H a (.ref b) (KK kvs k):=.inr ⟨kvs, k, b, .inl e, rfl, eb, rfl⟩
theorem HU.k {H : Hp} {a : Addr} {kvs : List (Key × V)} {k : Key} {v : V} (e : H a = some (.dK kvs)) (hl : kvs.length < sizeLine) : HU H a (kV k) v (upd H a (.dK (J4 kvs k v))):=.inl ⟨kvs, k, e, rfl, hl, rfl⟩
theorem HU.t {H : Hp} {a b : Addr} {kvs : List (List Key × V)} {k : List Key} {v : V} (e : H a = some (.dT kvs)) (eb : H b = some (.tup (k.map kV))) (hl : kvs.length < sizeLine) :
    HU H a (.ref b) v (upd H a (.dT (J4 kvs k v))):=.inr ⟨kvs, k, b, e, rfl, eb, hl, rfl⟩
section
variable {X : Cx} {pins : List (Addr × Obj)} {σ : St} {H : Hp} {s : Shared} {a : Addr} {y v : V} {u r : Value} {o : Option V} {A : Around} {E : Value -> Shared -> Prop}
theorem Inv.big (I : Inv X pins σ H s) : sysModules < s.heap.objs.size:=by
  have h : mainGlobals < s.heap.objs.size:=(I.mod.glob.keeps I.bk).lt
  exact Nat.lt_trans (by decide) h
theorem CG {Q : Value -> Shared -> Prop} (hu : A.units + 1 < cLine) (I : Inv X pins σ H s) (g : B2 H a y (some v)) (ry : Yw y u) (h : ∀ w' s', Inv X pins σ H s' -> Yw v w' -> Q w' s') :
    wpAny (model X.prog X.w) A (getItem (.ref a) u) Q E s:=by
  rcases g with ⟨kvs, k, e, ey, l⟩ | ⟨kvs, k, b, e, ey, eb, l⟩
  . subst ey
    obtain ⟨z, hd, vs, rel, dd⟩:=Bs I.hok e
    obtain ⟨w', hw, rw'⟩:=Fv.some_of (v:=v) (o:=valueAt vs k) (by rw [l]; exact rel.val k)
    exact wpAny_getItem_of (BK ry) dd.mapOf hw (h w' _ (I.tok _) rw')
  . subst ey
    cases (show u = Value.ref b from ry)
    obtain ⟨z, hd, xs, rel, dd⟩:=Bi I.hok e
    obtain ⟨w', hw, rw'⟩:=Fv.some_of (v:=v) (o:=(atKey xs k).map (·.2)) (by rw [l]; exact rel.val k)
    obtain ⟨p, hp, hp2⟩:=Option.map_eq_some_iff.mp hw
    refine wpAny_getItem_heap (tupleKind_room_in1 hu) (Gy I.hok eb) dd hp ?_
    rw [hp2]
    exact h w' _ (I.tok _) rw'
theorem Es {Q : Value -> Shared -> Prop} (hu : A.units + 1 < cLine) (I : Inv X pins σ H s) (g : B2 H a y o) (ry : Yw y u) (h : ∀ s', Inv X pins σ H s' -> Q (.bool (!o.isSome)) s') :
    wpAny (model X.prog X.w) A (compareOp .NotIn u (.ref a)) Q E s:=by
  rcases g with ⟨kvs, k, e, ey, l⟩ | ⟨kvs, k, b, e, ey, eb, l⟩
  . subst ey
    obtain ⟨z, hd, vs, rel, dd⟩:=Bs I.hok e
    refine wpAny_notIn_of (BK ry) hd dd.mapOf ?_
    rw [← (rel.val k).isSome_eq, ← l]
    exact h _ (I.tok _)
  . subst ey
    cases (show u = Value.ref b from ry)
    obtain ⟨z, hd, xs, rel, dd⟩:=Bi I.hok e
    refine wpAny_notIn_heap (tupleKind_room_in1 hu) (Gy I.hok eb) hd dd ?_
    have q:=(rel.val k).isSome_eq
    rw [Option.isSome_map] at q
    rw [← q, ← l]
    exact h _ (I.tok _)
theorem CL {h' : Heap} {t' : Nat} {ob : HO} (I : Inv X pins σ H s) (mu : Mut (H a)) (hs : Heap.SameBut a s.heap h') (he : ∃ q, h'.get? a = some q) (new : Y5 X.prog X.w (upd H a ob) h' a ob) :
    Inv X pins σ (upd H a ob) { s with heap:=h', toks:=t' }:=
  I.write (x:=a) (e:=a) mu (.inl rfl) (fun b q hb z=>(hs.2 b hb).trans z) he new
theorem IE {P : Program} {w : World} {H' : Hp} {h' : Heap} {kvs : List (Key × V)} {vs : List (Key × Value)} (z : kvs.length <= sizeLine) (hd : (a == sysModules) = false) (rel : KV kvs vs) (dd : h'.DictOf (Zn P w) a vs) :
    Y5 P w H' h' a (.dK kvs):=⟨z, hd, vs, rel, dd⟩
theorem Dw {H' : Hp} {Q : Unit -> Shared -> Prop} (hu : A.units + 1 < cLine) (I : Inv X pins σ H s) (g : HU H a y v H') (ry : Yw y u) (rv : Yw v r) (h : ∀ s', Inv X pins σ H' s' -> Q () s') :
    wpAny (model X.prog X.w) A (setItem (.ref a) u r) Q E s:=by
  rcases g with ⟨kvs, k, e, ey, l, eH⟩ | ⟨kvs, k, b, e, ey, eb, l, eH⟩
  . subst ey eH
    obtain ⟨z, hd, vs, rel, dd⟩:=LB I.hok e
    have hz : vs.length <= sizeLine:=by rw [← rel.length]; exact z
    have hl : (J4 kvs k v).length <= sizeLine:=by have:=Vz kvs k v; (first | lia | omega)
    refine wpAny_setItem_pairs (hsz:=hz) (BK ry) dd fun h' dd' hs=>h _ ?_
    have he : ∃ q, h'.get? a = some q:=let ⟨q, _, _, hq, _⟩:=dd'; ⟨q, hq⟩
    exact CL I (by rw [e]; exact True.intro) hs he (IE hl hd (rel.put k rv) dd')
  . subst ey eH
    cases (show u = Value.ref b from ry)
    obtain ⟨z, hd, xs, rel, dd⟩:=Lr I.hok e
    have hz : xs.length <= sizeLine:=by rw [← Paired.length rel]; exact z
    have hl : (J4 kvs k v).length <= sizeLine:=by have:=Vz kvs k v; (first | lia | omega)
    refine wpAny_setItem_heap (hsz:=hz) (tupleKind_room_in1 hu) (Gy I.hok eb) dd fun h' dd' hs=>h _ ?_
    obtain ⟨q, es, ep, hq, h2, h3, h4, _, h5⟩:=dd'
    refine CL I (by rw [e]; exact True.intro) hs ⟨q, hq⟩ ⟨hl, hd, _, (rel.put k eb rv).keeps fun c ys ec=>?_, q, es, ep, hq, h2, h3, h4, h5⟩
    rw [XQ (LG ec e (fun z=>nomatch z))]
    exact ec
end
section
variable {X : Cx} {pins : List (Addr × Obj)} {σ : St} {H : Hp} {s : Shared} {a : Addr} {kvs : List (Key × V)} {k : Key} {u : Value} {A : Around} {E : Value -> Shared -> Prop}
end
noncomputable def LT (i : Expr) : Prop:=∀ ov iv, subscripted i false ov iv = operate [ov, iv] (getItem ov iv)
theorem Ex {prog : Program} {w : World} {A : Around} {E : Value -> Shared -> Prop} {s : Shared} {env : Env} {value slice : Expr} {pos : Pos} {T id : String} {Q : Value -> Shared -> Prop}
    (hl : typeLookup (.type T) "__getitem__" = pure (some (.builtin id))) (hs : LT slice)
    (h : wpAny (model prog w) A (eval value env) (fun o s₁=>wpAny (model prog w) A (eval slice env) (fun i s₂=>s₂.TypeIs o T /\ wpAny (model prog w) A (getItem o i) Q E s₂) E s₁) E s) :
    wpAny (model prog w) A (eval (.Subscript value slice pos) env) Q E s:=by
  refine Subscript_ (wpAny_mono h (fun o s₁ h₁=>wpAny_mono h₁ (fun i s₂ h₂=>?_) fun _ _ x=>x) fun _ _ x=>x)
  obtain ⟨hT, h₂⟩:=h₂
  unfold subscriptTail
  refine wpAny_bind ?_
  rw [getitemInPython_of_ne hT.not_modules]
  refine wpAny_bind (wpAny_specialOf hT hl ?_)
  have fin : wpAny (model prog w) A (subscripted slice false o i) (fun r s₃=>wpAny (model prog w) A (letTemporaryGo value o r >>= fun _=>pure r) Q E s₃) E s₂:=by
    rw [hs o i]
    exact wpAny_operating (wpAny_mono h₂ (fun r s₃ h₃=>wpAny_bind (wpAny_letTemporaryGo (wpAny_pure h₃))) fun _ _ x=>x)
  first
    | exact wpAny_pure (wpAny_bind fin)
    | exact wpAny_bind (wpAny_pure (wpAny_bind fin))
    | exact wpAny_bind fin
theorem Gh {X : Cx} {pins : List (Addr × Obj)} {σ : St} {H : Hp} {s : Shared} {a : Addr} {y : V} {o : Option V} (I : Inv X pins σ H s) (g : B2 H a y o) : s.TypeIs (.ref a) "dict":=by
  rcases g with ⟨kvs, k, e, _, _⟩ | ⟨kvs, k, b, e, _, _, _⟩
  . obtain ⟨_, _, vs, _, dd⟩ := Bs I.hok e
    exact dd.typeIs
  . obtain ⟨_, _, xs, _, dd⟩ := Bi I.hok e
    exact dd.typeIs
noncomputable def IH (td ty : TE) : TE:=fun σ H Q=>td σ H fun x H1=>ty σ H1 fun y H2=>∃ a v, x = .ref a /\ B2 H2 a y (some v) /\ Q v H2
noncomputable def DY (ty td : TE) : TE:=fun σ H Q=>ty σ H fun y H1=>td σ H1 fun x H2=>∃ a o, x = .ref a /\ B2 H2 a y o /\ Q (.bl (!o.isSome)) H2
noncomputable def E8 (td ty tv : TE) : TS:=fun D σ H=>tv σ H fun v H1=>td σ H1 fun x H2=>ty σ H2 fun y H3=>∃ a H4, x = .ref a /\ HU H3 a y v H4 /\ D.nx σ H4
section
variable {X : Cx} {o i e value : Expr} {pos pos' tpos : Pos} {td ty tv : TE}
theorem Gf (hu : X.A.units + 1 < cLine) (ho : PE X o td) (hi : PE X i ty) (hs : LT i) : PE X (.Subscript o i pos) (IH td ty):=by
  intro pins s σ H Q I h
  refine Ex PySem.F.slot_dict_getitem.lookup hs (thn (ho pins s σ H _ I h) fun u s1 ⟨x, H1, I1, rx, q1⟩=>thn (hi pins s1 σ H1 _ I1 q1) fun iv s2 r9=>?_)
  obtain ⟨y, H2, I2, ry, a, v, ex, g, q2⟩:=r9
  subst ex
  obtain rfl : u = Value.ref a:=rx
  exact ⟨Gh I2 g, CG hu I2 g ry fun w' s3 I3 rw'=>⟨v, H2, I3, rw', q2⟩⟩
theorem Dq (hu : X.A.units + 1 < cLine) (hi : PE X i ty) (ho : PE X o td) : PC X .NotIn i o (DY ty td):=by
  intro pins s σ H Q I h
  refine thn (hi pins s σ H _ I h) fun iv s1 ⟨y, H1, I1, ry, q1⟩=>thn (ho pins s1 σ H1 _ I1 q1) fun u s2 r9=>?_
  obtain ⟨x, H2, I2, rx, a, ov, ex, g, q2⟩:=r9
  subst ex
  obtain rfl : u = Value.ref a:=rx
  exact Es hu I2 g ry fun s3 I3=>⟨.bl (!ov.isSome), H2, I3, rfl, q2⟩
theorem CM (hu : X.A.units + 1 < cLine) (ho : PE X o td) (hi : PE X i ty) (hv : PE X value tv) (hs : swapsWith value (some (.Subscript o i pos')) pos.line X.env = pure false) :
    PS X (.Assign [.Subscript o i pos'] value pos) (E8 td ty tv):=by
  intro pins s σ H D I h
  refine wpAny_Assign_Subscript (thn (hv pins s σ H _ I h) fun r s1 ⟨v, H1, I1, rv, q1⟩=>thn (ho pins s1 σ H1 _ I1 q1) fun u s2 ⟨x, H2, I2, rx, q2⟩=>thn (hi pins s2 σ H2 _ I2 q2) fun iv s3 r9=>?_) hs
  obtain ⟨y, H3, I3, ry, a, H4, ex, g, q3⟩:=r9
  subst ex
  obtain rfl : u = Value.ref a:=rx
  exact Dw hu I3 g ry rv fun s4 I4=>⟨σ, H4, I4, q3⟩
end
theorem Bf {P : Program} {w : World} {H : Hp} (h : Heap) (hb : sysModules < h.objs.size) : Y5 P w H (h.push { cls:=.type "dict", data:=.dict #[] }) h.objs.size (.dK []):=
  ⟨Nat.zero_le _, beq_eq_false_iff_ne.mpr (Ne.symm (Nat.ne_of_lt hb)), [], .nil, Heap.DictOf.new h⟩
theorem BF {P : Program} {w : World} {H : Hp} (h : Heap) (hb : sysModules < h.objs.size) : Y5 P w H (h.push { cls:=.type "dict", data:=.dict #[] }) h.objs.size (.dT []):=
  ⟨Nat.zero_le _, beq_eq_false_iff_ne.mpr (Ne.symm (Nat.ne_of_lt hb)), [], .nil, _, #[], 0, Heap.get?_push_size _ rfl, ⟨rfl, rfl, rfl⟩, rfl, rfl, List.nodup_nil⟩
noncomputable def Ei : TE:=fun _ H Q=>∀ p, H p = none -> Q (.ref p) (upd H p (.dK []))
noncomputable def Eb : TE:=fun _ H Q=>∀ p, H p = none -> Q (.ref p) (upd H p (.dT []))
section
variable {X : Cx} {pos : Pos}
theorem BT : PE X (.Dict [] [] pos) Ei:=fun pins s σ H Q I h=>
  wpAny_Dict_empty ⟨.ref s.heap.objs.size, _, I.laid (a:=s.heap.objs.size) (o:=.dK []) (t':=s.toks) (fun _ _ q=>Heap.get?_push_of_some _ q) (Nat.le_refl _) (Bf s.heap I.big), rfl, h _ (I.hok.fresh (Nat.le_refl _))⟩
theorem B9 : PE X (.Dict [] [] pos) Eb:=fun pins s σ H Q I h=>
  wpAny_Dict_empty ⟨.ref s.heap.objs.size, _, I.laid (a:=s.heap.objs.size) (o:=.dT []) (t':=s.toks) (fun _ _ q=>Heap.get?_push_of_some _ q) (Nat.le_refl _) (BF s.heap I.big), rfl, h _ (I.hok.fresh (Nat.le_refl _))⟩
end
section
variable {X : Cx} {pins : List (Addr × Obj)} {σ : St} {H : Hp} {s : Shared} {a : Addr} {y d : V} {u r : Value} {o : Option V} {A : Around} {E : Value -> Shared -> Prop}
end
section
variable {X : Cx} {o e f : Expr} {apos cpos : Pos} {td ty tx : TE}
end
section
variable {X : Cx} {pins : List (Addr × Obj)} {σ : St} {H : Hp} {s : Shared} {a : Addr} {kvs : List (Key × V)} {A : Around} {E : Value -> Shared -> Prop}
end
section
variable {X : Cx} {pins : List (Addr × Obj)} {σ : St} {H : Hp} {s : Shared} {a : Addr} {y : V} {u : Value} {A : Around} {E : Value -> Shared -> Prop}
end
end L2
namespace L2
open PySem PySem.Spec PyProof.Rows
section
variable {X : Cx}
end
section
variable {κ : Type} [DecidableEq κ]
end
end L2
namespace L2
open PySem PySem.Spec PyProof.Rows
theorem CV {env : Env} : ∀ (names : List (Str × NameKind)), (∀ x ∈ names, x.2 = NameKind.free -> ∃ c, env.cells.lookup x.1 = some c) ->
    ∀ cs : List (Str × Addr), (∀ x c, cs.lookup x = some c -> env.cells.lookup x = some c) ->
    ∃ cl : List (Str × Addr), (forIn names cs (fun (x : Str × NameKind) (r : List (Str × Addr))=>(if (x.2 == NameKind.free) = true then do let a ← cellOf env x.1; pure (ForInStep.yield ((x.1, a) :: r)) else pure (ForInStep.yield r) : Sem (ForInStep (List (Str × Addr)))))) = (pure cl : Sem (List (Str × Addr))) /\
      (∀ x c, cl.lookup x = some c -> env.cells.lookup x = some c) /\ (∀ x, ((x, NameKind.free) ∈ names ∨ ∃ c, cs.lookup x = some c) -> ∃ c, cl.lookup x = some c)
  | [], _, cs, hs=>⟨cs, by rw [List.forIn_nil], hs, fun x h=>h.elim (fun z=>nomatch z) id⟩
  | (n, k) :: r, hf, cs, hs=>by
    have hr : ∀ x ∈ r, x.2 = NameKind.free -> ∃ c, env.cells.lookup x.1 = some c:=fun x hx=>hf x (List.mem_cons_of_mem _ hx)
    by_cases hk : k = NameKind.free
    . subst hk
      obtain ⟨a, ha⟩:=hf (n, NameKind.free) List.mem_cons_self rfl
      have hs' : ∀ x c, ((n, a) :: cs).lookup x = some c -> env.cells.lookup x = some c:=fun x c h=>by
        rw [List.lookup_cons] at h
        by_cases hx : x = n
        . subst hx
          simp only [beq_self_eq_true] at h
          rw [← h]; exact ha
        . have : (x == n) = false := beq_eq_false_iff_ne.mpr hx
          rw [this] at h
          exact hs x c h
      obtain ⟨cl, e, h1, h2⟩:=CV r hr ((n, a) :: cs) hs'
      refine ⟨cl, ?_, h1, fun x h=>h2 x ?_⟩
      . rw [List.forIn_cons]
        have e1 : cellOf env n = pure a:=by unfold cellOf; rw [show env.cells.lookup n = some a from ha]
        simp only [beq_self_eq_true, if_true, e1]
        exact e
      . rcases h with h | ⟨c, h⟩
        . rcases List.mem_cons.mp h with h | h
          . have : x = n := congrArg Prod.fst h
            subst this
            exact .inr ⟨a, by rw [List.lookup_cons]; simp⟩
          . exact .inl h
        . by_cases hx : x = n
          . subst hx; exact .inr ⟨a, by rw [List.lookup_cons]; simp⟩
          . exact .inr ⟨c, by rw [List.lookup_cons, beq_eq_false_iff_ne.mpr hx]; exact h⟩
    . obtain ⟨cl, e, h1, h2⟩ := CV r hr cs hs
      refine ⟨cl, ?_, h1, fun x h=>h2 x ?_⟩
      . rw [List.forIn_cons]
        have hb : (k == NameKind.free) = false:=by simpa using hk
        simp only [hb, Bool.false_eq_true, if_false]
        exact e
      . rcases h with h | h
        . rcases List.mem_cons.mp h with h | h
          . exact absurd (congrArg Prod.snd h).symm hk
          . exact .inl h
        . exact .inr h
theorem Cb {scope : Scope} {env : Env} (hf : ∀ x ∈ scope.names, x.2 = NameKind.free -> ∃ c, env.cells.lookup x.1 = some c) :
    ∃ cl : List (Str × Addr), closureFor scope env = pure cl /\ (∀ x c, cl.lookup x = some c -> env.cells.lookup x = some c) /\ (∀ x, (x, NameKind.free) ∈ scope.names -> ∃ c, cl.lookup x = some c):=by
  obtain ⟨cl, e, h1, h2⟩:=CV scope.names hf [] (fun x c h=>by simp at h)
  refine ⟨cl, ?_, h1, fun x h=>h2 x (.inl h)⟩
  unfold closureFor
  show ((forIn scope.names [] (fun (x : Str × NameKind) (r : List (Str × Addr))=>(if (x.2 == NameKind.free) = true then do let a ← cellOf env x.1; pure (ForInStep.yield ((x.1, a) :: r)) else pure (ForInStep.yield r) : Sem (ForInStep (List (Str × Addr)))))) >>= fun s=>pure s) = pure cl
  rw [e]
  rfl
theorem Q2 {env : Env} : ∀ {names : List (Str × NameKind)} {x : Str} {k : NameKind}, (∀ y ∈ names, y.2 ≠ NameKind.cell) ->
    (names.map fun (n, k)=>if (k == NameKind.free && env.scope.kind == .function && env.kindOf n == some .cell) then (n, NameKind.cell) else (n, k)).lookup x = some k -> (k = .cell ∨ k = .free) -> (x, NameKind.free) ∈ names
  | [], _, _, _, h, _=>by simp at h
  | (n, kk) :: r, x, k, hc, h, hk=>by
    have ih:=@Q2 env r x k (fun y hy=>hc y (List.mem_cons_of_mem _ hy))
    have hh:=hc (n, kk) List.mem_cons_self
    simp only [List.map_cons] at h
    by_cases hcond : (kk == NameKind.free && env.scope.kind == .function && env.kindOf n == some .cell) = true
    . rw [if_pos hcond, List.lookup_cons] at h
      have hfree : kk = NameKind.free:=by
        rw [Bool.and_eq_true, Bool.and_eq_true] at hcond
        simpa using hcond.1.1
      cases hx : x == n with
      | true=>
        have : x = n:=by simpa using hx
        subst this; subst hfree
        exact List.mem_cons_self
      | false=>rw [hx] at h; exact List.mem_cons_of_mem _ (ih h hk)
    . rw [if_neg hcond, List.lookup_cons] at h
      cases hx : x == n with
      | true=>
        rw [hx] at h
        have hkk : kk = k:=Option.some.inj h
        have : x = n:=by simpa using hx
        subst this; subst hkk
        rcases hk with z | z
        . exact absurd z hh
        . subst z; exact List.mem_cons_self
      | false=>rw [hx] at h; exact List.mem_cons_of_mem _ (ih h hk)
theorem JN {env : Env} : ∀ {names : List (Str × NameKind)} {x : Str}, names.lookup x = some .free ->
    let l:=(names.map fun (n, k)=>if (k == NameKind.free && env.scope.kind == .function && env.kindOf n == some .cell) then (n, NameKind.cell) else (n, k))
    l.lookup x = some .cell ∨ l.lookup x = some .free
  | [], _, h=>by simp at h
  | (n, kk) :: r, x, h=>by
    have ih:=@JN env r x
    simp only [List.map_cons]
    rw [List.lookup_cons] at h
    by_cases hcond : (kk == NameKind.free && env.scope.kind == .function && env.kindOf n == some .cell) = true
    . rw [if_pos hcond, List.lookup_cons]
      cases hx : x == n with
      | true=>exact .inl rfl
      | false=>rw [hx] at h; exact ih h
    . rw [if_neg hcond, List.lookup_cons]
      cases hx : x == n with
      | true=>rw [hx] at h; exact .inr h
      | false=>rw [hx] at h; exact ih h
noncomputable abbrev Cx.comp (X : Cx) (N : List Str) (scope : Scope) (cl : List (Str × Addr)) (C : Addr) (s : Shared) (H : Hp) (ex : List Addr) (E : Value -> Shared -> Prop) : Cx:=
  { X with N:=N, s₀:=s, H₀:=H, env:=compEnvC scope cl C X.env, outer:=X.stack, ex:=ex, fn:=fun _=>false, pn:=[], xe:=E }
noncomputable def PTs (X : Cx) (ifs : List Expr) (t : TT) : Prop:=
  ∀ (pins : List (Addr × Obj)) (s : Shared) (σ : St) (H : Hp) (Q : Bool -> Hp -> Prop), Inv X pins σ H s -> t σ H Q ->
    wpAny (model X.prog X.w) X.A (forIn ifs true fun c r=>if r = true then do let ok ← isTrue c X.env (eval c X.env); pure (ForInStep.yield ok) else pure (ForInStep.yield r)) (TP X pins σ Q) X.xe s
noncomputable def UO : TT:=fun _ H Q=>Q true H
theorem Iz {σ : St} {H : Hp} {A B : Hp -> Prop} (h : A H) : UO σ H fun c H5=>if c = true then A H5 else B H5:=by
  show if true = true then A H else B H
  rw [if_pos rfl]
  exact h
theorem Z0 {X : Cx} : PTs X [] UO:=fun _ _ _ H _ I h=>wpAny_tests_nil ⟨H, I, h⟩
theorem Ga {X : Cx} {c : Expr} {t : TT} (h : PT X c t) : PTs X [c] t:=fun pins s σ H Q I hw=>wpAny_tests_one (h pins s σ H Q I hw)
noncomputable def Fe (n : Nat) (g : TG) : Prop:=∀ x σ H Q, g x σ H Q -> g x σ H fun σ2 H2=>Q σ2 H2 /\ σ2.length = σ.length /\ ∀ i, n <= i -> σ2[i]? = σ[i]?
theorem Zx {n i : Nat} (h : i < n) : Fe n (ZD i):=fun x σ H Q q=>⟨q, by simp, fun j hj=>by rw [List.getElem?_set_ne (by first | lia | omega)]⟩
noncomputable def ZB (n : Nat) (caps : List (Nat × Str)) (σ : St) : St:=List.replicate n none ++ caps.map fun p=>(σ[p.1]?).join
noncomputable def IP (n : Nat) (caps : List (Nat × Str)) (g : TG) (tt : TT) (te : TE) (σ : St) (Q : VK) (J : It) (H1 : Hp) : Prop:=
  ∃ W : Nat -> Nat -> List V -> Hp -> Prop, (∃ m, W 0 m [] H1) /\ ∀ i m ys H2, W i m ys H2 -> ys.length <= sizeLine /\
    ((J.stop i H2 /\ ∀ p, H2 p = none -> Q (.ref p) (upd H2 p (.lst ys))) ∨
    (J.go i H2 /\ ∃ N : List V -> Hp -> Prop, (∀ ys' H', N ys' H' -> ∃ m', m' < m /\ W (i + 1) m' ys' H') /\ ∀ x H3, J.yld i H2 x H3 -> g x (ZB n caps σ) H3 fun σ4 H4=>tt σ4 H4 fun c H5=>
      if c = true then te σ4 H5 fun v H6=>N (ys ++ [v]) H6 else N ys H5))
noncomputable def Cr (n : Nat) (caps : List (Nat × Str)) (wi : TI) (g : TG) (tt : TT) (te : TE) : TE:=fun σ H Q=>wi σ H fun J H1=>IP n caps g tt te σ Q J H1
noncomputable def VN (sc scope : Scope) (N0 tns : List Str) (caps : List (Nat × Str)) : Bool:=
  scope.kind == .function && scope.names.all (fun y=>!(y.2 == .cell)) && scope.names.all (fun y=>!(y.2 == .local) || scope.names.lookup y.1 == some .local) &&
  scope.names.all (fun y=>!(y.2 == .free) || sc.names.lookup y.1 == some .cell) && caps.all (fun p=>N0[p.1]? == some p.2 && sc.names.lookup p.2 == some .cell && scope.names.lookup p.2 == some .free)
section
variable {prog : Program} {w : World} {A : Around} {R : Result -> Shared -> Prop} {s : Shared}
theorem U6 {elt target iter : Expr} {ifs : List Expr} {scope : Scope} {pos : Pos} {it acc : Value} {env : Env} (I : Nat -> Shared -> Prop)
    (turn : ∀ n s, I n s -> wpAny (model prog w) A (pyNext it) (fun r s₁=>match r with
      | none=>R (.ok .next) s₁
      | some v=>wpAny (model prog w) A (letOwnedTupleGo target it v) (fun _ s₁=>wpAny (model prog w) A (assign target env v) (fun _ s₂=>
          wpAny (model prog w) A (forIn ifs true fun c r=>if r = true then do let ok ← isTrue c env (eval c env); pure (ForInStep.yield ok) else pure (ForInStep.yield r)) (fun ok s₃=>
            if ok = true then wpAny (model prog w) A (eval elt env) (fun x s₄=>
              wpAny (model prog w) A (call (.builtin "list.append") [acc, x]) (fun _ s₅=>∃ m, m < n /\ I m s₅) (notedBy (model prog w) A env fun e s'=>R (.error e) s') s₄) (notedBy (model prog w) A env fun e s'=>R (.error e) s') s₃
            else ∃ m, m < n /\ I m s₃) (notedBy (model prog w) A env fun e s'=>R (.error e) s') s₂) (notedBy (model prog w) A env fun e s'=>R (.error e) s') s₁)
            (notedBy (model prog w) A env fun e s'=>R (.error e) s') s₁) (notedBy (model prog w) A env fun e s'=>R (.error e) s') s)
    (n : Nat) (h : I n s) :
    codeAny (model prog w) A (.compLoop (.ListComp elt [⟨target, iter, ifs, 0⟩] scope pos) 0 it acc env) R s:=by
  refine codeAny_loop rfl I (fun n s hI=>?_) n h
  show wpAny _ A ((compTurn (.ListComp elt [⟨target, iter, ifs, 0⟩] scope pos) 0 it acc env).onRaise (fun x=>do noteFrame x env; theTreesLotGoes x)) _ _ s
  refine wpAny_noted ?_
  rw [compTurn_list]
  refine wpAny_bind (wpAny_standAt (wpAny_bind (wpAny_mono (turn n s hI) (fun r s₁ h₁=>?_) fun _ _ h'=>h')))
  cases r with
  | none=>exact wpAny_pure h₁
  | some v=>
    refine wpAny_bind (wpAny_mono h₁ (fun _ s₁' h₁'=>?_) fun _ _ h'=>h')
    refine wpAny_bind (wpAny_mono h₁' (fun _ s₂ h₂=>wpAny_bind (wpAny_mono h₂ (fun ok s₃ h₃=>?_) fun _ _ h'=>h')) fun _ _ h'=>h')
    cases ok with
    | false=>exact wpAny_pure ⟨rfl, h₃⟩
    | true=>
      exact wpAny_bind (wpAny_bind (wpAny_mono h₃ (fun x s₄ h₄=>wpAny_bind (wpAny_mono h₄ (fun _ s₅ h₅=>wpAny_pure (wpAny_pure ⟨rfl, h₅⟩)) fun _ _ h'=>h')) fun _ _ h'=>h'))
end
section
variable {X : Cx} {elt tg iter : Expr} {ifs : List Expr} {scope sc : Scope} {pos : Pos} {n : Nat} {tns : List Str} {caps : List (Nat × Str)} {wi : TI} {g : TG} {tt : TT} {te : TE}
structure CompEnd (X : Cx) (pins : List (Addr × Obj)) (σ : St) (H3 : Hp) (D C : Addr) (ys : List V) (s' : Shared) : Prop where
  inv : Inv X pins σ (upd H3 D (.lst ys)) s'
  fresh : H3 D = none
  fp : Cu X pins (upd H3 D (.lst ys)) C
  ns : ∃ m, s'.heap.Ns C m
theorem Ug {N0 : List Str} (hc : X.calm = true) (hsc : X.env.scope = sc) (hN0 : X.N = N0) (ok : VN sc scope N0 tns caps = true) (hn : tns.length = n) (hG : Fe n g)
    (hb : ∀ cl C s H ex E, PG (X.comp (tns ++ caps.map (·.2)) scope cl C s H ex E) tg g /\ PTs (X.comp (tns ++ caps.map (·.2)) scope cl C s H ex E) ifs tt /\ PE (X.comp (tns ++ caps.map (·.2)) scope cl C s H ex E) elt te)
    {pins : List (Addr × Obj)} {σ : St} {H : Hp} {s : Shared} {J : It} {fp : List Addr} {it : Addr} {tn : Nat -> Heap -> Prop} {cl : List (Str × Addr)} {Q : V -> Hp -> Prop} {RR : Value -> Addr -> Result -> Shared -> Prop}
    (I : Inv X pins σ H s) (T : Turn X.prog X.w X.K tg J fp it tn) (t0 : tn 0 s.heap) (hf : ∀ b ∈ fp, Cu X pins H b)
    (hsub : ∀ x c, cl.lookup x = some c -> X.env.cells.lookup x = some c) (hall : ∀ x, (x, NameKind.free) ∈ scope.names -> ∃ c, cl.lookup x = some c)
    (W : Nat -> Nat -> List V -> Hp -> Prop) {m0 : Nat} (w0 : W 0 m0 [] H)
    (turn : ∀ i m ys H2, W i m ys H2 -> ys.length <= sizeLine /\
      ((J.stop i H2 /\ ∀ p, H2 p = none -> Q (.ref p) (upd H2 p (.lst ys))) ∨
      (J.go i H2 /\ ∃ N : List V -> Hp -> Prop, (∀ ys' H', N ys' H' -> ∃ m', m' < m /\ W (i + 1) m' ys' H') /\ ∀ x H3, J.yld i H2 x H3 -> g x (ZB n caps σ) H3 fun σ4 H4=>tt σ4 H4 fun c H5=>
        if c = true then te σ4 H5 fun v H6=>N (ys ++ [v]) H6 else N ys H5)))
    (hRR : ∀ D C ys H3 s', CompEnd X pins σ H3 D C ys s' -> Q (.ref D) (upd H3 D (.lst ys)) -> RR (.ref D) C (.ok .next) s') {E : Value -> Shared -> Prop} :
    wpAny (model X.prog X.w) X.A (newList []) (fun acc s₃=>wpAny (model X.prog X.w) X.A (newFunctionEnv scope X.env.globals cl [] X.env.qual none .none (some X.env)) (fun cenv s₄=>
      codeAny (model X.prog X.w) X.A (.compStart (.ListComp elt [⟨tg, iter, ifs, 0⟩] scope pos) 0 (.ref it) acc { cenv with scope:=relabel scope X.env }) (RR acc cenv.locals) s₄) E s₃) E s:=by
  subst hsc
  subst hN0
  unfold VN at ok
  simp only [Bool.and_eq_true, List.all_eq_true] at ok
  obtain ⟨⟨⟨⟨ok1, ok2⟩, ok3⟩, ok4⟩, ok5⟩:=ok
  have hkind : scope.kind = .function:=by simpa using ok1
  have hcell : ∀ y ∈ scope.names, y.2 ≠ NameKind.cell:=fun y hy=>by simpa using ok2 y hy
  refine wpAny_newObj_type (wpAny_newFunctionEnv hcell (by intro y hy; simp at hy) (fun h₁ hns₁ hsb₁=>?_) hkind)
  dsimp only at hns₁ hsb₁ ⊢
  generalize hH2 : s.heap.push { cls:=.type "list", dict:=none, data:=.seq ([] : List Value).toArray } = H2 at hns₁ hsb₁ ⊢
  have hC : H2.objs.size = s.heap.objs.size + 1:=by rw [← hH2, Heap.size_push]
  have hDC : s.heap.objs.size ≠ H2.objs.size:=by rw [hC]; exact Nat.ne_of_lt (Nat.lt_succ_self _)
  have hCle : s.heap.objs.size <= H2.objs.size:=by rw [hC]; exact Nat.le_succ _
  have below : ∀ b, b < s.heap.objs.size -> b ≠ H2.objs.size /\ b ≠ s.heap.objs.size:=fun b hb=>⟨by rw [hC]; exact Nat.ne_of_lt (Nat.lt_succ_of_lt hb), Nat.ne_of_lt hb⟩
  have old : ∀ b o, s.heap.get? b = some o -> h₁.get? b = some o:=fun b o e=>hsb₁.extBut b o (below b (Heap.lt_size e)).1 (Heap.get?_push_of_some _ (hH2 ▸ Heap.get?_push_of_some _ e))
  have hacc : h₁.get? s.heap.objs.size = some { cls:=.type "list", data:=.seq ([] : List Value).toArray 0 }:=hsb₁.extBut _ _ hDC (Heap.get?_push_of_some _ (hH2 ▸ Heap.get?_push_size _ rfl))
  have hst₁ : tn 0 h₁:=T.keep _ _ _ t0 fun b _ o e=>old b o e
  -- addresses
  generalize hD : s.heap.objs.size = D at *
  generalize hCe : H2.objs.size = C at *
  have fpLt : ∀ b ∈ fp, b < D:=fun b hb=>by
    obtain ⟨o, e, _⟩:=T.obj _ _ t0 b hb
    rw [← hD]; exact Heap.lt_size e
  have cellLt : ∀ x c, cl.lookup x = some c -> c < D:=fun x c e=>by
    obtain ⟨v, z⟩:=I.cell x c (hsub x c e)
    rw [← hD]; exact z.lt
  have hDlt : D < C:=by first | lia | omega
  let X' : Cx:=X.comp (tns ++ caps.map (·.2)) scope cl C s H fp (notedBy (model X.prog X.w) X.A (compEnvC scope cl C X.env) fun e s'=>RR (.ref D) C (.error e) s')
  have okX : X'.Ok:=by
    refine ⟨I.ok.mod, hkind, I.ok.glob, I.ok.blt, by show s.heap.objs.size <= C; (first | lia | omega), fun x y c h1 h2=>I.ok.inj x y c (hsub x c h1) (hsub y c h2), fun x hx=>?_, fun x c hx=>(by cases hx), I.ok.hd, I.ok.frames, .inl rfl, fun b hb=>?_, I.bs, Nat.le_trans I.ok.bsz I.sz, fun b o e hb=>?_, fun b hb hz=>?_, I.stack, I.stkFree⟩
    . have hx' : (relabel scope X.env).names.lookup x = some .cell ∨ (relabel scope X.env).names.lookup x = some .free := hx
      rcases hx' with z | z
      . exact hall x (Q2 hcell z (.inl rfl))
      . exact hall x (Q2 hcell z (.inr rfl))
    . refine ⟨Nat.ne_of_lt (Nat.lt_trans (fpLt b hb) hDlt), fun x c e z => ?_⟩
      exact (hf b hb).2.2.2.2.1 x c (hsub x c e) z
    . rcases (hf b hb).2.2.2.1 with z | z
      . exact I.ok.noex b o e z
      . exact absurd (Nat.lt_of_lt_of_le (Heap.lt_size e) (Nat.le_trans I.ok.bsz z)) (Nat.lt_irrefl _)
    . rcases List.mem_cons.mp (I.stkSub b hz) with z | z
      . exact (hf b hb).2.1 z
      . exact (hf b hb).2.2.1 z
  have lenc : (ZB n caps σ).length = (tns ++ caps.map (·.2)).length:=by unfold ZB; simp [hn]
  have I1 : ∀ tk, Inv X' [] (ZB n caps σ) H { s with heap:=h₁, toks:=tk }:=fun tk=>by
    refine ⟨okX, rfl, I.bare, Un.kept old, ⟨_, hns₁, fun i x v e1 e2 e3=>?_⟩, fun x c e=>?_, I.hok.fresh (by rw [hD]; exact Nat.le_of_lt hDlt), fun x c e=>I.freeC x c (hsub x c e), fun p hp=>absurd (show p ∈ ([] : List (Addr × Obj)) from hp) (by simp), I.hok.kept old, lenc⟩
    . have hi : n <= i:=by
        by_cases h : n <= i
        . exact h
        . have e2' : (ZB n caps σ)[i]? = some (some v) := e2
          unfold ZB at e2'
          rw [List.getElem?_append_left (by simp; (first | lia | omega)), List.getElem?_replicate] at e2'
          split at e2' <;> cases e2'
      have e2' : (ZB n caps σ)[i]? = some (some v):=e2
      unfold ZB at e2'
      rw [List.getElem?_append_right (by simpa using hi), List.length_replicate, List.getElem?_map] at e2'
      have e1' : (tns ++ caps.map (·.2))[i]? = some x:=e1
      rw [List.getElem?_append_right (by rw [hn]; exact hi), hn, List.getElem?_map] at e1'
      cases hcp : caps[i - n]? with
      | none=>rw [hcp] at e2'; cases e2'
      | some p=>
        rw [hcp] at e2' e1'
        simp only [Option.map_some, Option.some.injEq] at e2' e1'
        have hp5:=ok5 p (List.mem_of_getElem? hcp)
        simp only [beq_iff_eq] at hp5
        obtain ⟨⟨p1, p2⟩, p3⟩:=hp5
        have hσ : σ[p.1]? = some (some v):=by
          cases hq : σ[p.1]? with
          | none=>rw [hq] at e2'; cases e2'
          | some o=>rw [hq] at e2'; simp at e2'; rw [e2']
        subst e1'
        obtain ⟨m, hm, hl⟩:=I.loc
        obtain ⟨u, r, l⟩:=hl p.1 p.2 v p1 hσ (.inr (.inl p2))
        refine ⟨u, r, .inr ?_⟩
        rcases l with ⟨k, _⟩ | ⟨k, c, e, z⟩
        . have k' : X.env.scope.names.lookup p.2 = some .local := k
          rw [p2] at k'; cases k'
        . obtain ⟨c', e'⟩ := hall p.2 (PySem.mem_of_lookup p3)
          have:=hsub _ _ e'
          rw [e] at this; cases this
          obtain ⟨o, ho, hd⟩:=z
          exact ⟨JN (env:=X.env) p3, c, e', ⟨o, old _ _ ho, hd⟩⟩
    . obtain ⟨v, o, ho, hd⟩ := I.cell x c (hsub x c e)
      exact ⟨v, o, old _ _ ho, hd⟩
  obtain ⟨hg, ht, he⟩:=hb cl C s H fp X'.xe
  have hg : PG X' tg g:=hg
  have ht : PTs X' ifs tt:=ht
  have he : PE X' elt te:=he
  have FD : ∀ (H' : Hp) (obj : Obj), H' D = none -> (∀ b ∈ fp, H' b = none) -> ∀ b ∈ fp, Cu X' [(D, obj)] H' b:=fun H' obj hD' hn' b hb=>by
    refine ⟨hn' b hb, Nat.ne_of_lt (Nat.lt_trans (fpLt b hb) hDlt), fun hz=>?_, .inl hb, fun x c e z=>(hf b hb).2.2.2.2.1 x c (hsub x c e) z, fun p hp z=>?_⟩
    . exact okX.exfs b hb hz
    . have hp' : p = (D, obj) := by simpa using (show p ∈ [] ++ [(D, obj)] from hp)
      subst hp'
      have:=fpLt b hb
      exact Nat.lt_irrefl b (by rw [← z] at this; exact absurd this (Nat.lt_irrefl _))
  have fsLt : ∀ b ∈ X'.fs, b < D:=fun b hb=>by
    obtain ⟨_, o, ho, _⟩:=I.stack.mem hb
    rw [← hD]; exact Heap.lt_size ho
  have loop : ∀ s₃ : Shared, (∃ tk, s₃ = { s with heap:=h₁, toks:=tk }) ->
      codeAny (model X.prog X.w) X.A (.compLoop (.ListComp elt [⟨tg, iter, ifs, 0⟩] scope pos) 0 (.ref it) (.ref D) (compEnvC scope cl C X.env)) (RR (.ref D) C) s₃:=by
    rintro s₃ ⟨tk, rfl⟩
    refine U6 (env:=compEnvC scope cl C X.env)
      (fun m s'=>∃ i H' ys its k, Inv X' [] (ZB n caps σ) H' s' /\ tn i s'.heap /\ (∀ b ∈ fp, H' b = none) /\ s'.heap.get? D = some { cls:=.type "list", data:=.seq (List.toArray its) k } /\ H' D = none /\ Yj ys its /\ W i m ys H') ?_ m0
      ⟨0, H, [], [], 0, I1 tk, hst₁, fun b hb=>(hf b hb).1, hacc, I.hok.fresh (by rw [hD]; exact Nat.le_refl _), .nil, w0⟩
    rintro m s3 ⟨i, H3, ys, its, k, I3, st3, fr3, hL, hDn, rv, w3⟩
    have hne : D ≠ C:=Nat.ne_of_lt hDlt
    have I3' : Inv X' [(D, { cls:=.type "list", data:=.seq (List.toArray its) k })] (ZB n caps σ) H3 s3:=I3.pins_of fun p hp=>by
      have hp' : p = (D, { cls:=.type "list", data:=.seq (List.toArray its) k }):=by simpa using hp
      subst hp'
      exact ⟨hL, hDn, hne, fun hz=>absurd (fsLt _ hz) (Nat.lt_irrefl _), fun v z=>by cases z⟩
    obtain ⟨hz, cs⟩:=turn i m ys H3 w3
    rcases cs with ⟨stop, qn⟩ | ⟨go, NN, hNN, step⟩
    . refine thn (T.done X' rfl rfl rfl hc i _ s3 _ H3 X'.xe I3' (FD H3 _ hDn fr3) st3 stop) fun r s4 r9 => ?_
      obtain ⟨hr, I4⟩:=r9
      subst hr
      have hL4:=(I4.pin (D, { cls:=.type "list", data:=.seq (List.toArray its) k }) (List.mem_append_right _ List.mem_cons_self)).1
      obtain ⟨mm, hnsC, _⟩:=id I4.loc
      refine hRR D C ys H3 s4 ⟨?_, hDn, ?_, mm, hnsC⟩ (qn D hDn)
      . refine I.call' (ch := fp) I4.os ?_ ?_ I4.bare fun b hb => ⟨(hf b hb).2.2.2.1, (hf b hb).2.1, (hf b hb).2.2.2.2.1, (hf b hb).2.2.2.2.2⟩
        . have u : Un (frs X.stack) fp H H3 s.heap s4.heap := I4.base
          refine ⟨u.keep, u.slot, fun b o e nn hx=>?_, u.there, fun b xs e=>?_, fun b o xs e=>?_, fun b ps e=>?_⟩
          . rw [XQ (Nat.ne_of_lt (show b < D by rw [← hD]; exact Heap.lt_size e))]; exact u.free b o e nn hx
          . have := u.tups b xs e
            rw [XQ (XR this hDn)]; exact this
          . have := u.frzs b o xs e
            rw [XQ (XR this hDn)]; exact this
          . obtain ⟨more, this⟩ := u.tbls b ps e
            exact ⟨more, by rw [XQ (XR this hDn)]; exact this⟩
        . intro a o e
          by_cases ha : a = D
          . subst ha
            rw [YM] at e; cases e
            exact ⟨hz, its, k, rv, hL4⟩
          . rw [XQ ha] at e
            exact (I4.hok a o e).stay (fun b u _ q=>q) (fun b q=>by rw [XQ (XR q hDn)]; exact q) fun b xs q=>by rw [XQ (XR q hDn)]; exact q
      . refine ⟨by rw [XQ (Ne.symm hne)]; exact I4.free, Nat.ne_of_gt (Nat.lt_trans (show X.env.locals < D by rw [← hD]; exact I.lt) hDlt), fun hz => ?_, .inr (Nat.le_trans I.sz (Nat.le_of_lt (by rw [hD]; exact hDlt))), fun x c e z => ?_, fun p hp z => ?_⟩
        . obtain ⟨_, o, ho, _⟩ := I.ok.funs.mem hz
          exact absurd (Nat.lt_trans hDlt (show C < D from Nat.lt_of_lt_of_le (Heap.lt_size ho) (by rw [← hD]; exact I.sz))) (Nat.lt_irrefl _)
        . obtain ⟨v, q⟩ := I.cell x c e
          exact absurd (Nat.lt_trans hDlt (show C < D by rw [← hD, ← z]; exact q.lt)) (Nat.lt_irrefl _)
        . exact absurd (Nat.lt_trans hDlt (show C < D by rw [← hD, ← z]; exact Heap.lt_size (I.pin p hp).1)) (Nat.lt_irrefl _)
    . refine thn (T.item X' rfl rfl rfl hc i _ s3 _ H3 X'.xe I3' (FD H3 _ hDn fr3) st3 go) fun r s4 r9 => ?_
      obtain ⟨u, hr, h4⟩:=r9
      subst hr
      refine thn h4 fun _ s5 r9=>?_
      obtain ⟨x, H5, I5, r5, y5, st5, fr5⟩:=r9
      have hD5 : H5 D = none:=(I5.pin (D, { cls:=.type "list", data:=.seq (List.toArray its) k }) (List.mem_append_right _ List.mem_cons_self)).2.1
      have I5':=I5.pinned (FD H5 _ hD5 fr5) (T.obj _ _ st5)
      refine thn (hg _ s5 _ H5 x u _ I5' r5 (hG _ _ _ _ (step x H5 y5))) fun _ s6 r9=>?_
      obtain ⟨σ6, H6, I6, q6, l6, k6⟩:=r9
      refine thn (ht _ s6 σ6 H6 _ I6 q6) fun c s7 r9=>?_
      obtain ⟨H7, I7, q7⟩:=r9
      have wk : ∀ (j : Nat) v, (ZB n caps σ)[j]? = some (some v) -> σ6[j]? = some (some v):=fun j v e=>by
        by_cases hj : n <= j
        . rw [k6 j hj]; exact e
        . unfold ZB at e
          rw [List.getElem?_append_left (by simp; (first | lia | omega)), List.getElem?_replicate] at e
          split at e <;> cases e
      have keepT : ∀ {h' : Heap}, (∀ b ∈ fp, ∀ o, s5.heap.get? b = some o -> h'.get? b = some o) -> tn (i + 1) h':=fun kk=>T.keep _ _ _ st5 kk
      cases c with
      | false=>
        rw [if_neg Bool.false_ne_true] at q7
        rw [if_neg Bool.false_ne_true]
        obtain ⟨m', hm, w7⟩:=hNN _ _ q7
        refine ⟨m', hm, i + 1, H7, ys, its, k, ((I7.pins_of (pins':=[]) fun p hp=>by simp at hp).weak l6.symm wk), keepT fun b hb o e=>(I7.pin (b, o) (List.mem_append_right _ (List.mem_append_right _ (ZF hb e)))).1, fun b hb=>?_, (I7.pin (D, { cls:=.type "list", data:=.seq (List.toArray its) k }) (List.mem_append_right _ (List.mem_append_left _ List.mem_cons_self))).1, (I7.pin (D, { cls:=.type "list", data:=.seq (List.toArray its) k }) (List.mem_append_right _ (List.mem_append_left _ List.mem_cons_self))).2.1, rv, w7⟩
        obtain ⟨o, e, _⟩:=T.obj _ _ st5 b hb
        exact (I7.pin (b, o) (List.mem_append_right _ (List.mem_append_right _ (ZF hb e)))).2.1
      | true=>
        rw [if_pos rfl] at q7
        rw [if_pos rfl]
        refine thn (he _ s7 σ6 H7 _ I7 q7) fun v8 s8 r9=>?_
        obtain ⟨y8, H8, I8, r8, n8⟩:=r9
        obtain ⟨m', hm, w8⟩:=hNN _ _ n8
        have hL8:=(I8.pin (D, { cls:=.type "list", data:=.seq (List.toArray its) k }) (List.mem_append_right _ (List.mem_append_left _ List.mem_cons_self))).1
        have hD8:=(I8.pin (D, { cls:=.type "list", data:=.seq (List.toArray its) k }) (List.mem_append_right _ (List.mem_append_left _ List.mem_cons_self))).2.1
        refine call_meets F.slot_list_append ⟨_, hL8, rfl⟩ F.entry_list_append (F.args_list_append_2 _ _) (PySem.list_append D (List.toArray its) k v8 (by rw [List.size_toArray, ← rv.length]; exact hz)) ⟨hL8, ?_⟩
        have q:=PySem.IsL.update hL8 (·.push v8)
        have I9 : Inv X' (Uc fp s5.heap) σ6 H8 s8:=I8.pins_of fun p hp=>I8.pin p (List.mem_append_right _ (List.mem_append_right _ hp))
        have I10:=I9.turned (t':=s8.toks) (h':=s8.heap.update D (Obj.mapSeq (·.push v8))) (it:=D) (fun b o hb' e=>(Heap.get?_update_other s8.heap _ (Ne.symm hb')).trans e) hD8 hne (.inr (by show s.heap.objs.size <= D; (first | lia | omega)))
          (fun x c e=>Nat.ne_of_lt (cellLt x c e)) (fun p hp z=>by
            have hp' : p ∈ Uc fp s5.heap:=(List.mem_append.mp hp).elim (fun q=>absurd (show p ∈ ([] : List (Addr × Obj)) from q) (by simp)) id
            have:=fpLt p.1 (Ki hp').1
            rw [z] at this
            exact absurd this (Nat.lt_irrefl _))
        refine ⟨m', hm, i + 1, H8, ys ++ [y8], its ++ [v8], (if (its ++ [v8]).toArray.size == (List.toArray its).size then k else k + 1), ((I10.pins_of (pins':=[]) fun p hp=>by simp at hp).weak l6.symm wk), keepT fun b hb o e=>(I10.pin (b, o) (List.mem_append_right _ (ZF hb e))).1, fun b hb=>?_, ?_, hD8, rv.append (.cons r8 .nil), w8⟩
        . obtain ⟨o, e, _⟩ := T.obj _ _ st5 b hb
          exact (I10.pin (b, o) (List.mem_append_right _ (ZF hb e))).2.1
        . have e : (List.toArray its).push v8 = (its ++ [v8]).toArray := by simp
          have q' : (s8.heap.update D (Obj.mapSeq (·.push v8))).get? D = some { cls:=.type "list", data:=.seq ((List.toArray its).push v8) (if ((List.toArray its).push v8).size == (List.toArray its).size then k else k + 1) }:=q
          rw [e] at q'
          exact q'
  exact codeAny_compStart_list (loop _ ⟨_, rfl⟩) (T.self _ 0 _ _ _ hst₁ (loop _ ⟨_, rfl⟩))
theorem Et (sc : Scope) (N0 : List Str) (tns : List Str) (caps : List (Nat × Str)) (hc : X.calm = true) (hi : PI X tg iter wi) (hG : Fe tns.length g)
    (hb : ∀ cl C s H ex E, PG (X.comp (tns ++ caps.map (·.2)) scope cl C s H ex E) tg g /\ PTs (X.comp (tns ++ caps.map (·.2)) scope cl C s H ex E) ifs tt /\ PE (X.comp (tns ++ caps.map (·.2)) scope cl C s H ex E) elt te)
    (hsc : X.env.scope = sc:=by rfl) (hN0 : X.N = N0:=by rfl) (ok : VN sc scope N0 tns caps = true:=by decide +kernel)
    (hs : ∀ x, foldedSetIterable iter X.env x = pure x:=by intro _; rfl) :
    PE X (.ListComp elt [⟨tg, iter, ifs, 0⟩] scope pos) (Cr tns.length caps wi g tt te):=by
  intro pins s σ H Q I h
  have ok':=ok
  unfold VN at ok'
  simp only [Bool.and_eq_true, List.all_eq_true] at ok'
  obtain ⟨⟨⟨⟨ok1, ok2⟩, ok3⟩, ok4⟩, ok5⟩:=ok'
  obtain ⟨cl, ecl, hsub, hall⟩:=Cb (scope:=scope) (env:=X.env) fun x hx hfr=>by
    have:=ok4 x hx
    rw [hfr] at this
    have z : sc.names.lookup x.1 = some .cell:=by simpa using this
    exact I.ok.has x.1 (.inl (by show X.env.scope.names.lookup x.1 = _; rw [hsc]; exact z))
  rw [eval_ListComp]
  refine wpAny_comprehension_free (use:=none) rfl hs ecl (by simpa using ok1) (fun x hx hl=>by have:=ok3 x hx; rw [hl] at this; simpa using this) (thn (hi pins s σ H _ I h) fun xv s₁ h₁=>thn h₁ fun itv s₂ h₂=>?_)
  obtain ⟨it, fp, tn, J, H', rfl, I2, T, st2, f2, W, ⟨m0, w0⟩, turn⟩:=h₂
  refine Ug (RR:=fun acc C=>compPost (model X.prog X.w) X.A X.xe none (EP X pins σ Q) acc C) hc hsc hN0 ok rfl hG hb I2 T st2 f2 hsub hall W w0 turn ?_
  intro D C ys H3 s' ce q
  obtain ⟨mm, hns⟩:=ce.ns
  refine ⟨mm, hns, fun h' hs'=>⟨.ref D, _, ?_, rfl, q⟩⟩
  obtain ⟨c0, c1, c2, c3, c4, c5⟩:=ce.fp
  exact ce.inv.turned (t':=s'.toks) (fun b o hb' e=>(hs'.extBut b o hb' e)) c0 c1 c3 c4 c5
theorem Gm {x : Str} {px spos : Pos} (j : Nat) (sc : Scope) (N0 : List Str) (tns : List Str) (caps : List (Nat × Str)) (hc : X.calm = true) (hN : X.N.Nodup) (hj : X.N[j]? = some x) (hx : X.env.scope.names.lookup x = some .local) (hi : PI X tg iter wi) (hG : Fe tns.length g)
    (hb : ∀ cl C s H ex E, PG (X.comp (tns ++ caps.map (·.2)) scope cl C s H ex E) tg g /\ PTs (X.comp (tns ++ caps.map (·.2)) scope cl C s H ex E) ifs tt /\ PE (X.comp (tns ++ caps.map (·.2)) scope cl C s H ex E) elt te)
    (hsc : X.env.scope = sc:=by rfl) (hN0 : X.N = N0:=by rfl) (ok : VN sc scope N0 tns caps = true:=by decide +kernel)
    (hsw : swapsWith (.ListComp elt [⟨tg, iter, ifs, 0⟩] scope pos) (some (.Name x px)) spos.line X.env = pure true:=by rfl)
    (hs : ∀ x, foldedSetIterable iter X.env x = pure x:=by intro _; rfl) :
    PS X (.Assign [.Name x px] (.ListComp elt [⟨tg, iter, ifs, 0⟩] scope pos) spos) (Bm (Cr tns.length caps wi g tt te) (ZD j)):=by
  intro pins s σ H D I h
  have ok':=ok
  unfold VN at ok'
  simp only [Bool.and_eq_true, List.all_eq_true] at ok'
  obtain ⟨⟨⟨⟨ok1, ok2⟩, ok3⟩, ok4⟩, ok5⟩:=ok'
  obtain ⟨cl, ecl, hsub, hall⟩:=Cb (scope:=scope) (env:=X.env) fun x hx hfr=>by
    have:=ok4 x hx
    rw [hfr] at this
    have z : sc.names.lookup x.1 = some .cell:=by simpa using this
    exact I.ok.has x.1 (.inl (by show X.env.scope.names.lookup x.1 = _; rw [hsc]; exact z))
  rw [exec_Assign_Name_used _ _ _ _ hsw]
  refine wpAny_bind (wpAny_standAt (wpAny_bind ?_))
  show wpAny _ _ (do let _ ← comprehension (.ListComp elt [⟨tg, iter, ifs, 0⟩] scope pos) scope X.env _ (newList []) false (eval iter X.env) (some (assign (.Name x px) X.env))) _ _ s
  refine wpAny_bind (thn (wpAny_comprehension_free (use:=some (assign (.Name x px) X.env)) (Q:=fun _ s'=>SP X pins D .next s') rfl hs ecl (by simpa using ok1) (fun x hx hl=>by have:=ok3 x hx; rw [hl] at this; simpa using this)
    (thn (hi pins s σ H _ I h) fun xv s₁ h₁=>thn h₁ fun itv s₂ h₂=>?_)) fun _ s' hq=>wpAny_pure (wpAny_pure hq))
  obtain ⟨it, fp, tn, J, H', rfl, I2, T, st2, f2, W, ⟨m0, w0⟩, turn⟩:=h₂
  refine Ug (Q:=fun v H1=>ZD j v σ H1 D.nx) (RR:=fun acc C=>compPost (model X.prog X.w) X.A X.xe (some (assign (.Name x px) X.env)) (fun _ s'=>SP X pins D .next s') acc C) hc hsc hN0 ok rfl hG hb I2 T st2 f2 hsub hall W w0 turn ?_
  intro DD C ys H3 s' ce q
  obtain ⟨mm, hns⟩:=ce.ns
  obtain ⟨c0, c1, c2, c3, c4, c5⟩:=ce.fp
  show wpAny _ _ (assign (.Name x px) X.env (.ref DD)) _ _ _
  refine wpAny_assign_Name (KG ce.inv hN hj (.inl hx) (v:=.ref DD) rfl (fun s2 I2 chg=>?_) (.inr hx))
  obtain ⟨c, hsb, hcc⟩:=chg
  have hCc : C ≠ c:=by
    rcases hcc with z | z
    . rw [z]; exact c1
    . exact fun e=>c4 x c z e.symm
  refine ⟨mm, ?_, fun h' hs'=>?_⟩
  . obtain ⟨o, es, ep, ho, r⟩ := hns
    exact ⟨o, es, ep, (hsb.2 C hCc).trans ho, r⟩
  . exact ⟨_, _, I2.turned (t':=s2.toks) (fun b o hb' e=>(hs'.extBut b o hb' e)) c0 c1 c3 c4 c5, q⟩
end
section
variable {K : PySem.W.Frag} {a : Addr} {xs : List V} {n : Nat} {caps : List (Nat × Str)} {g : TG} {tt : TT} {te : TE} {σ : St} {H : Hp} {Q : V -> Hp -> Prop}
end
section
variable {X : Cx} {pos : Pos}
noncomputable def Ck (K : PySem.W.Frag) : List V -> Hp -> VK -> Prop:=fun xs H Q=>∃ p ys, xs = [.ref p] /\ (SqL K H p ys ∨ SqT K H p ys) /\ ∀ l, H l = none -> Q (.ref l) (upd H l (.lst ys))
noncomputable def CZ (K : PySem.W.Frag) : List V -> Hp -> VK -> Prop:=fun xs H Q=>∃ p ys, xs = [.ref p] /\ (SqL K H p ys ∨ SqT K H p ys) /\ Q (.int ys.length) H
theorem YV (K : PySem.W.Frag) (h : X.K = K) : Z9 X (.type "list") (Ck K):=by subst h; exact U7
theorem Xm (K : PySem.W.Frag) (h : X.K = K) : Z9 X (.builtin "len") (CZ K):=by subst h; exact Kb
theorem Xk (K : PySem.W.Frag) (h : X.K = K) : IxR X (EU K):=by subst h; exact ER
theorem Zi (K : PySem.W.Frag) (h : X.K = K) : IxR X (HW K):=by subst h; exact Is
theorem Uq (K : PySem.W.Frag) (h : X.K = K) : SlR X (Lj K):=by subst h; exact EX
theorem Hg (K : PySem.W.Frag) (h : X.K = K) {es : List Expr} {k : Nat} {t : TGs} {n : Nat} (hc : X.calm = true) (hh : PGs X es t)
    (hn : (assignEach es X.env).length = n:=by rfl) (hst : (assignEach es X.env).findIdx? (·.1) = none:=by rfl) : PG X (.Tuple es k pos) (EV K n t):=by subst h; exact Jd hc hh hn hst
end
end L2
namespace L2
open PySem PySem.Spec PyProof.Rows
structure Fn (P : Program) (w : World) (K : PySem.W.Frag) (mg : Str -> Option Value) (base : Heap) (k : Nat) (x : Str) (ps : List Str) (sp : Sp) : Prop where
  ex : ∃ f fd, FnOk P w K mg base CX0 k f fd ps sp /\ KY K fd ps [] /\ PySem.W.keepIn K (.ref f) = true /\ mg x = some (.ref f)
section
variable {X : Cx} {k j : Nat} {x : Str} {ps : List Str} {sp : Sp} {e : Expr} {es : List Expr} {t : TA} {p pos : Pos}
theorem X9 (G : Fn X.prog X.w X.K X.mg X.base k x ps sp) (hr : Room j X.A) (hj : k <= j) (ha : PA X (e :: es) t) (hg : Gl X x:=by rfl) (hdb : (x == ("__debug__" : Str)) = false:=by decide)
    (he : starEach (e :: es) X.env = (false, eval e X.env) :: starEach es X.env:=by rfl) (hpl : (backTo pos (starEach es X.env)).any (·.1) = false:=by rfl) :
    PE X (.Call (.Name x p) (e :: es) [] pos) (KN sp [] E0 t):=by
  obtain ⟨f, fd, F, b, kp, m⟩:=G.ex
  exact EL F (hr.mono hj) hg m kp b .nil Ly ha hdb he hpl
end
noncomputable def Def (K : PySem.W.Frag) (mg : Str -> Option Value) (x : Str) (st : Stmt) (ps : List Str) : Prop:=∃ f fd, Fun K x x st f fd /\ KY K fd ps [] /\ mg x = some (.ref f)
theorem YH {P : Program} {w : World} {K : PySem.W.Frag} {mg : Str -> Option Value} {base : Heap} {x : Str} {st : Stmt} {N ps : List Str} {k : Nat} {sp : Sp} (D : Def K mg x st ps) (S : FnScope N ps (Xi st)) (len : ∀ vs H Q E, sp vs H Q E -> vs.length = ps.length)
    (hbody : ∀ (f : Addr) (cdv : Value) (A : Around) (outer : List Env) (s : Shared) (H : Hp) (vs : List V) (Q : VK) (E : XK), Room k (A.deeper (envOfC x (Xi st) s.heap.objs.size f cdv)) -> sp vs H Q E ->
      ∃ t, PSs (Ez CX0 P w K mg base N x (Xi st) f cdv A outer s H E).nox (Xz st) t /\ t { nx:=fun _ H'=>Q .non H', rt:=Q } (UQ N vs) H) : Fn P w K mg base (k + 1) x ps sp:=by
  obtain ⟨f, fd, F, b, m⟩:=D
  exact ⟨f, fd, F.ok S len (hbody f), b, F.kp, m⟩
theorem XX {H : Hp} {p : Addr} (h : H p = none) (o : HO) : XD H (upd H p o):=fun b u q=>by rw [XQ (XR q h)]; exact q
theorem XD.own {H H2 : Hp} {p : Addr} (s : XD H H2) (h : H p = none) (o : HO) : XD H (upd H2 p o):=fun b u q=>by rw [XQ (XR q h)]; exact s b u q
theorem XD.new {H H2 : Hp} {p : Addr} (s : XD H H2) (h : H2 p = none) (o : HO) : XD H (upd H2 p o):=s.trans (XX h o)
theorem hu8 {A : Around} {k : Nat} (hr : Room k A) : A.units + 8 < cLine:=Nat.lt_of_le_of_lt (Nat.add_le_add_left (by decide : 8 <= 64) _) hr.units
noncomputable abbrev Enc (α : Type):=PySem.W.Frag -> Hp -> V -> α -> Prop
noncomputable def Xa : Enc Int:=fun _ _ v i=>v = .int i
noncomputable def rL {α : Type} (r : Enc α) : Enc (List α):=fun K H v as=>∃ a xs, v = .ref a /\ SqL K H a xs /\ Paired (r K H) xs as
theorem Paired.getL {α β : Type} {F : α -> β -> Prop} : ∀ {l : List α} {m : List β} {i : Nat} {a : α}, Paired F l m -> l[i]? = some a -> ∃ b, m[i]? = some b /\ F a b
  | _, _, _, _, .nil, e=>by simp at e
  | _, _, 0, _, .cons r _, e=>by simp at e; subst e; exact ⟨_, rfl, r⟩
  | _, _, i + 1, a, .cons _ t, e=>by
    obtain ⟨b, h1, h2⟩:=Paired.getL (i:=i) (a:=a) t (by simpa using e)
    exact ⟨b, by simpa using h1, h2⟩
theorem Paired.getR {α β : Type} {F : α -> β -> Prop} : ∀ {l : List α} {m : List β} {i : Nat} {b : β}, Paired F l m -> m[i]? = some b -> ∃ a, l[i]? = some a /\ F a b
  | _, _, _, _, .nil, e=>by simp at e
  | _, _, 0, _, .cons r _, e=>by simp at e; subst e; exact ⟨_, rfl, r⟩
  | _, _, i + 1, b, .cons _ t, e=>by
    obtain ⟨a, h1, h2⟩:=Paired.getR (i:=i) (b:=b) t (by simpa using e)
    exact ⟨a, by simpa using h1, h2⟩
theorem Paired.len {α β : Type} {F : α -> β -> Prop} {l : List α} {m : List β} (h : Paired F l m) : l.length = m.length:=Paired.length h
theorem Paired.app {α β : Type} {F : α -> β -> Prop} : ∀ {l l' : List α} {m m' : List β}, Paired F l m -> Paired F l' m' -> Paired F (l ++ l') (m ++ m'):=fun p h=>by
  induction p with
  | nil=>exact h
  | cons r _ ih=>exact .cons r ih
theorem KO (ns : List Int) : ∀ {K : PySem.W.Frag} {H : Hp}, Paired (Xa K H) (ns.map V.int) ns:=by
  intro K H
  induction ns with
  | nil=>exact .nil
  | cons n r ih=>exact .cons rfl ih
theorem QX : ∀ {xs : List V} {ns : List Int} {K : PySem.W.Frag} {H : Hp}, Paired (Xa K H) xs ns -> xs = ns.map V.int
  | _, _, _, _, .nil=>rfl
  | _, _, _, _, .cons r t=>by
    have r' : _ = V.int _:=r
    rw [r', QX t]; rfl
structure EqOk {α : Type} [DecidableEq α] (r : Enc α) (d : Nat) : Prop where
  uniq : ∀ {X : Cx} {pins : List (Addr × Obj)} {σ : St} {H : Hp} {s : Shared} {x : V} {a b : α}, Inv X pins σ H s -> r X.K H x a -> r X.K H x b -> a = b
  eq : ∀ {X : Cx} {pins : List (Addr × Obj)} {σ : St} {H : Hp} {s : Shared} {x y : V} {v u : Value} {a b : α} {A : Around}, Inv X pins σ H s -> Yw x v -> Yw y u -> r X.K H x a -> r X.K H y b -> A.units + d < cLine -> SeqAt.EqAt A s v u (decide (a = b))
  rc : ∀ {X : Cx} {pins : List (Addr × Obj)} {σ : St} {H : Hp} {s : Shared} {x y : V} {v u : Value} {a b : α} {A : Around}, Inv X pins σ H s -> Yw x v -> Yw y u -> r X.K H x a -> r X.K H y b -> A.units + d < cLine -> SeqAt.RcAt A s v u (decide (a = b))
  ne : ∀ {X : Cx} {pins : List (Addr × Obj)} {σ : St} {H : Hp} {s : Shared} {x y : V} {v u : Value} {a b : α} {A : Around}, Inv X pins σ H s -> Yw x v -> Yw y u -> r X.K H x a -> r X.K H y b -> A.units + d < cLine -> SeqAt.RcNeAt A s v u (!decide (a = b))
  keep : ∀ {K : PySem.W.Frag} {H H' : Hp} {x : V} {a : α}, XD H H' -> r K H x a -> r K H' x a
theorem EqOk.up {α : Type} [DecidableEq α] {r : Enc α} {d e : Nat} (E : EqOk r d) (h : d <= e) : EqOk r e:=
  ⟨E.uniq, fun I rx ry h1 h2 hu=>E.eq I rx ry h1 h2 (by first | lia | omega), fun I rx ry h1 h2 hu=>E.rc I rx ry h1 h2 (by first | lia | omega), fun I rx ry h1 h2 hu=>E.ne I rx ry h1 h2 (by first | lia | omega), E.keep⟩
theorem Cm (A : Around) : A.in1.units = A.units + 1:=rfl
theorem BW {a b : Int} : (a == b) = decide (a = b):=by rw [Bool.eq_iff_iff]; simp
theorem eq_int : EqOk Xa 0 where
  uniq:=fun _ h1 h2=>by
    have h1' : _ = V.int _:=h1
    have h2' : _ = V.int _:=h2
    rw [h1'] at h2'; injection h2'
  eq:=fun {X pins σ H s x y v u a b A} I rx ry h1 h2 _=>by
    have h1' : x = V.int a:=h1
    have h2' : y = V.int b:=h2
    subst h1' h2'
    obtain ⟨t, rfl⟩:=rx
    obtain ⟨t', rfl⟩:=ry
    rw [← BW]; exact SeqAt.EqAt.int_int a t b t'
  rc:=fun {X pins σ H s x y v u a b A} I rx ry h1 h2 _=>by
    have h1' : x = V.int a:=h1
    have h2' : y = V.int b:=h2
    subst h1' h2'
    obtain ⟨t, rfl⟩:=rx
    obtain ⟨t', rfl⟩:=ry
    rw [← BW]; exact SeqAt.RcAt.int_int a t b t'
  ne:=fun {X pins σ H s x y v u a b A} I rx ry h1 h2 _=>by
    have h1' : x = V.int a:=h1
    have h2' : y = V.int b:=h2
    subst h1' h2'
    obtain ⟨t, rfl⟩:=rx
    obtain ⟨t', rfl⟩:=ry
    rw [← BW]; exact SeqAt.RcNeAt.int_int a t b t'
  keep:=fun _ h=>h
theorem DW {α : Type} [DecidableEq α] {as bs : List α} (h : as.length = bs.length) : (List.range as.length).all (fun j=>decide (as[j]? = bs[j]?)) = decide (as = bs):=by
  rw [Bool.eq_iff_iff]
  simp only [List.all_eq_true, List.mem_range, decide_eq_true_eq]
  constructor
  . intro hh
    apply List.ext_getElem?
    intro i
    by_cases hi : i < as.length
    . exact hh i hi
    . rw [List.getElem?_eq_none (by first | lia | omega), List.getElem?_eq_none (by first | lia | omega)]
  . rintro rfl; intros; rfl
theorem Paired.uniq {α β : Type} {F : α -> β -> Prop} (hu : ∀ a b c, F a b -> F a c -> b = c) : ∀ {l : List α} {m m' : List β}, Paired F l m -> Paired F l m' -> m = m':=fun {l m m'} p=>by
  induction p generalizing m' with
  | nil=>intro q; cases q; rfl
  | cons r _ ih=>intro q; cases q with | cons r' t'=>rw [hu _ _ _ r r', ih t']
theorem Paired.imp2 {α β : Type} {F G : α -> β -> Prop} (h : ∀ a b, F a b -> G a b) : ∀ {l : List α} {m : List β}, Paired F l m -> Paired G l m:=fun p=>by
  induction p with
  | nil=>exact .nil
  | cons r _ ih=>exact .cons (h _ _ r) ih
section
variable {α : Type} [DecidableEq α] {r : Enc α} {d : Nat}
theorem V3 (E : EqOk r d) {X : Cx} {pins : List (Addr × Obj)} {σ : St} {H : Hp} {s : Shared} {A : Around} (I : Inv X pins σ H s) (hu : A.units + (d + 1) < cLine) {xs ys : List V} {as bs : List α} {its its2 : List Value}
    (r1 : Yj xs its) (r2 : Yj ys its2) (p1 : Paired (r X.K H) xs as) (p2 : Paired (r X.K H) ys bs) :
    ∀ j (h1 : j < its.toArray.size) (h2 : j < its2.toArray.size), SeqAt.EqAt A.in1 s its.toArray[j] its2.toArray[j] (decide (as[j]? = bs[j]?)):=by
  intro j h1 h2
  have h1' : j < its.length:=by simpa using h1
  have h2' : j < its2.length:=by simpa using h2
  obtain ⟨x, ex, rx⟩:=Paired.getR (i:=j) (b:=its[j]) r1 (by simp [h1'])
  obtain ⟨y, ey, ry⟩:=Paired.getR (i:=j) (b:=its2[j]) r2 (by simp [h2'])
  obtain ⟨a, ea, ra⟩:=Paired.getL p1 ex
  obtain ⟨b, eb, rb⟩:=Paired.getL p2 ey
  have:=E.eq (A:=A.in1) I rx ry ra rb (by rw [Cm]; (first | lia | omega))
  rw [ea, eb]
  simpa using this
theorem Hs (E : EqOk r d) : EqOk (rL r) (d + 1):=by
  have un : ∀ {X : Cx} {pins : List (Addr × Obj)} {σ : St} {H : Hp} {s : Shared} {x : V} {a b : List α}, Inv X pins σ H s -> rL r X.K H x a -> rL r X.K H x b -> a = b:=by
    intro X pins σ H s x as bs I h1 h2
    obtain ⟨a, xs, rfl, q1, p1⟩:=h1
    obtain ⟨b, ys, e, q2, p2⟩:=h2
    cases e
    cases I.list_inj q1 q2
    exact Paired.uniq (F:=r X.K H) (fun _ _ _ z z'=>E.uniq I z z') p1 p2
  have rc : ∀ {X : Cx} {pins : List (Addr × Obj)} {σ : St} {H : Hp} {s : Shared} {x y : V} {v u : Value} {a b : List α} {A : Around}, Inv X pins σ H s -> Yw x v -> Yw y u -> rL r X.K H x a -> rL r X.K H y b -> A.units + (d + 1) < cLine -> SeqAt.RcAt A s v u (decide (a = b)):=by
    intro X pins σ H s x y v u as bs A I rx ry h1 h2 hu
    obtain ⟨a, xs, rfl, q1, p1⟩:=h1
    obtain ⟨b, ys, rfl, q2, p2⟩:=h2
    cases rx; cases ry
    obtain ⟨its, r1, l1, _⟩:=I.list q1
    obtain ⟨its2, r2, l2, _⟩:=I.list q2
    have n1:=r1.length
    have n2:=r2.length
    have m1:=Paired.len p1
    have m2:=Paired.len p2
    by_cases hl : as.length = bs.length
    . have := SeqAt.RcAt.lists (A := A) (e := fun j => decide (as[j]? = bs[j]?)) l1.isList l2.isList (by simp only [List.size_toArray]; (first | lia | omega)) (by first | lia | omega) (V3 E I hu r1 r2 p1 p2)
      rw [show its.toArray.size = as.length by simp only [List.size_toArray]; (first | lia | omega), DW hl] at this
      exact this
    . rw [decide_eq_false (fun e => hl (congrArg List.length e))]
      exact SeqAt.RcAt.lists_lengths l1.isList l2.isList (by simp only [List.size_toArray, bne_iff_ne]; (first | lia | omega)) (by first | lia | omega)
  refine ⟨un, ?_, rc, ?_, ?_⟩
  . intro X pins σ H s x y v u as bs A I rx ry h1 h2 hu
    obtain ⟨a, xs, rfl, q1, p1⟩:=id h1
    obtain ⟨b, ys, rfl, q2, p2⟩:=id h2
    have R:=rc (A:=A) I rx ry h1 h2 hu
    cases rx; cases ry
    by_cases e : a = b
    . subst e
      rw [decide_eq_true (un I h1 h2)]
      exact SeqAt.EqAt.same _
    . exact SeqAt.EqAt.of_refs e R
  . intro X pins σ H s x y v u as bs A I rx ry h1 h2 hu
    obtain ⟨a, xs, rfl, q1, p1⟩:=h1
    obtain ⟨b, ys, rfl, q2, p2⟩:=h2
    cases rx; cases ry
    obtain ⟨its, r1, l1, _⟩:=I.list q1
    obtain ⟨its2, r2, l2, _⟩:=I.list q2
    have n1:=r1.length
    have n2:=r2.length
    have m1:=Paired.len p1
    have m2:=Paired.len p2
    by_cases hl : as.length = bs.length
    . have := SeqAt.RcNeAt.lists (A := A) (e := fun j => decide (as[j]? = bs[j]?)) l1.isList l2.isList (by simp only [List.size_toArray]; (first | lia | omega)) (by first | lia | omega) (V3 E I hu r1 r2 p1 p2)
      rw [show its.toArray.size = as.length by simp only [List.size_toArray]; (first | lia | omega), DW hl] at this
      exact this
    . rw [decide_eq_false (fun e => hl (congrArg List.length e))]
      exact SeqAt.RcNeAt.lists_lengths l1.isList l2.isList (by simp only [List.size_toArray, bne_iff_ne]; (first | lia | omega)) (by first | lia | omega)
  . intro K H H' x as e h
    obtain ⟨a, xs, rfl, q1, p1⟩:=h
    exact ⟨a, xs, rfl, e.seq q1, Paired.imp2 (fun _ _ z=>E.keep e z) p1⟩
end
section
variable {α β : Type} [DecidableEq α] [DecidableEq β] {r : Enc α} {q : Enc β} {d : Nat}
end
section
variable {X : Cx} {α : Type} [DecidableEq α] {r : Enc α} {d : Nat}
theorem Z7 : Z9 X (.builtin "isinstance") (fun xs H Q=>∃ x n t b, xs = [x, .ty n] /\ TyOf X.K H x t /\ PySem.W.kitOne X.K t (.type n) = some b /\ Q (.bl b) H):=by
  intro pins s σ H xs us Q I r h
  obtain ⟨x, n, t, b, rfl, ty, e, q⟩:=h
  obtain ⟨u, v, rfl, ru, rv⟩:=Yj.two r
  cases (show v = Value.type n from rv)
  exact CP I ru ty e fun tk=>⟨.bl b, H, I.tok tk, rfl, q⟩
theorem Ul : OpR X (binaryOp .FloorDiv) (rI (fun _ j=>0 < j /\ j.natAbs.log2 < 9000) fun i j=>.int (i / j)):=opI fun i j _ _ _ _ _ hc q=>by
  refine floordiv_int (by first | lia | omega) ?_ (.inl (PyProof.noPylong_of_log2 hc.2))
  rw [Int.fdiv_eq_ediv_of_nonneg i (by first | lia | omega)]
  exact q
end
end L2
namespace PySem
open Sem (wp)
section
variable {prog : Program} {w : World} {A : Around} {E : Value -> Shared -> Prop} {s : Shared}
end
end PySem
namespace L2
open PySem PySem.Spec PyProof.Rows
theorem Uv {α β : Type} {F : α -> β -> Prop} : ∀ {l : List α} {m : List β} {i : Nat} {b : β}, Paired F l m -> m[i]? = some b -> ∃ a, l[i]? = some a /\ F a b
  | _, _, _, _, .nil, e=>by simp at e
  | _, _, 0, _, .cons r _, e=>by simp at e; subst e; exact ⟨_, rfl, r⟩
  | _, _, i + 1, b, .cons _ t, e=>by
    obtain ⟨a, h1, h2⟩:=Uv (i:=i) (b:=b) t (by simpa using e)
    exact ⟨a, by simpa using h1, h2⟩
section
variable {X : Cx} {e : Expr} {te : TE}
noncomputable def LN (K : PySem.W.Frag) : List V -> Hp -> VK -> Prop:=fun xs H Q=>∃ (a : Addr) (ns : List Int), xs = [.ref a] /\ SqL K H a (ns.map V.int) /\ Q (.int ns.sum) H
theorem Cl (hc : X.calm = true) : Z9 X (.builtin "sum") (LN X.K):=by
  intro pins s σ H xs us Q I r h
  obtain ⟨a, ns, rfl, hq, q⟩:=h
  obtain ⟨u, rfl, ru⟩:=Gw r
  cases ru
  obtain ⟨its, rv, pl, hz⟩:=I.list hq
  have hi : IntsAre its ns:=Fx rv
  have hlen:=hi.length
  have hlt : a < s.heap.objs.size:=by obtain ⟨o, n, ho, _⟩:=pl; exact Heap.lt_size ho
  refine call_sum_walkG ?_
  refine wpAny_pyIter_list pl.isList ?_
  have W:=Walks.list (prog:=X.prog) (w:=X.w) (A:=X.A.in1) (I.ok.hd hc) s.heap.objs.size a (Nat.ne_of_lt hlt) its.toArray
  refine ⟨s.heap.objs.size, _, _, _, _, _, fun i=>ns.getD i 0, rfl, W, ⟨⟨_, Heap.get?_push_size _ rfl, rfl, rfl⟩, pl.isList.at fun o e=>Heap.get?_push_of_some _ e⟩, fun b hb=>?_, fun i v hv=>?_, fun h' tk t' hk=>?_⟩
  . rcases List.mem_cons.mp hb with e | hb
    . rw [e, Heap.size_push]; exact Nat.lt_succ_self _
    . rw [List.mem_singleton.mp hb, Heap.size_push]; exact Nat.lt_succ_of_lt hlt
  . have hv' : its[i]? = some v := by simpa using hv
    have hil : i < its.length:=(List.getElem?_eq_some_iff.mp hv').1
    obtain ⟨x, ex, rx⟩:=Uv rv hv'
    rw [List.getElem?_map] at ex
    cases e : ns[i]? with
    | none=>rw [e] at ex; cases ex
    | some z=>
      rw [e] at ex
      have ex' : V.int z = x:=Option.some.inj ex
      subst ex'
      obtain ⟨t, rfl⟩:=rx
      exact ⟨t, by simp [List.getD, e]⟩
  . have I2 : Inv X pins σ H { s with heap:=h', toks:=tk }:=I.kept (t':=tk) fun b o e=>hk b o (fun hm=>by
      rw [List.mem_singleton.mp hm] at e
      exact absurd (Heap.lt_size e) (Nat.lt_irrefl _)) (Heap.get?_push_of_some _ e)
    refine ⟨.int ns.sum, H, I2, ⟨t', ?_⟩, q⟩
    rw [List.size_toArray, hlen, preSum_getD, List.take_length]
end
end L2
namespace L2
open PySem PySem.Spec PyProof.Rows
section
variable {X : Cx} {pins : List (Addr × Obj)} {σ : St} {H : Hp} {s : Shared} {h' : Heap}
theorem Inv.turnLay {t' : Nat} {ch : List Addr} {T : Addr} {u : HO} (I : Inv X pins σ H s) (k : ∀ b o, b ∉ ch -> s.heap.get? b = some o -> h'.get? b = some o) (hf : ∀ b ∈ ch, Cu X pins H b)
    (hp : s.heap.objs.size <= T) (new : Y5 X.prog X.w (upd H T u) h' T u) : Inv X pins σ (upd H T u) { s with heap:=h', toks:=t' }:=by
  have hn : H T = none:=I.hok.fresh hp
  have nit : ∀ b o, H b = some o -> b ∉ ch:=fun b o e z=>by rw [(hf b z).1] at e; cases e
  refine I.step (g':=s.gens) (d':=s.drawn) (ch:=ch) (fun b hb=>?_) (fun b o _ _ hc e _=>k b o hc e) (fun b o _ _ hc e _=>⟨o.slots, k b o hc e⟩)
    (fun b o _ e n=>by rw [XQ (Nat.ne_of_lt (Nat.lt_of_lt_of_le (Heap.lt_size e) hp))]; exact n)
    (fun b o hc e=>⟨o, k b o hc e⟩) (fun b xs e=>by rw [XQ (XR e hn)]; exact e) (fun b o xs e=>by rw [XQ (XR e hn)]; exact e) (fun b ps e=>⟨#[], by rw [XQ (XR e hn), e]; simp⟩) (fun m hm=>?_) (fun b v e=>?_) I.bare
  . obtain ⟨f0, f1, f2, f3, f4, f5⟩ := hf b hb
    exact ⟨f3, f1, f4, f5⟩
  . obtain ⟨o, es, ep, ho, r⟩ := hm
    exact ⟨o, es, ep, k _ o (fun z=>(hf _ z).2.1 rfl) ho, r⟩
  . by_cases hb : b = T
    . subst hb; rw [YM] at e; cases e; exact new
    . rw [XQ hb] at e
      refine (I.hok b v e).stay (fun c o hc q=>k c o ?_ q) (fun c q=>by rw [XQ (XR q hn)]; exact q) fun c xs q=>by rw [XQ (XR q hn)]; exact q
      rcases hc with z | z
      . rw [z]; exact nit b v e
      . exact nit c _ z
end
noncomputable def Ite (K : PySem.W.Frag) (a : Addr) : It:=
  ⟨fun i H=>∃ xs x, SqL K H a xs /\ xs[i]? = some x, fun i H y H'=>∃ p x, y = .ref p /\ H p = none /\ H' = upd H p (.tup [.int (i : Int), x]) /\ ∀ xs, SqL K H a xs -> xs[i]? = some x, fun i H=>∃ xs, SqL K H a xs /\ xs.length <= i⟩
theorem C5 {P : Program} {w : World} {K : PySem.W.Frag} {elts : List Expr} {k : Nat} {pos : Pos} (a e it : Addr) (h1 : e ≠ it) (h2 : a ≠ e) (h3 : a ≠ it) :
    Turn P w K (.Tuple elts k pos) (Ite K a) [e, it] e (fun i h=>(∃ old, IsEnum h e it (i : Int) old) /\ h.IsListIter it a i) where
  mem:=by simp
  obj:=fun i h st b hb=>by
    obtain ⟨⟨old, eo⟩, o, io, c, d⟩:=st
    rcases List.mem_cons.mp hb with z | z
    . subst z
      exact ⟨_, eo, fun v z=>by cases z⟩
    . have z := List.mem_singleton.mp z
      subst z
      exact ⟨o, io, fun v z=>by rw [d] at z; cases z⟩
  keep:=fun i h h' st k=>⟨let ⟨old, eo⟩:=st.1; ⟨old, k e (by simp) _ eo⟩, st.2.at fun o q=>k it (by simp) o q⟩
  item:=by
    intro X hP hw hK hc i pins s σ H E I hf st hg
    subst hP hw hK
    obtain ⟨xs, x, hq, hx⟩:=hg
    obtain ⟨its, rv, p, hz⟩:=I.list hq
    obtain ⟨u, hu, ru⟩:=rv.get hx
    obtain ⟨⟨old, eo⟩, io⟩:=id st
    have hu' : its.toArray[i]? = some u:=by simpa using hu
    have W:=WalksT.enumerate (prog:=X.prog) (w:=X.w) (A:=X.A) (I.ok.hd hc) e it a h1 h2 h3 its.toArray
    refine wpAny_pyNext_enum_item eo io p.isList hu' h1 fun h' eo' io' tup sz kk=>?_
    have hT : ∀ b o, s.heap.get? b = some o -> s.heap.objs.size ≠ b:=fun b o q z=>absurd (Heap.lt_size q) (by rw [← z]; exact Nat.lt_irrefl _)
    have hTe:=hT e _ eo
    have hTi : s.heap.objs.size ≠ it:=by obtain ⟨o, q, _⟩:=io; exact hT it o q
    have ha' : h'.IsList a its.toArray:=p.isList.at fun o q=>kk a o h2 h3 q
    refine ⟨_, rfl, W.go elts k pos i s.heap.objs.size _ _ _ ⟨⟨_, eo'⟩, io', ha', hTe, hTi⟩ fun h'' st' kk'=>?_⟩
    obtain ⟨st2, io2, _⟩:=st'
    have tup2:=kk' _ _ (by simp [hTe, hTi]) tup
    have k2 : ∀ b o, b ∉ [e, it] -> s.heap.get? b = some o -> h''.get? b = some o:=fun b o q1 q=>kk' b o q1 (kk b o (fun z=>q1 (by simp [z])) (fun z=>q1 (by simp [z])) q)
    refine ⟨.ref s.heap.objs.size, upd H s.heap.objs.size (.tup [.int (i : Int), x]), I.turnLay (h':=h'') (t':=s.toks + 1) k2 hf (Nat.le_refl _) ⟨by show 2 <= sizeLine; decide, [.int (i : Int) s.toks, u], .cons ⟨_, rfl⟩ (.cons ru .nil), ⟨_, tup2, rfl, _, rfl⟩⟩, rfl,
      ⟨_, x, rfl, I.hok.fresh (Nat.le_refl _), rfl, fun ys hy=>by rw [I.list_inj hy hq]; exact hx⟩, ⟨by simpa using st2, io2⟩, fun b hb=>?_⟩
    rcases List.mem_cons.mp hb with z | z
    . rw [z, XQ hTe.symm]; exact (hf e (by simp)).1
    . rw [List.mem_singleton.mp z, XQ hTi.symm]; exact (hf it (by simp)).1
  done:=by
    intro X hP hw hK hc i pins s σ H E I hf st hg
    subst hP hw hK
    obtain ⟨xs, hq, hx⟩:=hg
    obtain ⟨its, rv, p, hz⟩:=I.list hq
    obtain ⟨⟨old, eo⟩, io⟩:=id st
    obtain ⟨f0, f1, f2, f3, f4, f5⟩:=hf it (by simp)
    have hl:=rv.length
    exact wpAny_pyNext_enum_end (I.ok.hd hc) eo io p.isList (by simp; (first | lia | omega)) fun h' eb=>⟨rfl, I.turned (t':=s.toks) (fun b o hb q=>eb b o hb q) f0 f1 f3 f4 f5⟩
  self:=by
    intro A i s Q E st h
    obtain ⟨⟨old, eo⟩, io⟩:=st
    exact wpAny_pyIter_enum eo h
section
variable {X : Cx} {elts : List Expr} {k : Nat} {pos0 : Pos}
noncomputable def IB (K : PySem.W.Frag) (tl : TE) : TI:=fun σ H R=>tl σ H fun x H1=>∃ a, x = .ref a /\ (∃ xs, SqL K H1 a xs) /\ R (Ite K a) H1
theorem Hu {l : Expr} {tl : TE} {p pos : Pos} (hg : Gl X "enumerate") (hm : X.mg "enumerate" = none) (hl : PE X l tl) (hs : starEach [l] X.env = [(false, eval l X.env)]:=by rfl) :
    PI X (.Tuple elts k pos0) (.Call (.Name "enumerate" p) [l] [] pos) (IB X.K tl):=by
  intro pins s σ H R I h
  refine wpAny_Call_Name_kw (Vu I hg hm boot_enumerate ?_)
  refine PyProof.Rows.callWith_type1 ?_ hs rfl
  rw [hs]
  show wpAny _ _ (spliced ((false, eval l X.env) :: backTo pos [])) _ _ s
  refine Calls.spliced_cons (thn (hl pins s σ H _ I h) fun v s1 ⟨x, H1, I1, r1, a, ex, ⟨xs, hq⟩, q⟩=>?_)
  subst ex
  cases r1
  obtain ⟨its, rv, pl, hz⟩:=I1.list hq
  refine Calls.spliced_nil ?_
  have hlt : a < s1.heap.objs.size:=by obtain ⟨o, n, ho, _⟩:=pl; exact Heap.lt_size ho
  refine call_enumerate_list pl.isList fun h' en io sz kk=>?_
  refine wpAny_pyIter_enum en ?_
  refine ⟨_, [s1.heap.objs.size + 1, s1.heap.objs.size], _, _, H1, rfl, I1.kept (t':=s1.toks) kk, C5 a _ _ (Nat.ne_of_gt (Nat.lt_succ_self _)) (Nat.ne_of_lt (Nat.lt_succ_of_lt hlt)) (Nat.ne_of_lt hlt), ⟨⟨_, en⟩, io⟩, fun b hb=>?_, q⟩
  have hb' : s1.heap.objs.size <= b:=by
    rcases List.mem_cons.mp hb with z | z
    . rw [z]; exact Nat.le_succ _
    . rw [List.mem_singleton.mp z]; exact Nat.le_refl _
  exact I1.fpOk hb' (I1.hok.fresh hb')
end
noncomputable def CU (K : PySem.W.Frag) : V -> List V -> Hp -> VK -> Prop:=fun x vs H Q=>∃ l xs y, ∃ j : Nat, x = .ref l /\ vs = [y] /\ SqL K H l xs /\ J3 y = true /\ xs.all J3 = true /\ (∃ z, xs[j]? = some z /\ eqV z y = true) /\ (∀ (m : Nat) z, m < j -> xs[m]? = some z -> eqV z y = false) /\ Q (.int (j : Int)) H
section
variable {X : Cx}
theorem BE : MtR X "list.index" (CU X.K):=by
  intro pins s σ H x vs v us Q I rx rv h
  obtain ⟨l, xs, y, j, rfl, rfl, hq, fy, fs, ⟨z, hz, ez⟩, hm, q⟩:=h
  cases rx
  obtain ⟨u, rfl, ry⟩:=Yj.one rv
  obtain ⟨its, r, pl, hle⟩:=I.list hq
  have hl:=r.length
  have hjl:=(List.getElem?_eq_some_iff.mp hz).1
  have ge : ∀ (m : Nat) (w : V), xs[m]? = some w -> ∀ hm : m < its.toArray.size, eqU y its.toArray[m] = eqV w y:=fun m w hw hm=>by
    obtain ⟨u', hu', ru'⟩:=r.get hw
    have e : its.toArray[m] = u':=by
      have:=(List.getElem?_eq_some_iff.mp hu').2
      simpa using this
    rw [e]
    exact Db ru' (List.all_eq_true.mp fs w (List.mem_of_getElem? hw))
  obtain ⟨o, n, ho, hc, hd, hs⟩:=id pl
  obtain ⟨cls, dict, data, slots⟩:=o
  cases hc; cases hd; cases hs
  refine call_meets F.slot_list_index ⟨_, ho, rfl⟩ F.entry_list_index (F.args_list_index_2 _ _) (SeqAt.list_indexAt l its.toArray n none slots u (eqU y) j (by rw [List.size_toArray]; (first | lia | omega)) ?_ ?_ ?_) ⟨ho, fun w hw=>Vg ry fy r fs w (by simpa using hw), ?_⟩
  . have : sizeLine < 2 ^ 63 - 1 := by decide
    first | lia | omega
  . rw [ge j z hz]; exact ez
  . intro m hm' hlt
    rw [ge m xs[m] (List.getElem?_eq_getElem (by first | lia | omega))]
    exact hm m _ hlt (List.getElem?_eq_getElem (by first | lia | omega))
  . exact ⟨.int (j : Int), H, I.tok _, ⟨_, rfl⟩, q⟩
end
section
variable {α : Type} [DecidableEq α] {r : Enc α} {d : Nat}
end
end L2
namespace L2
open PySem PySem.Spec PyProof.Rows
section
variable {X : Cx} {o e f : Expr} {td ty tx : TE} {apos cpos : Pos}
end
end L2
namespace L2
open PySem PySem.Spec PyProof.Rows
section
variable {X : Cx} {elt tg iter : Expr} {ifs : List Expr} {scope sc : Scope} {pos : Pos} {n : Nat} {tns : List Str} {caps : List (Nat × Str)} {wi : TI} {g : TG} {tt : TT} {te : TE}
end
end L2
namespace L2
open PySem PySem.Spec PyProof.Rows
theorem Vl : ∀ (xs : List V) (us : List Value), xs.length = us.length -> (∀ (j : Nat) x u, xs[j]? = some x -> us[j]? = some u -> Yw x u) -> Yj xs us
  | [], [], _, _=>.nil
  | [], _ :: _, h, _=>by simp at h
  | _ :: _, [], h, _=>by simp at h
  | x :: xs, u :: us, h, r=>.cons (r 0 x u rfl rfl) (Vl xs us (by simpa using h) fun j y v e1 e2=>r (j + 1) y v (by simpa using e1) (by simpa using e2))
noncomputable def GW (ta : TA) : TE:=fun σ H Q=>ta σ H fun vs H1=>∃ j : Int, vs = [.int j] /\ 0 <= j /\ j <= 1000 /\ ∀ p, H1 p = none -> Q (.ref p) (upd H1 p (.lst ((List.range j.toNat).map fun i=>V.int ((i : Nat) : Int))))
variable {X : Cx}
theorem Kz {e : Expr} {ta : TA} {p q q2 pos : Pos} (hc : X.calm = true) (hg : Gl X "list") (hg2 : Gl X "range") (hm : X.mg "list" = none) (hm2 : X.mg "range" = none) (ha : PA X [e] ta)
    (hs : starEach [.Call (.Name "range" q) [e] [] q2] X.env = [(false, eval (.Call (.Name "range" q) [e] [] q2) X.env)]:=by rfl) (hs2 : starEach [e] X.env = [(false, eval e X.env)]:=by rfl) :
    PE X (.Call (.Name "list" p) [.Call (.Name "range" q) [e] [] q2] [] pos) (GW ta):=by
  intro pins s σ H Q I h
  refine wpAny_Call_Name_kw (Vu I hg hm PyProof.Rows.boot_list ?_)
  refine PyProof.Rows.callWith_type1 ?_ hs rfl
  rw [hs]
  show wpAny _ _ (spliced ((false, eval (.Call (.Name "range" q) [e] [] q2) X.env) :: backTo pos [])) _ _ s
  refine Calls.spliced_cons ?_
  refine wpAny_Call_Name_kw (Vu I hg2 hm2 boot_range ?_)
  refine PyProof.Rows.callWith_type1 (thn (ha q2 pins s σ H _ I h) fun us s1 r9=>?_) hs2 rfl
  obtain ⟨vs, H1, I1, r1, q1⟩:=r9
  obtain ⟨j, e, h0, h1, k⟩:=q1
  subst e
  cases r1 with
  | cons r rr=>
    cases rr
    obtain ⟨t, rfl⟩:=r
    refine call_range_1 ?_
    refine Calls.spliced_nil ?_
    refine call_list_range (n:=j.toNat) (I.ok.hd hc) (IsRange.new ..) (small_one (by first | lia | omega) (by first | lia | omega) (by first | lia | omega) (by first | lia | omega)) (by rw [rangeSize_one]; split <;> (first | lia | omega)) (by first | lia | omega) fun h' tk acc' c' hk hS hacc=>?_
    refine ⟨.ref _, _, I1.laid (h':=h') (t':=tk) (o:=.lst ((List.range j.toNat).map fun i=>V.int ((i : Nat) : Int))) (fun b o e=>hk b o (Heap.get?_push_of_some _ e)) (by rw [Heap.size_push]; exact Nat.le_succ _) ?_, rfl, k _ (I1.hok.fresh (by rw [Heap.size_push]; exact Nat.le_succ _))⟩
    refine ⟨by rw [List.length_map, List.length_range]; exact Nat.le_of_lt (CF (by first | lia | omega)), acc'.toList, c', Vl _ _ (by simp [hacc.1]) fun i x u e1 e2=>?_, hS⟩
    have e2' : acc'[i]? = some u:=by simpa using e2
    obtain ⟨tk, rfl⟩:=hacc.2 i u e2'
    rw [List.getElem?_map] at e1
    cases e3 : (List.range j.toNat)[i]? with
    | none=>rw [e3] at e1; cases e1
    | some z=>
      rw [e3] at e1
      have hz : z = i:=by
        have hi : i < j.toNat:=by have:=(List.getElem?_eq_some_iff.mp e3).1; simpa using this
        rw [List.getElem?_range hi] at e3
        exact (Option.some.inj e3).symm
      subst hz
      have : x = V.int (z : Int):=(Option.some.inj e1).symm
      subst this
      exact ⟨tk, by simp⟩
end L2
namespace L2
open PySem PySem.Spec PyProof.Rows
theorem Ji {l : List Expr} {p : Pos} {es : List Expr} {env : Env} : starEach (.List l p :: es) env = (false, eval (.List l p) env) :: starEach es env:=rfl
theorem Up {X : Cx} {l : List Expr} {p : Pos} {es : List Expr} {te : TE} {t : TA} (ha : PE X (.List l p) te) (hr : PA X es t) : PA X (.List l p :: es) (XI te t):=Xd ha hr Ji
end L2
namespace L2
open PySem PySem.Spec PyProof.Rows
theorem KI {X : Cx} (K : PySem.W.Frag) (h : X.K = K) : MtR X "list.index" (CU K):=by subst h; exact BE
end L2
namespace L2
open PySem PySem.Spec PyProof.Rows
variable {X : Cx} {o e : Expr} {es : List Expr} {to : TE} {t : TA} {name : Str} {apos cpos : Pos} {T id : String} {r : V -> List V -> Hp -> VK -> Prop}
theorem IF (K : PySem.W.Frag) (hK : X.K = K) (pa : PlainAttrs T) (slot : Slot T name id) (hty : typeOf (.builtin id) = pure (.type "method_descriptor")) (hm : MtR X id r) (ho : PE X o to) (ha : PA X (e :: es) t)
    (hbase : attributeBase o name X.env (eval o X.env) = eval o X.env:=by rfl)
    (hfew : ((backTo cpos (starEach (e :: es) X.env)).all (fun x=>!x.1) && (backToKw cpos (keywordEach [] X.env)).all (fun x=>x.1.isSome)
      && decide ((e :: es).length + ([] : List Keyword).length + (if ([] : List Keyword).isEmpty then 0 else 1) < 30)) = true:=by rfl)
    (hline : (apos.endLine == cpos.line) = true:=by rfl) (hs : starEach (e :: es) X.env = (false, eval e X.env) :: starEach es X.env:=by rfl) (hplain : (backTo cpos (starEach es X.env)).any (·.1) = false:=by rfl) :
    PE X (.Call (.Attribute o name apos) (e :: es) [] cpos) (tBM K T r to t):=by
  subst hK
  exact ZK pa slot hty hm ho ha hbase hfew hline hs hplain
end L2
namespace PySem
open PySem.Spec
namespace SeqAt
open MeetsSeq
end SeqAt
end PySem
namespace L2
open PySem PySem.Spec PyProof.Rows
section
variable {X : Cx}
end
end L2
namespace L2
open PySem PySem.Spec PyProof.Rows
noncomputable def L0 (K : PySem.W.Frag) : List V -> Hp -> VK -> Prop:=fun xs H Q=>∃ (a : Addr) (bs : List Bool), xs = [.ref a] /\ SqL K H a (bs.map V.bl) /\ Q (.bl (bs.all id)) H
section
variable {X : Cx}
theorem Io : ∀ (bs : List Bool), ((List.range bs.length).all fun i=>(bs[i]?).getD true) = bs.all id:=fun bs=>by
  rw [Bool.eq_iff_iff, List.all_eq_true, List.all_eq_true]
  constructor
  . intro h b hb
    obtain ⟨i, hi, rfl⟩:=List.getElem_of_mem hb
    have:=h i (List.mem_range.mpr hi)
    simpa [List.getElem?_eq_getElem hi] using this
  . intro h i hi
    have hi':=List.mem_range.mp hi
    simpa [List.getElem?_eq_getElem hi'] using h _ (List.getElem_mem hi')
theorem CC (hc : X.calm = true) : Z9 X (.builtin "all") (L0 X.K):=by
  intro pins s σ H xs us Q I r h
  obtain ⟨a, bs, rfl, hq, q⟩:=h
  obtain ⟨u, rfl, ru⟩:=Gw r
  cases ru
  obtain ⟨its, rv, pl, hz⟩:=I.list hq
  have hlen : bs.length = its.length:=by have:=rv.length; rwa [List.length_map] at this
  have hlt : a < s.heap.objs.size:=by obtain ⟨o, n, ho, _⟩:=pl; exact Heap.lt_size ho
  refine call_all_walk (wpAny_pyIter_list pl.isList ?_)
  refine ⟨s.heap.objs.size, [s.heap.objs.size, a], [s.heap.objs.size], its.toArray.size, _, _, fun i=>(bs[i]?).getD true, rfl, Walks.list (A:=X.A.in1) (I.ok.hd hc) _ a (Nat.ne_of_lt hlt) its.toArray,
    ⟨⟨_, Heap.get?_push_size _ rfl, rfl, rfl⟩, pl.isList.at fun o e=>Heap.get?_push_of_some _ e⟩, fun i v s' Q' E' hP hQ=>?_, fun h' tk hk=>?_⟩
  . have hv' : its[i]? = some v := by simpa using hP
    obtain ⟨x, ex, rx⟩:=Uv rv hv'
    rw [List.getElem?_map] at ex
    cases e : bs[i]? with
    | none=>rw [e] at ex; cases ex
    | some z=>
      rw [e] at ex
      have ex' : V.bl z = x:=Option.some.inj ex
      subst ex'
      cases rx
      simp only [e, Option.getD_some] at hQ
      exact wpAny_truthy_bool hQ
  . have e : ((List.range its.toArray.size).all fun i=>(bs[i]?).getD true) = bs.all id:=by
      rw [List.size_toArray, ← hlen]; exact Io bs
    rw [e]
    have I2 : Inv X pins σ H { s with heap:=h', toks:=tk }:=I.kept (t':=tk) fun b o e=>hk b o (fun hm=>by
      rw [List.mem_singleton.mp hm] at e
      exact absurd (Heap.lt_size e) (Nat.lt_irrefl _)) (Heap.get?_push_of_some _ e)
    exact ⟨.bl (bs.all id), H, I2, rfl, q⟩
end
end L2
namespace L2
open PySem PySem.Spec PyProof.Rows
section
variable {X : Cx} {α : Type} [DecidableEq α] {r : Enc α} {d : Nat}
end
section
variable {X : Cx}
end
section
variable {X : Cx}
variable {T : String} {name : Str} {id : String} {r : V -> List V -> Hp -> VK -> Prop} {o e : Expr} {es : List Expr} {to : TE} {t : TA} {apos cpos : Pos}
theorem Ef {K : PySem.W.Frag} (hK : X.K = K) (pa : PlainAttrs T) (slot : Slot T name id) (hty : typeOf (.builtin id) = pure (.type "method_descriptor")) (hm : MtR X id r) (ho : PE X o to) (ha : PA X (e :: es) t)
    (hbase : attributeBase o name X.env (eval o X.env) = eval o X.env:=by rfl)
    (hfew : ((backTo cpos (starEach (e :: es) X.env)).all (fun x=>!x.1) && (backToKw cpos (keywordEach [] X.env)).all (fun x=>x.1.isSome)
      && decide ((e :: es).length + ([] : List Keyword).length + (if ([] : List Keyword).isEmpty then 0 else 1) < 30)) = true:=by rfl)
    (hline : (apos.endLine == cpos.line) = true:=by rfl) (hs : starEach (e :: es) X.env = (false, eval e X.env) :: starEach es X.env:=by rfl) (hplain : (backTo cpos (starEach es X.env)).any (·.1) = false:=by rfl) :
    PE X (.Call (.Attribute o name apos) (e :: es) [] cpos) (tBM K T r to t):=IF K hK pa slot hty hm ho ha hbase hfew hline hs hplain
end
section
variable {X : Cx} {elt tg iter : Expr} {ifs : List Expr} {scope : Scope} {pos : Pos} {wi : TI} {g : TG} {tt : TT} {te : TE}
theorem Zq {sc : Scope} {N0 : List Str} {tns : List Str} {caps : List (Nat × Str)} (hc : X.calm = true) (hi : PI X tg iter wi) (hG : Fe tns.length g)
    (hb : ∀ cl C s H ex E, PG (X.comp (tns ++ caps.map (·.2)) scope cl C s H ex E) tg g /\ PTs (X.comp (tns ++ caps.map (·.2)) scope cl C s H ex E) ifs tt /\ PE (X.comp (tns ++ caps.map (·.2)) scope cl C s H ex E) elt te)
    (hsc : X.env.scope = sc:=by rfl) (hN0 : X.N = N0:=by rfl) (ok : VN sc scope N0 tns caps = true:=by decide +kernel)
    (hs : ∀ x, foldedSetIterable iter X.env x = pure x:=by intro _; rfl) :
    PE X (.ListComp elt [⟨tg, iter, ifs, 0⟩] scope pos) (Cr tns.length caps wi g tt te):=Et sc N0 tns caps hc hi hG hb hsc hN0 ok hs
end
section
variable {X : Cx} {tg l : Expr} {tl : TE} {p pos : Pos} {K : PySem.W.Frag}
theorem XV (h : X.K = K) (hl : PE X l tl) : PI X tg l (EM K tl):=by subst h; exact EB hl
end
end L2
namespace L2
open PySem PySem.Spec PyProof.Rows
noncomputable def KL : List Int -> Int
  | []=>0
  | a :: r=>r.foldl max a
theorem GO (ns : List Int) : ∀ k, k < ns.length -> ns.getD (argBest (fun i j=>decide (ns.getD i 0 > ns.getD j 0)) k) 0 = KL (ns.take (k + 1))
  | 0, h=>by
    cases ns with
    | nil=>simp at h
    | cons a r=>simp [argBest, KL]
  | k + 1, h=>by
    have ih:=GO ns k (by first | lia | omega)
    have e : KL (ns.take (k + 1 + 1)) = max (KL (ns.take (k + 1))) (ns.getD (k + 1) 0):=by
      rw [List.take_succ_eq_append_getElem h]
      cases ns with
      | nil=>simp at h
      | cons a r=>
        rw [List.take_succ_cons]
        simp only [KL, List.cons_append, List.foldl_append, List.foldl_cons, List.foldl_nil]
        rw [List.getD_eq_getElem?_getD, List.getElem?_eq_getElem h]
        rfl
    rw [e, ← ih]
    show ns.getD (if (decide (ns.getD (k + 1) 0 > ns.getD (argBest _ k) 0)) = true then k + 1 else argBest _ k) 0 = _
    by_cases hc : ns.getD (k + 1) 0 > ns.getD (argBest (fun i j=>decide (ns.getD i 0 > ns.getD j 0)) k) 0
    . rw [if_pos (by simpa using hc)]; (first | lia | omega)
    . rw [if_neg (by simpa using hc)]; (first | lia | omega)
section
variable {X : Cx}
theorem FV {its : List Value} {ns : List Int} (rv : Yj (ns.map V.int) its) : ∀ (i : Nat) (v : Value), its.toArray[i]? = some v -> ∃ t, v = Value.int (ns.getD i 0) t:=fun i v hv=>by
  have hv' : its[i]? = some v:=by simpa using hv
  obtain ⟨x, ex, rx⟩:=Uv rv hv'
  rw [List.getElem?_map] at ex
  cases e : ns[i]? with
  | none=>rw [e] at ex; cases ex
  | some z=>
    rw [e] at ex
    have ex' : V.int z = x:=Option.some.inj ex
    subst ex'
    obtain ⟨t, rfl⟩:=rx
    exact ⟨t, by simp [List.getD, e]⟩
noncomputable def Iv (K : PySem.W.Frag) (f : List Int -> Int) : List V -> Hp -> VK -> Prop:=fun xs H Q=>∃ (a : Addr) (ns : List Int), xs = [.ref a] /\ SqT K H a (ns.map V.int) /\ 0 < ns.length /\ Q (.int (f ns)) H
theorem DV (K : PySem.W.Frag) (hK : X.K = K) (hc : X.calm = true) : Z9 X (.builtin "max") (Iv K KL):=by
  subst hK
  intro pins s σ H xs us Q I r h
  obtain ⟨a, ns, rfl, hq, hne, q⟩:=h
  obtain ⟨u, rfl, ru⟩:=Gw r
  cases ru
  obtain ⟨its, rv, pl, hz⟩:=I.tuple hq
  have hlen : its.length = ns.length:=by have:=rv.length; simpa using this.symm
  have hlt : a < s.heap.objs.size:=by obtain ⟨o, ho, _⟩:=pl; exact Heap.lt_size ho
  refine call_max_walk (wpAny_pyIter_tuple pl ?_)
  refine ⟨s.heap.objs.size, _, _, _, _, _, _, rfl, Walks.tuple (prog:=X.prog) (w:=X.w) (A:=X.A.in1) (I.ok.hd hc) s.heap.objs.size a (Nat.ne_of_lt hlt) its.toArray, ⟨⟨_, Heap.get?_push_size _ rfl, rfl, rfl⟩, (show s.heap.IsTuple a its.toArray from pl).at fun o e=>Heap.get?_push_of_some _ e⟩, fun b hb=>?_, by rw [List.size_toArray, hlen]; exact hne, CmpOf.ints_gt (fun i=>ns.getD i 0) (FV rv), fun v h' tk hP hk=>?_⟩
  . rcases List.mem_cons.mp hb with e | hb
    . rw [e, Heap.size_push]; exact Nat.lt_succ_self _
    . rw [List.mem_singleton.mp hb, Heap.size_push]; exact Nat.lt_succ_of_lt hlt
  . have I2 : Inv X pins σ H { s with heap:=h', toks:=tk }:=I.kept (t':=tk) fun b o e=>hk b o (fun hm=>by
      rw [List.mem_singleton.mp hm] at e
      exact absurd (Heap.lt_size e) (Nat.lt_irrefl _)) (Heap.get?_push_of_some _ e)
    obtain ⟨t, rfl⟩:=FV rv _ _ hP
    refine ⟨.int (KL ns), H, I2, ⟨t, ?_⟩, q⟩
    rw [List.size_toArray, hlen, GO ns (ns.length - 1) (by first | lia | omega), show ns.length - 1 + 1 = ns.length by first | lia | omega, List.take_length]
end
end L2
namespace L2
open PySem PySem.Spec PyProof.Rows
inductive Pay where
  | non | int (i : Int) | tag (t : Str) (xs : List Int)
  deriving DecidableEq
structure Exc where
  cls : Str
  pay : Pay
inductive Rs (α : Type) where
  | bad | err (x : Exc) | ok (a : α)
noncomputable def Rs.bind {α β : Type} : Rs α -> (α -> Rs β) -> Rs β
  | .bad, _=>.bad
  | .err x, _=>.err x
  | .ok a, f=>f a
theorem Rs.ok_bind {α β : Type} (a : α) (f : α -> Rs β) : (Rs.ok a).bind f = f a:=rfl
noncomputable def chk {α : Type} (c : Prop) [Decidable c] (m : Rs α) : Rs α:=if c then m else .bad
theorem XF {α : Type} {c : Prop} [Decidable c] {m : Rs α} (h : c) : chk c m = m:=if_pos h
noncomputable abbrev XO:=Addr × HO
noncomputable def HX : HO -> Bool
  | .lst _=>true
  | .dK _=>true
  | .dT _=>true
  | _=>false
noncomputable def fl (OO : List (List XO)) : List Addr:=OO.flatten.map (·.1)
open Classical in
noncomputable def hid (H : Hp) (OO : List (List XO)) : Hp:=fun b=>if b ∈ fl OO then none else H b
structure W (OO : List (List XO)) (H : Hp) : Prop where
  tr : ∀ c ∈ OO.flatten, H c.1 = some c.2
  nd : (fl OO).Nodup
  mu : ∀ c ∈ OO.flatten, HX c.2 = true
theorem YB {H : Hp} {OO} {b : Addr} {o : HO} (h : hid H OO b = some o) : H b = some o /\ b ∉ fl OO:=by
  unfold hid at h
  split at h
  . cases h
  . exact ⟨h, by assumption⟩
theorem Qk {H : Hp} {OO} {b : Addr} {o : HO} (h : H b = some o) (n : b ∉ fl OO) : hid H OO b = some o:=by
  unfold hid; rw [if_neg n]; exact h
theorem XN {H : Hp} {OO} : XD (hid H OO) H:=fun b o h=>(YB h).1
theorem Xj {H H' : Hp} {OO} (s : XD H H') : XD (hid H OO) (hid H' OO):=fun b o h=>Qk (s _ _ (YB h).1) (YB h).2
theorem Jt {H H' : Hp} {OO OO'} (s : XD H H') (h : ∀ b, b ∈ fl OO' -> b ∈ fl OO) : XD (hid H OO) (hid H' OO'):=fun b o q=>Qk (s _ _ (YB q).1) fun z=>(YB q).2 (h b z)
theorem YS {C : List XO} {OO} : fl (C :: OO) = C.map (·.1) ++ fl OO:=by simp [fl]
theorem CQ {OO} : fl ([] :: OO) = fl OO:=by simp [fl]
theorem Zj {H : Hp} {OO} : hid H ([] :: OO) = hid H OO:=by unfold hid; rw [CQ]
theorem W.keep {OO} {H H' : Hp} (w : W OO H) (s : XD H H') : W OO H':=⟨fun c hc=>s _ _ (w.tr c hc), w.nd, w.mu⟩
theorem W.of {OO OO' : List (List XO)} {H : Hp} (w : W OO H) (h : OO'.flatten.Perm OO.flatten) : W OO' H:=
  ⟨fun c hc=>w.tr c (h.mem_iff.mp hc), (h.map _).nodup_iff.mpr w.nd, fun c hc=>w.mu c (h.mem_iff.mp hc)⟩
theorem W.sub {OO OO' : List (List XO)} {H : Hp} (w : W OO H) (h : OO'.flatten.Sublist OO.flatten) : W OO' H:=
  ⟨fun c hc=>w.tr c (h.mem hc), (h.map _).nodup w.nd, fun c hc=>w.mu c (h.mem hc)⟩
theorem W.tail {C OO} {H : Hp} (w : W (C :: OO) H) : W OO H:=w.sub (by simp)
theorem W.nil {OO} {H : Hp} (w : W OO H) : W ([] :: OO) H:=w.of (by simp)
theorem W.cell {C OO} {H : Hp} (w : W (C :: OO) H) : ∀ c ∈ C, H c.1 = some c.2:=fun c hc=>w.tr c (by simp [hc])
theorem Ue {OO : List (List XO)} {c : XO} (h : c ∈ OO.flatten) : c.1 ∈ fl OO:=List.mem_map.mpr ⟨c, h, rfl⟩
theorem DB {OO : List (List XO)} {b : Addr} (h : b ∈ fl OO) : ∃ o, (b, o) ∈ OO.flatten:=by
  obtain ⟨⟨a, o⟩, hc, rfl⟩:=List.mem_map.mp h
  exact ⟨o, hc⟩
theorem W.fresh {OO} {H : Hp} (w : W OO H) {p : Addr} (h : H p = none) : p ∉ fl OO:=fun z=>by
  obtain ⟨o, ho⟩:=DB z
  have:=w.tr _ ho
  rw [h] at this; cases this
theorem W.new {OO} {H : Hp} (w : W OO H) {p : Addr} (h : H p = none) {o : HO} (m : HX o = true) : W ([(p, o)] :: OO) (upd H p o):=by
  have hf:=w.fresh h
  refine ⟨fun c hc=>?_, ?_, fun c hc=>?_⟩
  . simp only [List.flatten_cons, List.cons_append, List.nil_append, List.mem_cons] at hc
    rcases hc with rfl | hc
    . exact YM
    . rw [XQ (fun e=>hf (by rw [← e]; exact Ue hc))]; exact w.tr c hc
  . rw [YS]; simpa using ⟨hf, w.nd⟩
  . simp only [List.flatten_cons, List.cons_append, List.nil_append, List.mem_cons] at hc
    rcases hc with rfl | hc
    . exact m
    . exact w.mu c hc
theorem VW {OO} {H : Hp} {p : Addr} (h : H p = none) {o : HO} : XD (hid H OO) (hid (upd H p o) ([(p, o)] :: OO)):=fun b u q=>by
  obtain ⟨q1, q2⟩:=YB q
  have hb : b ≠ p:=XR q1 h
  refine Qk (by rw [XQ hb]; exact q1) ?_
  rw [YS]; simpa using ⟨hb, q2⟩
theorem Jj {OO} {H : Hp} (w : W OO H) {p : Addr} (h : H p = none) {o : HO} : hid (upd H p o) OO p = some o:=Qk YM (w.fresh h)
class MonoE {α : Type} (r : Enc α) : Prop where
  mono : ∀ {K : PySem.W.Frag} {H H' : Hp} {v : V} {a : α}, XD H H' -> r K H v a -> r K H' v a
noncomputable def LW : HO -> Bool
  | .tup _=>true
  | .frz _ _=>true
  | _=>false
noncomputable def VY (H H' : Hp) : Prop:=∀ b o, H b = some o -> LW o = true -> H' b = some o
theorem XD.i {H H' : Hp} (s : XD H H') : VY H H':=fun b o h _=>s b o h
theorem W.i {OO} {H : Hp} (w : W OO H) : VY H (hid H OO):=fun b o h i=>Qk h fun z=>by
  obtain ⟨u, hu⟩:=DB z
  have h1:=w.tr _ hu
  have h2:=w.mu _ hu
  rw [h] at h1
  have e : o = u:=Option.some.inj h1
  subst e
  revert i h2; cases o <;> simp [LW, HX]
theorem VY.trans {H H1 H2 : Hp} (a : VY H H1) (b : VY H1 H2) : VY H H2:=fun c o h i=>b c o (a c o h i) i
class FlatE {α : Type} (r : Enc α) : Prop where
  flat : ∀ {K : PySem.W.Frag} {H H' : Hp} {v : V} {a : α}, VY H H' -> r K H v a -> r K H' v a
instance {α : Type} {r : Enc α} [f : FlatE r] : MonoE r:=⟨fun s h=>f.flat s.i h⟩
noncomputable def XT : Enc Bool:=fun _ _ v b=>v = .bl b
noncomputable def rV {α : Type} (r : Enc α) : Enc (List α):=fun K H v as=>∃ a xs, v = .ref a /\ H a = some (.lst xs) /\ Paired (r K H) xs as
noncomputable def rPL {α : Type} (r : Enc α) : Enc (List α):=fun K H v as=>∃ a xs, v = .ref a /\ H a = some (.tup xs) /\ Paired (r K H) xs as
noncomputable def rP2 {α β : Type} (r : Enc α) (q : Enc β) : Enc (α × β):=fun K H v p=>∃ a x y, v = .ref a /\ H a = some (.tup [x, y]) /\ r K H x p.1 /\ q K H y p.2
noncomputable def rP3 {α β γ : Type} (r : Enc α) (q : Enc β) (t : Enc γ) : Enc (α × β × γ):=fun K H v p=>∃ a x y z, v = .ref a /\ H a = some (.tup [x, y, z]) /\ r K H x p.1 /\ q K H y p.2.1 /\ t K H z p.2.2
instance {α : Type} {r : Enc α} [m : MonoE r] : MonoE (rV r):=⟨fun s r9=>by obtain ⟨a, xs, e, q, p⟩:=r9; exact ⟨a, xs, e, s _ _ q, Paired.imp2 (fun _ _ z=>m.mono s z) p⟩⟩
instance {α : Type} {r : Enc α} [m : MonoE r] : MonoE (rPL r):=⟨fun s r9=>by obtain ⟨a, xs, e, q, p⟩:=r9; exact ⟨a, xs, e, s _ _ q, Paired.imp2 (fun _ _ z=>m.mono s z) p⟩⟩
instance {α : Type} {r : Enc α} [m : FlatE r] : FlatE (rPL r):=⟨fun s r9=>by obtain ⟨a, xs, e, q, p⟩:=r9; exact ⟨a, xs, e, s _ _ q rfl, Paired.imp2 (fun _ _ z=>m.flat s z) p⟩⟩
instance {α β : Type} {r : Enc α} {q : Enc β} [m : MonoE r] [n : MonoE q] : MonoE (rP2 r q):=⟨fun s r9=>by obtain ⟨a, x, y, e, h, p1, p2⟩:=r9; exact ⟨a, x, y, e, s _ _ h, m.mono s p1, n.mono s p2⟩⟩
instance {α β : Type} {r : Enc α} {q : Enc β} [m : FlatE r] [n : FlatE q] : FlatE (rP2 r q):=⟨fun s r9=>by obtain ⟨a, x, y, e, h, p1, p2⟩:=r9; exact ⟨a, x, y, e, s _ _ h rfl, m.flat s p1, n.flat s p2⟩⟩
instance {α β γ : Type} {r : Enc α} {q : Enc β} {t : Enc γ} [m : MonoE r] [n : MonoE q] [k : MonoE t] : MonoE (rP3 r q t):=⟨fun s r9=>by obtain ⟨a, x, y, z, e, h, p1, p2, p3⟩:=r9; exact ⟨a, x, y, z, e, s _ _ h, m.mono s p1, n.mono s p2, k.mono s p3⟩⟩
instance {α β γ : Type} {r : Enc α} {q : Enc β} {t : Enc γ} [m : FlatE r] [n : FlatE q] [k : FlatE t] : FlatE (rP3 r q t):=⟨fun s r9=>by obtain ⟨a, x, y, z, e, h, p1, p2, p3⟩:=r9; exact ⟨a, x, y, z, e, s _ _ h rfl, m.flat s p1, n.flat s p2, k.flat s p3⟩⟩
instance : FlatE Xa:=⟨fun _ h=>h⟩
instance : FlatE XT:=⟨fun _ h=>h⟩
instance {α : Type} {r : Enc α} [m : MonoE r] : MonoE (rL r):=⟨fun s r9=>by obtain ⟨a, xs, e, q, p⟩:=r9; exact ⟨a, xs, e, s.seq q, Paired.imp2 (fun _ _ z=>m.mono s z) p⟩⟩
noncomputable abbrev OE (α : Type):=PySem.W.Frag -> Hp -> V -> α -> List XO -> Prop
inductive P3 {α β γ : Type} (F : α -> β -> γ -> Prop) : List α -> List β -> List γ -> Prop where
  | nil : P3 F [] [] []
  | cons {a b c l m n} : F a b c -> P3 F l m n -> P3 F (a :: l) (b :: m) (c :: n)
noncomputable def oF {α : Type} (r : Enc α) : OE α:=fun K h v a C=>C = [] /\ r K h v a
noncomputable def oL {α : Type} (o : OE α) : OE (List α):=fun K h v as C=>∃ p xs Cs, v = .ref p /\ P3 (o K h) xs as Cs /\ C = (p, .lst xs) :: Cs.flatten
noncomputable def oT2 {α β : Type} (o : OE α) (q : OE β) : OE (α × β):=fun K h v a C=>∃ p x y C1 C2, v = .ref p /\ h p = some (.tup [x, y]) /\ o K h x a.1 C1 /\ q K h y a.2 C2 /\ C = C1 ++ C2
section
variable {α β γ δ : Type}
theorem P3.imp {F G : α -> β -> γ -> Prop} (h : ∀ a b c, F a b c -> G a b c) : ∀ {l m n}, P3 F l m n -> P3 G l m n:=fun p=>by
  induction p with
  | nil=>exact .nil
  | cons r _ ih=>exact .cons (h _ _ _ r) ih
theorem P3.app {F : α -> β -> γ -> Prop} : ∀ {l m n l' m' n'}, P3 F l m n -> P3 F l' m' n' -> P3 F (l ++ l') (m ++ m') (n ++ n'):=fun p h=>by
  induction p with
  | nil=>exact h
  | cons r _ ih=>exact .cons r ih
theorem P3.snoc {F : α -> β -> γ -> Prop} {l m n a b c} (h : P3 F l m n) (r : F a b c) : P3 F (l ++ [a]) (m ++ [b]) (n ++ [c]):=h.app (.cons r .nil)
theorem P3.len {F : α -> β -> γ -> Prop} : ∀ {l m n}, P3 F l m n -> l.length = m.length /\ n.length = m.length:=fun p=>by
  induction p with
  | nil=>exact ⟨rfl, rfl⟩
  | cons _ _ ih=>exact ⟨congrArg Nat.succ ih.1, congrArg Nat.succ ih.2⟩
theorem P3.pair {F : α -> β -> γ -> Prop} {G : α -> β -> Prop} : ∀ {l m n}, P3 F l m n -> (∀ a b c, c ∈ n -> F a b c -> G a b) -> Paired G l m:=fun p h=>by
  induction p with
  | nil=>exact .nil
  | cons r _ ih=>exact .cons (h _ _ _ List.mem_cons_self r) (ih fun a b c hc=>h a b c (List.mem_cons_of_mem _ hc))
theorem P3.get {F : α -> β -> γ -> Prop} : ∀ {l m n} {i : Nat} {b : β}, P3 F l m n -> m[i]? = some b -> ∃ a c, l[i]? = some a /\ n[i]? = some c /\ F a b c
  | _, _, _, _, _, .nil, e=>by simp at e
  | _, _, _, 0, _, .cons r _, e=>by simp at e; subst e; exact ⟨_, _, rfl, rfl, r⟩
  | _, _, _, i + 1, b, .cons _ t, e=>by
    obtain ⟨a, c, h1, h2, h3⟩:=P3.get (i:=i) (b:=b) t (by simpa using e)
    exact ⟨a, c, by simpa using h1, by simpa using h2, h3⟩
theorem P3.set {F : α -> β -> γ -> Prop} {a : α} {b : β} {c : γ} (r : F a b c) : ∀ {l m n} (i : Nat), P3 F l m n -> P3 F (l.set i a) (m.set i b) (n.set i c)
  | _, _, _, _, .nil=>.nil
  | _, _, _, 0, .cons _ t=>.cons r t
  | _, _, _, i + 1, .cons q t=>.cons q (P3.set r i t)
theorem P3.flat {F : α -> β -> Prop} : ∀ {l : List α} {m : List β} {n : List (List XO)}, P3 (fun a b c=>c = [] /\ F a b) l m n -> Paired F l m /\ n.flatten = []:=fun p=>by
  induction p with
  | nil=>exact ⟨.nil, rfl⟩
  | cons r _ ih=>exact ⟨.cons r.2 ih.1, by rw [List.flatten_cons, r.1, ih.2]; rfl⟩
theorem P3.of {F : α -> β -> Prop} : ∀ {l : List α} {m : List β}, Paired F l m -> P3 (fun a b (c : List XO)=>c = [] /\ F a b) l m (List.replicate m.length [])
  | _, _, .nil=>.nil
  | _, _, .cons r t=>.cons ⟨rfl, r⟩ (P3.of t)
theorem YO : ∀ n : Nat, (List.replicate n ([] : List XO)).flatten = []
  | 0=>rfl
  | n + 1=>by simp [List.replicate_succ, YO n]
end
class MonoO {α : Type} (o : OE α) : Prop where
  mono : ∀ {K : PySem.W.Frag} {H H' : Hp} {v : V} {a : α} {C : List XO}, XD H H' -> o K H v a C -> o K H' v a C
class FlatO {α : Type} (o : OE α) : Prop where
  flat : ∀ {K : PySem.W.Frag} {H H' : Hp} {v : V} {a : α} {C : List XO}, VY H H' -> o K H v a C -> o K H' v a C
class FrzC {α : Type} (o : OE α) (r : outParam (Enc α)) : Prop where
  frz : ∀ {K : PySem.W.Frag} {H H' : Hp} {v : V} {a : α} {C : List XO}, o K H v a C -> XD H H' -> (∀ c ∈ C, H' c.1 = some c.2) -> r K H' v a
instance {α : Type} {r : Enc α} [m : MonoE r] : MonoO (oF r):=⟨fun s h=>⟨h.1, m.mono s h.2⟩⟩
instance {α : Type} {r : Enc α} [m : FlatE r] : FlatO (oF r):=⟨fun s h=>⟨h.1, m.flat s h.2⟩⟩
instance {α : Type} {r : Enc α} [m : MonoE r] : FrzC (oF r) r:=⟨fun h s _=>m.mono s h.2⟩
instance {α : Type} {o : OE α} [m : MonoO o] : MonoO (oL o):=⟨fun s r9=>by obtain ⟨p, xs, Cs, e, q, c⟩:=r9; exact ⟨p, xs, Cs, e, q.imp fun _ _ _ z=>m.mono s z, c⟩⟩
instance {α : Type} {o : OE α} [m : FlatO o] : FlatO (oL o):=⟨fun s r9=>by obtain ⟨p, xs, Cs, e, q, c⟩:=r9; exact ⟨p, xs, Cs, e, q.imp fun _ _ _ z=>m.flat s z, c⟩⟩
instance {α : Type} {o : OE α} {r : Enc α} [m : FrzC o r] : FrzC (oL o) (rV r):=⟨fun ⟨p, xs, Cs, e, q, c⟩ s hc=>by
  subst c
  exact ⟨p, xs, e, hc _ List.mem_cons_self, q.pair fun a b c hm z=>m.frz z s fun x hx=>hc x (List.mem_cons_of_mem _ (List.mem_flatten.mpr ⟨c, hm, hx⟩))⟩⟩
instance {α β : Type} {o : OE α} {q : OE β} [m : MonoO o] [n : MonoO q] : MonoO (oT2 o q):=⟨fun s r9=>by obtain ⟨p, x, y, C1, C2, e, h, h1, h2, c⟩:=r9; exact ⟨p, x, y, C1, C2, e, s _ _ h, m.mono s h1, n.mono s h2, c⟩⟩
instance {α β : Type} {o : OE α} {q : OE β} [m : FlatO o] [n : FlatO q] : FlatO (oT2 o q):=⟨fun s r9=>by obtain ⟨p, x, y, C1, C2, e, h, h1, h2, c⟩:=r9; exact ⟨p, x, y, C1, C2, e, s _ _ h rfl, m.flat s h1, n.flat s h2, c⟩⟩
instance {α β : Type} {o : OE α} {q : OE β} {r : Enc α} {t : Enc β} [m : FrzC o r] [n : FrzC q t] : FrzC (oT2 o q) (rP2 r t):=⟨fun ⟨p, x, y, C1, C2, e, h, h1, h2, c⟩ s hc=>by
  subst c
  exact ⟨p, x, y, e, s _ _ h, m.frz h1 s fun c hm=>hc c (by simp [hm]), n.frz h2 s fun c hm=>hc c (by simp [hm])⟩⟩
structure SC where
  p : Hp -> Prop
  mono : ∀ h h', XD h h' -> p h -> p h'
noncomputable def SC.nil : SC:=⟨fun _=>True, fun _ _ _ _=>True.intro⟩
noncomputable def SC.and (S T : SC) : SC:=⟨fun h=>S.p h /\ T.p h, fun _ _ s q=>⟨S.mono _ _ s q.1, T.mono _ _ s q.2⟩⟩
noncomputable def SC.one {α : Type} (K : PySem.W.Frag) (r : Enc α) [m : MonoE r] (v : V) (a : α) : SC:=⟨fun h=>r K h v a, fun _ _ s q=>m.mono s q⟩
noncomputable def SC.oneO {α : Type} (K : PySem.W.Frag) (o : OE α) [m : MonoO o] (v : V) (a : α) (C : List XO) : SC:=⟨fun h=>o K h v a C, fun _ _ s q=>m.mono s q⟩
noncomputable abbrev SC.add {α : Type} (S : SC) (K : PySem.W.Frag) (r : Enc α) [m : MonoE r] (v : V) (a : α) : SC:=S.and (SC.one K r v a)
noncomputable abbrev SC.addO {α : Type} (S : SC) (K : PySem.W.Frag) (o : OE α) [m : MonoO o] (v : V) (a : α) (C : List XO) : SC:=S.and (SC.oneO K o v a C)
theorem SC.l {S T : SC} {h : Hp} (q : (S.and T).p h) : S.p h:=q.1
theorem SC.r {S T : SC} {h : Hp} (q : (S.and T).p h) : T.p h:=q.2
theorem SC.i {S T : SC} {h : Hp} (q : S.p h) (p : T.p h) : (S.and T).p h:=⟨q, p⟩
theorem SC.t {h : Hp} : SC.nil.p h:=True.intro
theorem SC.p.l {S T : SC} {h : Hp} (q : (S.and T).p h) : S.p h:=q.1
theorem SC.p.r {S T : SC} {h : Hp} (q : (S.and T).p h) : T.p h:=q.2
noncomputable def PZ {β : Type} (Er : Exc -> Hp -> Prop) (F : β -> Hp -> Prop) (H : Hp) (m : Rs β) : Prop:=
  match m with
  | .bad=>False
  | .err x=>∀ H', XD H H' -> Er x H'
  | .ok b=>F b H
section
variable (K : PySem.W.Frag) (Er : Exc -> Hp -> Prop) (S : SC) (OO OO' : List (List XO)) (σ : St)
noncomputable def FB {α : Type} (r : Enc α) (Q : VK) (a : α) (H : Hp) : Prop:=∀ v H', XD H H' -> r K H' v a -> Q v H'
noncomputable def FO {α : Type} (o : OE α) (Q : VK) (a : α) (H : Hp) : Prop:=∀ v C H', XD H H' -> W (C :: OO') H' -> XD (hid H OO) (hid H' (C :: OO')) -> o K (hid H' (C :: OO')) v a C -> Q v H'
noncomputable def FT (Q : Bool -> Hp -> Prop) (b : Bool) (H : Hp) : Prop:=∀ H', XD H H' -> Q b H'
noncomputable def EvB {α : Type} (te : TE) (r : Enc α) (m : Rs α) : Prop:=∀ H Q, W OO H -> S.p (hid H OO) -> PZ Er (FB K r Q) H m -> te σ H Q
noncomputable def Ev {α : Type} (te : TE) (o : OE α) (m : Rs α) : Prop:=∀ H Q, W OO H -> S.p (hid H OO) -> PZ Er (FO K OO OO' o Q) H m -> te σ H Q
noncomputable def EvT (tt : TT) (m : Rs Bool) : Prop:=∀ H Q, W OO H -> S.p (hid H OO) -> PZ Er (FT Q) H m -> tt σ H Q
end
section
variable {K : PySem.W.Frag} {Er : Exc -> Hp -> Prop} {S : SC} {OO OO' OO2 : List (List XO)} {σ : St} {α β γ : Type}
theorem FB.tr {r : Enc α} {Q : VK} : ∀ a H H', XD H H' -> FB K r Q a H -> FB K r Q a H':=fun a H H' s h v H2 s2 q=>h v H2 (s.trans s2) q
theorem FO.tr {o : OE α} {Q : VK} : ∀ a H H', XD H H' -> FO K OO OO' o Q a H -> FO K OO OO' o Q a H':=fun a H H' s h v C H2 s2 w m q=>h v C H2 (s.trans s2) w ((Xj s).trans m) q
theorem FT.tr {Q : Bool -> Hp -> Prop} : ∀ b H H', XD H H' -> FT Q b H -> FT Q b H':=fun a H H' s h H2 s2=>h H2 (s.trans s2)
theorem EvB.run {te : TE} {r : Enc α} {m : Rs α} (he : EvB K Er S OO σ te r m) {H : Hp} {Q : VK} (w : W OO H) (s : S.p (hid H OO)) {f : α -> Rs β} {F : β -> Hp -> Prop} (hF : ∀ b H H', XD H H' -> F b H -> F b H') (P : PZ Er F H (m.bind f))
    (hk : ∀ a v H', XD H H' -> W OO H' -> S.p (hid H' OO) -> r K H' v a -> PZ Er F H' (f a) -> Q v H') : te σ H Q:=by
  refine he H Q w s ?_
  cases m with
  | bad=>exact P
  | err x=>exact P
  | ok a=>
    intro v H' s' hr
    refine hk a v H' s' (w.keep s') (S.mono _ _ (Xj s') s) hr ?_
    have P' : PZ Er F H (f a):=P
    revert P'
    cases f a with
    | bad=>exact fun z=>z
    | err x=>exact fun z H2 s2=>z H2 (s'.trans s2)
    | ok b=>exact fun z=>hF b H H' s' z
theorem Ev.run {te : TE} {o : OE α} {m : Rs α} (he : Ev K Er S OO OO' σ te o m) {H : Hp} {Q : VK} (w : W OO H) (s : S.p (hid H OO)) {f : α -> Rs β} {F : β -> Hp -> Prop} (hF : ∀ b H H', XD H H' -> F b H -> F b H') (P : PZ Er F H (m.bind f))
    (hk : ∀ a v C H', XD H H' -> W (C :: OO') H' -> XD (hid H OO) (hid H' (C :: OO')) -> S.p (hid H' (C :: OO')) -> o K (hid H' (C :: OO')) v a C -> PZ Er F H' (f a) -> Q v H') : te σ H Q:=by
  refine he H Q w s ?_
  cases m with
  | bad=>exact P
  | err x=>exact P
  | ok a=>
    intro v C H' s' w' m' ho
    refine hk a v C H' s' w' m' (S.mono _ _ m' s) ho ?_
    have P' : PZ Er F H (f a):=P
    revert P'
    cases f a with
    | bad=>exact fun z=>z
    | err x=>exact fun z H2 s2=>z H2 (s'.trans s2)
    | ok b=>exact fun z=>hF b H H' s' z
theorem EvT.run {tt : TT} {m : Rs Bool} (he : EvT Er S OO σ tt m) {H : Hp} {Q : Bool -> Hp -> Prop} (w : W OO H) (s : S.p (hid H OO)) {f : Bool -> Rs β} {F : β -> Hp -> Prop} (hF : ∀ b H H', XD H H' -> F b H -> F b H') (P : PZ Er F H (m.bind f))
    (hk : ∀ b H', XD H H' -> W OO H' -> S.p (hid H' OO) -> PZ Er F H' (f b) -> Q b H') : tt σ H Q:=by
  refine he H Q w s ?_
  cases m with
  | bad=>exact P
  | err x=>exact P
  | ok a=>
    intro H' s'
    refine hk a H' s' (w.keep s') (S.mono _ _ (Xj s') s) ?_
    have P' : PZ Er F H (f a):=P
    revert P'
    cases f a with
    | bad=>exact fun z=>z
    | err x=>exact fun z H2 s2=>z H2 (s'.trans s2)
    | ok b=>exact fun z=>hF b H H' s' z
theorem Ev.toB {te : TE} {o : OE α} {r : Enc α} [z : FrzC o r] {m : Rs α} (he : Ev K Er S OO OO σ te o m) : EvB K Er S OO σ te r m:=fun H Q w s P=>by
  refine he H Q w s ?_
  cases m with
  | bad=>exact P
  | err x=>exact P
  | ok a=>exact fun v C H' s' w' m' ho=>P v H' s' (z.frz ho XN w'.cell)
theorem Ev.frz {te : TE} {o : OE α} {r : Enc α} [z : FrzC o r] {m : Rs α} (he : Ev K Er S OO OO' σ te o m) : Ev K Er S OO OO' σ te (oF r) m:=fun H Q w s P=>by
  refine he H Q w s ?_
  cases m with
  | bad=>exact P
  | err x=>exact P
  | ok a=>
    intro v C H' s' w' m' ho
    have hs : XD (hid H' (C :: OO')) (hid H' ([] :: OO')):=Jt (XD.refl _) fun b hb=>by rw [CQ] at hb; rw [YS]; simp [hb]
    refine P v [] H' s' w'.tail.nil (m'.trans hs) ⟨rfl, z.frz ho hs fun c hc=>Qk (w'.cell c hc) ?_⟩
    rw [CQ]
    have:=w'.nd
    rw [YS] at this
    intro hb
    exact (List.nodup_append.mp this).2.2 c.1 (List.mem_map.mpr ⟨c, hc, rfl⟩) c.1 hb rfl
theorem EvB.flat {te : TE} {r : Enc α} [z : FlatE r] {m : Rs α} (he : EvB K Er S OO σ te r m) : Ev K Er S OO OO σ te (oF r) m:=fun H Q w s P=>by
  refine he H Q w s ?_
  cases m with
  | bad=>exact P
  | err x=>exact P
  | ok a=>
    intro v H' s' hr
    have w':=w.keep s'
    exact P v [] H' s' w'.nil (by rw [Zj]; exact Xj s') ⟨rfl, by rw [Zj]; exact z.flat w'.i hr⟩
theorem Xb {r : Enc α} [z : MonoE r] {v : V} {a : α} (i : Nat) (hσ : σ[i]? = some (some v)) (h : ∀ x, S.p x -> r K x v a) : EvB K Er S OO σ (UV i) r (.ok a):=fun H Q w s P=>
  ⟨v, hσ, P v H (XD.refl _) (z.mono XN (h _ s))⟩
theorem Za {o : OE α} {r : Enc α} [z : FrzC o r] {v : V} {a : α} {C : List XO} (i k : Nat) (hσ : σ[i]? = some (some v)) (hk : OO[k]? = some C) (h : ∀ x, S.p x -> o K x v a C) : EvB K Er S OO σ (UV i) r (.ok a):=fun H Q w s P=>
  ⟨v, hσ, P v H (XD.refl _) (z.frz (h _ s) XN fun c hc=>w.tr c (List.mem_flatten.mpr ⟨C, List.mem_of_getElem? hk, hc⟩))⟩
theorem Yh : ∀ {OO : List (List XO)} {k : Nat} {C : List XO}, OO[k]? = some C -> (C :: OO.set k []).flatten.Perm OO.flatten
  | [], _, _, h=>by simp at h
  | D :: OO, 0, C, h=>by simp at h; subst h; simp
  | D :: OO, k + 1, C, h=>by
    have:=Yh (OO:=OO) (k:=k) (C:=C) (by simpa using h)
    simp only [List.set_cons_succ, List.flatten_cons] at this ⊢
    refine List.Perm.trans ?_ (this.append_left D)
    rw [← List.append_assoc, ← List.append_assoc]
    exact List.perm_append_comm.append_right _
theorem Vs {OO OO' : List (List XO)} (h : OO'.flatten.Perm OO.flatten) (b : Addr) : b ∈ fl OO' ↔ b ∈ fl OO:=(h.map (·.1)).mem_iff
theorem YL {H : Hp} {OO OO' : List (List XO)} (h : OO'.flatten.Perm OO.flatten) : hid H OO' = hid H OO:=by
  funext b; unfold hid
  by_cases hb : b ∈ fl OO
  . rw [if_pos hb, if_pos ((Vs h b).mpr hb)]
  . rw [if_neg hb, if_neg fun z=>hb ((Vs h b).mp z)]
theorem Ys {o : OE α} {v : V} {a : α} {C : List XO} (i k : Nat) (hσ : σ[i]? = some (some v)) (hk : OO[k]? = some C) (h : ∀ x, S.p x -> o K x v a C) : Ev K Er S OO (OO.set k []) σ (UV i) o (.ok a):=fun H Q w s P=>by
  have hp:=Yh hk
  exact ⟨v, hσ, P v C H (XD.refl _) (w.of hp) (by rw [YL hp]; exact XD.refl _) (by rw [YL hp]; exact h _ s)⟩
theorem Xe (n : Int) : EvB K Er S OO σ (tC (.int n)) Xa (.ok n):=fun H Q w s P=>P _ H (XD.refl _) rfl
theorem Zf (b : Bool) : EvB K Er S OO σ (tC (.bl b)) XT (.ok b):=fun H Q w s P=>P _ H (XD.refl _) rfl
theorem JG {ta tb : TE} {g : Int -> Int -> V} {r : Enc β} {f : Int -> Int -> β} {ma mb : Rs Int} (hg : ∀ K H i j, r K H (g i j) (f i j)) (ha : EvB K Er S OO σ ta Xa ma) (hb : EvB K Er S OO σ tb Xa mb) :
    EvB K Er S OO σ (tOp (rI0 g) ta tb) r (ma.bind fun a=>mb.bind fun b=>.ok (f a b)):=fun H Q w s P=>
  ha.run w s FB.tr P fun a x H1 s1 w1 q1 r1 P1=>hb.run w1 q1 FB.tr P1 fun b y H2 s2 w2 q2 r2 P2=>⟨a, b, r1, r2, P2 _ H2 (XD.refl _) (hg K H2 a b)⟩
theorem UN {ta tb : TE} {Cc : Int -> Int -> Prop} {g : Int -> Int -> V} {r : Enc β} {f : Int -> Int -> Rs β} {ma mb : Rs Int} (hg : ∀ K H i j c, f i j = .ok c -> Cc i j /\ r K H (g i j) c) (he : ∀ i j x, f i j ≠ .err x)
    (ha : EvB K Er S OO σ ta Xa ma) (hb : EvB K Er S OO σ tb Xa mb) :
    EvB K Er S OO σ (tOp (rI Cc g) ta tb) r (ma.bind fun a=>mb.bind fun b=>f a b):=fun H Q w s P=>
  ha.run w s FB.tr P fun a x H1 s1 w1 q1 r1 P1=>hb.run w1 q1 FB.tr P1 fun b y H2 s2 w2 q2 r2 P2=>by
    cases e : f a b with
    | bad=>rw [e] at P2; exact P2.elim
    | err x=>exact absurd e (he a b x)
    | ok c=>
      rw [e] at P2
      obtain ⟨h1, h2⟩:=hg K H2 a b c e
      exact ⟨a, b, r1, r2, h1, P2 _ H2 (XD.refl _) h2⟩
noncomputable def QT (a b : Int) : Rs Int:=chk ((-(2 ^ 64) < a /\ a < 2 ^ 64) ∨ (-(2 ^ 64) < b /\ b < 2 ^ 64)) (.ok (a * b))
noncomputable def QL (a b : Int) : Rs Int:=chk (0 < b) (.ok (a % b))
noncomputable def HQ (a b : Int) : Rs Int:=chk (0 < b /\ b.natAbs.log2 < 9000) (.ok (a / b))
noncomputable def IT (a b : Int) : Rs Int:=chk (0 <= b /\ b <= 1000000 /\ a.natAbs < 2 ^ 64) (.ok (a ^ b.toNat))
theorem ZM {c : Prop} [Decidable c] {m : Rs α} {a : α} (h : chk c m = .ok a) : c /\ m = .ok a:=by
  unfold chk at h; split at h
  . exact ⟨by assumption, h⟩
  . cases h
theorem QP {c : Prop} [Decidable c] {a : α} {x : Exc} : chk c (Rs.ok a) ≠ .err x:=by
  unfold chk; split <;> exact fun z=>nomatch z
theorem Yd {ta tb : TE} {ma mb : Rs Int} (ha : EvB K Er S OO σ ta Xa ma) (hb : EvB K Er S OO σ tb Xa mb) : EvB K Er S OO σ (tOp (rI Ii fun i j=>.int (i * j)) ta tb) Xa (ma.bind fun a=>mb.bind fun b=>QT a b):=
  UN (fun K H i j c h=>by obtain ⟨h1, h2⟩:=ZM h; cases h2; exact ⟨h1, rfl⟩) (fun i j x=>QP) ha hb
theorem X3 {ta tb : TE} {ma mb : Rs Int} (ha : EvB K Er S OO σ ta Xa ma) (hb : EvB K Er S OO σ tb Xa mb) : EvB K Er S OO σ (tOp (rI (fun _ j=>0 < j) fun i j=>.int (i % j)) ta tb) Xa (ma.bind fun a=>mb.bind fun b=>QL a b):=
  UN (fun K H i j c h=>by obtain ⟨h1, h2⟩:=ZM h; cases h2; exact ⟨h1, rfl⟩) (fun i j x=>QP) ha hb
theorem KU {ta tb : TE} {ma mb : Rs Int} (ha : EvB K Er S OO σ ta Xa ma) (hb : EvB K Er S OO σ tb Xa mb) : EvB K Er S OO σ (tOp (rI (fun _ j=>0 < j /\ j.natAbs.log2 < 9000) fun i j=>.int (i / j)) ta tb) Xa (ma.bind fun a=>mb.bind fun b=>HQ a b):=
  UN (fun K H i j c h=>by obtain ⟨h1, h2⟩:=ZM h; cases h2; exact ⟨h1, rfl⟩) (fun i j x=>QP) ha hb
theorem Gv {ta tb : TE} {ma mb : Rs Int} (ha : EvB K Er S OO σ ta Xa ma) (hb : EvB K Er S OO σ tb Xa mb) : EvB K Er S OO σ (tOp (rI LZ fun i j=>.int (i ^ j.toNat)) ta tb) Xa (ma.bind fun a=>mb.bind fun b=>IT a b):=
  UN (fun K H i j c h=>by obtain ⟨h1, h2⟩:=ZM h; cases h2; exact ⟨h1, rfl⟩) (fun i j x=>QP) ha hb
theorem XL {ta tb : TE} {ma mb : Rs Int} (ha : EvB K Er S OO σ ta Xa ma) (hb : EvB K Er S OO σ tb Xa mb) : EvB K Er S OO σ (tOp (rI0 fun i j=>.int (i + j)) ta tb) Xa (ma.bind fun a=>mb.bind fun b=>.ok (a + b)):=JG (fun _ _ _ _=>rfl) ha hb
theorem Y6 {ta tb : TE} {ma mb : Rs Int} (ha : EvB K Er S OO σ ta Xa ma) (hb : EvB K Er S OO σ tb Xa mb) : EvB K Er S OO σ (tOp (rI0 fun i j=>.int (i - j)) ta tb) Xa (ma.bind fun a=>mb.bind fun b=>.ok (a - b)):=JG (fun _ _ _ _=>rfl) ha hb
theorem Zv {ta tb : TE} {ma mb : Rs Int} (ha : EvB K Er S OO σ ta Xa ma) (hb : EvB K Er S OO σ tb Xa mb) : EvB K Er S OO σ (tOp (rI0 fun i j=>.bl (decide (i < j))) ta tb) XT (ma.bind fun a=>mb.bind fun b=>.ok (decide (a < b))):=JG (fun _ _ _ _=>rfl) ha hb
theorem IL {ta tb : TE} {ma mb : Rs Int} (ha : EvB K Er S OO σ ta Xa ma) (hb : EvB K Er S OO σ tb Xa mb) : EvB K Er S OO σ (tOp (rI0 fun i j=>.bl (decide (i <= j))) ta tb) XT (ma.bind fun a=>mb.bind fun b=>.ok (decide (a <= b))):=JG (fun _ _ _ _=>rfl) ha hb
theorem VU {ta tb : TE} {ma mb : Rs Int} (ha : EvB K Er S OO σ ta Xa ma) (hb : EvB K Er S OO σ tb Xa mb) : EvB K Er S OO σ (tOp (rI0 fun i j=>.bl (decide (j < i))) ta tb) XT (ma.bind fun a=>mb.bind fun b=>.ok (decide (b < a))):=JG (fun _ _ _ _=>rfl) ha hb
theorem Do {ta tb : TE} {ma mb : Rs Int} (ha : EvB K Er S OO σ ta Xa ma) (hb : EvB K Er S OO σ tb Xa mb) : EvB K Er S OO σ (tOp (rI0 fun i j=>.bl (decide (j <= i))) ta tb) XT (ma.bind fun a=>mb.bind fun b=>.ok (decide (b <= a))):=JG (fun _ _ _ _=>rfl) ha hb
theorem Qw {ta : TE} {ma : Rs Int} (ha : EvB K Er S OO σ ta Xa ma) : EvB K Er S OO σ (tUn (rU fun i=>.int (-i)) ta) Xa (ma.bind fun a=>.ok (-a)):=fun H Q w s P=>
  ha.run w s FB.tr P fun a x H1 s1 w1 q1 r1 P1=>⟨a, r1, P1 _ H1 (XD.refl _) rfl⟩
class Scal {α : Type} [DecidableEq α] (r : Enc α) : Prop where
  to : ∀ {K : PySem.W.Frag} {H H' : Hp} {x y : V} {a b : α}, r K H x a -> r K H' y b -> LF x y = true /\ decide (x = y) = decide (a = b)
instance : Scal Xa:=⟨fun {K H H' x y a b} h1 h2=>by cases (show x = .int a from h1); cases (show y = .int b from h2); exact ⟨rfl, by simp⟩⟩
instance : Scal XT:=⟨fun {K H H' x y a b} h1 h2=>by cases (show x = .bl a from h1); cases (show y = .bl b from h2); exact ⟨rfl, by simp⟩⟩
theorem Zg [DecidableEq α] {r : Enc α} [z : Scal r] [MonoE r] {ta tb : TE} {ma mb : Rs α} (ha : EvB K Er S OO σ ta r ma) (hb : EvB K Er S OO σ tb r mb) : EvB K Er S OO σ (tOp rEq ta tb) XT (ma.bind fun a=>mb.bind fun b=>.ok (decide (a = b))):=fun H Q w s P=>
  ha.run w s FB.tr P fun a x H1 s1 w1 q1 r1 P1=>hb.run w1 q1 FB.tr P1 fun b y H2 s2 w2 q2 r2 P2=>by
    obtain ⟨h1, h2⟩:=z.to r1 r2
    exact ⟨h1, P2 _ H2 (XD.refl _) (by rw [h2]; rfl)⟩
theorem GI [DecidableEq α] {r : Enc α} [z : Scal r] [MonoE r] {ta tb : TE} {ma mb : Rs α} (ha : EvB K Er S OO σ ta r ma) (hb : EvB K Er S OO σ tb r mb) : EvB K Er S OO σ (tOp rNe ta tb) XT (ma.bind fun a=>mb.bind fun b=>.ok (!decide (a = b))):=fun H Q w s P=>
  ha.run w s FB.tr P fun a x H1 s1 w1 q1 r1 P1=>hb.run w1 q1 FB.tr P1 fun b y H2 s2 w2 q2 r2 P2=>by
    obtain ⟨h1, h2⟩:=z.to r1 r2
    exact ⟨h1, P2 _ H2 (XD.refl _) (by rw [h2]; rfl)⟩
theorem J1 {te : TE} {m : Rs Bool} (h : EvB K Er S OO σ te XT m) : EvT Er S OO σ (tB te) m:=fun H Q w s P=>h H _ w s (by
  cases m with
  | bad=>exact P
  | err x=>exact P
  | ok a=>exact fun v H' s' r=>⟨a, r, P H' s'⟩)
theorem Xp {te : TE} {m : Rs Bool} (h : EvB K Er S OO σ te XT m) : EvT Er S OO σ (Ld te) m:=J1 h
theorem ZY {t : TT} {m : Rs Bool} (h : EvT Er S OO σ t m) : EvT Er S OO σ (LS t) (m.bind fun b=>.ok (!b)):=fun H Q w s P=>h.run w s FT.tr P fun b H1 s1 w1 q1 P1=>P1 H1 (XD.refl _)
noncomputable def Us (a b : Rs Bool) : Rs Bool:=a.bind fun x=>if x = true then b else .ok false
noncomputable def orR (a b : Rs Bool) : Rs Bool:=a.bind fun x=>if x = true then .ok true else b
theorem Zb {t u : TT} {m n : Rs Bool} (h : EvT Er S OO σ t m) (k : EvT Er S OO σ u n) : EvT Er S OO σ (LP t u) (Us m n):=fun H Q w s P=>h.run w s FT.tr P fun b H1 s1 w1 q1 P1=>by
  cases b with
  | true=>rw [if_pos rfl] at P1 ⊢; exact k H1 Q w1 q1 P1
  | false=>exact P1 H1 (XD.refl _)
theorem KJ {t u : TT} {m n : Rs Bool} (h : EvT Er S OO σ t m) (k : EvT Er S OO σ u n) : EvT Er S OO σ (tOr t u) (orR m n):=fun H Q w s P=>h.run w s FT.tr P fun b H1 s1 w1 q1 P1=>by
  cases b with
  | true=>exact P1 H1 (XD.refl _)
  | false=>exact k H1 Q w1 q1 P1
theorem BI {t : TE} {m : Rs Bool} (h : EvB K Er S OO σ t XT m) : EvB K Er S OO σ (Ih t) XT (m.bind fun b=>.ok (!b)):=fun H Q w s P=>h.run w s FB.tr P fun b x H1 s1 w1 q1 r1 P1=>⟨b, r1, P1 _ H1 (XD.refl _) rfl⟩
theorem B7 {t u : TE} {m n : Rs Bool} (h : EvB K Er S OO σ t XT m) (k : EvB K Er S OO σ u XT n) : EvB K Er S OO σ (IK t u) XT (Us m n):=fun H Q w s P=>h.run w s FB.tr P fun b x H1 s1 w1 q1 r1 P1=>⟨b, r1, by
  cases b with
  | true=>rw [if_pos rfl] at P1 ⊢; exact k H1 Q w1 q1 P1
  | false=>exact P1 _ H1 (XD.refl _) rfl⟩
theorem Lp {c : TT} {ta tb : TE} {o : OE α} {mc : Rs Bool} {ma mb : Rs α} (hc : EvT Er S OO σ c mc) (ha : Ev K Er S OO OO' σ ta o ma) (hb : Ev K Er S OO OO' σ tb o mb) : Ev K Er S OO OO' σ (tIf c ta tb) o (mc.bind fun b=>if b = true then ma else mb):=fun H Q w s P=>
  hc.run w s FO.tr P fun b H1 s1 w1 q1 P1=>by
    cases b with
    | true=>rw [if_pos rfl] at P1 ⊢; exact ha H1 Q w1 q1 P1
    | false=>exact hb H1 Q w1 q1 P1
end
end L2
namespace L2
open PySem PySem.Spec PyProof.Rows
section
variable (K : PySem.W.Frag) (Er : Exc -> Hp -> Prop) (S : SC) (OO : List (List XO)) (σ : St)
noncomputable def FS {α : Type} (r : Enc α) (Q : VK) (a : α) (H : Hp) : Prop:=∀ v H', XD H H' -> r K (hid H' OO) v a -> Q v H'
noncomputable def EvS {α : Type} (te : TE) (r : Enc α) (m : Rs α) : Prop:=∀ H Q, W OO H -> S.p (hid H OO) -> PZ Er (FS K OO r Q) H m -> te σ H Q
noncomputable def rE {α : Type} (r : Enc α) (H : Hp) (v : V) (as : List α) : Prop:=∃ p xs, v = .ref p /\ H p = some (.lst xs) /\ Paired (r K (hid H OO)) xs as
noncomputable def FL {α : Type} (r : Enc α) (Q : VK) (as : List α) (H : Hp) : Prop:=∀ v H', XD H H' -> rE K OO r H' v as -> Q v H'
noncomputable def EvL {α : Type} (te : TE) (r : Enc α) (m : Rs (List α)) : Prop:=∀ H Q, W OO H -> S.p (hid H OO) -> PZ Er (FL K OO r Q) H m -> te σ H Q
end
section
variable {K : PySem.W.Frag} {Er : Exc -> Hp -> Prop} {S : SC} {OO OO' OO2 : List (List XO)} {σ : St} {α β γ : Type}
theorem FS.tr {r : Enc α} {Q : VK} : ∀ a H H', XD H H' -> FS K OO r Q a H -> FS K OO r Q a H':=fun a H H' s h v H2 s2 q=>h v H2 (s.trans s2) q
theorem FL.tr {r : Enc α} {Q : VK} : ∀ a H H', XD H H' -> FL K OO r Q a H -> FL K OO r Q a H':=fun a H H' s h v H2 s2 q=>h v H2 (s.trans s2) q
theorem PZ.run {F : β -> Hp -> Prop} {f : α -> Rs β} {H H' : Hp} {a : α} {m : Rs α} (hm : m = .ok a) (hF : ∀ b H H', XD H H' -> F b H -> F b H') (s : XD H H') (P : PZ Er F H (m.bind f)) : PZ Er F H' (f a):=by
  subst hm
  have P' : PZ Er F H (f a):=P
  revert P'
  cases f a with
  | bad=>exact fun z=>z
  | err x=>exact fun z H2 s2=>z H2 (s.trans s2)
  | ok b=>exact fun z=>hF b H H' s z
theorem EvS.run {te : TE} {r : Enc α} {m : Rs α} (he : EvS K Er S OO σ te r m) {H : Hp} {Q : VK} (w : W OO H) (s : S.p (hid H OO)) {f : α -> Rs β} {F : β -> Hp -> Prop} (hF : ∀ b H H', XD H H' -> F b H -> F b H') (P : PZ Er F H (m.bind f))
    (hk : ∀ a v H', XD H H' -> W OO H' -> S.p (hid H' OO) -> r K (hid H' OO) v a -> PZ Er F H' (f a) -> Q v H') : te σ H Q:=by
  refine he H Q w s ?_
  cases e : m with
  | bad=>rw [e] at P; exact P
  | err x=>rw [e] at P; exact P
  | ok a=>exact fun v H' s' hr=>hk a v H' s' (w.keep s') (S.mono _ _ (Xj s') s) hr (PZ.run e hF s' P)
theorem EvL.run {te : TE} {r : Enc α} {m : Rs (List α)} (he : EvL K Er S OO σ te r m) {H : Hp} {Q : VK} (w : W OO H) (s : S.p (hid H OO)) {f : List α -> Rs β} {F : β -> Hp -> Prop} (hF : ∀ b H H', XD H H' -> F b H -> F b H') (P : PZ Er F H (m.bind f))
    (hk : ∀ a v H', XD H H' -> W OO H' -> S.p (hid H' OO) -> rE K OO r H' v a -> PZ Er F H' (f a) -> Q v H') : te σ H Q:=by
  refine he H Q w s ?_
  cases e : m with
  | bad=>rw [e] at P; exact P
  | err x=>rw [e] at P; exact P
  | ok a=>exact fun v H' s' hr=>hk a v H' s' (w.keep s') (S.mono _ _ (Xj s') s) hr (PZ.run e hF s' P)
theorem PZ.imp {F G : β -> Hp -> Prop} {H : Hp} {m : Rs β} (P : PZ Er F H m) (h : ∀ b, m = .ok b -> F b H -> G b H) : PZ Er G H m:=by
  cases m with
  | bad=>exact P
  | err x=>exact P
  | ok b=>exact h b rfl P
theorem EvS.toB {te : TE} {r : Enc α} [z : MonoE r] {m : Rs α} (he : EvS K Er S OO σ te r m) : EvB K Er S OO σ te r m:=fun H Q w s P=>he H Q w s (P.imp fun b _ h v H' s' q=>h v H' s' (z.mono XN q))
theorem EvS.ev {te : TE} {r : Enc α} {m : Rs α} (he : EvS K Er S OO σ te r m) : Ev K Er S OO OO σ te (oF r) m:=fun H Q w s P=>he H Q w s (P.imp fun b _ h v H' s' q=>
  h v [] H' s' (w.keep s').nil (by rw [Zj]; exact Xj s') ⟨rfl, by rw [Zj]; exact q⟩)
theorem EvB.sh {te : TE} {r : Enc α} [z : FlatE r] {m : Rs α} (he : EvB K Er S OO σ te r m) : EvS K Er S OO σ te r m:=fun H Q w s P=>he H Q w s (P.imp fun b _ h v H' s' q=>h v H' s' (z.flat (w.keep s').i q))
theorem Ev.sh {te : TE} {o : OE α} {r : Enc α} [z : FrzC o r] {m : Rs α} (he : Ev K Er S OO OO σ te o m) : EvS K Er S OO σ te r m:=fun H Q w s P=>he.frz H Q w s (P.imp fun b _ h v C H' s' w' m' q=>by
  obtain ⟨rfl, q⟩:=q
  rw [Zj] at q
  exact h v H' s' q)
theorem Xl {r : Enc α} {v : V} {a : α} (i : Nat) (hσ : σ[i]? = some (some v)) (h : ∀ x, S.p x -> r K x v a) : EvS K Er S OO σ (UV i) r (.ok a):=fun H Q w s P=>⟨v, hσ, P v H (XD.refl _) (h _ s)⟩
theorem EvS.ls {te : TE} {r : Enc α} {m : Rs (List α)} (he : EvS K Er S OO σ te (rV r) m) : EvL K Er S OO σ te r m:=fun H Q w s P=>he H Q w s (P.imp fun b _ h v H' s' r9=>by obtain ⟨p, xs, e, q, pr⟩:=r9; exact h v H' s' ⟨p, xs, e, XN _ _ q, pr⟩)
theorem EvB.ls {te : TE} {r : Enc α} [z : FlatE r] {m : Rs (List α)} (he : EvB K Er S OO σ te (rV r) m) : EvL K Er S OO σ te r m:=fun H Q w s P=>he H Q w s (P.imp fun b _ h v H' s' r9=>by obtain ⟨p, xs, e, q, pr⟩:=r9; exact h v H' s' ⟨p, xs, e, q, Paired.imp2 (fun _ _ z'=>z.flat (w.keep s').i z') pr⟩)
theorem Ev.ls {te : TE} {r : Enc α} [z : MonoE r] {m : Rs (List α)} (he : Ev K Er S OO OO σ te (oL (oF r)) m) : EvL K Er S OO σ te r m:=he.sh.ls
noncomputable def atR (as : List α) (i : Int) : Rs α:=match atI as i with
  | some a=>.ok a
  | none=>.bad
theorem GG {as : List α} {i : Int} {a : α} (h : atR as i = .ok a) : atI as i = some a:=by
  unfold atR at h; split at h
  . cases h; assumption
  . cases h
theorem Kh {as : List α} {i : Int} {x : Exc} : atR as i ≠ .err x:=by unfold atR; split <;> exact fun z=>nomatch z
theorem Jy {F : V -> α -> Prop} {xs : List V} {as : List α} {i : Int} {a : α} (p : Paired F xs as) (h : atI as i = some a) : ∃ x, atI xs i = some x /\ F x a:=by
  unfold atI at h ⊢
  rw [Paired.len p]
  cases e : ixN as.length i with
  | none=>rw [e] at h; cases h
  | some j=>
    rw [e] at h
    obtain ⟨x, h1, h2⟩:=Paired.getR p h
    exact ⟨x, h1, h2⟩
theorem PZ.okOf {F : β -> Hp -> Prop} {H : Hp} {m : Rs β} (he : ∀ x, m ≠ .err x) (P : PZ Er F H m) : ∃ b, m = .ok b /\ F b H:=by
  cases m with
  | bad=>exact P.elim
  | err x=>exact absurd rfl (he x)
  | ok b=>exact ⟨b, rfl, P⟩
theorem Xx {ta tb : TE} {r : Enc α} [z : MonoE r] {ma : Rs (List α)} {mb : Rs Int} (ha : EvB K Er S OO σ ta (rV r) ma) (hb : EvB K Er S OO σ tb Xa mb) : EvB K Er S OO σ (tOp (EU K) ta tb) r (ma.bind fun as=>mb.bind fun i=>atR as i):=fun H Q w s P=>
  ha.run w s FB.tr P fun a x H1 s1 w1 q1 ⟨p, xs, e, q, pr⟩ P1=>hb.run w1 q1 FB.tr P1 fun b y H2 s2 w2 q2 r2 P2=>by
    obtain ⟨c, hc, P3⟩:=P2.okOf fun x=>Kh
    obtain ⟨u, h1, h2⟩:=Jy pr (GG hc)
    exact ⟨p, xs, b, u, e, r2, SqL.of (s2 _ _ q), h1, P3 u H2 (XD.refl _) (z.mono s2 h2)⟩
theorem Dj {ta tb : TE} {r : Enc α} [z : MonoE r] {ma : Rs (List α)} {mb : Rs Int} (ha : EvL K Er S OO σ ta r ma) (hb : EvB K Er S OO σ tb Xa mb) : EvS K Er S OO σ (tOp (EU K) ta tb) r (ma.bind fun as=>mb.bind fun i=>atR as i):=fun H Q w s P=>
  ha.run w s FS.tr P fun a x H1 s1 w1 q1 ⟨p, xs, e, q, pr⟩ P1=>hb.run w1 q1 FS.tr P1 fun b y H2 s2 w2 q2 r2 P2=>by
    obtain ⟨c, hc, P3⟩:=P2.okOf fun x=>Kh
    obtain ⟨u, h1, h2⟩:=Jy pr (GG hc)
    exact ⟨p, xs, b, u, e, r2, SqL.of (s2 _ _ q), h1, P3 u H2 (XD.refl _) (z.mono (Xj s2) h2)⟩
theorem F3 {ta : TE} {r : Enc α} {q : Enc β} {m : Rs (α × β)} (ha : EvB K Er S OO σ ta (rP2 r q) m) : EvB K Er S OO σ (tOp (HW K) ta (tC (.int 0))) r (m.bind fun p=>.ok p.1):=fun H Q w s P=>
  ha.run w s FB.tr P fun a x H1 s1 w1 q1 r9 P1=>by obtain ⟨p, x, y, e, q, h1, h2⟩:=r9; exact ⟨p, _, 0, x, e, rfl, SqT.of q, rfl, P1 _ H1 (XD.refl _) h1⟩
theorem Vy {ta : TE} {r : Enc α} {q : Enc β} {m : Rs (α × β)} (ha : EvB K Er S OO σ ta (rP2 r q) m) : EvB K Er S OO σ (tOp (HW K) ta (tC (.int 1))) q (m.bind fun p=>.ok p.2):=fun H Q w s P=>
  ha.run w s FB.tr P fun a x H1 s1 w1 q1 r9 P1=>by obtain ⟨p, x, y, e, q, h1, h2⟩:=r9; exact ⟨p, _, 1, y, e, rfl, SqT.of q, rfl, P1 _ H1 (XD.refl _) h2⟩
theorem VB {ta : TE} {r : Enc α} {q : Enc β} {m : Rs (α × β)} (ha : EvS K Er S OO σ ta (rP2 r q) m) : EvS K Er S OO σ (tOp (HW K) ta (tC (.int 0))) r (m.bind fun p=>.ok p.1):=fun H Q w s P=>
  ha.run w s FS.tr P fun a x H1 s1 w1 q1 r9 P1=>by obtain ⟨p, x, y, e, q, h1, h2⟩:=r9; exact ⟨p, _, 0, x, e, rfl, SqT.of (XN _ _ q), rfl, P1 _ H1 (XD.refl _) h1⟩
theorem Hd {ta : TE} {r : Enc α} {q : Enc β} {m : Rs (α × β)} (ha : EvS K Er S OO σ ta (rP2 r q) m) : EvS K Er S OO σ (tOp (HW K) ta (tC (.int 1))) q (m.bind fun p=>.ok p.2):=fun H Q w s P=>
  ha.run w s FS.tr P fun a x H1 s1 w1 q1 r9 P1=>by obtain ⟨p, x, y, e, q, h1, h2⟩:=r9; exact ⟨p, _, 1, y, e, rfl, SqT.of (XN _ _ q), rfl, P1 _ H1 (XD.refl _) h2⟩
theorem X0 {ta : TE} {r : Enc α} {m : Rs (List α)} (ha : EvB K Er S OO σ ta (rV r) m) : EvB K Er S OO σ (tCB (CZ K) (XI ta Z5)) Xa (m.bind fun as=>.ok (as.length : Int)):=fun H Q w s P=>
  ha.run w s FB.tr P fun a x H1 s1 w1 q1 r9 P1=>by obtain ⟨p, xs, e, q, pr⟩:=r9; exact ⟨p, xs, by rw [e], .inl (SqL.of q), P1 _ H1 (XD.refl _) (by rw [Paired.len pr]; rfl)⟩
theorem Ht {r : Enc α} [z : MonoE r] {xs : List V} {as : List α} {H : Hp} {Q : VK} (w : W OO H) (pr : Paired (r K (hid H OO)) xs as) (P : FO K OO OO (oL (oF r)) Q as H) : ∀ p, H p = none -> Q (.ref p) (upd H p (.lst xs)):=fun p hp=>by
  have hn:=VW (OO:=OO) hp (o:=.lst xs)
  refine P (.ref p) [(p, .lst xs)] _ (XX hp _) (w.new hp rfl) hn ?_
  refine ⟨p, xs, List.replicate as.length [], rfl, (P3.of (Paired.imp2 (fun _ _ h=>z.mono hn h) pr)).imp fun _ _ _ h=>h, by rw [YO]⟩
theorem Paired.take' {F : α -> β -> Prop} : ∀ {l : List α} {m : List β} (n : Nat), Paired F l m -> Paired F (l.take n) (m.take n)
  | _, _, 0, _=>.nil
  | _, _, _ + 1, .nil=>.nil
  | _, _, n + 1, .cons r t=>.cons r (Paired.take' n t)
theorem Paired.drop' {F : α -> β -> Prop} : ∀ {l : List α} {m : List β} (n : Nat), Paired F l m -> Paired F (l.drop n) (m.drop n)
  | _, _, 0, h=>h
  | _, _, _ + 1, .nil=>.nil
  | _, _, n + 1, .cons _ t=>Paired.drop' n t
theorem Paired.rep' {F : α -> β -> Prop} {l : List α} {m : List β} (h : Paired F l m) : ∀ n : Nat, Paired F (List.replicate n l).flatten (List.replicate n m).flatten
  | 0=>.nil
  | n + 1=>by simp only [List.replicate_succ, List.flatten_cons]; exact Paired.app h (Paired.rep' h n)
noncomputable def Fw (as : List α) (lo hi : Option Int) : List α:=(as.drop (HT.sIx as.length 0 lo)).take (HT.sIx as.length as.length hi - HT.sIx as.length 0 lo)
theorem Ud {F : V -> α -> Prop} {xs : List V} {as : List α} (p : Paired F xs as) (lo hi : Option Int) : Paired F (HV xs lo hi) (Fw as lo hi):=by
  unfold HV Fw; rw [Paired.len p]; exact Paired.take' _ (Paired.drop' _ p)
noncomputable def FP (Q : Option Int -> Hp -> Prop) (a : Option Int) (H : Hp) : Prop:=∀ H', XD H H' -> Q a H'
noncomputable def EvP (Er : Exc -> Hp -> Prop) (S : SC) (OO : List (List XO)) (σ : St) (t : TO) (m : Rs (Option Int)) : Prop:=∀ H Q, W OO H -> S.p (hid H OO) -> PZ Er (FP Q) H m -> t σ H Q
theorem EvP.run {t : TO} {m : Rs (Option Int)} (he : EvP Er S OO σ t m) {H : Hp} {Q : Option Int -> Hp -> Prop} (w : W OO H) (s : S.p (hid H OO)) {f : Option Int -> Rs β} {F : β -> Hp -> Prop} (hF : ∀ b H H', XD H H' -> F b H -> F b H') (P : PZ Er F H (m.bind f))
    (hk : ∀ a H', XD H H' -> W OO H' -> S.p (hid H' OO) -> PZ Er F H' (f a) -> Q a H') : t σ H Q:=by
  refine he H Q w s ?_
  cases e : m with
  | bad=>rw [e] at P; exact P
  | err x=>rw [e] at P; exact P
  | ok a=>exact fun H' s'=>hk a H' s' (w.keep s') (S.mono _ _ (Xj s') s) (PZ.run e hF s' P)
theorem UG : EvP Er S OO σ DA (.ok none):=fun H Q w s P=>P H (XD.refl _)
theorem Uu {te : TE} {m : Rs Int} (h : EvB K Er S OO σ te Xa m) : EvP Er S OO σ (La te) (m.bind fun i=>.ok (some i)):=fun H Q w s P=>
  h.run w s (fun _ _ _ s h H2 s2=>h H2 (s.trans s2)) P fun a v H1 s1 w1 q1 r1 P1=>⟨a, r1, P1 H1 (XD.refl _)⟩
theorem G2 {te : TE} {tl th : TO} {r : Enc α} [z : MonoE r] {m : Rs (List α)} {ml mh : Rs (Option Int)} (he : EvL K Er S OO σ te r m) (hl : EvP Er S OO σ tl ml) (hh : EvP Er S OO σ th mh) :
    Ev K Er S OO OO σ (tSl (Lj K) te tl th) (oL (oF r)) (m.bind fun as=>ml.bind fun lo=>mh.bind fun hi=>.ok (Fw as lo hi)):=fun H Q w s P=>
  he.run w s FO.tr P fun as x H1 s1 w1 q1 ⟨p, xs, e, q, pr⟩ P1=>hl.run w1 q1 FO.tr P1 fun lo H2 s2 w2 q2 P2=>hh.run w2 q2 FO.tr P2 fun hi H3 s3 w3 q3 P3'=>
    ⟨p, xs, e, SqL.of (s3 _ _ (s2 _ _ q)), Ht w3 (Ud (Paired.imp2 (fun _ _ h=>z.mono ((Xj s2).trans (Xj s3)) h) pr) lo hi) P3'⟩
theorem Bq {ta : TE} {r : Enc α} {m : Rs (List α)} (ha : EvB K Er S OO σ ta (rL r) m) : EvB K Er S OO σ (tCB (CZ K) (XI ta Z5)) Xa (m.bind fun as=>.ok (as.length : Int)):=fun H Q w s P=>
  ha.run w s FB.tr P fun a x H1 s1 w1 q1 r9 P1=>by obtain ⟨p, xs, e, q, pr⟩:=r9; exact ⟨p, xs, by rw [e], .inl q, P1 _ H1 (XD.refl _) (by rw [Paired.len pr]; rfl)⟩
theorem EI {ta tb : TE} {ma : Rs (List Int)} {mb : Rs Int} (ha : EvB K Er S OO σ ta (rL Xa) ma) (hb : EvB K Er S OO σ tb Xa mb) : EvB K Er S OO σ (tOp (EU K) ta tb) Xa (ma.bind fun as=>mb.bind fun i=>atR as i):=fun H Q w s P=>
  ha.run w s FB.tr P fun a x H1 s1 w1 q1 ⟨p, xs, e, q, pr⟩ P1=>hb.run w1 q1 FB.tr P1 fun b y H2 s2 w2 q2 r2 P2=>by
    obtain ⟨c, hc, P3⟩:=P2.okOf fun x=>Kh
    obtain ⟨u, h1, h2⟩:=Jy pr (GG hc)
    exact ⟨p, xs, b, u, e, r2, s2.seq q, h1, P3 u H2 (XD.refl _) h2⟩
theorem DP {te : TE} {tl th : TO} {m : Rs (List Int)} {ml mh : Rs (Option Int)} (he : EvB K Er S OO σ te (rL Xa) m) (hl : EvP Er S OO σ tl ml) (hh : EvP Er S OO σ th mh) :
    Ev K Er S OO OO σ (tSl (Lj K) te tl th) (oL (oF Xa)) (m.bind fun as=>ml.bind fun lo=>mh.bind fun hi=>.ok (Fw as lo hi)):=fun H Q w s P=>
  he.run w s FO.tr P fun as x H1 s1 w1 q1 ⟨p, xs, e, q, pr⟩ P1=>hl.run w1 q1 FO.tr P1 fun lo H2 s2 w2 q2 P2=>hh.run w2 q2 FO.tr P2 fun hi H3 s3 w3 q3 P3'=>
    ⟨p, xs, e, s3.seq (s2.seq q), Ht w3 (Ud (Paired.imp2 (fun _ _ h=>h) pr) lo hi) P3'⟩
noncomputable def HH (as bs : List α) : Rs (List α):=chk (as.length + bs.length <= sizeLine) (.ok (as ++ bs))
theorem Ct {ta tb : TE} {r : Enc α} [z : MonoE r] {ma mb : Rs (List α)} (ha : EvL K Er S OO σ ta r ma) (hb : EvL K Er S OO σ tb r mb) : Ev K Er S OO OO σ (tOp L1 ta tb) (oL (oF r)) (ma.bind fun as=>mb.bind fun bs=>HH as bs):=fun H Q w s P=>
  ha.run w s FO.tr P fun as x H1 s1 w1 q1 ⟨p, xs, e, q, pr⟩ P1=>hb.run w1 q1 FO.tr P1 fun bs y H2 s2 w2 q2 ⟨p', ys, e', q', pr'⟩ P2=>by
    obtain ⟨c, hc, P3⟩:=P2.okOf fun x=>QP
    obtain ⟨h1, h2⟩:=ZM hc
    cases h2
    exact ⟨p, p', xs, ys, e, e', s2 _ _ q, q', by rw [Paired.len pr, Paired.len pr']; exact h1, Ht w2 (Paired.app (Paired.imp2 (fun _ _ h=>z.mono (Xj s2) h) pr) pr') P3⟩
noncomputable def KP (as : List α) (n : Int) : Rs (List α):=chk (-(2 ^ 63) <= n /\ n < 2 ^ 63 /\ as.length * n.toNat <= sizeLine) (.ok (List.replicate n.toNat as).flatten)
theorem KF {ta tb : TE} {r : Enc α} [z : MonoE r] {ma : Rs (List α)} {mb : Rs Int} (ha : EvL K Er S OO σ ta r ma) (hb : EvB K Er S OO σ tb Xa mb) : Ev K Er S OO OO σ (tOp LV ta tb) (oL (oF r)) (ma.bind fun as=>mb.bind fun n=>KP as n):=fun H Q w s P=>
  ha.run w s FO.tr P fun as x H1 s1 w1 q1 ⟨p, xs, e, q, pr⟩ P1=>hb.run w1 q1 FO.tr P1 fun n y H2 s2 w2 q2 r2 P2=>by
    obtain ⟨c, hc, P3⟩:=P2.okOf fun x=>QP
    obtain ⟨⟨h0, h1, h3⟩, h2⟩:=ZM hc
    cases h2
    exact ⟨p, n, xs, e, r2, s2 _ _ q, h0, h1, by rw [Paired.len pr]; exact h3, Ht w2 (Paired.rep' (Paired.imp2 (fun _ _ h=>z.mono (Xj s2) h) pr) _) P3⟩
theorem JF {ta : TE} {r : Enc α} [z : MonoE r] {ma : Rs (List α)} (ha : EvL K Er S OO σ ta r ma) : Ev K Er S OO OO σ (tCB (Ck K) (XI ta Z5)) (oL (oF r)) (ma.bind fun as=>.ok as):=fun H Q w s P=>
  ha.run w s FO.tr P fun as x H1 s1 w1 q1 r9 P1=>by obtain ⟨p, xs, e, q, pr⟩:=r9; exact ⟨p, xs, by rw [e], .inl (SqL.of q), Ht w1 pr P1⟩
noncomputable def Qt (lo hi : Int) : List Int:=(List.range (hi - lo).toNat).map fun (i : Nat)=>lo + (i : Int)
theorem Kf {ta : TE} {ma : Rs Int} (ha : EvB K Er S OO σ ta Xa ma) : Ev K Er S OO OO σ (GW (XI ta Z5)) (oL (oF Xa)) (ma.bind fun n=>chk (0 <= n /\ n <= 1000) (.ok (Qt 0 n))):=fun H Q w s P=>
  ha.run w s FO.tr P fun n x H1 s1 w1 q1 r1 P1=>by
    obtain ⟨c, hc, P3⟩:=P1.okOf fun x=>QP
    obtain ⟨⟨h0, h1⟩, h2⟩:=ZM hc
    cases h2
    refine ⟨n, by rw [show x = .int n from r1], h0, h1, Ht w1 ?_ P3⟩
    unfold Qt
    rw [Int.sub_zero]
    have : ∀ l : List Nat, Paired (Xa K (hid H1 OO)) (l.map fun (i : Nat)=>V.int (i : Int)) (l.map fun (i : Nat)=>(0 : Int) + (i : Int)):=fun l=>by
      induction l with
      | nil=>exact .nil
      | cons a l ih=>exact .cons (by show V.int (a : Int) = V.int (0 + (a : Int)); rw [Int.zero_add]) ih
    exact this _
theorem QM {o : OE α} : Ev K Er S OO OO σ (BL Z5) (oL o) (.ok []):=fun H Q w s P=>⟨Nat.zero_le _, fun p hp=>P (.ref p) [(p, .lst [])] _ (XX hp _) (w.new hp rfl) (VW hp) ⟨p, [], [], rfl, .nil, rfl⟩⟩
noncomputable def FA {α : Type} (K : PySem.W.Frag) (OO : List (List XO)) (r : Enc α) (Q : List V -> Hp -> Prop) (as : List α) (H : Hp) : Prop:=∀ vs H', XD H H' -> Paired (r K (hid H' OO)) vs as -> Q vs H'
noncomputable def EvA {α : Type} (K : PySem.W.Frag) (Er : Exc -> Hp -> Prop) (S : SC) (OO : List (List XO)) (σ : St) (t : TA) (r : Enc α) (m : Rs (List α)) : Prop:=∀ H Q, W OO H -> S.p (hid H OO) -> PZ Er (FA K OO r Q) H m -> t σ H Q
theorem Y0 {r : Enc α} : EvA K Er S OO σ Z5 r (.ok []):=fun H Q w s P=>P [] H (XD.refl _) .nil
theorem Xt {te : TE} {t : TA} {r : Enc α} [z : MonoE r] {m : Rs α} {n : Rs (List α)} (he : EvS K Er S OO σ te r m) (ht : EvA K Er S OO σ t r n) : EvA K Er S OO σ (XI te t) r (m.bind fun a=>n.bind fun as=>.ok (a :: as)):=fun H Q w s P=>
  he.run w s (fun b H H' s h vs H2 s2 p=>h vs H2 (s.trans s2) p) P fun a x H1 s1 w1 q1 r1 P1=>by
    refine ht H1 _ w1 q1 ?_
    cases e : n with
    | bad=>rw [e] at P1; exact P1
    | err x=>rw [e] at P1; exact P1
    | ok as=>rw [e] at P1; exact fun vs H2 s2 p=>P1 (x :: vs) H2 s2 (.cons (z.mono (Xj s2) r1) p)
theorem ZA {t : TA} {r : Enc α} [z : MonoE r] {m : Rs (List α)} (h : EvA K Er S OO σ t r m) : Ev K Er S OO OO σ (BL t) (oL (oF r)) (m.bind fun as=>chk (as.length <= sizeLine) (.ok as)):=fun H Q w s P=>by
  refine h H _ w s ?_
  cases e : m with
  | bad=>rw [e] at P; exact P
  | err x=>rw [e] at P; exact P
  | ok as=>
    rw [e] at P
    intro vs H1 s1 p
    obtain ⟨c, hc, P3⟩:=PZ.okOf (fun x=>QP) (show PZ Er _ H (chk (as.length <= sizeLine) (.ok as)) from P)
    obtain ⟨h1, h2⟩:=ZM hc
    cases h2
    exact ⟨by rw [Paired.len p]; exact h1, Ht (w.keep s1) p (FO.tr _ _ _ s1 P3)⟩
theorem Va {ta tb : TE} {r : Enc α} {q : Enc β} [z : MonoE r] [y : MonoE q] {ma : Rs α} {mb : Rs β} (ha : EvS K Er S OO σ ta r ma) (hb : EvS K Er S OO σ tb q mb) : EvS K Er S OO σ (IQ (XI ta (XI tb Z5))) (rP2 r q) (ma.bind fun a=>mb.bind fun b=>.ok (a, b)):=fun H Q w s P=>
  ha.run w s FS.tr P fun a x H1 s1 w1 q1 r1 P1=>hb.run w1 q1 FS.tr P1 fun b y' H2 s2 w2 q2 r2 P2=>
    ⟨by show 2 <= sizeLine; decide, fun p hp=>P2 _ _ (XX hp _) ⟨p, x, y', rfl, Jj w2 hp, z.mono ((Xj s2).trans (Xj (XX hp _))) r1, y.mono (Xj (XX hp _)) r2⟩⟩
theorem GR {ta tb tc : TE} {r : Enc α} {q : Enc β} {t : Enc γ} [z : MonoE r] [y : MonoE q] [x : MonoE t] {ma : Rs α} {mb : Rs β} {mc : Rs γ} (ha : EvS K Er S OO σ ta r ma) (hb : EvS K Er S OO σ tb q mb) (hc : EvS K Er S OO σ tc t mc) :
    EvS K Er S OO σ (IQ (XI ta (XI tb (XI tc Z5)))) (rP3 r q t) (ma.bind fun a=>mb.bind fun b=>mc.bind fun c=>.ok (a, b, c)):=fun H Q w s P=>
  ha.run w s FS.tr P fun a x' H1 s1 w1 q1 r1 P1=>hb.run w1 q1 FS.tr P1 fun b y' H2 s2 w2 q2 r2 P2=>hc.run w2 q2 FS.tr P2 fun c z' H3 s3 w3 q3 r3 P3=>
    ⟨by show 3 <= sizeLine; decide, fun p hp=>P3 _ _ (XX hp _) ⟨p, x', y', z', rfl, Jj w3 hp, z.mono (((Xj s2).trans (Xj s3)).trans (Xj (XX hp _))) r1, y.mono ((Xj s3).trans (Xj (XX hp _))) r2, x.mono (Xj (XX hp _)) r3⟩⟩
end
end L2
namespace L2
open PySem PySem.Spec PyProof.Rows
section
variable {K : PySem.W.Frag} {Er : Exc -> Hp -> Prop} {S : SC} {OO OO' OO2 : List (List XO)} {σ : St} {α β γ ρ ι : Type} {α1 α2 α3 α4 α5 α6 : Type}
noncomputable def noE (m : Rs α) : Rs α:=match m with
  | .ok a=>.ok a
  | _=>.bad
theorem UX {m : Rs α} {a : α} (h : noE m = .ok a) : m = .ok a:=by
  cases m with
  | ok b=>exact h
  | bad=>cases h
  | err x=>cases h
theorem U8 {m : Rs α} {x : Exc} : noE m ≠ .err x:=by cases m <;> exact fun z=>nomatch z
noncomputable def FF (K : PySem.W.Frag) (o : OE α) (Q : VK) (a : α) (H : Hp) : Prop:=∀ v C H', W [C] H' -> XD H (hid H' [C]) -> o K (hid H' [C]) v a C -> Q v H'
noncomputable def sp1 (r1 : Enc α1) (o : OE ρ) (f : α1 -> Rs ρ) (K : PySem.W.Frag) : Sp:=fun vs H Q _=>∃ v1 a1 b, vs = [v1] /\ r1 K H v1 a1 /\ f a1 = .ok b /\ FF K o Q b H
noncomputable def sp2 (r1 : Enc α1) (r2 : Enc α2) (o : OE ρ) (f : α1 -> α2 -> Rs ρ) (K : PySem.W.Frag) : Sp:=fun vs H Q _=>∃ v1 v2 a1 a2 b, vs = [v1, v2] /\ r1 K H v1 a1 /\ r2 K H v2 a2 /\ f a1 a2 = .ok b /\ FF K o Q b H
noncomputable def sp3 (r1 : Enc α1) (r2 : Enc α2) (r3 : Enc α3) (o : OE ρ) (f : α1 -> α2 -> α3 -> Rs ρ) (K : PySem.W.Frag) : Sp:=fun vs H Q _=>∃ v1 v2 v3 a1 a2 a3 b, vs = [v1, v2, v3] /\ r1 K H v1 a1 /\ r2 K H v2 a2 /\ r3 K H v3 a3 /\ f a1 a2 a3 = .ok b /\ FF K o Q b H
noncomputable def sp4 (r1 : Enc α1) (r2 : Enc α2) (r3 : Enc α3) (r4 : Enc α4) (o : OE ρ) (f : α1 -> α2 -> α3 -> α4 -> Rs ρ) (K : PySem.W.Frag) : Sp:=fun vs H Q _=>∃ v1 v2 v3 v4 a1 a2 a3 a4 b, vs = [v1, v2, v3, v4] /\ r1 K H v1 a1 /\ r2 K H v2 a2 /\ r3 K H v3 a3 /\ r4 K H v4 a4 /\ f a1 a2 a3 a4 = .ok b /\ FF K o Q b H
noncomputable def sp5 (r1 : Enc α1) (r2 : Enc α2) (r3 : Enc α3) (r4 : Enc α4) (r5 : Enc α5) (o : OE ρ) (f : α1 -> α2 -> α3 -> α4 -> α5 -> Rs ρ) (K : PySem.W.Frag) : Sp:=fun vs H Q _=>∃ v1 v2 v3 v4 v5 a1 a2 a3 a4 a5 b, vs = [v1, v2, v3, v4, v5] /\ r1 K H v1 a1 /\ r2 K H v2 a2 /\ r3 K H v3 a3 /\ r4 K H v4 a4 /\ r5 K H v5 a5 /\ f a1 a2 a3 a4 a5 = .ok b /\ FF K o Q b H
theorem LA {C : List XO} {H H' : Hp} (w : W OO H) (w' : W [C] H') (m' : XD H (hid H' [C])) : W (C :: OO) H' /\ XD (hid H OO) (hid H' (C :: OO)) /\ VY (hid H' [C]) (hid H' (C :: OO)):=by
  have s : XD H H':=m'.trans XN
  have f1 : fl [C] = C.map (·.1):=by simp [fl]
  have hd : ∀ b, b ∈ fl OO -> b ∉ C.map (·.1):=fun b hb hc=>by
    obtain ⟨u, hu⟩:=DB hb
    exact (YB (m' _ _ (w.tr _ hu))).2 (by rw [f1]; exact hc)
  have w2 : W (C :: OO) H':=by
    refine ⟨fun c hc=>?_, ?_, fun c hc=>?_⟩
    . rw [List.flatten_cons, List.mem_append] at hc
      rcases hc with hc | hc
      . exact w'.tr c (by simp [hc])
      . exact s _ _ (w.tr c hc)
    . rw [YS]
      refine List.nodup_append.mpr ⟨by rw [← f1]; exact w'.nd, w.nd, fun a ha b hb e=>?_⟩
      subst e; exact hd a hb ha
    . rw [List.flatten_cons, List.mem_append] at hc
      rcases hc with hc | hc
      . exact w'.mu c (by simp [hc])
      . exact w.mu c hc
  refine ⟨w2, fun b u q=>?_, fun b u q i=>?_⟩
  . obtain ⟨q1, q2⟩ := YB q
    obtain ⟨q3, q4⟩:=YB (m' _ _ q1)
    refine Qk q3 ?_
    rw [YS, List.mem_append]
    exact fun z=>z.elim (fun z=>q4 (by rw [f1]; exact z)) q2
  . exact w2.i b u (YB q).1 i
theorem VE {o : OE α} [z : FlatO o] {Q : VK} {b : α} {H : Hp} (w : W OO H) (P : FO K OO OO o Q b H) : FF K o Q b H:=fun v C H' w' m' ho=>by
  obtain ⟨w2, h2, h3⟩:=LA w w' m'
  exact P v C H' (m'.trans XN) w2 h2 (z.flat h3 ho)
theorem Yl {ta : TE} {r1 : Enc α1} {o : OE ρ} [FlatO o] {f : α1 -> Rs ρ} {ma : Rs α1} (ha : EvB K Er S OO σ ta r1 ma) : Ev K Er S OO OO σ (KN (sp1 r1 o f K) [] E0 (XI ta Z5)) o (ma.bind fun a=>noE (f a)):=fun H Q w s P=>
  ha.run w s FO.tr P fun a x H1 s1 w1 q1 r1 P1=>by
    obtain ⟨b, hb, P2⟩:=P1.okOf fun x=>U8
    exact ⟨x, a, b, rfl, r1, UX hb, VE w1 P2⟩
theorem Ya {ta tb : TE} {r1 : Enc α1} {r2 : Enc α2} [z1 : MonoE r1] {o : OE ρ} [FlatO o] {f : α1 -> α2 -> Rs ρ} {ma : Rs α1} {mb : Rs α2} (ha : EvB K Er S OO σ ta r1 ma) (hb : EvB K Er S OO σ tb r2 mb) :
    Ev K Er S OO OO σ (KN (sp2 r1 r2 o f K) [] E0 (XI ta (XI tb Z5))) o (ma.bind fun a=>mb.bind fun b=>noE (f a b)):=fun H Q w s P=>
  ha.run w s FO.tr P fun a x H1 s1 w1 q1 r1 P1=>hb.run w1 q1 FO.tr P1 fun b y H2 s2 w2 q2 r2 P2=>by
    obtain ⟨c, hc, P3⟩:=P2.okOf fun x=>U8
    exact ⟨x, y, a, b, c, rfl, z1.mono s2 r1, r2, UX hc, VE w2 P3⟩
theorem Y3 {ta tb tc : TE} {r1 : Enc α1} {r2 : Enc α2} {r3 : Enc α3} [z1 : MonoE r1] [z2 : MonoE r2] {o : OE ρ} [FlatO o] {f : α1 -> α2 -> α3 -> Rs ρ} {ma : Rs α1} {mb : Rs α2} {mc : Rs α3} (ha : EvB K Er S OO σ ta r1 ma) (hb : EvB K Er S OO σ tb r2 mb) (hc : EvB K Er S OO σ tc r3 mc) :
    Ev K Er S OO OO σ (KN (sp3 r1 r2 r3 o f K) [] E0 (XI ta (XI tb (XI tc Z5)))) o (ma.bind fun a=>mb.bind fun b=>mc.bind fun c=>noE (f a b c)):=fun H Q w s P=>
  ha.run w s FO.tr P fun a x H1 s1 w1 q1 r1 P1=>hb.run w1 q1 FO.tr P1 fun b y H2 s2 w2 q2 r2 P2=>hc.run w2 q2 FO.tr P2 fun c z H3 s3 w3 q3 r3 P3=>by
    obtain ⟨d, hd, P4⟩:=P3.okOf fun x=>U8
    exact ⟨x, y, z, a, b, c, d, rfl, z1.mono (s2.trans s3) r1, z2.mono s3 r2, r3, UX hd, VE w3 P4⟩
theorem B1 {ta tb tc td : TE} {r1 : Enc α1} {r2 : Enc α2} {r3 : Enc α3} {r4 : Enc α4} [z1 : MonoE r1] [z2 : MonoE r2] [z3 : MonoE r3] {o : OE ρ} [FlatO o] {f : α1 -> α2 -> α3 -> α4 -> Rs ρ} {ma : Rs α1} {mb : Rs α2} {mc : Rs α3} {md : Rs α4} (ha : EvB K Er S OO σ ta r1 ma) (hb : EvB K Er S OO σ tb r2 mb) (hc : EvB K Er S OO σ tc r3 mc) (hd : EvB K Er S OO σ td r4 md) :
    Ev K Er S OO OO σ (KN (sp4 r1 r2 r3 r4 o f K) [] E0 (XI ta (XI tb (XI tc (XI td Z5))))) o (ma.bind fun a=>mb.bind fun b=>mc.bind fun c=>md.bind fun d=>noE (f a b c d)):=fun H Q w s P=>
  ha.run w s FO.tr P fun a x H1 s1 w1 q1 r1 P1=>hb.run w1 q1 FO.tr P1 fun b y H2 s2 w2 q2 r2 P2=>hc.run w2 q2 FO.tr P2 fun c z H3 s3 w3 q3 r3 P3=>hd.run w3 q3 FO.tr P3 fun d u H4 s4 w4 q4 r4 P4=>by
    obtain ⟨e, he, P5⟩:=P4.okOf fun x=>U8
    exact ⟨x, y, z, u, a, b, c, d, e, rfl, z1.mono (s2.trans (s3.trans s4)) r1, z2.mono (s3.trans s4) r2, z3.mono s4 r3, r4, UX he, VE w4 P5⟩
theorem BD {ta tb tc td te : TE} {r1 : Enc α1} {r2 : Enc α2} {r3 : Enc α3} {r4 : Enc α4} {r5 : Enc α5} [z1 : MonoE r1] [z2 : MonoE r2] [z3 : MonoE r3] [z4 : MonoE r4] {o : OE ρ} [FlatO o] {f : α1 -> α2 -> α3 -> α4 -> α5 -> Rs ρ} {ma : Rs α1} {mb : Rs α2} {mc : Rs α3} {md : Rs α4} {me : Rs α5} (ha : EvB K Er S OO σ ta r1 ma) (hb : EvB K Er S OO σ tb r2 mb) (hc : EvB K Er S OO σ tc r3 mc) (hd : EvB K Er S OO σ td r4 md) (he : EvB K Er S OO σ te r5 me) :
    Ev K Er S OO OO σ (KN (sp5 r1 r2 r3 r4 r5 o f K) [] E0 (XI ta (XI tb (XI tc (XI td (XI te Z5)))))) o (ma.bind fun a=>mb.bind fun b=>mc.bind fun c=>md.bind fun d=>me.bind fun e=>noE (f a b c d e)):=fun H Q w s P=>
  ha.run w s FO.tr P fun a x H1 s1 w1 q1 r1 P1=>hb.run w1 q1 FO.tr P1 fun b y H2 s2 w2 q2 r2 P2=>hc.run w2 q2 FO.tr P2 fun c z H3 s3 w3 q3 r3 P3=>hd.run w3 q3 FO.tr P3 fun d u H4 s4 w4 q4 r4 P4=>he.run w4 q4 FO.tr P4 fun e t H5 s5 w5 q5 r5 P5=>by
    obtain ⟨g, hg, P6⟩:=P5.okOf fun x=>U8
    exact ⟨x, y, z, u, t, a, b, c, d, e, g, rfl, z1.mono (s2.trans (s3.trans (s4.trans s5))) r1, z2.mono (s3.trans (s4.trans s5)) r2, z3.mono (s4.trans s5) r3, z4.mono s5 r4, r5, UX hg, VE w5 P6⟩
structure Jn (γ ι : Type) where
  oo : ι -> List (List XO)
  ss : ι -> St
  sc : γ -> ι -> SC
inductive Ctl (ρ γ : Type) where
  | ret (r : ρ) | nx (g : γ)
noncomputable def FTd (K : PySem.W.Frag) (o : OE ρ) (D : Ends) (r : ρ) (h : Hp) : Prop:=∀ v C OO' H', W (C :: OO') H' -> XD h (hid H' (C :: OO')) -> o K (hid H' (C :: OO')) v r C -> D.rt v H'
noncomputable def FNd (J : Jn γ ι) (D : Ends) (g : γ) (h : Hp) : Prop:=∀ x H', W (J.oo x) H' -> XD h (hid H' (J.oo x)) -> (J.sc g x).p (hid H' (J.oo x)) -> D.nx (J.ss x) H'
noncomputable def FCd (K : PySem.W.Frag) (o : OE ρ) (J : Jn γ ι) (D : Ends) (c : Ctl ρ γ) (h : Hp) : Prop:=match c with
  | .ret r=>FTd K o D r h
  | .nx g=>FNd J D g h
class FdOk (Fd : Ends -> β -> Hp -> Prop) : Prop where
  tr : ∀ D b h h', XD h h' -> Fd D b h -> Fd D b h'
instance {o : OE ρ} : FdOk (FTd K o):=⟨fun D b h h' s q v C O H' w m x=>q v C O H' w (s.trans m) x⟩
instance {J : Jn γ ι} : FdOk (FNd J):=⟨fun D b h h' s q x H' w m y=>q x H' w (s.trans m) y⟩
instance {o : OE ρ} {J : Jn γ ι} : FdOk (FCd K o J):=⟨fun D b h h' s q=>by
  cases b with
  | ret r=>exact fun v C O H' w m x=>q v C O H' w (s.trans m) x
  | nx g=>exact fun x H' w m y=>q x H' w (s.trans m) y⟩
theorem PZ.tr {F : β -> Hp -> Prop} (hF : ∀ b H H', XD H H' -> F b H -> F b H') {H H' : Hp} {m : Rs β} (s : XD H H') (P : PZ Er F H m) : PZ Er F H' m:=by
  cases m with
  | bad=>exact P
  | err x=>exact fun H2 s2=>P H2 (s.trans s2)
  | ok b=>exact hF b H H' s P
noncomputable def Sv (Er : Exc -> Hp -> Prop) (S : SC) (OO : List (List XO)) (σ : St) (t : TS) (Fd : Ends -> β -> Hp -> Prop) (m : Rs β) : Prop:=∀ H D, W OO H -> S.p (hid H OO) -> PZ Er (Fd D) (hid H OO) m -> t D σ H
variable {Fd : Ends -> β -> Hp -> Prop} [fd : FdOk Fd] {u : TS}
theorem Ev.st {te : TE} {o : OE α} {m : Rs α} (he : Ev K Er S OO OO' σ te o m) {H : Hp} {D : Ends} {Q : VK} (w : W OO H) (s : S.p (hid H OO)) {f : α -> Rs β} (P : PZ Er (Fd D) (hid H OO) (m.bind f))
    (hk : ∀ a v C H', W (C :: OO') H' -> S.p (hid H' (C :: OO')) -> o K (hid H' (C :: OO')) v a C -> PZ Er (Fd D) (hid H' (C :: OO')) (f a) -> Q v H') : te σ H Q:=by
  refine he H Q w s ?_
  cases m with
  | bad=>exact P
  | err x=>exact fun H' s'=>P H' (XN.trans s')
  | ok a=>exact fun v C H' s' w' m' ho=>hk a v C H' w' (S.mono _ _ m' s) ho (PZ.tr (fd.tr D) m' P)
theorem EvB.st {te : TE} {r : Enc α} {m : Rs α} (he : EvB K Er S OO σ te r m) {H : Hp} {D : Ends} {Q : VK} (w : W OO H) (s : S.p (hid H OO)) {f : α -> Rs β} (P : PZ Er (Fd D) (hid H OO) (m.bind f))
    (hk : ∀ a v H', XD H H' -> W OO H' -> S.p (hid H' OO) -> r K H' v a -> PZ Er (Fd D) (hid H' OO) (f a) -> Q v H') : te σ H Q:=by
  refine he H Q w s ?_
  cases m with
  | bad=>exact P
  | err x=>exact fun H' s'=>P H' (XN.trans s')
  | ok a=>exact fun v H' s' hr=>hk a v H' s' (w.keep s') (S.mono _ _ (Xj s') s) hr (PZ.tr (fd.tr D) (Xj s') P)
theorem EvS.st {te : TE} {r : Enc α} {m : Rs α} (he : EvS K Er S OO σ te r m) {H : Hp} {D : Ends} {Q : VK} (w : W OO H) (s : S.p (hid H OO)) {f : α -> Rs β} (P : PZ Er (Fd D) (hid H OO) (m.bind f))
    (hk : ∀ a v H', XD H H' -> W OO H' -> S.p (hid H' OO) -> r K (hid H' OO) v a -> PZ Er (Fd D) (hid H' OO) (f a) -> Q v H') : te σ H Q:=by
  refine he H Q w s ?_
  cases m with
  | bad=>exact P
  | err x=>exact fun H' s'=>P H' (XN.trans s')
  | ok a=>exact fun v H' s' hr=>hk a v H' s' (w.keep s') (S.mono _ _ (Xj s') s) hr (PZ.tr (fd.tr D) (Xj s') P)
theorem EvT.st {tt : TT} {m : Rs Bool} (he : EvT Er S OO σ tt m) {H : Hp} {D : Ends} {Q : Bool -> Hp -> Prop} (w : W OO H) (s : S.p (hid H OO)) {f : Bool -> Rs β} (P : PZ Er (Fd D) (hid H OO) (m.bind f))
    (hk : ∀ b H', W OO H' -> S.p (hid H' OO) -> PZ Er (Fd D) (hid H' OO) (f b) -> Q b H') : tt σ H Q:=by
  refine he H Q w s ?_
  cases m with
  | bad=>exact P
  | err x=>exact fun H' s'=>P H' (XN.trans s')
  | ok a=>exact fun H' s'=>hk a H' (w.keep s') (S.mono _ _ (Xj s') s) (PZ.tr (fd.tr D) (Xj s') P)
theorem UH {OO : List (List XO)} {k : Nat} {C : List XO} : (OO.set k C).set k [] = OO.set k []:=by simp
theorem L6 {C : List XO} {H : Hp} {k : Nat} (w : W (C :: OO) H) (hk : k < OO.length) : W (OO.set k C) H /\ XD (hid H (C :: OO)) (hid H (OO.set k C)):=by
  have h1:=Yh (OO:=OO) (k:=k) (C:=OO[k]) (by simp [hk])
  have h2:=Yh (OO:=OO.set k C) (k:=k) (C:=C) (by simp [hk])
  rw [UH] at h2
  have h3 : (OO.set k C).flatten.Perm (C ++ (OO.set k []).flatten):=by simpa using h2.symm
  have h4 : (C :: OO).flatten.Perm (C ++ (OO[k] ++ (OO.set k []).flatten)):=by
    rw [List.flatten_cons]; exact (by simpa using h1.symm : OO.flatten.Perm (OO[k] ++ (OO.set k []).flatten)).append_left C
  have h5 : (C ++ (OO.set k []).flatten).Sublist (C ++ (OO[k] ++ (OO.set k []).flatten)):=List.Sublist.append (List.Sublist.refl _) (List.sublist_append_right _ _)
  have w1 : W [C ++ (OO[k] ++ (OO.set k []).flatten)] H:=w.of (by simpa using h4.symm)
  have w2 : W [C ++ (OO.set k []).flatten] H:=w1.sub (by simpa using h5)
  refine ⟨w2.of (by simpa using h3), Jt (XD.refl _) fun b hb=>?_⟩
  obtain ⟨o, ho⟩:=DB hb
  exact Ue (h4.mem_iff.mpr (h5.mem (h3.mem_iff.mp ho)))
theorem XY {te : TE} {o : OE α} [MonoO o] {m : Rs α} {f : α -> Rs β} (i k : Nat) (he : Ev K Er S OO OO' σ te o m) (hk : k < OO'.length) (hr : ∀ a v C, Sv Er (S.addO K o v a C) (OO'.set k C) (σ.set i (some v)) u Fd (f a)) : Sv Er S OO σ (JI (Bm te (ZD i)) u) Fd (m.bind f):=fun H D w s P=>
  he.st w s P fun a v C H' w' s' ho P'=>by
    obtain ⟨w2, h2⟩:=L6 w' hk
    exact hr a v C H' D w2 ⟨S.mono _ _ h2 s', MonoO.mono h2 ho⟩ (PZ.tr (fd.tr D) h2 P')
theorem Xy {te : TE} {r : Enc α} [MonoE r] {m : Rs α} {f : α -> Rs β} (i : Nat) (he : EvS K Er S OO σ te r m) (hr : ∀ a v, Sv Er (S.add K r v a) OO (σ.set i (some v)) u Fd (f a)) : Sv Er S OO σ (JI (Bm te (ZD i)) u) Fd (m.bind f):=fun H D w s P=>
  he.st w s P fun a v H' s1 w' s' ho P'=>hr a v H' D w' ⟨s', ho⟩ P'
theorem XB {te : TE} {o : OE ρ} {m : Rs ρ} (he : Ev K Er S OO OO' σ te o m) : Sv Er S OO σ (JI (LM te) u) (FTd K o) m:=fun H D w s P=>
  he H _ w s (by
    cases m with
    | bad=>exact P
    | err x=>exact fun H' s'=>P H' (XN.trans s')
    | ok a=>exact fun v C H' s' w' m' ho=>P v C OO' H' w' m' ho)
theorem QB {J : Jn γ ι} {t : TS} {o : OE ρ} {m : Rs γ} (h : Sv Er S OO σ t (FNd J) m) : Sv Er S OO σ t (FCd K o J) (m.bind fun r=>.ok (.nx r)):=fun H D w s P=>h H D w s (by
  cases m with
  | bad=>exact P
  | err x=>exact P
  | ok a=>exact P)
theorem Xv {J : Jn γ ι} (x : ι) (g : γ) (h1 : OO = J.oo x) (h2 : σ = J.ss x) (h3 : ∀ h, S.p h -> (J.sc g x).p h) : Sv Er S OO σ Dn (FNd J) (.ok g):=fun H D w s P=>by
  subst h1 h2
  exact P x H w (XD.refl _) (h3 _ s)
theorem Iu {t : TS} : Sv Er S OO σ t Fd .bad:=fun H D w s P=>P.elim
theorem Qi {o : OE ρ} {c : TT} {t1 : TS} {mc : Rs Bool} {m1 m2 : Rs ρ} (hc : EvT Er S OO σ c mc) (h1 : Sv Er S OO σ t1 (FTd K o) m1) (h2 : Sv Er S OO σ u (FTd K o) m2) : Sv Er S OO σ (JI (Iq c t1 Dn) u) (FTd K o) (mc.bind fun b=>if b = true then m1 else m2):=fun H D w s P=>
  hc.st (Fd:=FTd K o) w s P fun b H' w' s' P'=>by
    cases b with
    | true=>rw [if_pos rfl] at P' ⊢; exact h1 H' _ w' s' P'
    | false=>exact h2 H' D w' s' P'
theorem ZZ {o : OE ρ} {J : Jn γ ι} {c : TT} {t1 : TS} {mc : Rs Bool} {m1 : Rs ρ} {m2 : Rs (Ctl ρ γ)} (hc : EvT Er S OO σ c mc) (h1 : Sv Er S OO σ t1 (FTd K o) m1) (h2 : Sv Er S OO σ u (FCd K o J) m2) : Sv Er S OO σ (JI (Iq c t1 Dn) u) (FCd K o J) (mc.bind fun b=>if b = true then m1.bind (fun r=>.ok (.ret r)) else m2):=fun H D w s P=>
  hc.st (Fd:=FCd K o J) w s P fun b H' w' s' P'=>by
    cases b with
    | true=>
      rw [if_pos rfl] at P' ⊢
      refine h1 H' _ w' s' ?_
      cases m1 with
      | bad=>exact P'
      | err x=>exact P'
      | ok a=>exact P'
    | false=>exact h2 H' D w' s' P'
theorem ZS {c : TT} {t1 t2 : TS} {mc : Rs Bool} {m1 m2 : Rs β} (hc : EvT Er S OO σ c mc) (h1 : Sv Er S OO σ t1 Fd m1) (h2 : Sv Er S OO σ t2 Fd m2) : Sv Er S OO σ (Iq c t1 t2) Fd (mc.bind fun b=>if b = true then m1 else m2):=fun H D w s P=>
  hc.st w s P fun b H' w' s' P'=>by
    cases b with
    | true=>rw [if_pos rfl] at P' ⊢; exact h1 H' _ w' s' P'
    | false=>exact h2 H' D w' s' P'
theorem Zh {J : Jn γ ι} {t : TS} {m : Rs γ} {f : γ -> Rs β} (hb : Sv Er S OO σ t (FNd J) m) (hr : ∀ g x, Sv Er (J.sc g x) (J.oo x) (J.ss x) u Fd (f g)) : Sv Er S OO σ (JI t u) Fd (m.bind f):=fun H D w s P=>
  hb H _ w s (by
    cases m with
    | bad=>exact P
    | err x=>exact P
    | ok g=>exact fun x H' w' m' q=>hr g x H' D w' q (PZ.tr (fd.tr D) m' P))
noncomputable def Jl (f : γ -> Rs ρ) : Ctl ρ γ -> Rs ρ
  | .ret r=>.ok r
  | .nx g=>f g
noncomputable def QR {δ : Type} (f : γ -> Rs (Ctl ρ δ)) : Ctl ρ γ -> Rs (Ctl ρ δ)
  | .ret r=>.ok (.ret r)
  | .nx g=>f g
theorem Bn {δ κ : Type} {o : OE ρ} {J : Jn γ ι} {J2 : Jn δ κ} {t : TS} {m : Rs (Ctl ρ γ)} {f : γ -> Rs (Ctl ρ δ)} (hb : Sv Er S OO σ t (FCd K o J) m) (hr : ∀ g x, Sv Er (J.sc g x) (J.oo x) (J.ss x) u (FCd K o J2) (f g)) : Sv Er S OO σ (JI t u) (FCd K o J2) (m.bind (QR f)):=fun H D w s P=>
  hb H _ w s (by
    cases m with
    | bad=>exact P
    | err x=>exact P
    | ok g=>
      cases g with
      | ret r=>exact P
      | nx g=>exact fun x H' w' m' q=>hr g x H' D w' q (PZ.tr (FdOk.tr D) m' P))
theorem Sv.weak {S2 : SC} {t : TS} {m : Rs β} (h : Sv Er S2 OO σ t Fd m) (hs : ∀ x, S.p x -> S2.p x) : Sv Er S OO σ t Fd m:=fun H D w s P=>h H D w (hs _ s) P
theorem Ma {C D C' : List XO} {H : Hp} {k : Nat} {p : Addr} {o : HO} (w : W (D :: OO) H) (hk : OO[k]? = some C) (hp : p ∈ C.map (·.1)) (hC : (C'.map (·.1)).Perm ((C ++ D).map (·.1))) (ht : ∀ c ∈ C', upd H p o c.1 = some c.2) (hm : ∀ c ∈ C', HX c.2 = true) :
    W (OO.set k C') (upd H p o) /\ hid (upd H p o) (OO.set k C') = hid H (D :: OO):=by
  have hlt : k < OO.length:=by
    rcases Nat.lt_or_ge k OO.length with h | h
    . exact h
    . rw [List.getElem?_eq_none h] at hk; cases hk
  have h1:=Yh hk
  have h2:=Yh (OO:=OO.set k C') (k:=k) (C:=C') (by simp [hlt])
  rw [UH] at h2
  have h3 : (OO.set k C').flatten.Perm (C' ++ (OO.set k []).flatten):=by simpa using h2.symm
  have h4 : (D :: OO).flatten.Perm (D ++ (C ++ (OO.set k []).flatten)):=by
    rw [List.flatten_cons]; exact (by simpa using h1.symm : OO.flatten.Perm (C ++ (OO.set k []).flatten)).append_left D
  have hfl : (fl (OO.set k C')).Perm (fl (D :: OO)):=by
    unfold fl
    refine (h3.map _).trans (List.Perm.trans ?_ (h4.map _).symm)
    simp only [List.map_append]
    refine (hC.append_right _).trans ?_
    simp only [List.map_append]
    rw [← List.append_assoc]
    exact List.perm_append_comm.append_right _
  have nd:=w.nd
  refine ⟨⟨fun c hc=>?_, hfl.nodup_iff.mpr nd, fun c hc=>?_⟩, ?_⟩
  . rcases List.mem_append.mp (h3.mem_iff.mp hc) with hc | hc
    . exact ht c hc
    . have hne : c.1 ≠ p:=fun e=>by
        have nd2 : ((D ++ (C ++ (OO.set k []).flatten)).map (·.1)).Nodup:=(h4.map _).nodup_iff.mp nd
        simp only [List.map_append] at nd2
        have nd3:=(List.nodup_append.mp nd2).2.1
        exact (List.nodup_append.mp nd3).2.2 p hp c.1 (List.mem_map.mpr ⟨c, hc, rfl⟩) e.symm
      rw [XQ hne]
      exact w.tr c (h4.mem_iff.mpr (by simp [hc]))
  . rcases List.mem_append.mp (h3.mem_iff.mp hc) with hc | hc
    . exact hm c hc
    . exact w.mu c (h4.mem_iff.mpr (by simp [hc]))
  . funext b
    unfold hid
    by_cases hb : b ∈ fl (D :: OO)
    . rw [if_pos hb, if_pos (hfl.mem_iff.mpr hb)]
    . rw [if_neg hb, if_neg fun z => hb (hfl.mem_iff.mp z)]
      refine XQ fun e=>hb ?_
      rw [e]
      obtain ⟨c, hc, rfl⟩:=List.mem_map.mp hp
      exact Ue (h4.mem_iff.mpr (by simp [hc]))
theorem Z2 {Cs : List (List XO)} {D : List XO} : (Cs ++ [D]).flatten = Cs.flatten ++ D:=by simp
theorem ZL {ta : TE} {o : OE α} [MonoO o] {m : Rs α} {f : List α -> Rs β} {v : V} {as : List α} {C : List XO} (i k : Nat) (hσ : σ[i]? = some (some v)) (hk : OO[k]? = some C) (hk' : OO'[k]? = some C) (h : ∀ x, S.p x -> oL o K x v as C) (he : Ev K Er S OO OO' σ ta o m)
    (hr : ∀ a C', Sv Er (S.addO K (oL o) v (as ++ [a]) C') (OO'.set k C') σ u Fd (f (as ++ [a]))) : Sv Er S OO σ (JI (Fc (tBM K "list" Uz (UV i) (XI ta Z5))) u) Fd (m.bind fun a=>chk (as.length < sizeLine) (f (as ++ [a]))):=fun H D w s P=>by
  obtain ⟨p, xs, Cs, e, q, c⟩:=h _ s
  subst c
  have hH : H p = some (.lst xs):=w.tr (p, .lst xs) (List.mem_flatten.mpr ⟨_, List.mem_of_getElem? hk, List.mem_cons_self⟩)
  refine ⟨v, hσ, by rw [e]; exact .inl ⟨rfl, _, SqL.of hH⟩, he.st w s P fun a y D' H' w' s' ho P'=>?_⟩
  obtain ⟨p', xs', Cs', e2, q2, c2⟩:=h _ s'
  rw [e] at e2; cases e2
  have c3 : (p, HO.lst xs) = (p, HO.lst xs') /\ Cs.flatten = Cs'.flatten:=by
    injection c2 with h1 h2
    exact ⟨h1, h2⟩
  obtain ⟨c3, c4⟩:=c3
  cases c3
  have hH' : H' p = some (.lst xs):=w'.tr (p, .lst xs) (by rw [List.flatten_cons]; exact List.mem_append_right _ (List.mem_flatten.mpr ⟨_, List.mem_of_getElem? hk', List.mem_cons_self⟩))
  cases hlt : decide (as.length < sizeLine) with
  | false=>rw [chk, if_neg (by simpa using hlt)] at P'; exact P'.elim
  | true=>
    have hlt' : as.length < sizeLine:=by simpa using hlt
    rw [XF hlt'] at P'
    have wnd:=w'.nd
    have hcell : ∀ c ∈ (p, HO.lst (xs ++ [y])) :: (Cs' ++ [D']).flatten, upd H' p (.lst (xs ++ [y])) c.1 = some c.2:=fun c hc=>by
      rcases List.mem_cons.mp hc with rfl | hc
      . exact YM
      . have hp1 := Yh hk'
        have w3 : W [D' ++ (((p, HO.lst xs) :: Cs.flatten) ++ (OO'.set k []).flatten)] H':=w'.of (by
          simp only [List.flatten_cons, List.flatten_nil, List.append_nil]
          exact (by simpa using hp1 : (((p, HO.lst xs) :: Cs.flatten) ++ (OO'.set k []).flatten).Perm OO'.flatten).append_left D')
        have hin : c ∈ D' ++ (((p, HO.lst xs) :: Cs.flatten) ++ (OO'.set k []).flatten):=by
          rw [Z2, List.mem_append] at hc
          rcases hc with hc | hc
          . rw [← c4] at hc; simp [hc]
          . simp [hc]
        have hne : c.1 ≠ p:=fun ee=>by
          have nd3:=w3.nd
          rw [Z2, List.mem_append, ← c4] at hc
          simp only [fl, List.flatten_cons, List.flatten_nil, List.append_nil, List.map_append, List.cons_append, List.map_cons] at nd3
          rw [List.nodup_append] at nd3
          obtain ⟨_, n2, n3⟩:=nd3
          rcases hc with hc | hc
          . exact (List.nodup_cons.mp n2).1 (List.mem_append_left _ (List.mem_map.mpr ⟨c, hc, ee⟩))
          . exact n3 c.1 (List.mem_map.mpr ⟨c, hc, rfl⟩) p List.mem_cons_self ee
        rw [XQ hne]
        exact w3.tr c (by simpa using hin)
    obtain ⟨w4, h4⟩:=Ma (C':=(p, .lst (xs ++ [y])) :: (Cs' ++ [D']).flatten) w' hk' List.mem_cons_self (by simp [Z2, c4]) hcell (fun c hc=>by
      rcases List.mem_cons.mp hc with rfl | hc
      . rfl
      . rw [Z2, List.mem_append, ← c4] at hc
        rcases hc with hc | hc
        . exact w'.mu c (by rw [List.flatten_cons]; exact List.mem_append_right _ (List.mem_flatten.mpr ⟨_, List.mem_of_getElem? hk', List.mem_cons_of_mem _ hc⟩))
        . exact w'.mu c (by rw [List.flatten_cons]; exact List.mem_append_left _ hc))
    refine ⟨p, xs, y, e, rfl, hH', by rw [(P3.len q).1]; exact hlt', ?_⟩
    refine hr a _ _ D w4 ?_ (by rw [h4]; exact P')
    rw [h4]
    exact ⟨s', ⟨p, xs ++ [y], Cs' ++ [D'], e, q2.snoc ho, rfl⟩⟩
end
end L2
namespace L2
open PySem PySem.Spec PyProof.Rows
section
variable {K : PySem.W.Frag} {Er : Exc -> Hp -> Prop} {S : SC} {OO OO' OO2 : List (List XO)} {σ : St} {α β γ ρ ι δ ε : Type}
variable {Fd : Ends -> β -> Hp -> Prop} [fd : FdOk Fd] {u : TS}
noncomputable def forN : List α -> γ -> (γ -> α -> Rs γ) -> Rs γ
  | [], g, _=>.ok g
  | a :: as, g, f=>(f g a).bind fun g'=>forN as g' f
noncomputable def forC : List α -> γ -> (γ -> α -> Rs (Ctl ρ γ)) -> Rs (Ctl ρ γ)
  | [], g, _=>.ok (.nx g)
  | a :: as, g, f=>(f g a).bind fun c=>match c with
    | .ret r=>.ok (.ret r)
    | .nx g'=>forC as g' f
theorem YE {m : Rs α} {f : α -> Rs β} {g : β -> Rs γ} : (m.bind f).bind g = m.bind fun a=>(f a).bind g:=by cases m <;> rfl
structure Tgt (K : PySem.W.Frag) (OO : List (List XO)) (g : TG) (r : Enc α) (κ : Type) where
  set : κ -> St -> St
  sc : α -> κ -> SC -> SC
  ok : ∀ {H : Hp} {v : V} {a : α} {σ : St} {S : SC} {Q : St -> Hp -> Prop}, r K (hid H OO) v a -> S.p (hid H OO) -> (∀ x, (sc a x S).p (hid H OO) -> Q (set x σ) H) -> g v σ H Q
noncomputable def tg1 {r : Enc α} [MonoE r] (i : Nat) : Tgt K OO (ZD i) r V where
  set:=fun v σ=>σ.set i (some v)
  sc:=fun a v S=>S.add K r v a
  ok:=fun {H v a σ S Q} hr hs hq=>hq v ⟨hs, hr⟩
noncomputable def tg2 {r : Enc α} {q : Enc β} [MonoE r] [MonoE q] (i j : Nat) : Tgt K OO (EV K 2 (QO (ZD i) (QO (ZD j) HR))) (rP2 r q) (V × V) where
  set:=fun v σ=>(σ.set i (some v.1)).set j (some v.2)
  sc:=fun a v S=>(S.add K r v.1 a.1).add K q v.2 a.2
  ok:=fun {H v a σ S Q} r9 hs hq=>by obtain ⟨p, x, y, e, h, h1, h2⟩:=r9; exact ⟨p, _, e, SqT.of (XN _ _ h), rfl, x, [y], rfl, y, [], rfl, rfl, hq (x, y) ⟨⟨hs, h1⟩, h2⟩⟩
noncomputable def tg3 {r : Enc α} {q : Enc β} {t : Enc γ} [MonoE r] [MonoE q] [MonoE t] (i j k : Nat) : Tgt K OO (EV K 3 (QO (ZD i) (QO (ZD j) (QO (ZD k) HR)))) (rP3 r q t) (V × V × V) where
  set:=fun v σ=>((σ.set i (some v.1)).set j (some v.2.1)).set k (some v.2.2)
  sc:=fun a v S=>((S.add K r v.1 a.1).add K q v.2.1 a.2.1).add K t v.2.2 a.2.2
  ok:=fun {H v a σ S Q} r9 hs hq=>by obtain ⟨p, x, y, z, e, h, h1, h2, h3⟩:=r9; exact ⟨p, _, e, SqT.of (XN _ _ h), rfl, x, [y, z], rfl, y, [z], rfl, z, [], rfl, rfl, hq (x, y, z) ⟨⟨⟨hs, h1⟩, h2⟩, h3⟩⟩
structure Walk (K : PySem.W.Frag) (Er : Exc -> Hp -> Prop) (S : SC) (OO : List (List XO)) (σ : St) (wi : TI) (r : Enc α) (m : Rs (List α)) : Prop where
  ok : ∀ {H : Hp} {R : It -> Hp -> Prop}, W OO H -> S.p (hid H OO) -> PZ Er (fun as H=>∀ J H', XD H H' ->
      (∀ (i : Nat) a, as[i]? = some a -> ∀ OO2 H2, W OO2 H2 -> XD (hid H' OO) (hid H2 OO2) -> J.go i H2 /\ ∀ x H3, J.yld i H2 x H3 -> XD H2 H3 /\ r K (hid H3 OO2) x a) ->
      (∀ OO2 H2, W OO2 H2 -> XD (hid H' OO) (hid H2 OO2) -> J.stop as.length H2) -> R J H') H m -> wi σ H R
theorem XH {te : TE} {r : Enc α} [z : MonoE r] {m : Rs (List α)} (he : EvS K Er S OO σ te (rV r) m) : Walk K Er S OO σ (EM K te) r m:=⟨fun {H R} w s P=>by
  refine he H _ w s (P.imp fun as _ h v H' s' ⟨p, xs, e, hp, pr⟩=>⟨p, e, ⟨xs, SqL.of (XN _ _ hp)⟩, h _ H' s' ?_ ?_⟩)
  . intro i a ha OO2 H2 w2 m2
    obtain ⟨x, hx, rx⟩:=Paired.getR pr ha
    have hq : SqL K H2 p xs:=SqL.of (XN _ _ (m2 _ _ hp))
    refine ⟨⟨xs, x, hq, hx⟩, fun y H3 r9=>?_⟩
    obtain ⟨e3, hy⟩:=r9
    subst e3
    refine ⟨XD.refl _, ?_⟩
    have:=hy xs hq
    rw [hx] at this
    cases this
    exact z.mono m2 rx
  . intro OO2 H2 w2 m2
    exact ⟨xs, SqL.of (XN _ _ (m2 _ _ hp)), by rw [Paired.len pr]; exact Nat.le_refl _⟩⟩
noncomputable def U2 (as : List α) : List (Int × α):=(List.range as.length).map (fun (i : Nat)=>(i : Int)) |>.zip as
theorem Kk {as : List α} {i : Nat} {p : Int × α} (h : (U2 as)[i]? = some p) : p.1 = (i : Int) /\ as[i]? = some p.2:=by
  unfold U2 at h
  rw [List.getElem?_zip_eq_some] at h
  obtain ⟨h1, h2⟩:=h
  rw [List.getElem?_map] at h1
  have hlt : i < as.length:=by
    rcases Nat.lt_or_ge i as.length with q | q
    . exact q
    . rw [List.getElem?_eq_none q] at h2; cases h2
  rw [List.getElem?_range hlt] at h1
  exact ⟨(Option.some.inj h1).symm, h2⟩
theorem Da {as : List α} : (U2 as).length = as.length:=by simp [U2]
theorem CD {te : TE} {r : Enc α} [z : MonoE r] {m : Rs (List α)} (he : EvS K Er S OO σ te (rV r) m) : Walk K Er S OO σ (IB K te) (rP2 Xa r) (m.bind fun as=>.ok (U2 as)):=⟨fun {H R} w s P=>by
  refine he H _ w s ?_
  cases em : m with
  | bad=>rw [em] at P; exact P
  | err x=>rw [em] at P; exact P
  | ok as=>
    rw [em] at P
    intro v H' s' ⟨p, xs, e, hp, pr⟩
    refine ⟨p, e, ⟨xs, SqL.of (XN _ _ hp)⟩, P _ H' s' ?_ ?_⟩
    . intro i a ha OO2 H2 w2 m2
      obtain ⟨ha1, ha2⟩:=Kk ha
      obtain ⟨x, hx, rx⟩:=Paired.getR pr ha2
      have hq : SqL K H2 p xs:=SqL.of (XN _ _ (m2 _ _ hp))
      refine ⟨⟨xs, x, hq, hx⟩, fun y H3 h3=>?_⟩
      obtain ⟨b, x', rfl, hb, rfl, hy⟩:=h3
      have:=hy xs hq
      rw [hx] at this
      cases this
      refine ⟨XX hb _, ⟨b, .int i, x, rfl, Jj w2 hb, by show V.int _ = V.int _; rw [ha1], z.mono (m2.trans (Xj (XX hb _))) rx⟩⟩
    . intro OO2 H2 w2 m2
      exact ⟨xs, SqL.of (XN _ _ (m2 _ _ hp)), by rw [Da, Paired.len pr]; exact Nat.le_refl _⟩⟩
theorem Fz {lo hi : Int} {i : Nat} {a : Int} (h : (Qt lo hi)[i]? = some a) : a = lo + i /\ i < (hi - lo).toNat:=by
  unfold Qt at h
  rw [List.getElem?_map] at h
  rcases Nat.lt_or_ge i (hi - lo).toNat with q | q
  . rw [List.getElem?_range q] at h; exact ⟨(Option.some.inj h).symm, q⟩
  . rw [List.getElem?_eq_none (by simpa using q)] at h; cases h
theorem FC {lo hi : Int} : (Qt lo hi).length = (hi - lo).toNat:=by simp [Qt]
noncomputable def JL (lo hi : Int) : Rs (List Int):=chk (-(2 ^ 62) <= lo /\ lo < 2 ^ 62 /\ -(2 ^ 62) <= hi /\ hi < 2 ^ 62) (.ok (Qt lo hi))
theorem Xw {te : TE} {m : Rs Int} (he : EvB K Er S OO σ te Xa m) : Walk K Er S OO σ (IU (XI te Z5)) Xa (m.bind fun n=>JL 0 n):=⟨fun {H R} w s P=>
  he.run w s (fun as H H' s' h J H2 s2=>h J H2 (s'.trans s2)) P fun n v H1 s1 w1 q1 r1 P1=>by
    obtain ⟨c, hc, P2⟩:=P1.okOf fun x=>QP
    obtain ⟨⟨_, _, h1, h2⟩, h3⟩:=ZM hc
    cases h3
    refine ⟨n, by rw [show v = .int n from r1], h1, h2, P2 _ H1 (XD.refl _) (fun i a ha OO2 H2 w2 m2=>?_) fun OO2 H2 w2 m2=>?_⟩
    . obtain ⟨e1, e2⟩ := Fz ha
      rw [Int.sub_zero] at e2
      refine ⟨e2, fun x H3 r9=>?_⟩
      obtain ⟨e3, e4⟩:=r9
      subst e3
      exact ⟨XD.refl _, by rw [e4, e1]; rfl⟩
    . show n.toNat <= _
      rw [FC, Int.sub_zero]; exact Nat.le_refl _⟩
theorem Yo {wi : TI} {g : TG} {tb : TS} {r : Enc α} {κ : Type} {m : Rs (List α)} {body : γ -> α -> Rs γ} {f : γ -> Rs β} (J : Jn γ ι) (T : ∀ OO, Tgt K OO g r κ) (x0 : ι) (g0 : γ) (he : Walk K Er S OO σ wi r m) (h1 : OO = J.oo x0) (h2 : σ = J.ss x0) (h3 : ∀ h, S.p h -> (J.sc g0 x0).p h)
    (hb : ∀ g x a v, Sv Er ((T (J.oo x)).sc a v (J.sc g x)) (J.oo x) ((T (J.oo x)).set v (J.ss x)) tb (FNd J) (body g a))
    (hr : ∀ g x, Sv Er (J.sc g x) (J.oo x) (J.ss x) u Fd (f g)) : Sv Er S OO σ (JI (Ll wi g tb) u) Fd (m.bind fun as=>(forN as g0 body).bind f):=fun H D w s P=>by
  refine he.ok w s ?_
  cases em : m with
  | bad=>rw [em] at P; exact P
  | err x=>rw [em] at P; exact fun H' s'=>P H' (XN.trans s')
  | ok as=>
    rw [em] at P
    have P : PZ Er (Fd D) (hid H OO) ((forN as g0 body).bind f):=P
    intro It H' s' hgo hstop
    refine ⟨fun i mm σ' H2=>mm = as.length - i /\ i <= as.length /\ ∃ x gg, σ' = J.ss x /\ W (J.oo x) H2 /\ XD (hid H' OO) (hid H2 (J.oo x)) /\ (J.sc gg x).p (hid H2 (J.oo x)) /\ PZ Er (Fd D) (hid H2 (J.oo x)) ((forN (as.drop i) gg body).bind f), ⟨as.length, rfl, Nat.zero_le _, x0, g0, h2, ?_, ?_, ?_, ?_⟩, ?_⟩
    . rw [← h1]; exact w.keep s'
    . rw [← h1]; exact XD.refl _
    . rw [← h1]; exact h3 _ (S.mono _ _ (Xj s') s)
    . rw [← h1, List.drop_zero]; exact PZ.tr (fd.tr D) (Xj s') P
    . rintro i mm σ' H2 ⟨rfl, hi, x, gg, rfl, w2, m2, sc2, P2⟩
      by_cases hlt : i < as.length
      . right
        have ha : as[i]? = some as[i]:=by simp [hlt]
        obtain ⟨h4, h5⟩:=hgo i _ ha (J.oo x) H2 w2 m2
        refine ⟨h4, fun σ3 H3=>∃ x gg, σ3 = J.ss x /\ W (J.oo x) H3 /\ XD (hid H' OO) (hid H3 (J.oo x)) /\ (J.sc gg x).p (hid H3 (J.oo x)) /\ PZ Er (Fd D) (hid H3 (J.oo x)) ((forN (as.drop (i + 1)) gg body).bind f), fun σ3 H3 q=>⟨as.length - (i + 1), by first | lia | omega, rfl, hlt, q⟩, fun y H3 hy=>?_⟩
        obtain ⟨s3, r3⟩:=h5 y H3 hy
        have w3:=w2.keep s3
        have m3:=Xj (OO:=J.oo x) s3
        refine (T (J.oo x)).ok r3 ((J.sc gg x).mono _ _ m3 sc2) fun v hv=>hb gg x as[i] v H3 _ w3 hv ?_
        rw [List.drop_eq_getElem_cons hlt] at P2
        have P3 : PZ Er (Fd D) (hid H2 (J.oo x)) ((body gg as[i]).bind fun g'=>(forN (as.drop (i + 1)) g' body).bind f):=by rw [← YE]; exact P2
        cases eb : body gg as[i] with
        | bad=>rw [eb] at P3; exact P3
        | err x=>rw [eb] at P3; exact fun H4 s4=>P3 H4 (m3.trans s4)
        | ok g'=>
          rw [eb] at P3
          exact fun x' H4 w4 m4 sc4=>⟨x', g', rfl, w4, m2.trans (m3.trans m4), sc4, PZ.tr (fd.tr D) (m3.trans m4) P3⟩
      . left
        have e : i = as.length:=by first | lia | omega
        subst e
        refine ⟨hstop (J.oo x) H2 w2 m2, hr gg x H2 D w2 sc2 ?_⟩
        rw [List.drop_length] at P2
        exact P2
theorem Q9 {o : OE ρ} {wi : TI} {g : TG} {tb : TS} {r : Enc α} {κ : Type} {m : Rs (List α)} {body : γ -> α -> Rs (Ctl ρ γ)} {f : γ -> Rs ρ} (J : Jn γ ι) (T : ∀ OO, Tgt K OO g r κ) (x0 : ι) (g0 : γ) (he : Walk K Er S OO σ wi r m) (h1 : OO = J.oo x0) (h2 : σ = J.ss x0) (h3 : ∀ h, S.p h -> (J.sc g0 x0).p h)
    (hb : ∀ g x a v, Sv Er ((T (J.oo x)).sc a v (J.sc g x)) (J.oo x) ((T (J.oo x)).set v (J.ss x)) tb (FCd K o J) (body g a))
    (hr : ∀ g x, Sv Er (J.sc g x) (J.oo x) (J.ss x) u (FTd K o) (f g)) : Sv Er S OO σ (JI (Ll wi g tb) u) (FTd K o) (m.bind fun as=>(forC as g0 body).bind (Jl f)):=fun H D w s P=>by
  refine he.ok w s ?_
  cases em : m with
  | bad=>rw [em] at P; exact P
  | err x=>rw [em] at P; exact fun H' s'=>P H' (XN.trans s')
  | ok as=>
    rw [em] at P
    have P : PZ Er (FTd K o D) (hid H OO) ((forC as g0 body).bind (Jl f)):=P
    intro It H' s' hgo hstop
    refine ⟨fun i mm σ' H2=>mm = as.length - i /\ i <= as.length /\ ∃ x gg, σ' = J.ss x /\ W (J.oo x) H2 /\ XD (hid H' OO) (hid H2 (J.oo x)) /\ (J.sc gg x).p (hid H2 (J.oo x)) /\ PZ Er (FTd K o D) (hid H2 (J.oo x)) ((forC (as.drop i) gg body).bind (Jl f)), ⟨as.length, rfl, Nat.zero_le _, x0, g0, h2, ?_, ?_, ?_, ?_⟩, ?_⟩
    . rw [← h1]; exact w.keep s'
    . rw [← h1]; exact XD.refl _
    . rw [← h1]; exact h3 _ (S.mono _ _ (Xj s') s)
    . rw [← h1, List.drop_zero]; exact PZ.tr (FdOk.tr D) (Xj s') P
    . rintro i mm σ' H2 ⟨rfl, hi, x, gg, rfl, w2, m2, sc2, P2⟩
      by_cases hlt : i < as.length
      . right
        have ha : as[i]? = some as[i]:=by simp [hlt]
        obtain ⟨h4, h5⟩:=hgo i _ ha (J.oo x) H2 w2 m2
        refine ⟨h4, fun σ3 H3=>∃ x gg, σ3 = J.ss x /\ W (J.oo x) H3 /\ XD (hid H' OO) (hid H3 (J.oo x)) /\ (J.sc gg x).p (hid H3 (J.oo x)) /\ PZ Er (FTd K o D) (hid H3 (J.oo x)) ((forC (as.drop (i + 1)) gg body).bind (Jl f)), fun σ3 H3 q=>⟨as.length - (i + 1), by first | lia | omega, rfl, hlt, q⟩, fun y H3 hy=>?_⟩
        obtain ⟨s3, r3⟩:=h5 y H3 hy
        have w3:=w2.keep s3
        have m3:=Xj (OO:=J.oo x) s3
        refine (T (J.oo x)).ok r3 ((J.sc gg x).mono _ _ m3 sc2) fun v hv=>hb gg x as[i] v H3 _ w3 hv ?_
        rw [List.drop_eq_getElem_cons hlt] at P2
        have P3 : PZ Er (FTd K o D) (hid H2 (J.oo x)) ((body gg as[i]).bind fun c=>(match c with
          | .ret r=>Rs.ok (Ctl.ret r)
          | .nx g'=>forC (as.drop (i + 1)) g' body).bind (Jl f)):=by rw [← YE]; exact P2
        cases eb : body gg as[i] with
        | bad=>rw [eb] at P3; exact P3
        | err x=>rw [eb] at P3; exact fun H4 s4=>P3 H4 (m3.trans s4)
        | ok c=>
          rw [eb] at P3
          cases c with
          | ret r=>exact FdOk.tr (Fd:=FTd K o) D r _ _ m3 P3
          | nx g'=>exact fun x' H4 w4 m4 sc4=>⟨x', g', rfl, w4, m2.trans (m3.trans m4), sc4, PZ.tr (FdOk.tr D) (m3.trans m4) P3⟩
      . left
        have e : i = as.length:=by first | lia | omega
        subst e
        refine ⟨hstop (J.oo x) H2 w2 m2, hr gg x H2 D w2 sc2 ?_⟩
        rw [List.drop_length] at P2
        exact P2
theorem G6 {κ2 : Type} {o : OE ρ} {J2 : Jn δ κ2} {wi : TI} {g : TG} {tb : TS} {r : Enc α} {κ : Type} {m : Rs (List α)} {body : γ -> α -> Rs (Ctl ρ γ)} {f : γ -> Rs (Ctl ρ δ)} (J : Jn γ ι) (T : ∀ OO, Tgt K OO g r κ) (x0 : ι) (g0 : γ) (he : Walk K Er S OO σ wi r m) (h1 : OO = J.oo x0) (h2 : σ = J.ss x0) (h3 : ∀ h, S.p h -> (J.sc g0 x0).p h)
    (hb : ∀ g x a v, Sv Er ((T (J.oo x)).sc a v (J.sc g x)) (J.oo x) ((T (J.oo x)).set v (J.ss x)) tb (FCd K o J) (body g a))
    (hr : ∀ g x, Sv Er (J.sc g x) (J.oo x) (J.ss x) u (FCd K o J2) (f g)) : Sv Er S OO σ (JI (Ll wi g tb) u) (FCd K o J2) (m.bind fun as=>(forC as g0 body).bind (QR f)):=fun H D w s P=>by
  refine he.ok w s ?_
  cases em : m with
  | bad=>rw [em] at P; exact P
  | err x=>rw [em] at P; exact fun H' s'=>P H' (XN.trans s')
  | ok as=>
    rw [em] at P
    have P : PZ Er (FCd K o J2 D) (hid H OO) ((forC as g0 body).bind (QR f)):=P
    intro It H' s' hgo hstop
    refine ⟨fun i mm σ' H2=>mm = as.length - i /\ i <= as.length /\ ∃ x gg, σ' = J.ss x /\ W (J.oo x) H2 /\ XD (hid H' OO) (hid H2 (J.oo x)) /\ (J.sc gg x).p (hid H2 (J.oo x)) /\ PZ Er (FCd K o J2 D) (hid H2 (J.oo x)) ((forC (as.drop i) gg body).bind (QR f)), ⟨as.length, rfl, Nat.zero_le _, x0, g0, h2, ?_, ?_, ?_, ?_⟩, ?_⟩
    . rw [← h1]; exact w.keep s'
    . rw [← h1]; exact XD.refl _
    . rw [← h1]; exact h3 _ (S.mono _ _ (Xj s') s)
    . rw [← h1, List.drop_zero]; exact PZ.tr (FdOk.tr D) (Xj s') P
    . rintro i mm σ' H2 ⟨rfl, hi, x, gg, rfl, w2, m2, sc2, P2⟩
      by_cases hlt : i < as.length
      . right
        have ha : as[i]? = some as[i]:=by simp [hlt]
        obtain ⟨h4, h5⟩:=hgo i _ ha (J.oo x) H2 w2 m2
        refine ⟨h4, fun σ3 H3=>∃ x gg, σ3 = J.ss x /\ W (J.oo x) H3 /\ XD (hid H' OO) (hid H3 (J.oo x)) /\ (J.sc gg x).p (hid H3 (J.oo x)) /\ PZ Er (FCd K o J2 D) (hid H3 (J.oo x)) ((forC (as.drop (i + 1)) gg body).bind (QR f)), fun σ3 H3 q=>⟨as.length - (i + 1), by first | lia | omega, rfl, hlt, q⟩, fun y H3 hy=>?_⟩
        obtain ⟨s3, r3⟩:=h5 y H3 hy
        have w3:=w2.keep s3
        have m3:=Xj (OO:=J.oo x) s3
        refine (T (J.oo x)).ok r3 ((J.sc gg x).mono _ _ m3 sc2) fun v hv=>hb gg x as[i] v H3 _ w3 hv ?_
        rw [List.drop_eq_getElem_cons hlt] at P2
        have P3 : PZ Er (FCd K o J2 D) (hid H2 (J.oo x)) ((body gg as[i]).bind fun c=>(match c with
          | .ret r=>Rs.ok (Ctl.ret r)
          | .nx g'=>forC (as.drop (i + 1)) g' body).bind (QR f)):=by rw [← YE]; exact P2
        cases eb : body gg as[i] with
        | bad=>rw [eb] at P3; exact P3
        | err x=>rw [eb] at P3; exact fun H4 s4=>P3 H4 (m3.trans s4)
        | ok c=>
          rw [eb] at P3
          cases c with
          | ret r=>exact FdOk.tr (Fd:=FTd K o) D r _ _ m3 P3
          | nx g'=>exact fun x' H4 w4 m4 sc4=>⟨x', g', rfl, w4, m2.trans (m3.trans m4), sc4, PZ.tr (FdOk.tr D) (m3.trans m4) P3⟩
      . left
        have e : i = as.length:=by first | lia | omega
        subst e
        refine ⟨hstop (J.oo x) H2 w2 m2, hr gg x H2 D w2 sc2 ?_⟩
        rw [List.drop_length] at P2
        exact P2
noncomputable def QV : Nat -> γ -> (γ -> Rs Bool) -> (γ -> Rs γ) -> Rs γ
  | 0, _, _, _=>.bad
  | n + 1, g, c, f=>(c g).bind fun b=>if b = true then (f g).bind fun g'=>QV n g' c f else .ok g
theorem Vc {c : TT} {tb : TS} {mc : γ -> Rs Bool} {body : γ -> Rs γ} {f : γ -> Rs β} (J : Jn γ ι) (n : Nat) (x0 : ι) (g0 : γ) (h1 : OO = J.oo x0) (h2 : σ = J.ss x0) (h3 : ∀ h, S.p h -> (J.sc g0 x0).p h)
    (hc : ∀ g x, EvT Er (J.sc g x) (J.oo x) (J.ss x) c (mc g)) (hb : ∀ g x, Sv Er (J.sc g x) (J.oo x) (J.ss x) tb (FNd J) (body g))
    (hr : ∀ g x, Sv Er (J.sc g x) (J.oo x) (J.ss x) u Fd (f g)) : Sv Er S OO σ (JI (Eh c tb) u) Fd ((QV n g0 mc body).bind f):=fun H D w s P=>by
  refine ⟨fun mm σ' H2=>∃ x gg, σ' = J.ss x /\ W (J.oo x) H2 /\ (J.sc gg x).p (hid H2 (J.oo x)) /\ PZ Er (Fd D) (hid H2 (J.oo x)) ((QV mm gg mc body).bind f), ⟨n, x0, g0, h2, by rw [← h1]; exact w, by rw [← h1]; exact h3 _ s, by rw [← h1]; exact P⟩, ?_⟩
  rintro mm σ' H2 ⟨x, gg, rfl, w2, sc2, P2⟩
  cases mm with
  | zero=>exact P2.elim
  | succ mm=>
    have P3 : PZ Er (Fd D) (hid H2 (J.oo x)) ((mc gg).bind fun b=>(if b = true then (body gg).bind fun g'=>QV mm g' mc body else .ok gg).bind f):=by rw [← YE]; exact P2
    refine (hc gg x).st w2 sc2 P3 fun b H3 w3 sc3 P4=>?_
    cases b with
    | false=>exact hr gg x H3 D w3 sc3 P4
    | true=>
      rw [if_pos rfl] at P4 ⊢
      refine ⟨fun σ3 H4=>∃ x gg, σ3 = J.ss x /\ W (J.oo x) H4 /\ (J.sc gg x).p (hid H4 (J.oo x)) /\ PZ Er (Fd D) (hid H4 (J.oo x)) ((QV mm gg mc body).bind f), fun σ3 H4 q=>⟨mm, Nat.lt_succ_self _, q⟩, hb gg x H3 _ w3 sc3 ?_⟩
      rw [YE] at P4
      cases eb : body gg with
      | bad=>rw [eb] at P4; exact P4
      | err x=>rw [eb] at P4; exact P4
      | ok g'=>
        rw [eb] at P4
        exact fun x' H5 w5 m5 sc5=>⟨x', g', rfl, w5, sc5, PZ.tr (fd.tr D) m5 P4⟩
noncomputable def FR (as : List α) (f : α -> Rs β) : Rs (List β):=match as with
  | []=>.ok []
  | a :: as=>(f a).bind fun b=>(FR as f).bind fun bs=>.ok (b :: bs)
noncomputable def KM (as : List α) (f : α -> Rs β) : Rs (List β):=chk (as.length <= sizeLine) (FR as f)
noncomputable def GS (as : List α) (c : α -> Rs Bool) (f : α -> Rs β) : Rs (List β):=match as with
  | []=>.ok []
  | a :: as=>(c a).bind fun b=>if b = true then (f a).bind fun b=>(GS as c f).bind fun bs=>.ok (b :: bs) else GS as c f
noncomputable def HS (as : List α) (c : α -> Rs Bool) (f : α -> Rs β) : Rs (List β):=chk (as.length <= sizeLine) (GS as c f)
theorem PZ.chk {F : β -> Hp -> Prop} {H : Hp} {c : Prop} [Decidable c] {m : Rs β} (P : PZ Er F H (chk c m)) : c /\ PZ Er F H m:=by
  unfold L2.chk at P; split at P
  . exact ⟨by assumption, P⟩
  . exact P.elim
theorem EJ {o : OE α} [z : MonoO o] {xs : List V} {as : List α} {Cs : List (List XO)} {H H0 : Hp} {Q : VK} (w : W (Cs.flatten :: OO) H) (m0 : XD (hid H0 OO) (hid H (Cs.flatten :: OO))) (s0 : XD H0 H) (pr : P3 (o K (hid H (Cs.flatten :: OO))) xs as Cs) (P : FO K OO OO (oL o) Q as H0) : ∀ p, H p = none -> Q (.ref p) (upd H p (.lst xs)):=fun p hp=>by
  have hn:=VW (OO:=Cs.flatten :: OO) hp (o:=.lst xs)
  have wn:=w.new hp (o:=.lst xs) rfl
  have pe : (((p, HO.lst xs) :: Cs.flatten) :: OO).flatten.Perm ([(p, HO.lst xs)] :: Cs.flatten :: OO).flatten:=by simp
  refine P (.ref p) ((p, .lst xs) :: Cs.flatten) _ (s0.trans (XX hp _)) (wn.of pe) ?_ ?_
  . rw [YL pe]; exact m0.trans hn
  . rw [YL pe]
    exact ⟨p, xs, Cs, rfl, pr.imp fun _ _ _ h=>z.mono hn h, rfl⟩
theorem Z1 {o : OE β} [z : MonoO o] {wi : TI} {g : TG} {te : TE} {r : Enc α} {κ : Type} {m : Rs (List α)} {f : α -> Rs β} {n : Nat} {caps : List (Nat × Str)} (T : ∀ OO, Tgt K OO g r κ) (he : Walk K Er S OO σ wi r m)
    (hb : ∀ C a v, Ev K Er ((T (C :: OO)).sc a v S) (C :: OO) (C :: OO) ((T (C :: OO)).set v (ZB n caps σ)) te o (f a)) : Ev K Er S OO OO σ (Cr n caps wi g UO te) (oL o) (m.bind fun as=>KM as f):=fun H Q w s P=>by
  refine he.ok w s ?_
  cases em : m with
  | bad=>rw [em] at P; exact P
  | err x=>rw [em] at P; exact P
  | ok as=>
    rw [em] at P
    obtain ⟨hsz, P⟩:=PZ.chk (show PZ Er _ H (chk (as.length <= sizeLine) (FR as f)) from P)
    intro It H' s' hgo hstop
    -- what is left: the Qm of the items, then all
    refine ⟨fun i mm ys H2=>mm = as.length - i /\ i <= as.length /\ ∃ bs Cs, XD H H2 /\ W (Cs.flatten :: OO) H2 /\ XD (hid H' OO) (hid H2 (Cs.flatten :: OO)) /\ P3 (o K (hid H2 (Cs.flatten :: OO))) ys bs Cs /\ bs.length = i /\ PZ Er (FO K OO OO (oL o) Q) H ((FR (as.drop i) f).bind fun Qm=>.ok (bs ++ Qm)),
      ⟨as.length, rfl, Nat.zero_le _, [], [], s', (w.keep s').nil, by show XD _ (hid H' ([] :: OO)); rw [Zj]; exact XD.refl _, .nil, rfl, ?_⟩, ?_⟩
    . rw [List.drop_zero]
      revert P
      cases FR as f <;> exact fun z=>z
    . rintro i mm ys H2 ⟨rfl, hi, bs, Cs, s2, w2, m2, pr, hlen, P2⟩
      refine ⟨by rw [pr.len.1, hlen]; (first | lia | omega), ?_⟩
      by_cases hlt : i < as.length
      . right
        have ha : as[i]? = some as[i]:=by simp [hlt]
        obtain ⟨h4, h5⟩:=hgo i _ ha (Cs.flatten :: OO) H2 w2 m2
        refine ⟨h4, fun ys' H3=>∃ bs Cs, XD H H3 /\ W (Cs.flatten :: OO) H3 /\ XD (hid H' OO) (hid H3 (Cs.flatten :: OO)) /\ P3 (o K (hid H3 (Cs.flatten :: OO))) ys' bs Cs /\ bs.length = i + 1 /\ PZ Er (FO K OO OO (oL o) Q) H ((FR (as.drop (i + 1)) f).bind fun Qm=>.ok (bs ++ Qm)), fun ys' H3 q=>⟨as.length - (i + 1), by first | lia | omega, rfl, hlt, q⟩, fun y H3 hy=>?_⟩
        obtain ⟨s3, r3⟩:=h5 y H3 hy
        have w3:=w2.keep s3
        have m3:=Xj (OO:=Cs.flatten :: OO) s3
        have sS : S.p (hid H3 (Cs.flatten :: OO)):=S.mono _ _ ((Xj s').trans (m2.trans m3)) s
        refine (T (Cs.flatten :: OO)).ok r3 sS fun v hv=>?_
        show UO _ _ _
        refine Iz ?_
        rw [List.drop_eq_getElem_cons hlt] at P2
        have P3' : PZ Er (FO K OO OO (oL o) Q) H ((f as[i]).bind fun b=>(FR (as.drop (i + 1)) f).bind fun Qm=>.ok (bs ++ b :: Qm)):=by
          have : ((f as[i]).bind fun b=>(FR (as.drop (i + 1)) f).bind fun Qm=>Rs.ok (bs ++ b :: Qm)) = (FR (as[i] :: as.drop (i + 1)) f).bind fun Qm=>.ok (bs ++ Qm):=by
            show _ = ((f as[i]).bind fun b=>(FR (as.drop (i + 1)) f).bind fun bs=>Rs.ok (b :: bs)).bind _
            rw [YE]; congr 1; funext b; rw [YE]; rfl
          rw [this]; exact P2
        refine hb Cs.flatten as[i] v H3 _ w3 hv ?_
        cases eb : f as[i] with
        | bad=>rw [eb] at P3'; exact P3'
        | err x=>rw [eb] at P3'; exact fun H4 s4=>P3' H4 (s2.trans (s3.trans s4))
        | ok b=>
          rw [eb] at P3'
          intro v' C' H4 s4 w4 m4 ho
          have pe : ((Cs ++ [C']).flatten :: OO).flatten.Perm (C' :: Cs.flatten :: OO).flatten:=by
            simp only [Z2, List.flatten_cons]
            rw [List.append_assoc, ← List.append_assoc, ← List.append_assoc]
            exact List.perm_append_comm.append_right _
          refine ⟨bs ++ [b], Cs ++ [C'], s2.trans (s3.trans s4), w4.of pe, ?_, ?_, by simp [hlen], ?_⟩
          . rw [YL pe]; exact m2.trans (m3.trans m4)
          . rw [YL pe]; exact P3.snoc (pr.imp fun _ _ _ h=>z.mono (m3.trans m4) h) ho
          . have P4 : PZ Er (FO K OO OO (oL o) Q) H ((FR (as.drop (i + 1)) f).bind fun Qm => .ok (bs ++ b :: Qm)) := P3'
            simpa using P4
      . left
        have e : i = as.length:=by first | lia | omega
        subst e
        refine ⟨hstop (Cs.flatten :: OO) H2 w2 m2, ?_⟩
        rw [List.drop_length] at P2
        have P3' : FO K OO OO (oL o) Q (bs ++ []) H:=P2
        rw [List.append_nil] at P3'
        exact EJ (H0:=H) w2 ((Xj s').trans m2) s2 pr P3'
theorem UE {o : OE β} [z : MonoO o] {wi : TI} {g : TG} {tt : TT} {te : TE} {r : Enc α} {κ : Type} {m : Rs (List α)} {c : α -> Rs Bool} {f : α -> Rs β} {n : Nat} {caps : List (Nat × Str)} (T : ∀ OO, Tgt K OO g r κ) (he : Walk K Er S OO σ wi r m)
    (hc : ∀ C a v, EvT Er ((T (C :: OO)).sc a v S) (C :: OO) ((T (C :: OO)).set v (ZB n caps σ)) tt (c a))
    (hb : ∀ C a v, Ev K Er ((T (C :: OO)).sc a v S) (C :: OO) (C :: OO) ((T (C :: OO)).set v (ZB n caps σ)) te o (f a)) : Ev K Er S OO OO σ (Cr n caps wi g tt te) (oL o) (m.bind fun as=>HS as c f):=fun H Q w s P=>by
  refine he.ok w s ?_
  cases em : m with
  | bad=>rw [em] at P; exact P
  | err x=>rw [em] at P; exact P
  | ok as=>
    rw [em] at P
    obtain ⟨hsz, P⟩:=PZ.chk (show PZ Er _ H (chk (as.length <= sizeLine) (GS as c f)) from P)
    intro It H' s' hgo hstop
    refine ⟨fun i mm ys H2=>mm = as.length - i /\ i <= as.length /\ ∃ bs Cs, XD H H2 /\ W (Cs.flatten :: OO) H2 /\ XD (hid H' OO) (hid H2 (Cs.flatten :: OO)) /\ P3 (o K (hid H2 (Cs.flatten :: OO))) ys bs Cs /\ bs.length <= i /\ PZ Er (FO K OO OO (oL o) Q) H ((GS (as.drop i) c f).bind fun Qm=>.ok (bs ++ Qm)),
      ⟨as.length, rfl, Nat.zero_le _, [], [], s', (w.keep s').nil, by show XD _ (hid H' ([] :: OO)); rw [Zj]; exact XD.refl _, .nil, Nat.zero_le _, ?_⟩, ?_⟩
    . rw [List.drop_zero]
      revert P
      cases GS as c f <;> exact fun z=>z
    . rintro i mm ys H2 ⟨rfl, hi, bs, Cs, s2, w2, m2, pr, hlen, P2⟩
      refine ⟨by rw [pr.len.1]; (first | lia | omega), ?_⟩
      by_cases hlt : i < as.length
      . right
        have ha : as[i]? = some as[i]:=by simp [hlt]
        obtain ⟨h4, h5⟩:=hgo i _ ha (Cs.flatten :: OO) H2 w2 m2
        refine ⟨h4, fun ys' H3=>∃ bs Cs, XD H H3 /\ W (Cs.flatten :: OO) H3 /\ XD (hid H' OO) (hid H3 (Cs.flatten :: OO)) /\ P3 (o K (hid H3 (Cs.flatten :: OO))) ys' bs Cs /\ bs.length <= i + 1 /\ PZ Er (FO K OO OO (oL o) Q) H ((GS (as.drop (i + 1)) c f).bind fun Qm=>.ok (bs ++ Qm)), fun ys' H3 q=>⟨as.length - (i + 1), by first | lia | omega, rfl, hlt, q⟩, fun y H3 hy=>?_⟩
        obtain ⟨s3, r3⟩:=h5 y H3 hy
        have w3:=w2.keep s3
        have m3:=Xj (OO:=Cs.flatten :: OO) s3
        have sS : S.p (hid H3 (Cs.flatten :: OO)):=S.mono _ _ ((Xj s').trans (m2.trans m3)) s
        refine (T (Cs.flatten :: OO)).ok r3 sS fun v hv=>?_
        rw [List.drop_eq_getElem_cons hlt] at P2
        have P3' : PZ Er (FO K OO OO (oL o) Q) H ((c as[i]).bind fun b=>(if b = true then (f as[i]).bind fun b=>(GS (as.drop (i + 1)) c f).bind fun bs=>.ok (b :: bs) else GS (as.drop (i + 1)) c f).bind fun Qm=>.ok (bs ++ Qm)):=by
          rw [← YE]; exact P2
        refine hc Cs.flatten as[i] v H3 _ w3 hv ?_
        cases ec : c as[i] with
        | bad=>rw [ec] at P3'; exact P3'
        | err x=>rw [ec] at P3'; exact fun H4 s4=>P3' H4 (s2.trans (s3.trans s4))
        | ok b=>
          rw [ec] at P3'
          intro H4 s4
          have w4:=w3.keep s4
          have m4:=Xj (OO:=Cs.flatten :: OO) s4
          cases b with
          | false=>exact ⟨bs, Cs, s2.trans (s3.trans s4), w4, m2.trans (m3.trans m4), pr.imp fun _ _ _ h=>z.mono (m3.trans m4) h, Nat.le_succ_of_le hlen, P3'⟩
          | true=>
            rw [if_pos rfl]
            have P4 : PZ Er (FO K OO OO (oL o) Q) H ((f as[i]).bind fun b=>(GS (as.drop (i + 1)) c f).bind fun Qm=>.ok (bs ++ b :: Qm)):=by
              have : ((f as[i]).bind fun b=>(GS (as.drop (i + 1)) c f).bind fun Qm=>Rs.ok (bs ++ b :: Qm)) = ((f as[i]).bind fun b=>(GS (as.drop (i + 1)) c f).bind fun bs=>Rs.ok (b :: bs)).bind fun Qm=>.ok (bs ++ Qm):=by
                rw [YE]; congr 1; funext b; rw [YE]; rfl
              rw [this]; exact P3'
            refine hb Cs.flatten as[i] v H4 _ w4 (((T (Cs.flatten :: OO)).sc as[i] v S).mono _ _ m4 hv) ?_
            cases eb : f as[i] with
            | bad=>rw [eb] at P4; exact P4
            | err x=>rw [eb] at P4; exact fun H5 s5=>P4 H5 (s2.trans (s3.trans (s4.trans s5)))
            | ok b=>
              rw [eb] at P4
              intro v' C' H5 s5 w5 m5 ho
              have pe : ((Cs ++ [C']).flatten :: OO).flatten.Perm (C' :: Cs.flatten :: OO).flatten:=by
                simp only [Z2, List.flatten_cons]
                rw [List.append_assoc, ← List.append_assoc, ← List.append_assoc]
                exact List.perm_append_comm.append_right _
              refine ⟨bs ++ [b], Cs ++ [C'], s2.trans (s3.trans (s4.trans s5)), w5.of pe, ?_, ?_, by simpa using hlen, ?_⟩
              . rw [YL pe]; exact m2.trans (m3.trans (m4.trans m5))
              . rw [YL pe]; exact P3.snoc (pr.imp fun _ _ _ h=>z.mono (m3.trans (m4.trans m5)) h) ho
              . have P5 : PZ Er (FO K OO OO (oL o) Q) H ((GS (as.drop (i + 1)) c f).bind fun Qm => .ok (bs ++ b :: Qm)) := P4
                simpa using P5
      . left
        have e : i = as.length:=by first | lia | omega
        subst e
        refine ⟨hstop (Cs.flatten :: OO) H2 w2 m2, ?_⟩
        rw [List.drop_length] at P2
        have P3' : FO K OO OO (oL o) Q (bs ++ []) H:=P2
        rw [List.append_nil] at P3'
        exact EJ (H0:=H) w2 ((Xj s').trans m2) s2 pr P3'
noncomputable def JT (as : List α) (i : Int) (a : α) : Rs (List α):=match ixN as.length i with
  | some j=>.ok (as.set j a)
  | none=>.bad
end
end L2
namespace L2
open PySem PySem.Spec PyProof.Rows
section
variable {K : PySem.W.Frag} {Er : Exc -> Hp -> Prop} {S : SC} {OO OO' OO2 : List (List XO)} {σ : St} {α β γ ρ ι δ ε : Type}
variable {Fd : Ends -> β -> Hp -> Prop} [fd : FdOk Fd] {u : TS}
theorem Bh {C D C' : List XO} {H : Hp} {k : Nat} {p : Addr} {o : HO} (w : W (D :: OO) H) (hk : OO[k]? = some C) (hp : p ∈ C.map (·.1)) (hp' : p ∈ C'.map (·.1)) (hnd : (C'.map (·.1)).Nodup) (hin : ∀ b ∈ C'.map (·.1), b ∈ (C ++ D).map (·.1)) (ht : ∀ c ∈ C', upd H p o c.1 = some c.2) (hm : ∀ c ∈ C', HX c.2 = true) :
    W (OO.set k C') (upd H p o) /\ XD (hid H (D :: OO)) (hid (upd H p o) (OO.set k C')):=by
  have hlt : k < OO.length:=by
    rcases Nat.lt_or_ge k OO.length with h | h
    . exact h
    . rw [List.getElem?_eq_none h] at hk; cases hk
  have h1:=Yh hk
  have h2:=Yh (OO:=OO.set k C') (k:=k) (C:=C') (by simp [hlt])
  rw [UH] at h2
  have h3 : (OO.set k C').flatten.Perm (C' ++ (OO.set k []).flatten):=by simpa using h2.symm
  have h4 : (D :: OO).flatten.Perm ((C ++ D) ++ (OO.set k []).flatten):=by
    rw [List.flatten_cons]
    refine ((by simpa using h1.symm : OO.flatten.Perm (C ++ (OO.set k []).flatten)).append_left D).trans ?_
    rw [← List.append_assoc]
    exact List.perm_append_comm.append_right _
  have nd2 : (((C ++ D) ++ (OO.set k []).flatten).map (·.1)).Nodup:=(h4.map _).nodup_iff.mp w.nd
  rw [List.map_append] at nd2
  obtain ⟨n1, n2, n3⟩:=List.nodup_append.mp nd2
  refine ⟨⟨fun c hc=>?_, ?_, fun c hc=>?_⟩, fun b v q=>?_⟩
  . rcases List.mem_append.mp (h3.mem_iff.mp hc) with hc | hc
    . exact ht c hc
    . have hne : c.1 ≠ p := fun e => n3 p (hin p hp') c.1 (List.mem_map.mpr ⟨c, hc, rfl⟩) e.symm
      rw [XQ hne]
      exact w.tr c (h4.mem_iff.mpr (by simp [hc]))
  . refine ((h3.map _).nodup_iff).mpr ?_
    rw [List.map_append]
    exact List.nodup_append.mpr ⟨hnd, n2, fun a ha b hb=>n3 a (hin a ha) b hb⟩
  . rcases List.mem_append.mp (h3.mem_iff.mp hc) with hc | hc
    . exact hm c hc
    . exact w.mu c (h4.mem_iff.mpr (by simp [hc]))
  . obtain ⟨q1, q2⟩ := YB q
    have hbp : b ≠ p:=fun e=>q2 (by
      rw [e]
      obtain ⟨c, hc, rfl⟩:=List.mem_map.mp hp
      exact Ue (h4.mem_iff.mpr (by simp [hc])))
    refine Qk (by rw [XQ hbp]; exact q1) fun z=>q2 ?_
    obtain ⟨o', ho'⟩:=DB z
    rcases List.mem_append.mp (h3.mem_iff.mp ho') with hc | hc
    . obtain ⟨c, hc2, e⟩ := List.mem_map.mp (hin b (List.mem_map.mpr ⟨_, hc, rfl⟩))
      rw [← e]
      exact Ue (h4.mem_iff.mpr (List.mem_append_left _ hc2))
    . exact Ue (c:=(b, o')) (h4.mem_iff.mpr (by simp [hc]))
theorem Lk {D : List XO} {Cs Cs' : List (List XO)} {H : Hp} {k : Nat} {p : Addr} {xs xs' : List V} (w : W (D :: OO) H) (hk : OO[k]? = some ((p, .lst xs) :: Cs.flatten)) (hin : ∀ c ∈ Cs'.flatten, c ∈ Cs.flatten ++ D) (hnd : (Cs'.flatten.map (·.1)).Nodup) :
    W (OO.set k ((p, .lst xs') :: Cs'.flatten)) (upd H p (.lst xs')) /\ XD (hid H (D :: OO)) (hid (upd H p (.lst xs')) (OO.set k ((p, .lst xs') :: Cs'.flatten))):=by
  have h1:=Yh hk
  have w3 : W [((p, HO.lst xs) :: (Cs.flatten ++ D)) ++ (OO.set k []).flatten] H:=w.of (by
    simp only [List.flatten_cons, List.flatten_nil, List.append_nil]
    refine List.Perm.trans ?_ ((by simpa using h1 : (((p, HO.lst xs) :: Cs.flatten) ++ (OO.set k []).flatten).Perm OO.flatten).append_left D)
    rw [← List.append_assoc]
    refine List.Perm.append_right _ ?_
    exact (List.perm_append_comm (l₁:=(p, HO.lst xs) :: Cs.flatten) (l₂:=D)))
  have nd:=w3.nd
  simp only [fl, List.flatten_cons, List.flatten_nil, List.append_nil, List.map_append, List.cons_append, List.map_cons] at nd
  have hne : ∀ c ∈ Cs'.flatten, c.1 ≠ p:=fun c hc e=>by
    refine (List.nodup_cons.mp nd).1 ?_
    rw [← e]
    refine List.mem_append_left _ ?_
    rw [← List.map_append]
    exact List.mem_map.mpr ⟨c, hin c hc, rfl⟩
  refine Bh w hk List.mem_cons_self List.mem_cons_self ?_ ?_ ?_ ?_
  . rw [List.map_cons, List.nodup_cons]
    refine ⟨fun z=>?_, hnd⟩
    obtain ⟨c, hc, e⟩:=List.mem_map.mp z
    exact hne c hc e
  . intro b hb
    rcases List.mem_cons.mp hb with rfl | hb
    . exact List.mem_cons_self
    . obtain ⟨c, hc, rfl⟩ := List.mem_map.mp hb
      rw [List.cons_append, List.map_cons]
      exact List.mem_cons_of_mem _ (List.mem_map.mpr ⟨c, hin c hc, rfl⟩)
  . intro c hc
    rcases List.mem_cons.mp hc with rfl | hc
    . exact YM
    . rw [XQ (hne c hc)]
      exact w3.tr c (by
        rw [List.flatten_cons, List.flatten_nil, List.append_nil]
        exact List.mem_append_left _ (List.mem_cons_of_mem _ (hin c hc)))
  . intro c hc
    rcases List.mem_cons.mp hc with rfl | hc
    . rfl
    . exact w3.mu c (by
        rw [List.flatten_cons, List.flatten_nil, List.append_nil]
        exact List.mem_append_left _ (List.mem_cons_of_mem _ (hin c hc)))
theorem K8 {o : OE α} {h : Hp} {p : Addr} {xs : List V} {as : List α} {R : List XO} (q : oL o K h (.ref p) as ((p, .lst xs) :: R)) : ∃ Cs, P3 (o K h) xs as Cs /\ R = Cs.flatten:=by
  obtain ⟨p', xs', Cs, e, q, c⟩:=q
  injection c with c1 c2
  injection c1 with c3 c4
  injection c4 with c5
  subst c5
  exact ⟨Cs, q, c2⟩
theorem CO {as : List α} {i : Int} {a : α} {bs : List α} (h : JT as i a = .ok bs) : ∃ j, ixN as.length i = some j /\ bs = as.set j a:=by
  unfold JT at h; split at h
  . cases h; exact ⟨_, by assumption, rfl⟩
  . cases h
theorem FZ {as : List α} {i : Int} {a : α} {x : Exc} : JT as i a ≠ .err x:=by unfold JT; split <;> exact fun z=>nomatch z
theorem JB {l r m : List XO} (h : (l ++ r).Perm m) (n : (m.map (·.1)).Nodup) : (l.map (·.1)).Nodup:=by
  have : ((l ++ r).map (·.1)).Nodup:=(h.map _).nodup_iff.mpr n
  rw [List.map_append] at this
  exact (List.nodup_append.mp this).1
theorem GC {Cs : List (List XO)} {j : Nat} {D : List XO} (hj : j < Cs.length) : ((Cs.set j D).flatten ++ Cs[j]).Perm (Cs.flatten ++ D):=by
  have h1:=Yh (OO:=Cs) (k:=j) (C:=Cs[j]) (by simp [hj])
  have h2:=Yh (OO:=Cs.set j D) (k:=j) (C:=D) (by simp [hj])
  rw [UH] at h2
  have h3 : (Cs.set j D).flatten.Perm (D ++ (Cs.set j []).flatten):=by simpa using h2.symm
  have h4 : Cs.flatten.Perm (Cs[j] ++ (Cs.set j []).flatten):=by simpa using h1.symm
  refine (h3.append_right _).trans (List.Perm.trans ?_ (h4.append_right _).symm)
  refine List.perm_append_comm.trans ((List.perm_append_comm.append_left _).trans ?_)
  rw [List.append_assoc]
theorem QZ {D : List XO} {Cs : List (List XO)} {H : Hp} {k : Nat} {p : Addr} {xs : List V} (w : W (D :: OO) H) (hk : OO[k]? = some ((p, .lst xs) :: Cs.flatten)) : ((Cs.flatten ++ D).map (·.1)).Nodup:=by
  have h1:=Yh hk
  have w3 : W [((p, HO.lst xs) :: (Cs.flatten ++ D)) ++ (OO.set k []).flatten] H:=w.of (by
    simp only [List.flatten_cons, List.flatten_nil, List.append_nil]
    refine List.Perm.trans ?_ ((by simpa using h1 : (((p, HO.lst xs) :: Cs.flatten) ++ (OO.set k []).flatten).Perm OO.flatten).append_left D)
    rw [← List.append_assoc]
    refine List.Perm.append_right _ ?_
    exact (List.perm_append_comm (l₁:=(p, HO.lst xs) :: Cs.flatten) (l₂:=D)))
  have nd:=w3.nd
  simp only [fl, List.flatten_cons, List.flatten_nil, List.append_nil, List.cons_append, List.map_cons] at nd
  have n2:=(List.nodup_cons.mp nd).2
  rw [List.map_append] at n2
  exact (List.nodup_append.mp n2).1
theorem Gz {ta ti : TE} {o : OE α} [MonoO o] {m : Rs α} {mi : Rs Int} {f : List α -> Rs β} {v : V} {as : List α} {C : List XO} (i k : Nat) (hσ : σ[i]? = some (some v)) (hk' : OO'[k]? = some C) (h : ∀ x, S.p x -> oL o K x v as C) (he : Ev K Er S OO OO' σ ta o m)
    (hi : ∀ D, EvB K Er S (D :: OO') σ ti Xa mi)
    (hr : ∀ bs C', Sv Er (S.addO K (oL o) v bs C') (OO'.set k C') σ u Fd (f bs)) : Sv Er S OO σ (JI (Bm ta (LK (UV i) ti He)) u) Fd (m.bind fun a=>mi.bind fun j=>(JT as j a).bind f):=fun H D w s P=>
  he.st w s P fun a y D' H' w' s' ho P'=>⟨v, hσ, (hi D').st w' s' P' fun j z H2 s2 w2 q2 r2 P2=>by
    obtain ⟨p, xs, Cs, e, q, c⟩:=h _ q2
    subst c
    have hH : H2 p = some (.lst xs):=w2.tr (p, .lst xs) (by rw [List.flatten_cons]; exact List.mem_append_right _ (List.mem_flatten.mpr ⟨_, List.mem_of_getElem? hk', List.mem_cons_self⟩))
    cases es : JT as j a with
    | bad=>rw [es] at P2; exact P2.elim
    | err x=>exact absurd es FZ
    | ok bs=>
      rw [es] at P2
      obtain ⟨jj, h1, rfl⟩:=CO es
      have hjl : jj < as.length:=by
        unfold ixN at h1
        split at h1
        . split at h1
          . cases h1; (first | lia | omega)
          . cases h1
        . split at h1
          . cases h1; (first | lia | omega)
          . cases h1
      have hjC : jj < Cs.length:=by rw [q.len.2]; exact hjl
      have hp:=GC (Cs:=Cs) (j:=jj) (D:=D') hjC
      obtain ⟨w3, m3⟩:=Lk (xs':=xs.set jj y) (Cs':=Cs.set jj D') w2 hk' (fun c hc=>hp.mem_iff.mp (List.mem_append_left _ hc)) (JB hp (QZ w2 hk'))
      refine ⟨p, xs, j, jj, e, r2, hH, by rw [q.len.1]; exact h1, hr _ _ _ D w3 ⟨S.mono _ _ m3 q2, ⟨p, _, _, e, P3.imp (fun _ _ _ z=>MonoO.mono m3 z) (P3.set (MonoO.mono (Xj s2) ho) jj q), rfl⟩⟩ (PZ.tr (fd.tr D) m3 P2)⟩⟩
theorem Ir {ta : TE} {o : OE α} [MonoO o] {m : Rs (List α)} {f : List α -> Rs β} {v : V} {as : List α} {C : List XO} (i k : Nat) (hσ : σ[i]? = some (some v)) (hk : OO[k]? = some C) (hk' : OO'[k]? = some C) (h : ∀ x, S.p x -> oL o K x v as C) (he : Ev K Er S OO OO' σ ta (oL o) m)
    (hr : ∀ bs C', Sv Er (S.addO K (oL o) v (as ++ bs) C') (OO'.set k C') σ u Fd (f (as ++ bs))) : Sv Er S OO σ (JI (Fc (tBM K "list" Cz (UV i) (XI ta Z5))) u) Fd (m.bind fun bs=>chk (as.length + bs.length <= sizeLine) (f (as ++ bs))):=fun H D w s P=>by
  obtain ⟨p, xs, Cs, e, q, c⟩:=h _ s
  subst c
  have hH : H p = some (.lst xs):=w.tr (p, .lst xs) (List.mem_flatten.mpr ⟨_, List.mem_of_getElem? hk, List.mem_cons_self⟩)
  refine ⟨v, hσ, by rw [e]; exact .inl ⟨rfl, _, SqL.of hH⟩, he.st w s P fun bs y D' H' w' s' ho P'=>?_⟩
  obtain ⟨hsz, P'⟩:=PZ.chk P'
  subst e
  obtain ⟨Cs2, q2, c2⟩:=K8 (h _ s')
  obtain ⟨p', zs, Ds, e3, q3, c3⟩:=ho
  subst c3
  have hH' : H' p = some (.lst xs):=w'.tr (p, .lst xs) (by rw [List.flatten_cons]; exact List.mem_append_right _ (List.mem_flatten.mpr ⟨_, List.mem_of_getElem? hk', List.mem_cons_self⟩))
  have hH2 : H' p' = some (.lst zs):=w'.tr (p', .lst zs) (by rw [List.flatten_cons]; exact List.mem_append_left _ List.mem_cons_self)
  have cn:=QZ w' hk'
  obtain ⟨w3, m3⟩:=Lk (xs':=xs ++ zs) (Cs':=Cs2 ++ Ds) w' hk' (fun c hc=>by
      rw [List.flatten_append, List.mem_append] at hc
      rcases hc with hc | hc
      . rw [c2]; exact List.mem_append_left _ hc
      . exact List.mem_append_right _ (List.mem_cons_of_mem _ hc)) (by
      rw [List.flatten_append, ← c2]
      refine List.Nodup.sublist (List.Sublist.map _ ?_) cn
      exact List.Sublist.append (List.Sublist.refl _) (List.sublist_cons_self _ _))
  refine ⟨p, p', xs, zs, rfl, by rw [e3], hH', hH2, by rw [q2.len.1, q3.len.1]; exact hsz, ?_⟩
  exact hr bs _ _ D w3 ⟨S.mono _ _ m3 s', ⟨p, _, _, rfl, P3.imp (fun _ _ _ z=>MonoO.mono m3 z) (q2.app q3), rfl⟩⟩ (PZ.tr (fd.tr D) m3 P')
noncomputable def FU (as : List α) (i : Int) : Rs (α × List α):=chk (-(2 ^ 63) <= i /\ i < 2 ^ 63) (match seqIndex? i as.length with
  | none=>.bad
  | some k=>match as[k]? with
    | none=>.bad
    | some a=>.ok (a, as.eraseIdx k))
theorem ED {as : List α} {i : Int} {p : α × List α} (h : FU as i = .ok p) : (-(2 ^ 63) <= i /\ i < 2 ^ 63) /\ ∃ k, seqIndex? i as.length = some k /\ as[k]? = some p.1 /\ p.2 = as.eraseIdx k:=by
  obtain ⟨h1, h2⟩:=ZM h
  refine ⟨h1, ?_⟩
  split at h2
  . cases h2
  . split at h2
    . cases h2
    . cases h2; exact ⟨_, by assumption, by assumption, rfl⟩
theorem Hi {as : List α} {i : Int} {x : Exc} : FU as i ≠ .err x:=by
  unfold FU chk; split
  . split
    . exact fun z=>nomatch z
    . split <;> exact fun z=>nomatch z
  . exact fun z=>nomatch z
theorem Paired.erase' {F : α -> γ -> Prop} : ∀ {l : List α} {m : List γ} (n : Nat), Paired F l m -> Paired F (l.eraseIdx n) (m.eraseIdx n)
  | _, _, _, .nil=>.nil
  | _, _, 0, .cons _ t=>t
  | _, _, n + 1, .cons r t=>.cons r (Paired.erase' n t)
theorem Ca {te ti : TE} {r : Enc α} [MonoE r] {mi : Rs Int} {f : α × List α -> Rs β} {v : V} {as : List α} {C : List XO} {D : Ends} {H : Hp} {Q : VK} (i k : Nat) (hσ : σ[i]? = some (some v)) (hk : OO[k]? = some C) (h : ∀ x, S.p x -> oL (oF r) K x v as C) (hi : EvB K Er S OO σ ti Xa mi)
    (w : W OO H) (s : S.p (hid H OO)) (P : PZ Er (Fd D) (hid H OO) (mi.bind fun j=>(FU as j).bind f))
    (hr : ∀ a bs y C' H', W (OO.set k C') H' -> ((S.add K r y a).addO K (oL (oF r)) v bs C').p (hid H' (OO.set k C')) -> PZ Er (Fd D) (hid H' (OO.set k C')) (f (a, bs)) -> Q y H') : tBM K "list" G0 (UV i) (XI ti Z5) σ H Q:=by
  obtain ⟨p, xs, Cs, e, q, c⟩:=h _ s
  subst c
  have hH : H p = some (.lst xs):=w.tr (p, .lst xs) (List.mem_flatten.mpr ⟨_, List.mem_of_getElem? hk, List.mem_cons_self⟩)
  refine ⟨v, hσ, by rw [e]; exact .inl ⟨rfl, _, SqL.of hH⟩, hi.st w s P fun j z H' s1 w' s' ho P'=>?_⟩
  subst e
  obtain ⟨Cs2, q2, c2⟩:=K8 (h _ s')
  obtain ⟨pr, hfl⟩:=P3.flat q2
  cases es : FU as j with
  | bad=>rw [es] at P'; exact P'.elim
  | err x=>exact absurd es Hi
  | ok pp=>
    rw [es] at P'
    obtain ⟨a, bs⟩:=pp
    obtain ⟨h1, kk, h2, h3, h4⟩:=ED es
    obtain ⟨y, hy, ry⟩:=Paired.getR pr h3
    have w0 : W ([] :: OO) H':=w'.nil
    have hk0 : OO[k]? = some ((p, .lst xs) :: ([] : List (List XO)).flatten):=by rw [hk, c2, hfl]; rfl
    obtain ⟨w3, m3⟩:=Lk (D:=[]) (Cs:=[]) (xs':=xs.eraseIdx kk) (Cs':=List.replicate bs.length []) w0 hk0 (fun c hc=>by rw [YO] at hc; cases hc) (by rw [YO]; exact List.nodup_nil)
    rw [Zj] at m3
    refine ⟨p, xs, j, kk, y, rfl, by rw [show z = .int j from ho], s1 _ _ hH, h1.1, h1.2, by rw [Paired.len pr]; exact h2, hy, ?_⟩
    have pr2 : Paired (r K (hid H' OO)) (xs.eraseIdx kk) bs:=by rw [show bs = as.eraseIdx kk from h4]; exact Paired.erase' kk pr
    exact hr a bs y _ _ w3 ⟨⟨S.mono _ _ m3 s', MonoE.mono m3 ry⟩, ⟨p, _, _, rfl, (P3.of (Paired.imp2 (fun _ _ z=>MonoE.mono m3 z) pr2)).imp fun _ _ _ z=>z, rfl⟩⟩ (PZ.tr (fd.tr D) m3 P')
theorem Ib {ti : TE} {r : Enc α} [MonoE r] {mi : Rs Int} {f : α × List α -> Rs β} {v : V} {as : List α} {C : List XO} (x i k : Nat) (hσ : σ[i]? = some (some v)) (hk : OO[k]? = some C) (h : ∀ x, S.p x -> oL (oF r) K x v as C) (hi : EvB K Er S OO σ ti Xa mi)
    (hr : ∀ a bs y C', Sv Er ((S.add K r y a).addO K (oL (oF r)) v bs C') (OO.set k C') (σ.set x (some y)) u Fd (f (a, bs))) : Sv Er S OO σ (JI (Bm (tBM K "list" G0 (UV i) (XI ti Z5)) (ZD x)) u) Fd (mi.bind fun j=>(FU as j).bind f):=fun H D w s P=>
  Ca (te:=ti) i k hσ hk h hi w s P fun a bs y C' H' w' s' P'=>hr a bs y C' H' D w' s' P'
theorem GA {ti : TE} {r : Enc α} [MonoE r] {mi : Rs Int} {f : List α -> List α -> Rs β} {v v2 : V} {as zs : List α} {C C2 : List XO} (i k i2 k2 : Nat) (hne : k2 ≠ k) (hσ : σ[i]? = some (some v)) (hk : OO[k]? = some C) (h : ∀ x, S.p x -> oL (oF r) K x v as C)
    (hσ2 : σ[i2]? = some (some v2)) (hk2 : OO[k2]? = some C2) (h2 : ∀ x, S.p x -> oL (oF r) K x v2 zs C2) (hi : EvB K Er S OO σ ti Xa mi)
    (hr : ∀ a bs C' C2', Sv Er ((S.addO K (oL (oF r)) v bs C').addO K (oL (oF r)) v2 (zs ++ [a]) C2') ((OO.set k C').set k2 C2') σ u Fd (f bs (zs ++ [a]))) :
    Sv Er S OO σ (JI (Fc (tBM K "list" Uz (UV i2) (XI (tBM K "list" G0 (UV i) (XI ti Z5)) Z5))) u) Fd (mi.bind fun j=>(FU as j).bind fun p=>chk (zs.length < sizeLine) (f p.2 (zs ++ [p.1]))):=fun H D w s P=>by
  obtain ⟨p2, xs2, Cs2, e2, q2, c2⟩:=h2 _ s
  subst c2
  have hH2 : H p2 = some (.lst xs2):=w.tr (p2, .lst xs2) (List.mem_flatten.mpr ⟨_, List.mem_of_getElem? hk2, List.mem_cons_self⟩)
  refine ⟨v2, hσ2, by rw [e2]; exact .inl ⟨rfl, _, SqL.of hH2⟩, Ca (te:=ti) i k hσ hk h hi w s P fun a bs y C' H' w' s' P'=>?_⟩
  obtain ⟨hsz, P'⟩:=PZ.chk P'
  subst e2
  obtain ⟨Cs3, q3, c3⟩:=K8 (h2 _ s'.1.1)
  obtain ⟨pr, hfl⟩:=P3.flat q3
  have hkk : (OO.set k C')[k2]? = some ((p2, HO.lst xs2) :: ([] : List (List XO)).flatten):=by
    rw [List.getElem?_set_ne (fun e=>hne e.symm), hk2, c3, hfl]; rfl
  have hH3 : H' p2 = some (.lst xs2):=w'.tr (p2, .lst xs2) (List.mem_flatten.mpr ⟨_, List.mem_of_getElem? hkk, List.mem_cons_self⟩)
  obtain ⟨w3, m3⟩:=Lk (D:=[]) (Cs:=[]) (xs':=xs2 ++ [y]) (Cs':=List.replicate (zs ++ [a]).length []) w'.nil hkk (fun c hc=>by rw [YO] at hc; cases hc) (by rw [YO]; exact List.nodup_nil)
  rw [Zj] at m3
  refine ⟨p2, xs2, y, rfl, rfl, hH3, by rw [Paired.len pr]; exact hsz, ?_⟩
  refine hr a bs C' _ _ D w3 ⟨⟨S.mono _ _ m3 s'.1.1, (SC.oneO K (oL (oF r)) v bs C').mono _ _ m3 s'.2⟩, ⟨p2, _, _, rfl, (P3.of (Paired.app (Paired.imp2 (fun _ _ z=>MonoE.mono m3 z) pr) (.cons (MonoE.mono m3 (show r K _ y a from s'.1.2)) .nil))).imp fun _ _ _ z=>z, rfl⟩⟩ (PZ.tr (fd.tr D) m3 P')
theorem G4 {ta tb : TE} {r : Enc α} {q : Enc γ} [z : MonoE r] [MonoE q] {ma : Rs α} {mb : Rs γ} {f : α -> γ -> Rs β} (i j : Nat) (ha : EvS K Er S OO σ ta r ma) (hb : EvS K Er S OO σ tb q mb)
    (hr : ∀ a b v w, Sv Er ((S.add K r v a).add K q w b) OO ((σ.set i (some v)).set j (some w)) u Fd (f a b)) : Sv Er S OO σ (JI (LR i j (XI ta (XI tb Z5))) u) Fd (ma.bind fun a=>mb.bind fun b=>f a b):=fun H D w s P=>
  ha.st w s P fun a x H1 s1 w1 q1 r1 P1=>hb.st w1 q1 P1 fun b y H2 s2 w2 q2 r2 P2=>⟨x, y, rfl, hr a b x y H2 D w2 ⟨⟨q2, z.mono (Xj s2) r1⟩, r2⟩ P2⟩
theorem DJ {te : TE} {r : Enc α} {q : Enc γ} [MonoE r] [MonoE q] {m : Rs (α × γ)} {f : α × γ -> Rs β} (i j : Nat) (he : EvS K Er S OO σ te (rP2 r q) m)
    (hr : ∀ a v w, Sv Er ((S.add K r v a.1).add K q w a.2) OO ((σ.set i (some v)).set j (some w)) u Fd (f a)) : Sv Er S OO σ (JI (Bm te (EV K 2 (QO (ZD i) (QO (ZD j) HR)))) u) Fd (m.bind f):=fun H D w s P=>
  he.st w s P fun a v H1 s1 w1 q1 r9 P1=>by obtain ⟨p, x, y, e, h, h1, h2⟩:=r9; exact ⟨p, _, e, SqT.of (XN _ _ h), rfl, x, [y], rfl, y, [], rfl, rfl, hr a x y H1 D w1 ⟨⟨q1, h1⟩, h2⟩ P1⟩
theorem Eg {te : TE} {g : Int -> Int -> Int} {m : Rs Int} {f : Int -> Rs β} {v : V} {a : Int} (i : Nat) (hσ : σ[i]? = some (some v)) (h : ∀ x, S.p x -> Xa K x v a) (he : EvB K Er S OO σ te Xa m)
    (hr : ∀ b v, Sv Er (S.add K Xa v b) OO (σ.set i (some v)) u Fd (f b)) : Sv Er S OO σ (JI (Lz i te (ipI g)) u) Fd (m.bind fun b=>f (g a b)):=fun H D w s P=>
  ⟨v, hσ, he.st w s P fun b y H1 s1 w1 q1 r1 P1=>⟨a, b, h _ s, r1, hr _ _ H1 D w1 ⟨q1, rfl⟩ P1⟩⟩
theorem K3 {ta tb : TE} {ma mb : Rs Int} (ha : EvB K Er S OO σ ta Xa ma) (hb : EvB K Er S OO σ tb Xa mb) : EvB K Er S OO σ (tCB (fun xs H Q=>∃ i j : Int, xs = [.int i, .int j] /\ Q (.int (if j > i then j else i)) H) (XI ta (XI tb Z5))) Xa (ma.bind fun a=>mb.bind fun b=>.ok (max a b)):=fun H Q w s P=>
  ha.run w s FB.tr P fun a x H1 s1 w1 q1 r1 P1=>hb.run w1 q1 FB.tr P1 fun b y H2 s2 w2 q2 r2 P2=>⟨a, b, by rw [show x = .int a from r1, show y = .int b from r2], P2 _ H2 (XD.refl _) (by show V.int _ = V.int _; congr 1; (first | lia | omega))⟩
theorem E1 {ta tb : TE} {ma mb : Rs Int} (ha : EvB K Er S OO σ ta Xa ma) (hb : EvB K Er S OO σ tb Xa mb) : EvB K Er S OO σ (tCB (fun xs H Q=>∃ i j : Int, xs = [.int i, .int j] /\ Q (.int (if j < i then j else i)) H) (XI ta (XI tb Z5))) Xa (ma.bind fun a=>mb.bind fun b=>.ok (min a b)):=fun H Q w s P=>
  ha.run w s FB.tr P fun a x H1 s1 w1 q1 r1 P1=>hb.run w1 q1 FB.tr P1 fun b y H2 s2 w2 q2 r2 P2=>⟨a, b, by rw [show x = .int a from r1, show y = .int b from r2], P2 _ H2 (XD.refl _) (by show V.int _ = V.int _; congr 1; (first | lia | omega))⟩
theorem En {ta : TE} {ma : Rs (List Int)} (ha : EvB K Er S OO σ ta (rV Xa) ma) : EvB K Er S OO σ (tCB (LN K) (XI ta Z5)) Xa (ma.bind fun a=>.ok a.sum):=fun H Q w s P=>
  ha.run w s FB.tr P fun a x H1 s1 w1 q1 r9 P1=>by obtain ⟨p, xs, e, q, pr⟩:=r9; exact ⟨p, a, by rw [e], by rw [← QX pr]; exact SqL.of q, P1 _ H1 (XD.refl _) rfl⟩
theorem JJ : ∀ {xs : List V} {bs : List Bool} {H : Hp}, Paired (XT K H) xs bs -> xs = bs.map V.bl
  | _, _, _, .nil=>rfl
  | _, _, _, .cons r t=>by rw [show _ = V.bl _ from r, JJ t]; rfl
theorem EH {ta : TE} {ma : Rs (List Bool)} (ha : EvB K Er S OO σ ta (rV XT) ma) : EvB K Er S OO σ (tCB (L0 K) (XI ta Z5)) XT (ma.bind fun a=>.ok (a.all id)):=fun H Q w s P=>
  ha.run w s FB.tr P fun a x H1 s1 w1 q1 r9 P1=>by obtain ⟨p, xs, e, q, pr⟩:=r9; exact ⟨p, a, by rw [e], by rw [← JJ pr]; exact SqL.of q, P1 _ H1 (XD.refl _) rfl⟩
class TyE {α : Type} (r : Enc α) (n : outParam String) : Prop where
  ty : ∀ {K : PySem.W.Frag} {H : Hp} {v : V} {a : α}, r K H v a -> TyOf K H v (.type n)
instance : TyE Xa "int":=⟨fun {K H v a} h=>by cases (show v = .int a from h); exact .int a⟩
instance : TyE XT "bool":=⟨fun {K H v a} h=>by cases (show v = .bl a from h); exact .bl a⟩
instance {r : Enc α} : TyE (rV r) "list":=⟨fun r9=>by obtain ⟨p, xs, e, q, _⟩:=r9; exact by subst e; exact .lst q⟩
instance {r : Enc α} : TyE (rPL r) "tuple":=⟨fun r9=>by obtain ⟨p, xs, e, q, _⟩:=r9; exact by subst e; exact .tup q⟩
instance {r : Enc α} {q : Enc γ} : TyE (rP2 r q) "tuple":=⟨fun r9=>by obtain ⟨p, x, y, e, q, _⟩:=r9; exact by subst e; exact .tup q⟩
instance {r : Enc α} {q : Enc γ} {t : Enc δ} : TyE (rP3 r q t) "tuple":=⟨fun r9=>by obtain ⟨p, x, y, z, e, q, _⟩:=r9; exact by subst e; exact .tup q⟩
theorem QI {te : TE} {r : Enc α} {n : String} [z : TyE r n] {m : Rs α} (t : String) (b : Bool) (hk : PySem.W.kitOne K (.type n) (.type t) = some b) (he : EvB K Er S OO σ te r m) :
    EvB K Er S OO σ (tCB (fun xs H Q=>∃ x n t b, xs = [x, .ty n] /\ TyOf K H x t /\ PySem.W.kitOne K t (.type n) = some b /\ Q (.bl b) H) (XI te (XI (tC (.ty t)) Z5))) XT (m.bind fun _=>.ok b):=fun H Q w s P=>
  he.run w s FB.tr P fun a x H1 s1 w1 q1 r1 P1=>⟨x, t, .type n, b, rfl, z.ty r1, hk, P1 _ H1 (XD.refl _) rfl⟩
theorem Dp {ta : TE} {ma : Rs Int} (ha : EvB K Er S OO σ ta Xa ma) : EvB K Er S OO σ (tCB (fun xs H Q=>∃ i : Int, xs = [.int i] /\ Q (.int (if i < 0 then -i else i)) H) (XI ta Z5)) Xa (ma.bind fun a=>.ok (a.natAbs : Int)):=fun H Q w s P=>
  ha.run w s FB.tr P fun a x H1 s1 w1 q1 r1 P1=>⟨a, by rw [show x = .int a from r1], P1 _ H1 (XD.refl _) (by show V.int _ = V.int _; congr 1; (first | lia | omega))⟩
end
end L2
namespace L2
open PySem PySem.Spec PyProof.Rows
section
variable {K : PySem.W.Frag} {Er : Exc -> Hp -> Prop} {S : SC} {OO OO' OO1 OO2 : List (List XO)} {σ : St} {α β γ ρ ι δ ε : Type}
variable {Fd : Ends -> β -> Hp -> Prop} [fd : FdOk Fd] {u : TS}
theorem IA (n : Nat) (H : Hp) : W (List.replicate n []) H:=⟨fun c hc=>(by rw [YO] at hc; cases hc), (by unfold fl; rw [YO]; exact List.nodup_nil), fun c hc=>(by rw [YO] at hc; cases hc)⟩
theorem BM (n : Nat) (H : Hp) : hid H (List.replicate n []) = H:=by funext b; unfold hid fl; rw [YO]; simp
theorem IG {o : OE ρ} [z : MonoO o] {Q : VK} {b : ρ} {H : Hp} (q : FF K o Q b H) : ∀ v C OO' H', W (C :: OO') H' -> XD H (hid H' (C :: OO')) -> o K (hid H' (C :: OO')) v b C -> Q v H':=fun v C OO' H' w m ho=>by
  have hs : XD (hid H' (C :: OO')) (hid H' [C]):=Jt (XD.refl _) fun b hb=>by
    rw [YS]
    refine List.mem_append_left _ ?_
    simpa [fl] using hb
  exact q v C H' (w.sub (by simp)) (m.trans hs) (z.mono hs ho)
theorem YJ {o : OE ρ} [MonoO o] {t : TS} {m : Rs ρ} {Q : VK} {b : ρ} {H : Hp} {D : Ends} (n : Nat) (h : Sv (fun _ _=>False) S (List.replicate n []) σ t (FTd K o) m) (hs : S.p H) (hm : m = .ok b) (q : FF K o Q b H) (hD : D.rt = Q) : t D σ H:=by
  refine h H D (IA n H) (by rw [BM]; exact hs) ?_
  subst hm
  rw [BM]
  intro v C OO' H' w mm ho
  rw [hD]
  exact IG q v C OO' H' w mm ho
noncomputable def oU : OE Unit:=fun _ _ v _ C=>v = .non /\ C = []
instance : MonoO oU:=⟨fun _ h=>h⟩
instance : FlatO oU:=⟨fun _ h=>h⟩
noncomputable def rU0 : Enc Unit:=fun _ _ v _=>v = .non
instance : FlatE rU0:=⟨fun _ h=>h⟩
instance : FrzC oU rU0:=⟨fun h _ _=>h.1⟩
theorem LI {J : Jn Unit ι} {t : TS} {m : Rs Unit} {Q : VK} {b : Unit} {H : Hp} {D : Ends} (n : Nat) (h : Sv (fun _ _=>False) S (List.replicate n []) σ t (FNd J) m) (hs : S.p H) (hm : m = .ok b) (q : FF K oU Q b H) (hD : ∀ σ H, D.nx σ H = Q .non H) : t D σ H:=by
  refine h H D (IA n H) (by rw [BM]; exact hs) ?_
  subst hm
  rw [BM]
  intro x H' w mm ho
  rw [hD]
  have hs : XD (hid H' (J.oo x)) (hid H' [[]]):=Jt (XD.refl _) fun b hb=>by simp [fl] at hb
  exact q .non [] H' ⟨fun c hc=>by simp at hc, by simp [fl], fun c hc=>by simp at hc⟩ (mm.trans hs) ⟨rfl, rfl⟩
theorem Hf {t : TS} {m : Rs β} (k : Nat) (hr : Sv Er S (OO.set k []) σ t Fd m) : Sv Er S OO σ t Fd m:=fun H D w s P=>by
  cases hk : OO[k]? with
  | none=>
    rw [List.set_eq_of_length_le (List.getElem?_eq_none_iff.mp hk)] at hr
    exact hr H D w s P
  | some C=>
    have hp:=Yh hk
    have w1 : W (C :: OO.set k []) H:=w.of hp
    have hs : XD (hid H OO) (hid H (OO.set k [])):=by
      rw [← YL hp]
      exact Jt (XD.refl _) fun b hb=>by rw [YS]; simp [hb]
    exact hr H D w1.tail (S.mono _ _ hs s) (PZ.tr (fd.tr D) hs P)
theorem HG {te : TE} {r : Enc α} {m : Rs α} {f : Rs β} (he : EvB K Er S OO σ te r m) (hr : Sv Er S OO σ u Fd f) : Sv Er S OO σ (JI (Fc te) u) Fd (m.bind fun _=>f):=fun H D w s P=>
  he.st w s P fun a v H' s1 w' s' ho P'=>hr H' D w' s' P'
noncomputable def FAO {α : Type} (K : PySem.W.Frag) (OO OO' : List (List XO)) (o : OE α) (Q : List V -> Hp -> Prop) (as : List α) (H : Hp) : Prop:=∀ vs Cs H', XD H H' -> W (Cs.flatten :: OO') H' -> XD (hid H OO) (hid H' (Cs.flatten :: OO')) -> P3 (o K (hid H' (Cs.flatten :: OO'))) vs as Cs -> Q vs H'
noncomputable def Ln {α : Type} (K : PySem.W.Frag) (Er : Exc -> Hp -> Prop) (S : SC) (OO OO' : List (List XO)) (σ : St) (t : TA) (o : OE α) (m : Rs (List α)) : Prop:=∀ H Q, W OO H -> S.p (hid H OO) -> PZ Er (FAO K OO OO' o Q) H m -> t σ H Q
theorem GQ {o : OE α} : Ln K Er S OO OO σ Z5 o (.ok []):=fun H Q w s P=>P [] [] H (XD.refl _) w.nil (by show XD _ (hid H ([] :: OO)); rw [Zj]; exact XD.refl _) .nil
theorem QA {te : TE} {t : TA} {o : OE α} [z : MonoO o] {m : Rs α} {n : Rs (List α)} (he : Ev K Er S OO OO1 σ te o m) (ht : ∀ C, Ln K Er S (C :: OO1) (C :: OO2) σ t o n) : Ln K Er S OO OO2 σ (XI te t) o (m.bind fun a=>n.bind fun as=>.ok (a :: as)):=fun H Q w s P=>by
  refine he H _ w s ?_
  cases em : m with
  | bad=>rw [em] at P; exact P
  | err x=>rw [em] at P; exact P
  | ok a=>
    rw [em] at P
    intro v C H1 s1 w1 m1 ho
    refine ht C H1 _ w1 (S.mono _ _ m1 s) ?_
    have P1 : PZ Er (FAO K OO OO2 o Q) H (n.bind fun as=>.ok (a :: as)):=P
    cases en : n with
    | bad=>rw [en] at P1; exact P1
    | err x=>rw [en] at P1; exact fun H2 s2=>P1 H2 (s1.trans s2)
    | ok as=>
      rw [en] at P1
      have P1 : FAO K OO OO2 o Q (a :: as) H:=P1
      intro vs Cs H2 s2 w2 m2 pr
      have pe : ((C :: Cs).flatten :: OO2).flatten.Perm (Cs.flatten :: C :: OO2).flatten:=by
        simp only [List.flatten_cons]
        rw [← List.append_assoc]
        exact List.perm_append_comm.append_right _
      refine P1 (v :: vs) (C :: Cs) H2 (s1.trans s2) (w2.of pe) ?_ ?_
      . rw [YL pe]; exact m1.trans m2
      . rw [YL pe]; exact .cons (z.mono m2 ho) pr
theorem CJ {t : TA} {o : OE α} [z : MonoO o] {m : Rs (List α)} (h : Ln K Er S OO OO σ t o m) : Ev K Er S OO OO σ (BL t) (oL o) (m.bind fun as=>chk (as.length <= sizeLine) (.ok as)):=fun H Q w s P=>by
  refine h H _ w s ?_
  cases e : m with
  | bad=>rw [e] at P; exact P
  | err x=>rw [e] at P; exact P
  | ok as=>
    rw [e] at P
    obtain ⟨hsz, P⟩:=PZ.chk (show PZ Er _ H (chk (as.length <= sizeLine) (.ok as)) from P)
    intro vs Cs H1 s1 w1 m1 p
    exact ⟨by rw [p.len.1]; exact hsz, EJ w1 m1 s1 p P⟩
class InE {α : Type} [DecidableEq α] (r : Enc α) : Prop where
  fl : ∀ {K : PySem.W.Frag} {H : Hp} {x : V} {a : α}, r K H x a -> J3 x = true
  eq : ∀ {K : PySem.W.Frag} {H H' : Hp} {x y : V} {a b : α}, r K H x a -> r K H' y b -> eqV x y = decide (a = b)
instance : InE Xa:=⟨fun {K H x a} h=>by cases (show x = .int a from h); rfl, fun {K H H' x y a b} h h'=>by
  cases (show x = .int a from h); cases (show y = .int b from h'); show (a == b) = _; rw [BW]⟩
theorem VH [DecidableEq α] {r : Enc α} [z : InE r] {H H' : Hp} {x : V} {a : α} (hx : r K H x a) : ∀ {xs : List V} {as : List α}, Paired (r K H') xs as -> xs.all J3 = true /\ inV x xs = decide (a ∈ as)
  | _, _, .nil=>⟨rfl, by simp [inV]⟩
  | _, _, .cons h t=>by
    obtain ⟨h1, h2⟩:=VH hx t
    refine ⟨by rw [List.all_cons, h1, z.fl h]; rfl, ?_⟩
    unfold inV at h2 ⊢
    rw [List.any_cons, h2, z.eq h hx, Bool.eq_iff_iff, Bool.or_eq_true, decide_eq_true_eq, decide_eq_true_eq, decide_eq_true_eq, List.mem_cons]
    exact or_congr ⟨Eq.symm, Eq.symm⟩ Iff.rfl
theorem Ec [DecidableEq α] {ta tb : TE} {r : Enc α} [z : InE r] {ma : Rs α} {mb : Rs (List α)} (ha : EvB K Er S OO σ ta r ma) (hb : EvB K Er S OO σ tb (rV r) mb) : EvB K Er S OO σ (tOp (rIn K false) ta tb) XT (ma.bind fun a=>mb.bind fun as=>.ok (decide (a ∈ as))):=fun H Q w s P=>
  ha.run w s FB.tr P fun a x H1 s1 w1 q1 r1 P1=>hb.run w1 q1 FB.tr P1 fun b y H2 s2 w2 q2 ⟨p, xs, e, q, pr⟩ P2=>by
    obtain ⟨h1, h2⟩:=VH r1 pr
    exact ⟨p, xs, e, .inl (SqL.of q), z.fl r1, h1, P2 _ H2 (XD.refl _) (by rw [h2]; rfl)⟩
noncomputable def BC [DecidableEq α] (as : List α) (a : α) : Rs Int:=match as.findIdx? (fun b=>decide (b = a)) with
  | some j=>.ok (j : Int)
  | none=>.bad
theorem FI [DecidableEq α] {r : Enc α} [z : InE r] {H H' : Hp} {x : V} {a : α} (hx : r K H x a) {xs : List V} {as : List α} (p : Paired (r K H') xs as) {j : Nat} (hj : as.findIdx? (fun b=>decide (b = a)) = some j) :
    (∃ y, xs[j]? = some y /\ eqV y x = true) /\ ∀ (m : Nat) y, m < j -> xs[m]? = some y -> eqV y x = false:=by
  rw [List.findIdx?_eq_some_iff_getElem] at hj
  obtain ⟨h1, h2, h3⟩:=hj
  constructor
  . obtain ⟨y, hy, ry⟩ := Paired.getR p (i := j) (b := as[j]) (by simp [h1])
    exact ⟨y, hy, by rw [z.eq ry hx]; exact h2⟩
  . intro m y hm hy
    obtain ⟨b, hb, rb⟩:=Paired.getL p hy
    have hml : m < as.length:=by first | lia | omega
    have e : b = as[m]:=by rw [List.getElem?_eq_getElem hml] at hb; exact (Option.some.inj hb).symm
    rw [z.eq rb hx, e]
    have:=h3 m hm
    simpa using this
theorem HN [DecidableEq α] {as : List α} {a : α} {x : Exc} : BC as a ≠ .err x:=by unfold BC; split <;> exact fun z=>nomatch z
theorem E7 [DecidableEq α] {as : List α} {a : α} {n : Int} (h : BC as a = .ok n) : ∃ j : Nat, as.findIdx? (fun b=>decide (b = a)) = some j /\ n = j:=by
  unfold BC at h; split at h
  . cases h; exact ⟨_, by assumption, rfl⟩
  . cases h
theorem Kg [DecidableEq α] {ta tb : TE} {r : Enc α} [z : InE r] [y : MonoE r] {ma : Rs (List α)} {mb : Rs α} (ha : EvB K Er S OO σ ta (rV r) ma) (hb : EvB K Er S OO σ tb r mb) : EvB K Er S OO σ (tBM K "list" (CU K) ta (XI tb Z5)) Xa (ma.bind fun as=>mb.bind fun a=>BC as a):=fun H Q w s P=>
  ha.run w s FB.tr P fun as x H1 s1 w1 q1 ⟨p, xs, e, q, pr⟩ P1=>⟨by rw [e]; exact .inl ⟨rfl, _, SqL.of q⟩, hb.run w1 q1 FB.tr P1 fun b v H2 s2 w2 q2 r2 P2=>by
    obtain ⟨c, hc, P3⟩:=P2.okOf fun x=>HN
    obtain ⟨j, hj, rfl⟩:=E7 hc
    have pr2:=Paired.imp2 (G:=r K H2) (fun _ _ h=>y.mono s2 h) pr
    obtain ⟨h1, h2⟩:=FI r2 pr2 hj
    exact ⟨p, xs, v, j, e, rfl, SqL.of (s2 _ _ q), z.fl r2, (VH r2 pr2).1, h1, h2, P3 _ H2 (XD.refl _) rfl⟩⟩
theorem Ha {α : Type} [DecidableEq α] {r r' : Enc α} {d : Nat} (E : EqOk r d) (h : ∀ {K : PySem.W.Frag} {H : Hp} {v : V} {a : α}, r' K H v a -> r K H v a) (m : MonoE r') : EqOk r' d where
  uniq:=fun I h1 h2=>E.uniq I (h h1) (h h2)
  eq:=fun I rx ry h1 h2 hu=>E.eq I rx ry (h h1) (h h2) hu
  rc:=fun I rx ry h1 h2 hu=>E.rc I rx ry (h h1) (h h2) hu
  ne:=fun I rx ry h1 h2 hu=>E.ne I rx ry (h h1) (h h2) hu
  keep:=fun s q=>m.mono s q
theorem L7 {α : Type} [DecidableEq α] {r : Enc α} {d : Nat} [m : MonoE r] (E : EqOk r d) : EqOk (rV r) (d + 1):=Ha (Hs E) (fun r9=>by obtain ⟨a, xs, e, q, p⟩:=r9; exact ⟨a, xs, e, SqL.of q, p⟩) inferInstance
end
end L2
namespace L2
open PySem PySem.Spec PyProof.Rows
section
variable {K : PySem.W.Frag} {Er : Exc -> Hp -> Prop} {S : SC} {OO OO' OO1 OO2 : List (List XO)} {σ : St} {α β γ ρ ι δ ε : Type}
variable {Fd : Ends -> β -> Hp -> Prop} [fd : FdOk Fd] {u : TS}
theorem GH {ta tb : TE} {o : OE α} {q : OE β} [z : MonoO o] [y : MonoO q] {ma : Rs α} {mb : Rs β} (ha : Ev K Er S OO OO1 σ ta o ma) (hb : ∀ C, Ev K Er S (C :: OO1) (C :: OO2) σ tb q mb) : Ev K Er S OO OO2 σ (IQ (XI ta (XI tb Z5))) (oT2 o q) (ma.bind fun a=>mb.bind fun b=>.ok (a, b)):=fun H Q w s P=>by
  refine ha H _ w s ?_
  cases em : ma with
  | bad=>rw [em] at P; exact P
  | err x=>rw [em] at P; exact P
  | ok a=>
    rw [em] at P
    intro v C H1 s1 w1 m1 ho
    refine hb C H1 _ w1 (S.mono _ _ m1 s) ?_
    have P1 : PZ Er (FO K OO OO2 (oT2 o q) Q) H (mb.bind fun b=>.ok (a, b)):=P
    cases en : mb with
    | bad=>rw [en] at P1; exact P1
    | err x=>rw [en] at P1; exact fun H2 s2=>P1 H2 (s1.trans s2)
    | ok b=>
      rw [en] at P1
      have P1 : FO K OO OO2 (oT2 o q) Q (a, b) H:=P1
      intro v2 C2 H2 s2 w2 m2 ho2
      refine ⟨by show 2 <= sizeLine; decide, fun p hp=>?_⟩
      have pe : ((C ++ C2) :: OO2).flatten.Perm (C2 :: C :: OO2).flatten:=by
        simp only [List.flatten_cons]
        rw [← List.append_assoc]
        exact List.perm_append_comm.append_right _
      have s3 : XD H2 (upd H2 p (.tup [v, v2])):=XX hp _
      have w3:=(w2.keep s3).of pe
      have m3 : XD (hid H2 (C2 :: C :: OO2)) (hid (upd H2 p (.tup [v, v2])) ((C ++ C2) :: OO2)):=by rw [YL pe]; exact Xj s3
      refine P1 (.ref p) (C ++ C2) _ (s1.trans (s2.trans s3)) w3 (m1.trans (m2.trans m3)) ⟨p, v, v2, C, C2, rfl, ?_, z.mono (m2.trans m3) ho, y.mono m3 ho2, rfl⟩
      rw [YL pe]
      exact Jj w2 hp
theorem Ia {c : TT} {t1 : TS} {mc : Rs Bool} {m2 : Rs β} (hc : EvT Er S OO σ c mc) (h2 : Sv Er S OO σ u Fd m2) : Sv Er S OO σ (JI (Iq c t1 Dn) u) Fd (mc.bind fun b=>if b = true then .bad else m2):=fun H D w s P=>
  hc.st w s P fun b H' w' s' P'=>by
    cases b with
    | true=>rw [if_pos rfl] at P'; exact P'.elim
    | false=>exact h2 H' D w' s' P'
theorem Ka : ∀ {l : List XO} {a b : XO}, (l.map (·.1)).Nodup -> a ∈ l -> b ∈ l -> a.1 = b.1 -> a = b
  | [], _, _, _, h, _, _=>by cases h
  | c :: l, a, b, n, ha, hb, e=>by
    rw [List.map_cons, List.nodup_cons] at n
    cases ha with
    | head=>cases hb with
      | head=>rfl
      | tail _ hb=>exact absurd (List.mem_map.mpr ⟨b, hb, e.symm⟩) n.1
    | tail _ ha=>cases hb with
      | head=>exact absurd (List.mem_map.mpr ⟨a, ha, e⟩) n.1
      | tail _ hb=>exact Ka n.2 ha hb e
theorem UK {Cs : List (List XO)} {k : Nat} {C : List XO} (h : Cs[k]? = some C) : ∀ c ∈ C, c ∈ Cs.flatten:=fun c hc=>List.mem_flatten.mpr ⟨C, List.mem_of_getElem? h, hc⟩
theorem Ed {as : List α} {i : Int} {a : α} (h : atR as i = .ok a) : ∃ k, ixN as.length i = some k /\ as[k]? = some a:=by
  have:=GG h
  unfold atI at this
  cases e : ixN as.length i with
  | none=>rw [e] at this; cases this
  | some k=>rw [e] at this; exact ⟨k, rfl, this⟩
theorem Cd {r : Enc α} [z : MonoE r] {v : V} {as : List (List α)} {row row' : List α} {H : Hp} {p q : Addr} {xs ys ys' : List V} {Cs : List (List XO)} {k kk : Nat} (w : W OO H) (hk : OO[k]? = some ((p, .lst xs) :: Cs.flatten)) (hP : P3 (oL (oF r) K (hid H OO)) xs as Cs) (hrow : as[kk]? = some row)
    (hx : xs[kk]? = some (.ref q)) (hq : H q = some (.lst ys)) (hcs : Cs[kk]? = some [(q, .lst ys)]) (pr : Paired (r K (hid H OO)) ys' row') :
    ∃ C', W (OO.set k C') (upd H q (.lst ys')) /\ XD (hid H OO) (hid (upd H q (.lst ys')) (OO.set k C')) /\ oL (oL (oF r)) K (hid (upd H q (.lst ys')) (OO.set k C')) (.ref p) (as.set kk row') C':=by
  have hkl : kk < Cs.length:=by
    rcases Nat.lt_or_ge kk Cs.length with h | h
    . exact h
    . rw [List.getElem?_eq_none h] at hcs; cases hcs
  have hin : ∀ c ∈ (p, HO.lst xs) :: Cs.flatten, c ∈ OO.flatten:=fun c hc=>List.mem_flatten.mpr ⟨_, List.mem_of_getElem? hk, hc⟩
  have w0 : W ([] :: OO) H:=w.nil
  have cn0:=QZ w0 hk
  rw [List.append_nil] at cn0
  have e0 : Cs[kk] = [(q, .lst ys)]:=by
    rw [List.getElem?_eq_getElem hkl] at hcs; exact Option.some.inj hcs
  have hp:=GC (Cs:=Cs) (j:=kk) (D:=[(q, HO.lst ys')]) hkl
  rw [e0] at hp
  have hpm : ((Cs.set kk [(q, HO.lst ys')]).flatten.map (·.1)).Perm (Cs.flatten.map (·.1)):=by
    have:=hp.map (·.1)
    simp only [List.map_append, List.map_cons, List.map_nil] at this
    exact (List.perm_append_right_iff _).mp this
  have hpne : p ∉ Cs.flatten.map (·.1):=by
    have h1:=Yh hk
    have:=(w.of (OO':=((p, HO.lst xs) :: Cs.flatten) :: OO.set k []) h1).nd
    rw [YS, List.map_cons, List.cons_append, List.nodup_cons] at this
    exact fun z=>this.1 (List.mem_append_left _ z)
  have hqC : q ∈ Cs.flatten.map (·.1):=List.mem_map.mpr ⟨(q, .lst ys), UK hcs _ (by simp), rfl⟩
  have hpq : p ≠ q:=fun e=>hpne (e ▸ hqC)
  have hcells : ∀ c ∈ (p, HO.lst xs) :: (Cs.set kk [(q, HO.lst ys')]).flatten, upd H q (.lst ys') c.1 = some c.2 /\ HX c.2 = true:=fun c hc=>by
    rcases List.mem_cons.mp hc with rfl | hc
    . rw [XQ hpq]; exact ⟨w.tr _ (hin _ List.mem_cons_self), rfl⟩
    . obtain ⟨D, hD, hcD⟩ := List.mem_flatten.mp hc
      rcases List.mem_or_eq_of_mem_set hD with hD | hD
      . by_cases hcq : c.1 = q
        . -- a cell at q in another place: then it is this one
          have hc2 : c ∈ (Cs.set kk [(q, HO.lst ys')]).flatten:=hc
          have n1 : ((Cs.set kk [(q, HO.lst ys')]).flatten.map (·.1)).Nodup:=hpm.nodup_iff.mpr cn0
          have hm : (q, HO.lst ys') ∈ (Cs.set kk [(q, HO.lst ys')]).flatten:=List.mem_flatten.mpr ⟨[(q, .lst ys')], List.mem_set (by simpa using hkl) _, by simp⟩
          have e1 : c = (q, HO.lst ys'):=by
            have:=Ka n1 hc2 hm hcq
            exact this
          rw [e1]; exact ⟨YM, rfl⟩
        . rw [XQ hcq]
          have : c ∈ OO.flatten:=hin c (List.mem_cons_of_mem _ (List.mem_flatten.mpr ⟨D, hD, hcD⟩))
          exact ⟨w.tr c this, w.mu c this⟩
      . rw [hD] at hcD
        have e1 : c = (q, HO.lst ys'):=by simpa using hcD
        rw [e1]; exact ⟨YM, rfl⟩
  have hq' : q ∈ (Cs.set kk [(q, HO.lst ys')]).flatten.map (·.1):=hpm.mem_iff.mpr hqC
  obtain ⟨w2, m2⟩:=Bh (C':=(p, .lst xs) :: (Cs.set kk [(q, HO.lst ys')]).flatten) (p:=q) (o:=.lst ys') w0 hk (List.mem_cons_of_mem _ hqC) (List.mem_cons_of_mem _ hq') (by
      rw [List.map_cons, List.nodup_cons]
      exact ⟨fun z=>hpne (hpm.mem_iff.mp z), hpm.nodup_iff.mpr cn0⟩) (fun b hb=>by
      rw [List.append_nil]
      rcases List.mem_cons.mp hb with rfl | hb
      . exact List.mem_cons_self
      . exact List.mem_cons_of_mem _ (hpm.mem_iff.mp hb)) (fun c hc=>(hcells c hc).1) fun c hc=>(hcells c hc).2
  rw [Zj] at m2
  have e3 : xs.set kk (.ref q) = xs:=by
    apply List.ext_getElem?
    intro n
    by_cases hn : n = kk
    . subst hn
      rw [hx, List.getElem?_set_self (by
        rcases Nat.lt_or_ge n xs.length with h | h
        . exact h
        . rw [List.getElem?_eq_none h] at hx; cases hx)]
    . rw [List.getElem?_set_ne (fun e=>hn e.symm)]
  refine ⟨_, w2, m2, ⟨p, xs, Cs.set kk [(q, HO.lst ys')], rfl, ?_, rfl⟩⟩
  have:=P3.set (F:=oL (oF r) K (hid (upd H q (.lst ys')) (OO.set k ((p, .lst xs) :: (Cs.set kk [(q, HO.lst ys')]).flatten)))) (a:=V.ref q) (b:=row') (c:=[(q, HO.lst ys')])
    ⟨q, ys', List.replicate row'.length [], rfl, (P3.of (Paired.imp2 (fun _ _ h=>z.mono m2 h) pr)).imp fun _ _ _ h=>h, by rw [YO]⟩ kk (P3.imp (fun _ _ _ h=>MonoO.mono m2 h) hP)
  rw [e3] at this
  exact this
theorem DT {r : Enc α} {h : Hp} {as : List (List α)} {xs : List V} {Cs : List (List XO)} {kk : Nat} {row : List α} (q : P3 (oL (oF r) K h) xs as Cs) (hrow : as[kk]? = some row) : ∃ q0 ys, xs[kk]? = some (.ref q0) /\ Cs[kk]? = some [(q0, .lst ys)] /\ Paired (r K h) ys row:=by
  obtain ⟨x, c, h1, h2, p, ys, Ds, e, h3, h4⟩:=q.get hrow
  obtain ⟨h5, h6⟩:=P3.flat h3
  rw [h6] at h4
  exact ⟨p, ys, by rw [h1, e], by rw [h2, h4], h5⟩
theorem Uf {F : V -> α -> Prop} {y : V} {a : α} (r : F y a) : ∀ {l : List V} {m : List α} (i : Nat), Paired F l m -> Paired F (l.set i y) (m.set i a)
  | _, _, _, .nil=>.nil
  | _, _, 0, .cons _ t=>.cons r t
  | _, _, i + 1, .cons q t=>.cons q (Uf r i t)
theorem CH {ta ti tj : TE} {r : Enc α} [z : MonoE r] {m : Rs α} {mi mj : Rs Int} {f : List (List α) -> Rs β} {v : V} {as : List (List α)} {C : List XO} (i k : Nat) (hσ : σ[i]? = some (some v)) (hk : OO[k]? = some C) (h : ∀ x, S.p x -> oL (oL (oF r)) K x v as C) (he : EvS K Er S OO σ ta r m)
    (hi : EvB K Er S OO σ ti Xa mi) (hj : EvB K Er S OO σ tj Xa mj)
    (hr : ∀ bs C', Sv Er (S.addO K (oL (oL (oF r))) v bs C') (OO.set k C') σ u Fd (f bs)) :
    Sv Er S OO σ (JI (Bm ta (LK (tOp (EU K) (UV i) ti) tj He)) u) Fd (m.bind fun a=>mi.bind fun x=>(atR as x).bind fun row=>mj.bind fun y=>(JT row y a).bind fun row'=>(JT as x row').bind f):=fun H D w s P=>
  he.st w s P fun a va H1 s1 w1 q1 r1 P1=>⟨v, hσ, hi.st w1 q1 P1 fun x vx H2 s2 w2 q2 r2 P2=>by
    cases ea : atR as x with
    | bad=>rw [ea] at P2; exact P2.elim
    | err ex=>exact absurd ea Kh
    | ok row=>
      rw [ea] at P2
      obtain ⟨kk, hkk, hrow⟩:=Ed ea
      obtain ⟨p, xs, Cs, e, q, c⟩:=h _ q2
      subst c e
      obtain ⟨q0, ys, g1, g2, g3⟩:=DT q hrow
      have hin : ∀ c ∈ (p, HO.lst xs) :: Cs.flatten, c ∈ OO.flatten:=fun c hc=>List.mem_flatten.mpr ⟨_, List.mem_of_getElem? hk, hc⟩
      have hH : H2 p = some (.lst xs):=w2.tr (p, .lst xs) (hin _ List.mem_cons_self)
      have hq0 : H2 q0 = some (.lst ys):=w2.tr (q0, .lst ys) (hin _ (List.mem_cons_of_mem _ (UK g2 _ (by simp))))
      refine ⟨p, xs, x, .ref q0, rfl, r2, SqL.of hH, by unfold atI; rw [q.len.1, hkk]; exact g1, hj.st w2 q2 (f:=fun y=>(JT row y a).bind fun row'=>(JT as x row').bind f) P2 fun y vy H3 s3 w3 q3 r3 P3'=>?_⟩
      cases eb : JT row y a with
      | bad=>rw [eb] at P3'; exact P3'.elim
      | err ex=>exact absurd eb FZ
      | ok row'=>
        rw [eb] at P3'
        obtain ⟨jj, hjj, rfl⟩:=CO eb
        have P4 : PZ Er (Fd D) (hid H3 OO) (f (as.set kk (row.set jj a))):=by
          have e5 : JT as x (row.set jj a) = .ok (as.set kk (row.set jj a)):=by unfold JT; rw [hkk]
          have : PZ Er (Fd D) (hid H3 OO) ((JT as x (row.set jj a)).bind f):=P3'
          rw [e5] at this
          exact this
        have m3:=Xj (OO:=OO) s3
        obtain ⟨C', w4, m4, o4⟩:=Cd (ys':=ys.set jj va) (row':=row.set jj a) (v:=.ref p) w3 hk (P3.imp (fun _ _ _ h=>MonoO.mono m3 h) q) hrow g1 (s3 _ _ hq0) g2 (Uf (z.mono ((Xj s2).trans m3) r1) jj (Paired.imp2 (fun _ _ h=>z.mono m3 h) g3))
        exact ⟨q0, ys, y, jj, rfl, r3, s3 _ _ hq0, by rw [Paired.len g3]; exact hjj, hr _ C' _ D w4 ⟨S.mono _ _ m4 q3, o4⟩ (PZ.tr (fd.tr D) m4 P4)⟩⟩
theorem B6 {ta ti : TE} {r : Enc α} [z : MonoE r] {m : Rs α} {mi : Rs Int} {f : List (List α) -> Rs β} {v : V} {as : List (List α)} {C : List XO} (i k : Nat) (hσ : σ[i]? = some (some v)) (hk : OO[k]? = some C) (h : ∀ x, S.p x -> oL (oL (oF r)) K x v as C) (he : EvS K Er S OO σ ta r m)
    (hi : EvB K Er S OO σ ti Xa mi)
    (hr : ∀ bs C', Sv Er (S.addO K (oL (oL (oF r))) v bs C') (OO.set k C') σ u Fd (f bs)) :
    Sv Er S OO σ (JI (Fc (tBM K "list" Uz (tOp (EU K) (UV i) ti) (XI ta Z5))) u) Fd (mi.bind fun x=>(atR as x).bind fun row=>m.bind fun a=>chk (row.length < sizeLine) ((JT as x (row ++ [a])).bind f)):=fun H D w s P=>
  ⟨v, hσ, hi.st w s P fun x vx H2 s2 w2 q2 r2 P2=>by
    cases ea : atR as x with
    | bad=>rw [ea] at P2; exact P2.elim
    | err ex=>exact absurd ea Kh
    | ok row=>
      rw [ea] at P2
      obtain ⟨kk, hkk, hrow⟩:=Ed ea
      obtain ⟨p, xs, Cs, e, q, c⟩:=h _ q2
      subst c e
      obtain ⟨q0, ys, g1, g2, g3⟩:=DT q hrow
      have hin : ∀ c ∈ (p, HO.lst xs) :: Cs.flatten, c ∈ OO.flatten:=fun c hc=>List.mem_flatten.mpr ⟨_, List.mem_of_getElem? hk, hc⟩
      have hH : H2 p = some (.lst xs):=w2.tr (p, .lst xs) (hin _ List.mem_cons_self)
      have hq0 : H2 q0 = some (.lst ys):=w2.tr (q0, .lst ys) (hin _ (List.mem_cons_of_mem _ (UK g2 _ (by simp))))
      refine ⟨p, xs, x, .ref q0, rfl, r2, SqL.of hH, by unfold atI; rw [q.len.1, hkk]; exact g1, .inl ⟨rfl, _, SqL.of hq0⟩, he.st w2 q2 (f:=fun a=>chk (row.length < sizeLine) ((JT as x (row ++ [a])).bind f)) P2 fun a va H3 s3 w3 q3 r3 P3'=>?_⟩
      obtain ⟨hsz, P3'⟩:=PZ.chk P3'
      have P4 : PZ Er (Fd D) (hid H3 OO) (f (as.set kk (row ++ [a]))):=by
        have e5 : JT as x (row ++ [a]) = .ok (as.set kk (row ++ [a])):=by unfold JT; rw [hkk]
        rw [e5] at P3'
        exact P3'
      have m3:=Xj (OO:=OO) s3
      obtain ⟨C', w4, m4, o4⟩:=Cd (ys':=ys ++ [va]) (row':=row ++ [a]) (v:=.ref p) w3 hk (P3.imp (fun _ _ _ h=>MonoO.mono m3 h) q) hrow g1 (s3 _ _ hq0) g2 (Paired.app (Paired.imp2 (fun _ _ h=>z.mono m3 h) g3) (.cons r3 .nil))
      exact ⟨q0, ys, va, rfl, rfl, s3 _ _ hq0, by rw [Paired.len g3]; exact hsz, hr _ C' _ D w4 ⟨S.mono _ _ m4 q3, o4⟩ (PZ.tr (fd.tr D) m4 P4)⟩⟩
theorem Lu {H H' : Hp} {C D : List XO} {k : Nat} (w : W OO H) (hk : OO[k]? = some C) (s : XD H H') (w' : W (D :: OO.set k []) H') (m : XD (hid H (OO.set k [])) (hid H' (D :: OO.set k []))) :
    W (D :: OO) H' /\ XD (hid H OO) (hid H' (D :: OO)) /\ VY (hid H' (D :: OO.set k [])) (hid H' (D :: OO)):=by
  have hp:=Yh hk
  have wk : W (C :: OO.set k []) H:=w.of hp
  have hC : ∀ c ∈ C, hid H (OO.set k []) c.1 = some c.2:=fun c hc=>Qk (wk.cell c hc) (by
    have:=wk.nd
    rw [YS] at this
    exact fun hb=>(List.nodup_append.mp this).2.2 c.1 (List.mem_map.mpr ⟨c, hc, rfl⟩) c.1 hb rfl)
  have hC' : ∀ c ∈ C, H' c.1 = some c.2 /\ c.1 ∉ fl (D :: OO.set k []):=fun c hc=>YB (m _ _ (hC c hc))
  have w2 : W (C :: D :: OO.set k []) H':=by
    refine ⟨fun c hc=>?_, ?_, fun c hc=>?_⟩
    . rw [List.flatten_cons, List.mem_append] at hc
      exact hc.elim (fun hc=>(hC' c hc).1) fun hc=>w'.tr c hc
    . rw [YS]
      refine List.nodup_append.mpr ⟨?_, w'.nd, fun a ha b hb e=>?_⟩
      . have := wk.nd
        rw [YS] at this
        exact (List.nodup_append.mp this).1
      . obtain ⟨c, hc, rfl⟩ := List.mem_map.mp ha
        subst e
        exact (hC' c hc).2 hb
    . rw [List.flatten_cons, List.mem_append] at hc
      exact hc.elim (fun hc=>wk.mu c (by simp [hc])) fun hc=>w'.mu c hc
  have pe : (D :: OO).flatten.Perm (C :: D :: OO.set k []).flatten:=by
    simp only [List.flatten_cons]
    refine List.Perm.trans (List.Perm.append_left D (by simpa using hp.symm : OO.flatten.Perm (C ++ (OO.set k []).flatten))) ?_
    rw [← List.append_assoc, ← List.append_assoc]
    exact List.perm_append_comm.append_right _
  have w3:=w2.of pe
  refine ⟨w3, fun b u q=>?_, fun b u q i=>w3.i b u (YB q).1 i⟩
  obtain ⟨q1, q2⟩:=YB q
  have q3 : hid H (OO.set k []) b = some u:=Qk q1 fun z=>q2 ((Vs hp b).mp (by rw [YS]; simp [z]))
  obtain ⟨q4, q5⟩:=YB (m _ _ q3)
  refine Qk q4 fun z=>?_
  have z2:=(Vs pe b).mp z
  rw [YS, List.mem_append] at z2
  rcases z2 with z2 | z2
  . exact q2 ((Vs hp b).mp (by rw [YS]; exact List.mem_append_left _ z2))
  . exact q5 z2
theorem Lw {r1 : Enc γ} {o1 : OE γ} [z : FrzC o1 r1] [MonoE r1] {H : Hp} {v : V} {a : γ} {C : List XO} {k : Nat} (w : W OO H) (hk : OO[k]? = some C) (s : S.p (hid H OO)) (h : ∀ x, S.p x -> o1 K x v a C) :
    W (OO.set k []) H /\ (S.add K r1 v a).p (hid H (OO.set k [])):=by
  have hp:=Yh hk
  have wk : W (C :: OO.set k []) H:=w.of hp
  have hs : XD (hid H OO) (hid H (OO.set k [])):=by
    rw [← YL hp]
    exact Jt (XD.refl _) fun b hb=>by rw [YS]; simp [hb]
  refine ⟨wk.tail, S.mono _ _ hs s, z.frz (h _ s) hs fun c hc=>Qk (wk.cell c hc) ?_⟩
  have:=wk.nd
  rw [YS] at this
  exact fun hb=>(List.nodup_append.mp this).2.2 c.1 (List.mem_map.mpr ⟨c, hc, rfl⟩) c.1 hb rfl
theorem HB {te : TE} {o : OE α} [y : FlatO o] {r1 : Enc γ} {o1 : OE γ} [FrzC o1 r1] [MonoE r1] {m : Rs α} {v : V} {a : γ} {C : List XO} (k : Nat) (hk : OO[k]? = some C) (h : ∀ x, S.p x -> o1 K x v a C) (he : Ev K Er (S.add K r1 v a) (OO.set k []) (OO.set k []) σ te o m) : Ev K Er S OO OO σ te o m:=fun H Q w s P=>by
  obtain ⟨w1, s1⟩:=Lw (r1:=r1) w hk s h
  refine he H Q w1 s1 (P.imp fun b _ hb v' D H' s' w' m' ho=>?_)
  obtain ⟨w3, m3, i3⟩:=Lu w hk s' w' m'
  exact hb v' D H' s' w3 m3 (y.flat i3 ho)
theorem Ux (K : PySem.W.Frag) (T : String) : PySem.W.kitOne K (.type T) (.type T) = some true:=by
  unfold PySem.W.kitOne
  rw [if_pos (beq_self_eq_true _)]
theorem Ko (K : PySem.W.Frag) : PySem.W.kitOne K (.type "int") (.type "bool") = some false:=by
  first
    | rfl
    | decide +kernel
    | (unfold PySem.W.kitOne PySem.W.kitCls; rfl)
end
end L2
namespace L2
open PySem PySem.Spec PyProof.Rows
section
variable {K : PySem.W.Frag} {Er : Exc -> Hp -> Prop} {S : SC} {OO OO' OO1 OO2 : List (List XO)} {σ : St} {α β γ ρ ι δ ε : Type}
variable {Fd : Ends -> β -> Hp -> Prop} [fd : FdOk Fd] {u : TS}
noncomputable def L3 : Option α -> Rs α
  | some a=>.ok a
  | none=>.bad
end
end L2
namespace L2
open PySem PySem.Spec PyProof.Rows
section
variable {K : PySem.W.Frag} {Er : Exc -> Hp -> Prop} {S : SC} {OO OO' OO1 OO2 : List (List XO)} {σ : St} {α β γ ρ ι δ ε : Type}
variable {α1 α2 α3 α4 α5 : Type}
noncomputable def rP4 (r1 : Enc α1) (r2 : Enc α2) (r3 : Enc α3) (r4 : Enc α4) : Enc (α1 × α2 × α3 × α4):=fun K H v p=>∃ a x1 x2 x3 x4, v = .ref a /\ H a = some (.tup [x1, x2, x3, x4]) /\ r1 K H x1 p.1 /\ r2 K H x2 p.2.1 /\ r3 K H x3 p.2.2.1 /\ r4 K H x4 p.2.2.2
instance {r1 : Enc α1} {r2 : Enc α2} {r3 : Enc α3} {r4 : Enc α4} [m1 : MonoE r1] [m2 : MonoE r2] [m3 : MonoE r3] [m4 : MonoE r4] : MonoE (rP4 r1 r2 r3 r4):=⟨fun s r9=>by obtain ⟨a, x1, x2, x3, x4, e, h, p1, p2, p3, p4⟩:=r9; exact ⟨a, x1, x2, x3, x4, e, s _ _ h, m1.mono s p1, m2.mono s p2, m3.mono s p3, m4.mono s p4⟩⟩
instance {r1 : Enc α1} {r2 : Enc α2} {r3 : Enc α3} {r4 : Enc α4} [m1 : FlatE r1] [m2 : FlatE r2] [m3 : FlatE r3] [m4 : FlatE r4] : FlatE (rP4 r1 r2 r3 r4):=⟨fun s r9=>by obtain ⟨a, x1, x2, x3, x4, e, h, p1, p2, p3, p4⟩:=r9; exact ⟨a, x1, x2, x3, x4, e, s _ _ h rfl, m1.flat s p1, m2.flat s p2, m3.flat s p3, m4.flat s p4⟩⟩
instance {r1 : Enc α1} {r2 : Enc α2} {r3 : Enc α3} {r4 : Enc α4} : TyE (rP4 r1 r2 r3 r4) "tuple":=⟨fun r9=>by obtain ⟨p, x1, x2, x3, x4, e, q, _⟩:=r9; exact by subst e; exact .tup q⟩
noncomputable def rP5 (r1 : Enc α1) (r2 : Enc α2) (r3 : Enc α3) (r4 : Enc α4) (r5 : Enc α5) : Enc (α1 × α2 × α3 × α4 × α5):=fun K H v p=>∃ a x1 x2 x3 x4 x5, v = .ref a /\ H a = some (.tup [x1, x2, x3, x4, x5]) /\ r1 K H x1 p.1 /\ r2 K H x2 p.2.1 /\ r3 K H x3 p.2.2.1 /\ r4 K H x4 p.2.2.2.1 /\ r5 K H x5 p.2.2.2.2
instance {r1 : Enc α1} {r2 : Enc α2} {r3 : Enc α3} {r4 : Enc α4} {r5 : Enc α5} [m1 : MonoE r1] [m2 : MonoE r2] [m3 : MonoE r3] [m4 : MonoE r4] [m5 : MonoE r5] : MonoE (rP5 r1 r2 r3 r4 r5):=⟨fun s r9=>by obtain ⟨a, x1, x2, x3, x4, x5, e, h, p1, p2, p3, p4, p5⟩:=r9; exact ⟨a, x1, x2, x3, x4, x5, e, s _ _ h, m1.mono s p1, m2.mono s p2, m3.mono s p3, m4.mono s p4, m5.mono s p5⟩⟩
instance {r1 : Enc α1} {r2 : Enc α2} {r3 : Enc α3} {r4 : Enc α4} {r5 : Enc α5} [m1 : FlatE r1] [m2 : FlatE r2] [m3 : FlatE r3] [m4 : FlatE r4] [m5 : FlatE r5] : FlatE (rP5 r1 r2 r3 r4 r5):=⟨fun s r9=>by obtain ⟨a, x1, x2, x3, x4, x5, e, h, p1, p2, p3, p4, p5⟩:=r9; exact ⟨a, x1, x2, x3, x4, x5, e, s _ _ h rfl, m1.flat s p1, m2.flat s p2, m3.flat s p3, m4.flat s p4, m5.flat s p5⟩⟩
instance {r1 : Enc α1} {r2 : Enc α2} {r3 : Enc α3} {r4 : Enc α4} {r5 : Enc α5} : TyE (rP5 r1 r2 r3 r4 r5) "tuple":=⟨fun r9=>by obtain ⟨p, x1, x2, x3, x4, x5, e, q, _⟩:=r9; exact by subst e; exact .tup q⟩
theorem GM {t1 : TE} {t2 : TE} {t3 : TE} {t4 : TE} {t5 : TE} {r1 : Enc α1} {r2 : Enc α2} {r3 : Enc α3} {r4 : Enc α4} {r5 : Enc α5} [z1 : MonoE r1] [z2 : MonoE r2] [z3 : MonoE r3] [z4 : MonoE r4] [z5 : MonoE r5] {m1 : Rs α1} {m2 : Rs α2} {m3 : Rs α3} {m4 : Rs α4} {m5 : Rs α5} (h1 : EvS K Er S OO σ t1 r1 m1) (h2 : EvS K Er S OO σ t2 r2 m2) (h3 : EvS K Er S OO σ t3 r3 m3) (h4 : EvS K Er S OO σ t4 r4 m4) (h5 : EvS K Er S OO σ t5 r5 m5) : EvS K Er S OO σ (IQ (XI t1 (XI t2 (XI t3 (XI t4 (XI t5 Z5)))))) (rP5 r1 r2 r3 r4 r5) (m1.bind fun a1=>m2.bind fun a2=>m3.bind fun a3=>m4.bind fun a4=>m5.bind fun a5=>.ok (a1, a2, a3, a4, a5)):=fun H Q w s P=>
  h1.run w s FS.tr P fun a1 y1 H1 s1 w1 u1 q1 P1=>h2.run w1 u1 FS.tr P1 fun a2 y2 H2 s2 w2 u2 q2 P2=>h3.run w2 u2 FS.tr P2 fun a3 y3 H3 s3 w3 u3 q3 P3=>h4.run w3 u3 FS.tr P3 fun a4 y4 H4 s4 w4 u4 q4 P4=>h5.run w4 u4 FS.tr P4 fun a5 y5 H5 s5 w5 u5 q5 P5=>⟨by show 5 <= sizeLine; decide, fun p hp=>P5 _ _ (XX hp _) ⟨p, y1, y2, y3, y4, y5, rfl, Jj w5 hp, z1.mono ((Xj s2).trans ((Xj s3).trans ((Xj s4).trans ((Xj s5).trans (Xj (XX hp _)))))) q1, z2.mono ((Xj s3).trans ((Xj s4).trans ((Xj s5).trans (Xj (XX hp _))))) q2, z3.mono ((Xj s4).trans ((Xj s5).trans (Xj (XX hp _)))) q3, z4.mono ((Xj s5).trans (Xj (XX hp _))) q4, z5.mono (Xj (XX hp _)) q5⟩⟩
noncomputable def tg5 {r1 : Enc α1} {r2 : Enc α2} {r3 : Enc α3} {r4 : Enc α4} {r5 : Enc α5} [MonoE r1] [MonoE r2] [MonoE r3] [MonoE r4] [MonoE r5] (i1 i2 i3 i4 i5 : Nat) : Tgt K OO (EV K 5 (QO (ZD i1) (QO (ZD i2) (QO (ZD i3) (QO (ZD i4) (QO (ZD i5) HR)))))) (rP5 r1 r2 r3 r4 r5) (V × V × V × V × V) where
  set:=fun v σ=>(((((σ.set i1 (some v.1)).set i2 (some v.2.1)).set i3 (some v.2.2.1)).set i4 (some v.2.2.2.1)).set i5 (some v.2.2.2.2))
  sc:=fun a v S=>(((((S.add K r1 v.1 a.1).add K r2 v.2.1 a.2.1).add K r3 v.2.2.1 a.2.2.1).add K r4 v.2.2.2.1 a.2.2.2.1).add K r5 v.2.2.2.2 a.2.2.2.2)
  ok:=fun {H v a σ S Q} r9 hs hq=>by obtain ⟨p, x1, x2, x3, x4, x5, e, h, h1, h2, h3, h4, h5⟩:=r9; exact ⟨p, _, e, SqT.of (XN _ _ h), rfl, x1, [x2, x3, x4, x5], rfl, x2, [x3, x4, x5], rfl, x3, [x4, x5], rfl, x4, [x5], rfl, x5, [], rfl, rfl, hq (x1, x2, x3, x4, x5) ⟨⟨⟨⟨⟨hs, h1⟩, h2⟩, h3⟩, h4⟩, h5⟩⟩
theorem Ey {K : PySem.W.Frag} {n i1 i2 i3 : Nat} (h1 : i1 < n) (h2 : i2 < n) (h3 : i3 < n) : Fe n (EV K 3 (QO (ZD i1) (QO (ZD i2) (QO (ZD i3) HR)))):=fun x σ H Q q=>by
  obtain ⟨a, xs, e1, hq, hl, v1, r1, f1, v2, r2, f2, v3, r3, f3, e9, q⟩:=q
  exact ⟨a, xs, e1, hq, hl, v1, r1, f1, v2, r2, f2, v3, r3, f3, e9, q, by simp, fun k hk=>by rw [List.getElem?_set_ne (by first | lia | omega), List.getElem?_set_ne (by first | lia | omega), List.getElem?_set_ne (by first | lia | omega)]⟩
noncomputable def LH (as : List Int) : Rs Int:=chk (0 < as.length) (.ok (KL as))
theorem BX {ta : TE} {ma : Rs (List Int)} (ha : EvB K Er S OO σ ta (rPL Xa) ma) : EvB K Er S OO σ (tCB (Iv K KL) (XI ta Z5)) Xa (ma.bind LH):=fun H Q w s P=>
  ha.run w s FB.tr P fun a x H1 s1 w1 q1 ⟨p, xs, e, q, pr⟩ P1=>by
    obtain ⟨h1, P1⟩:=PZ.chk P1
    exact ⟨p, a, by rw [e], by rw [← QX pr]; exact SqT.of q, h1, P1 _ H1 (XD.refl _) rfl⟩
theorem E9 {ta : TE} {m : Rs (Int × Int × Int)} (ha : EvB K Er S OO σ ta (rP3 Xa Xa Xa) m) : EvB K Er S OO σ ta (rPL Xa) (m.bind fun p=>.ok [p.1, p.2.1, p.2.2]):=fun H Q w s P=>
  ha.run w s FB.tr P fun a x H1 s1 w1 q1 r9 P1=>by obtain ⟨p, x1, x2, x3, e, q, h1, h2, h3⟩:=r9; exact P1 _ H1 (XD.refl _) ⟨p, _, e, q, .cons h1 (.cons h2 (.cons h3 .nil))⟩
noncomputable def rDP {α : Type} (r : Enc α) (K : PySem.W.Frag) (H : Hp) (kv : Key × V) (kx : Int × α) : Prop:=kv.1 = .inl kx.1 /\ r K H kv.2 kx.2
noncomputable def rD {α : Type} (r : Enc α) : Enc (List (Int × α)):=fun K H v d=>∃ p kvs, v = .ref p /\ H p = some (.dK kvs) /\ Paired (rDP r K H) kvs d
noncomputable def oD {α : Type} (r : Enc α) : OE (List (Int × α)):=fun K h v d C=>∃ p kvs, v = .ref p /\ Paired (rDP r K h) kvs d /\ C = [(p, .dK kvs)]
instance {r : Enc α} [m : MonoE r] : MonoE (rD r):=⟨fun s r9=>by obtain ⟨p, kvs, e, q, pr⟩:=r9; exact ⟨p, kvs, e, s _ _ q, Paired.imp2 (fun _ _ z=>⟨z.1, m.mono s z.2⟩) pr⟩⟩
instance {r : Enc α} [m : MonoE r] : MonoO (oD r):=⟨fun s r9=>by obtain ⟨p, kvs, e, pr, c⟩:=r9; exact ⟨p, kvs, e, Paired.imp2 (fun _ _ z=>⟨z.1, m.mono s z.2⟩) pr, c⟩⟩
instance {r : Enc α} [m : FlatE r] : FlatO (oD r):=⟨fun s r9=>by obtain ⟨p, kvs, e, pr, c⟩:=r9; exact ⟨p, kvs, e, Paired.imp2 (fun _ _ z=>⟨z.1, m.flat s z.2⟩) pr, c⟩⟩
instance {r : Enc α} [m : MonoE r] : FrzC (oD r) (rD r):=⟨fun r9 s hc=>by obtain ⟨p, kvs, e, pr, c⟩:=r9; exact ⟨p, kvs, e, hc (p, .dK kvs) (by rw [c]; simp), Paired.imp2 (fun _ _ z=>⟨z.1, m.mono s z.2⟩) pr⟩⟩
noncomputable def ZO (d : List (Int × α)) (k : Int) : Option α:=(d.find? fun kv=>decide (kv.1 = k)).map (·.2)
noncomputable def K1 (d : List (Int × α)) (k : Int) (v : α) : List (Int × α):=if (d.any fun kv=>decide (kv.1 = k)) = true then d.map (fun kv=>if kv.1 = k then (kv.1, v) else kv) else d ++ [(k, v)]
noncomputable def V0 (d : List (Int × α)) (k : Int) : Rs α:=L3 (ZO d k)
theorem Vr {r : Enc α} {H : Hp} {k : Int} : ∀ {kvs : List (Key × V)} {d : List (Int × α)}, Paired (rDP r K H) kvs d -> (∀ a, ZO d k = some a -> ∃ v, KK kvs (.inl k) = some v /\ r K H v a) /\ (KK kvs (.inl k)).isSome = (ZO d k).isSome
  | _, _, .nil=>⟨fun a h=>(by cases h), rfl⟩
  | kv :: kvs, kx :: d, .cons h t=>by
    obtain ⟨h1, h2⟩:=Vr (k:=k) t
    by_cases e : kx.1 = k
    . have e2 : kv.1 = .inl k := by rw [h.1, e]
      rw [Jb e2]
      have e3 : ZO (kx :: d) k = some kx.2:=by simp [ZO, List.find?_cons, e]
      rw [e3]
      exact ⟨fun a ha=>by cases ha; exact ⟨_, rfl, h.2⟩, rfl⟩
    . have e2 : ¬ kv.1 = .inl k := by rw [h.1]; exact fun z => e (Sum.inl.inj z)
      rw [Jr e2]
      have e3 : ZO (kx :: d) k = ZO d k:=by simp [ZO, List.find?_cons, e]
      rw [e3]
      exact ⟨h1, h2⟩
theorem V4 {r : Enc α} {H : Hp} {k : Int} : ∀ {kvs : List (Key × V)} {d : List (Int × α)}, Paired (rDP r K H) kvs d -> (kvs.any fun kv=>decide (kv.1 = .inl k)) = d.any fun kx=>decide (kx.1 = k)
  | _, _, .nil=>rfl
  | kv :: kvs, kx :: d, .cons h t=>by
    rw [List.any_cons, List.any_cons, V4 t, h.1]
    congr 1
    rw [Bool.eq_iff_iff]; simp
theorem K4 {r : Enc α} {H : Hp} {k : Int} {v : V} {a : α} (hv : r K H v a) {kvs : List (Key × V)} {d : List (Int × α)} (h : Paired (rDP r K H) kvs d) : Paired (rDP r K H) (J4 kvs (.inl k) v) (K1 d k a):=by
  unfold J4 K1
  rw [V4 h]
  by_cases e : (d.any fun kx=>decide (kx.1 = k)) = true
  . rw [if_pos e, if_pos e]
    clear e
    induction h with
    | nil=>exact .nil
    | @cons kv kx l m h t ih=>
      refine .cons ?_ ih
      show rDP r K H (if kv.1 = .inl k then (kv.1, v) else kv) (if kx.1 = k then (kx.1, a) else kx)
      by_cases e : kx.1 = k
      . rw [if_pos (show kv.1 = .inl k by rw [h.1, e]), if_pos e]; exact ⟨h.1, hv⟩
      . rw [if_neg (show ¬ kv.1 = .inl k by rw [h.1]; exact fun z=>e (Sum.inl.inj z)), if_neg e]; exact h
  . rw [if_neg e, if_neg e]
    exact Paired.app h (.cons ⟨rfl, hv⟩ .nil)
theorem EE {r : Enc α} : Ev K Er S OO OO σ Ei (oD r) (.ok []):=fun H Q w s P=>fun p hp=>P (.ref p) [(p, .dK [])] _ (XX hp _) (w.new hp rfl) (VW hp) ⟨p, [], rfl, .nil, rfl⟩
theorem UL {td ty : TE} {r : Enc α} [z : MonoE r] {md : Rs (List (Int × α))} {mk : Rs Int} (hd : EvB K Er S OO σ td (rD r) md) (hk : EvB K Er S OO σ ty Xa mk) : EvB K Er S OO σ (IH td ty) r (md.bind fun d=>mk.bind fun k=>V0 d k):=fun H Q w s P=>
  hd.run w s FB.tr P fun d x H1 s1 w1 q1 ⟨p, kvs, e, q, pr⟩ P1=>hk.run w1 q1 FB.tr P1 fun k y H2 s2 w2 q2 r2 P2=>by
    cases eg : ZO d k with
    | none=>rw [V0, eg] at P2; exact P2.elim
    | some a=>
      rw [V0, eg] at P2
      obtain ⟨v, hv, rv⟩:=(Vr (k:=k) pr).1 a eg
      exact ⟨p, v, e, .inl ⟨kvs, .inl k, .inl (s2 _ _ q), r2, hv.symm⟩, P2 _ H2 (XD.refl _) (z.mono s2 rv)⟩
variable {Fd : Ends -> β -> Hp -> Prop} [fd : FdOk Fd] {u : TS}
theorem EO {tv ty : TE} {r : Enc α} [z : MonoE r] {mv : Rs α} {mk : Rs Int} {f : List (Int × α) -> Rs β} {v : V} {d : List (Int × α)} {C : List XO} (i k : Nat) (hσ : σ[i]? = some (some v)) (hk : OO[k]? = some C) (h : ∀ x, S.p x -> oD r K x v d C) (hv : EvS K Er S OO σ tv r mv) (hy : EvB K Er S OO σ ty Xa mk)
    (hr : ∀ d' C', Sv Er (S.addO K (oD r) v d' C') (OO.set k C') σ u Fd (f d')) : Sv Er S OO σ (JI (E8 (UV i) ty tv) u) Fd (mv.bind fun a=>mk.bind fun n=>chk (d.length < sizeLine) (f (K1 d n a))):=fun H D w s P=>
  hv.st w s P fun a va H1 s1 w1 q1 r1 P1=>⟨v, hσ, hy.st w1 q1 P1 fun n vn H2 s2 w2 q2 r2 P2=>by
    obtain ⟨hsz, P2⟩:=PZ.chk P2
    obtain ⟨p, kvs, e, pr, c⟩:=h _ q2
    subst c e
    have hH : H2 p = some (.dK kvs):=w2.tr (p, .dK kvs) (List.mem_flatten.mpr ⟨_, List.mem_of_getElem? hk, by simp⟩)
    obtain ⟨w3, m3⟩:=Bh (D:=[]) (C':=[(p, .dK (J4 kvs (.inl n) va))]) (p:=p) (o:=.dK (J4 kvs (.inl n) va)) w2.nil hk (by simp) (by simp) (by simp) (fun b hb=>by simpa using hb) (fun c hc=>by
      have : c = (p, .dK (J4 kvs (.inl n) va)):=by simpa using hc
      rw [this]; exact YM) (fun c hc=>by
      have : c = (p, .dK (J4 kvs (.inl n) va)):=by simpa using hc
      rw [this]; rfl)
    rw [Zj] at m3
    refine ⟨p, _, rfl, .inl ⟨kvs, .inl n, hH, r2, by rw [Paired.len pr]; exact hsz, rfl⟩, ?_⟩
    exact hr _ _ _ D w3 ⟨S.mono _ _ m3 q2, ⟨p, _, rfl, K4 (z.mono ((Xj s2).trans m3) r1) (Paired.imp2 (fun _ _ h=>⟨h.1, z.mono m3 h.2⟩) pr), rfl⟩⟩ (PZ.tr (fd.tr D) m3 P2)⟩
end
end L2
namespace L2
open PySem PySem.Spec PyProof.Rows
theorem Y5.ex {P : Program} {w : World} {H : Hp} {h : Heap} {a : Addr} {o : HO} (x : Y5 P w H h a o) : ∃ u, h.get? a = some u:=by
  cases o with
  | lst xs=>obtain ⟨_, _, _, _, e⟩:=x; exact ⟨_, e⟩
  | tup xs=>obtain ⟨_, _, _, p⟩:=x; obtain ⟨o, e, _⟩:=p; exact ⟨_, e⟩
  | dK kvs=>obtain ⟨_, _, _, _, o, _, _, e, _⟩:=x; exact ⟨_, e⟩
  | dT kvs=>obtain ⟨_, _, _, _, o, _, _, e, _⟩:=x; exact ⟨_, e⟩
  | set S n=>obtain ⟨o, _, _, _, e, _⟩:=x; exact ⟨_, e⟩
  | ins C dx fs=>obtain ⟨_, _, _, e, _⟩:=x; exact ⟨_, e⟩
  | own y=>exact x
  | xd fs=>obtain ⟨_, ⟨_, _, _, e, _⟩, _⟩:=x; exact ⟨_, e⟩
  | rng lo hi=>obtain ⟨_, _, _, e⟩:=x; exact ⟨_, e⟩
  | frz ob u=>exact ⟨_, x.1⟩
  | tbl ps=>exact ⟨_, x⟩
  | met f y=>exact ⟨_, x⟩
  | ext φ=>exact x.2.1
theorem HOk.un0 {P : Program} {w : World} {H : Hp} {h : Heap} {a : Addr} (x : HOk P w H h) (e : h.get? a = none) : H a = none:=by
  cases q : H a with
  | none=>rfl
  | some u=>obtain ⟨v, hv⟩:=(x a u q).ex; rw [e] at hv; cases hv
structure Fl (h0 h : Heap) (H : Hp) (a T : Addr) (cls : Value) : Prop where
  na : h0.get? a = none
  nT : h0.get? T = none
  fa : H a = none
  fT : H T = none
  ne : T ≠ a
  obj : ∃ oe vs oT ts a0, h.get? a = some oe /\ oe.cls = cls /\ vs[0]? = some a0 /\ oe.data = .fields vs /\ vs[1]? = some (.ref T) /\ h.get? T = some oT /\ oT.data = .fields ts /\ ts[3]? = some Value.none
noncomputable def Lq (h : Heap) (fs : List Addr) (a T : Addr) : Heap:=Bc h (fun b=>if b ∈ fs ∨ b = a ∨ b = T then some (.own 0) else none)
theorem G5 {h : Heap} {fs : List Addr} {a T b : Addr} {o : Obj} (e : h.get? b = some o) (n1 : b ∉ fs) (n2 : b ≠ a) (n3 : b ≠ T) : (Lq h fs a T).get? b = some o:=
  GY e (if_neg fun z=>z.elim n1 fun z=>z.elim n2 n3)
section
variable {P : Program} {w : World} {h0 h h' base : Heap} {H : Hp} {a T : Addr} {cls a0 : Value} {l : List Env}
theorem Un.traced (hl : h.FunFrames base l) (keep : ∀ b o, b ∉ frs l -> b ≠ a -> b ≠ T -> h.get? b = some o -> h'.get? b = some o) (up : h.UpToSlots h') : Un (frs l) [a, T] H H h h' where
  keep:=fun b o e _ hb hx=>keep b o hb (fun z=>hx (by simp [z])) (fun z=>hx (by simp [z])) e
  slot:=fun b o e _ hb _=>by
    obtain ⟨_, o2, ho2, hd2⟩:=hl.mem hb
    rw [e] at ho2; cases ho2
    exact up b o e hd2
  free:=fun b o e n _=>n
  there:=fun b o e hx=>by
    by_cases hb : b ∈ frs l
    . obtain ⟨_, o2, ho2, hd2⟩ := hl.mem hb
      obtain ⟨sl, q⟩:=up b o2 ho2 hd2
      exact ⟨_, q⟩
    . exact ⟨o, keep b o hb (fun z=>hx (by simp [z])) (fun z=>hx (by simp [z])) e⟩
  tups:=fun _ _ q=>q
  frzs:=fun _ _ _ q=>q
  tbls:=fun _ ps q=>⟨#[], by simpa using q⟩
theorem HOk.traced (hok : HOk P w H h) (hfn : ∀ b ∈ frs l, H b = none) (fa : H a = none) (fT : H T = none) (keep : ∀ b o, b ∉ frs l -> b ≠ a -> b ≠ T -> h.get? b = some o -> h'.get? b = some o) : HOk P w H h':=fun b o e=>by
  refine (hok b o e).stay (fun c u hc q=>?_) (fun _ q=>q) fun _ _ q=>q
  have hn : H c ≠ none:=by
    rcases hc with z | z
    . rw [z, e]; exact fun y=>nomatch y
    . rw [z]; exact fun y=>nomatch y
  exact keep c u (fun z=>hn (hfn c z)) (fun z=>hn (z ▸ fa)) (fun z=>hn (z ▸ fT)) q
theorem Fl.after (x : Fl h0 h H a T cls) (hl : h.FunFrames base l) (hfn : ∀ b ∈ frs l, H b = none) (hok : HOk P w H h) (th : ∀ b o, h0.get? b = some o -> ∃ o', h.get? b = some o')
    (st : (Lq h (frs l) a T).StaysIn h') (tr : h'.TracedW (Lq h (frs l) a T) a cls a0) (up : h.UpToSlots h') : ∃ T', Fl h0 h' H a T' cls /\ HOk P w H h' /\ Un (frs l) [a, T] H H h h':=by
  obtain ⟨oe, vs, T', oT, ts, ha, ⟨hc, h0'⟩, hd, h1, hnT, hne, hT, hdT, h3⟩:=tr
  have key : T' = T ∨ h.get? T' = none:=by
    cases q : h.get? T' with
    | none=>exact .inr rfl
    | some o=>
      by_cases hf : T' ∈ frs l
      . obtain ⟨_, o2, ho2, hd2⟩ := hl.mem hf
        obtain ⟨sl, e2⟩:=up T' o2 ho2 hd2
        rw [hT] at e2; cases e2
        exact absurd hdT (hd2 ts)
      . by_cases hz : T' = T
        . exact .inl hz
        . rw [G5 q hf hne hz] at hnT; cases hnT
  have keep : ∀ b o, b ∉ frs l -> b ≠ a -> b ≠ T -> h.get? b = some o -> h'.get? b = some o:=fun b o n1 n2 n3 e=>st b o (G5 e n1 n2 n3)
  refine ⟨T', ⟨x.na, ?_, x.fa, ?_, hne, oe, vs, oT, ts, a0, ha, hc, h0', hd, h1, hT, hdT, h3⟩, hok.traced hfn x.fa x.fT keep, Un.traced hl keep up⟩
  . rcases key with e | e
    . rw [e]; exact x.nT
    . cases q : h0.get? T' with
      | none=>rfl
      | some o=>obtain ⟨o', e'⟩:=th _ _ q; rw [e] at e'; cases e'
  . rcases key with e | e
    . rw [e]; exact x.fT
    . exact hok.un0 e
end
section
variable {fs fs2 ex ex2 : List Addr} {H0 H H' : Hp} {h0 h h' : Heap}
end
section
variable {P : Program} {w : World} {K : PySem.W.Frag} {mg : Str -> Option Value} {base : Heap} {N : List Str} {qual : Str} {scope : Scope} {f : Addr} {cd : Value} {A : Around} {outer : List Env} {s0 : Shared} {H0 : Hp} {E : XK}
end
section
variable {X : Cx} {k j : Nat} {x : Str} {ps : List Str} {sp : Sp} {e : Expr} {es : List Expr} {t : TA} {p pos : Pos} {E : XK}
end
section
variable {X : Cx} {E : XK} {C : Addr} {x : Str} {e : Expr} {es : List Expr} {t : TA} {np cpos pos : Pos}
end
end L2
namespace L2
open PySem PySem.Spec PyProof.Rows
noncomputable abbrev TJ:=St -> Hp -> (Hp -> Prop) -> Prop
section
variable {X : Cx} {e : Expr} {es : List Expr} {te : TE} {t : TJ} {n : Nat} {pos p : Pos}
end
noncomputable abbrev Cx.held (X : Cx) (a : Addr) (pn : List (Addr × Obj)) : Cx:={ X with A:=X.A.mark (some (.ref a)), calm:=false, pn:=pn, xe:=fun _ _=>False }
theorem Cx.Ok.held {X : Cx} (ok : X.Ok) (a : Addr) (pn : List (Addr × Obj)) : (X.held a pn).Ok:=
  ⟨ok.mod, ok.kind, ok.glob, ok.blt, ok.above, ok.inj, ok.has, ok.cab, (fun z=>nomatch z), ok.frames, ok.stk, ok.exf, ok.bs, ok.bsz, ok.noex, ok.exfs, ok.funs, ok.frf⟩
section
variable {X : Cx} {pins : List (Addr × Obj)} {σ : St} {H : Hp} {s : Shared} {h' : Heap}
end
section
variable {X : Cx} {body suite : List Stmt} {b₀ : Stmt} {cn n : Str} {Ch : Addr} {i : Nat} {tb : XK -> TS} {ts : Addr -> Addr -> TS} {np hpos pos : Pos}
end
end L2
namespace L2
open PySem PySem.Spec PyProof.Rows
section
variable {K : PySem.W.Frag} {Er : Exc -> Hp -> Prop} {S : SC} {OO OO' OO2 : List (List XO)} {σ : St} {α β γ ρ ι : Type} {α1 α2 α3 α4 α5 α6 : Type} {mg : Str -> Option Value} {E : XK}
noncomputable def FJ (Q : Hp -> Prop) (_ : Unit) (H : Hp) : Prop:=∀ H', XD H H' -> Q H'
theorem FJ.tr {Q : Hp -> Prop} : ∀ (b : Unit) (H H' : Hp), XD H H' -> FJ Q b H -> FJ Q b H':=fun _ _ _ s h H2 s2=>h H2 (s.trans s2)
variable {Fd : Ends -> β -> Hp -> Prop} [fd : FdOk Fd] {u : TS}
section
variable {te : XK -> TE} {m : Rs α} {ts : Addr -> Addr -> TS} {N i : Nat} {Ch : Addr} {o : OE ρ} {g : Exc -> Rs ρ} {ns : List Str} {d : Str}
end
end
end L2
namespace L2
open PySem PySem.Spec PyProof.Rows PySem.W PySem.Builtin PySem.Builtin.ObjectAttr PySem.Builtin.Getset_descriptor
section
variable {prog : Program} {w : World} {A : Around} {E : Value -> Shared -> Prop} {K : Frag} {x D : Addr} {s : Shared}
end
theorem IS {X : Cx} {x : Str} {v : V} {pos : Pos} (h : ∃ u, X.mg x = some u /\ Yw v u) (hg : Gl X x) (hd : (x == ("__debug__" : Str)) = false:=by decide) : PE X (.Name x pos) (tC v):=by
  obtain ⟨u, hm, r⟩:=h
  exact HA hg hm r hd
theorem PS.nox {X : Cx} {st : Stmt} {t : TS} (h : PS X.nox st t) : PS X st t:=fun pins s σ H D I hw=>
  wpAny_mono (h pins s σ H D (I.wish _) hw) (fun _ _ q=>q.unwish) fun _ _ z=>False.elim z
section
variable {K : PySem.W.Frag} {C D : Addr} {b : Bool}
end
end L2
namespace L2
open PySem PySem.Spec PyProof.Rows
theorem P3.dropLast {α β γ : Type} {F : α -> β -> γ -> Prop} : ∀ {l m n}, P3 F l m n -> P3 F l.dropLast m.dropLast n.dropLast
  | _, _, _, .nil=>.nil
  | _, _, _, .cons _ .nil=>.nil
  | _, _, _, .cons r (.cons q t)=>.cons r (P3.dropLast (.cons q t))
section
variable {α β : Type} {K : PySem.W.Frag} {Er : Exc -> Hp -> Prop} {S : SC} {OO : List (List XO)} {σ : St} {Fd : Ends -> β -> Hp -> Prop} [fd : FdOk Fd] {u : TS}
end
end L2
namespace L2
open PySem PySem.Spec PyProof.Rows
section
variable {α β γ δ ε : Type}
structure Crs (r : Enc α) (q : Enc β) (d : Nat) : Prop where
  no : ∀ {X : Cx} {pins : List (Addr × Obj)} {σ : St} {H : Hp} {s : Shared} {x : V} {a : α} {b : β}, Inv X pins σ H s -> r X.K H x a -> q X.K H x b -> False
  lr : ∀ {X : Cx} {pins : List (Addr × Obj)} {σ : St} {H : Hp} {s : Shared} {x y : V} {v u : Value} {a : α} {b : β} {A : Around}, Inv X pins σ H s -> Yw x v -> Yw y u -> r X.K H x a -> q X.K H y b -> A.units + d < cLine -> SeqAt.EqAt A s v u false /\ SeqAt.RcAt A s v u false /\ SeqAt.RcNeAt A s v u true
  rl : ∀ {X : Cx} {pins : List (Addr × Obj)} {σ : St} {H : Hp} {s : Shared} {x y : V} {v u : Value} {a : α} {b : β} {A : Around}, Inv X pins σ H s -> Yw x v -> Yw y u -> q X.K H x b -> r X.K H y a -> A.units + d < cLine -> SeqAt.EqAt A s v u false /\ SeqAt.RcAt A s v u false /\ SeqAt.RcNeAt A s v u true
theorem Crs.up {r : Enc α} {q : Enc β} {d e : Nat} (c : Crs r q d) (h : d <= e) : Crs r q e:=⟨c.no, fun I rx ry h1 h2 hu=>c.lr I rx ry h1 h2 (by first | lia | omega), fun I rx ry h1 h2 hu=>c.rl I rx ry h1 h2 (by first | lia | omega)⟩
end
end L2
namespace L2
open PySem PySem.Spec PyProof.Rows
section
variable {K : PySem.W.Frag} {Er : Exc -> Hp -> Prop} {S : SC} {OO OO' OO1 OO2 : List (List XO)} {σ : St} {α β γ ρ ι δ ε ζ : Type}
variable {Fd : Ends -> β -> Hp -> Prop} [fd : FdOk Fd] {u : TS}
noncomputable def getL : α ⊕ γ -> Rs α
  | .inl a=>.ok a
  | .inr _=>.bad
noncomputable def getR : α ⊕ γ -> Rs γ
  | .inl _=>.bad
  | .inr b=>.ok b
end
end L2
namespace L2
theorem JY {α : Type} {us : List α} (h : us.length = 1) : ∃ a, us = [a]:=List.length_eq_one_iff.mp h
theorem Q0 {α : Type} {us : List α} (h : us.length = 2) : ∃ a0 a1, us = [a0, a1]:=by
  cases us with
  | nil=>cases h
  | cons a0 t=>
    obtain ⟨a1, rfl⟩:=JY (Nat.succ.inj h)
    exact ⟨a0, a1, rfl⟩
theorem VF {α : Type} {us : List α} (h : us.length = 3) : ∃ a0 a1 a2, us = [a0, a1, a2]:=by
  cases us with
  | nil=>cases h
  | cons a0 t=>
    obtain ⟨a1, a2, rfl⟩:=Q0 (Nat.succ.inj h)
    exact ⟨a0, a1, a2, rfl⟩
theorem HY {α : Type} {us : List α} (h : us.length = 4) : ∃ a0 a1 a2 a3, us = [a0, a1, a2, a3]:=by
  cases us with
  | nil=>cases h
  | cons a0 t=>
    obtain ⟨a1, a2, a3, rfl⟩:=VF (Nat.succ.inj h)
    exact ⟨a0, a1, a2, a3, rfl⟩
theorem Lv {α : Type} {us : List α} (h : us.length = 5) : ∃ a0 a1 a2 a3 a4, us = [a0, a1, a2, a3, a4]:=by
  cases us with
  | nil=>cases h
  | cons a0 t=>
    obtain ⟨a1, a2, a3, a4, rfl⟩:=HY (Nat.succ.inj h)
    exact ⟨a0, a1, a2, a3, a4, rfl⟩
end L2
namespace L2
open PySem PySem.Spec PyProof.Rows
section
variable {prog : Program} {w : World} {A : Around} {E : Value -> Shared -> Prop}
end
section
variable {X : Cx} {pos : Pos}
end
section
variable {K : PySem.W.Frag} {Er : Exc -> Hp -> Prop} {S : SC} {OO OO' OO1 OO2 : List (List XO)} {σ : St} {α β γ ρ ι δ ε ζ : Type}
variable {Fd : Ends -> β -> Hp -> Prop} [fd : FdOk Fd] {u : TS}
end
end L2
namespace L2
open PySem PySem.Spec PyProof.Rows
section
variable {X : Cx}
noncomputable def ipM : TIp:=fun x y H Q=>∃ i j, x = .int i /\ y = .int j /\ Ii i j /\ Q (.int (i * j)) H
theorem IN : PIp X .Mult ipM:=by
  intro pins s σ H x y v u Q I r1 r2 h
  obtain ⟨i, j, e1, e2, hc, q⟩:=h
  subst e1; subst e2
  obtain ⟨t, rfl⟩:=r1
  obtain ⟨t', rfl⟩:=r2
  exact PySem.AutoIntOps.imul_0 ⟨.int _, H, I.tok _, ⟨_, rfl⟩, q⟩ hc.ok
end
section
variable {K : PySem.W.Frag} {Er : Exc -> Hp -> Prop} {S : SC} {OO OO' OO1 OO2 : List (List XO)} {σ : St} {α β γ ρ ι δ ε ζ : Type}
variable {Fd : Ends -> β -> Hp -> Prop} [fd : FdOk Fd] {u : TS}
theorem EK {te : TE} {m : Rs Int} {f : Int -> Rs β} {v : V} {a : Int} (i : Nat) (hσ : σ[i]? = some (some v)) (h : ∀ x, S.p x -> Xa K x v a) (he : EvB K Er S OO σ te Xa m)
    (hr : ∀ b v, Sv Er (S.add K Xa v b) OO (σ.set i (some v)) u Fd (f b)) : Sv Er S OO σ (JI (Lz i te ipM) u) Fd (m.bind fun b=>(QT a b).bind f):=fun H D w s P=>
  ⟨v, hσ, he.st w s P fun b y H1 s1 w1 q1 r1 P1=>by
    cases e : QT a b with
    | bad=>rw [e] at P1; exact P1.elim
    | err x=>exact absurd e QP
    | ok c=>
      rw [e] at P1
      obtain ⟨h1, h2⟩:=ZM e
      cases h2
      exact ⟨a, b, h _ s, r1, h1, hr _ _ H1 D w1 ⟨q1, rfl⟩ P1⟩⟩
end
end L2
namespace L2
open PySem PySem.Spec PyProof.Rows
set_option maxRecDepth 100000
section
variable {prog : Program} {w : World} {A : Around} {E : Value -> Shared -> Prop} {s : Shared}
end
section
variable {prog : Program} {w : World} {A : Around} {R : Result -> Shared -> Prop} {K : Type} [DecidableEq K] {knd : KeyKind prog w K}
noncomputable def BQ (acc kv : List (K × Value)) : List (K × Value):=kv.foldl (fun a p=>stored a p.1 p.2) acc
end
end L2
namespace L2
open PySem PySem.Spec PyProof.Rows
section
variable {X : Cx}
noncomputable def IC (acc kvs : List (Key × V)) : List (Key × V):=kvs.foldl (fun a p=>J4 a p.1 p.2) acc
theorem KV.all : ∀ {kvs : List (Key × V)} {vs : List (Key × Value)} {acc : List (Key × V)} {acc' : List (Key × Value)}, KV kvs vs -> KV acc acc' -> KV (IC acc kvs) (BQ acc' vs)
  | [], [], _, _, .nil, h=>h
  | p :: kvs, q :: vs, acc, acc', .cons r t, h=>by
    have h2:=h.put p.1 r.2
    have e : stored acc' p.1 q.2 = stored acc' q.1 q.2:=by rw [r.1]
    rw [e] at h2
    exact KV.all (kvs:=kvs) (vs:=vs) t h2
end
end L2
namespace L2
open PySem PySem.Spec PyProof.Rows
section
variable {X : Cx} {pins : List (Addr × Obj)} {σ : St} {H : Hp} {s : Shared} {d : Addr} {o : Obj} {kvs : List (Key × V)}
theorem KV.key {kvs : List (Key × V)} {vs : List (Key × Value)} (h : KV kvs vs) : ∀ {i : Nat} (h1 : i < kvs.length) (h2 : i < vs.length), (kvs[i]).1 = (vs[i]).1:=by
  induction h with
  | nil=>intro i h1; exact absurd h1 (Nat.not_lt_zero _)
  | cons r _ ih=>
    intro i h1 h2
    cases i with
    | zero=>exact r.1
    | succ i=>exact ih (Nat.lt_of_succ_lt_succ h1) (Nat.lt_of_succ_lt_succ h2)
end
section
variable {X : Cx}
end
end L2
namespace L2
open PySem PySem.Spec PyProof.Rows
section
variable {K : PySem.W.Frag} {Er : Exc -> Hp -> Prop} {S : SC} {OO OO' OO2 : List (List XO)} {σ : St} {α β γ ρ ι δ ε : Type}
variable {Fd : Ends -> β -> Hp -> Prop} [fd : FdOk Fd] {u : TS}
theorem J8 {H : Hp} {xs : List V} {ns : List Int} (h : Paired (Xa K H) xs ns) : xs = ns.map V.int:=by
  induction h with
  | nil=>rfl
  | cons r _ ih=>rw [List.map_cons, ih, show _ = V.int _ from r]
end
end L2
namespace L2
open PySem PySem.Spec PyProof.Rows
section
variable {prog : Program} {w : World} {A : Around}
end
section
variable {X : Cx}
end
end L2
namespace L2
open PySem PySem.Spec PyProof.Rows
section
variable {K : PySem.W.Frag} {Er : Exc -> Hp -> Prop} {S : SC} {OO OO' OO1 OO2 : List (List XO)} {σ : St} {α β γ ρ ι δ ε : Type}
variable {Fd : Ends -> β -> Hp -> Prop} [fd : FdOk Fd] {u : TS}
end
end L2
namespace L2
open PySem PySem.Spec PyProof.Rows
theorem E4 {prog : Program} {w : World} {A : Around} {E : Value -> Shared -> Prop} {s : Shared} {l b : Addr} {o1 o2 : Obj} {Q : Value -> Shared -> Prop} (h1 : s.heap.get? l = some o1) (c1 : o1.cls = .type "list") (h2 : s.heap.get? b = some o2) (c2 : o2.cls = .type "list") (hu : A.units < cLine)
    (h : wpAny (model prog w) A (call (.builtin "list.__lt__") [.ref l, .ref b]) (fun v s'=>(∃ k, v = .bool k) /\ Q v s') E s) : wpAny (model prog w) A (compareOp .Lt (.ref l) (.ref b)) Q E s:=by
  have t1 : s.TypeIs (.ref l) "list":=⟨_, h1, c1⟩
  have t2 : s.TypeIs (.ref b) "list":=⟨_, h2, c2⟩
  show wpAny _ _ (richCompare .Lt (.ref l) (.ref b)) _ _ _
  unfold richCompare
  refine wpAny_holding ?_
  refine wpAny_bind (wpAny_cRoomFor hu ?_)
  have hone : oneThing? .Lt (.ref l) (.ref b) = none:=rfl
  rw [hone]
  dsimp only
  refine wpAny_bind (wpAny_typeOf t1 ?_)
  refine wpAny_bind (wpAny_typeOf t2 ?_)
  rw [if_neg (by decide)]
  refine wpAny_bind (wpAny_pure ?_)
  rw [if_neg (by decide)]
  unfold tryCompare
  refine wpAny_bind (wpAny_bind (wpAny_callSpecialIfBound?_slot t1 F.slot_list_lt (thn h fun v s' ⟨⟨k, e⟩, q⟩=>?_)))
  subst e
  exact wpAny_pure (wpAny_pure q)
theorem VP : entryFor table "list.__eq__.loop" = some Builtin.«list.__eq__.loop»:=entryFor_of_fast (by kernel_rfl)
theorem Qb : plainId "list.__eq__.loop" = true:=by decide +kernel
noncomputable def ltL : List Int -> List Int -> Bool
  | _, []=>false
  | [], _ :: _=>true
  | a :: as, b :: bs=>if a = b then ltL as bs else decide (a < b)
theorem Ej {ns : List Int} {xs : Array Value} (hx : Yj (ns.map V.int) xs.toList) (i : Nat) : (ns[i]? = none /\ xs[i]? = none) ∨ ∃ a t, ns[i]? = some a /\ xs[i]? = some (.int a t):=by
  have hl : ns.length = xs.size:=by have:=hx.length; simpa using this
  rcases Nat.lt_or_ge i ns.length with h | h
  . obtain ⟨u, hu, ru⟩ := hx.get (i := i) (x := .int ns[i]) (by simp [h])
    obtain ⟨t, rfl⟩:=ru
    exact .inr ⟨ns[i], t, by simp [h], by simpa using hu⟩
  . exact .inl ⟨List.getElem?_eq_none h, by simp; (first | lia | omega)⟩
theorem Cw {as : List Int} : ltL as [] = false:=by cases as <;> rfl
theorem Il {prog : Program} {w : World} {A : Around} {R : Result -> Shared -> Prop} {l b : Addr} {xs ys : Array Value} {n m : Nat} {o1 o2 : Obj} (d1 : o1.data = .seq xs n) (d2 : o2.data = .seq ys m) {ns ms : List Int} (hx : Yj (ns.map V.int) xs.toList) (hy : Yj (ms.map V.int) ys.toList) :
    ∀ (k i : Nat) (s : Shared), ns.length - i = k -> i <= ns.length -> i <= ms.length -> s.heap.get? l = some o1 -> s.heap.get? b = some o2 ->
    (∀ tk, R (.ok (.ret (.bool (ltL (ns.drop i) (ms.drop i))))) { s with toks:=tk }) -> codeAny (model prog w) A (.builtin "list.__eq__.loop" ⟨[.ref l, .ref b, rawInt i, rawInt 0], []⟩) R s:=by
  have hlx : ns.length = xs.size:=by have:=hx.length; simpa using this
  have hly : ms.length = ys.size:=by have:=hy.length; simpa using this
  intro k
  induction k with
  | zero=>
    intro i s hk hi1 hi2 h1 h2 r
    refine codeAny_builtin VP ?_
    rw [Around.under_plainId Qb _]
    show wpAny _ A.in1 (Builtin.List.listItems (.ref l) >>= _) _ _ s
    refine wpAny_bind (wpAny_listItems h1 d1 ?_)
    refine wpAny_bind (wpAny_listItems h2 d2 ?_)
    rw [show ((i : Nat) : Int).toNat = i from rfl, show xs[i]? = none by simp; (first | lia | omega)]
    refine wpAny_bind (wpAny_listItems h1 d1 ?_)
    refine wpAny_bind (wpAny_listItems h2 d2 ?_)
    refine wpAny_pure ?_
    have e : ltL (ns.drop i) (ms.drop i) = decide (xs.size < ys.size):=by
      rw [List.drop_eq_nil_of_le (show ns.length <= i by first | lia | omega)]
      cases hd : ms.drop i with
      | nil=>
        have:=congrArg List.length hd
        simp at this
        rw [Cw, decide_eq_false (by first | lia | omega)]
      | cons x t=>
        have:=congrArg List.length hd
        simp at this
        exact (decide_eq_true (show xs.size < ys.size by first | lia | omega)).symm
    have:=r s.toks
    rw [e] at this
    exact this
  | succ k ih=>
    intro i s hk hi1 hi2 h1 h2 r
    have lt : i < ns.length:=by first | lia | omega
    refine codeAny_builtin VP ?_
    rw [Around.under_plainId Qb _]
    show wpAny _ A.in1 (Builtin.List.listItems (.ref l) >>= _) _ _ s
    refine wpAny_bind (wpAny_listItems h1 d1 ?_)
    refine wpAny_bind (wpAny_listItems h2 d2 ?_)
    rw [show ((i : Nat) : Int).toNat = i from rfl]
    rcases Ej hx i with ⟨e1, _⟩ | ⟨a, ta, e1, f1⟩
    . rw [List.getElem?_eq_none_iff] at e1; (first | lia | omega)
    have dx : ns.drop i = a :: ns.drop (i + 1):=by
      rw [List.drop_eq_getElem_cons lt, ← (List.getElem?_eq_some_iff.mp e1).2]
    rcases Ej hy i with ⟨e2, f2⟩ | ⟨c, tc, e2, f2⟩
    . rw [f1, f2]
      refine wpAny_bind (wpAny_listItems h1 d1 ?_)
      refine wpAny_bind (wpAny_listItems h2 d2 ?_)
      refine wpAny_pure ?_
      rw [List.getElem?_eq_none_iff] at e2
      have:=r s.toks
      rw [List.drop_eq_nil_of_le e2, Cw, ← decide_eq_false (show ¬ xs.size < ys.size by first | lia | omega)] at this
      exact this
    . rw [f1, f2]
      have lt2 : i < ms.length:=(List.getElem?_eq_some_iff.mp e2).1
      have dy : ms.drop i = c :: ms.drop (i + 1):=by
        rw [List.drop_eq_getElem_cons lt2, ← (List.getElem?_eq_some_iff.mp e2).2]
      rw [dx, dy] at r
      show wpAny _ _ (eqBool (.int a ta) (.int c tc) >>= _) _ _ _
      refine wpAny_bind (wpAny_eqBool_int ?_)
      by_cases hac : a = c
      . rw [if_pos (by simpa using hac)]
        refine wpAny_pure ⟨plainId_quiet Qb _, ?_⟩
        refine ih (i + 1) _ (by first | lia | omega) (by first | lia | omega) (by first | lia | omega) h1 h2 fun tk=>?_
        have:=r tk
        rw [ltL, if_pos hac] at this
        exact this
      . rw [if_neg (by simpa using hac)]
        refine wpAny_bind (wpAny_listItems h1 d1 ?_)
        refine wpAny_bind (wpAny_listItems h2 d2 ?_)
        rw [f1, f2]
        show wpAny _ _ (richCompare .Lt (.int a ta) (.int c tc) >>= _) _ _ _
        refine wpAny_bind (CmpOf.ints_lt (P:=fun j v=>∃ t, v = .int (if j = 0 then a else c) t) (fun j=>if j = 0 then a else c) (fun _ _ h=>h) 0 1 _ _ _ _ _ ⟨ta, rfl⟩ ⟨tc, rfl⟩ ?_)
        refine wpAny_pure ?_
        have:=r s.toks
        rw [ltL, if_neg hac] at this
        exact this
theorem B3 {l b : Addr} {xs ys : Array Value} {n m : Nat} {o1 o2 : Obj} (d1 : o1.data = .seq xs n) (d2 : o2.data = .seq ys m) (c2 : o2.cls = .type "list") {ns ms : List Int} (hx : Yj (ns.map V.int) xs.toList) (hy : Yj (ms.map V.int) ys.toList) :
    Meets (Builtin.«list.__lt__» ⟨[.ref l, .ref b], []⟩) fun _ R s=>s.heap.get? l = some o1 /\ s.heap.get? b = some o2 /\ ∀ tk, R (.ok (.ret (.bool (ltL ns ms)))) { s with toks:=tk }:=by
  rintro prog w A R s ⟨h1, h2, r⟩
  show wpAny _ _ (slotArgs "__lt__" 1 ⟨[.ref l, .ref b], []⟩ >>= _) _ _ _
  refine wpAny_bind (wpAny_pure ?_)
  refine wpAny_bind (wpAny_isInstance ⟨_, h2, c2⟩ (by first | rfl | kernel_rfl) ?_)
  rw [if_neg (by decide)]
  show wpAny _ _ (if (CmpOp.Lt == CmpOp.Eq || CmpOp.Lt == CmpOp.NotEq) = true then _ else _) _ _ _
  rw [if_neg (by decide)]
  refine wpAny_pure ⟨plainId_quiet Qb _, ?_⟩
  exact Il d1 d2 hx hy ns.length 0 s rfl (Nat.zero_le _) (Nat.zero_le _) h1 h2 fun tk=>by simpa using r tk
section
variable {X : Cx}
noncomputable def LY (K : PySem.W.Frag) : R2:=fun x y H Q=>∃ a b ns ms, x = .ref a /\ y = .ref b /\ SqL K H a (ns.map V.int) /\ SqL K H b (ms.map V.int) /\ Q (.bl (ltL ns ms)) H
theorem IX (K : PySem.W.Frag) (hK : X.K = K) (hu : X.A.units < cLine) : OpR X (compareOp .Lt) (LY K):=by
  subst hK
  intro pins s σ H x y v u Q I rx ry h
  obtain ⟨a, b, ns, ms, rfl, rfl, ha, hb, q⟩:=h
  cases rx
  cases ry
  obtain ⟨i1, v1, ⟨o1, n1, g1, c1, _, d1⟩, _⟩:=I.list ha
  obtain ⟨i2, v2, ⟨o2, n2, g2, c2, _, d2⟩, _⟩:=I.list hb
  refine E4 g1 c1 g2 c2 hu (call_meets F.slot_list_lt ⟨_, g1, c1⟩ F.entry_list_lt (F.args_list_lt_2 _ _) (B3 d1 d2 c2 (by simpa using v1) (by simpa using v2)) ⟨g1, g2, fun tk=>?_⟩)
  exact ⟨⟨_, rfl⟩, .bl (ltL ns ms), H, I.tok tk, rfl, q⟩
end
end L2
namespace L2
open PySem PySem.Spec PyProof.Rows
section
variable {K : PySem.W.Frag} {Er : Exc -> Hp -> Prop} {S : SC} {OO OO' OO1 OO2 : List (List XO)} {σ : St} {α β γ ρ ι δ ε : Type}
theorem EF {ta tb : TE} {ma mb : Rs (List Int)} (ha : EvB K Er S OO σ ta (rV Xa) ma) (hb : EvB K Er S OO σ tb (rV Xa) mb) : EvB K Er S OO σ (tOp (LY K) ta tb) XT (ma.bind fun a=>mb.bind fun b=>.ok (ltL a b)):=fun H Q w s P=>
  ha.run w s FB.tr P fun a x H1 s1 w1 q1 ⟨p, xs, e, q, pr⟩ P1=>hb.run w1 q1 FB.tr P1 fun b y H2 s2 w2 q2 ⟨p', ys, e', q', pr'⟩ P2=>
    ⟨p, p', a, b, e, e', SqL.of (by rw [← J8 pr]; exact s2 _ _ q), SqL.of (by rw [← J8 pr']; exact q'), P2 _ H2 (XD.refl _) rfl⟩
end
end L2
namespace L2
open PySem PySem.Spec PyProof.Rows
section
variable {K : PySem.W.Frag} {Er : Exc -> Hp -> Prop} {S : SC} {OO OO' OO1 OO2 : List (List XO)} {σ : St} {α β γ ρ ι δ ε : Type}
noncomputable def El (K : PySem.W.Frag) : List V -> Hp -> VK -> Prop:=fun xs H Q=>∃ p ys, xs = [.ref p] /\ ((SqL K H p ys /\ ∀ l, H l = none -> Q (.ref l) (upd H l (.tup ys))) ∨ (SqT K H p ys /\ Q (.ref p) H))
theorem QQ {X : Cx} (K : PySem.W.Frag) (h : X.K = K) : Z9 X (.type "tuple") (El K):=by subst h; exact UI
theorem Ub {ta : TE} {r : Enc α} [z : MonoE r] {ma : Rs (List α)} (ha : EvB K Er S OO σ ta (rV r) ma) : EvB K Er S OO σ (tCB (El K) (XI ta Z5)) (rPL r) (ma.bind fun a=>.ok a):=fun H Q w s P=>
  ha.run w s FB.tr P fun a x H1 s1 w1 q1 r9 P1=>by obtain ⟨p, xs, e, q, pr⟩:=r9; exact ⟨p, xs, by rw [e], .inl ⟨SqL.of q, fun l hl=>P1 (.ref l) _ (XX hl _) ⟨l, xs, rfl, YM, Paired.imp2 (fun _ _ h=>z.mono (XX hl _) h) pr⟩⟩⟩
noncomputable def tk (k : List Int) : List Key:=k.map Sum.inl
theorem Di {a b : List Int} (h : tk a = tk b) : a = b:=(List.map_inj_right (fun _ _ h=>Sum.inl.inj h)).mp h
theorem Im (k : List Int) : (tk k).map kV = k.map V.int:=by unfold tk; rw [List.map_map]; rfl
noncomputable def Hn {α : Type} (r : Enc α) (K : PySem.W.Frag) (H : Hp) (kv : List Key × V) (kx : List Int × α) : Prop:=kv.1 = tk kx.1 /\ r K H kv.2 kx.2
noncomputable def rDT {α : Type} (r : Enc α) : Enc (List (List Int × α)):=fun K H v d=>∃ p kvs, v = .ref p /\ H p = some (.dT kvs) /\ Paired (Hn r K H) kvs d
noncomputable def oDT {α : Type} (r : Enc α) : OE (List (List Int × α)):=fun K h v d C=>∃ p kvs, v = .ref p /\ Paired (Hn r K h) kvs d /\ C = [(p, .dT kvs)]
instance {r : Enc α} [m : MonoE r] : MonoE (rDT r):=⟨fun s r9=>by obtain ⟨p, kvs, e, q, pr⟩:=r9; exact ⟨p, kvs, e, s _ _ q, Paired.imp2 (fun _ _ z=>⟨z.1, m.mono s z.2⟩) pr⟩⟩
instance {r : Enc α} [m : MonoE r] : MonoO (oDT r):=⟨fun s r9=>by obtain ⟨p, kvs, e, pr, c⟩:=r9; exact ⟨p, kvs, e, Paired.imp2 (fun _ _ z=>⟨z.1, m.mono s z.2⟩) pr, c⟩⟩
instance {r : Enc α} [m : FlatE r] : FlatO (oDT r):=⟨fun s r9=>by obtain ⟨p, kvs, e, pr, c⟩:=r9; exact ⟨p, kvs, e, Paired.imp2 (fun _ _ z=>⟨z.1, m.flat s z.2⟩) pr, c⟩⟩
instance {r : Enc α} [m : MonoE r] : FrzC (oDT r) (rDT r):=⟨fun r9 s hc=>by obtain ⟨p, kvs, e, pr, c⟩:=r9; exact ⟨p, kvs, e, hc (p, .dT kvs) (by rw [c]; simp), Paired.imp2 (fun _ _ z=>⟨z.1, m.mono s z.2⟩) pr⟩⟩
noncomputable def Vq (d : List (List Int × α)) (k : List Int) : Option α:=(d.find? fun kv=>decide (kv.1 = k)).map (·.2)
noncomputable def KD (d : List (List Int × α)) (k : List Int) (v : α) : List (List Int × α):=if (d.any fun kv=>decide (kv.1 = k)) = true then d.map (fun kv=>if kv.1 = k then (kv.1, v) else kv) else d ++ [(k, v)]
theorem Go {r : Enc α} {H : Hp} {k : List Int} {kvs : List (List Key × V)} {d : List (List Int × α)} (h : Paired (Hn r K H) kvs d) : (KK kvs (tk k)).isSome = (Vq d k).isSome:=by
  induction h with
  | nil=>rfl
  | @cons kv kx _ d h t ih=>
    by_cases e : kx.1 = k
    . rw [Jb (show kv.1 = tk k by rw [h.1, e]), show Vq (kx :: d) k = some kx.2 by simp [Vq, List.find?_cons, e]]
      rfl
    . rw [Jr (show ¬ kv.1 = tk k from fun z => e (Di (h.1.symm.trans z))), show Vq (kx :: d) k = Vq d k by simp [Vq, List.find?_cons, e]]
      exact ih
theorem K9 {r : Enc α} {H : Hp} {k : List Int} {kvs : List (List Key × V)} {d : List (List Int × α)} (h : Paired (Hn r K H) kvs d) : (kvs.any fun kv=>decide (kv.1 = tk k)) = d.any fun kx=>decide (kx.1 = k):=by
  induction h with
  | nil=>rfl
  | @cons kv kx _ _ h t ih=>
    rw [List.any_cons, List.any_cons, ih, h.1]
    congr 1
    rw [Bool.eq_iff_iff, decide_eq_true_eq, decide_eq_true_eq]
    exact ⟨Di, fun z=>by rw [z]⟩
theorem KQ {r : Enc α} {H : Hp} {k : List Int} {v : V} {a : α} (hv : r K H v a) {kvs : List (List Key × V)} {d : List (List Int × α)} (h : Paired (Hn r K H) kvs d) : Paired (Hn r K H) (J4 kvs (tk k) v) (KD d k a):=by
  unfold J4 KD
  rw [K9 h]
  by_cases e : (d.any fun kx=>decide (kx.1 = k)) = true
  . rw [if_pos e, if_pos e]
    clear e
    induction h with
    | nil=>exact .nil
    | @cons kv kx l m h t ih=>
      refine .cons ?_ ih
      show Hn r K H (if kv.1 = tk k then (kv.1, v) else kv) (if kx.1 = k then (kx.1, a) else kx)
      by_cases e : kx.1 = k
      . rw [if_pos (show kv.1 = tk k by rw [h.1, e]), if_pos e]; exact ⟨h.1, hv⟩
      . rw [if_neg (show ¬ kv.1 = tk k from fun z=>e (Di (h.1.symm.trans z))), if_neg e]; exact h
  . rw [if_neg e, if_neg e]
    exact Paired.app h (.cons ⟨rfl, hv⟩ .nil)
theorem Bl {r : Enc α} : Ev K Er S OO OO σ Eb (oDT r) (.ok []):=fun H Q w s P=>fun p hp=>P (.ref p) [(p, .dT [])] _ (XX hp _) (w.new hp rfl) (VW hp) ⟨p, [], rfl, .nil, rfl⟩
theorem De {td ty : TE} {r : Enc α} {md : Rs (List (List Int × α))} {mk : Rs (List Int)} (hk : EvB K Er S OO σ ty (rPL Xa) mk) (hd : EvB K Er S OO σ td (rDT r) md) : EvB K Er S OO σ (DY ty td) XT (mk.bind fun k=>md.bind fun d=>.ok (!(Vq d k).isSome)):=fun H Q w s P=>
  hk.run w s FB.tr P fun k y H1 s1 w1 q1 r9 P1=>by obtain ⟨b, xs, eb, hb, pk⟩:=r9; exact hd.run w1 q1 FB.tr P1 fun d x H2 s2 w2 q2 r9 P2=>by obtain ⟨p, kvs, e, q, pr⟩:=r9; exact ⟨p, KK kvs (tk k), e, .inr ⟨kvs, tk k, b, .inl q, eb, by rw [Im, ← J8 pk]; exact s2 _ _ hb, rfl⟩, P2 _ H2 (XD.refl _) (by rw [Go (k:=k) pr]; rfl)⟩
variable {Fd : Ends -> β -> Hp -> Prop} [fd : FdOk Fd] {u : TS}
theorem B5 {tv ty : TE} {r : Enc α} [z : MonoE r] {mv : Rs α} {mk : Rs (List Int)} {f : List (List Int × α) -> Rs β} {v : V} {d : List (List Int × α)} {C : List XO} (i k : Nat) (hσ : σ[i]? = some (some v)) (hk : OO[k]? = some C) (h : ∀ x, S.p x -> oDT r K x v d C) (hv : EvS K Er S OO σ tv r mv) (hy : EvB K Er S OO σ ty (rPL Xa) mk)
    (hr : ∀ d' C', Sv Er (S.addO K (oDT r) v d' C') (OO.set k C') σ u Fd (f d')) : Sv Er S OO σ (JI (E8 (UV i) ty tv) u) Fd (mv.bind fun a=>mk.bind fun n=>chk (d.length < sizeLine) (f (KD d n a))):=fun H D w s P=>
  hv.st w s P fun a va H1 s1 w1 q1 r1 P1=>⟨v, hσ, hy.st w1 q1 P1 fun n vn H2 s2 w2 q2 r2 P2=>by
    obtain ⟨hsz, P2⟩:=PZ.chk P2
    obtain ⟨b, xs, eb, hb, pk⟩:=r2
    obtain ⟨p, kvs, e, pr, c⟩:=h _ q2
    subst c e
    have hH : H2 p = some (.dT kvs):=w2.tr (p, .dT kvs) (List.mem_flatten.mpr ⟨_, List.mem_of_getElem? hk, by simp⟩)
    obtain ⟨w3, m3⟩:=Bh (D:=[]) (C':=[(p, .dT (J4 kvs (tk n) va))]) (p:=p) (o:=.dT (J4 kvs (tk n) va)) w2.nil hk (by simp) (by simp) (by simp) (fun b hb=>by simpa using hb) (fun c hc=>by
      have : c = (p, .dT (J4 kvs (tk n) va)):=by simpa using hc
      rw [this]; exact YM) (fun c hc=>by
      have : c = (p, .dT (J4 kvs (tk n) va)):=by simpa using hc
      rw [this]; rfl)
    rw [Zj] at m3
    refine ⟨p, _, rfl, .inr ⟨kvs, tk n, b, hH, eb, by rw [Im, ← J8 pk]; exact hb, by rw [Paired.len pr]; exact hsz, rfl⟩, ?_⟩
    exact hr _ _ _ D w3 ⟨S.mono _ _ m3 q2, ⟨p, _, rfl, KQ (z.mono ((Xj s2).trans m3) r1) (Paired.imp2 (fun _ _ h=>⟨h.1, z.mono m3 h.2⟩) pr), rfl⟩⟩ (PZ.tr (fd.tr D) m3 P2)⟩
end
end L2
namespace L2
open PySem PySem.Spec PyProof.Rows
section
variable {X : Cx} {α : Type} [DecidableEq α] {r : Enc α} {d : Nat}
noncomputable def LU (K : PySem.W.Frag) (r : Enc α) (neg : Bool) : R2:=fun x y H Q=>∃ l xs, ∃ (as : List α) (a : α), y = .ref l /\ SqL K H l xs /\ Paired (r K H) xs as /\ r K H x a /\ Q (.bl (neg ^^ decide (a ∈ as))) H
open Classical in
theorem HM {pins : List (Addr × Obj)} {σ : St} {H : Hp} {s : Shared} (I : Inv X pins σ H s) (E : EqOk r d) (hu : X.A.units + 1 + d < cLine) {xs : List V} {as : List α} {its : List Value} {x : V} {a : α} {v : Value} (pr : Paired (r X.K H) xs as) (rr : Yj xs its) (hx : r X.K H x a) (rx : Yw x v) :
    ∃ e : Value -> Bool, (∀ w ∈ its, SeqAt.EqAt X.A.in1 s w v (e w)) /\ its.any e = decide (a ∈ as):=by
  let e : Value -> Bool:=fun w=>decide (∃ (i : Nat) (b : α), its[i]? = some w /\ as[i]? = some b /\ b = a)
  have he : ∀ (i : Nat) (w : Value) (b : α), its[i]? = some w -> as[i]? = some b -> e w = decide (b = a):=by
    intro i w b h1 h2
    rw [Bool.eq_iff_iff]
    simp only [e, decide_eq_true_eq]
    constructor
    . rintro ⟨i', b', h3, h4, rfl⟩
      obtain ⟨x1, hx1, rx1⟩:=Paired.getR rr h1
      obtain ⟨x2, hx2, rx2⟩:=Paired.getR rr h3
      obtain ⟨c1, hc1, rc1⟩:=Paired.getL pr hx1
      obtain ⟨c2, hc2, rc2⟩:=Paired.getL pr hx2
      rw [h2] at hc1; rw [h4] at hc2
      cases hc1; cases hc2
      have:=Yw.inj rx1 rx2
      subst this
      exact E.uniq I rc1 rc2
    . rintro rfl; exact ⟨i, b, h1, h2, rfl⟩
  refine ⟨e, fun w hw=>?_, ?_⟩
  . obtain ⟨i, hi⟩ := List.getElem?_of_mem hw
    obtain ⟨x1, hx1, rx1⟩:=Paired.getR rr hi
    obtain ⟨c1, hc1, rc1⟩:=Paired.getL pr hx1
    rw [he i w c1 hi hc1]
    exact E.eq I rx1 rx rc1 hx hu
  . rw [Bool.eq_iff_iff, List.any_eq_true, decide_eq_true_eq]
    constructor
    . rintro ⟨w, hw, h⟩
      simp only [e, decide_eq_true_eq] at h
      obtain ⟨i, b, _, h2, rfl⟩:=h
      exact List.mem_of_getElem? h2
    . intro h
      obtain ⟨i, hi⟩:=List.getElem?_of_mem h
      obtain ⟨x1, hx1, rc1⟩:=Paired.getR pr hi
      obtain ⟨w, hw, _⟩:=rr.get hx1
      refine ⟨w, List.mem_of_getElem? hw, ?_⟩
      rw [he i w a hw hi]
      simp
theorem Ba (K : PySem.W.Frag) (hK : X.K = K) (E : EqOk r d) (hd8 : d + 1 <= 8) (hu : X.A.units + 8 < cLine) : OpR X (compareOp .NotIn) (LU K r true):=by
  subst hK
  intro pins s σ H x y v u Q I rx ry h
  obtain ⟨l, xs, as, a, rfl, hq, pr, hx, q⟩:=h
  cases ry
  obtain ⟨its, rr, pl, hz⟩:=I.list hq
  obtain ⟨e, h1, h2⟩:=HM I E (by first | lia | omega) pr rr hx rx
  refine SeqAt.notIn_listAt e pl.isList (fun w hw=>h1 w (by simpa using hw)) ⟨.bl _, H, I, rfl, ?_⟩
  rw [show its.toArray.any e = its.any e by simp, h2]
  simpa using q
end
section
variable {K : PySem.W.Frag} {Er : Exc -> Hp -> Prop} {S : SC} {OO OO' OO1 OO2 : List (List XO)} {σ : St} {α β γ ρ ι δ ε : Type}
noncomputable def Lm [DecidableEq α] (a : α) (l : List α) : Bool:=decide (a ∈ l)
theorem Bx [DecidableEq α] {ta tb : TE} {r : Enc α} [y : MonoE r] {ma : Rs α} {mb : Rs (List α)} (ha : EvB K Er S OO σ ta r ma) (hb : EvB K Er S OO σ tb (rV r) mb) : EvB K Er S OO σ (tOp (LU K r true) ta tb) XT (ma.bind fun a=>mb.bind fun b=>.ok (!(Lm a b))):=fun H Q w s P=>
  ha.run w s FB.tr P fun a x H1 s1 w1 q1 r1 P1=>hb.run w1 q1 FB.tr P1 fun b v H2 s2 w2 q2 r9 P2=>by obtain ⟨p, xs, e, q, pr⟩:=r9; exact ⟨p, xs, b, a, e, SqL.of q, pr, y.mono s2 r1, P2 _ H2 (XD.refl _) (by simp only [Bool.true_xor]; rfl)⟩
end
end L2
namespace L2
open PySem PySem.Spec PyProof.Rows
section
variable {X : Cx} {pins : List (Addr × Obj)} {σ : St} {H : Hp} {s : Shared} {h' : Heap}
theorem Inv.turns {t' : Nat} {ch : List Addr} (I : Inv X pins σ H s) (k : ∀ b o, b ∉ ch -> s.heap.get? b = some o -> h'.get? b = some o) (hf : ∀ b ∈ ch, Cu X pins H b) : Inv X pins σ H { s with heap:=h', toks:=t' }:=by
  have nit : ∀ b o, H b = some o -> b ∉ ch:=fun b o e z=>by rw [(hf b z).1] at e; cases e
  refine I.step (g':=s.gens) (d':=s.drawn) (ch:=ch) (fun b hb=>?_) (fun b o _ _ hc e _=>k b o hc e) (fun b o _ _ hc e _=>⟨o.slots, k b o hc e⟩)
    (fun b o _ e n=>n) (fun b o hc e=>⟨o, k b o hc e⟩) (fun b xs e=>e) (fun b o xs e=>e) (fun b ps e=>⟨#[], by rw [e]; simp⟩) (fun m hm=>?_) (fun b v e=>?_) I.bare
  . obtain ⟨f0, f1, f2, f3, f4, f5⟩ := hf b hb
    exact ⟨f3, f1, f4, f5⟩
  . obtain ⟨o, es, ep, ho, r⟩ := hm
    exact ⟨o, es, ep, k _ o (fun z=>(hf _ z).2.1 rfl) ho, r⟩
  . refine (I.hok b v e).stay (fun c o hc q => k c o ?_ q) (fun c q => q) fun c xs q => q
    rcases hc with z | z
    . rw [z]; exact nit b v e
    . exact nit c _ z
end
section
variable {X : Cx} {elts : List Expr} {k : Nat} {pos0 : Pos}
end
end L2
namespace L2
open PySem PySem.Spec PyProof.Rows
section
variable {K : PySem.W.Frag} {Er : Exc -> Hp -> Prop} {S : SC} {OO OO' OO1 OO2 : List (List XO)} {σ : St} {α β γ ρ ι δ ε : Type}
end
end L2
namespace My
open PySem L2
noncomputable def VX (a_0 : ((List (List Int)) × (List (Int × Int)))) (a_1 : Int) : Rs (Int × Int):=(Rs.bind (Rs.bind (Rs.bind (Rs.ok a_0) fun x1=>(Rs.ok x1.1)) fun x2=>(Rs.ok (U2 x2))) fun x20=>(Rs.bind (forC x20 () (fun g5 a7=>(Rs.bind (Rs.bind (Rs.ok a_1) fun x9=>(Rs.bind (Rs.ok a7.2) fun x10=>(Rs.ok (decide (x9 ∈ x10))))) fun x11=>(if x11 = true then (Rs.bind (Rs.bind (Rs.ok a7.1) fun x14=>(Rs.bind (Rs.bind (Rs.ok a7.2) fun x12=>(Rs.bind (Rs.ok a_1) fun x13=>(BC x12 x13))) fun x15=>(Rs.ok (x14, x15)))) fun x17=>(Rs.ok (Ctl.ret x17))) else (Rs.bind (Rs.ok ()) fun x16=>(Rs.ok (Ctl.nx x16))))))) (Jl fun g18=>Rs.bad)))
noncomputable def XS (a_0 : (List Int)) : Rs Int:=(Rs.bind (Rs.bind (Rs.ok a_0) fun x6=>(HS x6 (fun a4=>(Rs.bind (Rs.ok a4) fun x7=>(Rs.bind (Rs.ok (0 : Int)) fun x8=>(Rs.ok (decide (x7 < x8)))))) (fun a4=>(Rs.ok a4)))) fun a1=>(Rs.bind (Rs.bind (Rs.ok a1) fun x10=>(Rs.ok (x10.length : Int))) fun x11=>(Rs.bind (Rs.ok (1 : Int)) fun x12=>(Rs.ok (max x11 x12)))))
noncomputable def YG (a_0 : (List Int)) (a_1 : Int) : Rs (List Int):=(Rs.bind (Rs.bind (Rs.ok a_0) fun x4=>(noE (XS x4))) fun a1=>(Rs.bind (Rs.ok (0 : Int)) fun a5=>(Rs.bind (Rs.bind (Rs.bind (Rs.ok a_1) fun x11=>(Rs.bind (Rs.ok []) fun x12=>(Rs.ok (x11 :: x12)))) fun x10=>(chk (x10.length <= sizeLine) (Rs.ok x10))) fun a7=>(Rs.bind (Rs.bind (Rs.ok a_0) fun x15=>(Rs.bind (Rs.ok none) fun x16=>(Rs.bind (Rs.bind (Rs.bind (Rs.ok (1 : Int)) fun x13=>(Rs.ok (-x13))) fun x14=>(Rs.ok (some x14))) fun x17=>(Rs.ok (Fw x15 x16 x17))))) fun x43=>(Rs.bind (forN x43 (a5, a7) (fun g20 a22=>(Rs.bind (Rs.bind (Rs.bind (Rs.ok a22) fun x24=>(Rs.bind (Rs.ok (0 : Int)) fun x25=>(Rs.ok (decide (x24 < x25))))) fun x26=>(if x26 = true then (Rs.bind (Rs.ok (1 : Int)) fun x29=>((fun (a31 : Int)=>(Rs.ok (a31))) (g20.1 + x29))) else (Rs.ok (g20.1)))) fun g33=>(Rs.bind (Rs.bind (Rs.ok a_1) fun x36=>(Rs.bind (Rs.bind (Rs.ok g33) fun x34=>(Rs.bind (Rs.ok a1) fun x35=>(QL x34 x35))) fun x37=>(Rs.ok (x36 + x37)))) fun a38=>(chk (g20.2.length < sizeLine) ((fun a40=>(Rs.ok (g33, a40))) (g20.2 ++ [a38]))))))) fun g41=>(Rs.ok g41.2))))))
noncomputable def V5 (a_0 : ((List (List Int)) × (List (Int × Int)))) : Rs (List (List Int)):=(Rs.bind (Rs.ok []) fun a1=>(Rs.bind (Rs.ok (0 : Int)) fun a4=>(Rs.bind (Rs.bind (Rs.ok a_0) fun x6=>(Rs.ok x6.1)) fun x26=>(Rs.bind (forN x26 (a4, a1) (fun g9 a11=>(Rs.bind (Rs.bind (Rs.ok a11) fun x14=>(Rs.bind (Rs.ok g9.1) fun x15=>(noE (YG x14 x15)))) fun a16=>(chk (g9.2.length < sizeLine) ((fun a18=>(Rs.bind (Rs.bind (Rs.ok a11) fun x20=>(noE (XS x20))) fun x21=>((fun (a23 : Int)=>(Rs.ok (a23, a18))) (g9.1 + x21)))) (g9.2 ++ [a16])))))) fun g24=>(Rs.ok g24.2)))))
noncomputable def Zk (a_0 : ((List (List Int)) × (List (Int × Int)))) : Rs Int:=(Rs.bind (Rs.bind (Rs.bind (Rs.ok a_0) fun x2=>(Rs.ok x2.1)) fun x6=>(KM x6 (fun a4=>(Rs.bind (Rs.ok a4) fun x8=>(noE (XS x8)))))) fun x9=>(Rs.ok (x9.sum)))
noncomputable def QC (a_0 : ((List (List Int)) × (List (Int × Int)))) : Rs (List (Int × Int × Int × Int × Int)):=(Rs.bind (Rs.bind (Rs.ok a_0) fun x4=>(noE (V5 x4))) fun a1=>(Rs.bind (Rs.ok []) fun a5=>(Rs.bind (Rs.bind (Rs.ok a_0) fun x8=>(Rs.ok x8.2)) fun x64=>(Rs.bind (forN x64 (a5) (fun g11 a13=>(Rs.bind (Rs.bind (Rs.ok a_0) fun x18=>(Rs.bind (Rs.ok a13.1) fun x19=>(noE (VX x18 x19)))) fun a15=>(Rs.bind (Rs.bind (Rs.ok a_0) fun x24=>(Rs.bind (Rs.bind (Rs.ok a13.1) fun x23=>(Rs.ok (-x23))) fun x25=>(noE (VX x24 x25)))) fun a20=>(Rs.bind (Rs.bind (Rs.bind (Rs.ok a1) fun x29=>(Rs.bind (Rs.bind (Rs.ok a15) fun x28=>(Rs.ok x28.1)) fun x30=>(atR x29 x30))) fun x32=>(Rs.bind (Rs.bind (Rs.ok a15) fun x31=>(Rs.ok x31.2)) fun x33=>(atR x32 x33))) fun a26=>(Rs.bind (Rs.bind (Rs.ok a1) fun x37=>(Rs.bind (Rs.bind (Rs.ok a20) fun x36=>(Rs.ok x36.1)) fun x38=>(atR x37 x38))) fun a34=>(Rs.bind (Rs.bind (Rs.ok a34) fun x42=>(Rs.bind (Rs.bind (Rs.ok a20) fun x41=>(Rs.ok x41.2)) fun x43=>(atR x42 x43))) fun a39=>(Rs.bind (Rs.bind (Rs.ok a34) fun x52=>(Rs.bind (Rs.bind (Rs.bind (Rs.bind (Rs.ok a20) fun x46=>(Rs.ok x46.2)) fun x47=>(Rs.bind (Rs.ok (1 : Int)) fun x48=>(Rs.ok (x47 + x48)))) fun x50=>(Rs.bind (Rs.bind (Rs.ok a34) fun x49=>(Rs.ok (x49.length : Int))) fun x51=>(QL x50 x51))) fun x53=>(atR x52 x53))) fun a44=>(Rs.bind (Rs.bind (Rs.ok a13.1) fun x54=>(Rs.bind (Rs.ok a13.2) fun x55=>(Rs.bind (Rs.ok a26) fun x56=>(Rs.bind (Rs.ok a39) fun x57=>(Rs.bind (Rs.ok a44) fun x58=>(Rs.ok (x54, x55, x56, x57, x58))))))) fun a59=>(chk (g11.length < sizeLine) ((fun a61=>(Rs.ok (a61))) (g11 ++ [a59])))))))))))) fun g62=>(Rs.ok g62)))))
noncomputable def V2 (a_0 : ((List (List Int)) × (List (Int × Int)))) : Rs (List (Int × Int × Int)):=(Rs.bind (Rs.ok []) fun a1=>(Rs.bind (Rs.bind (Rs.ok a_0) fun x5=>(noE (QC x5))) fun x26=>(Rs.bind (forN x26 (a1) (fun g8 a10=>(Rs.bind (Rs.bind (Rs.bind (Rs.ok a10.2.1) fun x12=>(Rs.bind (Rs.ok (1 : Int)) fun x13=>(Rs.ok (decide (x12 = x13))))) fun x20=>(if x20 = true then (Rs.bind (Rs.ok a10.2.2.2.1) fun x14=>(Rs.bind (Rs.ok a10.2.2.1) fun x15=>(Rs.bind (Rs.ok a10.2.2.2.2) fun x16=>(Rs.ok (x14, x15, x16))))) else (Rs.bind (Rs.ok a10.2.2.2.2) fun x17=>(Rs.bind (Rs.ok a10.2.2.1) fun x18=>(Rs.bind (Rs.ok a10.2.2.2.1) fun x19=>(Rs.ok (x17, x18, x19))))))) fun a21=>(chk (g8.length < sizeLine) ((fun a23=>(Rs.ok (a23))) (g8 ++ [a21])))))) fun g24=>(Rs.ok g24))))
noncomputable def ZG (a_0 : (List (List Int))) (a_1 : (List Int)) (a_2 : (List (Int × Int × Int))) : Rs Bool:=(Rs.bind (Rs.bind (Rs.ok a_2) fun x5=>(KM x5 (fun a3=>(Rs.bind (Rs.bind (Rs.bind (Rs.ok a_0) fun x8=>(Rs.bind (Rs.bind (Rs.ok a_1) fun x6=>(Rs.bind (Rs.ok a3.1) fun x7=>(atR x6 x7))) fun x9=>(atR x8 x9))) fun x12=>(Rs.bind (Rs.bind (Rs.ok a_1) fun x10=>(Rs.bind (Rs.ok a3.2.1) fun x11=>(atR x10 x11))) fun x13=>(atR x12 x13))) fun x16=>(Rs.bind (Rs.bind (Rs.ok a_1) fun x14=>(Rs.bind (Rs.ok a3.2.2) fun x15=>(atR x14 x15))) fun x17=>(Rs.ok (decide (x16 = x17)))))))) fun x18=>(Rs.ok (x18.all id)))
noncomputable def Yc (a_0 : Int) (a_1 : Int) : Rs Unit:=(Rs.bind (Rs.ok (1 : Int)) fun a5=>(Rs.bind (Rs.bind (Rs.ok a_1) fun x7=>(JL 0 x7)) fun x22=>(Rs.bind (forN x22 (a5) (fun g10 a12=>(Rs.bind (Rs.ok a_0) fun x14=>(Rs.bind (QT g10 x14) fun a16=>(Rs.ok (a16)))))) fun g17=>(Rs.bind (Rs.bind (Rs.ok g17) fun x19=>(Rs.bind (Rs.ok (65536 : Int)) fun x20=>(Rs.ok (decide (x20 < x19))))) fun x21=>(if x21 = true then Rs.bad else (Rs.ok ()))))))
noncomputable def Yu (a_0 : (List (List Int))) (a_1 : (List (List Int))) (a_2 : (List (Int × Int × Int))) : Rs (List (List Int)):=(Rs.bind (Rs.ok []) fun a1=>(Rs.bind (Rs.ok a_0) fun x43=>(Rs.bind (forN x43 (a1) (fun g6 a8=>(Rs.bind (Rs.bind (Rs.bind (Rs.ok a_1) fun x10=>(Rs.ok (x10.length : Int))) fun x11=>(JL 0 x11)) fun x40=>(Rs.bind (forN x40 (g6) (fun g14 a16=>(Rs.bind (Rs.bind (Rs.ok a8) fun x21=>(Rs.bind (Rs.bind (Rs.bind (Rs.ok a16) fun x24=>(Rs.bind (Rs.ok []) fun x25=>(Rs.ok (x24 :: x25)))) fun x23=>(chk (x23.length <= sizeLine) (Rs.ok x23))) fun x22=>(HH x21 x22))) fun a18=>(Rs.bind (Rs.bind (Rs.bind (Rs.ok a_1) fun x27=>(Rs.bind (Rs.ok a18) fun x28=>(Rs.bind (Rs.ok a_2) fun x29=>(noE (ZG x27 x28 x29))))) fun x30=>(if x30 = true then (Rs.bind (Rs.ok a18) fun a33=>(chk (g14.length < sizeLine) ((fun a35=>(Rs.ok (a35))) (g14 ++ [a33])))) else (Rs.ok (g14)))) fun g37=>(Rs.ok (g37)))))) fun g38=>(Rs.ok (g38)))))) fun g41=>(Rs.ok g41))))
noncomputable def Yy (a_0 : ((List (List Int)) × (List (Int × Int)))) (a_1 : (List (List Int))) : Rs (List (List Int)):=(Rs.bind (Rs.bind (Rs.ok a_0) fun x4=>(noE (Zk x4))) fun a1=>(Rs.bind (Rs.bind (Rs.bind (Rs.ok a_1) fun x6=>(Rs.ok (x6.length : Int))) fun x7=>(Rs.bind (Rs.ok a1) fun x8=>(noE (Yc x7 x8)))) fun x9=>(Rs.bind (Rs.bind (Rs.ok a_0) fun x13=>(noE (V2 x13))) fun a10=>(Rs.bind (Rs.bind (Rs.bind (Rs.ok []) fun x18=>(Rs.bind (Rs.ok []) fun x19=>(Rs.ok (x18 :: x19)))) fun x17=>(chk (x17.length <= sizeLine) (Rs.ok x17))) fun a14=>(Rs.bind (Rs.bind (Rs.ok a1) fun x20=>(JL 0 x20)) fun x43=>(Rs.bind (forN x43 (a14) (fun g23 a25=>(Rs.bind (Rs.bind (Rs.ok g23) fun x38=>(Rs.bind (Rs.ok a_1) fun x39=>(Rs.bind (Rs.bind (Rs.ok a10) fun x34=>(HS x34 (fun a32=>(Rs.bind (Rs.bind (Rs.bind (Rs.ok a32) fun x35=>(Rs.ok [x35.1, x35.2.1, x35.2.2])) LH) fun x36=>(Rs.bind (Rs.ok a25) fun x37=>(Rs.ok (decide (x36 = x37)))))) (fun a32=>(Rs.ok a32)))) fun x40=>(noE (Yu x38 x39 x40))))) fun a27=>(Rs.ok (a27))))) fun g41=>(Rs.ok g41)))))))
noncomputable def Ks (a_0 : ((List (List Int)) × (List (Int × Int)))) (a_1 : (List (List Int))) : Rs Int:=(Rs.bind (Rs.bind (Rs.ok a_0) fun x3=>(Rs.bind (Rs.ok a_1) fun x4=>(noE (Yy x3 x4)))) fun x5=>(Rs.ok (x5.length : Int)))
noncomputable def Vm (a_0 : (List Int)) (a_1 : Int) : Rs Int:=(Rs.bind (Rs.bind (Rs.ok a_1) fun x2=>(Rs.bind (Rs.bind (Rs.ok a_0) fun x1=>(Rs.ok (x1.length : Int))) fun x3=>(Rs.ok (decide (x2 < x3))))) fun x4=>(if x4 = true then (Rs.bind (Rs.ok a_0) fun x5=>(Rs.bind (Rs.ok a_1) fun x6=>(atR x5 x6))) else (Rs.bind (Rs.ok (5 : Int)) fun a7=>(Rs.bind (Rs.bind (Rs.ok a_0) fun x10=>(Rs.bind (Rs.ok none) fun x11=>(Rs.bind (Rs.bind (Rs.ok (63 : Int)) fun x9=>(Rs.ok (some x9))) fun x12=>(Rs.ok (Fw x10 x11 x12))))) fun x39=>(Rs.bind (forN x39 (a7) (fun g15 a17=>(Rs.bind (Rs.bind (Rs.bind (Rs.bind (Rs.bind (Rs.ok g15) fun x21=>(Rs.bind (Rs.ok (48271 : Int)) fun x22=>(QT x21 x22))) fun x25=>(Rs.bind (Rs.bind (Rs.ok a17) fun x23=>(Rs.bind (Rs.ok (1000003 : Int)) fun x24=>(QL x23 x24))) fun x26=>(Rs.ok (x25 + x26)))) fun x27=>(Rs.bind (Rs.ok (1 : Int)) fun x28=>(Rs.ok (x27 + x28)))) fun x29=>(Rs.bind (Rs.ok (2147483647 : Int)) fun x30=>(QL x29 x30))) fun a19=>(Rs.ok (a19))))) fun g31=>(Rs.bind (Rs.bind (Rs.ok g31) fun x35=>(Rs.bind (Rs.bind (Rs.ok (7919 : Int)) fun x33=>(Rs.bind (Rs.ok a_1) fun x34=>(QT x33 x34))) fun x36=>(Rs.ok (x35 + x36)))) fun x37=>(Rs.bind (Rs.ok (1000003 : Int)) fun x38=>(QL x37 x38))))))))
noncomputable def K0 (a_0 : Int) (a_1 : Int) : Rs Int:=(Rs.bind (Rs.bind (Rs.bind (Rs.bind (Rs.bind (Rs.bind (Rs.ok a_0) fun x3=>(Rs.bind (Rs.ok (2147483629 : Int)) fun x4=>(QL x3 x4))) fun x7=>(Rs.bind (Rs.bind (Rs.ok (1013 : Int)) fun x5=>(Rs.bind (Rs.ok a_1) fun x6=>(QT x5 x6))) fun x8=>(Rs.ok (x7 + x8)))) fun x9=>(Rs.bind (Rs.ok (7919 : Int)) fun x10=>(Rs.ok (x9 + x10)))) fun x11=>(Rs.bind (Rs.ok (3 : Int)) fun x12=>(IT x11 x12))) fun x13=>(Rs.bind (Rs.ok (2147483647 : Int)) fun x14=>(QL x13 x14))) fun a1=>(Rs.bind (Rs.bind (Rs.bind (Rs.bind (Rs.bind (Rs.ok a1) fun x17=>(Rs.bind (Rs.ok (40699 : Int)) fun x18=>(QT x17 x18))) fun x23=>(Rs.bind (Rs.bind (Rs.bind (Rs.ok (3793 : Int)) fun x19=>(Rs.bind (Rs.ok a_1) fun x20=>(QT x19 x20))) fun x21=>(Rs.bind (Rs.ok a_1) fun x22=>(QT x21 x22))) fun x24=>(Rs.ok (x23 + x24)))) fun x25=>(Rs.bind (Rs.ok (11 : Int)) fun x26=>(Rs.ok (x25 + x26)))) fun x27=>(Rs.bind (Rs.ok (2147483399 : Int)) fun x28=>(QL x27 x28))) fun a15=>(Rs.bind (Rs.ok a15) fun x29=>(Rs.bind (Rs.ok (101 : Int)) fun x30=>(HQ x29 x30)))))
noncomputable def V1 (a_0 : (List Int)) (a_1 : Int) (a_2 : (List Int)) : Rs (List Int):=(Rs.bind (Rs.bind (Rs.ok a_0) fun x4=>(Rs.bind (Rs.ok a_1) fun x5=>(noE (Vm x4 x5)))) fun a1=>(Rs.bind (Rs.ok a1) fun a6=>(Rs.bind (Rs.ok []) fun a8=>(Rs.bind (Rs.bind (Rs.bind (Rs.ok a_2) fun x11=>(Rs.ok (x11.length : Int))) fun x12=>(JL 0 x12)) fun x81=>(Rs.bind (forN x81 (a8, a6) (fun g15 a17=>(Rs.bind (Rs.bind (Rs.bind (Rs.ok a1) fun x21=>(Rs.bind (Rs.bind (Rs.ok (10 : Int)) fun x19=>(Rs.bind (Rs.ok (18 : Int)) fun x20=>(IT x19 x20))) fun x22=>(Rs.ok (decide (x21 < x22))))) fun x23=>(if x23 = true then (Rs.bind (Rs.bind (Rs.bind (Rs.ok a1) fun x27=>(Rs.bind (Rs.ok a17) fun x28=>(noE (K0 x27 x28)))) fun x31=>(Rs.bind (Rs.bind (Rs.ok a_2) fun x29=>(Rs.bind (Rs.ok a17) fun x30=>(atR x29 x30))) fun x32=>(QL x31 x32))) fun a33=>(chk (g15.1.length < sizeLine) ((fun a35=>(Rs.ok (a35, g15.2))) (g15.1 ++ [a33])))) else (Rs.bind (Rs.bind (Rs.bind (Rs.ok g15.2) fun x36=>(Rs.bind (Rs.ok (0 : Int)) fun x37=>(Rs.ok (decide (x37 < x36))))) fun x38=>(if x38 = true then (Rs.bind (Rs.bind (Rs.ok g15.2) fun x43=>(Rs.bind (Rs.bind (Rs.ok a_2) fun x41=>(Rs.bind (Rs.ok a17) fun x42=>(atR x41 x42))) fun x44=>(QL x43 x44))) fun a45=>(chk (g15.1.length < sizeLine) ((fun a47=>(Rs.bind (Rs.bind (Rs.ok g15.2) fun x52=>(Rs.bind (Rs.bind (Rs.ok a_2) fun x50=>(Rs.bind (Rs.ok a17) fun x51=>(atR x50 x51))) fun x53=>(HQ x52 x53))) fun a48=>(Rs.ok (a48, a47)))) (g15.1 ++ [a45])))) else (Rs.bind (Rs.bind (Rs.ok a_0) fun x63=>(Rs.bind (Rs.bind (Rs.bind (Rs.bind (Rs.ok a_1) fun x57=>(Rs.bind (Rs.ok (1 : Int)) fun x58=>(Rs.ok (x57 + x58)))) fun x59=>(Rs.bind (Rs.ok a17) fun x60=>(Rs.ok (x59 + x60)))) fun x61=>(Rs.bind (Rs.ok (63 : Int)) fun x62=>(QL x61 x62))) fun x64=>(noE (Vm x63 x64)))) fun a54=>(Rs.bind (Rs.bind (Rs.bind (Rs.ok a54) fun x66=>(Rs.bind (Rs.ok a17) fun x67=>(noE (K0 x66 x67)))) fun x70=>(Rs.bind (Rs.bind (Rs.ok a_2) fun x68=>(Rs.bind (Rs.ok a17) fun x69=>(atR x68 x69))) fun x71=>(QL x70 x71))) fun a72=>(chk (g15.1.length < sizeLine) ((fun a74=>(Rs.ok (g15.2, a74))) (g15.1 ++ [a72]))))))) fun g76=>(Rs.ok (g76.2, g76.1))))) fun g78=>(Rs.ok (g78.1, g78.2))))) fun g79=>(Rs.ok g79.1))))))
noncomputable def JH (a_0 : (List Int)) (a_1 : (List Int)) : Rs (List Int):=(Rs.bind (Rs.bind (Rs.ok a_0) fun x4=>(Rs.ok x4)) fun a1=>(Rs.bind (Rs.ok []) fun a5=>(Rs.bind (Rs.bind (Rs.bind (Rs.ok a_0) fun x8=>(Rs.ok (x8.length : Int))) fun x9=>(JL 0 x9)) fun x34=>(Rs.bind (forN x34 (a5, a1) (fun g12 a14=>(Rs.bind (Rs.bind (Rs.bind (Rs.ok a_1) fun x20=>(Rs.bind (Rs.bind (Rs.bind (Rs.ok (8 : Int)) fun x16=>(Rs.bind (Rs.ok a14) fun x17=>(QT x16 x17))) fun x18=>(Rs.bind (Rs.ok (9 : Int)) fun x19=>(Rs.ok (x18 + x19)))) fun x21=>(atR x20 x21))) fun x23=>(Rs.bind (Rs.bind (Rs.ok g12.2) fun x22=>(Rs.ok (x22.length : Int))) fun x24=>(QL x23 x24))) fun x30=>(Rs.bind (FU g12.2 x30) fun p31=>(chk (g12.1.length < sizeLine) ((fun a26 a27=>(Rs.ok (a27, a26))) p31.2 (g12.1 ++ [p31.1]))))))) fun g32=>(Rs.ok g32.1)))))
noncomputable def Fo (a_0 : (List Int)) (a_1 : (List Int)) (a_2 : Int) : Rs (List (List Int)):=(Rs.bind (Rs.ok []) fun a1=>(Rs.bind (Rs.ok a_0) fun x70=>(Rs.bind (forN x70 (a1) (fun g6 a8=>(Rs.bind (Rs.bind (Rs.bind (Rs.ok a8) fun x14=>(Rs.bind (Rs.bind (Rs.bind (Rs.ok a8) fun x11=>(Rs.ok (-x11))) fun x12=>(Rs.bind (Rs.ok []) fun x13=>(Rs.ok (x12 :: x13)))) fun x15=>(Rs.ok (x14 :: x15)))) fun x10=>(chk (x10.length <= sizeLine) (Rs.ok x10))) fun a16=>(chk (g6.length + a16.length <= sizeLine) ((fun a18=>(Rs.ok (a18))) (g6 ++ a16)))))) fun g19=>(Rs.bind (Rs.bind (Rs.bind (Rs.ok a_2) fun x24=>(JL 0 x24)) fun x28=>(KM x28 (fun a26=>(Rs.ok [])))) fun a21=>(Rs.bind (Rs.bind (Rs.bind (Rs.ok (2 : Int)) fun x30=>(Rs.bind (Rs.bind (Rs.ok a_0) fun x29=>(Rs.ok (x29.length : Int))) fun x31=>(QT x30 x31))) fun x32=>(JL 0 x32)) fun x69=>(Rs.bind (forN x69 (g19, a21) (fun g35 a37=>(Rs.bind (Rs.bind (Rs.bind (Rs.ok (4 : Int)) fun x41=>(Rs.bind (Rs.ok a37) fun x42=>(QT x41 x42))) fun x43=>(Rs.bind (Rs.ok (5 : Int)) fun x44=>(Rs.ok (x43 + x44)))) fun a39=>(Rs.bind (Rs.bind (Rs.bind (Rs.ok a_1) fun x45=>(Rs.bind (Rs.ok a39) fun x46=>(atR x45 x46))) fun x48=>(Rs.bind (Rs.bind (Rs.ok g35.1) fun x47=>(Rs.ok (x47.length : Int))) fun x49=>(QL x48 x49))) fun x54=>(Rs.bind (FU g35.1 x54) (fun p55=>(fun a50 a51=>(Rs.bind (Rs.bind (Rs.bind (Rs.ok a_1) fun x58=>(Rs.bind (Rs.bind (Rs.ok a39) fun x56=>(Rs.bind (Rs.ok (1 : Int)) fun x57=>(Rs.ok (x56 + x57)))) fun x59=>(atR x58 x59))) fun x60=>(Rs.bind (Rs.ok a_2) fun x61=>(QL x60 x61))) fun x63=>(Rs.bind (atR g35.2 x63) fun x64=>(Rs.bind (Rs.ok a50) fun x62=>(chk (x64.length < sizeLine) (Rs.bind (JT g35.2 x63 (x64 ++ [x62])) fun a65=>(Rs.ok (a51, a65)))))))) p55.1 p55.2)))))) fun g67=>(Rs.ok g67.2)))))))
noncomputable def Z4 (a_0 : (List Int)) (a_1 : (List (Int × Int))) (a_2 : (List Int)) (a_3 : Int) : Rs (List (List Int)):=(Rs.bind (Rs.bind (Rs.bind (Rs.bind (Rs.ok false) fun x7=>(Rs.bind (Rs.ok []) fun x8=>(Rs.ok (x7 :: x8)))) fun x6=>(chk (x6.length <= sizeLine) (Rs.ok x6))) fun x4=>(Rs.bind (Rs.ok a_3) fun x5=>(KP x4 x5))) fun a1=>(Rs.bind (Rs.ok []) fun a9=>(Rs.bind (Rs.bind (Rs.ok a_3) fun x12=>(JL 0 x12)) fun x118=>(Rs.bind (forN x118 (a1, a9) (fun g15 a17=>(Rs.bind (Rs.bind (Rs.bind (Rs.bind (Rs.ok g15.1) fun x19=>(Rs.bind (Rs.ok a17) fun x20=>(atR x19 x20))) fun x21=>(Rs.ok (!x21))) fun x22=>(if x22 = true then (Rs.bind (Rs.ok []) fun a25=>(Rs.bind (Rs.ok a17) fun a28=>(Rs.bind (QV (a_3.natAbs + 2) (g15.1, a28, a25) (fun g32=>(Rs.bind (Rs.bind (Rs.ok g32.1) fun x34=>(Rs.bind (Rs.ok g32.2.1) fun x35=>(atR x34 x35))) fun x36=>(Rs.ok (!x36)))) (fun g32=>(Rs.bind (Rs.ok true) fun x37=>(Rs.bind (Rs.ok g32.2.1) fun x38=>(Rs.bind (JT g32.1 x38 x37) fun a39=>(Rs.bind (Rs.bind (Rs.bind (Rs.ok a_0) fun x41=>(Rs.ok (x41.length : Int))) fun x42=>(JL 0 x42)) fun x108=>(Rs.bind (forN x108 (g32.2.1, g32.2.2) (fun g45 a47=>(Rs.bind (Rs.bind (Rs.bind (Rs.ok a_2) fun x55=>(Rs.bind (Rs.bind (Rs.bind (Rs.ok (8 : Int)) fun x51=>(Rs.bind (Rs.ok a47) fun x52=>(QT x51 x52))) fun x53=>(Rs.bind (Rs.ok (10 : Int)) fun x54=>(Rs.ok (x53 + x54)))) fun x56=>(atR x55 x56))) fun x59=>(Rs.bind (Rs.bind (Rs.ok a_3) fun x57=>(Rs.bind (Rs.ok (1 : Int)) fun x58=>(Rs.ok (x57 - x58)))) fun x60=>(QL x59 x60))) fun a49=>(Rs.bind (Rs.bind (Rs.bind (Rs.ok g45.1) fun x61=>(Rs.bind (Rs.ok a49) fun x62=>(Rs.ok (decide (x61 = x62))))) fun x63=>(if x63 = true then (Rs.bind (Rs.bind (Rs.bind (Rs.ok a_0) fun x66=>(Rs.bind (Rs.ok a47) fun x67=>(atR x66 x67))) fun x72=>(Rs.bind (Rs.bind (Rs.ok a_1) fun x70=>(Rs.bind (Rs.bind (Rs.ok a_0) fun x68=>(Rs.bind (Rs.ok a47) fun x69=>(atR x68 x69))) fun x71=>(V0 x70 x71))) fun x73=>(QT x72 x73))) fun a74=>(chk (g45.2.length < sizeLine) ((fun a76=>(Rs.bind (Rs.bind (Rs.ok a49) fun x79=>(Rs.bind (Rs.ok (1 : Int)) fun x80=>(Rs.ok (x79 + x80)))) fun a77=>(Rs.ok (a77, a76)))) (g45.2 ++ [a74])))) else (Rs.bind (Rs.bind (Rs.bind (Rs.ok g45.1) fun x83=>(Rs.bind (Rs.bind (Rs.ok a49) fun x81=>(Rs.bind (Rs.ok (1 : Int)) fun x82=>(Rs.ok (x81 + x82)))) fun x84=>(Rs.ok (decide (x83 = x84))))) fun x85=>(if x85 = true then (Rs.bind (Rs.bind (Rs.bind (Rs.bind (Rs.ok a_0) fun x88=>(Rs.bind (Rs.ok a47) fun x89=>(atR x88 x89))) fun x90=>(Rs.ok (-x90))) fun x95=>(Rs.bind (Rs.bind (Rs.ok a_1) fun x93=>(Rs.bind (Rs.bind (Rs.ok a_0) fun x91=>(Rs.bind (Rs.ok a47) fun x92=>(atR x91 x92))) fun x94=>(V0 x93 x94))) fun x96=>(QT x95 x96))) fun a97=>(chk (g45.2.length < sizeLine) ((fun a99=>(Rs.bind (Rs.ok a49) fun a100=>(Rs.ok (a100, a99)))) (g45.2 ++ [a97])))) else (Rs.ok (g45.1, g45.2)))) fun g103=>(Rs.ok (g103.1, g103.2))))) fun g105=>(Rs.ok (g105.1, g105.2)))))) fun g106=>(Rs.ok (a39, g106.1, g106.2))))))))) fun g109=>(Rs.bind (Rs.ok g109.2.2) fun a111=>(chk (g15.2.length < sizeLine) ((fun a113=>(Rs.ok (g109.1, a113))) (g15.2 ++ [a111]))))))) else (Rs.ok (g15.1, g15.2)))) fun g115=>(Rs.ok (g115.1, g115.2))))) fun g116=>(Rs.ok g116.2)))))
noncomputable def QY (a_0 : (List Int)) (a_1 : Int) (a_2 : Int) : Rs ((List (List Int)) × (List (Int × Int))):=(Rs.bind (Rs.bind (Rs.bind (Rs.bind (Rs.ok a_2) fun x4=>(Rs.bind (Rs.ok (1 : Int)) fun x5=>(Rs.ok (x4 + x5)))) fun x14=>(Rs.bind (Rs.bind (Rs.ok (5 : Int)) fun x12=>(Rs.bind (Rs.bind (Rs.ok (4 : Int)) fun x10=>(Rs.bind (Rs.bind (Rs.ok (3 : Int)) fun x8=>(Rs.bind (Rs.bind (Rs.ok (3 : Int)) fun x6=>(Rs.bind (Rs.ok []) fun x7=>(Rs.ok (x6 :: x7)))) fun x9=>(Rs.ok (x8 :: x9)))) fun x11=>(Rs.ok (x10 :: x11)))) fun x13=>(Rs.ok (x12 :: x13)))) fun x15=>(Rs.ok (x14 :: x15)))) fun x3=>(chk (x3.length <= sizeLine) (Rs.ok x3))) fun a1=>(Rs.bind (Rs.bind (Rs.ok a_0) fun x34=>(Rs.bind (Rs.ok a_1) fun x35=>(Rs.bind (Rs.bind (Rs.ok a1) fun x19=>(Rs.bind (Rs.bind (Rs.bind (Rs.bind (Rs.ok (80 : Int)) fun x30=>(Rs.bind (Rs.bind (Rs.ok (5 : Int)) fun x28=>(Rs.bind (Rs.bind (Rs.ok (2 : Int)) fun x26=>(Rs.bind (Rs.bind (Rs.ok (3 : Int)) fun x24=>(Rs.bind (Rs.ok []) fun x25=>(Rs.ok (x24 :: x25)))) fun x27=>(Rs.ok (x26 :: x27)))) fun x29=>(Rs.ok (x28 :: x29)))) fun x31=>(Rs.ok (x30 :: x31)))) fun x23=>(chk (x23.length <= sizeLine) (Rs.ok x23))) fun x21=>(Rs.bind (Rs.bind (Rs.ok (2 : Int)) fun x32=>(Rs.bind (Rs.ok a_2) fun x33=>(QT x32 x33))) fun x22=>(KP x21 x22))) fun x20=>(HH x19 x20))) fun x36=>(noE (V1 x34 x35 x36))))) fun a16=>(Rs.bind (Rs.ok []) fun a37=>(Rs.bind (Rs.ok []) fun a40=>(Rs.bind (Rs.ok (0 : Int)) fun a43=>(Rs.bind (Rs.bind (Rs.bind (Rs.ok a16) fun x45=>(Rs.bind (Rs.ok (0 : Int)) fun x46=>(atR x45 x46))) fun x47=>(JL 0 x47)) fun x152=>(Rs.bind (forN x152 (a43, a40, a37) (fun g50 a52=>(Rs.bind (Rs.bind (Rs.bind (Rs.ok a16) fun x60=>(Rs.bind (Rs.bind (Rs.bind (Rs.ok (8 : Int)) fun x56=>(Rs.bind (Rs.ok a52) fun x57=>(QT x56 x57))) fun x58=>(Rs.bind (Rs.ok (8 : Int)) fun x59=>(Rs.ok (x58 + x59)))) fun x61=>(atR x60 x61))) fun x75=>(Rs.bind (Rs.bind (Rs.bind (Rs.bind (Rs.ok (0 : Int)) fun x69=>(Rs.bind (Rs.bind (Rs.ok (1 : Int)) fun x67=>(Rs.bind (Rs.bind (Rs.bind (Rs.ok (10 : Int)) fun x63=>(Rs.bind (Rs.ok (9 : Int)) fun x64=>(IT x63 x64))) fun x65=>(Rs.bind (Rs.ok []) fun x66=>(Rs.ok (x65 :: x66)))) fun x68=>(Rs.ok (x67 :: x68)))) fun x70=>(Rs.ok (x69 :: x70)))) fun x62=>(chk (x62.length <= sizeLine) (Rs.ok x62))) fun x73=>(Rs.bind (Rs.bind (Rs.ok a16) fun x71=>(Rs.bind (Rs.ok (3 : Int)) fun x72=>(atR x71 x72))) fun x74=>(atR x73 x74))) fun x76=>(QT x75 x76))) fun a54=>(Rs.bind (Rs.bind (Rs.bind (Rs.ok g50.1) fun x79=>(Rs.bind (Rs.ok (1 : Int)) fun x80=>(Rs.ok (x79 + x80)))) fun x81=>(Rs.bind (Rs.ok a54) fun x82=>(Rs.ok (x81 + x82)))) fun a77=>(Rs.bind (Rs.ok a77) fun a83=>(chk (g50.2.2.length < sizeLine) ((fun a85=>(Rs.bind (Rs.bind (Rs.bind (Rs.ok (2 : Int)) fun x92=>(Rs.bind (Rs.bind (Rs.ok a16) fun x90=>(Rs.bind (Rs.bind (Rs.bind (Rs.ok (8 : Int)) fun x86=>(Rs.bind (Rs.ok a52) fun x87=>(QT x86 x87))) fun x88=>(Rs.bind (Rs.ok (7 : Int)) fun x89=>(Rs.ok (x88 + x89)))) fun x91=>(atR x90 x91))) fun x93=>(QT x92 x93))) fun x94=>(Rs.bind (Rs.ok (1 : Int)) fun x95=>(Rs.ok (x94 - x95)))) fun x96=>(Rs.bind (Rs.ok a77) fun x97=>(chk (g50.2.1.length < sizeLine) ((fun a98=>(Rs.ok (a77, a98, a85))) (K1 g50.2.1 x97 x96)))))) (g50.2.2 ++ [a83])))))))) fun g100=>(Rs.bind (Rs.bind (Rs.bind (Rs.bind (Rs.ok a16) fun x102=>(Rs.bind (Rs.ok (2 : Int)) fun x103=>(atR x102 x103))) fun x104=>(Rs.bind (Rs.ok (2 : Int)) fun x105=>(Rs.ok (decide (x104 < x105))))) fun x106=>(if x106 = true then (Rs.bind (Rs.bind (Rs.bind (Rs.ok g100.2.2) fun x114=>(Rs.bind (Rs.ok a16) fun x115=>(noE (JH x114 x115)))) fun x120=>(Rs.bind (Rs.ok g100.2.1) fun x121=>(Rs.bind (Rs.ok a16) fun x122=>(Rs.bind (Rs.bind (Rs.ok (2 : Int)) fun x118=>(Rs.bind (Rs.bind (Rs.ok a16) fun x116=>(Rs.bind (Rs.ok (4 : Int)) fun x117=>(atR x116 x117))) fun x119=>(Rs.ok (x118 + x119)))) fun x123=>(noE (Z4 x120 x121 x122 x123)))))) fun a109=>(Rs.ok (a109))) else (Rs.bind (Rs.bind (Rs.bind (Rs.ok a16) fun x126=>(Rs.bind (Rs.ok (1 : Int)) fun x127=>(atR x126 x127))) fun x131=>(Rs.bind (Rs.bind (Rs.bind (Rs.ok g100.2.2) fun x128=>(Rs.ok (x128.length : Int))) fun x129=>(Rs.bind (Rs.ok (1 : Int)) fun x130=>(Rs.ok (min x129 x130)))) fun x132=>(Rs.ok (max x131 x132)))) fun a124=>(Rs.bind (Rs.bind (Rs.ok g100.2.2) fun x137=>(Rs.bind (Rs.ok a16) fun x138=>(Rs.bind (Rs.ok a124) fun x139=>(noE (Fo x137 x138 x139))))) fun a133=>(Rs.ok (a133)))))) fun g141=>(Rs.bind (Rs.ok g141) fun x150=>(Rs.bind (Rs.bind (Rs.ok g100.2.2) fun x145=>(KM x145 (fun a143=>(Rs.bind (Rs.ok a143) fun x148=>(Rs.bind (Rs.bind (Rs.ok g100.2.1) fun x146=>(Rs.bind (Rs.ok a143) fun x147=>(V0 x146 x147))) fun x149=>(Rs.ok (x148, x149))))))) fun x151=>(Rs.ok (x150, x151))))))))))))
noncomputable def Vn (a_0 : ((List (List Int)) × (List (Int × Int)))) : Rs ((List (List Int)) × (List (Int × Int))):=(Rs.bind (Rs.bind (Rs.bind (Rs.ok a_0) fun x1=>(Rs.ok x1.1)) fun x5=>(KM x5 (fun a3=>(Rs.bind (Rs.ok a3) fun x6=>(Rs.ok x6))))) fun x9=>(Rs.bind (Rs.bind (Rs.bind (Rs.ok a_0) fun x8=>(Rs.ok x8.2)) fun x7=>(Rs.ok x7)) fun x10=>(Rs.ok (x9, x10))))
noncomputable def Zo (a_0 : Int) : Rs Bool:=(Us (Rs.bind (Rs.ok a_0) fun x1=>(Rs.ok true)) (Rs.bind (Rs.bind (Rs.ok a_0) fun x2=>(Rs.ok false)) fun x3=>(Rs.ok (!x3))))
noncomputable def Zl (a_0 : (List Int)) : Rs Bool:=(Rs.bind (Rs.bind (Rs.bind (Rs.ok a_0) fun x1=>(Rs.ok true)) fun x2=>(Rs.ok (!x2))) fun x3=>(if x3 = true then (Rs.ok false) else (Rs.bind (Rs.ok a_0) fun x18=>(Rs.bind (forC x18 () (fun g6 a8=>(Rs.bind (Rs.bind (Rs.bind (Rs.ok a8) fun x11=>(noE (Zo x11))) fun x12=>(Rs.ok (!x12))) fun x13=>(if x13 = true then (Rs.bind (Rs.ok false) fun x15=>(Rs.ok (Ctl.ret x15))) else (Rs.bind (Rs.ok ()) fun x14=>(Rs.ok (Ctl.nx x14))))))) (Jl fun g16=>(Rs.ok true))))))
noncomputable def ZI (a_0 : Int) (a_1 : Int) (a_2 : Int) (a_3 : Int) (a_4 : Int) : Rs Int:=(Rs.bind (Rs.bind (Rs.ok a_1) fun x3=>(Rs.bind (Rs.ok (2 : Int)) fun x4=>(HQ x3 x4))) fun a1=>(Rs.bind (Rs.bind (Rs.ok a_0) fun x5=>(Rs.bind (Rs.ok (1 : Int)) fun x6=>(Rs.ok (decide (x5 = x6))))) fun x7=>(if x7 = true then (Rs.bind (Rs.bind (Rs.bind (Rs.ok (2 : Int)) fun x8=>(Rs.bind (Rs.ok a_4) fun x9=>(QT x8 x9))) fun x10=>(Rs.bind (Rs.ok a_3) fun x11=>(Rs.ok (x10 - x11)))) fun x12=>(Rs.bind (Rs.ok a_1) fun x13=>(QL x12 x13))) else (Rs.bind (Rs.bind (Rs.ok a_0) fun x14=>(Rs.bind (Rs.ok (2 : Int)) fun x15=>(Rs.ok (decide (x14 = x15))))) fun x16=>(if x16 = true then (Rs.bind (Rs.bind (Rs.bind (Rs.ok a_2) fun x17=>(Rs.bind (Rs.ok a_3) fun x18=>(QT x17 x18))) fun x23=>(Rs.bind (Rs.bind (Rs.bind (Rs.ok (1 : Int)) fun x19=>(Rs.bind (Rs.ok a_2) fun x20=>(Rs.ok (x19 - x20)))) fun x21=>(Rs.bind (Rs.ok a_4) fun x22=>(QT x21 x22))) fun x24=>(Rs.ok (x23 + x24)))) fun x25=>(Rs.bind (Rs.ok a_1) fun x26=>(QL x25 x26))) else (Rs.bind (Us (Rs.bind (Rs.ok a_0) fun x27=>(Rs.bind (Rs.ok (3 : Int)) fun x28=>(Rs.ok (decide (x27 = x28))))) (Us (Rs.bind (Rs.ok a_1) fun x29=>(Rs.bind (Rs.ok (2 : Int)) fun x30=>(Rs.ok (decide (x30 < x29))))) (Us (Rs.bind (Rs.ok a_3) fun x31=>(Rs.bind (Rs.ok (2 : Int)) fun x32=>(Rs.ok (decide (x31 < x32))))) (Rs.bind (Rs.ok a_4) fun x35=>(Rs.bind (Rs.bind (Rs.ok a_1) fun x33=>(Rs.bind (Rs.ok (1 : Int)) fun x34=>(Rs.ok (x33 - x34)))) fun x36=>(Rs.ok (decide (x35 = x36)))))))) fun x37=>(if x37 = true then (Rs.bind (Rs.ok (1 : Int)) fun x38=>(Rs.bind (Rs.ok a_3) fun x39=>(Rs.ok (x38 - x39)))) else (Rs.bind (Us (Rs.bind (Rs.ok a_0) fun x40=>(Rs.bind (Rs.ok (6 : Int)) fun x41=>(Rs.ok (decide (x40 = x41))))) (Us (Rs.bind (Rs.ok a_3) fun x44=>(Rs.bind (Rs.bind (Rs.ok a_1) fun x42=>(Rs.bind (Rs.ok (1 : Int)) fun x43=>(Rs.ok (x42 - x43)))) fun x45=>(Rs.ok (decide (x44 < x45))))) (Rs.bind (Rs.ok a_4) fun x48=>(Rs.bind (Rs.bind (Rs.ok a_1) fun x46=>(Rs.bind (Rs.ok (1 : Int)) fun x47=>(Rs.ok (x46 - x47)))) fun x49=>(Rs.ok (decide (x48 = x49))))))) fun x50=>(if x50 = true then (Rs.bind (Rs.bind (Rs.ok a_3) fun x51=>(Rs.bind (Rs.ok (1 : Int)) fun x52=>(Rs.ok (x51 + x52)))) fun x55=>(Rs.bind (Rs.bind (Rs.ok a_1) fun x53=>(Rs.bind (Rs.ok (1 : Int)) fun x54=>(Rs.ok (x53 - x54)))) fun x56=>(QL x55 x56))) else (Rs.bind (Us (Rs.bind (Rs.ok a_0) fun x57=>(Rs.bind (Rs.ok (4 : Int)) fun x58=>(Rs.ok (decide (x57 = x58))))) (Us (Rs.bind (Rs.ok a_3) fun x59=>(Rs.bind (Rs.ok a1) fun x60=>(Rs.ok (decide (x59 < x60))))) (Rs.bind (Rs.ok a_4) fun x61=>(Rs.bind (Rs.ok a1) fun x62=>(Rs.ok (decide (x61 < x62))))))) fun x63=>(if x63 = true then (Rs.bind (Rs.bind (Rs.bind (Rs.ok (2 : Int)) fun x64=>(Rs.bind (Rs.ok a_4) fun x65=>(QT x64 x65))) fun x66=>(Rs.bind (Rs.ok a_3) fun x67=>(Rs.ok (x66 - x67)))) fun x68=>(Rs.bind (Rs.ok a1) fun x69=>(QL x68 x69))) else (Rs.bind (Us (Rs.bind (Rs.ok a_0) fun x70=>(Rs.bind (Rs.ok (4 : Int)) fun x71=>(Rs.ok (decide (x70 = x71))))) (Us (Rs.bind (Rs.ok a_3) fun x72=>(Rs.bind (Rs.ok a1) fun x73=>(Rs.ok (decide (x73 <= x72))))) (Rs.bind (Rs.ok a_4) fun x74=>(Rs.bind (Rs.ok a1) fun x75=>(Rs.ok (decide (x75 <= x74))))))) fun x76=>(if x76 = true then (Rs.bind (Rs.ok a1) fun x87=>(Rs.bind (Rs.bind (Rs.bind (Rs.bind (Rs.bind (Rs.ok (2 : Int)) fun x77=>(Rs.bind (Rs.ok a_4) fun x78=>(QT x77 x78))) fun x79=>(Rs.bind (Rs.ok a_3) fun x80=>(Rs.ok (x79 - x80)))) fun x81=>(Rs.bind (Rs.ok a1) fun x82=>(Rs.ok (x81 - x82)))) fun x85=>(Rs.bind (Rs.bind (Rs.ok a_1) fun x83=>(Rs.bind (Rs.ok a1) fun x84=>(Rs.ok (x83 - x84)))) fun x86=>(QL x85 x86))) fun x88=>(Rs.ok (x87 + x88)))) else (Rs.ok a_3))))))))))))))
noncomputable def QF (a_0 : Int) (a_1 : Int) : Rs Int:=(Rs.bind (Rs.bind (Rs.ok a_0) fun x1=>(Rs.ok (x1.natAbs : Int))) fun a3=>(Rs.bind (Rs.bind (Rs.ok a_1) fun x2=>(Rs.ok (x2.natAbs : Int))) fun a4=>(Rs.bind (QV (a3.natAbs + a4.natAbs + 2) (a3, a4) (fun g9=>(Rs.bind (Rs.ok g9.2) fun x11=>(Rs.bind (Rs.ok (0 : Int)) fun x12=>(Rs.ok (decide (x12 < x11)))))) (fun g9=>(Rs.bind (Rs.ok g9.2) fun a15=>(Rs.bind (Rs.bind (Rs.ok g9.1) fun x13=>(Rs.bind (Rs.ok g9.2) fun x14=>(QL x13 x14))) fun a16=>(Rs.ok (a15, a16)))))) fun g19=>(Rs.ok g19.1))))
noncomputable def V7 (a_0 : Int) (a_1 : Int) (a_2 : Int) : Rs (List (List Int)):=(Rs.bind (Us (Rs.bind (Rs.ok a_0) fun x1=>(Rs.bind (Rs.ok (5 : Int)) fun x2=>(Rs.ok (decide (x1 = x2))))) (Rs.bind (Rs.ok a_1) fun x3=>(Rs.bind (Rs.ok (4 : Int)) fun x4=>(Rs.ok (decide (x3 = x4)))))) fun x5=>(if x5 = true then (Rs.bind (Rs.bind (Rs.bind (Rs.bind (Rs.ok (0 : Int)) fun x14=>(Rs.bind (Rs.bind (Rs.ok (3 : Int)) fun x12=>(Rs.bind (Rs.bind (Rs.ok (1 : Int)) fun x10=>(Rs.bind (Rs.bind (Rs.ok (2 : Int)) fun x8=>(Rs.bind (Rs.ok []) fun x9=>(Rs.ok (x8 :: x9)))) fun x11=>(Rs.ok (x10 :: x11)))) fun x13=>(Rs.ok (x12 :: x13)))) fun x15=>(Rs.ok (x14 :: x15)))) fun x7=>(chk (x7.length <= sizeLine) (Rs.ok x7))) fun x49=>(Rs.bind (Rs.bind (Rs.bind (Rs.bind (Rs.ok (2 : Int)) fun x23=>(Rs.bind (Rs.bind (Rs.ok (1 : Int)) fun x21=>(Rs.bind (Rs.bind (Rs.ok (3 : Int)) fun x19=>(Rs.bind (Rs.bind (Rs.ok (0 : Int)) fun x17=>(Rs.bind (Rs.ok []) fun x18=>(Rs.ok (x17 :: x18)))) fun x20=>(Rs.ok (x19 :: x20)))) fun x22=>(Rs.ok (x21 :: x22)))) fun x24=>(Rs.ok (x23 :: x24)))) fun x16=>(chk (x16.length <= sizeLine) (Rs.ok x16))) fun x47=>(Rs.bind (Rs.bind (Rs.bind (Rs.bind (Rs.ok (3 : Int)) fun x32=>(Rs.bind (Rs.bind (Rs.ok (0 : Int)) fun x30=>(Rs.bind (Rs.bind (Rs.ok (2 : Int)) fun x28=>(Rs.bind (Rs.bind (Rs.ok (1 : Int)) fun x26=>(Rs.bind (Rs.ok []) fun x27=>(Rs.ok (x26 :: x27)))) fun x29=>(Rs.ok (x28 :: x29)))) fun x31=>(Rs.ok (x30 :: x31)))) fun x33=>(Rs.ok (x32 :: x33)))) fun x25=>(chk (x25.length <= sizeLine) (Rs.ok x25))) fun x45=>(Rs.bind (Rs.bind (Rs.bind (Rs.bind (Rs.ok (1 : Int)) fun x41=>(Rs.bind (Rs.bind (Rs.ok (2 : Int)) fun x39=>(Rs.bind (Rs.bind (Rs.ok (0 : Int)) fun x37=>(Rs.bind (Rs.bind (Rs.ok (3 : Int)) fun x35=>(Rs.bind (Rs.ok []) fun x36=>(Rs.ok (x35 :: x36)))) fun x38=>(Rs.ok (x37 :: x38)))) fun x40=>(Rs.ok (x39 :: x40)))) fun x42=>(Rs.ok (x41 :: x42)))) fun x34=>(chk (x34.length <= sizeLine) (Rs.ok x34))) fun x43=>(Rs.bind (Rs.ok []) fun x44=>(Rs.ok (x43 :: x44)))) fun x46=>(Rs.ok (x45 :: x46)))) fun x48=>(Rs.ok (x47 :: x48)))) fun x50=>(Rs.ok (x49 :: x50)))) fun x6=>(chk (x6.length <= sizeLine) (Rs.ok x6))) else (Rs.bind (QV (a_1.natAbs + 2) (a_2) (fun g53=>(Rs.bind (Rs.bind (Rs.ok g53) fun x56=>(Rs.bind (Rs.ok a_1) fun x57=>(noE (QF x56 x57)))) fun x58=>(Rs.bind (Rs.ok (1 : Int)) fun x59=>(Rs.ok (!(decide (x58 = x59))))))) (fun g53=>(Rs.bind (Rs.bind (Rs.ok g53) fun x62=>(Rs.bind (Rs.ok (1 : Int)) fun x63=>(Rs.ok (x62 + x63)))) fun a60=>(Rs.ok (a60))))) fun g64=>(Rs.bind (Rs.ok []) fun a66=>(Rs.bind (Rs.bind (Rs.ok a_1) fun x69=>(JL 0 x69)) fun x92=>(Rs.bind (forN x92 (a66) (fun g72 a74=>(Rs.bind (Rs.bind (Rs.bind (Rs.ok a_1) fun x76=>(JL 0 x76)) fun x80=>(KM x80 (fun a78=>(Rs.bind (Rs.ok a_0) fun x82=>(Rs.bind (Rs.ok a_1) fun x83=>(Rs.bind (Rs.ok g64) fun x84=>(Rs.bind (Rs.ok a74) fun x85=>(Rs.bind (Rs.ok a78) fun x86=>(noE (ZI x82 x83 x84 x85 x86)))))))))) fun a87=>(chk (g72.length < sizeLine) ((fun a89=>(Rs.ok (a89))) (g72 ++ [a87])))))) fun g90=>(Rs.ok g90)))))))
noncomputable def Z3 (a_0 : (List Int)) (a_1 : Int) : Rs (List Int):=(Rs.bind (Rs.bind (Rs.ok a_1) fun x4=>(chk (0 <= x4 /\ x4 <= 1000) (Rs.ok (Qt 0 x4)))) fun a1=>(Rs.bind (Rs.ok []) fun a5=>(Rs.bind (Rs.bind (Rs.ok a_1) fun x8=>(JL 0 x8)) fun x29=>(Rs.bind (forN x29 (a5, a1) (fun g11 a13=>(Rs.bind (Rs.bind (Rs.bind (Rs.ok a_0) fun x15=>(Rs.bind (Rs.ok a13) fun x16=>(atR x15 x16))) fun x18=>(Rs.bind (Rs.bind (Rs.ok g11.2) fun x17=>(Rs.ok (x17.length : Int))) fun x19=>(QL x18 x19))) fun x25=>(Rs.bind (FU g11.2 x25) fun p26=>(chk (g11.1.length < sizeLine) ((fun a21 a22=>(Rs.ok (a22, a21))) p26.2 (g11.1 ++ [p26.1]))))))) fun g27=>(Rs.ok g27.1)))))
noncomputable def QJ (a_0 : (List (List Int))) (a_1 : (List Int)) : Rs (List (List Int)):=(Rs.bind (Rs.bind (Rs.ok a_0) fun x7=>(KM x7 (fun a5=>(Rs.bind (Rs.ok a5) fun x8=>(Rs.ok x8))))) fun a1=>(Rs.bind (Rs.bind (Rs.bind (Rs.ok a_0) fun x9=>(Rs.ok (x9.length : Int))) fun x10=>(JL 0 x10)) fun x47=>(Rs.bind (forN x47 (a1) (fun g13 a15=>(Rs.bind (Rs.bind (Rs.bind (Rs.ok a_0) fun x17=>(Rs.ok (x17.length : Int))) fun x18=>(JL 0 x18)) fun x44=>(Rs.bind (forN x44 (g13) (fun g21 a23=>(Rs.bind (Rs.bind (Rs.ok a_1) fun x29=>(Rs.bind (Rs.bind (Rs.bind (Rs.ok a_0) fun x25=>(Rs.bind (Rs.ok a15) fun x26=>(atR x25 x26))) fun x27=>(Rs.bind (Rs.ok a23) fun x28=>(atR x27 x28))) fun x30=>(atR x29 x30))) fun x35=>(Rs.bind (Rs.bind (Rs.ok a_1) fun x31=>(Rs.bind (Rs.ok a15) fun x32=>(atR x31 x32))) fun x36=>(Rs.bind (atR g21 x36) fun x40=>(Rs.bind (Rs.bind (Rs.ok a_1) fun x33=>(Rs.bind (Rs.ok a23) fun x34=>(atR x33 x34))) fun x37=>(Rs.bind (JT x40 x37 x35) fun x41=>(Rs.bind (JT g21 x36 x41) fun a38=>(Rs.ok (a38)))))))))) fun g42=>(Rs.ok (g42)))))) fun g45=>(Rs.ok g45))))
noncomputable def Y9 (a_0 : (List Int)) (a_1 : Int) (a_2 : Int) : Rs (List (List Int)):=(Rs.bind (Rs.bind (Rs.ok a_0) fun x22=>(Rs.bind (Rs.ok a_1) fun x23=>(Rs.bind (Rs.bind (Rs.bind (Rs.bind (Rs.ok (7 : Int)) fun x15=>(Rs.bind (Rs.bind (Rs.ok (24 : Int)) fun x13=>(Rs.bind (Rs.bind (Rs.ok (6 : Int)) fun x11=>(Rs.bind (Rs.bind (Rs.ok (2 : Int)) fun x9=>(Rs.bind (Rs.bind (Rs.ok (6 : Int)) fun x7=>(Rs.bind (Rs.ok []) fun x8=>(Rs.ok (x7 :: x8)))) fun x10=>(Rs.ok (x9 :: x10)))) fun x12=>(Rs.ok (x11 :: x12)))) fun x14=>(Rs.ok (x13 :: x14)))) fun x16=>(Rs.ok (x15 :: x16)))) fun x6=>(chk (x6.length <= sizeLine) (Rs.ok x6))) fun x4=>(Rs.bind (Rs.bind (Rs.bind (Rs.bind (Rs.ok (24 : Int)) fun x20=>(Rs.bind (Rs.ok []) fun x21=>(Rs.ok (x20 :: x21)))) fun x19=>(chk (x19.length <= sizeLine) (Rs.ok x19))) fun x17=>(Rs.bind (Rs.ok (24 : Int)) fun x18=>(KP x17 x18))) fun x5=>(HH x4 x5))) fun x24=>(noE (V1 x22 x23 x24))))) fun a1=>(Rs.bind (Rs.bind (Rs.ok (1 : Int)) fun x31=>(Rs.bind (Rs.bind (Rs.bind (Rs.ok a1) fun x27=>(Rs.bind (Rs.ok (1 : Int)) fun x28=>(atR x27 x28))) fun x29=>(Rs.bind (Rs.ok a_2) fun x30=>(QL x29 x30))) fun x32=>(Rs.ok (x31 + x32)))) fun a25=>(Rs.bind (Rs.bind (Us (Rs.bind (Rs.ok a_2) fun x33=>(Rs.bind (Rs.ok (2 : Int)) fun x34=>(Rs.ok (decide (x34 < x33))))) (Rs.bind (Rs.bind (Rs.ok a1) fun x35=>(Rs.bind (Rs.ok (4 : Int)) fun x36=>(atR x35 x36))) fun x37=>(Rs.bind (Rs.ok (0 : Int)) fun x38=>(Rs.ok (decide (x38 < x37)))))) fun x39=>(if x39 = true then (Rs.bind (Rs.bind (Rs.ok (3 : Int)) fun x50=>(Rs.bind (Rs.bind (Rs.bind (Rs.ok a1) fun x44=>(Rs.bind (Rs.ok (1 : Int)) fun x45=>(atR x44 x45))) fun x48=>(Rs.bind (Rs.bind (Rs.ok a_2) fun x46=>(Rs.bind (Rs.ok (2 : Int)) fun x47=>(Rs.ok (x46 - x47)))) fun x49=>(QL x48 x49))) fun x51=>(Rs.ok (x50 + x51)))) fun a42=>(Rs.ok (a42))) else (Rs.ok (a25)))) fun g53=>(Rs.bind (Rs.bind (Rs.bind (Rs.ok a1) fun x58=>(Rs.bind (Rs.ok (0 : Int)) fun x59=>(atR x58 x59))) fun x64=>(Rs.bind (Rs.ok g53) fun x65=>(Rs.bind (Rs.bind (Rs.ok (2 : Int)) fun x62=>(Rs.bind (Rs.bind (Rs.ok a1) fun x60=>(Rs.bind (Rs.ok (2 : Int)) fun x61=>(atR x60 x61))) fun x63=>(Rs.ok (x62 + x63)))) fun x66=>(noE (V7 x64 x65 x66))))) fun a54=>(Rs.bind (Rs.bind (Rs.bind (Rs.ok a1) fun x67=>(Rs.bind (Rs.ok (3 : Int)) fun x68=>(atR x67 x68))) fun x69=>(Rs.bind (Rs.ok (0 : Int)) fun x70=>(Rs.ok (decide (x69 = x70))))) fun x71=>(if x71 = true then (Rs.ok a54) else (Rs.bind (Rs.ok a54) fun x80=>(Rs.bind (Rs.bind (Rs.bind (Rs.ok a1) fun x75=>(Rs.bind (Rs.bind (Rs.ok (5 : Int)) fun x74=>(Rs.ok (some x74))) fun x76=>(Rs.bind (Rs.ok none) fun x77=>(Rs.ok (Fw x75 x76 x77))))) fun x78=>(Rs.bind (Rs.ok g53) fun x79=>(noE (Z3 x78 x79)))) fun x81=>(noE (QJ x80 x81))))))))))
noncomputable def QD (a_0 : (List (List Int))) : Rs (List (List Int)):=(Rs.bind (Rs.ok []) fun a1=>(Rs.bind (Rs.ok (0 : Int)) fun a4=>(Rs.bind (Rs.ok a_0) fun x94=>(Rs.bind (forN x94 (a4, a1) (fun g8 a10=>(Rs.bind (Rs.ok g8.1) fun a12=>(Rs.bind (Rs.ok g8.1) fun a14=>(Rs.bind (Rs.bind (Rs.ok (1 : Int)) fun x18=>(Rs.ok (-x18))) fun a16=>(Rs.bind (Rs.bind (Rs.bind (Rs.ok a10) fun x19=>(Rs.ok (x19.length : Int))) fun x20=>(JL 0 x20)) fun x91=>(Rs.bind (forN x91 (a16) (fun g23 a25=>(Rs.bind (Rs.bind (Rs.bind (Rs.bind (Rs.ok a10) fun x27=>(Rs.bind (Rs.ok a25) fun x28=>(atR x27 x28))) fun x29=>(Rs.bind (Rs.ok (0 : Int)) fun x30=>(Rs.ok (decide (x29 < x30))))) fun x31=>(if x31 = true then (Rs.bind (Rs.ok a25) fun a34=>(Rs.ok (a34))) else (Rs.ok (g23)))) fun g37=>(Rs.ok (g37))))) fun g38=>(Rs.bind (Rs.bind (Rs.bind (Rs.bind (Rs.ok a12) fun x46=>(Rs.bind (Rs.ok []) fun x47=>(Rs.ok (x46 :: x47)))) fun x45=>(chk (x45.length <= sizeLine) (Rs.ok x45))) fun x43=>(Rs.bind (Rs.bind (Rs.bind (Rs.ok a10) fun x48=>(Rs.ok (x48.length : Int))) fun x49=>(Rs.bind (Rs.ok (1 : Int)) fun x50=>(Rs.ok (max x49 x50)))) fun x44=>(KP x43 x44))) fun a40=>(Rs.bind (Rs.bind (Rs.bind (Rs.ok g38) fun x51=>(Rs.bind (Rs.ok (1 : Int)) fun x52=>(Rs.ok (x51 + x52)))) fun x53=>(JL 0 x53)) fun x90=>(Rs.bind (forN x90 (a40, g8.1, a14) (fun g56 a58=>(Rs.bind (Rs.ok g56.2.2) fun x60=>(Rs.bind (Rs.ok a58) fun x61=>(Rs.bind (JT g56.1 x61 x60) fun a62=>(Rs.bind (Rs.bind (Us (Rs.bind (Rs.bind (Rs.ok a10) fun x64=>(Rs.bind (Rs.ok a58) fun x65=>(atR x64 x65))) fun x66=>(Rs.bind (Rs.ok (0 : Int)) fun x67=>(Rs.ok (decide (x66 < x67))))) (Rs.bind (Rs.ok a58) fun x68=>(Rs.bind (Rs.ok g38) fun x69=>(Rs.ok (decide (x68 < x69)))))) fun x70=>(if x70 = true then (Rs.bind (Rs.bind (Rs.ok g56.2.1) fun x75=>(Rs.bind (Rs.ok (1 : Int)) fun x76=>(Rs.ok (x75 + x76)))) fun a73=>(Rs.bind (Rs.ok a73) fun a77=>(Rs.ok (a73, a77)))) else (Rs.ok (g56.2.1, g56.2.2)))) fun g80=>(Rs.ok (a62, g80.1, g80.2)))))))) fun g81=>(Rs.bind (Rs.bind (Rs.ok g81.2.1) fun x85=>(Rs.bind (Rs.ok (1 : Int)) fun x86=>(Rs.ok (x85 + x86)))) fun a83=>(Rs.bind (Rs.ok g81.1) fun a87=>(chk (g8.2.length < sizeLine) ((fun a89=>(Rs.ok (a83, a89))) (g8.2 ++ [a87]))))))))))))))) fun g92=>(Rs.ok g92.2)))))
noncomputable def Qe (a_0 : (List (List Int))) (a_1 : Int) : Rs (Int × Int):=(Rs.bind (Rs.bind (Rs.bind (Rs.ok a_0) fun x1=>(Rs.ok (x1.length : Int))) fun x2=>(JL 0 x2)) fun x28=>(Rs.bind (forC x28 () (fun g5 a7=>(Rs.bind (Rs.bind (Rs.ok a_1) fun x11=>(Rs.bind (Rs.bind (Rs.ok a_0) fun x9=>(Rs.bind (Rs.ok a7) fun x10=>(atR x9 x10))) fun x12=>(Rs.ok (decide (x11 ∈ x12))))) fun x13=>(if x13 = true then (Rs.bind (Rs.bind (Rs.ok a7) fun x18=>(Rs.bind (Rs.bind (Rs.bind (Rs.ok a_0) fun x14=>(Rs.bind (Rs.ok a7) fun x15=>(atR x14 x15))) fun x16=>(Rs.bind (Rs.ok a_1) fun x17=>(BC x16 x17))) fun x19=>(Rs.ok (x18, x19)))) fun x21=>(Rs.ok (Ctl.ret x21))) else (Rs.bind (Rs.ok ()) fun x20=>(Rs.ok (Ctl.nx x20))))))) (Jl fun g22=>(Rs.bind (Rs.bind (Rs.ok (1 : Int)) fun x24=>(Rs.ok (-x24))) fun x26=>(Rs.bind (Rs.bind (Rs.ok (1 : Int)) fun x25=>(Rs.ok (-x25))) fun x27=>(Rs.ok (x26, x27)))))))
noncomputable def ZP (a_0 : ((List (List Int)) × (List (Int × Int)))) : Rs (List (Int × Int × Int × Int × Int)):=(Rs.bind (Rs.ok a_0) fun a1=>(Rs.bind (Rs.bind (Rs.ok a1.1) fun x7=>(noE (QD x7))) fun a4=>(Rs.bind (Rs.ok []) fun a8=>(Rs.bind (Rs.ok a1.2) fun x61=>(Rs.bind (forN x61 (a8) (fun g13 a15=>(Rs.bind (Rs.bind (Rs.ok a1.1) fun x18=>(Rs.bind (Rs.ok a15.1) fun x19=>(noE (Qe x18 x19)))) fun a20=>(Rs.bind (Rs.bind (Rs.ok a1.1) fun x25=>(Rs.bind (Rs.bind (Rs.ok a15.1) fun x24=>(Rs.ok (-x24))) fun x26=>(noE (Qe x25 x26)))) fun a27=>(Rs.bind (Rs.bind (Rs.bind (Rs.ok a27.2) fun x32=>(Rs.bind (Rs.ok (1 : Int)) fun x33=>(Rs.ok (x32 + x33)))) fun x37=>(Rs.bind (Rs.bind (Rs.bind (Rs.ok a1.1) fun x34=>(Rs.bind (Rs.ok a27.1) fun x35=>(atR x34 x35))) fun x36=>(Rs.ok (x36.length : Int))) fun x38=>(QL x37 x38))) fun a30=>(Rs.bind (Rs.bind (Rs.ok a15.1) fun x51=>(Rs.bind (Rs.ok a15.2) fun x52=>(Rs.bind (Rs.bind (Rs.bind (Rs.ok a4) fun x39=>(Rs.bind (Rs.ok a20.1) fun x40=>(atR x39 x40))) fun x41=>(Rs.bind (Rs.ok a20.2) fun x42=>(atR x41 x42))) fun x53=>(Rs.bind (Rs.bind (Rs.bind (Rs.ok a4) fun x43=>(Rs.bind (Rs.ok a27.1) fun x44=>(atR x43 x44))) fun x45=>(Rs.bind (Rs.ok a27.2) fun x46=>(atR x45 x46))) fun x54=>(Rs.bind (Rs.bind (Rs.bind (Rs.ok a4) fun x47=>(Rs.bind (Rs.ok a27.1) fun x48=>(atR x47 x48))) fun x49=>(Rs.bind (Rs.ok a30) fun x50=>(atR x49 x50))) fun x55=>(Rs.ok (x51, x52, x53, x54, x55))))))) fun a56=>(chk (g13.length < sizeLine) ((fun a58=>(Rs.ok (a58))) (g13 ++ [a56]))))))))) fun g59=>(Rs.ok g59))))))
noncomputable def Zy (a_0 : ((List (List Int)) × (List (Int × Int)))) : Rs Int:=(Rs.bind (Rs.bind (Rs.bind (Rs.ok a_0) fun x3=>(Rs.ok x3.2)) fun x4=>(Rs.ok (x4.length : Int))) fun a1=>(Rs.bind (Rs.bind (Rs.ok a_0) fun x5=>(Rs.ok x5.1)) fun x32=>(Rs.bind (forN x32 (a1) (fun g8 a10=>(Rs.bind (Rs.bind (Rs.bind (Rs.bind (Rs.bind (Rs.ok a10) fun x15=>(HS x15 (fun a13=>(Rs.bind (Rs.ok a13) fun x16=>(Rs.bind (Rs.ok (0 : Int)) fun x17=>(Rs.ok (decide (x16 < x17)))))) (fun a13=>(Rs.ok a13)))) fun x18=>(Rs.ok (x18.length : Int))) fun x19=>(Rs.bind (Rs.ok (0 : Int)) fun x20=>(Rs.ok (decide (x19 = x20))))) fun x21=>(if x21 = true then (Rs.bind (Rs.bind (Rs.ok g8) fun x26=>(Rs.bind (Rs.ok (1 : Int)) fun x27=>(Rs.ok (x26 + x27)))) fun a24=>(Rs.ok (a24))) else (Rs.ok (g8)))) fun g29=>(Rs.ok (g29))))) fun g30=>(Rs.ok g30))))
noncomputable def Jx (a_0 : (List (Int × Int × Int × Int × Int))) (a_1 : (List (List Int))) (a_2 : (List Int)) : Rs Bool:=(Rs.bind (Rs.ok a_0) fun x39=>(Rs.bind (forC x39 () (fun g3 a5=>(Rs.bind (Rs.bind (Rs.ok a_2) fun x7=>(Rs.bind (Rs.ok a5.2.2.2.1) fun x8=>(atR x7 x8))) fun a11=>(Rs.bind (Rs.bind (Rs.ok a_2) fun x9=>(Rs.bind (Rs.ok a5.2.2.2.2) fun x10=>(atR x9 x10))) fun a12=>(Rs.bind (Rs.bind (Rs.bind (Rs.ok a5.2.1) fun x15=>(Rs.bind (Rs.ok (0 : Int)) fun x16=>(Rs.ok (decide (x15 < x16))))) fun x17=>(if x17 = true then (Rs.bind (Rs.ok a12) fun a20=>(Rs.bind (Rs.ok a11) fun a21=>(Rs.ok (a20, a21)))) else (Rs.ok (a11, a12)))) fun g25=>(Rs.bind (Rs.bind (Rs.bind (Rs.bind (Rs.ok a_1) fun x26=>(Rs.bind (Rs.ok g25.1) fun x27=>(atR x26 x27))) fun x30=>(Rs.bind (Rs.bind (Rs.ok a_2) fun x28=>(Rs.bind (Rs.ok a5.2.2.1) fun x29=>(atR x28 x29))) fun x31=>(atR x30 x31))) fun x32=>(Rs.bind (Rs.ok g25.2) fun x33=>(Rs.ok (!(decide (x32 = x33)))))) fun x34=>(if x34 = true then (Rs.bind (Rs.ok false) fun x36=>(Rs.ok (Ctl.ret x36))) else (Rs.bind (Rs.ok ()) fun x35=>(Rs.ok (Ctl.nx x35)))))))))) (Jl fun g37=>(Rs.ok true))))
noncomputable def JC (a_0 : Int) (a_1 : Int) : Rs Int:=(Rs.bind (Rs.ok (1 : Int)) fun a1=>(Rs.bind (Rs.bind (Rs.ok a_1) fun x3=>(JL 0 x3)) fun x16=>(Rs.bind (forN x16 (a1) (fun g6 a8=>(Rs.bind (Rs.bind (Rs.ok g6) fun x12=>(Rs.bind (Rs.ok a_0) fun x13=>(QT x12 x13))) fun a10=>(Rs.ok (a10))))) fun g14=>(Rs.ok g14))))
noncomputable def JA (a_0 : ((List (List Int)) × (List (Int × Int)))) (a_1 : Int) : Rs Int:=(Rs.bind (Rs.bind (Rs.ok a_0) fun x4=>(noE (Zy x4))) fun a1=>(Rs.bind (Rs.ok (1 : Int)) fun a5=>(Rs.bind (QV (8) (a5) (fun g9=>(Us (Rs.bind (Rs.ok g9) fun x11=>(Rs.bind (Rs.ok (6 : Int)) fun x12=>(Rs.ok (decide (x11 < x12))))) (Rs.bind (Rs.bind (Rs.bind (Rs.ok g9) fun x14=>(Rs.bind (Rs.ok (1 : Int)) fun x15=>(Rs.ok (x14 + x15)))) fun x16=>(Rs.bind (Rs.ok a1) fun x17=>(noE (JC x16 x17)))) fun x18=>(Rs.bind (Rs.ok a_1) fun x19=>(Rs.ok (decide (x18 <= x19))))))) (fun g9=>(Rs.bind (Rs.bind (Rs.ok g9) fun x22=>(Rs.bind (Rs.ok (1 : Int)) fun x23=>(Rs.ok (x22 + x23)))) fun a20=>(Rs.ok (a20))))) fun g24=>(Rs.ok g24))))
noncomputable def Zm (a_0 : ((List (List Int)) × (List (Int × Int)))) (a_1 : (List (List Int))) (a_2 : (List (List Int))) : Rs Bool:=(Rs.bind (Rs.bind (Rs.ok a_0) fun x4=>(noE (ZP x4))) fun a1=>(Rs.bind (Rs.bind (Rs.ok a_0) fun x8=>(noE (Zy x8))) fun a5=>(Rs.bind (Rs.bind (Rs.bind (Rs.ok a_2) fun x9=>(Rs.ok (x9.length : Int))) fun x10=>(JL 0 x10)) fun x67=>(Rs.bind (forC x67 () (fun g13 a15=>(Rs.bind (Rs.bind (Rs.ok a_2) fun x19=>(Rs.bind (Rs.ok a15) fun x20=>(atR x19 x20))) fun a17=>(Rs.bind (orR (Rs.bind (Rs.bind (Rs.ok a17) fun x22=>(noE (Zl x22))) fun x23=>(Rs.ok (!x23))) (Rs.bind (Rs.bind (Rs.ok a17) fun x24=>(Rs.ok (x24.length : Int))) fun x25=>(Rs.bind (Rs.ok a5) fun x26=>(Rs.ok (!(decide (x25 = x26))))))) fun x27=>(if x27 = true then (Rs.bind (Rs.ok false) fun x64=>(Rs.ok (Ctl.ret x64))) else (Rs.bind (Rs.ok a17) fun x63=>(Rs.bind (forC x63 () (fun g30 a32=>(Rs.bind (orR (Rs.bind (Rs.ok a32) fun x34=>(Rs.bind (Rs.ok (0 : Int)) fun x35=>(Rs.ok (decide (x34 < x35))))) (Rs.bind (Rs.ok a32) fun x37=>(Rs.bind (Rs.bind (Rs.ok a_1) fun x36=>(Rs.ok (x36.length : Int))) fun x38=>(Rs.ok (decide (x38 <= x37)))))) fun x39=>(if x39 = true then (Rs.bind (Rs.ok false) fun x41=>(Rs.ok (Ctl.ret x41))) else (Rs.bind (Rs.ok ()) fun x40=>(Rs.ok (Ctl.nx x40))))))) (QR fun g42=>(Rs.bind (Rs.bind (Rs.bind (Rs.ok a1) fun x45=>(Rs.bind (Rs.ok a_1) fun x46=>(Rs.bind (Rs.ok a17) fun x47=>(noE (Jx x45 x46 x47))))) fun x48=>(Rs.ok (!x48))) fun x49=>(if x49 = true then (Rs.bind (Rs.ok false) fun x62=>(Rs.ok (Ctl.ret x62))) else (Rs.bind (Us (Rs.bind (Rs.ok a15) fun x50=>(Rs.bind (Rs.ok (0 : Int)) fun x51=>(Rs.ok (decide (x51 < x50))))) (Rs.bind (Rs.bind (Rs.bind (Rs.ok a_2) fun x54=>(Rs.bind (Rs.bind (Rs.ok a15) fun x52=>(Rs.bind (Rs.ok (1 : Int)) fun x53=>(Rs.ok (x52 - x53)))) fun x55=>(atR x54 x55))) fun x56=>(Rs.bind (Rs.ok a17) fun x57=>(Rs.ok (ltL x56 x57)))) fun x58=>(Rs.ok (!x58)))) fun x59=>(if x59 = true then (Rs.bind (Rs.ok false) fun x61=>(Rs.ok (Ctl.ret x61))) else (Rs.bind (Rs.ok ()) fun x60=>(Rs.ok (Ctl.nx x60))))))))))))))) (Jl fun g65=>(Rs.ok true))))))
noncomputable def QG (a_0 : (List (List Int))) (a_1 : (List (List Int))) (a_2 : Int) : Rs Bool:=(Rs.bind (Rs.ok []) fun a1=>(Rs.bind (Rs.ok a_1) fun x69=>(Rs.bind (forN x69 (a1) (fun g6 a8=>(Rs.bind (Rs.ok true) fun x11=>(Rs.bind (Rs.bind (Rs.ok a8) fun x10=>(Rs.ok x10)) fun x12=>(chk (g6.length < sizeLine) ((fun a13=>(Rs.ok (a13))) (KD g6 x12 x11))))))) fun g15=>(Rs.bind (Rs.bind (Rs.bind (Rs.ok a_1) fun x17=>(Rs.ok (x17.length : Int))) fun x18=>(JL 0 x18)) fun x68=>(Rs.bind (forC x68 () (fun g21 a23=>(Rs.bind (Rs.bind (orR (Rs.bind (Rs.ok a23) fun x25=>(Rs.bind (Rs.ok (40 : Int)) fun x26=>(Rs.ok (decide (x25 < x26))))) (Rs.bind (Rs.bind (Rs.ok a23) fun x27=>(Rs.bind (Rs.ok (7 : Int)) fun x28=>(QL x27 x28))) fun x29=>(Rs.bind (Rs.ok a_2) fun x30=>(Rs.ok (decide (x29 = x30)))))) fun x31=>(if x31 = true then (Rs.bind (Rs.bind (Rs.bind (Rs.ok a_0) fun x34=>(Rs.ok (x34.length : Int))) fun x35=>(JL 0 x35)) fun x61=>(Rs.bind (forC x61 () (fun g38 a40=>(Rs.bind (Rs.bind (Rs.bind (Rs.bind (Rs.bind (Rs.ok a_1) fun x42=>(Rs.bind (Rs.ok a23) fun x43=>(atR x42 x43))) fun x47=>(KM x47 (fun a45=>(Rs.bind (Rs.bind (Rs.ok a_0) fun x48=>(Rs.bind (Rs.ok a45) fun x49=>(atR x48 x49))) fun x50=>(Rs.bind (Rs.ok a40) fun x51=>(atR x50 x51)))))) fun x52=>(Rs.ok x52)) fun x53=>(Rs.bind (Rs.ok g15) fun x54=>(Rs.ok (!(Vq x54 x53).isSome)))) fun x55=>(if x55 = true then (Rs.bind (Rs.ok false) fun x57=>(Rs.ok (Ctl.ret x57))) else (Rs.bind (Rs.ok ()) fun x56=>(Rs.ok (Ctl.nx x56))))))) (QR fun g58=>(Rs.bind (Rs.ok ()) fun x60=>(Rs.ok (Ctl.nx x60)))))) else (Rs.bind (Rs.ok ()) fun x62=>(Rs.ok (Ctl.nx x62))))) (QR fun g64=>(Rs.bind (Rs.ok ()) fun x65=>(Rs.ok (Ctl.nx x65))))))) (Jl fun g66=>(Rs.ok true)))))))
noncomputable def Gg (a_0 : (List Int)) : Rs Bool:=(Rs.bind (Rs.bind (Rs.ok a_0) fun x4=>(Rs.bind (Rs.ok (0 : Int)) fun x5=>(Rs.bind (Rs.ok (8 : Int)) fun x6=>(noE (QY x4 x5 x6))))) fun a1=>(Rs.bind (Rs.bind (Rs.ok a_0) fun x13=>(Rs.bind (Rs.ok (1 : Int)) fun x14=>(Rs.bind (Rs.bind (Rs.ok a1) fun x11=>(Rs.bind (Rs.ok (7000 : Int)) fun x12=>(noE (JA x11 x12)))) fun x15=>(noE (Y9 x13 x14 x15))))) fun a7=>(Rs.bind (Rs.bind (Rs.bind (Rs.ok a1) fun x20=>(noE (Vn x20))) fun x26=>(Rs.bind (Rs.bind (Rs.ok a7) fun x24=>(KM x24 (fun a22=>(Rs.bind (Rs.ok a22) fun x25=>(Rs.ok x25))))) fun x27=>(noE (Yy x26 x27)))) fun a16=>(Rs.bind (orR (Rs.bind (Rs.bind (Rs.ok a16) fun x28=>(Rs.ok true)) fun x29=>(Rs.ok (!x29))) (Rs.bind (Rs.bind (Rs.ok a1) fun x31=>(Rs.bind (Rs.ok a7) fun x32=>(Rs.bind (Rs.ok a16) fun x33=>(noE (Zm x31 x32 x33))))) fun x34=>(Rs.ok (!x34)))) fun x35=>(if x35 = true then (Rs.ok false) else (Rs.bind (Rs.bind (Rs.bind (Rs.ok a1) fun x40=>(noE (Vn x40))) fun x46=>(Rs.bind (Rs.bind (Rs.ok a7) fun x44=>(KM x44 (fun a42=>(Rs.bind (Rs.ok a42) fun x45=>(Rs.ok x45))))) fun x47=>(noE (Ks x46 x47)))) fun a36=>(Rs.bind (orR (Rs.bind (Rs.bind (Rs.ok a36) fun x49=>(noE (Zo x49))) fun x50=>(Rs.ok (!x50))) (Rs.bind (Rs.ok a36) fun x52=>(Rs.bind (Rs.bind (Rs.ok a16) fun x51=>(Rs.ok (x51.length : Int))) fun x53=>(Rs.ok (!(decide (x52 = x53))))))) fun x54=>(if x54 = true then (Rs.ok false) else (Rs.bind (Rs.bind (Rs.bind (Rs.ok a7) fun x55=>(Rs.ok (x55.length : Int))) fun x56=>(JL 0 x56)) fun x90=>(Rs.bind (forC x90 () (fun g59 a61=>(Rs.bind (Rs.bind (Rs.bind (Rs.bind (Rs.bind (Rs.ok a61) fun x66=>(Rs.bind (Rs.ok []) fun x67=>(Rs.ok (x66 :: x67)))) fun x65=>(chk (x65.length <= sizeLine) (Rs.ok x65))) fun x63=>(Rs.bind (Rs.bind (Rs.ok a1) fun x69=>(noE (Zy x69))) fun x64=>(KP x63 x64))) fun x70=>(Rs.bind (Rs.ok a16) fun x71=>(Rs.ok (!(Lm x70 x71))))) fun x72=>(if x72 = true then (Rs.bind (Rs.ok false) fun x74=>(Rs.ok (Ctl.ret x74))) else (Rs.bind (Rs.ok ()) fun x73=>(Rs.ok (Ctl.nx x73))))))) (Jl fun g75=>(Rs.bind (Rs.ok a7) fun x87=>(Rs.bind (Rs.ok a16) fun x88=>(Rs.bind (Rs.bind (Rs.bind (Rs.ok a_0) fun x82=>(Rs.bind (Rs.ok (2 : Int)) fun x83=>(Rs.bind (Rs.bind (Rs.bind (Rs.ok (7 : Int)) fun x80=>(Rs.bind (Rs.ok []) fun x81=>(Rs.ok (x80 :: x81)))) fun x79=>(chk (x79.length <= sizeLine) (Rs.ok x79))) fun x84=>(noE (V1 x82 x83 x84))))) fun x85=>(Rs.bind (Rs.ok (0 : Int)) fun x86=>(atR x85 x86))) fun x89=>(noE (QG x87 x88 x89))))))))))))))))
end My
namespace L2
open PySem
section
variable {α β γ ρ : Type}
theorem Rs.okb (a : α) (f : α -> Rs β) : (Rs.ok a).bind f = f a:=(Eq.refl (f a)).symm.symm
theorem DU {f : α -> Rs β} {h : α -> β} : ∀ {as : List α}, (∀ a ∈ as, f a = .ok (h a)) -> FR as f = .ok (as.map h)
  | [], _=>rfl
  | a :: as, hf=>by
    show (f a).bind _ = _
    rw [hf a (by simp), Rs.ok_bind, DU fun b hb=>hf b (by simp [hb])]; rfl
theorem Qf {f : α -> Rs β} {h : α -> β} {as : List α} (hl : as.length <= sizeLine) (hf : ∀ a ∈ as, f a = .ok (h a)) : KM as f = .ok (as.map h):=by
  unfold KM; rw [XF hl]; exact DU hf
theorem Ce {c : α -> Rs Bool} {f : α -> Rs β} {p : α -> Bool} {h : α -> β} : ∀ {as : List α}, (∀ a ∈ as, c a = .ok (p a)) -> (∀ a ∈ as, p a = true -> f a = .ok (h a)) -> GS as c f = .ok ((as.filter p).map h)
  | [], _, _=>rfl
  | a :: as, hc, hf=>by
    show (c a).bind _ = _
    rw [hc a (by simp), Rs.ok_bind]
    have ih:=Ce (as:=as) (fun b hb=>hc b (by simp [hb])) fun b hb=>hf b (by simp [hb])
    cases hp : p a with
    | false=>rw [if_neg (by simp), ih, List.filter_cons, hp]; rfl
    | true=>rw [if_pos rfl, hf a (by simp) hp, Rs.ok_bind, ih, List.filter_cons, hp]; rfl
theorem Gr {c : α -> Rs Bool} {f : α -> Rs β} {p : α -> Bool} {h : α -> β} {as : List α} (hl : as.length <= sizeLine) (hc : ∀ a ∈ as, c a = .ok (p a)) (hf : ∀ a ∈ as, p a = true -> f a = .ok (h a)) : HS as c f = .ok ((as.filter p).map h):=by
  unfold HS; rw [XF hl]; exact Ce hc hf
theorem UU {f : γ -> α -> Rs γ} (P : Nat -> γ -> Prop) : ∀ (as : List α) (k : Nat) (g : γ), P k g -> (∀ i a g, as[i]? = some a -> P (k + i) g -> ∃ g', f g a = .ok g' /\ P (k + i + 1) g') -> ∃ g', forN as g f = .ok g' /\ P (k + as.length) g'
  | [], k, g, h0, _=>⟨g, rfl, h0⟩
  | a :: as, k, g, h0, hs=>by
    obtain ⟨g1, e1, p1⟩:=hs 0 a g rfl h0
    obtain ⟨g2, e2, p2⟩:=UU P as (k + 1) g1 p1 fun i b g hb hp=>by
      obtain ⟨g', e', p'⟩:=hs (i + 1) b g (by simpa using hb) (by rw [show k + (i + 1) = k + 1 + i by first | lia | omega]; exact hp)
      exact ⟨g', e', by rw [show k + 1 + i + 1 = k + (i + 1) + 1 by first | lia | omega]; exact p'⟩
    refine ⟨g2, ?_, by rw [List.length_cons, show k + (as.length + 1) = k + 1 + as.length by first | lia | omega]; exact p2⟩
    show (f g a).bind _ = _
    rw [e1, Rs.ok_bind]; exact e2
theorem UA {f : γ -> α -> Rs γ} (P : Nat -> γ -> Prop) {as : List α} {g : γ} (h0 : P 0 g) (hs : ∀ i a g, as[i]? = some a -> P i g -> ∃ g', f g a = .ok g' /\ P (i + 1) g') : ∃ g', forN as g f = .ok g' /\ P as.length g':=by
  have:=UU P as 0 g h0 (by simpa using hs)
  simpa using this
theorem Qz {f : List β -> α -> Rs (List β)} {h : α -> β} : ∀ {as : List α} {g : List β}, g.length + as.length <= sizeLine -> (∀ g : List β, g.length < sizeLine -> ∀ a ∈ as, f g a = .ok (g ++ [h a])) -> forN as g f = .ok (g ++ as.map h)
  | [], g, _, _=>by simp [forN]
  | a :: as, g, hl, hf=>by
    show (f g a).bind _ = _
    rw [List.length_cons] at hl
    rw [hf g (by first | lia | omega) a (by simp), Rs.ok_bind, Qz (by simp; (first | lia | omega)) fun g hg b hb=>hf g hg b (by simp [hb])]
    simp
theorem Qc {f : γ -> α -> Rs (Ctl ρ γ)} : ∀ {as : List α} {g : γ}, (∀ a ∈ as, f g a = .ok (.nx g)) -> forC as g f = .ok (.nx g)
  | [], _, _=>rfl
  | a :: as, g, hf=>by
    show (f g a).bind _ = _
    rw [hf a (by simp), Rs.ok_bind]
    exact Qc fun b hb=>hf b (by simp [hb])
theorem UT {f : γ -> α -> Rs (Ctl ρ γ)} (P : Nat -> γ -> Prop) : ∀ (as : List α) (k : Nat) (g : γ), P k g -> (∀ i a g, as[i]? = some a -> P (k + i) g -> ∃ g', f g a = .ok (.nx g') /\ P (k + i + 1) g') -> ∃ g', forC as g f = .ok (.nx g') /\ P (k + as.length) g'
  | [], k, g, h0, _=>⟨g, rfl, h0⟩
  | a :: as, k, g, h0, hs=>by
    obtain ⟨g1, e1, p1⟩:=hs 0 a g rfl h0
    obtain ⟨g2, e2, p2⟩:=UT P as (k + 1) g1 p1 fun i b g hb hp=>by
      obtain ⟨g', e', p'⟩:=hs (i + 1) b g (by simpa using hb) (by rw [show k + (i + 1) = k + 1 + i by first | lia | omega]; exact hp)
      exact ⟨g', e', by rw [show k + 1 + i + 1 = k + (i + 1) + 1 by first | lia | omega]; exact p'⟩
    refine ⟨g2, ?_, by rw [List.length_cons, show k + (as.length + 1) = k + 1 + as.length by first | lia | omega]; exact p2⟩
    show (f g a).bind _ = _
    rw [e1, Rs.ok_bind]; exact e2
theorem BZ {f : γ -> α -> Rs (Ctl ρ γ)} (P : Nat -> γ -> Prop) {as : List α} {g : γ} (h0 : P 0 g) (hs : ∀ i a g, as[i]? = some a -> P i g -> ∃ g', f g a = .ok (.nx g') /\ P (i + 1) g') : ∃ g', forC as g f = .ok (.nx g') /\ P as.length g':=by
  have:=UT P as 0 g h0 (by simpa using hs)
  simpa using this
theorem Ym {a b : Int} (h : 0 < b) : QL a b = .ok (a % b):=XF h
theorem Zz {a b : Int} (h1 : -(2 ^ 64) < a) (h2 : a < 2 ^ 64) : QT a b = .ok (a * b):=XF (.inl ⟨h1, h2⟩)
theorem Z8 {a b : Int} (h1 : -(2 ^ 64) < b) (h2 : b < 2 ^ 64) : QT a b = .ok (a * b):=XF (.inr ⟨h1, h2⟩)
theorem CW {a b : Int} (h : 0 < b) (h2 : b < 2 ^ 250) : HQ a b = .ok (a / b):=XF ⟨h, by
  have h3 : b.natAbs < 2 ^ 250:=by first | lia | omega
  rcases Nat.eq_zero_or_pos b.natAbs with h0 | h0
  . first | lia | omega
  . have := (Nat.log2_lt (by first | lia | omega)).mpr h3
    first | lia | omega⟩
theorem F0 {a b : Int} (h0 : 0 <= b) (h1 : b <= 1000000) (h2 : -(2 ^ 64) < a) (h3 : a < 2 ^ 64) : IT a b = .ok (a ^ b.toNat):=XF ⟨h0, h1, by first | lia | omega⟩
theorem Yr {as : List α} {i : Nat} {a : α} (h : as[i]? = some a) : atR as (i : Int) = .ok a:=by
  have hlt:=(List.getElem?_eq_some_iff.mp h).1
  unfold atR atI ixN
  rw [if_pos (by first | lia | omega), if_pos (by first | lia | omega)]
  simp [h]
theorem HZ {as : List α} {i : Int} {a : α} (h0 : 0 <= i) (h : as[i.toNat]? = some a) : atR as i = .ok a:=by
  have : i = (i.toNat : Int):=by first | lia | omega
  rw [this]; exact Yr h
theorem Y2 {n : Nat} (h : n < 2 ^ 62) : JL 0 (n : Int) = .ok ((List.range n).map fun (i : Nat)=>(i : Int)):=by
  unfold JL
  rw [XF (by first | lia | omega)]
  unfold Qt
  congr 1
  rw [Int.sub_zero, Int.toNat_natCast]
  exact List.map_congr_left fun i _=>by first | lia | omega
theorem Yp {n i : Nat} {a : Int} (h : ((List.range n).map fun (i : Nat)=>(i : Int))[i]? = some a) : a = (i : Int) /\ i < n:=by
  have hlt:=(List.getElem?_eq_some_iff.mp h).1
  simp only [List.length_map, List.length_range] at hlt
  rw [List.getElem?_map, List.getElem?_range hlt] at h
  exact ⟨(Option.some.inj h).symm, hlt⟩
theorem Y1 {n : Nat} {a : Int} (h : a ∈ (List.range n).map fun (i : Nat)=>(i : Int)) : ∃ i : Nat, i < n /\ a = (i : Int):=by
  obtain ⟨i, hi, rfl⟩:=List.mem_map.mp h
  exact ⟨i, List.mem_range.mp hi, rfl⟩
theorem Yi {n : Nat} : ((List.range n).map fun (i : Nat)=>(i : Int)).length = n:=by simp
theorem Ee {a : Bool} {b : Rs Bool} {c : Bool} (h : a = true -> b = .ok c) : Us (.ok a) b = .ok (a && c):=by
  cases a with
  | false=>rfl
  | true=>
    show (if true = true then b else Rs.ok false) = _
    rw [if_pos rfl, h rfl]; rfl
theorem Lx {a : Bool} {b : Rs Bool} {c : Bool} (h : a = false -> b = .ok c) : orR (.ok a) b = .ok (a || c):=by
  cases a with
  | true=>rfl
  | false=>
    show (if false = true then Rs.ok true else b) = _
    rw [if_neg Bool.false_ne_true, h rfl]; rfl
theorem sz {n : Nat} (h : n <= 100000) : n <= sizeLine:=Nat.le_trans h (by decide)
theorem Fs {n : Nat} (h : n <= 100000) : n < sizeLine:=Nat.lt_of_le_of_lt h (by decide)
noncomputable def Ok (m : Rs β) (R : β -> Prop) : Prop:=∃ r, m = .ok r /\ R r
theorem Ok.pure {R : β -> Prop} {a : β} (h : R a) : Ok (.ok a) R:=⟨a, rfl, h⟩
theorem Ok.bind {m : Rs α} {f : α -> Rs β} {R : α -> Prop} {T : β -> Prop} (h : Ok m R) (hf : ∀ a, R a -> Ok (f a) T) : Ok (m.bind f) T:=by
  obtain ⟨a, e, ha⟩:=h
  rw [e]; exact hf a ha
theorem Ok.imp {m : Rs α} {R T : α -> Prop} (h : Ok m R) (hf : ∀ a, R a -> T a) : Ok m T:=by
  obtain ⟨a, e, ha⟩:=h
  exact ⟨a, e, hf a ha⟩
theorem Ok.noE {m : Rs α} {R : α -> Prop} (h : Ok m R) : Ok (noE m) R:=by
  obtain ⟨a, e, ha⟩:=h
  rw [e]; exact ⟨a, rfl, ha⟩
theorem Ok.chk {c : Prop} [Decidable c] {m : Rs α} {R : α -> Prop} (hc : c) (h : Ok m R) : Ok (chk c m) R:=by rw [XF hc]; exact h
theorem Ok.ite {b : Bool} {m n : Rs α} {R : α -> Prop} (h1 : b = true -> Ok m R) (h2 : b = false -> Ok n R) : Ok (if b = true then m else n) R:=by
  cases b with
  | true=>rw [if_pos rfl]; exact h1 rfl
  | false=>rw [if_neg Bool.false_ne_true]; exact h2 rfl
theorem Ok.forN {f : γ -> α -> Rs γ} (P : Nat -> γ -> Prop) {as : List α} {g : γ} (h0 : P 0 g) (hs : ∀ i a g, as[i]? = some a -> P i g -> Ok (f g a) (P (i + 1))) : Ok (forN as g f) (P as.length):=UA P h0 hs
theorem Ok.forC {f : γ -> α -> Rs (Ctl ρ γ)} (P : Nat -> γ -> Prop) {as : List α} {g : γ} (h0 : P 0 g) (hs : ∀ i a g, as[i]? = some a -> P i g -> ∃ g', f g a = .ok (.nx g') /\ P (i + 1) g') : Ok (forC as g f) (fun c=>∃ g', c = .nx g' /\ P as.length g'):=by
  obtain ⟨g', e, h⟩:=BZ P h0 hs
  exact ⟨_, e, g', rfl, h⟩
theorem J5 {f : γ -> Rs ρ} (g : γ) : Jl f (.nx g) = f g:=(Eq.refl (f g)).symm.symm
theorem VL {f : γ -> Rs ρ} (r : ρ) : Jl f (.ret r) = .ok r:=(Eq.refl (Rs.ok r)).symm.symm
theorem VM {δ : Type} {f : γ -> Rs (Ctl ρ δ)} (g : γ) : QR f (.nx g) = f g:=(Eq.refl (f g)).symm.symm
theorem XJ (a : α) : noE (Rs.ok a) = .ok a:=(Eq.refl (Rs.ok a)).symm.symm
theorem Ok.of {m : Rs α} {a : α} (h : m = .ok a) : Ok m (fun b=>b = a):=⟨a, h, rfl⟩
theorem Ok.eq {m : Rs α} {a : α} (h : Ok m (fun b=>b = a)) : m = .ok a:=by
  obtain ⟨b, e, rfl⟩:=h
  exact e
end
end L2
namespace My
noncomputable def QN (n : Nat) (f : Nat -> Nat -> Nat) (a : Nat) : List Int:=(List.range n).map fun b=>(f a b : Int)
noncomputable def Ze (n : Nat) (f : Nat -> Nat -> Nat) : List (List Int):=(List.range n).map (QN n f)
theorem ZQ (n : Nat) (f : Nat -> Nat -> Nat) (a : Nat) : (QN n f a).length = n:=by simp [QN]
theorem XZ (n : Nat) (f : Nat -> Nat -> Nat) : (Ze n f).length = n:=by simp [Ze]
theorem VJ {n : Nat} {f : Nat -> Nat -> Nat} {a b : Nat} (h : b < n) : (QN n f a)[b]? = some (f a b : Int):=by
  unfold QN; rw [List.getElem?_map, List.getElem?_range h]; rfl
theorem Vv {n : Nat} {f : Nat -> Nat -> Nat} {a : Nat} (h : a < n) : (Ze n f)[a]? = some (QN n f a):=by
  unfold Ze; rw [List.getElem?_map, List.getElem?_range h]; rfl
theorem Vi {n : Nat} {f g : Nat -> Nat -> Nat} {a : Nat} (h : ∀ b, b < n -> f a b = g a b) : QN n f a = QN n g a:=by
  unfold QN
  exact List.map_congr_left fun b hb=>by rw [h b (List.mem_range.mp hb)]
theorem ZJ {n : Nat} {f g : Nat -> Nat -> Nat} (h : ∀ a b, a < n -> b < n -> f a b = g a b) : Ze n f = Ze n g:=by
  unfold Ze
  exact List.map_congr_left fun a ha=>Vi fun b hb=>h a b (List.mem_range.mp ha) hb
structure Col (n : Nat) (f : Nat -> Nat -> Nat) : Prop where
  lt : ∀ a b, a < n -> b < n -> f a b < n
  r2 : ∀ x y b, x < n -> y < n -> b < n -> f x b = f y b -> x = y
structure GoodF (n : Nat) (f : Nat -> Nat -> Nat) : Prop extends Col n f where
  r1 : ∀ a, a < n -> f a a = a
  r3 : ∀ a b c, a < n -> b < n -> c < n -> f (f a b) c = f (f a c) (f b c)
theorem GoodF.congr {n : Nat} {f g : Nat -> Nat -> Nat} (h : GoodF n f) (e : ∀ a b, a < n -> b < n -> g a b = f a b) : GoodF n g where
  lt a b ha hb:=by rw [e a b ha hb]; exact h.lt a b ha hb
  r2 x y b hx hy hb q:=by rw [e x b hx hb, e y b hy hb] at q; exact h.r2 x y b hx hy hb q
  r1 a ha:=by rw [e a a ha ha]; exact h.r1 a ha
  r3 a b c ha hb hc:=by
    rw [e a b ha hb, e a c ha hc, e b c hb hc, e _ c (h.lt a b ha hb) hc, e _ _ (h.lt a c ha hc) (h.lt b c hb hc)]
    exact h.r3 a b c ha hb hc
theorem VO : ∀ (n : Nat) (p : Nat -> Nat), (∀ a, a < n -> p a < n) -> (∀ a b, a < n -> b < n -> p a = p b -> a = b) -> ∀ y, y < n -> ∃ x, x < n /\ p x = y
  | 0, _, _, _, y, hy=>absurd hy (Nat.not_lt_zero _)
  | n + 1, p, hl, hi, y, hy=>by
    by_cases hh : ∃ x, x < n + 1 /\ p x = y
    . exact hh
    . exfalso
      -- send n to y, and y's place away
      have hne : ∀ x, x < n + 1 -> p x ≠ y:=fun x hx e=>hh ⟨x, hx, e⟩
      -- among the first n: p', which skips y
      let s : Nat -> Nat:=fun v=>if v < y then v else v - 1
      have hs : ∀ a, a < n + 1 -> s (p a) < n:=fun a ha=>by
        have h1:=hl a ha; have h2:=hne a ha
        show (if p a < y then p a else p a - 1) < n
        split <;> (first | lia | omega)
      have hsi : ∀ a b, a < n + 1 -> b < n + 1 -> s (p a) = s (p b) -> a = b:=fun a b ha hb e=>by
        have h1:=hne a ha; have h2:=hne b hb
        refine hi a b ha hb ?_
        have e' : (if p a < y then p a else p a - 1) = (if p b < y then p b else p b - 1):=e
        split at e' <;> split at e' <;> (first | lia | omega)
      obtain ⟨x, hx, ex⟩:=VO n (fun a=>s (p a)) (fun a ha=>hs a (by first | lia | omega)) (fun a b ha hb e=>hsi a b (by first | lia | omega) (by first | lia | omega) e) (s (p n)) (hs n (by first | lia | omega))
      have:=hsi x n (by first | lia | omega) (by first | lia | omega) ex
      first | lia | omega
structure PermN (n : Nat) (p q : Nat -> Nat) : Prop where
  lt : ∀ a, a < n -> p a < n
  qlt : ∀ a, a < n -> q a < n
  pq : ∀ a, a < n -> p (q a) = a
  qp : ∀ a, a < n -> q (p a) = a
theorem PermN.good {n : Nat} {p q : Nat -> Nat} {f : Nat -> Nat -> Nat} (h : PermN n p q) (g : GoodF n f) : GoodF n (fun x y=>p (f (q x) (q y))) where
  lt a b ha hb:=h.lt _ (g.lt _ _ (h.qlt a ha) (h.qlt b hb))
  r2 x y b hx hy hb e:=by
    have e1 : q (p (f (q x) (q b))) = q (p (f (q y) (q b))):=congrArg q e
    rw [h.qp _ (g.lt _ _ (h.qlt x hx) (h.qlt b hb)), h.qp _ (g.lt _ _ (h.qlt y hy) (h.qlt b hb))] at e1
    have:=g.r2 _ _ _ (h.qlt x hx) (h.qlt y hy) (h.qlt b hb) e1
    rw [← h.pq x hx, ← h.pq y hy, this]
  r1 a ha:=by
    show p (f (q a) (q a)) = a
    rw [g.r1 _ (h.qlt a ha), h.pq a ha]
  r3 a b c ha hb hc:=by
    have l1:=g.lt _ _ (h.qlt a ha) (h.qlt b hb)
    have l2:=g.lt _ _ (h.qlt a ha) (h.qlt c hc)
    have l3:=g.lt _ _ (h.qlt b hb) (h.qlt c hc)
    show p (f (q (p (f (q a) (q b)))) (q c)) = p (f (q (p (f (q a) (q c)))) (q (p (f (q b) (q c)))))
    rw [h.qp _ l1, h.qp _ l2, h.qp _ l3, g.r3 _ _ _ (h.qlt a ha) (h.qlt b hb) (h.qlt c hc)]
theorem E3 {n : Nat} {p : Nat -> Nat} (hl : ∀ a, a < n -> p a < n) (hi : ∀ a b, a < n -> b < n -> p a = p b -> a = b) : ∃ q, PermN n p q:=by
  have ho:=VO n p hl hi
  refine ⟨fun y=>if h : y < n then Classical.choose (ho y h) else 0, hl, fun a ha=>?_, fun a ha=>?_, fun a ha=>?_⟩
  . simp only [dif_pos ha]; exact (Classical.choose_spec (ho a ha)).1
  . simp only [dif_pos ha]; exact (Classical.choose_spec (ho a ha)).2
  . simp only [dif_pos (hl a ha)]
    have:=Classical.choose_spec (ho (p a) (hl a ha))
    exact hi _ _ this.1 ha this.2
theorem Gi {A B n z : Int} (h : A - B = n * z) : A % n = B % n:=by
  have : A = B + n * z:=by first | lia | omega
  rw [this, Int.add_mul_emod_self_left]
noncomputable def DM (k n a b : Int) : Int:=(k * a + (1 - k) * b) % n
noncomputable def Bb (k : Int) (n : Nat) (a b : Nat) : Nat:=(DM k n a b).toNat
theorem Yt {k : Int} {n : Nat} (hn : 0 < n) (a b : Nat) : ((Bb k n a b : Nat) : Int) = DM k n a b:=by
  unfold Bb
  have:=Int.emod_nonneg (k * a + (1 - k) * b) (show (n : Int) ≠ 0 by first | lia | omega)
  unfold DM
  first | lia | omega
theorem Uo {k : Int} {n : Nat} (hn : 0 < n) (hk : ∀ x : Int, (n : Int) ∣ k * x -> (n : Int) ∣ x) : GoodF n (Bb k n) where
  lt a b _ _:=by
    have h:=Yt (k:=k) hn a b
    have:=Int.emod_lt_of_pos (k * a + (1 - k) * b) (show 0 < (n : Int) by first | lia | omega)
    unfold DM at h
    first | lia | omega
  r1 a ha:=by
    have h:=Yt (k:=k) hn a a
    have e : k * (a : Int) + (1 - k) * a = a:=by grind
    unfold DM at h
    rw [e, Int.emod_eq_of_lt (by first | lia | omega) (by first | lia | omega)] at h
    first | lia | omega
  r2 x y b hx hy hb e:=by
    have h1:=Yt (k:=k) hn x b
    have h2:=Yt (k:=k) hn y b
    rw [e, h2] at h1
    unfold DM at h1
    have:=Int.emod_eq_emod_iff_emod_sub_eq_zero.mp h1
    have hd : (n : Int) ∣ k * ((y : Int) - x):=by
      have:=Int.dvd_of_emod_eq_zero this
      have e2 : (k * (y : Int) + (1 - k) * b) - (k * x + (1 - k) * b) = k * ((y : Int) - x):=by grind
      rwa [e2] at this
    obtain ⟨z, hz⟩:=hk _ hd
    have hz1 : z < 1:=by
      apply Int.lt_of_mul_lt_mul_left (a:=(n : Int)) _ (by first | lia | omega)
      first | lia | omega
    have hz2 : -1 < z:=by
      apply Int.lt_of_mul_lt_mul_left (a:=(n : Int)) _ (by first | lia | omega)
      first | lia | omega
    have : z = 0:=by first | lia | omega
    subst this
    first | lia | omega
  r3 a b c _ _ _:=by
    have e1:=Yt (k:=k) hn a b
    have e2:=Yt (k:=k) hn a c
    have e3:=Yt (k:=k) hn b c
    have e4:=Yt (k:=k) hn (Bb k n a b) c
    have e5:=Yt (k:=k) hn (Bb k n a c) (Bb k n b c)
    have hh : DM k n (Bb k n a b : Nat) c = DM k n (Bb k n a c : Nat) (Bb k n b c : Nat):=by
      rw [e1, e2, e3]
      unfold DM
      have q1:=Int.emod_add_mul_ediv (k * (a : Int) + (1 - k) * b) n
      have q2:=Int.emod_add_mul_ediv (k * (a : Int) + (1 - k) * c) n
      have q3:=Int.emod_add_mul_ediv (k * (b : Int) + (1 - k) * c) n
      generalize (k * (a : Int) + (1 - k) * b) / n = d1 at q1
      generalize (k * (a : Int) + (1 - k) * c) / n = d2 at q2
      generalize (k * (b : Int) + (1 - k) * c) / n = d3 at q3
      generalize (k * (a : Int) + (1 - k) * b) % n = m1 at *
      generalize (k * (a : Int) + (1 - k) * c) % n = m2 at *
      generalize (k * (b : Int) + (1 - k) * c) % n = m3 at *
      refine Gi (z:=-k * d1 + k * d2 + (1 - k) * d3) ?_
      grind
    first | lia | omega
theorem FK {k : Int} {n : Nat} (h : Int.gcd k n = 1) (x : Int) (hd : (n : Int) ∣ k * x) : (n : Int) ∣ x:=by
  have h1:=Int.natAbs_dvd_natAbs.mpr hd
  rw [Int.natAbs_mul, Int.natAbs_natCast] at h1
  have h2 : Nat.Coprime n k.natAbs:=by
    have : Nat.gcd k.natAbs n = 1:=h
    rw [Nat.gcd_comm] at this
    exact this
  exact Int.natAbs_dvd_natAbs.mp (by rw [Int.natAbs_natCast]; exact h2.dvd_of_dvd_mul_left h1)
theorem GB {n : Nat} (x : Int) (hd : (n : Int) ∣ (-1) * x) : (n : Int) ∣ x:=by
  have : (-1) * x = -x:=by first | lia | omega
  rw [this] at hd
  exact Int.dvd_neg.mp hd
theorem JE (n : Nat) : GoodF n (fun a _=>a):=⟨⟨fun _ _ h _=>h, fun _ _ _ _ _ _ e=>e⟩, fun _ _=>rfl, fun _ _ _ _ _ _=>rfl⟩
theorem Kj {n : Nat} {p : Nat -> Nat} (h1 : ∀ a, a < n -> p a < n) (h2 : ∀ a, a + 1 = n -> p a = a) (h3 : ∀ x y, x < n -> y < n -> p x = p y -> x = y) : GoodF n (fun a b=>if b + 1 = n then p a else a) where
  lt a b ha hb:=by
    show (if b + 1 = n then p a else a) < n
    split
    . exact h1 a ha
    . exact ha
  r1 a ha:=by
    show (if a + 1 = n then p a else a) = a
    split
    . next h=>exact h2 a h
    . rfl
  r2 x y b hx hy hb e:=by
    have e : (if b + 1 = n then p x else x) = if b + 1 = n then p y else y:=e
    by_cases h : b + 1 = n
    . rw [if_pos h, if_pos h] at e; exact h3 x y hx hy e
    . rw [if_neg h, if_neg h] at e; exact e
  r3 a b c ha hb hc:=by
    show (if c + 1 = n then p (if b + 1 = n then p a else a) else if b + 1 = n then p a else a) = if (if c + 1 = n then p b else b) + 1 = n then p (if c + 1 = n then p a else a) else if c + 1 = n then p a else a
    by_cases h : c + 1 = n
    . rw [if_pos h, if_pos h, if_pos h]
      by_cases g : b + 1 = n
      . rw [if_pos g, h2 b g, if_pos g]
      . rw [if_neg g, if_neg fun z => g ?_]
        have hp : p b = b:=by
          refine h3 _ _ (h1 b hb) hb (h2 _ z)
        rw [hp] at z
        exact z
    . rw [if_neg h, if_neg h, if_neg h]
theorem Cv (n : Nat) : GoodF n (fun a b=>if 2 < n /\ a < 2 /\ b + 1 = n then 1 - a else a):=by
  by_cases hn : 2 < n
  . refine (Kj (n := n) (p := fun a => if a < 2 then 1 - a else a) (fun a ha => ?_) (fun a ha => if_neg (by first | lia | omega)) fun x y _ _ e => ?_).congr fun a b _ _ => ?_
    . show (if a < 2 then 1 - a else a) < n
      split
      . first | lia | omega
      . exact ha
    . have e : (if x < 2 then 1 - x else x) = if y < 2 then 1 - y else y := e
      by_cases h : x < 2
      . by_cases g : y < 2
        . rw [if_pos h, if_pos g] at e; clear hn; (first | lia | omega)
        . rw [if_pos h, if_neg g] at e; clear hn; (first | lia | omega)
      . by_cases g : y < 2
        . rw [if_neg h, if_pos g] at e; clear hn; (first | lia | omega)
        . rw [if_neg h, if_neg g] at e; exact e
    . show (if 2 < n /\ a < 2 /\ b + 1 = n then 1 - a else a) = if b + 1 = n then (if a < 2 then 1 - a else a) else a
      by_cases g : b + 1 = n
      . rw [if_pos g]
        by_cases h : a < 2
        . rw [if_pos h, if_pos ⟨hn, h, g⟩]
        . rw [if_neg h, if_neg fun z=>h z.2.1]
      . rw [if_neg g, if_neg fun z=>g z.2.2]
  . exact (JE n).congr fun a b _ _=>if_neg fun z=>hn z.1
theorem Fm (n : Nat) : GoodF n (fun a b=>if a + 1 < n /\ b + 1 = n then (if a + 2 < n then a + 1 else 0) else a):=by
  refine (Kj (n:=n) (p:=fun a=>if a + 1 < n then (if a + 2 < n then a + 1 else 0) else a) (fun a ha=>?_) (fun a ha=>if_neg (by first | lia | omega)) fun x y hx hy e=>?_).congr fun a b _ _=>?_
  . show (if a + 1 < n then (if a + 2 < n then a + 1 else 0) else a) < n
    split
    . split
      . assumption
      . exact Nat.lt_of_le_of_lt (Nat.zero_le _) ha
    . exact ha
  . have e : (if x + 1 < n then (if x + 2 < n then x + 1 else 0) else x) = if y + 1 < n then (if y + 2 < n then y + 1 else 0) else y := e
    by_cases h : x + 1 < n
    . rw [if_pos h] at e
      by_cases g : y + 1 < n
      . rw [if_pos g] at e
        by_cases h' : x + 2 < n
        . rw [if_pos h'] at e
          by_cases g' : y + 2 < n
          . rw [if_pos g'] at e; exact Nat.succ.inj e
          . rw [if_neg g'] at e; exact nomatch e
        . rw [if_neg h'] at e
          by_cases g' : y + 2 < n
          . rw [if_pos g'] at e; exact nomatch e
          . clear e hx hy; (first | lia | omega)
      . rw [if_neg g] at e
        by_cases h' : x + 2 < n
        . rw [if_pos h'] at e; clear hx hy h; (first | lia | omega)
        . rw [if_neg h'] at e; clear hx hy h'; (first | lia | omega)
    . rw [if_neg h] at e
      by_cases g : y + 1 < n
      . rw [if_pos g] at e
        by_cases h' : y + 2 < n
        . rw [if_pos h'] at e; clear hx hy g; (first | lia | omega)
        . rw [if_neg h'] at e; clear hx hy h'; (first | lia | omega)
      . rw [if_neg g] at e; exact e
  . show (if a + 1 < n /\ b + 1 = n then (if a + 2 < n then a + 1 else 0) else a) = if b + 1 = n then (if a + 1 < n then (if a + 2 < n then a + 1 else 0) else a) else a
    by_cases g : b + 1 = n
    . rw [if_pos g]
      by_cases h : a + 1 < n
      . rw [if_pos h, if_pos ⟨h, g⟩]
      . rw [if_neg h, if_neg fun z=>h z.1]
    . rw [if_neg g, if_neg fun z=>g z.2]
noncomputable def VZ (h : Nat) (f g : Nat -> Nat -> Nat) (a b : Nat) : Nat:=if a < h /\ b < h then f a b else if h <= a /\ h <= b then h + g (a - h) (b - h) else a
theorem FY {h m : Nat} {f g : Nat -> Nat -> Nat} (F : GoodF h f) (G : GoodF m g) : GoodF (h + m) (VZ h f g):=by
  have s1 : ∀ a b, a < h -> b < h -> VZ h f g a b = f a b:=fun a b ha hb=>by unfold VZ; rw [if_pos ⟨ha, hb⟩]
  have s2 : ∀ a b, VZ h f g (h + a) (h + b) = h + g a b:=fun a b=>by unfold VZ; rw [if_neg (by first | lia | omega), if_pos (by first | lia | omega), Nat.add_sub_cancel_left, Nat.add_sub_cancel_left]
  have s3 : ∀ a b, a < h -> VZ h f g a (h + b) = a:=fun a b ha=>by unfold VZ; rw [if_neg (by first | lia | omega), if_neg (by first | lia | omega)]
  have s4 : ∀ a b, b < h -> VZ h f g (h + a) b = h + a:=fun a b ha=>by unfold VZ; rw [if_neg (by first | lia | omega), if_neg (by first | lia | omega)]
  have up : ∀ a, h <= a -> ∃ a', a = h + a':=fun a ha=>⟨a - h, by first | lia | omega⟩
  refine ⟨⟨fun a b ha hb=>?_, fun x y b hx hy hb e=>?_⟩, fun a ha=>?_, fun a b c ha hb hc=>?_⟩
  . by_cases h1 : a < h <;> by_cases h2 : b < h
    . rw [s1 a b h1 h2]; have:=F.lt a b h1 h2; (first | lia | omega)
    . obtain ⟨b, rfl⟩:=up b (by first | lia | omega); rw [s3 a b h1]; (first | lia | omega)
    . obtain ⟨a, rfl⟩:=up a (by first | lia | omega); rw [s4 a b h2]; (first | lia | omega)
    . obtain ⟨a, rfl⟩ := up a (by first | lia | omega); obtain ⟨b, rfl⟩ := up b (by first | lia | omega)
      rw [s2]; have:=G.lt a b (by first | lia | omega) (by first | lia | omega); (first | lia | omega)
  . by_cases h1 : x < h <;> by_cases h2 : y < h <;> by_cases h3 : b < h
    . rw [s1 _ _ h1 h3, s1 _ _ h2 h3] at e; exact F.r2 x y b h1 h2 h3 e
    . obtain ⟨b, rfl⟩:=up b (by first | lia | omega); rw [s3 _ _ h1, s3 _ _ h2] at e; exact e
    . obtain ⟨y, rfl⟩:=up y (by first | lia | omega); rw [s1 _ _ h1 h3, s4 _ _ h3] at e; have:=F.lt x b h1 h3; (first | lia | omega)
    . obtain ⟨y, rfl⟩:=up y (by first | lia | omega); obtain ⟨b, rfl⟩:=up b (by first | lia | omega); rw [s3 _ _ h1, s2] at e; (first | lia | omega)
    . obtain ⟨x, rfl⟩:=up x (by first | lia | omega); rw [s4 _ _ h3, s1 _ _ h2 h3] at e; have:=F.lt y b h2 h3; (first | lia | omega)
    . obtain ⟨x, rfl⟩:=up x (by first | lia | omega); obtain ⟨b, rfl⟩:=up b (by first | lia | omega); rw [s2, s3 _ _ h2] at e; (first | lia | omega)
    . obtain ⟨x, rfl⟩:=up x (by first | lia | omega); obtain ⟨y, rfl⟩:=up y (by first | lia | omega); rw [s4 _ _ h3, s4 _ _ h3] at e; exact e
    . obtain ⟨x, rfl⟩ := up x (by first | lia | omega); obtain ⟨y, rfl⟩ := up y (by first | lia | omega); obtain ⟨b, rfl⟩ := up b (by first | lia | omega)
      rw [s2, s2] at e
      rw [G.r2 x y b (by first | lia | omega) (by first | lia | omega) (by first | lia | omega) (by first | lia | omega)]
  . by_cases h1 : a < h
    . rw [s1 _ _ h1 h1, F.r1 a h1]
    . obtain ⟨a, rfl⟩:=up a (by first | lia | omega); rw [s2, G.r1 a (by first | lia | omega)]
  . by_cases h1 : a < h <;> by_cases h2 : b < h <;> by_cases h3 : c < h
    . rw [s1 a b h1 h2, s1 a c h1 h3, s1 b c h2 h3, s1 _ _ (F.lt a b h1 h2) h3, s1 _ _ (F.lt a c h1 h3) (F.lt b c h2 h3)]; exact F.r3 a b c h1 h2 h3
    . obtain ⟨c, rfl⟩ := up c (by first | lia | omega)
      rw [s1 a b h1 h2, s3 a c h1, s3 b c h2, s3 _ c (F.lt a b h1 h2), s1 a b h1 h2]
    . obtain ⟨b, rfl⟩ := up b (by first | lia | omega)
      rw [s3 a b h1, s4 b c h3, s1 a c h1 h3, s3 _ b (F.lt a c h1 h3)]
    . obtain ⟨b, rfl⟩ := up b (by first | lia | omega); obtain ⟨c, rfl⟩ := up c (by first | lia | omega)
      rw [s3 a b h1, s3 a c h1, s2 b c, s3 _ _ h1]
    . obtain ⟨a, rfl⟩ := up a (by first | lia | omega)
      rw [s4 a b h2, s4 a c h3, s1 b c h2 h3, s4 _ _ (F.lt b c h2 h3)]
    . obtain ⟨a, rfl⟩ := up a (by first | lia | omega); obtain ⟨c, rfl⟩ := up c (by first | lia | omega)
      rw [s4 a b h2, s2 a c, s3 b c h2, s4 _ _ h2]
    . obtain ⟨a, rfl⟩ := up a (by first | lia | omega); obtain ⟨b, rfl⟩ := up b (by first | lia | omega)
      rw [s2 a b, s4 _ c h3, s4 a c h3, s4 b c h3, s2 a b]
    . obtain ⟨a, rfl⟩ := up a (by first | lia | omega); obtain ⟨b, rfl⟩ := up b (by first | lia | omega); obtain ⟨c, rfl⟩ := up c (by first | lia | omega)
      rw [s2 a b, s2 a c, s2 b c, s2, s2, G.r3 a b c (by first | lia | omega) (by first | lia | omega) (by first | lia | omega)]
noncomputable def Fr (way n k a b : Int) : Int:=
  if way = 1 then (2 * b - a) % n else if way = 2 then (k * a + (1 - k) * b) % n else if way = 3 /\ n > 2 /\ a < 2 /\ b = n - 1 then 1 - a else
  if way = 6 /\ a < n - 1 /\ b = n - 1 then (a + 1) % (n - 1) else if way = 4 /\ a < n / 2 /\ b < n / 2 then (2 * b - a) % (n / 2) else
  if way = 4 /\ a ≥ n / 2 /\ b ≥ n / 2 then n / 2 + (2 * b - a - n / 2) % (n - n / 2) else a
noncomputable def KA (way k : Int) (n a b : Nat) : Nat:=(Fr way n k a b).toNat
theorem UP (n : Int) (a b : Int) : (2 * b - a) % n = DM (-1) n a b:=by
  unfold DM
  congr 1
  first | lia | omega
theorem DQ {way k : Int} {n : Nat} (hn : 0 < n) (hk : Int.gcd k n = 1) : GoodF n (KA way k n) /\ ∀ a b, a < n -> b < n -> ((KA way k n a b : Nat) : Int) = Fr way n k a b:=by
  suffices h : ∃ f, GoodF n f /\ ∀ a b, a < n -> b < n -> ((f a b : Nat) : Int) = Fr way n k a b by
    obtain ⟨f, g, e⟩:=h
    have e2 : ∀ a b, a < n -> b < n -> KA way k n a b = f a b:=fun a b ha hb=>by unfold KA; rw [← e a b ha hb]; (first | lia | omega)
    exact ⟨g.congr e2, fun a b ha hb=>by rw [e2 a b ha hb]; exact e a b ha hb⟩
  unfold Fr
  by_cases w1 : way = 1
  . refine ⟨_, Uo (k := -1) hn GB, fun a b ha hb => ?_⟩
    rw [if_pos w1, Yt hn, UP]
  by_cases w2 : way = 2
  . refine ⟨_, Uo (k := k) hn (FK hk), fun a b ha hb => ?_⟩
    rw [if_neg w1, if_pos w2, Yt hn]; rfl
  by_cases w3 : way = 3
  . refine ⟨_, Cv n, fun a b ha hb => ?_⟩
    rw [if_neg w1, if_neg w2]
    by_cases c : 2 < n /\ a < 2 /\ b + 1 = n
    . rw [if_pos c, if_pos ⟨w3, by first | lia | omega, by first | lia | omega, by first | lia | omega⟩]; (first | lia | omega)
    . rw [if_neg c, if_neg (fun z=>c ⟨by first | lia | omega, by first | lia | omega, by first | lia | omega⟩), if_neg (fun z=>by first | lia | omega), if_neg (fun z=>by first | lia | omega), if_neg (fun z=>by first | lia | omega)]
  by_cases w6 : way = 6
  . refine ⟨_, Fm n, fun a b ha hb => ?_⟩
    have n3 : ¬ (way = 3 /\ (n : Int) > 2 /\ (a : Int) < 2 /\ (b : Int) = n - 1):=fun z=>w3 z.1
    by_cases c : a + 1 < n /\ b + 1 = n
    . have y6 : way = 6 /\ (a : Int) < n - 1 /\ (b : Int) = n - 1 := ⟨w6, by first | lia | omega, by first | lia | omega⟩
      rw [if_pos c, if_neg w1, if_neg w2, if_neg n3, if_pos y6]
      by_cases c2 : a + 2 < n
      . rw [if_pos c2, Int.emod_eq_of_lt (by first | lia | omega) (by first | lia | omega)]; (first | lia | omega)
      . rw [if_neg c2]
        have : (a : Int) + 1 = (n : Int) - 1:=by first | lia | omega
        rw [this, Int.emod_self]; rfl
    . rw [if_neg c, if_neg w1, if_neg w2, if_neg n3, if_neg (fun z=>c ⟨by first | lia | omega, by first | lia | omega⟩), if_neg (fun z=>by first | lia | omega), if_neg (fun z=>by first | lia | omega)]
  by_cases w4 : way = 4
  . have hh : ∀ m : Nat, 0 < m -> GoodF m (Bb (-1) m) := fun m hm => Uo hm GB
    by_cases h0 : n / 2 = 0
    . have hn1 : n = 1 := by first | lia | omega
      subst hn1
      refine ⟨_, JE 1, fun a b ha hb=>?_⟩
      have : a = 0:=by first | lia | omega
      have : b = 0:=by first | lia | omega
      subst a b
      rw [if_neg w1, if_neg w2, if_neg (fun z=>w3 z.1), if_neg (fun z=>w6 z.1), if_neg (fun z=>by first | lia | omega), if_pos ⟨w4, by first | lia | omega, by first | lia | omega⟩]
      decide
    . have g := FY (hh (n / 2) (by first | lia | omega)) (hh (n - n / 2) (by first | lia | omega))
      rw [show n / 2 + (n - n / 2) = n by first | lia | omega] at g
      refine ⟨_, g, fun a b ha hb=>?_⟩
      have hc : ((n / 2 : Nat) : Int) = (n : Int) / 2:=by first | lia | omega
      rw [if_neg w1, if_neg w2, if_neg (fun z=>w3 z.1), if_neg (fun z=>w6 z.1)]
      unfold VZ
      by_cases c1 : a < n / 2 /\ b < n / 2
      . rw [if_pos c1, if_pos ⟨w4, by first | lia | omega, by first | lia | omega⟩, Yt (by first | lia | omega), ← UP, hc]
      . have m4 : ¬ (way = 4 /\ (a : Int) < (n : Int) / 2 /\ (b : Int) < (n : Int) / 2) := fun z => c1 ⟨by first | lia | omega, by first | lia | omega⟩
        rw [if_neg c1, if_neg m4]
        by_cases c2 : n / 2 <= a /\ n / 2 <= b
        . have y4 : way = 4 /\ (a : Int) ≥ (n : Int) / 2 /\ (b : Int) ≥ (n : Int) / 2 := ⟨w4, by first | lia | omega, by first | lia | omega⟩
          rw [if_pos c2, if_pos y4]
          have hm : (((n - n / 2 : Nat)) : Int) = (n : Int) - (n : Int) / 2:=by first | lia | omega
          have:=Yt (k:=-1) (n:=n - n / 2) (by first | lia | omega) (a - n / 2) (b - n / 2)
          rw [← UP, hm] at this
          rw [show 2 * (b : Int) - a - (n : Int) / 2 = 2 * ((b - n / 2 : Nat) : Int) - ((a - n / 2 : Nat) : Int) by first | lia | omega, ← this]
          first | lia | omega
        . rw [if_neg c2, if_neg (fun z=>c2 ⟨by first | lia | omega, by first | lia | omega⟩)]
  refine ⟨_, JE n, fun a b ha hb=>?_⟩
  rw [if_neg w1, if_neg w2, if_neg (fun z=>w3 z.1), if_neg (fun z=>w6 z.1), if_neg (fun z=>w4 z.1), if_neg (fun z=>w4 z.1)]
noncomputable def JX (a b : Nat) : Nat:=(([[0, 3, 1, 2], [2, 1, 3, 0], [3, 0, 2, 1], [1, 2, 0, 3]] : List (List Nat)).getD a []).getD b 0
theorem C0 : GoodF 4 JX:=by
  have h1 : ∀ a, a < 4 -> ∀ b, b < 4 -> JX a b < 4:=by decide +kernel
  have h2 : ∀ b, b < 4 -> ∀ x, x < 4 -> ∀ y, y < 4 -> JX x b = JX y b -> x = y:=by decide +kernel
  have h3 : ∀ a, a < 4 -> JX a a = a:=by decide +kernel
  have h4 : ∀ a, a < 4 -> ∀ b, b < 4 -> ∀ c, c < 4 -> JX (JX a b) c = JX (JX a c) (JX b c):=by decide +kernel
  exact ⟨⟨fun a b ha hb=>h1 a ha b hb, fun x y b hx hy hb=>h2 b hb x hx y hy⟩, h3, fun a b c ha hb hc=>h4 a ha b hb c hc⟩
theorem BB : Ze 4 JX = [[0, 3, 1, 2], [2, 1, 3, 0], [3, 0, 2, 1], [1, 2, 0, 3]]:=by decide +kernel
end My
namespace My
open PySem L2
theorem Ui {n : Nat} {f : Nat -> Nat -> Nat} {a : Nat} (h : a < n) : atR (Ze n f) (a : Int) = .ok (QN n f a):=Yr (Vv h)
theorem KH {n : Nat} {f : Nat -> Nat -> Nat} {a b : Nat} (h : b < n) : atR (QN n f a) (b : Int) = .ok (f a b : Int):=Yr (VJ h)
theorem VI {α : Type} {as : List α} {i : Nat} {a : α} (h : i < as.length) : JT as (i : Int) a = .ok (as.set i a):=by
  unfold JT ixN
  rw [if_pos (by first | lia | omega), if_pos (by first | lia | omega)]
  simp
theorem Hy {n : Nat} {f : Nat -> Nat -> Nat} {a b v : Nat} : (QN n f a).set b (v : Int) = QN n (fun x y=>if x = a /\ y = b then v else f x y) a:=by
  apply List.ext_getElem?
  intro j
  by_cases hj : j < n
  . rw [VJ hj]
    by_cases e : j = b
    . subst e; rw [List.getElem?_set_self (by rw [ZQ]; exact hj)]; simp
    . rw [List.getElem?_set_ne (fun z=>e z.symm), VJ hj]; simp [e]
  . rw [List.getElem?_eq_none (by rw [List.length_set, ZQ]; (first | lia | omega)), List.getElem?_eq_none (by rw [ZQ]; (first | lia | omega))]
theorem Hq {n : Nat} {f : Nat -> Nat -> Nat} {a b v : Nat} (ha : a < n) : (Ze n f).set a ((QN n f a).set b (v : Int)) = Ze n (fun x y=>if x = a /\ y = b then v else f x y):=by
  apply List.ext_getElem?
  intro j
  by_cases hj : j < n
  . rw [Vv hj]
    by_cases e : j = a
    . subst e; rw [List.getElem?_set_self (by rw [XZ]; exact hj), Hy]
    . rw [List.getElem?_set_ne (fun z => e z.symm), Vv hj]
      congr 1
      exact Vi fun y _=>by simp [e]
  . rw [List.getElem?_eq_none (by rw [List.length_set, XZ]; (first | lia | omega)), List.getElem?_eq_none (by rw [XZ]; (first | lia | omega))]
noncomputable def UY (n : Nat) (sp : List Int) (p q : Nat -> Nat) : Prop:=PermN n p q /\ sp = (List.range n).map fun i=>((p i : Nat) : Int)
theorem UY.get {n : Nat} {sp : List Int} {p q : Nat -> Nat} (h : UY n sp p q) {i : Nat} (hi : i < n) : atR sp (i : Int) = .ok ((p i : Nat) : Int):=Yr (by rw [h.2, List.getElem?_map, List.getElem?_range hi]; rfl)
theorem Dm {as : List Int} {i : Nat} (h : i < as.length) (hl : as.length <= 100000) : FU as (i : Int) = .ok (as[i], as.eraseIdx i):=by
  unfold FU
  rw [XF (by first | lia | omega)]
  have e : seqIndex? (i : Int) as.length = some i:=by
    unfold seqIndex?
    have h0 : ¬ ((i : Int) < 0):=by first | lia | omega
    simp [h0, h]
  rw [e]
  simp [h]
theorem By {n : Nat} {sp : List Int} (h : sp.Perm ((List.range n).map fun (i : Nat)=>(i : Int))) : ∃ p q, UY n sp p q:=by
  have hl : sp.length = n:=by have:=h.length_eq; simpa using this
  have hlt : ∀ i, i < n -> ∃ k : Nat, k < n /\ sp[i]? = some (k : Int):=fun i hi=>by
    have hm : sp[i]'(by first | lia | omega) ∈ (List.range n).map fun (i : Nat)=>(i : Int):=h.mem_iff.mp (List.getElem_mem _)
    obtain ⟨k, hk, e⟩:=Y1 hm
    exact ⟨k, hk, by rw [List.getElem?_eq_getElem (by first | lia | omega), e]⟩
  let p : Nat -> Nat:=fun i=>(sp[i]?.getD 0).toNat
  have hp : ∀ i, i < n -> p i < n /\ sp[i]? = some (p i : Int):=fun i hi=>by
    obtain ⟨k, hk, e⟩:=hlt i hi
    have : p i = k:=by simp [p, e]
    rw [this]; exact ⟨hk, e⟩
  have nd : sp.Nodup:=h.nodup_iff.mpr (by
    rw [List.nodup_iff_pairwise_ne, List.pairwise_map]
    exact List.nodup_range.imp fun {a b} h e=>h (by first | lia | omega))
  obtain ⟨q, hq⟩:=E3 (n:=n) (p:=p) (fun a ha=>(hp a ha).1) fun a b ha hb e=>by
    have h1:=(hp a ha).2
    have h2:=(hp b hb).2
    rw [← e] at h2
    exact (List.getElem?_inj (by first | lia | omega) nd).mp (h1.trans h2.symm)
  refine ⟨p, q, hq, ?_⟩
  apply List.ext_getElem?
  intro i
  by_cases hi : i < n
  . rw [(hp i hi).2, List.getElem?_map, List.getElem?_range hi]; rfl
  . rw [List.getElem?_eq_none (by first | lia | omega), List.getElem?_eq_none (by simp; (first | lia | omega))]
theorem JD : ∀ {as : List Int} {i : Nat} (h : i < as.length), (as[i] :: as.eraseIdx i).Perm as
  | a :: as, 0, _=>by simp
  | a :: as, i + 1, h=>by
    have:=JD (as:=as) (i:=i) (by simpa using h)
    simp only [List.getElem_cons_succ, List.eraseIdx_cons_succ]
    exact (List.Perm.swap _ _ _).trans (this.cons a)
theorem Bk {α : Type} (as : List α) {k : Nat} (h : k <= as.length) : Fw as (some (k : Int)) none = as.drop k:=by
  unfold Fw
  rw [HT.sIx_nat, HT.sIx_none, Nat.min_eq_left h, List.take_of_length_le (by rw [List.length_drop]; (first | lia | omega))]
end My
namespace My
theorem Qq (names : List Int) : (names.flatMap fun x=>[x, -x]).length = 2 * names.length:=by
  induction names with
  | nil=>rfl
  | cons x r ih=>rw [List.flatMap_cons, List.length_append, ih]; simp; (first | lia | omega)
theorem Jv {α : Type} : ∀ {l : List α} {k : Nat} {y : α}, l[k]? = some y -> (y :: l.eraseIdx k).Perm l
  | [], _, _, e=>by simp at e
  | a :: r, 0, y, e=>by
    have e' : a = y:=by simpa using e
    subst e'; exact List.Perm.refl _
  | a :: r, k + 1, y, e=>by
    have e' : r[k]? = some y:=by simpa using e
    show (y :: a :: r.eraseIdx k).Perm (a :: r)
    exact (List.Perm.swap a y _).trans (List.Perm.cons a (Jv e'))
theorem U1 {α : Type} {l : List α} {k : Nat} {y : α} (e : l[k]? = some y) : (l.eraseIdx k).length + 1 = l.length:=by
  have:=(Jv e).length_eq
  simpa using this
theorem GD {α : Type} : ∀ {ws : List (List α)} {j : Nat} {w : List α} {y : α}, ws[j]? = some w -> ((ws.set j (w ++ [y])).flatten).Perm (y :: ws.flatten)
  | [], _, _, _, e=>by simp at e
  | a :: r, 0, w, y, e=>by
    have e' : a = w:=by simpa using e
    subst e'
    show ((a ++ [y]) ++ r.flatten).Perm (y :: (a ++ r.flatten))
    rw [List.append_assoc]
    exact List.perm_middle
  | a :: r, j + 1, w, y, e=>by
    have e' : r[j]? = some w:=by simpa using e
    show (a ++ (r.set j (w ++ [y])).flatten).Perm (y :: (a ++ r.flatten))
    exact (List.Perm.append_left a (GD e')).trans List.perm_middle
theorem C8 {α : Type} {ws : List (List α)} {j k : Nat} {w l : List α} {y : α} (e : ws[j]? = some w) (e3 : l[k]? = some y) : ((ws.set j (w ++ [y])).flatten ++ l.eraseIdx k).Perm (ws.flatten ++ l):=by
  refine ((GD (y:=y) e).append_right _).trans ?_
  rw [List.cons_append]
  refine List.perm_middle.symm.trans ?_
  exact List.Perm.append_left _ (Jv e3)
theorem mem_set {α : Type} : ∀ {l : List α} {j : Nat} {v x : α}, x ∈ l.set j v -> x ∈ l ∨ x = v
  | [], _, _, _, h=>by simp at h
  | a :: r, 0, v, x, h=>by
    rw [List.set_cons_zero] at h
    rcases List.mem_cons.mp h with h | h
    . exact .inr h
    . exact .inl (List.mem_cons_of_mem _ h)
  | a :: r, j + 1, v, x, h=>by
    rw [List.set_cons_succ] at h
    rcases List.mem_cons.mp h with h | h
    . exact .inl (by rw [h]; exact List.mem_cons_self)
    . rcases mem_set h with h | h
      . exact .inl (List.mem_cons_of_mem _ h)
      . exact .inr h
theorem Ke : ∀ {l : List Bool} {j : Nat}, l[j]? = some false -> (l.set j true).count false + 1 = l.count false
  | [], _, e=>by simp at e
  | a :: r, 0, e=>by
    have e' : a = false:=by simpa using e
    subst e'; simp
  | a :: r, j + 1, e=>by
    have e' : r[j]? = some false:=by simpa using e
    have ih:=Ke e'
    rw [List.set_cons_succ, List.count_cons, List.count_cons]
    first | lia | omega
end My
namespace My
noncomputable def Gj (r : Int × Int) (at' : Int) : List Int:=if at' = r.1 then [r.2] else if at' = r.1 + 1 then [-r.2] else []
noncomputable def V9 (r : Int × Int) (at' : Int) : Int:=if at' = r.1 then r.1 + 1 else if at' = r.1 + 1 then r.1 else at'
noncomputable def BY : List (Int × Int) -> Int -> Int
  | [], a=>a
  | r :: rs, a=>BY rs (V9 r a)
noncomputable def KW : List (Int × Int) -> Int -> List Int
  | [], _=>[]
  | r :: rs, a=>Gj r a ++ KW rs (V9 r a)
theorem Dd (rs : List (Int × Int)) (r : Int × Int) : ∀ a, BY (rs ++ [r]) a = V9 r (BY rs a):=by
  induction rs with
  | nil=>intro a; rfl
  | cons q rs ih=>intro a; exact ih _
theorem F4 (rs : List (Int × Int)) (r : Int × Int) : ∀ a, KW (rs ++ [r]) a = KW rs a ++ Gj r (BY rs a):=by
  induction rs with
  | nil=>intro a; simp [KW, BY]
  | cons q rs ih=>intro a; simp [KW, BY, ih]
theorem K2 {S : Int} {r : Int × Int} {a : Int} (h0 : 0 <= r.1) (h1 : r.1 + 1 < S) (a0 : 0 <= a) (a1 : a < S) : 0 <= V9 r a /\ V9 r a < S:=by
  unfold V9
  split
  . first | lia | omega
  . split <;> (first | lia | omega)
noncomputable def FQ (S : Nat) : List Int:=(List.range S).map fun (k : Nat)=>(k : Int)
theorem QE {S : Nat} {x : Int} : x ∈ FQ S ↔ 0 <= x /\ x < (S : Int):=by
  unfold FQ
  rw [List.mem_map]
  constructor
  . rintro ⟨k, hk, rfl⟩
    have:=List.mem_range.mp hk
    first | lia | omega
  . rintro ⟨h0, h1⟩
    exact ⟨x.toNat, List.mem_range.mpr (by first | lia | omega), by first | lia | omega⟩
theorem Qh {α β : Type} {f : α -> β} : ∀ {l : List α}, (∀ a b, a ∈ l -> b ∈ l -> f a = f b -> a = b) -> l.Nodup -> (l.map f).Nodup
  | [], _, _=>List.nodup_nil
  | a :: r, h, nd=>by
    rw [List.map_cons, List.nodup_cons]
    refine ⟨fun m=>?_, Qh (fun x y hx hy=>h x y (List.mem_cons_of_mem _ hx) (List.mem_cons_of_mem _ hy)) (List.nodup_cons.mp nd).2⟩
    obtain ⟨b, hb, e⟩:=List.mem_map.mp m
    have:=h b a (List.mem_cons_of_mem _ hb) List.mem_cons_self e
    exact (List.nodup_cons.mp nd).1 (by rw [← this]; exact hb)
theorem QK (S : Nat) : (FQ S).Nodup:=Qh (fun a b _ _ e=>by first | lia | omega) List.nodup_range
theorem Jz {α : Type} [DecidableEq α] : ∀ {l m : List α}, l.Nodup -> m.Nodup -> (∀ x, x ∈ l ↔ x ∈ m) -> l.Perm m
  | [], m, _, _, h=>by
    cases m with
    | nil=>exact List.Perm.refl _
    | cons a r=>exact absurd ((h a).mpr List.mem_cons_self) (by simp)
  | a :: r, m, nl, nm, h=>by
    have ha : a ∈ m:=(h a).mp List.mem_cons_self
    have hp : m.Perm (a :: m.erase a):=List.perm_cons_erase ha
    refine List.Perm.trans (List.Perm.cons a ?_) hp.symm
    have nd2 : (a :: m.erase a).Nodup:=hp.nodup_iff.mp nm
    refine Jz (List.nodup_cons.mp nl).2 (List.nodup_cons.mp nd2).2 fun x=>?_
    constructor
    . intro hx
      have hxa : x ≠ a:=fun e=>(List.nodup_cons.mp nl).1 (by rw [← e]; exact hx)
      have : x ∈ a :: m.erase a:=hp.mem_iff.mp ((h x).mp (List.mem_cons_of_mem _ hx))
      exact (List.mem_cons.mp this).resolve_left hxa
    . intro hx
      have hxa : x ≠ a:=fun e=>(List.nodup_cons.mp nd2).1 (e ▸ hx)
      have : x ∈ a :: r:=(h x).mpr (hp.mem_iff.mpr (List.mem_cons_of_mem _ hx))
      exact (List.mem_cons.mp this).resolve_left hxa
theorem DE {S : Nat} {r : Int × Int} (h0 : 0 <= r.1) (h1 : r.1 + 1 < (S : Int)) : ((FQ S).map (V9 r)).Perm (FQ S):=by
  refine Jz (Qh (fun a b _ _ e=>?_) (QK S)) (QK S) fun x=>?_
  . unfold V9 at e
    split at e <;> split at e <;> (try split at e) <;> (try split at e) <;> (first | lia | omega)
  . rw [List.mem_map, QE]
    constructor
    . rintro ⟨a, ha, rfl⟩
      have:=QE.mp ha
      exact K2 h0 h1 this.1 this.2
    . rintro ⟨x0, x1⟩
      refine ⟨V9 r x, QE.mpr (K2 h0 h1 x0 x1), ?_⟩
      unfold V9
      split <;> (try split) <;> (try split) <;> (first | lia | omega)
theorem ZV {α β : Type} (f : α -> List β) {l m : List α} (h : l.Perm m) : (l.flatMap f).Perm (m.flatMap f):=by
  induction h with
  | nil=>exact List.Perm.refl _
  | cons x _ ih=>rw [List.flatMap_cons, List.flatMap_cons]; exact List.Perm.append_left _ ih
  | swap x y l=>
    rw [List.flatMap_cons, List.flatMap_cons, List.flatMap_cons, List.flatMap_cons, ← List.append_assoc, ← List.append_assoc]
    exact List.Perm.append_right _ List.perm_append_comm
  | trans _ _ ih1 ih2=>exact ih1.trans ih2
theorem VA {α β : Type} (f g : α -> List β) : ∀ l : List α, (l.flatMap fun x=>f x ++ g x).Perm (l.flatMap f ++ l.flatMap g)
  | []=>List.Perm.refl _
  | a :: r=>by
    rw [List.flatMap_cons, List.flatMap_cons, List.flatMap_cons]
    refine (List.Perm.append_left _ (VA f g r)).trans ?_
    rw [List.append_assoc, List.append_assoc]
    refine List.Perm.append_left _ ?_
    rw [← List.append_assoc, ← List.append_assoc]
    exact List.Perm.append_right _ List.perm_append_comm
theorem Q6 {α β : Type} (f : α -> List β) : ∀ {l : List α}, (∀ x ∈ l, f x = []) -> l.flatMap f = []
  | [], _=>rfl
  | a :: r, h=>by rw [List.flatMap_cons, h a List.mem_cons_self, Q6 f fun x hx=>h x (List.mem_cons_of_mem _ hx)]; rfl
theorem Bp {S : Nat} {r : Int × Int} (h0 : 0 <= r.1) (h1 : r.1 + 1 < (S : Int)) : ((FQ S).flatMap (Gj r)).Perm [r.2, -r.2]:=by
  have ha : r.1 ∈ FQ S:=QE.mpr ⟨h0, by first | lia | omega⟩
  have hp:=List.perm_cons_erase ha
  have nd:=hp.nodup_iff.mp (QK S)
  have hb : r.1 + 1 ∈ (FQ S).erase r.1:=by
    have : r.1 + 1 ∈ r.1 :: (FQ S).erase r.1:=hp.mem_iff.mp (QE.mpr ⟨by first | lia | omega, h1⟩)
    exact (List.mem_cons.mp this).resolve_left (by first | lia | omega)
  have hq:=List.perm_cons_erase hb
  have nd2:=hq.nodup_iff.mp (List.nodup_cons.mp nd).2
  refine (ZV _ (hp.trans (List.Perm.cons _ hq))).trans ?_
  rw [List.flatMap_cons, List.flatMap_cons, Q6]
  . unfold Gj
    rw [if_pos rfl, if_neg (by first | lia | omega), if_pos rfl]
    exact List.Perm.refl _
  . intro x hx
    have x2 : x ≠ r.1 + 1:=fun e=>(List.nodup_cons.mp nd2).1 (e ▸ hx)
    have x1 : x ≠ r.1:=fun e=>(List.nodup_cons.mp nd).1 (e ▸ hq.mem_iff.mpr (List.mem_cons_of_mem _ hx))
    unfold Gj
    rw [if_neg x1, if_neg x2]
theorem Q7 {α β γ : Type} (f : α -> β) (g : β -> List γ) (l : List α) : (l.map f).flatMap g = l.flatMap fun x=>g (f x):=by
  induction l with
  | nil=>rfl
  | cons a r ih=>rw [List.map_cons, List.flatMap_cons, List.flatMap_cons, ih]
theorem GT {S : Nat} : ∀ {rs : List (Int × Int)}, (∀ r ∈ rs, 0 <= r.1 /\ r.1 + 1 < (S : Int)) -> ((FQ S).flatMap (KW rs)).Perm (rs.flatMap fun r=>[r.2, -r.2])
  | [], _=>by rw [Q6 (KW []) (fun x _=>rfl)]; exact List.Perm.refl _
  | r :: rs, h=>by
    obtain ⟨h0, h1⟩:=h r List.mem_cons_self
    rw [List.flatMap_cons]
    refine (VA (Gj r) (fun a=>KW rs (V9 r a)) (FQ S)).trans ?_
    refine List.Perm.append (Bp h0 h1) ?_
    rw [← Q7 (V9 r) (KW rs)]
    exact (ZV _ (DE h0 h1)).trans (GT fun q hq=>h q (List.mem_cons_of_mem _ hq))
theorem Hj {x s : Int} (h : s = 1 ∨ s = -1) : [x * s, -(x * s)].Perm [x, -x]:=by
  rcases h with h | h
  . subst h; simp
  . subst h
    have e1 : x * -1 = -x:=by first | lia | omega
    have e2 : -(-x) = x:=by first | lia | omega
    rw [e1, e2]
    exact List.Perm.swap _ _ _
theorem Jp {α β : Type} {f g : α -> List β} : ∀ {l : List α}, (∀ x ∈ l, (f x).Perm (g x)) -> (l.flatMap f).Perm (l.flatMap g)
  | [], _=>List.Perm.refl _
  | a :: r, h=>by
    rw [List.flatMap_cons, List.flatMap_cons]
    exact List.Perm.append (h a List.mem_cons_self) (Jp fun x hx=>h x (List.mem_cons_of_mem _ hx))
end My
namespace My
theorem HI {r : Int × Int} {a : Int} (h : a = r.1) : Gj r a = [r.2]:=by unfold Gj; rw [if_pos h]
theorem HK {r : Int × Int} {a : Int} (h : a = r.1 + 1) : Gj r a = [-r.2]:=by unfold Gj; rw [if_neg (by first | lia | omega), if_pos h]
theorem HC {r : Int × Int} {a : Int} (h : ¬ a = r.1) (h2 : ¬ a = r.1 + 1) : Gj r a = []:=by unfold Gj; rw [if_neg h, if_neg h2]
theorem Hb {r : Int × Int} {a : Int} (h : a = r.1) : V9 r a = r.1 + 1:=by unfold V9; rw [if_pos h]
theorem Hc {r : Int × Int} {a : Int} (h : a = r.1 + 1) : V9 r a = r.1:=by unfold V9; rw [if_neg (by first | lia | omega), if_pos h]
theorem Eo {r : Int × Int} {a : Int} (h : ¬ a = r.1) (h2 : ¬ a = r.1 + 1) : V9 r a = a:=by unfold V9; rw [if_neg h, if_neg h2]
structure Done (S : Int) (seen : List Bool) (ps : List Int) : Prop where
  nd : ps.Nodup
  at' : ∀ p ∈ ps, 0 <= p /\ p < S /\ seen[p.toNat]? = some true
  of : ∀ q : Nat, seen[q]? = some true -> (q : Int) ∈ ps
theorem Done.none (S : Int) (n : Nat) : Done S (List.replicate n false) []:=
  ⟨List.nodup_nil, fun p h=>by simp at h, fun q h=>by
    rw [List.getElem?_replicate] at h
    split at h <;> cases h⟩
theorem Um {l : List Bool} {j q : Nat} (h : l[q]? = some true) : (l.set j true)[q]? = some true:=by
  by_cases e : j = q
  . subst e
    rw [List.getElem?_set_self (List.getElem?_eq_some_iff.mp h).1]
  . rw [List.getElem?_set_ne e]; exact h
theorem Done.snoc {S : Int} {seen : List Bool} {ps : List Int} {a : Int} (h : Done S seen ps) (a0 : 0 <= a) (a1 : a < S) (e : seen[a.toNat]? = some false) : Done S (seen.set a.toNat true) (ps ++ [a]):=by
  have hl : a.toNat < seen.length:=(List.getElem?_eq_some_iff.mp e).1
  have hn : a ∉ ps:=fun m=>by
    have:=(h.at' a m).2.2
    rw [e] at this; cases this
  refine ⟨?_, fun p hp=>?_, fun q hq=>?_⟩
  . rw [List.nodup_append]
    refine ⟨h.nd, by simp, fun x hx y hy=>?_⟩
    rw [List.mem_singleton.mp hy]
    exact fun e=>hn (e ▸ hx)
  . rcases List.mem_append.mp hp with hp | hp
    . obtain ⟨h1, h2, h3⟩ := h.at' p hp
      exact ⟨h1, h2, Um h3⟩
    . rw [List.mem_singleton.mp hp]
      exact ⟨a0, a1, by rw [List.getElem?_set_self hl]⟩
  . by_cases hqa : a.toNat = q
    . exact List.mem_append_right _ (List.mem_singleton.mpr (by first | lia | omega))
    . rw [List.getElem?_set_ne hqa] at hq
      exact List.mem_append_left _ (h.of q hq)
theorem Done.all {S : Int} {seen : List Bool} {ps : List Int} (h : Done S seen ps) (hl : seen.length = S.toNat) (h0 : 0 <= S) (ha : ∀ q : Nat, q < S.toNat -> seen[q]? = some true) : ps.Perm (FQ S.toNat):=by
  refine Jz h.nd (QK _) fun x=>?_
  rw [QE]
  constructor
  . intro hx
    obtain ⟨h1, h2, _⟩:=h.at' x hx
    first | lia | omega
  . rintro ⟨x0, x1⟩
    have:=h.of x.toNat (ha x.toNat (by first | lia | omega))
    rw [show ((x.toNat : Nat) : Int) = x by first | lia | omega] at this
    exact this
theorem GX {seen : List Bool} {i : Nat} (h : ∀ q : Nat, q < i -> seen[q]? = some true) (hi : seen[i]? = some true) : ∀ q : Nat, q < i + 1 -> seen[q]? = some true:=fun q hq=>by
  by_cases e : q = i
  . subst e; exact hi
  . exact h q (by first | lia | omega)
end My
namespace My
open PySem L2
theorem F2 (ns : List Int) {p : Int} (hp : 0 <= p) : ∃ c, Vm ns p = .ok c:=by
  unfold Vm
  simp only [Rs.okb]
  by_cases h : p < (ns.length : Int)
  . rw [decide_eq_true h, if_pos rfl]
    have hl : p.toNat < ns.length:=by first | lia | omega
    exact ⟨ns[p.toNat], HZ hp (by simp [hl])⟩
  . rw [decide_eq_false h, if_neg Bool.false_ne_true]
    obtain ⟨g, e, _⟩:=UA (as:=Fw ns none (some 63)) (g:=(5 : Int)) (f:=fun g15 a17=>(Rs.bind (Rs.bind (Rs.bind (Rs.bind (QT g15 48271) fun x25=>(Rs.bind (QL a17 1000003) fun x26=>(Rs.ok (x25 + x26)))) fun x27=>Rs.ok (x27 + 1)) fun x29=>QL x29 2147483647) fun a19=>(Rs.ok (a19)))) (fun _ _=>True) True.intro fun i a g _ _=>by
      rw [Z8 (by decide) (by decide), Rs.ok_bind, Ym (by decide), Rs.ok_bind, Rs.ok_bind, Rs.ok_bind, Ym (by decide), Rs.ok_bind]
      exact ⟨_, rfl, True.intro⟩
    rw [e, Rs.ok_bind, Zz (by decide) (by decide), Rs.ok_bind, Rs.ok_bind, Ym (by decide)]
    exact ⟨_, rfl⟩
theorem Em (c : Int) {k : Int} (h0 : 0 <= k) (h1 : k <= 100000) : ∃ y, K0 c k = .ok y /\ 0 <= y:=by
  unfold K0
  simp only [Rs.okb]
  have hm : 0 <= c % 2147483629 /\ c % 2147483629 < 2147483629:=⟨Int.emod_nonneg _ (by decide), Int.emod_lt_of_pos _ (by decide)⟩
  rw [Ym (by decide), Rs.ok_bind, Zz (by decide) (by decide), Rs.ok_bind, Rs.ok_bind, Rs.ok_bind, F0 (by decide) (by decide) (by first | lia | omega) (by first | lia | omega), Rs.ok_bind, Ym (by decide), Rs.ok_bind]
  rw [Z8 (by decide) (by decide), Rs.ok_bind, Zz (by decide) (by decide), Rs.ok_bind, Z8 (by first | lia | omega) (by first | lia | omega), Rs.ok_bind, Rs.ok_bind, Rs.ok_bind, Ym (by decide), Rs.ok_bind, CW (by decide) (by decide)]
  exact ⟨_, rfl, Int.ediv_nonneg (Int.emod_nonneg _ (by decide)) (by decide)⟩
theorem Du (ns : List Int) {p : Int} (hp : 0 <= p) (sizes : List Int) (hl : sizes.length <= 100000) (hs : ∀ x ∈ sizes, 0 < x /\ x < 2 ^ 250) :
    Ok (V1 ns p sizes) fun r=>r.length = sizes.length /\ ∀ (i : Nat) x s, r[i]? = some x -> sizes[i]? = some s -> 0 <= x /\ x < s:=by
  obtain ⟨c, ec⟩:=F2 ns hp
  unfold V1
  simp only [Rs.okb]
  rw [ec, show noE (Rs.ok c) = .ok c from rfl, Rs.ok_bind, Y2 (by first | lia | omega), Rs.ok_bind, F0 (by decide) (by decide) (by decide) (by decide)]
  simp only [Rs.okb]
  have key : ∀ (i : Nat) (a : Int) (g : List Int × Int), ((List.range sizes.length).map fun (i : Nat)=>(i : Int))[i]? = some a -> (g.1.length = i /\ ∀ (j : Nat) x s, g.1[j]? = some x -> sizes[j]? = some s -> 0 <= x /\ x < s) -> ∀ y z : Int, ∀ s, sizes[i]? = some s -> 0 <= y /\ y < s -> ((g.1 ++ [y], z).1.length = i + 1 /\ ∀ (j : Nat) x s, (g.1 ++ [y], z).1[j]? = some x -> sizes[j]? = some s -> 0 <= x /\ x < s):=by
    intro i a g ha ⟨hg, hq⟩ y z s hs1 hy
    refine ⟨by simp [hg], fun j x s' hx hs'=>?_⟩
    have hx : (g.1 ++ [y])[j]? = some x:=hx
    rcases Nat.lt_trichotomy j i with hj | hj | hj
    . rw [List.getElem?_append_left (by first | lia | omega)] at hx; exact hq j x s' hx hs'
    . subst hj
      rw [List.getElem?_append_right (by first | lia | omega), hg, Nat.sub_self] at hx
      have : y = x:=by simpa using hx
      rw [hs1] at hs'
      cases hs'
      rw [← this]; exact hy
    . rw [List.getElem?_eq_none (by simp; (first | lia | omega))] at hx; cases hx
  refine Ok.bind (Ok.forN (fun i (g : List Int × Int)=>g.1.length = i /\ ∀ (j : Nat) x s, g.1[j]? = some x -> sizes[j]? = some s -> 0 <= x /\ x < s) ⟨rfl, fun j x s h _=>by simp at h⟩ fun i a g ha hg=>?_) (T:=fun (r : List Int)=>r.length = sizes.length /\ ∀ (i : Nat) x s, r[i]? = some x -> sizes[i]? = some s -> 0 <= x /\ x < s) fun g ⟨hg, hq⟩=>?_
  . obtain ⟨rfl, hi⟩ := Yp ha
    have hsz : sizes[i]? = some sizes[i]:=by simp [hi]
    have hsp:=hs _ (List.getElem_mem hi)
    have hgl : g.1.length < sizeLine:=Fs (by have:=hg.1; (first | lia | omega))
    by_cases hc : c < 10 ^ (18 : Int).toNat
    . rw [decide_eq_true hc, if_pos rfl]
      obtain ⟨y, ey, hy⟩:=Em c (k:=(i : Int)) (by first | lia | omega) (by first | lia | omega)
      rw [ey, show noE (Rs.ok y) = .ok y from rfl, Rs.ok_bind, Yr hsz, Rs.ok_bind, Ym hsp.1, Rs.ok_bind, XF hgl]
      exact ⟨_, rfl, key i _ g ha hg _ _ _ hsz ⟨Int.emod_nonneg _ (by first | lia | omega), Int.emod_lt_of_pos _ hsp.1⟩⟩
    . rw [decide_eq_false hc, if_neg Bool.false_ne_true]
      by_cases hq : 0 < g.2
      . rw [decide_eq_true hq, if_pos rfl, Yr hsz, Rs.ok_bind, Ym hsp.1, Rs.ok_bind, XF hgl]
        simp only [Rs.okb]
        rw [CW hsp.1 hsp.2]
        exact ⟨_, rfl, key i _ g ha hg _ _ _ hsz ⟨Int.emod_nonneg _ (by first | lia | omega), Int.emod_lt_of_pos _ hsp.1⟩⟩
      . rw [decide_eq_false hq, if_neg Bool.false_ne_true, Ym (by decide), Rs.ok_bind]
        obtain ⟨c2, ec2⟩:=F2 ns (p:=(p + 1 + (i : Int)) % 63) (Int.emod_nonneg _ (by decide))
        obtain ⟨y, ey, hy⟩:=Em c2 (k:=(i : Int)) (by first | lia | omega) (by first | lia | omega)
        rw [ec2, show noE (Rs.ok c2) = .ok c2 from rfl, Rs.ok_bind, ey, show noE (Rs.ok y) = .ok y from rfl, Rs.ok_bind, Yr hsz, Rs.ok_bind, Ym hsp.1, Rs.ok_bind, XF hgl]
        exact ⟨_, rfl, key i _ g ha hg _ _ _ hsz ⟨Int.emod_nonneg _ (by first | lia | omega), Int.emod_lt_of_pos _ hsp.1⟩⟩
  . rw [Yi] at hg
    exact ⟨g.1, rfl, hg, hq⟩
end My
namespace My
open PySem L2
theorem YQ {α : Type} {r : List α} {k : Int} {n : Nat} (e : k = (n : Int)) (h : n < r.length) : atR r k = .ok r[n]:=by
  subst e; exact Yr (by simp [h])
theorem Jg {γ : Type} {c : γ -> Rs Bool} {f : γ -> Rs γ} (P : γ -> Prop) (μ : γ -> Nat) (hs : ∀ g, P g -> ∃ b, c g = .ok b /\ (b = true -> Ok (f g) fun g'=>P g' /\ μ g' < μ g)) : ∀ (n : Nat) (g : γ), P g -> μ g < n -> Ok (QV n g c f) fun g'=>P g' /\ c g' = .ok false
  | 0, _, _, h=>by first | lia | omega
  | n + 1, g, hp, hm=>by
    obtain ⟨b, hb, h⟩:=hs g hp
    show Ok ((c g).bind _) _
    rw [hb, Rs.okb]
    cases b with
    | false=>rw [if_neg Bool.false_ne_true]; exact ⟨g, rfl, hp, hb⟩
    | true=>
      rw [if_pos rfl]
      exact Ok.bind (h rfl) fun g' h'=>Jg P μ hs n g' h'.1 (by first | lia | omega)
theorem Be {ns r : List Int} (hl : ns.length <= 100) (hr : 8 * ns.length + 3 <= r.length) : Ok (JH ns r) fun l=>l.Perm ns:=by
  unfold JH
  simp only [Rs.okb]
  rw [Y2 (by first | lia | omega)]
  simp only [Rs.okb]
  refine Ok.bind (Ok.forN (fun i (g : List Int × List Int)=>g.1.length = i /\ (g.1 ++ g.2).Perm ns) ⟨rfl, List.Perm.refl _⟩ fun i a g ha hg=>?_) fun g hg=>?_
  . obtain ⟨rfl, hi⟩ := Yp ha
    obtain ⟨h1, h2⟩:=hg
    have hl:=h2.length_eq
    simp only [List.length_append] at hl
    rw [Zz (by decide) (by decide)]
    simp only [Rs.okb]
    rw [YQ (r:=r) (n:=8 * i + 9) (by first | lia | omega) (by first | lia | omega)]
    simp only [Rs.okb]
    have hpos : (0 : Int) < (g.2.length : Int):=by first | lia | omega
    generalize r[8 * i + 9] = y
    have hm1:=Int.emod_nonneg y (show (g.2.length : Int) ≠ 0 by first | lia | omega)
    have hm2:=Int.emod_lt_of_pos y hpos
    rw [Ym hpos, Rs.okb]
    generalize hk : y % (g.2.length : Int) = k at hm1 hm2
    obtain ⟨j, rfl⟩ : ∃ j : Nat, k = j:=⟨k.toNat, by first | lia | omega⟩
    have hj : j < g.2.length:=by first | lia | omega
    rw [Dm hj (by first | lia | omega), Rs.okb, XF (Fs (by first | lia | omega))]
    refine ⟨_, rfl, by simp [h1], ?_⟩
    refine List.Perm.trans ?_ h2
    show ((g.1 ++ [g.2[j]]) ++ g.2.eraseIdx j).Perm (g.1 ++ g.2)
    rw [List.append_assoc]
    exact (JD hj).append_left _
  . obtain ⟨h1, h2⟩ := hg
    rw [Yi] at h1
    have hl:=h2.length_eq
    simp only [List.length_append] at hl
    have : g.2 = []:=List.length_eq_zero_iff.mp (by first | lia | omega)
    rw [this, List.append_nil] at h2
    exact ⟨_, rfl, h2⟩
theorem Iw {ns r : List Int} {rings : Nat} (hl : ns.length <= 100) (hr : 8 * ns.length + 3 <= r.length) (hg : ns ≠ [] -> 1 <= rings) (hg2 : rings <= 100) : Ok (Fo ns r (rings : Int)) fun ws=>ws.length = rings /\ ws.flatten.Perm (ns.flatMap fun x=>[x, -x]):=by
  unfold Fo
  simp only [Rs.okb]
  refine Ok.bind (Ok.forN (fun i (g : List Int)=>g = (ns.take i).flatMap fun x=>[x, -x]) rfl fun i a g ha hg=>?_) fun g hgg=>?_
  . have hi := (List.getElem?_eq_some_iff.mp ha).1
    subst hg
    rw [XF (show [a, -a].length <= sizeLine from sz (by simp)), Rs.okb, XF (sz (by rw [Qq]; simp; (first | lia | omega)))]
    refine ⟨_, rfl, ?_⟩
    rw [List.take_add_one, ha]
    simp
  rw [List.take_length] at hgg
  subst hgg
  rw [Y2 (by first | lia | omega)]
  simp only [Rs.okb]
  rw [Qf (h:=fun _=>([] : List Int)) (sz (by simp; (first | lia | omega))) fun _ _=>rfl]
  simp only [Rs.okb]
  rw [Zz (by decide) (by decide), Rs.okb, show (2 : Int) * (ns.length : Int) = ((2 * ns.length : Nat) : Int) by first | lia | omega, Y2 (by first | lia | omega)]
  simp only [Rs.okb]
  refine Ok.bind (Ok.forN (fun i (g : List Int × List (List Int))=>g.2.length = rings /\ g.1.length + i = 2 * ns.length /\ (∀ w ∈ g.2, w.length <= i) /\ (g.2.flatten ++ g.1).Perm (ns.flatMap fun x=>[x, -x])) ⟨by simp, by rw [Qq]; rfl, fun w hw=>?_, ?_⟩ fun i a g ha hg=>?_) fun g hg=>?_
  . obtain ⟨_, _, rfl⟩ := List.mem_map.mp hw
    exact Nat.zero_le _
  . have : ∀ l : List Int, (l.map fun _ => ([] : List Int)).flatten = [] := fun l => by simp
    rw [this]; exact List.Perm.refl _
  . obtain ⟨rfl, hi⟩ := Yp ha
    obtain ⟨h1, h2, h3, h4⟩:=hg
    have hne : 1 <= rings:=by
      refine ‹ns ≠ [] -> 1 <= rings› fun e=>?_
      rw [e] at hi; simp at hi
    rw [Zz (by decide) (by decide)]
    simp only [Rs.okb]
    rw [YQ (r:=r) (n:=4 * i + 5) (by first | lia | omega) (by first | lia | omega)]
    simp only [Rs.okb]
    have hpos : (0 : Int) < (g.1.length : Int):=by first | lia | omega
    generalize r[4 * i + 5] = y
    have hm1:=Int.emod_nonneg y (show (g.1.length : Int) ≠ 0 by first | lia | omega)
    have hm2:=Int.emod_lt_of_pos y hpos
    rw [Ym hpos, Rs.okb]
    generalize hk : y % (g.1.length : Int) = k at hm1 hm2
    obtain ⟨j, rfl⟩ : ∃ j : Nat, k = j:=⟨k.toNat, by first | lia | omega⟩
    have hj : j < g.1.length:=by first | lia | omega
    rw [Dm hj (by first | lia | omega), Rs.okb]
    simp only [Rs.okb]
    rw [YQ (r:=r) (n:=4 * i + 6) (by first | lia | omega) (by first | lia | omega)]
    simp only [Rs.okb]
    generalize r[4 * i + 6] = y2
    have hp2 : (0 : Int) < (rings : Int):=by first | lia | omega
    have hn1:=Int.emod_nonneg y2 (show (rings : Int) ≠ 0 by first | lia | omega)
    have hn2:=Int.emod_lt_of_pos y2 hp2
    rw [Ym hp2, Rs.okb]
    generalize hk2 : y2 % (rings : Int) = k2 at hn1 hn2
    obtain ⟨q, rfl⟩ : ∃ q : Nat, k2 = q:=⟨k2.toNat, by first | lia | omega⟩
    have hq : q < g.2.length:=by first | lia | omega
    have hw:=h3 g.2[q] (List.getElem_mem hq)
    rw [YQ (n:=q) rfl hq, Rs.okb, XF (Fs (by first | lia | omega)), VI hq, Rs.okb]
    have hjs : g.1[j]? = some g.1[j]:=by simp [hj]
    have hqs : g.2[q]? = some g.2[q]:=by simp [hq]
    refine ⟨_, rfl, by simp [h1], ?_, fun w hw'=>?_, (C8 hqs hjs).trans h4⟩
    . have := U1 hjs
      show (g.1.eraseIdx j).length + (i + 1) = _
      first | lia | omega
    . rcases mem_set hw' with h | h
      . have:=h3 w h; (first | lia | omega)
      . rw [h]; simp; (first | lia | omega)
  . obtain ⟨h1, h2, h3, h4⟩ := hg
    rw [Yi] at h2
    have : g.1 = []:=List.length_eq_zero_iff.mp (by first | lia | omega)
    rw [this, List.append_nil] at h4
    exact ⟨_, rfl, h1, h4⟩
noncomputable def Vw (ns r : List Int) (sg : Int -> Int) (S : Int) : List (Int × Int):=(List.range ns.length).map fun k=>(r.getD (8 * k + 10) 0 % (S - 1), ns.getD k 0 * sg (ns.getD k 0))
theorem Fk {ns r : List Int} {sg : Int -> Int} {S : Int} {k : Nat} (h : k < ns.length) (h2 : 8 * k + 10 < r.length) : (Vw ns r sg S)[k]? = some (r[8 * k + 10] % (S - 1), ns[k] * sg ns[k]):=by
  unfold Vw
  rw [List.getElem?_map, List.getElem?_range h]
  simp [h, h2]
theorem Fq {ns r : List Int} {d : List (Int × Int)} {sg : Int -> Int} {S : Nat} (hl : ns.length <= 100) (hr : 8 * ns.length + 3 <= r.length) (hd : ∀ x ∈ ns, ZO d x = some (sg x)) (hs : ∀ x ∈ ns, sg x = 1 ∨ sg x = -1) (h2 : 2 <= S) (h4 : S <= 100) : Ok (Z4 ns d r (S : Int)) fun ws=>ws.length <= S /\ ws.flatten.Perm (ns.flatMap fun x=>[x, -x]):=by
  have hrs : ∀ q ∈ Vw ns r sg (S : Int), 0 <= q.1 /\ q.1 + 1 < (S : Int):=fun q hq=>by
    obtain ⟨k, _, rfl⟩:=List.mem_map.mp hq
    have hp : (0 : Int) < (S : Int) - 1:=by first | lia | omega
    have hm1:=Int.emod_nonneg (r.getD (8 * k + 10) 0) (show ((S : Int) - 1) ≠ 0 by first | lia | omega)
    have hm2:=Int.emod_lt_of_pos (r.getD (8 * k + 10) 0) hp
    show 0 <= _ % _ /\ _ % _ + 1 < _
    first | lia | omega
  have hrl : (Vw ns r sg (S : Int)).length = ns.length:=by simp [Vw]
  have hin : ∀ (rs : List (Int × Int)), (∀ q ∈ rs, 0 <= q.1 /\ q.1 + 1 < (S : Int)) -> ∀ a : Int, 0 <= a -> a < (S : Int) -> 0 <= BY rs a /\ BY rs a < (S : Int):=by
    intro rs
    induction rs with
    | nil=>intro _ a h0 h1; exact ⟨h0, h1⟩
    | cons q rs ih=>
      intro hq a h0 h1
      have h:=K2 (hq q (by simp)).1 (hq q (by simp)).2 h0 h1
      exact ih (fun x hx=>hq x (by simp [hx])) _ h.1 h.2
  have hcl : ∀ (rs : List (Int × Int)) (a : Int), (KW rs a).length <= rs.length:=by
    intro rs
    induction rs with
    | nil=>intro a; exact Nat.le_refl _
    | cons q rs ih=>
      intro a
      show (Gj q a ++ KW rs (V9 q a)).length <= _
      have h1 : (Gj q a).length <= 1:=by
        unfold Gj
        split
        . simp
        . split <;> simp
      have:=ih (V9 q a)
      simp only [List.length_append, List.length_cons]
      first | lia | omega
  unfold Z4
  simp only [Rs.okb]
  rw [XF (show [false].length <= sizeLine from sz (by simp)), Rs.okb, show KP [false] (S : Int) = .ok (List.replicate S false) from ?_]
  rotate_left
  . unfold KP
    rw [XF ⟨by first | lia | omega, by first | lia | omega, sz (by simp; (first | lia | omega))⟩, Int.toNat_natCast]
    congr 1
    clear h2 h4 hrs hin hrl
    induction S with
    | zero=>rfl
    | succ n ih=>rw [List.replicate_succ, List.flatten_cons, ih, List.replicate_succ]; rfl
  rw [Rs.okb, Y2 (by first | lia | omega), Rs.okb]
  generalize hR : Vw ns r sg (S : Int) = rs at hrs hrl
  refine Ok.bind (Ok.forN (fun i (g : List Bool × List (List Int))=>g.1.length = S /\ g.2.length <= i /\ (∀ q : Nat, q < i -> g.1[q]? = some true) /\ ∃ ps, Done (S : Int) g.1 ps /\ g.2.flatten = ps.flatMap (KW rs)) ⟨by simp, Nat.le_refl _, fun q hq=>by first | lia | omega, [], Done.none _ _, rfl⟩ fun i a g ha hg=>?_) fun g hg=>?_
  . obtain ⟨rfl, hi⟩ := Yp ha
    obtain ⟨g1, g2, g3, ps, g4, g5⟩:=hg
    have hi1 : i < g.1.length:=by first | lia | omega
    rw [YQ (n:=i) rfl hi1]
    simp only [Rs.okb]
    cases hb : g.1[i] with
    | true=>
      rw [show (!true) = false from rfl, if_neg Bool.false_ne_true]
      simp only [Rs.okb]
      exact ⟨_, rfl, g1, by show g.2.length <= _; (first | lia | omega), GX g3 (by simp [hi1, hb]), ps, g4, g5⟩
    | false=>
      rw [show (!false) = true from rfl, if_pos rfl]
      refine Ok.bind (R:=fun g' : List Bool × List (List Int)=>g'.1.length = S /\ g'.2.length <= i + 1 /\ (∀ q : Nat, q < i + 1 -> g'.1[q]? = some true) /\ ∃ ps, Done (S : Int) g'.1 ps /\ g'.2.flatten = ps.flatMap (KW rs)) (Ok.bind (Jg (fun g' : List Bool × Int × List Int=>g'.1.length = S /\ 0 <= g'.2.1 /\ g'.2.1 < (S : Int) /\ (∀ q : Nat, g.1[q]? = some true -> g'.1[q]? = some true) /\ ((g'.2.1 = (i : Int) /\ g'.1[i]? = some false) ∨ g'.1[i]? = some true) /\ g'.2.2.length + 100 * g'.1.count false <= 100 * S /\ ∃ qs, Done (S : Int) g'.1 (ps ++ qs) /\ g'.2.2 = qs.flatMap (KW rs)) (fun g'=>g'.1.count false) (fun g' hg'=>?_) _ (g.1, (i : Int), []) ⟨g1, by show (0 : Int) <= (i : Int); (first | lia | omega), by show (i : Int) < (S : Int); (first | lia | omega), fun q h=>h, .inl ⟨rfl, by simp [hi1, hb]⟩, by
        have : g.1.count false <= g.1.length:=List.count_le_length
        show 0 + 100 * g.1.count false <= 100 * S
        first | lia | omega, [], by rw [List.append_nil]; exact g4, rfl⟩ ?_) fun g' hg'=>?_) fun g' hg'=>?_
      . obtain ⟨w1, w2, w3, w4, w5, w8, qs, w6, w7⟩ := hg'
        obtain ⟨p, hp⟩ : ∃ p : Nat, g'.2.1 = (p : Int):=⟨g'.2.1.toNat, by first | lia | omega⟩
        have hpl : p < g'.1.length:=by first | lia | omega
        rw [YQ hp hpl]
        refine ⟨_, rfl, fun hf=>?_⟩
        have hf' : g'.1[p] = false:=by simpa using hf
        have hfs : g'.1[p]? = some false:=by simp [hpl, hf']
        rw [hp, VI hpl]
        simp only [Rs.okb]
        rw [Y2 (by first | lia | omega)]
        simp only [Rs.okb]
        refine Ok.bind (Ok.forN (fun k (h : Int × List Int)=>h.1 = BY (rs.take k) (p : Int) /\ h.2 = g'.2.2 ++ KW (rs.take k) (p : Int)) ⟨rfl, by rw [List.take_zero]; exact (List.append_nil _).symm⟩ fun k b h hb' hh=>?_) fun h hh=>?_
        . obtain ⟨rfl, hk⟩ := Yp hb'
          obtain ⟨e1, e2⟩:=hh
          have hq:=Fk (sg:=sg) (S:=(S : Int)) hk (show 8 * k + 10 < r.length by first | lia | omega)
          rw [hR] at hq
          have hts : rs.take (k + 1) = rs.take k ++ [(r[8 * k + 10] % ((S : Int) - 1), ns[k] * sg ns[k])]:=by rw [List.take_add_one, hq]; rfl
          rw [hts, Dd, F4, ← e1]
          rw [Zz (by decide) (by decide)]
          simp only [Rs.okb]
          rw [YQ (r:=r) (n:=8 * k + 10) (by first | lia | omega) (by first | lia | omega)]
          simp only [Rs.okb]
          rw [Ym (by first | lia | omega)]
          simp only [Rs.okb]
          rw [YQ (r:=ns) (n:=k) rfl hk]
          simp only [Rs.okb]
          have hgd : V0 d ns[k] = .ok (sg ns[k]):=by unfold V0; rw [hd _ (List.getElem_mem hk)]; rfl
          have hsg:=hs _ (List.getElem_mem hk)
          rw [hgd]
          simp only [Rs.okb]
          rw [Z8 (a:=ns[k]) (by first | lia | omega) (by first | lia | omega), Z8 (a:=-ns[k]) (by first | lia | omega) (by first | lia | omega)]
          simp only [Rs.okb]
          have hlen : h.2.length < sizeLine:=Fs (by
            have:=hcl (rs.take k) (p : Int)
            rw [List.length_take] at this
            rw [e2, List.length_append]; (first | lia | omega))
          rw [XF hlen, XF hlen]
          generalize r[8 * k + 10] % ((S : Int) - 1) = low
          by_cases c1 : h.1 = low
          . rw [if_pos (decide_eq_true c1)]
            simp only [Rs.okb]
            refine ⟨_, rfl, ?_, ?_⟩
            . rw [Hb c1]
            . rw [HI c1, e2, List.append_assoc]
          . rw [if_neg (by rw [decide_eq_false c1]; exact Bool.false_ne_true)]
            by_cases c2 : h.1 = low + 1
            . rw [if_pos (decide_eq_true c2)]
              simp only [Rs.okb]
              refine ⟨_, rfl, ?_, ?_⟩
              . rw [Hc c2]
              . rw [HK c2, e2, List.append_assoc, Int.neg_mul]
            . rw [if_neg (by rw [decide_eq_false c2]; exact Bool.false_ne_true)]
              simp only [Rs.okb]
              refine ⟨_, rfl, ?_, ?_⟩
              . rw [Eo c1 c2]
              . rw [HC c1 c2, List.append_nil, e2]
        . rw [Yi, ← hrl, List.take_length] at hh
          obtain ⟨e1, e2⟩:=hh
          have hpr:=hin rs hrs (p : Int) (by first | lia | omega) (by first | lia | omega)
          have hct:=Ke hfs
          have hcl':=hcl rs (p : Int)
          refine ⟨_, rfl, ⟨?_, ?_, ?_, ?_, ?_, ?_, qs ++ [(p : Int)], ?_, ?_⟩, ?_⟩
          . show (g'.1.set p true).length = S
            rw [List.length_set]; exact w1
          . show 0 <= h.1
            rw [e1]; exact hpr.1
          . show h.1 < _
            rw [e1]; exact hpr.2
          . exact fun q hq=>Um (w4 q hq)
          . refine .inr ?_
            show (g'.1.set p true)[i]? = some true
            rcases w5 with ⟨h1, _⟩ | h1
            . have : p = i := by first | lia | omega
              subst this
              rw [List.getElem?_set_self hpl]
            . exact Um h1
          . show h.2.length + 100 * (g'.1.set p true).count false <= 100 * S
            rw [e2, List.length_append]; (first | lia | omega)
          . rw [← List.append_assoc]
            have:=w6.snoc (a:=(p : Int)) (by first | lia | omega) (by first | lia | omega) (by rw [Int.toNat_natCast]; exact hfs)
            rwa [Int.toNat_natCast] at this
          . show h.2 = _
            rw [e2, w7, List.flatMap_append]
            simp
          . show (g'.1.set p true).count false < g'.1.count false
            first | lia | omega
      . have : g.1.count false <= g.1.length := List.count_le_length
        show g.1.count false < (S : Int).natAbs + 2
        first | lia | omega
      . obtain ⟨⟨w1, w2, w3, w4, w5, w8, qs, w6, w7⟩, hc⟩ := hg'
        obtain ⟨p, hp⟩ : ∃ p : Nat, g'.2.1 = (p : Int):=⟨g'.2.1.toNat, by first | lia | omega⟩
        have hpl : p < g'.1.length:=by first | lia | omega
        rw [YQ hp hpl, Rs.okb] at hc
        have hc' : g'.1[p] = true:=by
          have:=Rs.ok.inj hc
          simpa using this
        have h5 : g'.1[i]? = some true:=by
          rcases w5 with ⟨h1, h6⟩ | h1
          . have : p = i := by first | lia | omega
            subst this
            rw [List.getElem?_eq_getElem hpl, hc'] at h6
            cases h6
          . exact h1
        rw [XF (Fs (by first | lia | omega))]
        refine ⟨_, rfl, w1, ?_, ?_, ps ++ qs, w6, ?_⟩
        . show (g.2 ++ [g'.2.2]).length <= _
          simp; (first | lia | omega)
        . exact GX (fun q hq=>w4 q (g3 q hq)) h5
        . show (g.2 ++ [g'.2.2]).flatten = _
          rw [List.flatten_append, g5, List.flatMap_append, w7]
          simp
      . exact ⟨_, rfl, hg'⟩
  . obtain ⟨g1, g2, g3, ps, g4, g5⟩ := hg
    rw [Yi] at g2 g3
    refine ⟨_, rfl, g2, ?_⟩
    rw [g5]
    refine (ZV _ (g4.all (by rw [g1]; rfl) (by first | lia | omega) fun q hq=>g3 q (by first | lia | omega))).trans ?_
    rw [Int.toNat_natCast]
    refine (GT hrs).trans ?_
    rw [← hR]
    unfold Vw
    rw [Q7]
    have e : ns.flatMap (fun x=>[x, -x]) = (List.range ns.length).flatMap fun k=>[ns.getD k 0, -(ns.getD k 0)]:=by
      have h : ns = (List.range ns.length).map fun k=>ns.getD k 0:=List.ext_getElem (by simp) fun j h1 h2=>by simp [h1]
      conv=>lhs; rw [h]
      rw [Q7]
    rw [e]
    refine Jp fun k hk=>Hj (hs _ ?_)
    have hk':=List.mem_range.mp hk
    simp [hk']
end My
namespace My
open PySem L2
theorem Dg {α : Type} {l : List α} {m c : Nat} (hm : l.length = m) (hc : c < m) : ∀ {n j : Nat}, j < n -> (List.replicate n l).flatten[m * j + c]? = l[c]?
  | 0, _, h=>by first | lia | omega
  | n + 1, 0, _=>by
    rw [List.replicate_succ, List.flatten_cons, Nat.mul_zero, Nat.zero_add, List.getElem?_append_left (by first | lia | omega)]
  | n + 1, j + 1, h=>by
    rw [List.replicate_succ, List.flatten_cons, List.getElem?_append_right (by rw [hm, Nat.mul_succ]; (first | lia | omega)), hm, show m * (j + 1) + c - m = m * j + c by rw [Nat.mul_succ]; (first | lia | omega)]
    exact Dg hm hc (by first | lia | omega)
theorem CY {α : Type} (l : List α) : ∀ n : Nat, (List.replicate n l).flatten.length = n * l.length
  | 0=>by simp
  | n + 1=>by rw [List.replicate_succ, List.flatten_cons, List.length_append, CY l n, Nat.succ_mul]; (first | lia | omega)
structure Drawn (most : Nat) (D : List (List Int) × List (Int × Int)) : Prop where
  le : D.2.length <= most
  inc : (D.2.map Prod.fst).Pairwise (· < ·)
  pos : ∀ e ∈ D.2, 1 <= e.1 /\ e.1 < 2 ^ 62 /\ (e.2 = 1 ∨ e.2 = -1)
  perm : D.1.flatten.Perm ((D.2.map Prod.fst).flatMap fun x=>[x, -x])
  few : D.1.length <= 5
theorem DL : ∀ {d : List (Int × Int)} {x : Int}, x ∈ d.map Prod.fst -> ∃ v, ZO d x = some v /\ (x, v) ∈ d
  | [], _, h=>by simp at h
  | kv :: d, x, h=>by
    by_cases c : kv.1 = x
    . exact ⟨kv.2, by simp [ZO, List.find?_cons, c], by rw [← c]; simp⟩
    . have hx : x ∈ d.map Prod.fst:=by
        rw [List.map_cons, List.mem_cons] at h
        rcases h with h | h
        . exact absurd h.symm c
        . exact h
      obtain ⟨v, h1, h2⟩:=DL hx
      exact ⟨v, by unfold ZO at h1 ⊢; rw [List.find?_cons, decide_eq_false c]; exact h1, List.mem_cons_of_mem _ h2⟩
theorem Bo {d : List (Int × Int)} {k v : Int} (h : ∀ x ∈ d.map Prod.fst, x ≠ k) : K1 d k v = d ++ [(k, v)]:=by
  unfold K1
  rw [if_neg]
  rw [List.any_eq_true]
  rintro ⟨kv, h1, h2⟩
  exact h kv.1 (List.mem_map.mpr ⟨kv, h1, rfl⟩) (by simpa using h2)
theorem Bv (ns : List Int) {p : Int} (hp : 0 <= p) {most : Nat} (hm : most <= 100) : Ok (QY ns p (most : Int)) (Drawn most):=by
  unfold QY
  simp only [Rs.okb]
  rw [XF (sz (by simp))]
  simp only [Rs.okb]
  rw [XF (sz (by simp))]
  simp only [Rs.okb]
  rw [Zz (by decide) (by decide), Rs.okb, show (2 : Int) * (most : Int) = ((2 * most : Nat) : Int) by first | lia | omega]
  rw [show KP [(80 : Int), 5, 2, 3] ((2 * most : Nat) : Int) = .ok (List.replicate (2 * most) [(80 : Int), 5, 2, 3]).flatten from by
    unfold KP
    rw [XF ⟨by first | lia | omega, by first | lia | omega, sz (by simp; (first | lia | omega))⟩, Int.toNat_natCast]]
  simp only [Rs.okb]
  have hrl:=CY [(80 : Int), 5, 2, 3] (2 * most)
  have hrg : ∀ {j c : Nat}, c < 4 -> j < 2 * most -> (List.replicate (2 * most) [(80 : Int), 5, 2, 3]).flatten[4 * j + c]? = [(80 : Int), 5, 2, 3][c]?:=fun {j c} hc hj=>Dg rfl hc hj
  have hrm : ∀ x ∈ (List.replicate (2 * most) [(80 : Int), 5, 2, 3]).flatten, 0 < x /\ x < 2 ^ 250:=fun x hx=>by
    obtain ⟨l, h1, h2⟩:=List.mem_flatten.mp hx
    rw [(List.mem_replicate.mp h1).2] at h2
    simp only [List.mem_cons, List.not_mem_nil, or_false] at h2
    rcases h2 with rfl | rfl | rfl | rfl <;> decide
  generalize (List.replicate (2 * most) [(80 : Int), 5, 2, 3]).flatten = tl at hrl hrg hrm
  rw [show ([(80 : Int), 5, 2, 3]).length = 4 from rfl] at hrl
  rw [show HH [(most : Int) + 1, 5, 4, 3, 3] tl = .ok ([(most : Int) + 1, 5, 4, 3, 3] ++ tl) from XF (sz (by simp; (first | lia | omega)))]
  simp only [Rs.okb]
  refine Ok.bind (Ok.noE (Du ns hp _ (by simp; (first | lia | omega)) fun x hx=>?_)) fun r hr=>?_
  . rw [List.mem_append] at hx
    rcases hx with h | h
    . simp only [List.mem_cons, List.not_mem_nil, or_false] at h
      rcases h with rfl | rfl | rfl | rfl | rfl
      . refine ⟨by first | lia | omega, by first | lia | omega⟩
      all_goals decide
    . exact hrm x h
  obtain ⟨hl, hv⟩:=hr
  have hl' : r.length = 5 + 8 * most:=by rw [hl]; simp; (first | lia | omega)
  have hv5 : ∀ (j c : Nat) (s : Int), c < 4 -> j < 2 * most -> [(80 : Int), 5, 2, 3][c]? = some s -> ∀ h : 5 + 4 * j + c < r.length, 0 <= r[5 + 4 * j + c] /\ r[5 + 4 * j + c] < s:=fun j c s hc hj hs h=>by
    refine hv (5 + 4 * j + c) _ s (by simp [h]) ?_
    rw [List.getElem?_append_right (by simp; (first | lia | omega))]
    simp only [List.length_cons, List.length_nil]
    rw [show 5 + 4 * j + c - (0 + 1 + 1 + 1 + 1 + 1) = 4 * j + c by first | lia | omega, hrg hc hj]
    exact hs
  have v0:=hv 0 r[0] _ (by simp) rfl
  have v1:=hv 1 r[1] _ (by simp) rfl
  have v2:=hv 2 r[2] _ (by simp) rfl
  have v3:=hv 3 r[3] _ (by simp) rfl
  have v4:=hv 4 r[4] _ (by simp) rfl
  rw [YQ (r:=r) (k:=0) (n:=0) rfl (by first | lia | omega), YQ (r:=r) (k:=1) (n:=1) rfl (by first | lia | omega), YQ (r:=r) (k:=2) (n:=2) rfl (by first | lia | omega), YQ (r:=r) (k:=3) (n:=3) rfl (by first | lia | omega), YQ (r:=r) (k:=4) (n:=4) rfl (by first | lia | omega)]
  simp only [Rs.okb]
  obtain ⟨m0, hm0⟩ : ∃ m0 : Nat, r[0] = m0:=⟨r[0].toNat, by first | lia | omega⟩
  rw [hm0] at v0 ⊢
  rw [Y2 (by first | lia | omega), F0 (by decide) (by decide) (by decide) (by decide)]
  simp only [Rs.okb]
  rw [XF (sz (by simp))]
  simp only [Rs.okb]
  have hz : ∃ z, atR [0, 1, (10 : Int) ^ (9 : Int).toNat] r[3] = .ok z /\ 0 <= z /\ z <= 1000000000:=by
    rcases (by first | lia | omega : r[3] = 0 ∨ r[3] = 1 ∨ r[3] = 2) with h | h | h <;> rw [h]
    . exact ⟨0, rfl, by decide, by decide⟩
    . exact ⟨1, rfl, by decide, by decide⟩
    . exact ⟨1000000000, rfl, by decide, by decide⟩
  obtain ⟨z, hz, hz0, hz1⟩:=hz
  rw [hz]
  simp only [Rs.okb]
  refine Ok.bind (Ok.forN (fun i (g : Int × List (Int × Int) × List Int)=>g.2.1.map Prod.fst = g.2.2 /\ g.2.2.length = i /\ 0 <= g.1 /\ g.1 <= (i : Int) * 3000000000 /\ g.2.2.Pairwise (· < ·) /\ (∀ x ∈ g.2.2, 1 <= x /\ x <= g.1) /\ ∀ e ∈ g.2.1, e.2 = 1 ∨ e.2 = -1) ⟨rfl, rfl, Int.le_refl _, by decide, List.Pairwise.nil, fun x hx=>(by cases hx), fun x hx=>(by cases hx)⟩ fun i a g ha hg=>?_) fun g hg=>?_
  . obtain ⟨rfl, hi⟩ := Yp ha
    obtain ⟨h1, h2, h3, h4, h5, h6, h7⟩:=hg
    have hA : 5 + 4 * (2 * i) + 3 < r.length:=by first | lia | omega
    have hB : 5 + 4 * (2 * i) + 2 < r.length:=by first | lia | omega
    have kA:=hv5 (2 * i) 3 3 (by first | lia | omega) (by first | lia | omega) rfl hA
    have kB:=hv5 (2 * i) 2 2 (by first | lia | omega) (by first | lia | omega) rfl hB
    rw [Zz (a:=8) (by decide) (by decide)]
    simp only [Rs.okb]
    rw [YQ (r:=r) (k:=8 * (i : Int) + 8) (n:=5 + 4 * (2 * i) + 3) (by first | lia | omega) hA, YQ (r:=r) (k:=8 * (i : Int) + 7) (n:=5 + 4 * (2 * i) + 2) (by first | lia | omega) hB]
    simp only [Rs.okb]
    generalize r[5 + 4 * (2 * i) + 3] = y at kA
    generalize r[5 + 4 * (2 * i) + 2] = y2 at kB
    rw [Zz (a:=y) (by first | lia | omega) (by first | lia | omega), Zz (a:=2) (by decide) (by decide)]
    simp only [Rs.okb]
    have hd1 : g.2.1.length = i:=by rw [← h2, ← h1, List.length_map]
    rw [XF (Fs (by first | lia | omega)), XF (Fs (by first | lia | omega))]
    have q0 : 0 <= y * z:=Int.mul_nonneg kA.1 hz0
    have q1 : y * z <= 2 * 1000000000:=Int.mul_le_mul (by first | lia | omega) hz1 hz0 (by decide)
    generalize y * z = st at q0 q1
    have hnew : ∀ x ∈ g.2.1.map Prod.fst, x ≠ g.1 + 1 + st:=fun x hx e=>by
      rw [h1] at hx
      have:=(h6 x hx).2
      first | lia | omega
    rw [Bo hnew]
    refine ⟨_, rfl, ?_, ?_, ?_, ?_, ?_, ?_, ?_⟩
    . show (g.2.1 ++ [(g.1 + 1 + st, 2 * y2 - 1)]).map Prod.fst = g.2.2 ++ [g.1 + 1 + st]
      rw [List.map_append, h1]; rfl
    . show (g.2.2 ++ [g.1 + 1 + st]).length = _
      simp [h2]
    . show 0 <= g.1 + 1 + st
      first | lia | omega
    . show g.1 + 1 + st <= _
      first | lia | omega
    . show (g.2.2 ++ [g.1 + 1 + st]).Pairwise (· < ·)
      rw [List.pairwise_append]
      refine ⟨h5, by simp, fun x hx w hw=>?_⟩
      rw [List.mem_singleton] at hw
      have:=(h6 x hx).2
      first | lia | omega
    . intro x hx
      show 1 <= x /\ x <= g.1 + 1 + st
      rcases List.mem_append.mp hx with h | h
      . have:=h6 x h; (first | lia | omega)
      . rw [List.mem_singleton] at h; (first | lia | omega)
    . intro e he
      rcases List.mem_append.mp he with h | h
      . exact h7 e h
      . rw [List.mem_singleton] at h
        subst h
        show 2 * y2 - 1 = 1 ∨ 2 * y2 - 1 = -1
        first | lia | omega
  obtain ⟨h1, h2, h3, h4, h5, h6, h7⟩:=hg
  rw [Yi] at h2 h4
  generalize hN : g.2.2 = names at *
  generalize hD : g.2.1 = d at *
  have hsg : ∀ x ∈ names, ZO d x = some ((ZO d x).getD 1) /\ ((ZO d x).getD 1 = 1 ∨ (ZO d x).getD 1 = -1):=fun x hx=>by
    obtain ⟨v, e1, e2⟩:=DL (d:=d) (x:=x) (by rw [h1]; exact hx)
    rw [e1]
    exact ⟨rfl, h7 _ e2⟩
  have hmap : KM names (fun a=>(V0 d a).bind fun x=>.ok (a, x)) = .ok (names.map fun a=>(a, (ZO d a).getD 1)):=Qf (sz (by first | lia | omega)) fun a ha=>by
    unfold V0
    rw [(hsg a ha).1]; rfl
  refine Ok.bind (R:=fun ws : List (List Int)=>ws.length <= 5 /\ ws.flatten.Perm (names.flatMap fun x=>[x, -x])) (Ok.ite (fun _=>?_) fun _=>?_) fun ws hws=>?_
  . refine Ok.bind (R := fun ws : List (List Int) => ws.length <= 5 /\ ws.flatten.Perm (names.flatMap fun x => [x, -x])) ?_ fun ws hws => ⟨_, rfl, hws⟩
    refine Ok.bind (Ok.noE (Be (by first | lia | omega) (by first | lia | omega))) fun l hl2=>?_
    rw [show (2 : Int) + r[4] = ((2 + r[4].toNat : Nat) : Int) by first | lia | omega]
    have hln:=hl2.length_eq
    refine Ok.noE (Ok.imp (Fq (sg:=fun x=>(ZO d x).getD 1) (by first | lia | omega) (by first | lia | omega) (fun x hx=>(hsg x (hl2.mem_iff.mp hx)).1) (fun x hx=>(hsg x (hl2.mem_iff.mp hx)).2) (by first | lia | omega) (by first | lia | omega)) fun ws hw=>⟨by first | lia | omega, hw.2.trans (ZV _ hl2)⟩)
  . refine Ok.bind (R := fun ws : List (List Int) => ws.length <= 5 /\ ws.flatten.Perm (names.flatMap fun x => [x, -x])) ?_ fun ws hws => ⟨_, rfl, hws⟩
    obtain ⟨rings, hrings⟩ : ∃ k : Nat, max r[1] (min (names.length : Int) 1) = (k : Int):=⟨(max r[1] (min (names.length : Int) 1)).toNat, by first | lia | omega⟩
    rw [hrings]
    refine Ok.noE (Ok.imp (Iw (by first | lia | omega) (by first | lia | omega) (fun hne=>?_) (by first | lia | omega)) fun ws hw=>⟨by first | lia | omega, hw.2⟩)
    have : 0 < names.length:=List.length_pos_iff.mpr hne
    first | lia | omega
  . rw [hmap]
    simp only [Rs.okb]
    have hfst : (names.map fun a=>(a, (ZO d a).getD 1)).map Prod.fst = names:=by rw [List.map_map]; exact List.map_id' _
    refine ⟨_, rfl, ?_, ?_, ?_, ?_, hws.1⟩
    . show (names.map fun a => (a, (ZO d a).getD 1)).length <= most
      simp; (first | lia | omega)
    . show ((names.map fun a => (a, (ZO d a).getD 1)).map Prod.fst).Pairwise _
      rw [hfst]; exact h5
    . intro e he
      obtain ⟨x, hx, rfl⟩:=List.mem_map.mp he
      have:=h6 x hx
      refine ⟨this.1, ?_, (hsg x hx).2⟩
      show x < 2 ^ 62
      first | lia | omega
    . show ws.flatten.Perm (((names.map fun a => (a, (ZO d a).getD 1)).map Prod.fst).flatMap fun x => [x, -x])
      rw [hfst]; exact hws.2
end My
namespace My
open PySem L2
theorem Fy {r : List Int} {n : Nat} (hn : n <= 1000) (hr : n <= r.length) : Ok (Z3 r (n : Int)) fun sp=>∃ p q, UY n sp p q:=by
  unfold Z3
  simp only [Rs.okb]
  rw [XF (by first | lia | omega)]
  simp only [Rs.okb]
  rw [Y2 (by first | lia | omega)]
  simp only [Rs.okb]
  have e0 : Qt 0 (n : Int) = (List.range n).map fun (i : Nat)=>(i : Int):=by
    unfold Qt
    rw [Int.sub_zero, Int.toNat_natCast]
    exact List.map_congr_left fun i _=>by first | lia | omega
  refine Ok.bind (Ok.forN (fun i (g : List Int × List Int)=>g.1.length = i /\ (g.1 ++ g.2).Perm ((List.range n).map fun (i : Nat)=>(i : Int))) ⟨rfl, by rw [e0]; exact List.Perm.refl _⟩ fun i a g ha hg=>?_) fun g hg=>?_
  . obtain ⟨rfl, hi⟩ := Yp ha
    obtain ⟨h1, h2⟩:=hg
    have hl:=h2.length_eq
    simp only [List.length_append, List.length_map, List.length_range] at hl
    have hri : r[i]? = some r[i]:=by simp [show i < r.length by first | lia | omega]
    have hpos : (0 : Int) < (g.2.length : Int):=by first | lia | omega
    have hm1:=Int.emod_nonneg r[i] (show (g.2.length : Int) ≠ 0 by first | lia | omega)
    have hm2:=Int.emod_lt_of_pos r[i] hpos
    rw [Yr hri, Rs.okb, Ym hpos, Rs.okb]
    generalize hk : r[i] % (g.2.length : Int) = k at hm1 hm2
    obtain ⟨j, rfl⟩ : ∃ j : Nat, k = j:=⟨k.toNat, by first | lia | omega⟩
    have hj : j < g.2.length:=by first | lia | omega
    rw [Dm hj (by first | lia | omega), Rs.okb, XF (Fs (by first | lia | omega))]
    refine ⟨_, rfl, by simp [h1], ?_⟩
    refine List.Perm.trans ?_ h2
    show ((g.1 ++ [g.2[j]]) ++ g.2.eraseIdx j).Perm (g.1 ++ g.2)
    rw [List.append_assoc]
    exact (JD hj).append_left _
  . obtain ⟨h1, h2⟩ := hg
    rw [Yi] at h1
    have hl:=h2.length_eq
    simp only [List.length_append, List.length_map, List.length_range] at hl
    have : g.2 = []:=List.length_eq_zero_iff.mp (by first | lia | omega)
    rw [this, List.append_nil] at h2
    exact ⟨_, rfl, By h2⟩
theorem CA {n : Nat} {f : Nat -> Nat -> Nat} {sp : List Int} {p q : Nat -> Nat} (hn : n <= 1000) (hf : ∀ a b, a < n -> b < n -> f a b < n) (hp : UY n sp p q) : QJ (Ze n f) sp = .ok (Ze n fun x y=>p (f (q x) (q y))):=by
  have P:=hp.1
  unfold QJ
  simp only [Rs.okb]
  rw [Qf (h:=fun a=>a) (sz (by rw [XZ]; (first | lia | omega))) fun a _=>rfl, Rs.okb]
  simp only [List.map_id', XZ]
  rw [Y2 (by first | lia | omega), Rs.okb]
  apply Ok.eq
  refine Ok.bind (Ok.forN (fun i g=>g = Ze n fun x y=>if q x < i then p (f (q x) (q y)) else f x y) (ZJ fun x y _ _=>by simp) fun i a g ha hg=>?_) fun g hg=>⟨g, rfl, ?_⟩
  . obtain ⟨rfl, hi⟩ := Yp ha
    subst hg
    simp only [Rs.okb]
    refine Ok.bind (Ok.forN (fun j g=>g = Ze n fun x y=>if q x < i ∨ (q x = i /\ q y < j) then p (f (q x) (q y)) else f x y) (ZJ fun x y _ _=>by simp) fun j b g hb hg=>?_) fun g hg=>⟨g, rfl, ?_⟩
    . obtain ⟨rfl, hj⟩ := Yp hb
      subst hg
      have hv:=hf i j hi hj
      rw [Ui hi, Rs.okb, KH hj, Rs.okb, hp.get hv, Rs.okb, hp.get hi, Rs.okb, Ui (P.lt i hi), Rs.okb, hp.get hj, Rs.okb, VI (by rw [ZQ]; exact P.lt j hj), Rs.okb, VI (by rw [XZ]; exact P.lt i hi), Rs.okb]
      refine ⟨_, rfl, ?_⟩
      rw [Hq (P.lt i hi)]
      refine ZJ fun x y hx hy=>?_
      by_cases e : x = p i /\ y = p j
      . rw [if_pos e, e.1, e.2, P.qp i hi, P.qp j hj, if_pos (by first | lia | omega)]
      . rw [if_neg e]
        have : ¬ (q x = i /\ q y = j):=fun ⟨e1, e2⟩=>e ⟨by rw [← e1, P.pq x hx], by rw [← e2, P.pq y hy]⟩
        by_cases c : q x < i ∨ (q x = i /\ q y < j)
        . rw [if_pos c, if_pos (by first | lia | omega)]
        . rw [if_neg c, if_neg (by first | lia | omega)]
    . subst hg
      rw [Yi]
      refine ZJ fun x y hx hy=>?_
      have:=P.qlt y hy
      by_cases c : q x < i + 1
      . rw [if_pos c, if_pos (by first | lia | omega)]
      . rw [if_neg c, if_neg (by first | lia | omega)]
  . subst hg
    rw [Yi]
    exact ZJ fun x y hx hy=>by rw [if_pos (P.qlt x hx)]
end My
namespace My
open PySem L2
theorem Vp (a b : Bool) : Us (.ok a) (.ok b) = .ok (a && b):=Ee fun _=>rfl
theorem FM {way k : Int} {n a b : Nat} (hn : 0 < n) (h1 : n <= 1000) (ha : a < n) (hb : b < n) : ZI way (n : Int) k (a : Int) (b : Int) = .ok (Fr way n k a b):=by
  unfold ZI Fr
  simp only [Rs.okb, Vp, Bool.and_eq_true, decide_eq_true_eq, gt_iff_lt, ge_iff_le]
  rw [CW (by decide) (by decide)]
  simp only [Rs.okb, Vp, Bool.and_eq_true, decide_eq_true_eq]
  rw [Zz (a:=2) (by decide) (by decide), Z8 (a:=k) (by first | lia | omega) (by first | lia | omega), Z8 (a:=1 - k) (by first | lia | omega) (by first | lia | omega)]
  simp only [Rs.okb]
  by_cases c1 : way = 1
  . rw [if_pos c1, if_pos c1]; exact Ym (by first | lia | omega)
  rw [if_neg c1, if_neg c1]
  by_cases c2 : way = 2
  . rw [if_pos c2, if_pos c2]; exact Ym (by first | lia | omega)
  rw [if_neg c2, if_neg c2]
  by_cases c3 : way = 3 /\ 2 < (n : Int) /\ (a : Int) < 2 /\ (b : Int) = (n : Int) - 1
  . rw [if_pos c3, if_pos c3]
  rw [if_neg c3, if_neg c3]
  by_cases c4 : way = 6 /\ (a : Int) < (n : Int) - 1 /\ (b : Int) = (n : Int) - 1
  . rw [if_pos c4, if_pos c4]; exact Ym (by first | lia | omega)
  rw [if_neg c4, if_neg c4]
  by_cases c5 : way = 4 /\ (a : Int) < (n : Int) / 2 /\ (b : Int) < (n : Int) / 2
  . rw [if_pos c5, if_pos c5]; exact Ym (by first | lia | omega)
  rw [if_neg c5, if_neg c5]
  by_cases c6 : way = 4 /\ (n : Int) / 2 <= (a : Int) /\ (n : Int) / 2 <= (b : Int)
  . rw [if_pos c6, if_pos c6, Ym (by first | lia | omega), Rs.okb]
  rw [if_neg c6, if_neg c6]
theorem U9 (x y : Int) : QF x y = .ok (Int.gcd x y : Int):=by
  unfold QF
  simp only [Rs.okb]
  apply Ok.eq
  refine Ok.bind (Jg (fun g : Int × Int=>∃ u v : Nat, g = ((u : Int), (v : Int)) /\ Nat.gcd u v = Int.gcd x y) (fun g=>g.2.toNat) (fun g hg=>?_) _ ((x.natAbs : Int), (y.natAbs : Int)) ⟨x.natAbs, y.natAbs, rfl, rfl⟩ ?_) fun g hg=>?_
  . obtain ⟨u, v, rfl, h⟩ := hg
    refine ⟨_, rfl, fun c=>?_⟩
    have c' : (0 : Int) < (v : Int):=of_decide_eq_true c
    show Ok ((QL (u : Int) (v : Int)).bind _) _
    rw [Ym c', Rs.okb]
    refine ⟨_, rfl, ⟨v, u % v, by rw [Int.natCast_emod], ?_⟩, ?_⟩
    . rw [← h, Nat.gcd_comm u v, Nat.gcd_rec v u, Nat.gcd_comm]
    . show ((u : Int) % (v : Int)).toNat < ((v : Int)).toNat
      have:=Int.emod_lt_of_pos (u : Int) c'
      have:=Int.emod_nonneg (u : Int) (show (v : Int) ≠ 0 by first | lia | omega)
      first | lia | omega
  . show ((y.natAbs : Int)).toNat < _
    first | lia | omega
  . obtain ⟨⟨u, v, rfl, h⟩, hc⟩ := hg
    have hc' : ¬ (0 : Int) < (v : Int):=by
      have:=Rs.ok.inj hc
      simpa using this
    have : v = 0:=by first | lia | omega
    subst this
    rw [Nat.gcd_zero_right] at h
    exact ⟨_, rfl, by show (u : Int) = _; rw [h]⟩
theorem HE {n : Nat} {t z : Int} (h : t = 1 + (n : Int) * z) : Int.gcd t n = 1:=by
  have h1 : ((Int.gcd t n : Nat) : Int) ∣ t:=Int.gcd_dvd_left ..
  have h2 : ((Int.gcd t n : Nat) : Int) ∣ (n : Int):=Int.gcd_dvd_right ..
  have h3 : ((Int.gcd t n : Nat) : Int) ∣ 1:=by
    have : (1 : Int) = t - (n : Int) * z:=by first | lia | omega
    rw [this]
    exact Int.dvd_sub h1 (Int.dvd_trans h2 (Int.dvd_mul_right ..))
  have h4:=Int.eq_one_of_dvd_one (by first | lia | omega) h3
  first | lia | omega
theorem EY {way k : Int} {n : Nat} (hn : 0 < n) (h1 : n <= 1000) : Ok (V7 way (n : Int) k) fun t=>∃ f, GoodF n f /\ t = Ze n f:=by
  unfold V7
  simp only [Rs.okb, Vp, Bool.and_eq_true, decide_eq_true_eq]
  by_cases c5 : way = 5 /\ (n : Int) = 4
  . rw [if_pos c5]
    have hn : n = 4:=by first | lia | omega
    subst hn
    exact ⟨[[0, 3, 1, 2], [2, 1, 3, 0], [3, 0, 2, 1], [1, 2, 0, 3]], rfl, JX, C0, BB.symm⟩
  rw [if_neg c5]
  have ht:=Int.emod_add_mul_ediv (1 - k) (n : Int)
  have ht0:=Int.emod_nonneg (1 - k) (show (n : Int) ≠ 0 by first | lia | omega)
  have ht1:=Int.emod_lt_of_pos (1 - k) (show (0 : Int) < (n : Int) by first | lia | omega)
  generalize hq : (1 - k) % (n : Int) = m at ht ht0 ht1
  have hcop : Int.gcd (k + m) n = 1:=HE (z:=-((1 - k) / (n : Int))) (by rw [Int.mul_neg]; (first | lia | omega))
  refine Ok.bind (Jg (fun g : Int=>k <= g /\ g <= k + m) (fun g=>(k + m - g).toNat) (fun g hg=>?_) _ k ⟨Int.le_refl _, by first | lia | omega⟩ ?_) fun g hg=>?_
  . rw [U9, XJ, Rs.okb]
    refine ⟨_, rfl, fun c=>?_⟩
    have hne : g ≠ k + m:=fun e=>by
      rw [e, hcop] at c
      exact absurd c (by decide)
    refine ⟨_, rfl, ⟨by first | lia | omega, by first | lia | omega⟩, ?_⟩
    show (k + m - (g + 1)).toNat < (k + m - g).toNat
    first | lia | omega
  . show (k + m - k).toNat < _
    first | lia | omega
  . obtain ⟨_, hc⟩ := hg
    rw [U9, XJ, Rs.okb] at hc
    have hg1 : Int.gcd g n = 1:=by
      have:=Rs.ok.inj hc
      simp at this
      first | lia | omega
    obtain ⟨gd, hce⟩:=DQ (way:=way) (k:=g) (n:=n) hn hg1
    refine ⟨Ze n (KA way g n), ?_, _, gd, rfl⟩
    rw [Y2 (by first | lia | omega), Rs.okb]
    have hrow : ∀ a : Nat, a < n -> KM ((List.range n).map fun (i : Nat)=>(i : Int)) (fun b=>noE (ZI way (n : Int) g (a : Int) b)) = .ok (QN n (KA way g n) a):=fun a ha=>by
      rw [Qf (h:=fun x=>((KA way g n a x.toNat : Nat) : Int)) (sz (by simp; (first | lia | omega))) fun x hx=>?_]
      . rw [List.map_map]; rfl
      . obtain ⟨b, hb, rfl⟩ := Y1 hx
        rw [FM hn h1 ha hb, XJ, Int.toNat_natCast, hce a b ha hb]
    rw [Qz (h:=fun x=>QN n (KA way g n) x.toNat) (sz (by simp; (first | lia | omega))) fun l hl x hx=>?_]
    . rw [Rs.okb, List.nil_append, List.map_map]; rfl
    . obtain ⟨a, ha, rfl⟩ := Y1 hx
      rw [Rs.okb, hrow a ha, Rs.okb, XF hl, Int.toNat_natCast]
end My
namespace My
open PySem L2
theorem UC (ns : List Int) {p : Int} (hp : 0 <= p) {most : Nat} (h0 : 0 < most) (hm : most <= 24) : Ok (Y9 ns p (most : Int)) fun t=>∃ n f, 0 < n /\ n <= most /\ GoodF n f /\ t = Ze n f:=by
  unfold Y9
  simp only [Rs.okb]
  rw [XF (sz (by simp))]
  simp only [Rs.okb]
  rw [XF (sz (by simp))]
  simp only [Rs.okb]
  rw [show KP [(24 : Int)] 24 = .ok (List.replicate 24 24) from rfl]
  simp only [Rs.okb]
  rw [show HH [(7 : Int), 24, 6, 2, 6] (List.replicate 24 24) = .ok ([(7 : Int), 24, 6, 2, 6] ++ List.replicate 24 24) from XF (sz (by simp))]
  simp only [Rs.okb]
  refine Ok.bind (Ok.noE (Du ns hp _ (by simp) fun x hx=>?_)) fun r hr=>?_
  . rw [List.mem_append] at hx
    rcases hx with h | h
    . simp only [List.mem_cons, List.not_mem_nil, or_false] at h
      rcases h with rfl | rfl | rfl | rfl | rfl <;> decide
    . rw [(List.mem_replicate.mp h).2]; decide
  obtain ⟨hl, hv⟩:=hr
  have hl' : r.length = 29:=by rw [hl]; simp
  clear hl hv
  rw [YQ (r:=r) (k:=0) (n:=0) rfl (by first | lia | omega), YQ (r:=r) (k:=1) (n:=1) rfl (by first | lia | omega), YQ (r:=r) (k:=2) (n:=2) rfl (by first | lia | omega), YQ (r:=r) (k:=3) (n:=3) rfl (by first | lia | omega), YQ (r:=r) (k:=4) (n:=4) rfl (by first | lia | omega)]
  simp only [Rs.okb, Vp]
  rw [Ym (by first | lia | omega)]
  simp only [Rs.okb]
  have a0:=Int.emod_nonneg r[1] (show (most : Int) ≠ 0 by first | lia | omega)
  have a1:=Int.emod_lt_of_pos r[1] (show (0 : Int) < (most : Int) by first | lia | omega)
  refine Ok.bind (R:=fun s : Int=>0 < s /\ s <= (most : Int)) (Ok.ite (fun c=>?_) fun _=>?_) fun s hs=>?_
  . have c1 : 2 < (most : Int):=by
      rw [Bool.and_eq_true, decide_eq_true_eq] at c
      exact c.1
    rw [Ym (by first | lia | omega), Rs.okb]
    have b0:=Int.emod_nonneg r[1] (show (most : Int) - 2 ≠ 0 by first | lia | omega)
    have b1:=Int.emod_lt_of_pos r[1] (show (0 : Int) < (most : Int) - 2 by first | lia | omega)
    refine ⟨_, rfl, ?_⟩
    first | lia | omega
  . exact ⟨_, rfl, by first | lia | omega⟩
  obtain ⟨n, rfl⟩ : ∃ n : Nat, s = (n : Int):=⟨s.toNat, by first | lia | omega⟩
  refine Ok.bind (Ok.noE (EY (by first | lia | omega) (by first | lia | omega))) fun t ht=>?_
  obtain ⟨f, gd, rfl⟩:=ht
  refine Ok.ite (fun _=>⟨_, rfl, n, f, by first | lia | omega, by first | lia | omega, gd, rfl⟩) fun _=>?_
  rw [show Fw r (some 5) none = r.drop 5 from Bk r (k:=5) (by first | lia | omega)]
  refine Ok.bind (Ok.noE (Fy (by first | lia | omega) (by rw [List.length_drop]; (first | lia | omega)))) fun sp hsp=>?_
  obtain ⟨q, q', hq⟩:=hsp
  rw [CA (by first | lia | omega) gd.lt hq, XJ]
  exact ⟨_, rfl, n, _, by first | lia | omega, by first | lia | omega, hq.1.good gd, rfl⟩
end My
namespace My
noncomputable def YZ (w : List Int) : Nat:=(w.filter fun x=>decide (x < 0)).length
noncomputable def Js (w : List Int) : Nat:=max (YZ w) 1
noncomputable def Qj (w : List Int) (first : Int) : List Int:=(List.range (max w.length 1)).map fun k=>first + (YZ (w.take k) : Int) % (Js w : Int)
noncomputable def YN : List (List Int) -> Int -> List (List Int)
  | [], _=>[]
  | w :: ws, f=>Qj w f :: YN ws (f + Js w)
noncomputable def X8 (ws : List (List Int)) : Int:=(ws.map fun w=>(Js w : Int)).sum
noncomputable def JZ (ws : List (List Int)) : Nat:=(ws.filter fun w=>decide (YZ w = 0)).length
theorem Jh (a b : List Int) : YZ (a ++ b) = YZ a + YZ b:=by unfold YZ; rw [List.filter_append, List.length_append]
theorem J9 {x : Int} (h : x < 0) : YZ [x] = 1:=by simp [YZ, h]
theorem Vf {x : Int} (h : ¬ x < 0) : YZ [x] = 0:=by simp [YZ, h]
theorem Zp {w : List Int} {i : Nat} {x : Int} (h : w[i]? = some x) : YZ (w.take (i + 1)) = YZ (w.take i) + YZ [x]:=by
  rw [List.take_add_one, h, Jh]; rfl
theorem JR (w : List Int) (i j : Nat) (h : i <= j) : YZ (w.take i) <= YZ (w.take j):=by
  have e : w.take j = w.take i ++ (w.take j).drop i:=by
    conv=>lhs; rw [← List.take_append_drop i (w.take j)]
    rw [List.take_take, Nat.min_eq_left h]
  rw [e, Jh]; (first | lia | omega)
theorem Hw (w : List Int) (i : Nat) : YZ (w.take i) <= YZ w:=by
  by_cases h : i <= w.length
  . have := JR w i w.length h
    rw [List.take_length] at this; exact this
  . rw [List.take_of_length_le (by first | lia | omega)]; exact Nat.le_refl _
theorem GJ (w : List Int) : 0 < Js w:=by unfold Js; (first | lia | omega)
theorem Jo (w : List Int) (f : Int) : (Qj w f).length = max w.length 1:=by simp [Qj]
theorem Ff (w : List Int) (f : Int) {k : Nat} (h : k < max w.length 1) : (Qj w f)[k]? = some (f + (YZ (w.take k) : Int) % (Js w : Int)):=by
  unfold Qj
  rw [List.getElem?_map, List.getElem?_range h]; rfl
theorem YW : ∀ (ws : List (List Int)) (f : Int), (YN ws f).length = ws.length
  | [], _=>rfl
  | _ :: ws, f=>by show (YN ws _).length + 1 = _; rw [YW ws]; rfl
theorem Q4 (w : List Int) (ws : List (List Int)) : X8 (w :: ws) = Js w + X8 ws:=by simp [X8]
theorem Uj (a b : List (List Int)) : X8 (a ++ b) = X8 a + X8 b:=by simp [X8, List.sum_append]
theorem Fh (w : List Int) : X8 [w] = Js w:=by simp [X8]
theorem Ju : ∀ (a b : List (List Int)) (f : Int), YN (a ++ b) f = YN a f ++ YN b (f + X8 a)
  | [], b, f=>by simp [YN, X8]
  | w :: a, b, f=>by
    show Qj w f :: YN (a ++ b) (f + Js w) = Qj w f :: (YN a (f + Js w) ++ YN b (f + X8 (w :: a)))
    rw [Ju a b, Q4, Int.add_assoc]
theorem Q8 {ws : List (List Int)} {i : Nat} {w : List Int} (h : ws[i]? = some w) (f : Int) : YN (ws.take (i + 1)) f = YN (ws.take i) f ++ [Qj w (f + X8 (ws.take i))]:=by
  rw [List.take_add_one, h, Ju]; rfl
theorem Q3 {ws : List (List Int)} {i : Nat} {w : List Int} (h : ws[i]? = some w) : X8 (ws.take (i + 1)) = X8 (ws.take i) + Js w:=by
  rw [List.take_add_one, h, Uj]
  show _ + X8 [w] = _
  rw [Fh]
theorem Uh {ws : List (List Int)} {i : Nat} {w : List Int} (h : ws[i]? = some w) (f : Int) : (YN ws f)[i]? = some (Qj w (f + X8 (ws.take i))):=by
  have hl : i < ws.length:=(List.getElem?_eq_some_iff.mp h).1
  have e : ws = ws.take (i + 1) ++ ws.drop (i + 1):=(List.take_append_drop _ _).symm
  rw [e, Ju, Q8 h, List.getElem?_append_left (by rw [List.length_append, YW, List.length_take]; simp; (first | lia | omega)),
    List.getElem?_append_right (by rw [YW, List.length_take]; (first | lia | omega)), YW, List.length_take, Nat.min_eq_left (by first | lia | omega), Nat.sub_self, List.take_append_of_le_length (by rw [List.length_take]; (first | lia | omega)), List.take_take, Nat.min_eq_left (by first | lia | omega)]
  rfl
theorem JV : ∀ ws : List (List Int), X8 ws = (YZ ws.flatten : Int) + (JZ ws : Int)
  | []=>rfl
  | w :: ws=>by
    rw [Q4, JV ws, List.flatten_cons, Jh]
    unfold JZ
    rw [List.filter_cons]
    by_cases h : YZ w = 0
    . simp [h, Js]; (first | lia | omega)
    . simp [h, Js]; (first | lia | omega)
theorem Fi {ws : List (List Int)} {i : Nat} {w : List Int} (h : ws[i]? = some w) : JZ (ws.take (i + 1)) = JZ (ws.take i) + (if YZ w = 0 then 1 else 0):=by
  unfold JZ
  rw [List.take_add_one, h, List.filter_append, List.length_append]
  by_cases e : YZ w = 0 <;> simp [e]
theorem DR {a b : List Int} (h : a.Perm b) : YZ a = YZ b:=(h.filter _).length_eq
theorem F7 : ∀ {xs : List Int}, (∀ x ∈ xs, 1 <= x) -> YZ (xs.flatMap fun x=>[x, -x]) = xs.length
  | [], _=>rfl
  | x :: xs, h=>by
    have hx:=h x List.mem_cons_self
    rw [List.flatMap_cons, Jh, F7 fun y hy=>h y (List.mem_cons_of_mem _ hy)]
    have e : YZ [x, -x] = 1:=by
      show YZ ([x] ++ [-x]) = 1
      rw [Jh, Vf (by first | lia | omega), J9 (by first | lia | omega)]
    rw [e, List.length_cons]; (first | lia | omega)
structure LastIs (w : List Int) (i : Nat) (last : Int) : Prop where
  lo : -1 <= last
  hi : last < (i : Int)
  none : ∀ j : Nat, last < (j : Int) -> j < i -> ∀ x, w[j]? = some x -> ¬ x < 0
  at' : 0 <= last -> ∃ x, w[last.toNat]? = some x /\ x < 0
theorem LastIs.zero (w : List Int) : LastIs w 0 (-1):=⟨by first | lia | omega, by first | lia | omega, fun j _ h=>by first | lia | omega, fun h=>by first | lia | omega⟩
theorem LastIs.neg {w : List Int} {i : Nat} {x : Int} (e : w[i]? = some x) (hx : x < 0) : LastIs w (i + 1) (i : Int):=
  ⟨by first | lia | omega, by first | lia | omega, fun j h1 h2=>by first | lia | omega, fun _=>⟨x, by simpa using e, hx⟩⟩
theorem LastIs.pos {w : List Int} {i : Nat} {x last : Int} (h : LastIs w i last) (e : w[i]? = some x) (hx : ¬ x < 0) : LastIs w (i + 1) last:=by
  have:=h.hi
  refine ⟨h.lo, by first | lia | omega, fun j h1 h2 y hy=>?_, h.at'⟩
  by_cases hj : j = i
  . subst hj; rw [e] at hy; cases hy; exact hx
  . exact h.none j h1 (by first | lia | omega) y hy
theorem Q1 {w : List Int} {last : Int} (h : LastIs w w.length last) : ∀ j : Nat, last < (j : Int) -> YZ (w.take j) = YZ w:=by
  intro j hj
  have key : ∀ d : Nat, YZ (w.take (j + d)) = YZ (w.take j):=fun d=>by
    induction d with
    | zero=>rfl
    | succ d ih=>
      cases e : w[j + d]? with
      | none=>
        have:=List.getElem?_eq_none_iff.mp e
        rw [← ih, List.take_of_length_le (by first | lia | omega), List.take_of_length_le (by first | lia | omega)]
      | some x=>
        have hl:=(List.getElem?_eq_some_iff.mp e).1
        show YZ (w.take ((j + d) + 1)) = _
        rw [Zp e, ih, Vf (h.none (j + d) (by first | lia | omega) hl x e)]; rfl
  by_cases hl : j <= w.length
  . rw [← key (w.length - j), show j + (w.length - j) = w.length by first | lia | omega, List.take_length]
  . rw [List.take_of_length_le (by first | lia | omega)]
theorem KE {w : List Int} {last : Int} (h : LastIs w w.length last) (h0 : 0 <= last) : YZ (w.take last.toNat) + 1 = YZ w:=by
  obtain ⟨x, e, hx⟩:=h.at' h0
  have:=Zp e
  rw [J9 hx] at this
  rw [← this, Q1 h (last.toNat + 1) (by first | lia | omega)]
theorem F8 {w : List Int} {last : Int} (h : LastIs w w.length last) (h0 : ¬ 0 <= last) : YZ w = 0:=by
  have:=h.lo
  rw [← Q1 h 0 (by first | lia | omega)]; simp [YZ]
theorem CK {w : List Int} {last f : Int} (h : LastIs w w.length last) {j : Nat} (hj : (j : Int) <= last) : f + (YZ (w.take j) : Int) % (Js w : Int) = f + (YZ (w.take j) : Int):=by
  have h0 : 0 <= last:=by first | lia | omega
  have h1:=KE h h0
  have h2:=JR w j last.toNat (by first | lia | omega)
  rw [Int.emod_eq_of_lt (by first | lia | omega) (by unfold Js; (first | lia | omega))]
theorem Bu {w : List Int} {last f : Int} (h : LastIs w w.length last) {j : Nat} (hj : last < (j : Int)) : f + (YZ (w.take j) : Int) % (Js w : Int) = f:=by
  rw [Q1 h j hj]
  by_cases e : YZ w = 0
  . rw [e]; simp
  . have : (Js w : Int) = (YZ w : Int) := by unfold Js; (first | lia | omega)
    rw [this, Int.emod_self]; (first | lia | omega)
theorem C6 {w : List Int} {last : Int} (h : LastIs w w.length last) : (YZ (w.take last.toNat) : Int) + 1 = (Js w : Int):=by
  by_cases h0 : 0 <= last
  . have := KE h h0
    unfold Js; (first | lia | omega)
  . have e := F8 h h0
    have:=Hw w last.toNat
    unfold Js; (first | lia | omega)
end My
namespace My
structure Spot (ws : List (List Int)) (x : Int) (i j : Nat) (w : List Int) : Prop where
  wi : ws[i]? = some w
  xj : w[j]? = some x
  first : ∀ m : Nat, m < j -> w[m]? ≠ some x
  none : ∀ (i' : Nat) (w' : List Int), i' < i -> ws[i']? = some w' -> x ∉ w'
theorem Spot.uniq {ws : List (List Int)} {x : Int} {i j i' j' : Nat} {w w' : List Int} (h : Spot ws x i j w) (h' : Spot ws x i' j' w') : i = i' /\ j = j' /\ w = w':=by
  have hi : i = i':=by
    rcases Nat.lt_trichotomy i i' with c | c | c
    . exact absurd (List.mem_of_getElem? h.xj) (h'.none i w c h.wi)
    . exact c
    . exact absurd (List.mem_of_getElem? h'.xj) (h.none i' w' c h'.wi)
  subst hi
  have hw : w = w':=Option.some.inj (h.wi.symm.trans h'.wi)
  subst hw
  refine ⟨rfl, ?_, rfl⟩
  rcases Nat.lt_trichotomy j j' with c | c | c
  . exact absurd h.xj (h'.first j c)
  . exact c
  . exact absurd h'.xj (h.first j' c)
theorem Spot.row {ws : List (List Int)} {x : Int} {i j : Nat} {w : List Int} (h : Spot ws x i j w) : ∃ r, (YN ws 0)[i]? = some r /\ r.length = w.length /\ j < w.length:=by
  have hj:=(List.getElem?_eq_some_iff.mp h.xj).1
  exact ⟨_, Uh h.wi 0, by rw [Jo]; (first | lia | omega), hj⟩
noncomputable def FX (ws : List (List Int)) (e : Int × Int) (v : List Int) : Prop:=∃ (i j k l : Nat) (w w' r r' : List Int) (o a b : Int), Spot ws e.1 i j w /\ Spot ws (-e.1) k l w' /\ (YN ws 0)[i]? = some r /\ r[j]? = some o /\ (YN ws 0)[k]? = some r' /\ r'[l]? = some a /\ r'[(l + 1) % w'.length]? = some b /\ v = [e.1, e.2, o, a, b]
theorem FX.uniq {ws : List (List Int)} {e : Int × Int} {v v' : List Int} (h : FX ws e v) (h' : FX ws e v') : v = v':=by
  obtain ⟨i, j, k, l, w, w', r, r', o, a, b, s1, s2, h1, h2, h3, h4, h5, rfl⟩:=h
  obtain ⟨i2, j2, k2, l2, x, x', q, q', o2, a2, b2, t1, t2, g1, g2, g3, g4, g5, rfl⟩:=h'
  obtain ⟨rfl, rfl, rfl⟩:=s1.uniq t1
  obtain ⟨rfl, rfl, rfl⟩:=s2.uniq t2
  rw [h1] at g1; cases g1
  rw [h3] at g3; cases g3
  rw [h2] at g2; cases g2
  rw [h4] at g4; cases g4
  rw [h5] at g5; cases g5
  rfl
theorem G7 : ∀ {w : List Int} {x : Int}, x ∈ w -> ∃ j : Nat, w[j]? = some x /\ ∀ m : Nat, m < j -> w[m]? ≠ some x
  | [], x, h=>by simp at h
  | y :: t, x, h=>by
    by_cases e : y = x
    . subst e
      exact ⟨0, rfl, fun m hm=>by first | lia | omega⟩
    . rcases List.mem_cons.mp h with z | z
      . exact absurd z.symm e
      . obtain ⟨j, h1, h2⟩ := G7 z
        refine ⟨j + 1, by simpa using h1, fun m hm=>?_⟩
        cases m with
        | zero=>simpa using e
        | succ m=>simpa using h2 m (by first | lia | omega)
end My
namespace My
open PySem L2
section
variable {α β γ ρ : Type}
theorem Vt {f : γ -> α -> Rs (Ctl ρ γ)} {g : γ} {v : ρ} : ∀ {as : List α} {i : Nat} {a : α}, as[i]? = some a -> (∀ (k : Nat) b, k < i -> as[k]? = some b -> f g b = .ok (.nx g)) -> f g a = .ok (.ret v) -> forC as g f = .ok (.ret v)
  | [], i, a, h, _, _=>by simp at h
  | b :: as, 0, a, h, _, hf=>by
    have : b = a:=by simpa using h
    subst this
    show (f g b).bind _ = _
    rw [hf, Rs.okb]
  | b :: as, i + 1, a, h, hb, hf=>by
    show (f g b).bind _ = _
    rw [hb 0 b (by first | lia | omega) rfl, Rs.okb]
    exact Vt (i:=i) (by simpa using h) (fun k c hk hc=>hb (k + 1) c (by first | lia | omega) (by simpa using hc)) hf
theorem B8 {as : List α} {i : Nat} {a : α} (h : as[i]? = some a) : (U2 as)[i]? = some ((i : Int), a):=by
  have hi:=(List.getElem?_eq_some_iff.mp h).1
  unfold U2
  rw [List.getElem?_zip_eq_some]
  exact ⟨by rw [List.getElem?_map, List.getElem?_range hi]; rfl, h⟩
theorem Kx {w : List Int} {x : Int} {j : Nat} (h : w[j]? = some x) (hf : ∀ m : Nat, m < j -> w[m]? ≠ some x) : BC w x = .ok (j : Int):=by
  obtain ⟨hj, e⟩:=List.getElem?_eq_some_iff.mp h
  have : w.findIdx? (fun b=>decide (b = x)) = some j:=by
    rw [List.findIdx?_eq_some_iff_getElem]
    refine ⟨hj, by simp [e], fun m hm=>?_⟩
    have hml : m < w.length:=by first | lia | omega
    have:=hf m hm
    rw [List.getElem?_eq_getElem hml] at this
    simpa using this
  unfold BC
  rw [this]
theorem CS {N k : Nat} {F G : Nat -> α} {v : α} (hk : k < N) (hv : G k = v) (h : ∀ j, j < N -> j ≠ k -> F j = G j) : ((List.range N).map F).set k v = (List.range N).map G:=by
  refine List.ext_getElem (by simp) fun j h1 h2=>?_
  have hj : j < N:=by simpa using h1
  rw [List.getElem_set]
  by_cases e : k = j
  . subst e; rw [if_pos rfl]; simp [hv]
  . rw [if_neg e]; simp [h j hj (fun z=>e z.symm)]
theorem Bg (w : List α) : Fw w none (some (-1)) = w.take (w.length - 1):=by
  unfold Fw
  rw [HT.sIx_none]
  have : HT.sIx w.length w.length (some (-1)) = w.length - 1:=by
    unfold HT.sIx
    simp
    first | lia | omega
  rw [this]; simp
end
theorem ZH {w : List Int} (hl : w.length <= 1000) : XS w = .ok (Js w : Int):=by
  unfold XS
  simp only [Rs.okb]
  rw [Gr (p:=fun x=>decide (x < 0)) (h:=fun x=>x) (sz (by first | lia | omega)) (fun _ _=>rfl) fun _ _ _=>rfl, Rs.okb, List.map_id']
  congr 1
  show max ((YZ w : Nat) : Int) 1 = ((max (YZ w) 1 : Nat) : Int)
  first | lia | omega
theorem VR {w : List Int} {f : Int} (hl : w.length <= 1000) : YG w f = .ok (Qj w f):=by
  unfold YG
  simp only [Rs.okb]
  rw [ZH hl, XJ]
  simp only [Rs.okb]
  rw [XF (sz (by simp)), Bg]
  simp only [Rs.okb]
  apply Ok.eq
  refine Ok.bind (Ok.forN (fun i (g : Int × List Int)=>g = ((YZ (w.take i) : Int), (List.range (i + 1)).map fun k=>f + (YZ (w.take k) : Int) % (Js w : Int))) ?_ fun i a g ha hg=>?_) fun g hg=>?_
  . simp [YZ]
  . have hi := (List.getElem?_eq_some_iff.mp ha).1
    rw [List.length_take] at hi
    have ha' : w[i]? = some a:=by
      rw [List.getElem?_take_of_lt (by first | lia | omega)] at ha
      exact ha
    subst hg
    have hn:=Zp ha'
    have hp:=GJ w
    have hlen : ((List.range (i + 1)).map fun k=>f + (YZ (w.take k) : Int) % (Js w : Int)).length < sizeLine:=Fs (by simp; (first | lia | omega))
    refine Ok.bind (R:=fun u=>u = (YZ (w.take (i + 1)) : Int)) (Ok.ite (fun c=>⟨_, rfl, ?_⟩) fun c=>⟨_, rfl, ?_⟩) fun u hu=>?_
    . rw [hn, J9 (of_decide_eq_true c)]
      show (YZ (w.take i) : Int) + 1 = _
      first | lia | omega
    . rw [hn, Vf (of_decide_eq_false c)]
      show (YZ (w.take i) : Int) = _
      first | lia | omega
    . subst hu
      rw [Ym (by first | lia | omega), Rs.okb, Rs.okb, XF hlen]
      refine ⟨_, rfl, ?_⟩
      rw [List.range_succ (n:=i + 1), List.map_append]; rfl
  . subst hg
    refine ⟨_, rfl, ?_⟩
    rw [List.length_take, show min (w.length - 1) w.length + 1 = max w.length 1 by first | lia | omega]
    rfl
theorem HP {D : List (List Int) × List (Int × Int)} (hd : D.1.length <= 1000) (hw : ∀ w ∈ D.1, w.length <= 1000) : V5 D = .ok (YN D.1 0):=by
  unfold V5
  simp only [Rs.okb]
  apply Ok.eq
  refine Ok.bind (Ok.forN (fun i (g : Int × List (List Int))=>g = (X8 (D.1.take i), YN (D.1.take i) 0)) rfl fun i a g ha hg=>?_) fun g hg=>?_
  . have hi := (List.getElem?_eq_some_iff.mp ha).1
    subst hg
    have hal:=hw a (List.mem_of_getElem? ha)
    rw [VR hal, XJ, Rs.okb, ZH hal, XJ]
    rw [XF (Fs (by rw [YW, List.length_take]; (first | lia | omega)))]
    simp only [Rs.okb]
    refine ⟨_, rfl, ?_⟩
    rw [Q8 ha, Q3 ha, Int.zero_add]
  . subst hg
    rw [List.take_length]
    exact ⟨_, rfl, rfl⟩
theorem Kl {D : List (List Int) × List (Int × Int)} (hd : D.1.length <= 1000) (hw : ∀ w ∈ D.1, w.length <= 1000) : Zk D = .ok (X8 D.1):=by
  unfold Zk
  simp only [Rs.okb]
  rw [Qf (h:=fun w=>(Js w : Int)) (sz (by first | lia | omega)) fun w h=>by rw [ZH (hw w h), XJ], Rs.okb]
  rfl
theorem CB {D : List (List Int) × List (Int × Int)} {x : Int} {i j : Nat} {w : List Int} (h : Spot D.1 x i j w) : VX D x = .ok ((i : Int), (j : Int)):=by
  unfold VX
  simp only [Rs.okb]
  rw [Vt (v:=((i : Int), (j : Int))) (B8 h.wi) (fun k b hk hb=>?_) ?_]
  . rw [Rs.okb, VL]
  . rw [if_pos (decide_eq_true (List.mem_of_getElem? h.xj)), Kx h.xj h.first]
    simp only [Rs.okb]
  . obtain ⟨_, h2⟩ := Kk hb
    rw [if_neg]
    rw [decide_eq_true_eq]
    exact h.none k b.2 hk h2
theorem U5 {ws : List (List Int)} {x : Int} {i j : Nat} {w : List Int} (hl : ws.length <= 1000) (h : Spot ws x i j w) : Qe ws x = .ok ((i : Int), (j : Int)):=by
  have hi:=(List.getElem?_eq_some_iff.mp h.wi).1
  unfold Qe
  simp only [Rs.okb]
  rw [Y2 (by first | lia | omega), Rs.okb]
  rw [Vt (v:=((i : Int), (j : Int))) (i:=i) (a:=(i : Int)) (by rw [List.getElem?_map, List.getElem?_range hi]; rfl) (fun k b hk hb=>?_) ?_]
  . rw [Rs.okb, VL]
  . rw [Yr h.wi]
    simp only [Rs.okb]
    rw [if_pos (decide_eq_true (List.mem_of_getElem? h.xj)), Kx h.xj h.first]
    simp only [Rs.okb]
  . obtain ⟨rfl, hkl⟩ := Yp hb
    have hks : ws[k]? = some ws[k]:=by simp [hkl]
    rw [Yr hks]
    simp only [Rs.okb]
    rw [if_neg]
    rw [decide_eq_true_eq]
    exact h.none k _ hk hks
theorem G3 {D : List (List Int) × List (Int × Int)} (hw : ∀ w ∈ D.1, w.length <= 1000) : Zy D = .ok ((D.2.length : Int) + (JZ D.1 : Int)):=by
  unfold Zy
  simp only [Rs.okb]
  apply Ok.eq
  refine Ok.bind (Ok.forN (fun i (g : Int)=>g = (D.2.length : Int) + (JZ (D.1.take i) : Int)) (by simp [JZ]) fun i a g ha hg=>?_) fun g hg=>?_
  . have hal := hw a (List.mem_of_getElem? ha)
    rw [Gr (p:=fun x=>decide (x < 0)) (h:=fun x=>x) (sz (by first | lia | omega)) (fun _ _=>rfl) fun _ _ _=>rfl, List.map_id']
    simp only [Rs.okb]
    have hz:=Fi ha
    have hnn : ((a.filter fun x=>decide (x < 0)).length : Int) = (YZ a : Int):=rfl
    rw [hnn]
    by_cases c : YZ a = 0
    . rw [if_pos c] at hz
      rw [if_pos (decide_eq_true (by first | lia | omega))]
      simp only [Rs.okb]
      exact ⟨_, rfl, by first | lia | omega⟩
    . rw [if_neg c] at hz
      rw [if_neg (by rw [decide_eq_true_eq]; (first | lia | omega))]
      simp only [Rs.okb]
      exact ⟨_, rfl, by first | lia | omega⟩
  . subst hg
    rw [List.take_length]
    exact ⟨_, rfl, rfl⟩
end My
namespace My
open PySem L2
theorem Mc (f : Int) (n : Nat) : (List.replicate n [f]).flatten = (List.range n).map fun _=>f:=by
  induction n with
  | zero=>rfl
  | succ n ih=>rw [List.replicate_succ, List.flatten_cons, ih, List.range_succ_eq_map, List.map_cons, List.map_map]; rfl
theorem DF {ws : List (List Int)} (hd : ws.length <= 1000) (hw : ∀ w ∈ ws, w.length <= 1000) : QD ws = .ok (YN ws 0):=by
  unfold QD
  simp only [Rs.okb]
  apply Ok.eq
  refine Ok.bind (Ok.forN (fun i (g : Int × List (List Int))=>g = (X8 (ws.take i), YN (ws.take i) 0)) rfl fun i w g ha hg=>?_) fun g hg=>?_
  . have hi := (List.getElem?_eq_some_iff.mp ha).1
    subst hg
    have hal:=hw w (List.mem_of_getElem? ha)
    generalize hf : X8 (ws.take i) = f
    rw [Y2 (by first | lia | omega), Rs.okb]
    refine Ok.bind (Ok.forN (fun k (l : Int)=>LastIs w k l) (LastIs.zero w) fun k b l hb hl=>?_) fun last hlast=>?_
    . obtain ⟨rfl, hk⟩ := Yp hb
      have hks : w[k]? = some w[k]:=by simp [hk]
      rw [Yr hks]
      simp only [Rs.okb]
      by_cases c : w[k] < 0
      . rw [if_pos (decide_eq_true c), Rs.okb]
        exact ⟨_, rfl, LastIs.neg hks c⟩
      . rw [if_neg (by rw [decide_eq_true_eq]; exact c), Rs.okb]
        exact ⟨_, rfl, hl.pos hks c⟩
    rw [Yi] at hlast
    rw [XF (sz (by simp))]
    simp only [Rs.okb]
    rw [show max (w.length : Int) 1 = ((max w.length 1 : Nat) : Int) by first | lia | omega]
    rw [show KP [f] ((max w.length 1 : Nat) : Int) = .ok ((List.range (max w.length 1)).map fun _=>f) from by
      unfold KP
      rw [XF ⟨by first | lia | omega, by first | lia | omega, sz (by simp; (first | lia | omega))⟩, Int.toNat_natCast, Mc]]
    simp only [Rs.okb]
    have hlb : -1 <= last /\ last < (w.length : Int):=⟨hlast.lo, hlast.hi⟩
    rw [show last + 1 = (((last + 1).toNat : Nat) : Int) by first | lia | omega, Y2 (by first | lia | omega), Rs.okb]
    refine Ok.bind (Ok.forN (fun k (h : List Int × Int × Int)=>h.1 = ((List.range (max w.length 1)).map fun j=>if j < k then f + (YZ (w.take j) : Int) else f) /\ h.2.1 = f + (YZ (w.take (min k last.toNat)) : Int) /\ h.2.2 = f + (YZ (w.take (min k last.toNat)) : Int)) ⟨by simp, by simp [YZ], by simp [YZ]⟩ fun k b h hb hh=>?_) fun h hh=>?_
    . obtain ⟨rfl, hk⟩ := Yp hb
      obtain ⟨h1, h2, h3⟩:=hh
      have hkl : k < w.length:=by first | lia | omega
      have hks : w[k]? = some w[k]:=by simp [hkl]
      rw [Nat.min_eq_left (by first | lia | omega)] at h2 h3
      rw [h1, VI (by simp; (first | lia | omega)), Rs.okb, Yr hks]
      simp only [Rs.okb, Vp]
      have hset : (((List.range (max w.length 1)).map fun j=>if j < k then f + (YZ (w.take j) : Int) else f).set k h.2.2) = (List.range (max w.length 1)).map fun j=>if j < k + 1 then f + (YZ (w.take j) : Int) else f:=CS (by first | lia | omega) (by rw [if_pos (by first | lia | omega), h3]) fun j hj hne=>by
        by_cases c : j < k
        . rw [if_pos c, if_pos (by first | lia | omega)]
        . rw [if_neg c, if_neg (by first | lia | omega)]
      rw [hset]
      have hn:=Zp hks
      by_cases c : w[k] < 0 /\ (k : Int) < last
      . rw [if_pos (by rw [Bool.and_eq_true, decide_eq_true_eq, decide_eq_true_eq]; exact c), Rs.okb]
        rw [J9 c.1] at hn
        refine ⟨_, rfl, rfl, ?_, ?_⟩
        . show h.2.1 + 1 = _
          rw [Nat.min_eq_left (by first | lia | omega), hn, h2]; (first | lia | omega)
        . show h.2.1 + 1 = _
          rw [Nat.min_eq_left (by first | lia | omega), hn, h2]; (first | lia | omega)
      . rw [if_neg (by rw [Bool.and_eq_true, decide_eq_true_eq, decide_eq_true_eq]; exact c), Rs.okb]
        have hst : YZ (w.take (min (k + 1) last.toNat)) = YZ (w.take k):=by
          by_cases c2 : (k : Int) < last
          . have c3 : ¬ w[k] < 0 := fun z => c ⟨z, c2⟩
            rw [Vf c3] at hn
            rw [Nat.min_eq_left (by first | lia | omega), hn, Nat.add_zero]
          . rw [Nat.min_eq_right (by first | lia | omega), show last.toNat = k by first | lia | omega]
        refine ⟨_, rfl, rfl, ?_, ?_⟩
        . show h.2.1 = _
          rw [hst, h2]
        . show h.2.2 = _
          rw [hst, h3]
    . rw [Yi] at hh
      obtain ⟨h1, h2, _⟩:=hh
      rw [XF (Fs (by rw [YW, List.length_take]; (first | lia | omega)))]
      have hce:=C6 hlast
      rw [Nat.min_eq_right (by first | lia | omega)] at h2
      refine ⟨_, rfl, ?_⟩
      rw [Q8 ha, Q3 ha, Int.zero_add, hf, h1, h2]
      have e1 : f + (YZ (w.take last.toNat) : Int) + 1 = f + (Js w : Int):=by first | lia | omega
      have e2 : ((List.range (max w.length 1)).map fun j=>if j < (last + 1).toNat then f + (YZ (w.take j) : Int) else f) = Qj w f:=by
        unfold Qj
        refine List.map_congr_left fun j _=>?_
        by_cases c : j < (last + 1).toNat
        . rw [if_pos c, CK hlast (by first | lia | omega)]
        . rw [if_neg c, Bu hlast (by first | lia | omega)]
      rw [e1, e2]
  . subst hg
    rw [List.take_length]
    exact ⟨_, rfl, rfl⟩
end My
namespace My
open PySem L2
theorem Gb : ∀ {ws : List (List Int)} {x : Int}, x ∈ ws.flatten -> ∃ i j w, Spot ws x i j w
  | [], x, h=>by simp at h
  | w :: ws, x, h=>by
    by_cases c : x ∈ w
    . obtain ⟨j, h1, h2⟩ := G7 c
      exact ⟨0, j, w, rfl, h1, h2, fun i' w' hi _=>by first | lia | omega⟩
    . have hx : x ∈ ws.flatten:=by
        rw [List.flatten_cons, List.mem_append] at h
        exact h.resolve_left c
      obtain ⟨i, j, v, s⟩:=Gb hx
      refine ⟨i + 1, j, v, by simpa using s.wi, s.xj, s.first, fun i' w' hi hw=>?_⟩
      cases i' with
      | zero=>
        have : w = w':=by simpa using hw
        exact this ▸ c
      | succ i'=>exact s.none i' w' (by first | lia | omega) (by simpa using hw)
theorem VQ (ws : List (List Int)) : 0 <= X8 ws:=by
  induction ws with
  | nil=>exact Int.le_refl _
  | cons w ws ih=>rw [Q4]; (first | lia | omega)
theorem CN {ws : List (List Int)} {i j : Nat} {w r : List Int} {o : Int} (hw : ws[i]? = some w) (hr : (YN ws 0)[i]? = some r) (ho : r[j]? = some o) : 0 <= o /\ o < X8 ws:=by
  rw [Uh hw] at hr
  cases hr
  have hj:=(List.getElem?_eq_some_iff.mp ho).1
  rw [Jo] at hj
  rw [Ff w _ hj] at ho
  have ho':=Option.some.inj ho
  have hp:=GJ w
  have m0:=Int.emod_nonneg (YZ (w.take j) : Int) (show (Js w : Int) ≠ 0 by first | lia | omega)
  have m1:=Int.emod_lt_of_pos (YZ (w.take j) : Int) (show (0 : Int) < (Js w : Int) by first | lia | omega)
  have t0:=VQ (ws.take i)
  have t1 : X8 ws = X8 (ws.take (i + 1)) + X8 (ws.drop (i + 1)):=by rw [← Uj, List.take_append_drop]
  have t2:=VQ (ws.drop (i + 1))
  rw [Q3 hw] at t1
  first | lia | omega
structure DG (D : List (List Int) × List (Int × Int)) : Prop where
  few : D.1.length <= 1000
  short : ∀ w ∈ D.1, w.length <= 1000
  le : D.2.length <= 1000
  mem : ∀ e ∈ D.2, e.1 ∈ D.1.flatten /\ -e.1 ∈ D.1.flatten
  sg : ∀ e ∈ D.2, e.2 = 1 ∨ e.2 = -1
  count : X8 D.1 = (D.2.length : Int) + (JZ D.1 : Int)
noncomputable def MG (N : Int) (m : Int × Int × Int × Int × Int) : Prop:=(m.2.1 = 1 ∨ m.2.1 = -1) /\ (0 <= m.2.2.1 /\ m.2.2.1 < N) /\ (0 <= m.2.2.2.1 /\ m.2.2.2.1 < N) /\ (0 <= m.2.2.2.2 /\ m.2.2.2.2 < N)
theorem Fp {D : List (List Int) × List (Int × Int)} (h : DG D) : ∃ ms, QC D = .ok ms /\ ZP D = .ok ms /\ ms.length = D.2.length /\ ∀ m ∈ ms, MG (X8 D.1) m:=by
  have key : ∀ e : Int × Int, ∃ v : Int × Int × Int × Int × Int, e ∈ D.2 -> ∃ (i j k l : Nat) (w w' r r' : List Int), Spot D.1 e.1 i j w /\ Spot D.1 (-e.1) k l w' /\ (YN D.1 0)[i]? = some r /\ r[j]? = some v.2.2.1 /\ (YN D.1 0)[k]? = some r' /\ r'.length = w'.length /\ 0 < w'.length /\ r'[l]? = some v.2.2.2.1 /\ r'[(l + 1) % w'.length]? = some v.2.2.2.2 /\ v.1 = e.1 /\ v.2.1 = e.2:=fun e=>by
    by_cases he : e ∈ D.2
    . obtain ⟨i, j, w, s1⟩ := Gb (h.mem e he).1
      obtain ⟨k, l, w', s2⟩:=Gb (h.mem e he).2
      obtain ⟨r, hr, hrl, hj⟩:=s1.row
      obtain ⟨r', hr', hrl', hl⟩:=s2.row
      have hm : (l + 1) % w'.length < r'.length:=by rw [hrl']; exact Nat.mod_lt _ (by first | lia | omega)
      exact ⟨(e.1, e.2, r[j], r'[l], r'[(l + 1) % w'.length]), fun _=>⟨i, j, k, l, w, w', r, r', s1, s2, hr, by simp, hr', hrl', by first | lia | omega, by simp, by simp, rfl, rfl⟩⟩
    . exact ⟨(0, 0, 0, 0, 0), fun z=>absurd z he⟩
  obtain ⟨v, hv⟩:=Classical.axiomOfChoice key
  refine ⟨D.2.map v, ?_, ?_, by simp, fun m hm=>?_⟩
  . unfold QC
    simp only [Rs.okb]
    rw [HP h.few h.short, XJ]
    simp only [Rs.okb]
    rw [Qz (h:=v) (sz (by have:=h.le; simp; (first | lia | omega))) fun g hg e he=>?_]
    . rw [Rs.okb, List.nil_append]
    . obtain ⟨i, j, k, l, w, w', r, r', s1, s2, h1, h2, h3, h4, h5, h6, h7, h8, h9⟩ := hv e he
      have hm : ((l : Int) + 1) % (r'.length : Int) = (((l + 1) % w'.length : Nat) : Int):=by rw [h4, Int.natCast_emod]; rfl
      rw [CB s1, CB s2, XJ, XJ]
      simp only [Rs.okb]
      rw [Yr h1, Yr h3]
      simp only [Rs.okb]
      rw [Yr h2, Yr h6]
      simp only [Rs.okb]
      rw [Ym (by first | lia | omega), hm]
      simp only [Rs.okb]
      rw [Yr h7]
      simp only [Rs.okb]
      rw [XF hg]
      congr 2
      rw [← h8, ← h9]
  . unfold ZP
    simp only [Rs.okb]
    rw [DF h.few h.short, XJ]
    simp only [Rs.okb]
    rw [Qz (h:=v) (sz (by have:=h.le; simp; (first | lia | omega))) fun g hg e he=>?_]
    . rw [Rs.okb, List.nil_append]
    . obtain ⟨i, j, k, l, w, w', r, r', s1, s2, h1, h2, h3, h4, h5, h6, h7, h8, h9⟩ := hv e he
      have hm : ((l : Int) + 1) % (w'.length : Int) = (((l + 1) % w'.length : Nat) : Int):=by rw [Int.natCast_emod]; rfl
      rw [U5 h.few s1, U5 h.few s2, XJ, XJ]
      simp only [Rs.okb]
      rw [Yr s2.wi]
      simp only [Rs.okb]
      rw [Ym (by first | lia | omega), hm]
      simp only [Rs.okb]
      rw [Yr h1, Yr h3]
      simp only [Rs.okb]
      rw [Yr h2, Yr h6]
      simp only [Rs.okb]
      rw [Yr h7]
      simp only [Rs.okb]
      rw [XF hg]
      congr 2
      rw [← h8, ← h9]
  . obtain ⟨e, he, rfl⟩ := List.mem_map.mp hm
    obtain ⟨i, j, k, l, w, w', r, r', s1, s2, h1, h2, h3, h4, h5, h6, h7, h8, h9⟩:=hv e he
    exact ⟨by rw [h9]; exact h.sg e he, CN s1.wi h1 h2, CN s2.wi h3 h6, CN s2.wi h3 h7⟩
end My
namespace My
open PySem L2
theorem Kp {α γ ρ : Type} {F : γ -> α -> Rs (Ctl ρ γ)} {p : α -> Bool} {v : ρ} {g : γ} : ∀ {as : List α}, (∀ a ∈ as, F g a = .ok (if p a = true then .ret v else .nx g)) -> forC as g F = .ok (if as.any p = true then .ret v else .nx g)
  | [], _=>rfl
  | a :: as, h=>by
    show (F g a).bind _ = _
    rw [h a (by simp), Rs.okb, List.any_cons]
    cases hp : p a with
    | true=>rw [if_pos rfl]; rfl
    | false=>
      rw [if_neg Bool.false_ne_true, Bool.false_or]
      exact Kp fun b hb=>h b (by simp [hb])
noncomputable def held (f : Nat -> Nat -> Nat) (cn : Int -> Nat) (m : Int × Int × Int × Int × Int) : Bool:=if m.2.1 = 1 then decide ((f (cn m.2.2.2.1) (cn m.2.2.1) : Int) = cn m.2.2.2.2) else decide ((f (cn m.2.2.2.2) (cn m.2.2.1) : Int) = cn m.2.2.2.1)
section
variable {n : Nat} {f : Nat -> Nat -> Nat} {c : List Int} {cn : Int -> Nat} {N : Int}
theorem BJ {ms : List (Int × Int × Int × Int × Int)} (hc : ∀ k, 0 <= k -> k < N -> atR c k = .ok (cn k : Int) /\ cn k < n) (hm : ∀ m ∈ ms, MG N m) : Jx ms (Ze n f) c = .ok (ms.all (held f cn)):=by
  unfold Jx
  simp only [Rs.okb]
  rw [Kp (p:=fun m=>!held f cn m) (v:=false) fun m h=>?_]
  . rw [Rs.okb]
    have e : ms.any (fun m=>!held f cn m) = !ms.all (held f cn):=by
      rw [List.not_all_eq_any_not]
    rw [e]
    cases ms.all (held f cn) with
    | true=>rw [show (!true) = false from rfl, if_neg Bool.false_ne_true, J5]
    | false=>rw [show (!false) = true from rfl, if_pos rfl, VL]
  . obtain ⟨s, ⟨o0, o1⟩, ⟨a0, a1⟩, b0, b1⟩ := hm m h
    rw [(hc _ a0 a1).1, (hc _ b0 b1).1]
    simp only [Rs.okb]
    unfold held
    rcases s with s | s
    . rw [if_neg (show ¬ decide (m.2.1 < 0) = true by rw [decide_eq_true_eq]; (first | lia | omega)), if_pos s]
      simp only [Rs.okb]
      rw [Ui (hc _ a0 a1).2]
      simp only [Rs.okb]
      rw [(hc _ o0 o1).1]
      simp only [Rs.okb]
      rw [KH (hc _ o0 o1).2]
      simp only [Rs.okb]
      cases (!decide ((f (cn m.2.2.2.1) (cn m.2.2.1) : Int) = cn m.2.2.2.2)) <;> rfl
    . rw [if_pos (decide_eq_true (show m.2.1 < 0 by first | lia | omega)), if_neg (show ¬ m.2.1 = 1 by first | lia | omega)]
      simp only [Rs.okb]
      rw [Ui (hc _ b0 b1).2]
      simp only [Rs.okb]
      rw [(hc _ o0 o1).1]
      simp only [Rs.okb]
      rw [KH (hc _ o0 o1).2]
      simp only [Rs.okb]
      cases (!decide ((f (cn m.2.2.2.2) (cn m.2.2.1) : Int) = cn m.2.2.2.1)) <;> rfl
noncomputable def Jq (m : Int × Int × Int × Int × Int) : Int × Int × Int:=if m.2.1 = 1 then (m.2.2.2.1, m.2.2.1, m.2.2.2.2) else (m.2.2.2.2, m.2.2.1, m.2.2.2.1)
theorem ES {D : List (List Int) × List (Int × Int)} {ms : List (Int × Int × Int × Int × Int)} (h : QC D = .ok ms) (hl : ms.length <= 1000) : V2 D = .ok (ms.map Jq):=by
  unfold V2
  simp only [Rs.okb]
  rw [h, XJ]
  simp only [Rs.okb]
  rw [Qz (h:=Jq) (sz (by simp; (first | lia | omega))) fun g hg e he=>?_]
  . rw [Rs.okb, List.nil_append]
  . unfold Jq
    by_cases s : e.2.1 = 1
    . rw [if_pos (decide_eq_true s), if_pos s]
      simp only [Rs.okb]
      exact XF hg
    . rw [if_neg (by rw [decide_eq_true_eq]; exact s), if_neg s]
      simp only [Rs.okb]
      exact XF hg
theorem Gx {ms : List (Int × Int × Int × Int × Int)} (hl : ms.length <= 1000) (hc : ∀ k, 0 <= k -> k < N -> atR c k = .ok (cn k : Int) /\ cn k < n) (hm : ∀ m ∈ ms, MG N m) : ZG (Ze n f) c (ms.map Jq) = .ok (ms.all (held f cn)):=by
  unfold ZG
  simp only [Rs.okb]
  rw [Qf (h:=fun t : Int × Int × Int=>decide ((f (cn t.1) (cn t.2.1) : Int) = cn t.2.2)) (sz (by simp; (first | lia | omega))) fun t ht=>?_]
  . rw [Rs.okb, List.map_map]
    congr 1
    rw [List.all_map]
    refine congrArg (fun F=>ms.all F) (funext fun m=>?_)
    show decide _ = held f cn m
    unfold held Jq
    by_cases s : m.2.1 = 1
    . simp only [if_pos s]
    . simp only [if_neg s]
  . obtain ⟨m, h, rfl⟩ := List.mem_map.mp ht
    obtain ⟨s, ⟨o0, o1⟩, ⟨a0, a1⟩, b0, b1⟩:=hm m h
    have key : ∀ x y z : Int, 0 <= x -> x < N -> 0 <= y -> y < N -> 0 <= z -> z < N -> ((((atR c x).bind fun x9=>atR (Ze n f) x9).bind fun x12=>(atR c y).bind fun x13=>atR x12 x13).bind fun x16=>(atR c z).bind fun x17=>(Rs.ok (decide (x16 = x17)) : Rs Bool)) = .ok (decide ((f (cn x) (cn y) : Int) = cn z)):=fun x y z x0 x1 y0 y1 z0 z1=>by
      rw [(hc x x0 x1).1, (hc y y0 y1).1, (hc z z0 z1).1]
      simp only [Rs.okb]
      rw [Ui (hc x x0 x1).2]
      simp only [Rs.okb]
      rw [KH (hc y y0 y1).2]
      simp only [Rs.okb]
    unfold Jq
    by_cases s : m.2.1 = 1
    . rw [if_pos s]; exact key _ _ _ a0 a1 o0 o1 b0 b1
    . rw [if_neg s]; exact key _ _ _ b0 b1 o0 o1 a0 a1
end
theorem Hv {c : List Int} {n : Nat} {N : Int} (hN : (c.length : Int) = N) (hc : ∀ x ∈ c, 0 <= x /\ x < (n : Int)) : ∀ k, 0 <= k -> k < N -> atR c k = .ok (((c.getD k.toNat 0).toNat : Nat) : Int) /\ (c.getD k.toNat 0).toNat < n:=fun k k0 k1=>by
  have hk : k.toNat < c.length:=by first | lia | omega
  have hx:=hc c[k.toNat] (List.getElem_mem hk)
  have e : c.getD k.toNat 0 = c[k.toNat]:=by simp [hk]
  rw [e]
  refine ⟨?_, by first | lia | omega⟩
  rw [YQ (n:=k.toNat) (by first | lia | omega) hk]
  congr 1
  first | lia | omega
end My
namespace My
open PySem L2
theorem BR {n K : Nat} (h24 : n <= 100) (hK : K <= 3000) : JC (n : Int) (K : Int) = .ok ((n ^ K : Nat) : Int):=by
  unfold JC
  simp only [Rs.okb]
  rw [Y2 (by first | lia | omega)]
  simp only [Rs.okb]
  apply Ok.eq
  refine Ok.bind (Ok.forN (fun i (g : Int)=>g = ((n ^ i : Nat) : Int)) rfl fun i a g ha hg=>?_) fun g hg=>?_
  . subst hg
    rw [Z8 (by first | lia | omega) (by first | lia | omega), Rs.okb]
    refine ⟨_, rfl, ?_⟩
    rw [Nat.pow_succ]
    exact (Int.natCast_mul _ _).symm
  . rw [Yi] at hg
    exact ⟨_, rfl, hg⟩
theorem DG.of {most : Nat} {D : List (List Int) × List (Int × Int)} (h : Drawn most D) (hm : most <= 100) : DG D where
  few:=by have:=h.few; (first | lia | omega)
  short:=fun w hw=>by
    have h1:=h.perm.length_eq
    rw [Qq, List.length_map] at h1
    have h2:=(List.sublist_flatten_of_mem hw).length_le
    have:=h.le
    first | lia | omega
  le:=by have:=h.le; (first | lia | omega)
  mem:=fun e he=>by
    have hm : e.1 ∈ D.2.map Prod.fst:=List.mem_map.mpr ⟨e, he, rfl⟩
    exact ⟨h.perm.mem_iff.mpr (List.mem_flatMap.mpr ⟨_, hm, by simp⟩), h.perm.mem_iff.mpr (List.mem_flatMap.mpr ⟨_, hm, by simp⟩)⟩
  sg:=fun e he=>(h.pos e he).2.2
  count:=by
    rw [JV, DR h.perm, F7 fun x hx=>?_, List.length_map]
    obtain ⟨e, he, rfl⟩:=List.mem_map.mp hx
    exact (h.pos e he).1
theorem DG.other {D : List (List Int) × List (Int × Int)} (h : DG D) : DG (D.1, D.2.map fun e=>(e.1, -e.2)) where
  few:=h.few
  short:=h.short
  le:=by rw [List.length_map]; exact h.le
  mem:=fun e he=>by
    obtain ⟨x, hx, rfl⟩:=List.mem_map.mp he
    exact h.mem x hx
  sg:=fun e he=>by
    obtain ⟨x, hx, rfl⟩:=List.mem_map.mp he
    have:=h.sg x hx
    show -x.2 = 1 ∨ -x.2 = -1
    first | lia | omega
  count:=by rw [List.length_map]; exact h.count
theorem Hk (o a b : Int) : KL [o, a, b] = max (max o a) b:=rfl
theorem HJ {n i j : Nat} (hn : 0 < n) (h : i <= j) : n ^ i <= n ^ j:=Nat.pow_le_pow_right hn h
theorem K6 {c : List Int} {n k : Nat} (hl : c.length = k) (hc : ∀ x ∈ c, 0 <= x /\ x < (n : Int)) : ∀ j, 0 <= j -> j < (k : Int) -> atR c j = .ok (((c.getD j.toNat 0).toNat : Nat) : Int) /\ (c.getD j.toNat 0).toNat < n:=Hv (by first | lia | omega) hc
end My
namespace My
open PySem L2
theorem Vo {α β : Type} {F : List β -> α -> Rs (List β)} {p : α -> Bool} {h : α -> β} : ∀ {as : List α} {g : List β}, g.length + as.length <= 100000 -> (∀ (g : List β) a, a ∈ as -> g.length < 100000 -> F g a = .ok (if p a = true then g ++ [h a] else g)) -> forN as g F = .ok (g ++ (as.filter p).map h)
  | [], g, _, _=>by rw [List.filter_nil, List.map_nil, List.append_nil]; rfl
  | a :: as, g, hl, hf=>by
    show (F g a).bind _ = _
    rw [List.length_cons] at hl
    rw [hf g a List.mem_cons_self (by first | lia | omega), Rs.okb]
    cases hp : p a with
    | true=>
      rw [if_pos rfl, List.filter_cons_of_pos hp, List.map_cons]
      refine (Vo (by simp; (first | lia | omega)) fun g b hb=>hf g b (List.mem_cons_of_mem _ hb)).trans ?_
      rw [List.append_assoc]; rfl
    | false=>
      rw [if_neg Bool.false_ne_true, List.filter_cons_of_neg (by rw [hp]; exact Bool.false_ne_true)]
      exact Vo (by first | lia | omega) fun g b hb=>hf g b (List.mem_cons_of_mem _ hb)
noncomputable abbrev M5:=Int × Int × Int × Int × Int
noncomputable def Jm (c : List Int) (i : Int) : Nat:=(c.getD i.toNat 0).toNat
noncomputable def J0 (n : Nat) (f : Nat -> Nat -> Nat) (ms : List M5) (c : List Int) : List (List Int):=((((List.range n).map fun (i : Nat)=>(i : Int))).filter fun j=>ms.all (held f (Jm (c ++ [j])))).map fun j=>c ++ [j]
noncomputable def Gq (n : Nat) (f : Nat -> Nat -> Nat) (ms : List M5) (T : List (List Int)) : List (List Int):=T.flatMap (J0 n f ms)
noncomputable def G1 (k : Nat) (m : M5) : Bool:=decide (KL [m.2.2.1, m.2.2.2.1, m.2.2.2.2] = (k : Int))
noncomputable def TT (n : Nat) (f : Nat -> Nat -> Nat) (ms : List M5) : Nat -> List (List Int)
  | 0=>[[]]
  | k + 1=>Gq n f (ms.filter (G1 k)) (TT n f ms k)
noncomputable def Lo (n k : Nat) (T : List (List Int)) : Prop:=T.length <= n ^ k /\ ∀ c ∈ T, c.length = k /\ ∀ x ∈ c, 0 <= x /\ x < (n : Int)
section
variable {n : Nat} {f : Nat -> Nat -> Nat} {ms : List M5}
theorem GZ (c : List Int) : (J0 n f ms c).length <= n:=by
  unfold J0
  rw [List.length_map]
  exact Nat.le_trans (List.length_filter_le ..) (by simp)
theorem GF : ∀ T : List (List Int), (Gq n f ms T).length <= T.length * n
  | []=>by simp [Gq]
  | c :: T=>by
    have h:=GF T
    have h2:=GZ (n:=n) (f:=f) (ms:=ms) c
    unfold Gq at h ⊢
    rw [List.flatMap_cons, List.length_append, List.length_cons, Nat.succ_mul]
    first | lia | omega
theorem Cg {k : Nat} {T : List (List Int)} (h : Lo n k T) : Lo n (k + 1) (Gq n f ms T):=by
  refine ⟨Nat.le_trans (GF T) (by rw [Nat.pow_succ]; exact Nat.mul_le_mul_right n h.1), fun d hd=>?_⟩
  obtain ⟨c, hc, hd⟩:=List.mem_flatMap.mp hd
  unfold J0 at hd
  obtain ⟨j, hj, rfl⟩:=List.mem_map.mp hd
  obtain ⟨i, hi, rfl⟩:=Y1 (List.mem_filter.mp hj).1
  obtain ⟨h1, h2⟩:=h.2 c hc
  refine ⟨by simp [h1], fun x hx=>?_⟩
  rcases List.mem_append.mp hx with z | z
  . exact h2 x z
  . rw [List.mem_singleton] at z; (first | lia | omega)
theorem Jw : ∀ k, Lo n k (TT n f ms k)
  | 0=>⟨by simp [TT], fun c hc=>by
    have : c = []:=by simpa [TT] using hc
    subst this
    exact ⟨rfl, fun x hx=>by cases hx⟩⟩
  | k + 1=>Cg (Jw k)
theorem outer {F : List (List Int) -> List Int -> Rs (List (List Int))} {T : List (List Int)} (hT : T.length * n <= 90000) (hF : ∀ (g : List (List Int)) c, c ∈ T -> g.length + n <= 90000 -> F g c = .ok (g ++ J0 n f ms c)) : forN T [] F = .ok (Gq n f ms T):=by
  obtain ⟨r, e, h⟩:=UA (f:=F) (fun i (g : List (List Int))=>g = (T.take i).flatMap (J0 n f ms) /\ g.length <= i * n) (as:=T) (g:=[]) ⟨by simp, by simp⟩ fun i c g hc hg=>by
    have hi:=(List.getElem?_eq_some_iff.mp hc).1
    obtain ⟨h1, h2⟩:=hg
    have h3 : (i + 1) * n <= T.length * n:=Nat.mul_le_mul_right n (by first | lia | omega)
    rw [Nat.succ_mul] at h3
    refine ⟨_, hF g c (List.mem_of_getElem? hc) (by first | lia | omega), ?_, ?_⟩
    . rw [List.take_add_one, hc, List.flatMap_append, ← h1]
      simp
    . rw [List.length_append, Nat.succ_mul]
      have:=GZ (n:=n) (f:=f) (ms:=ms) c
      first | lia | omega
  rw [e, h.1, List.take_length]
  rfl
theorem II {N : Int} (hm : ∀ m ∈ ms, MG N m) (k : Nat) : ∀ m ∈ ms.filter (G1 k), MG ((k + 1 : Nat) : Int) m:=fun m h=>by
  obtain ⟨h1, h2⟩:=List.mem_filter.mp h
  unfold G1 at h2
  rw [decide_eq_true_eq, Hk] at h2
  obtain ⟨s, o, a, b⟩:=hm m h1
  exact ⟨s, ⟨o.1, by first | lia | omega⟩, ⟨a.1, by first | lia | omega⟩, b.1, by first | lia | omega⟩
theorem LE {c : List Int} {k : Nat} (h1 : c.length = k) (h2 : ∀ x ∈ c, 0 <= x /\ x < (n : Int)) {j : Nat} (hj : j < n) : ∀ i, 0 <= i -> i < ((k + 1 : Nat) : Int) -> atR (c ++ [(j : Int)]) i = .ok (Jm (c ++ [(j : Int)]) i : Int) /\ Jm (c ++ [(j : Int)]) i < n:=
  K6 (k:=k + 1) (by simp [h1]) fun x hx=>by
    rcases List.mem_append.mp hx with z | z
    . exact h2 x z
    . rw [List.mem_singleton] at z; (first | lia | omega)
theorem L9 {c : List Int} {j : Int} (h : c.length <= 1000) : ((chk ([j].length <= sizeLine) (Rs.ok [j])).bind fun x=>HH c x) = .ok (c ++ [j]):=by
  rw [XF (sz (by simp)), Rs.okb]
  exact XF (sz (by simp; (first | lia | omega)))
theorem DC {N : Int} {k : Nat} {T : List (List Int)} (hk : k <= 900) (hl : ms.length <= 1000) (hm : ∀ m ∈ ms, MG N m) (hT : Lo n k T) (hb : T.length * n <= 90000) (hn : n <= 1000) : Yu T (Ze n f) ((ms.filter (G1 k)).map Jq) = .ok (Gq n f (ms.filter (G1 k)) T):=by
  unfold Yu
  simp only [Rs.okb, XZ]
  rw [outer (n:=n) (f:=f) (ms:=ms.filter (G1 k)) hb, Rs.okb]
  intro g c hc hg
  obtain ⟨h1, h2⟩:=hT.2 c hc
  rw [Y2 (by first | lia | omega), Rs.okb, Vo (p:=fun j=>(ms.filter (G1 k)).all (held f (Jm (c ++ [j])))) (h:=fun j=>c ++ [j]) (by simp; (first | lia | omega)), Rs.okb]
  . rfl
  intro g' a ha hg'
  obtain ⟨j, hj, rfl⟩:=Y1 ha
  rw [L9 (by first | lia | omega), Rs.okb, Gx (cn:=Jm (c ++ [(j : Int)])) (Nat.le_trans (List.length_filter_le ..) hl) (LE h1 h2 hj) (II hm k), XJ, Rs.okb]
  cases (ms.filter (G1 k)).all (held f (Jm (c ++ [(j : Int)]))) with
  | true=>rw [if_pos rfl, XF (Fs (by first | lia | omega))]; rfl
  | false=>rw [if_neg Bool.false_ne_true]; rfl
theorem Hm (k : Nat) : (ms.map Jq).filter (fun t=>decide (KL [t.1, t.2.1, t.2.2] = (k : Int))) = (ms.filter (G1 k)).map Jq:=by
  induction ms with
  | nil=>rfl
  | cons m t ih=>
    have e : decide (KL [(Jq m).1, (Jq m).2.1, (Jq m).2.2] = (k : Int)) = G1 k m:=by
      unfold Jq G1
      rw [Hk]
      by_cases s : m.2.1 = 1
      . rw [if_pos s, Hk]
        congr 1
        rw [Int.max_comm m.2.2.2.1 m.2.2.1]
      . rw [if_neg s, Hk]
        congr 1
        rw [Int.max_comm m.2.2.2.2 m.2.2.1, Int.max_assoc, Int.max_comm m.2.2.2.2, ← Int.max_assoc]
    rw [List.map_cons, List.filter_cons, List.filter_cons, e, ih]
    cases G1 k m <;> rfl
end
section
variable {D : List (List Int) × List (Int × Int)} {n K : Nat} {f : Nat -> Nat -> Nat}
theorem Ik (h : DG D) (hn : 0 < n) (h24 : n <= 100) (hK : X8 D.1 = (K : Int)) (hp : n ^ K <= 7000) (hK2 : K <= 900) {ms : List M5} (e1 : QC D = .ok ms) (hl : ms.length <= 1000) (hm : ∀ m ∈ ms, MG (X8 D.1) m) : Yy D (Ze n f) = .ok (TT n f ms K):=by
  unfold Yy
  simp only [Rs.okb, XZ]
  rw [Kl h.few h.short, XJ, Rs.okb, hK]
  have er : Yc (n : Int) (K : Int) = .ok ():=by
    unfold Yc
    simp only [Rs.okb]
    rw [Y2 (by first | lia | omega), Rs.okb]
    apply Ok.eq
    refine Ok.bind (Ok.forN (fun i (g : Int)=>g = ((n ^ i : Nat) : Int)) rfl fun i a g ha hg=>?_) fun g hg=>?_
    . subst hg
      rw [Z8 (by first | lia | omega) (by first | lia | omega), Rs.okb]
      refine ⟨_, rfl, ?_⟩
      rw [Nat.pow_succ]
      exact (Int.natCast_mul _ _).symm
    . rw [Yi] at hg
      subst hg
      rw [if_neg (by simp only [decide_eq_true_eq]; (first | lia | omega))]
      exact ⟨_, rfl, rfl⟩
  rw [er, XJ, Rs.okb, ES e1 hl, XJ, Rs.okb, XF (sz (by simp)), Rs.okb, Y2 (by first | lia | omega), Rs.okb]
  apply Ok.eq
  refine Ok.bind (Ok.forN (fun k (T : List (List Int))=>T = TT n f ms k) rfl fun k a T ha hT=>?_) fun T hT=>?_
  . obtain ⟨rfl, hk⟩ := Yp ha
    subst hT
    have hc:=Jw (n:=n) (f:=f) (ms:=ms) k
    have hpk : n ^ (k + 1) <= 7000:=Nat.le_trans (HJ hn (by first | lia | omega)) hp
    have hb : (TT n f ms k).length * n <= 90000:=by
      have:=Nat.mul_le_mul_right n hc.1
      have e : n ^ (k + 1) = n ^ k * n:=Nat.pow_succ ..
      first | lia | omega
    rw [Gr (as:=ms.map Jq) (f:=fun t=>Rs.ok t) (p:=fun t : Int × Int × Int=>decide (KL [t.1, t.2.1, t.2.2] = (k : Int))) (h:=fun t=>t) (sz (by rw [List.length_map]; (first | lia | omega))) (fun t _=>(by rw [show LH [t.1, t.2.1, t.2.2] = .ok (KL [t.1, t.2.1, t.2.2]) from rfl]; rfl)) fun _ _ _=>rfl, List.map_id', Rs.okb, Hm, DC (by first | lia | omega) hl hm hc hb (by first | lia | omega), XJ]
    exact ⟨_, rfl, rfl⟩
  . rw [Yi] at hT
    exact ⟨_, rfl, hT⟩
theorem DX (l : List Int) : Zl l = .ok true:=by
  unfold Zl
  simp only [Rs.okb]
  rw [if_neg (by decide), Qc]
  . rfl
  intro a _
  rfl
theorem Ep (h : D.1.length <= 1000) : Vn D = .ok D:=by
  unfold Vn
  simp only [Rs.okb]
  rw [Qf (h:=fun a=>a) (sz (by first | lia | omega)) fun _ _=>rfl, List.map_id', Rs.okb]
theorem BO (h : DG D) (hK : X8 D.1 = (K : Int)) (hK2 : K <= 900) : Ok (JA D 7000) fun s=>∃ q : Nat, s = (q : Int) /\ 1 <= q /\ q <= 6 /\ q ^ K <= 7000:=by
  unfold JA
  simp only [Rs.okb]
  rw [G3 h.short, XJ, ← h.count, hK, Rs.okb]
  refine Ok.bind (Ok.imp (Jg (fun g : Int=>∃ q : Nat, g = (q : Int) /\ 1 <= q /\ q <= 6 /\ q ^ K <= 7000) (fun g=>6 - g.toNat) (fun g hg=>?_) 8 1 ⟨1, rfl, by decide, by decide, by rw [Nat.one_pow]; decide⟩ (by decide)) fun g hg=>hg.1) fun s hs=>⟨_, rfl, hs⟩
  obtain ⟨q, rfl, q1, q6, qp⟩:=hg
  have e : (q : Int) + 1 = ((q + 1 : Nat) : Int):=by first | lia | omega
  refine ⟨decide ((q : Int) < 6) && decide ((((q + 1) ^ K : Nat) : Int) <= 7000), ?_, fun c=>?_⟩
  . rw [e, BR (by first | lia | omega) (by first | lia | omega), XJ, Rs.okb]
    exact Ee fun _=>rfl
  . rw [Bool.and_eq_true, decide_eq_true_eq, decide_eq_true_eq] at c
    refine ⟨_, rfl, ⟨q + 1, e, by first | lia | omega, by first | lia | omega, by first | lia | omega⟩, ?_⟩
    show 6 - ((q : Int) + 1).toNat < 6 - ((q : Int)).toNat
    first | lia | omega
end
theorem BP (ws : List (List Int)) : JZ ws <= ws.length:=by
  unfold JZ
  exact List.length_filter_le ..
end My
namespace My
open PySem L2
theorem EZ {α : Type} [DecidableEq α] {a : α} {l : List α} (h : a ∈ l) : Lm a l = true:=decide_eq_true h
section
variable {n : Nat} {f : Nat -> Nat -> Nat} {ms : List M5}
noncomputable def mx (m : M5) : Int:=KL [m.2.2.1, m.2.2.2.1, m.2.2.2.2]
theorem Fb {cn cn' : Int -> Nat} {m : M5} (h1 : cn m.2.2.1 = cn' m.2.2.1) (h2 : cn m.2.2.2.1 = cn' m.2.2.2.1) (h3 : cn m.2.2.2.2 = cn' m.2.2.2.2) : held f cn m = held f cn' m:=by
  unfold held
  rw [h1, h2, h3]
theorem Cy {c : List Int} {j : Int} {i : Int} (h0 : 0 <= i) (h : i < (c.length : Int)) : Jm (c ++ [j]) i = Jm c i:=by
  unfold Jm
  rw [List.getD_eq_getElem?_getD, List.getD_eq_getElem?_getD, List.getElem?_append_left (by first | lia | omega)]
theorem GN {c : List Int} {j : Int} {N : Int} {m : M5} (hm : MG N m) (hk : mx m < (c.length : Int)) : held f (Jm (c ++ [j])) m = held f (Jm c) m:=by
  have e : mx m = max (max m.2.2.1 m.2.2.2.1) m.2.2.2.2:=Hk ..
  obtain ⟨_, h1, h2, h3⟩:=hm
  exact Fb (Cy h1.1 (by first | lia | omega)) (Cy h2.1 (by first | lia | omega)) (Cy h3.1 (by first | lia | omega))
noncomputable def EN (f : Nat -> Nat -> Nat) (ms : List M5) (k : Nat) (c : List Int) : Prop:=∀ m ∈ ms, mx m < (k : Int) -> held f (Jm c) m = true
theorem J6 {c d : List Int} : d ∈ J0 n f ms c ↔ ∃ j : Nat, j < n /\ (∀ m ∈ ms, held f (Jm (c ++ [(j : Int)])) m = true) /\ d = c ++ [(j : Int)]:=by
  unfold J0
  rw [List.mem_map]
  constructor
  . rintro ⟨j, hj, rfl⟩
    obtain ⟨h1, h2⟩:=List.mem_filter.mp hj
    obtain ⟨i, hi, rfl⟩:=Y1 h1
    exact ⟨i, hi, List.all_eq_true.mp h2, rfl⟩
  . rintro ⟨j, hj, h, rfl⟩
    exact ⟨(j : Int), List.mem_filter.mpr ⟨List.mem_map.mpr ⟨j, List.mem_range.mpr hj, rfl⟩, List.all_eq_true.mpr h⟩, rfl⟩
theorem GK {N : Int} (hm : ∀ m ∈ ms, MG N m) : ∀ (k : Nat) (c : List Int), c ∈ TT n f ms k ↔ c.length = k /\ (∀ x ∈ c, 0 <= x /\ x < (n : Int)) /\ EN f ms k c:=by
  intro k
  induction k with
  | zero=>
    intro c
    constructor
    . intro h
      have : c = []:=by simpa [TT] using h
      subst this
      refine ⟨rfl, (fun x hx=>nomatch hx), fun m hmm hk=>?_⟩
      have e : mx m = max (max m.2.2.1 m.2.2.2.1) m.2.2.2.2:=Hk ..
      obtain ⟨_, h1, _⟩:=hm m hmm
      first | lia | omega
    . rintro ⟨h, _⟩
      rw [List.length_eq_zero_iff.mp h]
      simp [TT]
  | succ k ih=>
    intro d
    show d ∈ (TT n f ms k).flatMap (J0 n f (ms.filter (G1 k))) ↔ _
    rw [List.mem_flatMap]
    constructor
    . rintro ⟨c, hc, hd⟩
      obtain ⟨hl, hx, hh⟩:=(ih c).mp hc
      obtain ⟨j, hj, hj2, rfl⟩:=J6.mp hd
      refine ⟨by simp [hl], fun x h=>?_, fun m hmm hk=>?_⟩
      . rcases List.mem_append.mp h with h | h
        . exact hx x h
        . rw [List.mem_singleton.mp h]; (first | lia | omega)
      . by_cases e : mx m = (k : Int)
        . exact hj2 m (List.mem_filter.mpr ⟨hmm, decide_eq_true e⟩)
        . rw [GN (hm m hmm) (by first | lia | omega)]
          exact hh m hmm (by first | lia | omega)
    . rintro ⟨hl, hx, hh⟩
      have hne : d ≠ []:=fun z=>by rw [z] at hl; cases hl
      have hd:=List.dropLast_concat_getLast hne
      have hlast:=hx _ (List.getLast_mem hne)
      obtain ⟨j, hj⟩ : ∃ j : Nat, d.getLast hne = (j : Int):=⟨(d.getLast hne).toNat, by first | lia | omega⟩
      rw [hj] at hd hlast
      have hcl : d.dropLast.length = k:=by rw [List.length_dropLast]; (first | lia | omega)
      refine ⟨d.dropLast, (ih _).mpr ⟨hcl, fun x h=>hx x ((List.dropLast_sublist d).mem h), fun m hmm hk=>?_⟩, J6.mpr ⟨j, by first | lia | omega, fun m hmm=>?_, hd.symm⟩⟩
      . have := hh m hmm (by first | lia | omega)
        rw [← hd, GN (hm m hmm) (by first | lia | omega)] at this
        exact this
      . obtain ⟨h1, h2⟩ := List.mem_filter.mp hmm
        have h2 : mx m = (k : Int):=of_decide_eq_true h2
        rw [hd]
        exact hh m h1 (by first | lia | omega)
theorem Ie : ∀ {c c' : List Int} {j j' : Int}, c.length = c'.length -> ltL c c' = true -> ltL (c ++ [j]) (c' ++ [j']) = true:=by
  intro c
  induction c with
  | nil=>
    intro c' j j' h hl
    cases c' with
    | nil=>cases hl
    | cons=>cases h
  | cons a c ih=>
    intro c' j j' h hl
    cases c' with
    | nil=>cases h
    | cons b c'=>
      show (if a = b then ltL (c ++ [j]) (c' ++ [j']) else decide (a < b)) = true
      have hl : (if a = b then ltL c c' else decide (a < b)) = true:=hl
      by_cases e : a = b
      . rw [if_pos e] at hl ⊢
        exact ih (Nat.succ.inj h) hl
      . rw [if_neg e] at hl ⊢
        exact hl
theorem E2 {c : List Int} {j j' : Int} (h : j < j') : ltL (c ++ [j]) (c ++ [j']) = true:=by
  induction c with
  | nil=>
    show (if j = j' then _ else decide (j < j')) = true
    rw [if_neg (by first | lia | omega)]
    exact decide_eq_true h
  | cons a c ih=>
    show (if a = a then ltL (c ++ [j]) (c ++ [j']) else _) = true
    rw [if_pos rfl]
    exact ih
theorem K5 (c : List Int) : (J0 n f ms c).Pairwise fun a b=>ltL a b = true:=by
  unfold J0
  rw [List.pairwise_map]
  refine List.Pairwise.filter _ ?_
  rw [List.pairwise_map]
  exact List.pairwise_lt_range.imp fun h=>E2 (by first | lia | omega)
theorem DK : ∀ k, (TT n f ms k).Pairwise fun a b=>ltL a b = true:=by
  intro k
  induction k with
  | zero=>exact List.pairwise_singleton ..
  | succ k ih=>
    show ((TT n f ms k).flatMap (J0 n f (ms.filter (G1 k)))).Pairwise _
    rw [List.pairwise_flatMap]
    refine ⟨fun c _=>K5 c, ih.imp_of_mem fun {a b} ha hb hab x hx y hy=>?_⟩
    obtain ⟨j, _, _, rfl⟩:=J6.mp hx
    obtain ⟨j', _, _, rfl⟩:=J6.mp hy
    exact Ie ((((Jw (n:=n) (f:=f) (ms:=ms) k).2 a ha).1).trans ((Jw (n:=n) (f:=f) (ms:=ms) k).2 b hb).1.symm) hab
end
section
variable {D : List (List Int) × List (Int × Int)} {n K : Nat} {f : Nat -> Nat -> Nat} {ms : List M5}
theorem Hx (hc : Zy D = .ok (K : Int)) (hn : n <= 100) (hK2 : K <= 900) (hp : n ^ K <= 7000) (e2 : ZP D = .ok ms) (hm : ∀ m ∈ ms, MG (K : Int) m) : Zm D (Ze n f) (TT n f ms K) = .ok true:=by
  have hcols:=Jw (n:=n) (f:=f) (ms:=ms) K
  have hlen : (TT n f ms K).length <= 7000:=Nat.le_trans hcols.1 hp
  unfold Zm
  simp only [Rs.okb, XZ]
  rw [e2, XJ, Rs.okb, hc, XJ, Rs.okb, Y2 (by first | lia | omega), Rs.okb, Qc, Rs.okb, J5]
  intro a ha
  obtain ⟨i, hi, rfl⟩:=Y1 ha
  have hget : (TT n f ms K)[i]? = some (TT n f ms K)[i]:=List.getElem?_eq_getElem hi
  have hmem:=List.getElem_mem hi
  generalize hcc : (TT n f ms K)[i] = c at hget hmem
  obtain ⟨hl, hx, hh⟩:=(GK hm K c).mp hmem
  rw [Yr hget, Rs.okb, DX, XJ]
  simp only [Rs.okb]
  rw [hl, decide_eq_true rfl, show orR (Rs.ok (!true)) (Rs.ok (!true)) = .ok false from rfl, Rs.okb, if_neg (by decide)]
  rw [Qc, Rs.okb, VM]
  . rw [BJ (n := n) (f := f) (N := (K : Int)) (cn := Jm c) (fun j h0 h1 => K6 hl hx j h0 h1) hm, XJ]
    simp only [Rs.okb]
    have hall : ms.all (held f (Jm c)) = true:=List.all_eq_true.mpr fun m hmm=>hh m hmm (by
      have e : mx m = max (max m.2.2.1 m.2.2.2.1) m.2.2.2.2:=Hk ..
      obtain ⟨_, h1, h2, h3⟩:=hm m hmm
      first | lia | omega)
    rw [hall, if_neg (by decide)]
    by_cases hz : 0 < i
    . have hi' : i - 1 < (TT n f ms K).length := by first | lia | omega
      have e1 : (i : Int) - 1 = ((i - 1 : Nat) : Int):=by first | lia | omega
      have hs:=List.pairwise_iff_getElem.mp (DK (n:=n) (f:=f) (ms:=ms) K) (i - 1) i hi' hi (by first | lia | omega)
      rw [hcc] at hs
      rw [decide_eq_true (show (0 : Int) < (i : Int) by first | lia | omega), e1, Yr (List.getElem?_eq_getElem hi'), Rs.okb, hs]
      rfl
    . rw [decide_eq_false (show ¬ (0 : Int) < (i : Int) by first | lia | omega)]
      rfl
  . intro x h
    have:=hx x h
    rw [decide_eq_false (show ¬ x < 0 by first | lia | omega), decide_eq_false (show ¬ (n : Int) <= x by first | lia | omega)]
    rfl
theorem Cf {α : Type} (d : List (List Int × α)) (x : List Int) : (Vq d x).isSome = true ↔ x ∈ d.map fun kx=>kx.1:=by
  unfold Vq
  rw [Option.isSome_map, List.find?_isSome, List.mem_map]
  simp
theorem B4 {α : Type} {d : List (List Int × α)} {k x : List Int} {v : α} (h : x ∈ (d.map fun kx=>kx.1) ∨ x = k) : x ∈ (KD d k v).map fun kx=>kx.1:=by
  unfold KD
  by_cases c : (d.any fun kv=>decide (kv.1 = k)) = true
  . rw [if_pos c, List.map_map]
    have hk : k ∈ d.map fun kx=>kx.1:=by
      obtain ⟨y, hy, e⟩:=List.any_eq_true.mp c
      exact List.mem_map.mpr ⟨y, hy, of_decide_eq_true e⟩
    have hx : x ∈ d.map fun kx=>kx.1:=h.elim (fun h=>h) fun e=>e ▸ hk
    obtain ⟨y, hy, rfl⟩:=List.mem_map.mp hx
    refine List.mem_map.mpr ⟨y, hy, ?_⟩
    show (if y.1 = k then (y.1, v) else y).1 = y.1
    split <;> rfl
  . rw [if_neg c, List.map_append]
    exact h.elim (fun h=>List.mem_append_left _ h) fun e=>List.mem_append_right _ (by simp [e])
theorem BU {α : Type} (d : List (List Int × α)) (k : List Int) (v : α) : (KD d k v).length <= d.length + 1:=by
  unfold KD
  split <;> simp
theorem Dx {c : List Int} {k : Nat} (hl : c.length = k) (hx : ∀ x ∈ c, 0 <= x /\ x < (n : Int)) (a : Nat) {i : Int} (h0 : 0 <= i) (h1 : i < (k : Int)) : Jm (c.map fun x=>(f x.toNat a : Int)) i = f (Jm c i) a:=by
  unfold Jm
  have hi : i.toNat < c.length:=by first | lia | omega
  simp [List.getD_eq_getElem?_getD, hi]
theorem Ft (F : GoodF n f) {N : Int} (hm : ∀ m ∈ ms, MG (K : Int) m) {a : Nat} (ha : a < n) {c : List Int} (h : c ∈ TT n f ms K) : (c.map fun x=>(f x.toNat a : Int)) ∈ TT n f ms K:=by
  obtain ⟨hl, hx, hh⟩:=(GK hm K c).mp h
  refine (GK hm K _).mpr ⟨by simp [hl], fun x h=>?_, fun m hmm hk=>?_⟩
  . obtain ⟨y, hy, rfl⟩ := List.mem_map.mp h
    have:=hx y hy
    have:=F.lt y.toNat a (by first | lia | omega) ha
    first | lia | omega
  . have hd := hh m hmm hk
    have hc:=K6 hl hx
    obtain ⟨hs, h1, h2, h3⟩:=hm m hmm
    have b1 : Jm c m.2.2.1 < n:=(hc _ h1.1 h1.2).2
    have b2 : Jm c m.2.2.2.1 < n:=(hc _ h2.1 h2.2).2
    have b3 : Jm c m.2.2.2.2 < n:=(hc _ h3.1 h3.2).2
    unfold held at hd ⊢
    rw [Dx (n:=n) hl hx a h1.1 h1.2, Dx (n:=n) hl hx a h2.1 h2.2, Dx (n:=n) hl hx a h3.1 h3.2]
    by_cases e : m.2.1 = 1
    . rw [if_pos e, decide_eq_true_eq] at hd ⊢
      have hd : f (Jm c m.2.2.2.1) (Jm c m.2.2.1) = Jm c m.2.2.2.2:=by first | lia | omega
      rw [← F.r3 _ _ _ b2 b1 ha, hd]
    . rw [if_neg e, decide_eq_true_eq] at hd ⊢
      have hd : f (Jm c m.2.2.2.2) (Jm c m.2.2.1) = Jm c m.2.2.2.1:=by first | lia | omega
      rw [← F.r3 _ _ _ b3 b1 ha, hd]
theorem Cq (F : GoodF n f) (hn : n <= 100) (hK2 : K <= 900) (hp : n ^ K <= 7000) (hm : ∀ m ∈ ms, MG (K : Int) m) (z : Int) : QG (Ze n f) (TT n f ms K) z = .ok true:=by
  have hcols:=Jw (n:=n) (f:=f) (ms:=ms) K
  have hlen : (TT n f ms K).length <= 7000:=Nat.le_trans hcols.1 hp
  unfold QG
  simp only [Rs.okb, XZ]
  refine Ok.eq ?_
  refine (Ok.forN (P:=fun i (g : List (List Int × Bool))=>g.length <= i /\ ∀ (j : Nat) c, j < i -> (TT n f ms K)[j]? = some c -> c ∈ g.map fun kx=>kx.1) ⟨Nat.le_refl _, fun j c h=>absurd h (Nat.not_lt_zero _)⟩ ?_).bind ?_
  . rintro i c g hc ⟨hg, hall⟩
    have hi:=(List.getElem?_eq_some_iff.mp hc).1
    refine .chk (Fs (by first | lia | omega)) (.pure ⟨Nat.le_trans (BU ..) (by first | lia | omega), fun j d hj hd=>B4 ?_⟩)
    rcases Nat.lt_or_ge j i with q | q
    . exact .inl (hall j d q hd)
    . have : j = i := by first | lia | omega
      subst this
      rw [hc] at hd
      cases hd
      exact .inr rfl
  . rintro g ⟨_, hall⟩
    have hin : ∀ c ∈ TT n f ms K, (Vq g c).isSome = true:=fun c hc=>by
      obtain ⟨j, hj⟩:=List.mem_iff_getElem?.mp hc
      exact (Cf g c).mpr (hall j c (List.getElem?_eq_some_iff.mp hj).1 hj)
    refine Ok.of ?_
    rw [Y2 (by first | lia | omega), Rs.okb, Qc, Rs.okb, J5]
    intro a ha
    obtain ⟨i, hi, rfl⟩:=Y1 ha
    have hget : (TT n f ms K)[i]? = some (TT n f ms K)[i]:=List.getElem?_eq_getElem hi
    have hmem:=List.getElem_mem hi
    generalize (TT n f ms K)[i] = c at hget hmem
    obtain ⟨hl, hx⟩:=hcols.2 c hmem
    rw [Ym (by decide), Rs.okb, Lx (c:=decide ((i : Int) % 7 = z)) fun _=>rfl, Rs.okb]
    have hgo : (if (decide ((i : Int) < 40) || decide ((i : Int) % 7 = z)) = true then Rs.ok (Ctl.nx () : Ctl Bool Unit) else Rs.ok (Ctl.nx ())) = .ok (.nx ()):=by split <;> rfl
    rw [Y2 (by first | lia | omega), Rs.okb, Qc, Rs.okb, VM, hgo, Rs.okb, VM]
    intro b hb
    obtain ⟨j, hj, rfl⟩:=Y1 hb
    rw [Yr hget, Rs.okb, Qf (h:=fun x=>(f x.toNat j : Int)) (sz (by first | lia | omega)) fun x h=>?_, Rs.okb, Rs.okb, hin _ (Ft F (N:=(K : Int)) hm hj hmem)]
    . rfl
    . have := hx x h
      obtain ⟨y, rfl⟩ : ∃ y : Nat, x = y:=⟨x.toNat, by first | lia | omega⟩
      rw [Ui (by first | lia | omega), Rs.okb, KH hj]
      rfl
theorem ET (F : GoodF n f) (hm : ∀ m ∈ ms, MG (K : Int) m) {a : Nat} (ha : a < n) : List.replicate K (a : Int) ∈ TT n f ms K:=by
  refine (GK hm K _).mpr ⟨by simp, fun x h=>?_, fun m hmm hk=>?_⟩
  . rw [List.eq_of_mem_replicate h]; (first | lia | omega)
  . obtain ⟨hs, h1, h2, h3⟩ := hm m hmm
    have hcn : ∀ i : Int, 0 <= i -> i < (K : Int) -> Jm (List.replicate K (a : Int)) i = a:=fun i h0 hK=>by
      unfold Jm
      rw [List.getD_eq_getElem?_getD, List.getElem?_replicate, if_pos (by first | lia | omega)]
      rfl
    unfold held
    rw [hcn _ h1.1 h1.2, hcn _ h2.1 h2.2, hcn _ h3.1 h3.2, F.r1 a ha]
    split <;> exact decide_eq_true rfl
end
theorem Bz (ns : List Int) (_ : ns.length <= 63) : Gg ns = .ok true:=by
  unfold Gg
  simp only [Rs.okb]
  obtain ⟨D, eD, hD⟩:=Bv ns (p:=0) (by decide) (most:=8) (by decide)
  have eD : QY ns 0 8 = .ok D:=eD
  have d:=DG.of hD (by decide)
  rw [eD, XJ, Rs.okb]
  obtain ⟨K, hK⟩ : ∃ K : Nat, X8 D.1 = (K : Int):=⟨(X8 D.1).toNat, by have:=VQ D.1; (first | lia | omega)⟩
  have hK2 : K <= 900:=by
    have h1:=d.count
    have h2:=hD.le
    have h3:=hD.few
    have h4 : JZ D.1 <= D.1.length:=BP D.1
    first | lia | omega
  obtain ⟨s, es, q, rfl, q1, q6, qp⟩:=BO d hK hK2
  rw [es, XJ, Rs.okb]
  obtain ⟨t, et, n, f, hn, hnq, gd, rfl⟩:=UC ns (p:=1) (by decide) (most:=q) (by first | lia | omega) (by first | lia | omega)
  have hp : n ^ K <= 7000:=Nat.le_trans (Nat.pow_le_pow_left hnq K) qp
  have hcp : KM (Ze n f) (fun a5=>Rs.ok a5) = .ok (Ze n f):=by
    have:=Qf (f:=fun a5=>Rs.ok a5) (h:=fun a=>a) (as:=Ze n f) (by rw [XZ]; exact sz (by first | lia | omega)) fun _ _=>rfl
    rw [this, List.map_id']
  obtain ⟨ms, e1, e2, e3, e4⟩:=Fp d
  have hl : ms.length <= 1000:=by rw [e3]; exact d.le
  have hcol:=Ik (f:=f) d hn (by first | lia | omega) hK hp hK2 e1 hl e4
  rw [hK] at e4
  have hcnt : Zy D = .ok (K : Int):=by rw [G3 d.short, ← d.count, hK]
  rw [et, XJ, Rs.okb, Ep d.few, XJ, Rs.okb, hcp, Rs.okb, hcol, XJ, Rs.okb]
  rw [Hx hcnt (by first | lia | omega) hK2 hp e2 e4, XJ]
  simp only [Rs.okb]
  rw [show orR (Rs.ok (!true)) (Rs.ok (!true)) = .ok false from rfl, Rs.okb, if_neg (by decide)]
  unfold Ks
  simp only [Rs.okb]
  rw [hcol]
  simp only [XJ, Rs.okb, decide_true]
  rw [show Zo ((TT n f ms K).length : Int) = .ok true from rfl, XJ]
  simp only [Rs.okb]
  rw [show orR (Rs.ok (!true)) (Rs.ok (!true)) = .ok false from rfl, Rs.okb, if_neg (by decide), XZ, Y2 (by first | lia | omega), Rs.okb]
  rw [Qc, Rs.okb, J5]
  . rw [XF (sz (by simp)), Rs.okb]
    obtain ⟨r, er, hrl, hb⟩:=Du ns (p:=2) (by decide) [7] (by decide) (by decide)
    have hrl : r.length = 1:=hrl
    rw [er, XJ, Rs.okb, YQ (r:=r) (k:=0) (n:=0) rfl (by first | lia | omega), Rs.okb, Cq gd (by first | lia | omega) hK2 hp e4, XJ]
  . intro a ha
    obtain ⟨i, hi, rfl⟩:=Y1 ha
    rw [XF (sz (by simp)), Rs.okb, hcnt, XJ, Rs.okb]
    have hrep : KP [(i : Int)] (K : Int) = .ok (List.replicate K (i : Int)):=by
      unfold KP
      rw [XF ⟨by first | lia | omega, by first | lia | omega, sz (by simp; (first | lia | omega))⟩]
      congr 1
      rw [Int.toNat_natCast]
      clear hK hK2 qp hp e4 hcnt hcol
      induction K with
      | zero=>rfl
      | succ K ih=>rw [List.replicate_succ, List.flatten_cons, ih]; rfl
    rw [hrep, Rs.okb, Rs.okb, show Lm (List.replicate K (i : Int)) (TT n f ms K) = true from EZ (ET gd e4 hi)]
    rfl
end My
namespace My
open PySem L2
noncomputable def top (i : Nat) : Stmt:=PySem.Challenge.pw_plait_k55_one_colour_and_pushed.main.body.getD i (.Pass ⟨0, 0, 0, 0⟩)
noncomputable abbrev JM : Stmt:=top 5
noncomputable abbrev JU : Stmt:=top 7
noncomputable abbrev Yz : Stmt:=top 8
noncomputable abbrev X5 : Stmt:=top 9
noncomputable abbrev Yb : Stmt:=top 10
noncomputable abbrev Qy : Stmt:=top 11
noncomputable abbrev JQ : Stmt:=top 14
noncomputable abbrev YY : Stmt:=top 15
noncomputable abbrev Yk : Stmt:=top 16
noncomputable abbrev XW : Stmt:=top 17
noncomputable abbrev X6 : Stmt:=top 18
noncomputable abbrev JK : Stmt:=top 19
noncomputable abbrev JS : Stmt:=top 21
noncomputable abbrev Km : Stmt:=top 22
noncomputable abbrev U4 : Stmt:=top 23
noncomputable abbrev Qr : Stmt:=top 24
noncomputable abbrev Ut : Stmt:=top 25
noncomputable abbrev Zt : Stmt:=top 26
noncomputable abbrev Qg : Stmt:=top 27
noncomputable abbrev Jc : Stmt:=top 28
noncomputable abbrev Y8 : Stmt:=top 29
noncomputable abbrev YU : Stmt:=top 30
noncomputable abbrev Zw : Stmt:=top 31
noncomputable abbrev ZU : Stmt:=top 32
noncomputable abbrev Je : Stmt:=top 33
noncomputable abbrev Zs : Stmt:=top 34
noncomputable abbrev ZC : Stmt:=top 35
noncomputable abbrev Yx : Stmt:=top 36
noncomputable abbrev ZR : Stmt:=top 37
noncomputable abbrev ZX : Stmt:=top 38
noncomputable abbrev Zr : Stmt:=top 39
noncomputable abbrev Qa : Stmt:=top 40
noncomputable abbrev Qu : Stmt:=top 41
noncomputable abbrev Qo : Stmt:=top 42
noncomputable abbrev Qx : Stmt:=top 43
noncomputable abbrev YR : Stmt:=top 44
noncomputable abbrev ZE : Stmt:=top 45
noncomputable abbrev Vj : Stmt:=top 46
theorem KC {X : Cx} : PE X (.List [.List [.Constant (.int 0) 0 ⟨192, 17, 192, 18⟩, .Constant (.int 3) 0 ⟨192, 20, 192, 21⟩, .Constant (.int 1) 0 ⟨192, 23, 192, 24⟩, .Constant (.int 2) 0 ⟨192, 26, 192, 27⟩] ⟨192, 16, 192, 28⟩, .List [.Constant (.int 2) 0 ⟨192, 31, 192, 32⟩, .Constant (.int 1) 0 ⟨192, 34, 192, 35⟩, .Constant (.int 3) 0 ⟨192, 37, 192, 38⟩, .Constant (.int 0) 0 ⟨192, 40, 192, 41⟩] ⟨192, 30, 192, 42⟩, .List [.Constant (.int 3) 0 ⟨192, 45, 192, 46⟩, .Constant (.int 0) 0 ⟨192, 48, 192, 49⟩, .Constant (.int 2) 0 ⟨192, 51, 192, 52⟩, .Constant (.int 1) 0 ⟨192, 54, 192, 55⟩] ⟨192, 44, 192, 56⟩, .List [.Constant (.int 1) 0 ⟨192, 59, 192, 60⟩, .Constant (.int 2) 0 ⟨192, 62, 192, 63⟩, .Constant (.int 0) 0 ⟨192, 65, 192, 66⟩, .Constant (.int 3) 0 ⟨192, 68, 192, 69⟩] ⟨192, 58, 192, 70⟩] ⟨192, 15, 192, 71⟩) (BL (XI (BL (XI (tC (.int 0)) (XI (tC (.int 3)) (XI (tC (.int 1)) (XI (tC (.int 2)) Z5))))) (XI (BL (XI (tC (.int 2)) (XI (tC (.int 1)) (XI (tC (.int 3)) (XI (tC (.int 0)) Z5))))) (XI (BL (XI (tC (.int 3)) (XI (tC (.int 0)) (XI (tC (.int 2)) (XI (tC (.int 1)) Z5))))) (XI (BL (XI (tC (.int 1)) (XI (tC (.int 2)) (XI (tC (.int 0)) (XI (tC (.int 3)) Z5))))) Z5))))):=by
  refine X7 ?_
  refine Up ?_ ?_
  . exact X7 (Xd Xh (Xd Xh (Xd Xh (Xd Xh Xg))))
  refine Up ?_ ?_
  . exact X7 (Xd Xh (Xd Xh (Xd Xh (Xd Xh Xg))))
  refine Up ?_ ?_
  . exact X7 (Xd Xh (Xd Xh (Xd Xh (Xd Xh Xg))))
  refine Up ?_ ?_
  . exact X7 (Xd Xh (Xd Xh (Xd Xh (Xd Xh Xg))))
  exact Xg
structure Blt (mg : Str -> Option Value) : Prop where
  b_abs : mg "abs" = none
  b_all : mg "all" = none
  b_bool : mg "bool" = none
  b_enumerate : mg "enumerate" = none
  b_int : mg "int" = none
  b_isinstance : mg "isinstance" = none
  b_len : mg "len" = none
  b_list : mg "list" = none
  b_max : mg "max" = none
  b_min : mg "min" = none
  b_range : mg "range" = none
  b_sum : mg "sum" = none
  b_tuple : mg "tuple" = none
  c_MOST_LISTS : ∃ u, mg "MOST_LISTS" = some u /\ Yw (.int 65536) u
section
variable {P : Program} {w : World} {K : PySem.W.Frag} {mg : Str -> Option Value} {base : Heap}
theorem Gu : FnScope ["drawing", "passage", "at", "walk"] ["drawing", "passage"] (Xi JM):=⟨rfl, rfl, rfl, by decide +kernel, rfl, by decide +kernel, by decide +kernel⟩
theorem HD (D : Def K mg "spot" JM ["drawing", "passage"])  (Z : Blt mg) : Fn P w K mg base 1 "spot" ["drawing", "passage"] (sp2 (rP2 (rV (rV Xa)) (rV (rP2 Xa Xa))) Xa (oF (rP2 Xa Xa)) VX K):=by
  refine YH D Gu (fun vs H Q E h=>?_) (fun f cdv A outer s H vs Q E hr h=>?_)
  . obtain ⟨v_0, v_1, a_0, a_1, b, rfl, _⟩:=h; rfl
  obtain ⟨v_0, v_1, a_0, a_1, b, rfl, h_0, h_1, hm, q⟩:=h
  have hu:=hu8 hr
  have hu1:=YD hr
  refine ⟨_, (Xc (X4 PassesOwn.never rfl (Hu rfl Z.b_enumerate (XE (Zi K rfl) (pv 0) Xh (fun _ _=>rfl))) (Jd rfl (XU (Xn (i:=2) Gu.nd rfl (Or.inl rfl)) (XU (Xn (i:=3) Gu.nd rfl (Or.inl rfl)) Qd)))
      (Xc (YI (Xs U3 (pv 1) (pv 3) rfl)
        (Xc (XA (QU (Xd (pv 2) (Xd (Ef (K:=K) rfl PySem.F.plainAttrs_list PySem.F.slot_list_index PySem.F.type_list_index (KI K rfl) (pv 3) (Xd (pv 1) Xg)) Xg))))
        Xf)
        Xf)
      Xf))
    (Xc Fa
    Xf)), ?_⟩
  refine YJ (S:=(SC.add (SC.add SC.nil K (rP2 (rV (rV Xa)) (rV (rP2 Xa Xa))) v_0 a_0) K Xa v_1 a_1)) (σ:=[some v_0, some v_1, none, none]) 0 ?_ (SC.i (SC.i SC.t h_0) h_1) hm q rfl
  unfold VX
  exact (Q9 (K:=K) (J:=({ oo:=fun x3=>[], ss:=fun x3=>[some v_0, some v_1, x3.1, x3.2], sc:=fun g4 x3=>(SC.add (SC.add SC.nil K (rP2 (rV (rV Xa)) (rV (rP2 Xa Xa))) v_0 a_0) K Xa v_1 a_1) } : Jn (Unit) (Option V × Option V))) (fun _=>tg2 2 3) ((none), (none)) () (CD (VB (Xl (r:=(rP2 (rV (rV Xa)) (rV (rP2 Xa Xa)))) 0 rfl (fun _ s=>s.l.r)))) rfl rfl (fun _ s=>(SC.i (SC.i SC.t s.l.r) s.r)) (fun g5 x6 a7 v8=>(ZZ (Xp (K:=K) (Ec (Xb (r:=Xa) 1 rfl (fun _ s=>s.l.l.r)) (Xb (r:=(rV Xa)) 3 rfl (fun _ s=>s.r)))) (XB (EvS.ev (Va (Xl (r:=Xa) 2 rfl (fun _ s=>s.l.r)) (EvB.sh (Kg (Xb (r:=(rV Xa)) 3 rfl (fun _ s=>s.r)) (Xb (r:=Xa) 1 rfl (fun _ s=>s.l.l.r))))))) (QB (Xv (J:=_) ((some v8.1), (some v8.2)) () rfl rfl (fun _ s=>(SC.i (SC.i SC.t s.l.l.l.r) s.l.l.r)))))) fun g18 x19=>Iu)
theorem Qs : FnScope ["walk", "unders"] ["walk"] (Xi X5):=⟨rfl, rfl, rfl, by decide +kernel, rfl, by decide +kernel, by decide +kernel⟩
theorem VT (D : Def K mg "arcs_of_walk" X5 ["walk"])  (Z : Blt mg) : Fn P w K mg base 1 "arcs_of_walk" ["walk"] (sp1 (rV Xa) (oF Xa) XS K):=by
  refine YH D Qs (fun vs H Q E h=>?_) (fun f cdv A outer s H vs Q E hr h=>?_)
  . obtain ⟨v_0, a_0, b, rfl, _⟩:=h; rfl
  obtain ⟨v_0, a_0, b, rfl, h_0, hm, q⟩:=h
  have hu:=hu8 hr
  have hu1:=YD hr
  refine ⟨_, (Xc (Gm 1 (Xi X5) ["walk", "unders"] ["passage"] [] rfl Qs.nd rfl rfl (XV (K:=K) rfl (pv 0)) (Zx (by decide)) (fun cl C s H ex E=>⟨Xn (i:=0) (show List.Nodup (["passage"] : List Str) by decide +kernel) rfl (Or.inl rfl), (Ga (Xs Qv (pv 0) Xh (XG _))), (pv 0)⟩))
    (Xc (XA (Xu (VG rfl) rfl Z.b_max PyProof.Rows.boot_max (Xd (Xu (Xm K rfl) rfl Z.b_len PySem.boot_len (Xd (pv 1) Xg)) (Xd Xh Xg))))
    Xf)), ?_⟩
  refine YJ (S:=(SC.add SC.nil K (rV Xa) v_0 a_0)) (σ:=[some v_0, none]) 0 ?_ (SC.i SC.t h_0) hm q rfl
  unfold XS
  exact (Xy (K:=K) (r:=(rV Xa)) 1 (Ev.sh (UE (fun _=>tg1 0) (XH (Xl (r:=(rV Xa)) 0 rfl (fun _ s=>s.r))) (fun C3 a4 v5=>(Xp (K:=K) (Zv (Xb (r:=Xa) 0 rfl (fun _ s=>s.r)) (Xe 0)))) (fun C3 a4 v5=>(EvS.ev (Xl (r:=Xa) 0 rfl (fun _ s=>s.r)))))) fun a1 v2=>(XB (EvS.ev (EvB.sh (K3 (X0 (Xb (r:=(rV Xa)) 1 rfl (fun _ s=>s.r))) (Xe 1))))))
theorem Yn : FnScope ["walk", "first", "number", "unders", "ways", "passage"] ["walk", "first"] (Xi Yb):=⟨rfl, rfl, rfl, by decide +kernel, rfl, by decide +kernel, by decide +kernel⟩
theorem VD (D : Def K mg "arcs_of_ways" Yb ["walk", "first"]) (g_arcs_of_walk : Fn P w K mg base 1 "arcs_of_walk" ["walk"] (sp1 (rV Xa) (oF Xa) XS K)) (Z : Blt mg) : Fn P w K mg base 2 "arcs_of_ways" ["walk", "first"] (sp2 (rV Xa) Xa (oL (oF Xa)) YG K):=by
  refine YH D Yn (fun vs H Q E h=>?_) (fun f cdv A outer s H vs Q E hr h=>?_)
  . obtain ⟨v_0, v_1, a_0, a_1, b, rfl, _⟩:=h; rfl
  obtain ⟨v_0, v_1, a_0, a_1, b, rfl, h_0, h_1, hm, q⟩:=h
  have hu:=hu8 hr
  have hu1:=YD hr
  refine ⟨_, (Xc (Xo (i:=2) Yn.nd rfl (Or.inl rfl) (X9 g_arcs_of_walk hr (by decide) (Xd (pv 0) Xg)))
    (Xc (Xo (i:=3) Yn.nd rfl (Or.inl rfl) Xh)
    (Xc (Xo (i:=4) Yn.nd rfl (Or.inl rfl) (X7 (Xd (pv 1) Xg)))
    (Xc (X4 PassesOwn.never rfl (XV (K:=K) rfl (Uy (Uq K rfl) (pv 0) KR (Gs (U0 JP Xh)))) (Xn (i:=5) Yn.nd rfl (Or.inl rfl))
      (Xc (YI (Xs Qv (pv 5) Xh (XG _))
        (Xc (Dz (i:=3) Yn.nd rfl (Or.inl rfl) Xh Ea)
        Xf)
        Xf)
      (Xc (Yv (ZK PySem.F.plainAttrs_list PySem.F.slot_list_append PySem.F.type_list_append X1 (pv 4) (Xd (Xq X2 (pv 1) (Xq Yq (pv 3) (pv 2))) Xg)))
      Xf)))
    (Xc (XA (pv 4))
    Xf))))), ?_⟩
  refine YJ (S:=(SC.add (SC.add SC.nil K (rV Xa) v_0 a_0) K Xa v_1 a_1)) (σ:=[some v_0, some v_1, none, none, none, none]) 1 ?_ (SC.i (SC.i SC.t h_0) h_1) hm q rfl
  unfold YG
  exact (Xy (K:=K) (r:=Xa) 2 (EvB.sh (Ev.toB (Yl (Xb (r:=(rV Xa)) 0 rfl (fun _ s=>s.l.r))))) fun a1 v2=>(Xy (K:=K) (r:=Xa) 3 (EvB.sh (Xe 0)) fun a5 v6=>(XY (K:=K) (o:=(oL (oF Xa))) 4 0 (ZA (Xt (Xl (r:=Xa) 1 rfl (fun _ s=>s.l.l.r)) Y0)) (Nat.le_of_ble_eq_true rfl) fun a7 v8 C9=>(Yo (K:=K) (J:=({ oo:=fun x18=>[x18.2.2.2], ss:=fun x18=>[some v_0, some v_1, some v2, some x18.2.1, some x18.2.2.1, x18.1], sc:=fun g19 x18=>(SC.addO (SC.add (SC.add (SC.add (SC.add SC.nil K (rV Xa) v_0 a_0) K Xa v_1 a_1) K Xa v2 a1) K Xa x18.2.1 g19.1) K (oL (oF Xa)) x18.2.2.1 g19.2 x18.2.2.2) } : Jn (Int × (List Int)) (Option V × V × V × List XO))) (fun _=>tg1 5) ((none), v6, v8, C9) (a5, a7) (XH (Ev.sh (G2 (EvS.ls (Xl (r:=(rV Xa)) 0 rfl (fun _ s=>s.l.l.l.l.r))) UG (Uu (K:=K) (Qw (Xe 1)))))) rfl rfl (fun _ s=>(SC.i (SC.i (SC.i (SC.i (SC.i SC.t s.l.l.l.l.r) s.l.l.l.r) s.l.l.r) s.l.r) s.r)) (fun g20 x21 a22 v23=>(Zh (J:=({ oo:=fun x27=>[x21.2.2.2], ss:=fun x27=>[some v_0, some v_1, some v2, some x27, some x21.2.2.1, some v23], sc:=fun g28 x27=>(SC.add (SC.add (SC.addO (SC.add (SC.add (SC.add SC.nil K (rV Xa) v_0 a_0) K Xa v_1 a_1) K Xa v2 a1) K (oL (oF Xa)) x21.2.2.1 g20.2 x21.2.2.2) K Xa v23 a22) K Xa x27 g28) } : Jn (Int) (V))) (ZS (Fd:=FNd ({ oo:=fun x27=>[x21.2.2.2], ss:=fun x27=>[some v_0, some v_1, some v2, some x27, some x21.2.2.1, some v23], sc:=fun g28 x27=>(SC.add (SC.add (SC.addO (SC.add (SC.add (SC.add SC.nil K (rV Xa) v_0 a_0) K Xa v_1 a_1) K Xa v2 a1) K (oL (oF Xa)) x21.2.2.1 g20.2 x21.2.2.2) K Xa v23 a22) K Xa x27 g28) } : Jn (Int) (V))) (Xp (K:=K) (Zv (Xb (r:=Xa) 5 rfl (fun _ s=>s.r)) (Xe 0))) (Eg (K:=K) (f:=fun a31=>(Rs.ok (a31))) 3 rfl (fun _ s=>s.l.l.r) (Xe 1) fun a31 v30=>(Xv (J:=_) (v30) (a31) rfl rfl (fun _ s=>(SC.i (SC.i (SC.i (SC.i (SC.i (SC.i SC.t s.l.l.l.l.l.l.r) s.l.l.l.l.l.r) s.l.l.l.l.r) s.l.l.r) s.l.r) s.r)))) (Xv (J:=_) (x21.2.1) (g20.1) rfl rfl (fun _ s=>(SC.i (SC.i (SC.i (SC.i (SC.i (SC.i SC.t s.l.l.l.l.l.r) s.l.l.l.l.r) s.l.l.l.r) s.l.r) s.r) s.l.l.r)))) fun g33 x32=>(ZL (K:=K) (o:=(oF Xa)) (f:=fun a40=>(Rs.ok (g33, a40))) 4 0 rfl rfl rfl (fun _ s=>s.l.l.r) (EvS.ev (EvB.sh (XL (Xb (r:=Xa) 1 rfl (fun _ s=>s.l.l.l.l.r)) (X3 (Xb (r:=Xa) 3 rfl (fun _ s=>s.r)) (Xb (r:=Xa) 2 rfl (fun _ s=>s.l.l.l.r)))))) fun a38 C39=>(Xv (J:=_) ((some v23), x32, x21.2.2.1, C39) (g33, (g20.2 ++ [a38])) rfl rfl (fun _ s=>(SC.i (SC.i (SC.i (SC.i (SC.i SC.t s.l.l.l.l.l.l.r) s.l.l.l.l.l.r) s.l.l.l.l.r) s.l.r) s.r)))))) fun g41 x42=>(XB (Ys (o:=(oL (oF Xa))) 4 0 rfl rfl (fun _ s=>s.r)))))))
theorem VV : FnScope ["drawing", "told", "first", "walk"] ["drawing"] (Xi JU):=⟨rfl, rfl, rfl, by decide +kernel, rfl, by decide +kernel, by decide +kernel⟩
theorem Hz (D : Def K mg "arcs" JU ["drawing"]) (g_arcs_of_walk : Fn P w K mg base 1 "arcs_of_walk" ["walk"] (sp1 (rV Xa) (oF Xa) XS K)) (g_arcs_of_ways : Fn P w K mg base 2 "arcs_of_ways" ["walk", "first"] (sp2 (rV Xa) Xa (oL (oF Xa)) YG K)) (Z : Blt mg) : Fn P w K mg base 3 "arcs" ["drawing"] (sp1 (rP2 (rV (rV Xa)) (rV (rP2 Xa Xa))) (oL (oL (oF Xa))) V5 K):=by
  refine YH D VV (fun vs H Q E h=>?_) (fun f cdv A outer s H vs Q E hr h=>?_)
  . obtain ⟨v_0, a_0, b, rfl, _⟩:=h; rfl
  obtain ⟨v_0, a_0, b, rfl, h_0, hm, q⟩:=h
  have hu:=hu8 hr
  have hu1:=YD hr
  refine ⟨_, (Xc (Xo (i:=1) VV.nd rfl (Or.inl rfl) (X7 Xg))
    (Xc (Xo (i:=2) VV.nd rfl (Or.inl rfl) Xh)
    (Xc (X4 PassesOwn.never rfl (XV (K:=K) rfl (XE (Zi K rfl) (pv 0) Xh (fun _ _=>rfl))) (Xn (i:=3) VV.nd rfl (Or.inl rfl))
      (Xc (Yv (ZK PySem.F.plainAttrs_list PySem.F.slot_list_append PySem.F.type_list_append X1 (pv 1) (Xd (X9 g_arcs_of_ways hr (by decide) (Xd (pv 3) (Xd (pv 2) Xg))) Xg)))
      (Xc (Dz (i:=2) VV.nd rfl (Or.inl rfl) (X9 g_arcs_of_walk hr (by decide) (Xd (pv 3) Xg)) Ea)
      Xf)))
    (Xc (XA (pv 1))
    Xf)))), ?_⟩
  refine YJ (S:=(SC.add SC.nil K (rP2 (rV (rV Xa)) (rV (rP2 Xa Xa))) v_0 a_0)) (σ:=[some v_0, none, none, none]) 1 ?_ (SC.i SC.t h_0) hm q rfl
  unfold V5
  exact (XY (K:=K) (o:=(oL (oL (oF Xa)))) 1 0 (QM (o:=(oL (oF Xa)))) (Nat.le_of_ble_eq_true rfl) fun a1 v2 C3=>(Xy (K:=K) (r:=Xa) 2 (EvB.sh (Xe 0)) fun a4 v5=>(Yo (K:=K) (J:=({ oo:=fun x7=>[x7.2.2.2], ss:=fun x7=>[some v_0, some x7.2.2.1, some x7.2.1, x7.1], sc:=fun g8 x7=>(SC.addO (SC.add (SC.add SC.nil K (rP2 (rV (rV Xa)) (rV (rP2 Xa Xa))) v_0 a_0) K Xa x7.2.1 g8.1) K (oL (oL (oF Xa))) x7.2.2.1 g8.2 x7.2.2.2) } : Jn (Int × (List (List Int))) (Option V × V × V × List XO))) (fun _=>tg1 3) ((none), v5, v2, C3) (a4, a1) (XH (VB (Xl (r:=(rP2 (rV (rV Xa)) (rV (rP2 Xa Xa)))) 0 rfl (fun _ s=>s.l.l.r)))) rfl rfl (fun _ s=>(SC.i (SC.i (SC.i SC.t s.l.l.r) s.r) s.l.r)) (fun g9 x10 a11 v12=>(ZL (K:=K) (o:=(oL (oF Xa))) (f:=fun a18=>(Rs.bind (Rs.bind (Rs.ok a11) fun x20=>(noE (XS x20))) fun x21=>((fun (a23 : Int)=>(Rs.ok (a23, a18))) (g9.1 + x21)))) 1 0 rfl rfl rfl (fun _ s=>s.l.r) (Ya (Xb (r:=(rV Xa)) 3 rfl (fun _ s=>s.r)) (Xb (r:=Xa) 2 rfl (fun _ s=>s.l.l.r))) fun a16 C17=>(Eg (K:=K) (f:=fun a23=>(Rs.ok (a23, (g9.2 ++ [a16])))) 2 rfl (fun _ s=>s.l.l.l.r) (Ev.toB (Yl (Xb (r:=(rV Xa)) 3 rfl (fun _ s=>s.l.r)))) fun a23 v22=>(Xv (J:=_) ((some v12), v22, x10.2.2.1, C17) (a23, (g9.2 ++ [a16])) rfl rfl (fun _ s=>(SC.i (SC.i (SC.i SC.t s.l.l.l.l.l.r) s.r) s.l.r)))))) fun g24 x25=>(XB (Ys (o:=(oL (oL (oF Xa)))) 1 0 rfl rfl (fun _ s=>s.r))))))
theorem US : FnScope ["drawing"] ["drawing"] (Xi Yz):=⟨rfl, rfl, rfl, by decide +kernel, rfl, by decide +kernel, by decide +kernel⟩
theorem KB (D : Def K mg "arc_count" Yz ["drawing"]) (g_arcs_of_walk : Fn P w K mg base 1 "arcs_of_walk" ["walk"] (sp1 (rV Xa) (oF Xa) XS K)) (Z : Blt mg) : Fn P w K mg base 2 "arc_count" ["drawing"] (sp1 (rP2 (rV (rV Xa)) (rV (rP2 Xa Xa))) (oF Xa) Zk K):=by
  refine YH D US (fun vs H Q E h=>?_) (fun f cdv A outer s H vs Q E hr h=>?_)
  . obtain ⟨v_0, a_0, b, rfl, _⟩:=h; rfl
  obtain ⟨v_0, a_0, b, rfl, h_0, hm, q⟩:=h
  have hu:=hu8 hr
  have hu1:=YD hr
  refine ⟨_, (Xc (XA (Xu (Cl rfl) rfl Z.b_sum PyProof.Rows.boot_sum (Xd (Zq (sc:=(Xi Yz)) (N0:=["drawing"]) (tns:=["walk"]) (caps:=[]) rfl (XV (K:=K) rfl (XE (Zi K rfl) (pv 0) Xh (fun _ _=>rfl))) (Zx (by decide)) (fun cl C s H ex E=>⟨Xn (i:=0) (show List.Nodup (["walk"] : List Str) by decide +kernel) rfl (Or.inl rfl), Z0, (X9 g_arcs_of_walk hr (by decide) (Xd (pv 0) Xg))⟩)) Xg)))
    Xf), ?_⟩
  refine YJ (S:=(SC.add SC.nil K (rP2 (rV (rV Xa)) (rV (rP2 Xa Xa))) v_0 a_0)) (σ:=[some v_0]) 0 ?_ (SC.i SC.t h_0) hm q rfl
  unfold Zk
  exact (XB (EvS.ev (EvB.sh (En (Ev.toB (Z1 (fun _=>tg1 0) (XH (VB (Xl (r:=(rP2 (rV (rV Xa)) (rV (rP2 Xa Xa)))) 0 rfl (fun _ s=>s.r)))) (fun C3 a4 v5=>(Yl (Xb (r:=(rV Xa)) 0 rfl (fun _ s=>s.r))))))))))
theorem Zd : FnScope ["drawing", "numbers", "told", "crossing", "sign", "above", "below", "over", "ways", "inward", "outward"] ["drawing"] (Xi Qy):=⟨rfl, rfl, rfl, by decide +kernel, rfl, by decide +kernel, by decide +kernel⟩
theorem BV (D : Def K mg "meets" Qy ["drawing"]) (g_arcs : Fn P w K mg base 3 "arcs" ["drawing"] (sp1 (rP2 (rV (rV Xa)) (rV (rP2 Xa Xa))) (oL (oL (oF Xa))) V5 K)) (g_spot : Fn P w K mg base 1 "spot" ["drawing", "passage"] (sp2 (rP2 (rV (rV Xa)) (rV (rP2 Xa Xa))) Xa (oF (rP2 Xa Xa)) VX K)) (Z : Blt mg) : Fn P w K mg base 4 "meets" ["drawing"] (sp1 (rP2 (rV (rV Xa)) (rV (rP2 Xa Xa))) (oL (oF (rP5 Xa Xa Xa Xa Xa))) QC K):=by
  refine YH D Zd (fun vs H Q E h=>?_) (fun f cdv A outer s H vs Q E hr h=>?_)
  . obtain ⟨v_0, a_0, b, rfl, _⟩:=h; rfl
  obtain ⟨v_0, a_0, b, rfl, h_0, hm, q⟩:=h
  have hu:=hu8 hr
  have hu1:=YD hr
  refine ⟨_, (Xc (Xo (i:=1) Zd.nd rfl (Or.inl rfl) (X9 g_arcs hr (by decide) (Xd (pv 0) Xg)))
    (Xc (Xo (i:=2) Zd.nd rfl (Or.inl rfl) (X7 Xg))
    (Xc (X4 PassesOwn.never rfl (XV (K:=K) rfl (XE (Zi K rfl) (pv 0) Xh (fun _ _=>rfl))) (Jd rfl (XU (Xn (i:=3) Zd.nd rfl (Or.inl rfl)) (XU (Xn (i:=4) Zd.nd rfl (Or.inl rfl)) Qd)))
      (Xc (Xo (i:=5) Zd.nd rfl (Or.inl rfl) (X9 g_spot hr (by decide) (Xd (pv 0) (Xd (pv 3) Xg))))
      (Xc (Xo (i:=6) Zd.nd rfl (Or.inl rfl) (X9 g_spot hr (by decide) (Xd (pv 0) (Xd (U0 JP (pv 3)) Xg))))
      (Xc (Xo (i:=7) Zd.nd rfl (Or.inl rfl) (XE (Xk K rfl) (XE (Xk K rfl) (pv 1) (XE (Zi K rfl) (pv 5) Xh (fun _ _=>rfl)) (fun _ _=>rfl)) (XE (Zi K rfl) (pv 5) Xh (fun _ _=>rfl)) (fun _ _=>rfl)))
      (Xc (Xo (i:=8) Zd.nd rfl (Or.inl rfl) (XE (Xk K rfl) (pv 1) (XE (Zi K rfl) (pv 6) Xh (fun _ _=>rfl)) (fun _ _=>rfl)))
      (Xc (Xo (i:=9) Zd.nd rfl (Or.inl rfl) (XE (Xk K rfl) (pv 8) (XE (Zi K rfl) (pv 6) Xh (fun _ _=>rfl)) (fun _ _=>rfl)))
      (Xc (Xo (i:=10) Zd.nd rfl (Or.inl rfl) (XE (Xk K rfl) (pv 8) (Xq Yq (Xq X2 (XE (Zi K rfl) (pv 6) Xh (fun _ _=>rfl)) Xh) (Xu (Xm K rfl) rfl Z.b_len PySem.boot_len (Xd (pv 8) Xg))) (fun _ _=>rfl)))
      (Xc (Yv (ZK PySem.F.plainAttrs_list PySem.F.slot_list_append PySem.F.type_list_append X1 (pv 2) (Xd (QU (Xd (pv 3) (Xd (pv 4) (Xd (pv 7) (Xd (pv 9) (Xd (pv 10) Xg)))))) Xg)))
      Xf))))))))
    (Xc (XA (pv 2))
    Xf)))), ?_⟩
  refine YJ (S:=(SC.add SC.nil K (rP2 (rV (rV Xa)) (rV (rP2 Xa Xa))) v_0 a_0)) (σ:=[some v_0, none, none, none, none, none, none, none, none, none, none]) 1 ?_ (SC.i SC.t h_0) hm q rfl
  unfold QC
  exact (Xy (K:=K) (r:=(rV (rV Xa))) 1 (Ev.sh (Yl (Xb (r:=(rP2 (rV (rV Xa)) (rV (rP2 Xa Xa)))) 0 rfl (fun _ s=>s.r)))) fun a1 v2=>(XY (K:=K) (o:=(oL (oF (rP5 Xa Xa Xa Xa Xa)))) 2 0 (QM (o:=(oF (rP5 Xa Xa Xa Xa Xa)))) (Nat.le_of_ble_eq_true rfl) fun a5 v6 C7=>(Yo (K:=K) (J:=({ oo:=fun x9=>[x9.2.2.2.2.2.2.2.2.2], ss:=fun x9=>[some v_0, some v2, some x9.2.2.2.2.2.2.2.2.1, x9.1, x9.2.1, x9.2.2.1, x9.2.2.2.1, x9.2.2.2.2.1, x9.2.2.2.2.2.1, x9.2.2.2.2.2.2.1, x9.2.2.2.2.2.2.2.1], sc:=fun g10 x9=>(SC.addO (SC.add (SC.add SC.nil K (rP2 (rV (rV Xa)) (rV (rP2 Xa Xa))) v_0 a_0) K (rV (rV Xa)) v2 a1) K (oL (oF (rP5 Xa Xa Xa Xa Xa))) x9.2.2.2.2.2.2.2.2.1 g10 x9.2.2.2.2.2.2.2.2.2) } : Jn ((List (Int × Int × Int × Int × Int))) (Option V × Option V × Option V × Option V × Option V × Option V × Option V × Option V × V × List XO))) (fun _=>tg2 3 4) ((none), (none), (none), (none), (none), (none), (none), (none), v6, C7) (a5) (XH (Hd (Xl (r:=(rP2 (rV (rV Xa)) (rV (rP2 Xa Xa)))) 0 rfl (fun _ s=>s.l.l.r)))) rfl rfl (fun _ s=>(SC.i (SC.i (SC.i SC.t s.l.l.r) s.l.r) s.r)) (fun g11 x12 a13 v14=>(Xy (K:=K) (r:=(rP2 Xa Xa)) 5 (EvB.sh (Ev.toB (Ya (Xb (r:=(rP2 (rV (rV Xa)) (rV (rP2 Xa Xa)))) 0 rfl (fun _ s=>s.l.l.l.l.r)) (Xb (r:=Xa) 3 rfl (fun _ s=>s.l.r))))) fun a15 v16=>(Xy (K:=K) (r:=(rP2 Xa Xa)) 6 (EvB.sh (Ev.toB (Ya (Xb (r:=(rP2 (rV (rV Xa)) (rV (rP2 Xa Xa)))) 0 rfl (fun _ s=>s.l.l.l.l.l.r)) (Qw (Xb (r:=Xa) 3 rfl (fun _ s=>s.l.l.r)))))) fun a20 v21=>(Xy (K:=K) (r:=Xa) 7 (EvB.sh (Xx (Xx (Xb (r:=(rV (rV Xa))) 1 rfl (fun _ s=>s.l.l.l.l.l.r)) (F3 (Xb (r:=(rP2 Xa Xa)) 5 rfl (fun _ s=>s.l.r)))) (Vy (Xb (r:=(rP2 Xa Xa)) 5 rfl (fun _ s=>s.l.r))))) fun a26 v27=>(Xy (K:=K) (r:=(rV Xa)) 8 (Dj (EvS.ls (Xl (r:=(rV (rV Xa))) 1 rfl (fun _ s=>s.l.l.l.l.l.l.r))) (F3 (Xb (r:=(rP2 Xa Xa)) 6 rfl (fun _ s=>s.l.r)))) fun a34 v35=>(Xy (K:=K) (r:=Xa) 9 (EvB.sh (Xx (Xb (r:=(rV Xa)) 8 rfl (fun _ s=>s.r)) (Vy (Xb (r:=(rP2 Xa Xa)) 6 rfl (fun _ s=>s.l.l.r))))) fun a39 v40=>(Xy (K:=K) (r:=Xa) 10 (EvB.sh (Xx (Xb (r:=(rV Xa)) 8 rfl (fun _ s=>s.l.r)) (X3 (XL (Vy (Xb (r:=(rP2 Xa Xa)) 6 rfl (fun _ s=>s.l.l.l.r))) (Xe 1)) (X0 (Xb (r:=(rV Xa)) 8 rfl (fun _ s=>s.l.r)))))) fun a44 v45=>(ZL (K:=K) (o:=(oF (rP5 Xa Xa Xa Xa Xa))) (f:=fun a61=>(Rs.ok (a61))) 2 0 rfl rfl rfl (fun _ s=>s.l.l.l.l.l.l.l.l.r) (EvS.ev (GM (Xl (r:=Xa) 3 rfl (fun _ s=>s.l.l.l.l.l.l.l.r)) (Xl (r:=Xa) 4 rfl (fun _ s=>s.l.l.l.l.l.l.r)) (Xl (r:=Xa) 7 rfl (fun _ s=>s.l.l.l.r)) (Xl (r:=Xa) 9 rfl (fun _ s=>s.l.r)) (Xl (r:=Xa) 10 rfl (fun _ s=>s.r)))) fun a59 C60=>(Xv (J:=_) ((some v14.1), (some v14.2), (some v16), (some v21), (some v27), (some v35), (some v40), (some v45), x12.2.2.2.2.2.2.2.2.1, C60) ((g11 ++ [a59])) rfl rfl (fun _ s=>(SC.i (SC.i (SC.i SC.t s.l.l.l.l.l.l.l.l.l.l.l.r) s.l.l.l.l.l.l.l.l.l.l.r) s.r))))))))))) fun g62 x63=>(XB (Ys (o:=(oL (oF (rP5 Xa Xa Xa Xa Xa)))) 2 0 rfl rfl (fun _ s=>s.r))))))
theorem Q5 : FnScope ["drawing", "told", "crossing", "sign", "over", "inward", "outward"] ["drawing"] (Xi JQ):=⟨rfl, rfl, rfl, by decide +kernel, rfl, by decide +kernel, by decide +kernel⟩
theorem EG (D : Def K mg "ties" JQ ["drawing"]) (g_meets : Fn P w K mg base 4 "meets" ["drawing"] (sp1 (rP2 (rV (rV Xa)) (rV (rP2 Xa Xa))) (oL (oF (rP5 Xa Xa Xa Xa Xa))) QC K)) (Z : Blt mg) : Fn P w K mg base 5 "ties" ["drawing"] (sp1 (rP2 (rV (rV Xa)) (rV (rP2 Xa Xa))) (oL (oF (rP3 Xa Xa Xa))) V2 K):=by
  refine YH D Q5 (fun vs H Q E h=>?_) (fun f cdv A outer s H vs Q E hr h=>?_)
  . obtain ⟨v_0, a_0, b, rfl, _⟩:=h; rfl
  obtain ⟨v_0, a_0, b, rfl, h_0, hm, q⟩:=h
  have hu:=hu8 hr
  have hu1:=YD hr
  refine ⟨_, (Xc (Xo (i:=1) Q5.nd rfl (Or.inl rfl) (X7 Xg))
    (Xc (X4 PassesOwn.never rfl (XV (K:=K) rfl (X9 g_meets hr (by decide) (Xd (pv 0) Xg))) (Jd rfl (XU (Xn (i:=2) Q5.nd rfl (Or.inl rfl)) (XU (Xn (i:=3) Q5.nd rfl (Or.inl rfl)) (XU (Xn (i:=4) Q5.nd rfl (Or.inl rfl)) (XU (Xn (i:=5) Q5.nd rfl (Or.inl rfl)) (XU (Xn (i:=6) Q5.nd rfl (Or.inl rfl)) Qd))))))
      (Xc (Yv (ZK PySem.F.plainAttrs_list PySem.F.slot_list_append PySem.F.type_list_append X1 (pv 1) (Xd (BN (Xs Ql (pv 3) Xh (XG _)) (QU (Xd (pv 5) (Xd (pv 4) (Xd (pv 6) Xg)))) (QU (Xd (pv 6) (Xd (pv 4) (Xd (pv 5) Xg))))) Xg)))
      Xf))
    (Xc (XA (pv 1))
    Xf))), ?_⟩
  refine YJ (S:=(SC.add SC.nil K (rP2 (rV (rV Xa)) (rV (rP2 Xa Xa))) v_0 a_0)) (σ:=[some v_0, none, none, none, none, none, none]) 1 ?_ (SC.i SC.t h_0) hm q rfl
  unfold V2
  exact (XY (K:=K) (o:=(oL (oF (rP3 Xa Xa Xa)))) 1 0 (QM (o:=(oF (rP3 Xa Xa Xa)))) (Nat.le_of_ble_eq_true rfl) fun a1 v2 C3=>(Yo (K:=K) (J:=({ oo:=fun x6=>[x6.2.2.2.2.2.2], ss:=fun x6=>[some v_0, some x6.2.2.2.2.2.1, x6.1, x6.2.1, x6.2.2.1, x6.2.2.2.1, x6.2.2.2.2.1], sc:=fun g7 x6=>(SC.addO (SC.add SC.nil K (rP2 (rV (rV Xa)) (rV (rP2 Xa Xa))) v_0 a_0) K (oL (oF (rP3 Xa Xa Xa))) x6.2.2.2.2.2.1 g7 x6.2.2.2.2.2.2) } : Jn ((List (Int × Int × Int))) (Option V × Option V × Option V × Option V × Option V × V × List XO))) (fun _=>tg5 2 3 4 5 6) ((none), (none), (none), (none), (none), v2, C3) (a1) (XH (Ev.sh (Yl (Xb (r:=(rP2 (rV (rV Xa)) (rV (rP2 Xa Xa)))) 0 rfl (fun _ s=>s.l.r))))) rfl rfl (fun _ s=>(SC.i (SC.i SC.t s.l.r) s.r)) (fun g8 x9 a10 v11=>(ZL (K:=K) (o:=(oF (rP3 Xa Xa Xa))) (f:=fun a23=>(Rs.ok (a23))) 1 0 rfl rfl rfl (fun _ s=>s.l.l.l.l.l.r) (Lp (Xp (K:=K) (Zg (Xb (r:=Xa) 3 rfl (fun _ s=>s.l.l.l.r)) (Xe 1))) (EvS.ev (GR (Xl (r:=Xa) 5 rfl (fun _ s=>s.l.r)) (Xl (r:=Xa) 4 rfl (fun _ s=>s.l.l.r)) (Xl (r:=Xa) 6 rfl (fun _ s=>s.r)))) (EvS.ev (GR (Xl (r:=Xa) 6 rfl (fun _ s=>s.r)) (Xl (r:=Xa) 4 rfl (fun _ s=>s.l.l.r)) (Xl (r:=Xa) 5 rfl (fun _ s=>s.l.r))))) fun a21 C22=>(Xv (J:=_) ((some v11.1), (some v11.2.1), (some v11.2.2.1), (some v11.2.2.2.1), (some v11.2.2.2.2), x9.2.2.2.2.2.1, C22) ((g8 ++ [a21])) rfl rfl (fun _ s=>(SC.i (SC.i SC.t s.l.l.l.l.l.l.l.r) s.r))))) fun g24 x25=>(XB (Ys (o:=(oL (oF (rP3 Xa Xa Xa)))) 1 0 rfl rfl (fun _ s=>s.r)))))
theorem KS : FnScope ["table", "colours", "asked"] ["table", "colours", "asked"] (Xi YY):=⟨rfl, rfl, rfl, by decide +kernel, rfl, by decide +kernel, by decide +kernel⟩
theorem Ge (D : Def K mg "all_held" YY ["table", "colours", "asked"])  (Z : Blt mg) : Fn P w K mg base 1 "all_held" ["table", "colours", "asked"] (sp3 (rV (rV Xa)) (rV Xa) (rV (rP3 Xa Xa Xa)) (oF XT) ZG K):=by
  refine YH D KS (fun vs H Q E h=>?_) (fun f cdv A outer s H vs Q E hr h=>?_)
  . obtain ⟨v_0, v_1, v_2, a_0, a_1, a_2, b, rfl, _⟩:=h; rfl
  obtain ⟨v_0, v_1, v_2, a_0, a_1, a_2, b, rfl, h_0, h_1, h_2, hm, q⟩:=h
  have hu:=hu8 hr
  have hu1:=YD hr
  refine ⟨_, (Xc (XA (Xu (CC rfl) rfl Z.b_all PyProof.Rows.boot_all (Xd (Zq (sc:=(Xi YY)) (N0:=["table", "colours", "asked"]) (tns:=["start", "over", "end"]) (caps:=[(0, "table"), (1, "colours")]) rfl (XV (K:=K) rfl (pv 2)) (Ey (by decide) (by decide) (by decide)) (fun cl C s H ex E=>⟨Hg K rfl rfl (XU (Xn (i:=0) (show List.Nodup (["start", "over", "end", "table", "colours"] : List Str) by decide +kernel) rfl (Or.inl rfl)) (XU (Xn (i:=1) (show List.Nodup (["start", "over", "end", "table", "colours"] : List Str) by decide +kernel) rfl (Or.inl rfl)) (XU (Xn (i:=2) (show List.Nodup (["start", "over", "end", "table", "colours"] : List Str) by decide +kernel) rfl (Or.inl rfl)) Qd))), Z0, (Ew Ql (XE (Xk K rfl) (XE (Xk K rfl) (pv 3) (XE (Xk K rfl) (pv 4) (pv 0) (fun _ _=>rfl)) (fun _ _=>rfl)) (XE (Xk K rfl) (pv 4) (pv 1) (fun _ _=>rfl)) (fun _ _=>rfl)) (XE (Xk K rfl) (pv 4) (pv 2) (fun _ _=>rfl)) (XG _))⟩)) Xg)))
    Xf), ?_⟩
  refine YJ (S:=(SC.add (SC.add (SC.add SC.nil K (rV (rV Xa)) v_0 a_0) K (rV Xa) v_1 a_1) K (rV (rP3 Xa Xa Xa)) v_2 a_2)) (σ:=[some v_0, some v_1, some v_2]) 0 ?_ (SC.i (SC.i (SC.i SC.t h_0) h_1) h_2) hm q rfl
  unfold ZG
  exact (XB (EvS.ev (EvB.sh (EH (Ev.toB (Z1 (fun _=>tg3 0 1 2) (XH (Xl (r:=(rV (rP3 Xa Xa Xa))) 2 rfl (fun _ s=>s.r))) (fun C2 a3 v4=>(EvS.ev (EvB.sh (Zg (Xx (Xx (Xb (r:=(rV (rV Xa))) 3 rfl (fun _ s=>s.l.l.l.l.l.r)) (Xx (Xb (r:=(rV Xa)) 4 rfl (fun _ s=>s.l.l.l.l.r)) (Xb (r:=Xa) 0 rfl (fun _ s=>s.l.l.r)))) (Xx (Xb (r:=(rV Xa)) 4 rfl (fun _ s=>s.l.l.l.l.r)) (Xb (r:=Xa) 1 rfl (fun _ s=>s.l.r)))) (Xx (Xb (r:=(rV Xa)) 4 rfl (fun _ s=>s.l.l.l.l.r)) (Xb (r:=Xa) 2 rfl (fun _ s=>s.r)))))))))))))
theorem YK : FnScope ["size", "count", "lists", "arc"] ["size", "count"] (Xi XW):=⟨rfl, rfl, rfl, by decide +kernel, rfl, by decide +kernel, by decide +kernel⟩
theorem Jk (D : Def K mg "refuse_too_much" XW ["size", "count"])  (Z : Blt mg) : Fn P w K mg base 1 "refuse_too_much" ["size", "count"] (sp2 Xa Xa oU Yc K):=by
  refine YH D YK (fun vs H Q E h=>?_) (fun f cdv A outer s H vs Q E hr h=>?_)
  . obtain ⟨v_0, v_1, a_0, a_1, b, rfl, _⟩:=h; rfl
  obtain ⟨v_0, v_1, a_0, a_1, b, rfl, h_0, h_1, hm, q⟩:=h
  have hu:=hu8 hr
  have hu1:=YD hr
  refine ⟨_, (Xc (Xo (i:=2) YK.nd rfl (Or.inl rfl) Xh)
    (Xc (X4 PassesOwn.never rfl (XM rfl Z.b_range (Xd (pv 1) Xg)) (Xn (i:=3) YK.nd rfl (Or.inl rfl))
      (Xc (Dz (i:=2) YK.nd rfl (Or.inl rfl) (pv 0) IN)
      Xf))
    (Xc (YI (Xs Gc (pv 2) (IS Z.c_MOST_LISTS rfl) (XG _))
      (Xc Fa
      Xf)
      Xf)
    Xf))), ?_⟩
  refine LI (J:=({ oo:=fun x3=>[], ss:=fun x3=>[some v_0, some v_1, x3.1, x3.2], sc:=fun g4 x3=>(SC.add (SC.add SC.nil K Xa v_0 a_0) K Xa v_1 a_1) } : Jn (Unit) (Option V × Option V))) (K:=K) (S:=(SC.add (SC.add SC.nil K Xa v_0 a_0) K Xa v_1 a_1)) (σ:=[some v_0, some v_1, none, none]) 0 ?_ (SC.i (SC.i SC.t h_0) h_1) hm q (fun _ _=>rfl)
  unfold Yc
  exact (Xy (K:=K) (r:=Xa) 2 (EvB.sh (Xe 1)) fun a5 v6=>(Yo (K:=K) (J:=({ oo:=fun x8=>[], ss:=fun x8=>[some v_0, some v_1, some x8.2, x8.1], sc:=fun g9 x8=>(SC.add (SC.add (SC.add SC.nil K Xa v_0 a_0) K Xa v_1 a_1) K Xa x8.2 g9) } : Jn (Int) (Option V × V))) (fun _=>tg1 3) ((none), v6) (a5) (Xw (Xb (r:=Xa) 1 rfl (fun _ s=>s.l.r))) rfl rfl (fun _ s=>(SC.i (SC.i (SC.i SC.t s.l.l.r) s.l.r) s.r)) (fun g10 x11 a12 v13=>(EK (K:=K) 2 rfl (fun _ s=>s.l.r) (Xb (r:=Xa) 0 rfl (fun _ s=>s.l.l.l.r)) fun a16 v15=>(Xv (J:=_) ((some v13), v15) (a16) rfl rfl (fun _ s=>(SC.i (SC.i (SC.i SC.t s.l.l.l.l.r) s.l.l.l.r) s.r))))) fun g17 x18=>(Ia (Xp (K:=K) (VU (Xb (r:=Xa) 2 rfl (fun _ s=>s.r)) (Xe 65536))) (Xv (J:=_) ((some x18.2), (x18.1)) () rfl rfl (fun _ s=>(SC.i (SC.i SC.t s.l.l.r) s.l.r))))))
theorem YC : FnScope ["lists", "table", "asked", "longer", "ahead", "colour", "tried"] ["lists", "table", "asked"] (Xi X6):=⟨rfl, rfl, rfl, by decide +kernel, rfl, by decide +kernel, by decide +kernel⟩
theorem JW (D : Def K mg "longer_by_arc" X6 ["lists", "table", "asked"]) (g_all_held : Fn P w K mg base 1 "all_held" ["table", "colours", "asked"] (sp3 (rV (rV Xa)) (rV Xa) (rV (rP3 Xa Xa Xa)) (oF XT) ZG K)) (Z : Blt mg) : Fn P w K mg base 2 "longer_by_arc" ["lists", "table", "asked"] (sp3 (rV (rV Xa)) (rV (rV Xa)) (rV (rP3 Xa Xa Xa)) (oL (oL (oF Xa))) Yu K):=by
  refine YH D YC (fun vs H Q E h=>?_) (fun f cdv A outer s H vs Q E hr h=>?_)
  . obtain ⟨v_0, v_1, v_2, a_0, a_1, a_2, b, rfl, _⟩:=h; rfl
  obtain ⟨v_0, v_1, v_2, a_0, a_1, a_2, b, rfl, h_0, h_1, h_2, hm, q⟩:=h
  have hu:=hu8 hr
  have hu1:=YD hr
  refine ⟨_, (Xc (Xo (i:=3) YC.nd rfl (Or.inl rfl) (X7 Xg))
    (Xc (X4 PassesOwn.never rfl (XV (K:=K) rfl (pv 0)) (Xn (i:=4) YC.nd rfl (Or.inl rfl))
      (Xc (X4 PassesOwn.never rfl (XM rfl Z.b_range (Xd (Xu (Xm K rfl) rfl Z.b_len PySem.boot_len (Xd (pv 1) Xg)) Xg)) (Xn (i:=5) YC.nd rfl (Or.inl rfl))
        (Xc (Xo (i:=6) YC.nd rfl (Or.inl rfl) (Xq F1 (pv 4) (X7 (Xd (pv 5) Xg))))
        (Xc (YI (QS (X9 g_all_held hr (by decide) (Xd (pv 1) (Xd (pv 6) (Xd (pv 2) Xg)))))
          (Xc (Yv (ZK PySem.F.plainAttrs_list PySem.F.slot_list_append PySem.F.type_list_append X1 (pv 3) (Xd (pv 6) Xg)))
          Xf)
          Xf)
        Xf)))
      Xf))
    (Xc (XA (pv 3))
    Xf))), ?_⟩
  refine YJ (S:=(SC.add (SC.add (SC.add SC.nil K (rV (rV Xa)) v_0 a_0) K (rV (rV Xa)) v_1 a_1) K (rV (rP3 Xa Xa Xa)) v_2 a_2)) (σ:=[some v_0, some v_1, some v_2, none, none, none, none]) 2 ?_ (SC.i (SC.i (SC.i SC.t h_0) h_1) h_2) hm q rfl
  unfold Yu
  exact (XY (K:=K) (o:=(oL (oL (oF Xa)))) 3 0 (QM (o:=(oL (oF Xa)))) (Nat.le_of_ble_eq_true rfl) fun a1 v2 C3=>(Yo (K:=K) (J:=({ oo:=fun x4=>[x4.2.2.2.2, []], ss:=fun x4=>[some v_0, some v_1, some v_2, some x4.2.2.2.1, x4.1, x4.2.1, x4.2.2.1], sc:=fun g5 x4=>(SC.addO (SC.add (SC.add (SC.add SC.nil K (rV (rV Xa)) v_0 a_0) K (rV (rV Xa)) v_1 a_1) K (rV (rP3 Xa Xa Xa)) v_2 a_2) K (oL (oL (oF Xa))) x4.2.2.2.1 g5 x4.2.2.2.2) } : Jn ((List (List Int))) (Option V × Option V × Option V × V × List XO))) (fun _=>tg1 4) ((none), (none), (none), v2, C3) (a1) (XH (Xl (r:=(rV (rV Xa))) 0 rfl (fun _ s=>s.l.l.l.r))) rfl rfl (fun _ s=>(SC.i (SC.i (SC.i (SC.i SC.t s.l.l.l.r) s.l.l.r) s.l.r) s.r)) (fun g6 x7 a8 v9=>(Yo (K:=K) (J:=({ oo:=fun x12=>[x12.2.2.2, []], ss:=fun x12=>[some v_0, some v_1, some v_2, some x12.2.2.1, some v9, x12.1, x12.2.1], sc:=fun g13 x12=>(SC.addO (SC.add (SC.add (SC.add (SC.add SC.nil K (rV (rV Xa)) v_0 a_0) K (rV (rV Xa)) v_1 a_1) K (rV (rP3 Xa Xa Xa)) v_2 a_2) K (rV Xa) v9 a8) K (oL (oL (oF Xa))) x12.2.2.1 g13 x12.2.2.2) } : Jn ((List (List Int))) (Option V × Option V × V × List XO))) (fun _=>tg1 5) ((x7.2.1), (x7.2.2.1), x7.2.2.2.1, x7.2.2.2.2) (g6) (Xw (X0 (Xb (r:=(rV (rV Xa))) 1 rfl (fun _ s=>s.l.l.l.r)))) rfl rfl (fun _ s=>(SC.i (SC.i (SC.i (SC.i (SC.i SC.t s.l.l.l.l.r) s.l.l.l.r) s.l.l.r) s.r) s.l.r)) (fun g14 x15 a16 v17=>(XY (K:=K) (o:=(oL (oF Xa))) 6 1 (Ct (EvS.ls (Xl (r:=(rV Xa)) 4 rfl (fun _ s=>s.l.l.r))) (Ev.ls (ZA (Xt (Xl (r:=Xa) 5 rfl (fun _ s=>s.r)) Y0)))) (Nat.le_of_ble_eq_true rfl) fun a18 v19 C20=>(Zh (J:=({ oo:=fun x31=>[x31.2.2, []], ss:=fun x31=>[some v_0, some v_1, some v_2, some x31.1, some v9, some v17, x31.2.1], sc:=fun g32 x31=>(SC.addO (SC.add (SC.add (SC.add (SC.add (SC.add SC.nil K (rV (rV Xa)) v_0 a_0) K (rV (rV Xa)) v_1 a_1) K (rV (rP3 Xa Xa Xa)) v_2 a_2) K (rV Xa) v9 a8) K Xa v17 a16) K (oL (oL (oF Xa))) x31.1 g32 x31.2.2) } : Jn ((List (List Int))) (V × Option V × List XO))) (ZS (Fd:=FNd ({ oo:=fun x31=>[x31.2.2, []], ss:=fun x31=>[some v_0, some v_1, some v_2, some x31.1, some v9, some v17, x31.2.1], sc:=fun g32 x31=>(SC.addO (SC.add (SC.add (SC.add (SC.add (SC.add SC.nil K (rV (rV Xa)) v_0 a_0) K (rV (rV Xa)) v_1 a_1) K (rV (rP3 Xa Xa Xa)) v_2 a_2) K (rV Xa) v9 a8) K Xa v17 a16) K (oL (oL (oF Xa))) x31.1 g32 x31.2.2) } : Jn ((List (List Int))) (V × Option V × List XO))) (J1 (K:=K) (Ev.toB (Y3 (Xb (r:=(rV (rV Xa))) 1 rfl (fun _ s=>s.l.l.l.l.l.r)) (Za (o:=(oL (oF Xa))) 6 1 rfl rfl (fun _ s=>s.r)) (Xb (r:=(rV (rP3 Xa Xa Xa))) 2 rfl (fun _ s=>s.l.l.l.l.r))))) (ZL (K:=K) (o:=(oL (oF Xa))) (f:=fun a35=>(Rs.ok (a35))) 3 0 rfl rfl rfl (fun _ s=>s.l.l.r) (Ys (o:=(oL (oF Xa))) 6 1 rfl rfl (fun _ s=>s.r)) fun a33 C34=>(Xv (J:=_) (x15.2.2.1, (some v19), C34) ((g14 ++ [a33])) rfl rfl (fun _ s=>(SC.i (SC.i (SC.i (SC.i (SC.i (SC.i SC.t s.l.l.l.l.l.l.l.r) s.l.l.l.l.l.l.r) s.l.l.l.l.l.r) s.l.l.l.l.r) s.l.l.r) s.r)))) (Hf 1 (Xv (J:=_) (x15.2.2.1, (some v19), x15.2.2.2) (g14) rfl rfl (fun _ s=>(SC.i (SC.i (SC.i (SC.i (SC.i (SC.i SC.t s.l.l.l.l.l.l.r) s.l.l.l.l.l.r) s.l.l.l.l.r) s.l.l.l.r) s.l.r) s.l.l.r))))) fun g37 x36=>(Xv (J:=_) ((some v17), (x36.2.1), x36.1, x36.2.2) (g37) rfl rfl (fun _ s=>(SC.i (SC.i (SC.i (SC.i (SC.i SC.t s.l.l.l.l.l.r) s.l.l.l.l.r) s.l.l.l.r) s.l.l.r) s.r)))))) fun g38 x39=>(Xv (J:=_) ((some v9), (x39.1), (x39.2.1), x39.2.2.1, x39.2.2.2) (g38) rfl rfl (fun _ s=>(SC.i (SC.i (SC.i (SC.i SC.t s.l.l.l.l.r) s.l.l.l.r) s.l.l.r) s.r))))) fun g41 x42=>(XB (Ys (o:=(oL (oL (oF Xa)))) 3 0 rfl rfl (fun _ s=>s.r)))))
theorem YX : FnScope ["drawing", "table", "count", "asked", "told", "arc"] ["drawing", "table"] (Xi Yk):=⟨rfl, rfl, rfl, by decide +kernel, rfl, by decide +kernel, by decide +kernel⟩
theorem Uk (D : Def K mg "colourings" Yk ["drawing", "table"]) (g_arc_count : Fn P w K mg base 2 "arc_count" ["drawing"] (sp1 (rP2 (rV (rV Xa)) (rV (rP2 Xa Xa))) (oF Xa) Zk K)) (g_refuse_too_much : Fn P w K mg base 1 "refuse_too_much" ["size", "count"] (sp2 Xa Xa oU Yc K)) (g_ties : Fn P w K mg base 5 "ties" ["drawing"] (sp1 (rP2 (rV (rV Xa)) (rV (rP2 Xa Xa))) (oL (oF (rP3 Xa Xa Xa))) V2 K)) (g_longer_by_arc : Fn P w K mg base 2 "longer_by_arc" ["lists", "table", "asked"] (sp3 (rV (rV Xa)) (rV (rV Xa)) (rV (rP3 Xa Xa Xa)) (oL (oL (oF Xa))) Yu K)) (Z : Blt mg) : Fn P w K mg base 6 "colourings" ["drawing", "table"] (sp2 (rP2 (rV (rV Xa)) (rV (rP2 Xa Xa))) (rV (rV Xa)) (oL (oL (oF Xa))) Yy K):=by
  refine YH D YX (fun vs H Q E h=>?_) (fun f cdv A outer s H vs Q E hr h=>?_)
  . obtain ⟨v_0, v_1, a_0, a_1, b, rfl, _⟩:=h; rfl
  obtain ⟨v_0, v_1, a_0, a_1, b, rfl, h_0, h_1, hm, q⟩:=h
  have hu:=hu8 hr
  have hu1:=YD hr
  refine ⟨_, (Xc (Xo (i:=2) YX.nd rfl (Or.inl rfl) (X9 g_arc_count hr (by decide) (Xd (pv 0) Xg)))
    (Xc (Yv (X9 g_refuse_too_much hr (by decide) (Xd (Xu (Xm K rfl) rfl Z.b_len PySem.boot_len (Xd (pv 1) Xg)) (Xd (pv 2) Xg))))
    (Xc (Xo (i:=3) YX.nd rfl (Or.inl rfl) (X9 g_ties hr (by decide) (Xd (pv 0) Xg)))
    (Xc (Xo (i:=4) YX.nd rfl (Or.inl rfl) (X7 (Xd (X7 Xg) Xg Ji)))
    (Xc (X4 PassesOwn.never rfl (XM rfl Z.b_range (Xd (pv 2) Xg)) (Xn (i:=5) YX.nd rfl (Or.inr rfl))
      (Xc (Xo (i:=4) YX.nd rfl (Or.inl rfl) (X9 g_longer_by_arc hr (by decide) (Xd (pv 4) (Xd (pv 1) (Xd (Zq (sc:=(Xi Yk)) (N0:=["drawing", "table", "count", "asked", "told", "arc"]) (tns:=["tie"]) (caps:=[(5, "arc")]) rfl (XV (K:=K) rfl (pv 3)) (Zx (by decide)) (fun cl C s H ex E=>⟨Xn (i:=0) (show List.Nodup (["tie", "arc"] : List Str) by decide +kernel) rfl (Or.inl rfl), (Ga (Xs Ql (Xu (DV K rfl rfl) rfl Z.b_max PyProof.Rows.boot_max (Xd (pv 0) Xg)) (pv 1) (XG _))), (pv 0)⟩)) Xg)))))
      Xf))
    (Xc (XA (pv 4))
    Xf)))))), ?_⟩
  refine YJ (S:=(SC.add (SC.add SC.nil K (rP2 (rV (rV Xa)) (rV (rP2 Xa Xa))) v_0 a_0) K (rV (rV Xa)) v_1 a_1)) (σ:=[some v_0, some v_1, none, none, none, none]) 1 ?_ (SC.i (SC.i SC.t h_0) h_1) hm q rfl
  unfold Yy
  exact (Xy (K:=K) (r:=Xa) 2 (EvB.sh (Ev.toB (Yl (Xb (r:=(rP2 (rV (rV Xa)) (rV (rP2 Xa Xa)))) 0 rfl (fun _ s=>s.l.r))))) fun a1 v2=>(HG (Ev.toB (Ya (X0 (Xb (r:=(rV (rV Xa))) 1 rfl (fun _ s=>s.l.r))) (Xb (r:=Xa) 2 rfl (fun _ s=>s.r)))) (Xy (K:=K) (r:=(rV (rP3 Xa Xa Xa))) 3 (Ev.sh (Yl (Xb (r:=(rP2 (rV (rV Xa)) (rV (rP2 Xa Xa)))) 0 rfl (fun _ s=>s.l.l.r)))) fun a10 v11=>(XY (K:=K) (o:=(oL (oL (oF Xa)))) 4 0 (CJ (QA (QM (o:=(oF Xa))) fun _=>GQ)) (Nat.le_of_ble_eq_true rfl) fun a14 v15 C16=>(Yo (K:=K) (J:=({ oo:=fun x21=>[x21.2.2], ss:=fun x21=>[some v_0, some v_1, some v2, some v11, some x21.2.1, x21.1], sc:=fun g22 x21=>(SC.addO (SC.add (SC.add (SC.add (SC.add SC.nil K (rP2 (rV (rV Xa)) (rV (rP2 Xa Xa))) v_0 a_0) K (rV (rV Xa)) v_1 a_1) K Xa v2 a1) K (rV (rP3 Xa Xa Xa)) v11 a10) K (oL (oL (oF Xa))) x21.2.1 g22 x21.2.2) } : Jn ((List (List Int))) (Option V × V × List XO))) (fun _=>tg1 5) ((none), v15, C16) (a14) (Xw (Xb (r:=Xa) 2 rfl (fun _ s=>s.l.l.r))) rfl rfl (fun _ s=>(SC.i (SC.i (SC.i (SC.i (SC.i SC.t s.l.l.l.l.r) s.l.l.l.r) s.l.l.r) s.l.r) s.r)) (fun g23 x24 a25 v26=>(XY (K:=K) (o:=(oL (oL (oF Xa)))) 4 0 (Y3 (Za (o:=(oL (oL (oF Xa)))) 4 0 rfl rfl (fun _ s=>s.l.r)) (Xb (r:=(rV (rV Xa))) 1 rfl (fun _ s=>s.l.l.l.l.r)) (Ev.toB (UE (fun _=>tg1 0) (XH (Xl (r:=(rV (rP3 Xa Xa Xa))) 3 rfl (fun _ s=>s.l.l.r))) (fun C31 a32 v33=>(Xp (K:=K) (Zg (BX (E9 (Xb (r:=(rP3 Xa Xa Xa)) 0 rfl (fun _ s=>s.r)))) (Xb (r:=Xa) 1 rfl (fun _ s=>s.l.r))))) (fun C31 a32 v33=>(EvS.ev (Xl (r:=(rP3 Xa Xa Xa)) 0 rfl (fun _ s=>s.r))))))) (Nat.le_of_ble_eq_true rfl) fun a27 v28 C29=>(Xv (J:=_) ((some v26), v28, C29) (a27) rfl rfl (fun _ s=>(SC.i (SC.i (SC.i (SC.i (SC.i SC.t s.l.l.l.l.l.l.r) s.l.l.l.l.l.r) s.l.l.l.l.r) s.l.l.l.r) s.r))))) fun g41 x42=>(XB (Ys (o:=(oL (oL (oF Xa)))) 4 0 rfl rfl (fun _ s=>s.r))))))))
theorem Hl : FnScope ["drawing", "table"] ["drawing", "table"] (Xi JK):=⟨rfl, rfl, rfl, by decide +kernel, rfl, by decide +kernel, by decide +kernel⟩
theorem EC (D : Def K mg "many" JK ["drawing", "table"]) (g_colourings : Fn P w K mg base 6 "colourings" ["drawing", "table"] (sp2 (rP2 (rV (rV Xa)) (rV (rP2 Xa Xa))) (rV (rV Xa)) (oL (oL (oF Xa))) Yy K)) (Z : Blt mg) : Fn P w K mg base 7 "many" ["drawing", "table"] (sp2 (rP2 (rV (rV Xa)) (rV (rP2 Xa Xa))) (rV (rV Xa)) (oF Xa) Ks K):=by
  refine YH D Hl (fun vs H Q E h=>?_) (fun f cdv A outer s H vs Q E hr h=>?_)
  . obtain ⟨v_0, v_1, a_0, a_1, b, rfl, _⟩:=h; rfl
  obtain ⟨v_0, v_1, a_0, a_1, b, rfl, h_0, h_1, hm, q⟩:=h
  have hu:=hu8 hr
  have hu1:=YD hr
  refine ⟨_, (Xc (XA (Xu (Xm K rfl) rfl Z.b_len PySem.boot_len (Xd (X9 g_colourings hr (by decide) (Xd (pv 0) (Xd (pv 1) Xg))) Xg)))
    Xf), ?_⟩
  refine YJ (S:=(SC.add (SC.add SC.nil K (rP2 (rV (rV Xa)) (rV (rP2 Xa Xa))) v_0 a_0) K (rV (rV Xa)) v_1 a_1)) (σ:=[some v_0, some v_1]) 0 ?_ (SC.i (SC.i SC.t h_0) h_1) hm q rfl
  unfold Ks
  exact (XB (EvS.ev (EvB.sh (X0 (Ev.toB (Ya (Xb (r:=(rP2 (rV (rV Xa)) (rV (rP2 Xa Xa)))) 0 rfl (fun _ s=>s.l.r)) (Xb (r:=(rV (rV Xa))) 1 rfl (fun _ s=>s.r))))))))
theorem UD : FnScope ["_law_script", "_law_place", "_law_seed", "_law_cell_here"] ["_law_script", "_law_place"] (Xi JS):=⟨rfl, rfl, rfl, by decide +kernel, rfl, by decide +kernel, by decide +kernel⟩
theorem HF (D : Def K mg "_law_cell" JS ["_law_script", "_law_place"])  (Z : Blt mg) : Fn P w K mg base 1 "_law_cell" ["_law_script", "_law_place"] (sp2 (rL Xa) Xa (oF Xa) Vm K):=by
  refine YH D UD (fun vs H Q E h=>?_) (fun f cdv A outer s H vs Q E hr h=>?_)
  . obtain ⟨v_0, v_1, a_0, a_1, b, rfl, _⟩:=h; rfl
  obtain ⟨v_0, v_1, a_0, a_1, b, rfl, h_0, h_1, hm, q⟩:=h
  have hu:=hu8 hr
  have hu1:=YD hr
  refine ⟨_, (Xc (YI (Xs Qv (pv 1) (Xu (Xm K rfl) rfl Z.b_len PySem.boot_len (Xd (pv 0) Xg)) (XG _))
      (Xc (XA (XE (Xk K rfl) (pv 0) (pv 1) (fun _ _=>rfl)))
      Xf)
      Xf)
    (Xc (Xo (i:=2) UD.nd rfl (Or.inl rfl) Xh)
    (Xc (X4 PassesOwn.never rfl (XV (K:=K) rfl (Uy (Uq K rfl) (pv 0) KR (Gs Xh))) (Xn (i:=3) UD.nd rfl (Or.inl rfl))
      (Xc (Xo (i:=2) UD.nd rfl (Or.inl rfl) (Xq Yq (Xq X2 (Xq X2 (Xq YT (pv 2) Xh) (Xq Yq (pv 3) Xh)) Xh) Xh))
      Xf))
    (Xc (XA (Xq Yq (Xq X2 (pv 2) (Xq YT Xh (pv 1))) Xh))
    Xf)))), ?_⟩
  refine YJ (S:=(SC.add (SC.add SC.nil K (rL Xa) v_0 a_0) K Xa v_1 a_1)) (σ:=[some v_0, some v_1, none, none]) 0 ?_ (SC.i (SC.i SC.t h_0) h_1) hm q rfl
  unfold Vm
  exact (Qi (Xp (K:=K) (Zv (Xb (r:=Xa) 1 rfl (fun _ s=>s.r)) (Bq (Xb (r:=(rL Xa)) 0 rfl (fun _ s=>s.l.r))))) (XB (EvS.ev (EvB.sh (EI (Xb (r:=(rL Xa)) 0 rfl (fun _ s=>s.l.r)) (Xb (r:=Xa) 1 rfl (fun _ s=>s.r)))))) (Xy (K:=K) (r:=Xa) 2 (EvB.sh (Xe 5)) fun a7 v8=>(Yo (K:=K) (J:=({ oo:=fun x13=>[], ss:=fun x13=>[some v_0, some v_1, some x13.2, x13.1], sc:=fun g14 x13=>(SC.add (SC.add (SC.add SC.nil K (rL Xa) v_0 a_0) K Xa v_1 a_1) K Xa x13.2 g14) } : Jn (Int) (Option V × V))) (fun _=>tg1 3) ((none), v8) (a7) (XH (Ev.sh (DP (Xb (r:=(rL Xa)) 0 rfl (fun _ s=>s.l.l.r)) UG (Uu (K:=K) (Xe 63))))) rfl rfl (fun _ s=>(SC.i (SC.i (SC.i SC.t s.l.l.r) s.l.r) s.r)) (fun g15 x16 a17 v18=>(Xy (K:=K) (r:=Xa) 2 (EvB.sh (X3 (XL (XL (Yd (Xb (r:=Xa) 2 rfl (fun _ s=>s.l.r)) (Xe 48271)) (X3 (Xb (r:=Xa) 3 rfl (fun _ s=>s.r)) (Xe 1000003))) (Xe 1)) (Xe 2147483647))) fun a19 v20=>(Xv (J:=_) ((some v18), v20) (a19) rfl rfl (fun _ s=>(SC.i (SC.i (SC.i SC.t s.l.l.l.l.r) s.l.l.l.r) s.r))))) fun g31 x32=>(XB (EvS.ev (EvB.sh (X3 (XL (Xb (r:=Xa) 2 rfl (fun _ s=>s.r)) (Yd (Xe 7919) (Xb (r:=Xa) 1 rfl (fun _ s=>s.l.r)))) (Xe 1000003))))))))
theorem DN : FnScope ["_law_cell_here", "_law_k", "_law_one", "_law_two"] ["_law_cell_here", "_law_k"] (Xi Km):=⟨rfl, rfl, rfl, by decide +kernel, rfl, by decide +kernel, by decide +kernel⟩
theorem Ij (D : Def K mg "_law_mix" Km ["_law_cell_here", "_law_k"])  (Z : Blt mg) : Fn P w K mg base 1 "_law_mix" ["_law_cell_here", "_law_k"] (sp2 Xa Xa (oF Xa) K0 K):=by
  refine YH D DN (fun vs H Q E h=>?_) (fun f cdv A outer s H vs Q E hr h=>?_)
  . obtain ⟨v_0, v_1, a_0, a_1, b, rfl, _⟩:=h; rfl
  obtain ⟨v_0, v_1, a_0, a_1, b, rfl, h_0, h_1, hm, q⟩:=h
  have hu:=hu8 hr
  have hu1:=YD hr
  refine ⟨_, (Xc (Xo (i:=2) DN.nd rfl (Or.inl rfl) (Xq Yq (Xq F5 (Xq X2 (Xq X2 (Xq Yq (pv 0) Xh) (Xq YT Xh (pv 1))) Xh) Xh) Xh))
    (Xc (Xo (i:=3) DN.nd rfl (Or.inl rfl) (Xq Yq (Xq X2 (Xq X2 (Xq YT (pv 2) Xh) (Xq YT (Xq YT Xh (pv 1)) (pv 1))) Xh) Xh))
    (Xc (XA (Xq Ul (pv 3) Xh))
    Xf))), ?_⟩
  refine YJ (S:=(SC.add (SC.add SC.nil K Xa v_0 a_0) K Xa v_1 a_1)) (σ:=[some v_0, some v_1, none, none]) 0 ?_ (SC.i (SC.i SC.t h_0) h_1) hm q rfl
  unfold K0
  exact (Xy (K:=K) (r:=Xa) 2 (EvB.sh (X3 (Gv (XL (XL (X3 (Xb (r:=Xa) 0 rfl (fun _ s=>s.l.r)) (Xe 2147483629)) (Yd (Xe 1013) (Xb (r:=Xa) 1 rfl (fun _ s=>s.r)))) (Xe 7919)) (Xe 3)) (Xe 2147483647))) fun a1 v2=>(Xy (K:=K) (r:=Xa) 3 (EvB.sh (X3 (XL (XL (Yd (Xb (r:=Xa) 2 rfl (fun _ s=>s.r)) (Xe 40699)) (Yd (Yd (Xe 3793) (Xb (r:=Xa) 1 rfl (fun _ s=>s.l.r))) (Xb (r:=Xa) 1 rfl (fun _ s=>s.l.r)))) (Xe 11)) (Xe 2147483399))) fun a15 v16=>(XB (EvS.ev (EvB.sh (KU (Xb (r:=Xa) 3 rfl (fun _ s=>s.r)) (Xe 101)))))))
theorem VC : FnScope ["_law_script", "_law_place", "_law_sizes", "_law_cell_here", "_law_left", "_law_some", "_law_k", "_law_other"] ["_law_script", "_law_place", "_law_sizes"] (Xi U4):=⟨rfl, rfl, rfl, by decide +kernel, rfl, by decide +kernel, by decide +kernel⟩
theorem Ix (D : Def K mg "_law_row" U4 ["_law_script", "_law_place", "_law_sizes"]) (g_cell : Fn P w K mg base 1 "_law_cell" ["_law_script", "_law_place"] (sp2 (rL Xa) Xa (oF Xa) Vm K)) (g_mix : Fn P w K mg base 1 "_law_mix" ["_law_cell_here", "_law_k"] (sp2 Xa Xa (oF Xa) K0 K)) (Z : Blt mg) : Fn P w K mg base 2 "_law_row" ["_law_script", "_law_place", "_law_sizes"] (sp3 (rL Xa) Xa (rV Xa) (oL (oF Xa)) V1 K):=by
  refine YH D VC (fun vs H Q E h=>?_) (fun f cdv A outer s H vs Q E hr h=>?_)
  . obtain ⟨v_0, v_1, v_2, a_0, a_1, a_2, b, rfl, _⟩:=h; rfl
  obtain ⟨v_0, v_1, v_2, a_0, a_1, a_2, b, rfl, h_0, h_1, h_2, hm, q⟩:=h
  have hu:=hu8 hr
  have hu1:=YD hr
  refine ⟨_, (Xc (Xo (i:=3) VC.nd rfl (Or.inl rfl) (X9 g_cell hr (by decide) (Xd (pv 0) (Xd (pv 1) Xg))))
    (Xc (Xo (i:=4) VC.nd rfl (Or.inl rfl) (pv 3))
    (Xc (Xo (i:=5) VC.nd rfl (Or.inl rfl) (X7 Xg))
    (Xc (X4 PassesOwn.never rfl (XM rfl Z.b_range (Xd (Xu (Xm K rfl) rfl Z.b_len PySem.boot_len (Xd (pv 2) Xg)) Xg)) (Xn (i:=6) VC.nd rfl (Or.inl rfl))
      (Xc (YI (Xs Qv (pv 3) (Xq F5 Xh Xh) (XG _))
        (Xc (Yv (ZK PySem.F.plainAttrs_list PySem.F.slot_list_append PySem.F.type_list_append X1 (pv 5) (Xd (Xq Yq (X9 g_mix hr (by decide) (Xd (pv 3) (Xd (pv 6) Xg))) (XE (Xk K rfl) (pv 2) (pv 6) (fun _ _=>rfl))) Xg)))
        Xf)
        (Xc (YI (Xs Gc (pv 4) Xh (XG _))
          (Xc (Yv (ZK PySem.F.plainAttrs_list PySem.F.slot_list_append PySem.F.type_list_append X1 (pv 5) (Xd (Xq Yq (pv 4) (XE (Xk K rfl) (pv 2) (pv 6) (fun _ _=>rfl))) Xg)))
          (Xc (Xo (i:=4) VC.nd rfl (Or.inl rfl) (Xq Ul (pv 4) (XE (Xk K rfl) (pv 2) (pv 6) (fun _ _=>rfl))))
          Xf))
          (Xc (Xo (i:=7) VC.nd rfl (Or.inl rfl) (X9 g_cell hr (by decide) (Xd (pv 0) (Xd (Xq Yq (Xq X2 (Xq X2 (pv 1) Xh) (pv 6)) Xh) Xg))))
          (Xc (Yv (ZK PySem.F.plainAttrs_list PySem.F.slot_list_append PySem.F.type_list_append X1 (pv 5) (Xd (Xq Yq (X9 g_mix hr (by decide) (Xd (pv 7) (Xd (pv 6) Xg))) (XE (Xk K rfl) (pv 2) (pv 6) (fun _ _=>rfl))) Xg)))
          Xf)))
        Xf))
      Xf))
    (Xc (XA (pv 5))
    Xf))))), ?_⟩
  refine YJ (S:=(SC.add (SC.add (SC.add SC.nil K (rL Xa) v_0 a_0) K Xa v_1 a_1) K (rV Xa) v_2 a_2)) (σ:=[some v_0, some v_1, some v_2, none, none, none, none, none]) 1 ?_ (SC.i (SC.i (SC.i SC.t h_0) h_1) h_2) hm q rfl
  unfold V1
  exact (Xy (K:=K) (r:=Xa) 3 (EvB.sh (Ev.toB (Ya (Xb (r:=(rL Xa)) 0 rfl (fun _ s=>s.l.l.r)) (Xb (r:=Xa) 1 rfl (fun _ s=>s.l.r))))) fun a1 v2=>(Xy (K:=K) (r:=Xa) 4 (Xl (r:=Xa) 3 rfl (fun _ s=>s.r)) fun a6 v7=>(XY (K:=K) (o:=(oL (oF Xa))) 5 0 (QM (o:=(oF Xa))) (Nat.le_of_ble_eq_true rfl) fun a8 v9 C10=>(Yo (K:=K) (J:=({ oo:=fun x13=>[x13.2.2.2.2], ss:=fun x13=>[some v_0, some v_1, some v_2, some v2, some x13.2.2.1, some x13.2.1, x13.1, x13.2.2.2.1], sc:=fun g14 x13=>(SC.add (SC.addO (SC.add (SC.add (SC.add (SC.add SC.nil K (rL Xa) v_0 a_0) K Xa v_1 a_1) K (rV Xa) v_2 a_2) K Xa v2 a1) K (oL (oF Xa)) x13.2.1 g14.1 x13.2.2.2.2) K Xa x13.2.2.1 g14.2) } : Jn ((List Int) × Int) (Option V × V × V × Option V × List XO))) (fun _=>tg1 6) ((none), v9, v7, (none), C10) (a8, a6) (Xw (X0 (Xb (r:=(rV Xa)) 2 rfl (fun _ s=>s.l.l.l.r)))) rfl rfl (fun _ s=>(SC.i (SC.i (SC.i (SC.i (SC.i (SC.i SC.t s.l.l.l.l.l.r) s.l.l.l.l.r) s.l.l.l.r) s.l.l.r) s.r) s.l.r)) (fun g15 x16 a17 v18=>(Zh (J:=({ oo:=fun x24=>[x24.2.2.2], ss:=fun x24=>[some v_0, some v_1, some v_2, some v2, some x24.2.1, some x24.1, some v18, x24.2.2.1], sc:=fun g25 x24=>(SC.add (SC.addO (SC.add (SC.add (SC.add (SC.add (SC.add SC.nil K (rL Xa) v_0 a_0) K Xa v_1 a_1) K (rV Xa) v_2 a_2) K Xa v2 a1) K Xa v18 a17) K (oL (oF Xa)) x24.1 g25.1 x24.2.2.2) K Xa x24.2.1 g25.2) } : Jn ((List Int) × Int) (V × V × Option V × List XO))) (ZS (Fd:=FNd ({ oo:=fun x24=>[x24.2.2.2], ss:=fun x24=>[some v_0, some v_1, some v_2, some v2, some x24.2.1, some x24.1, some v18, x24.2.2.1], sc:=fun g25 x24=>(SC.add (SC.addO (SC.add (SC.add (SC.add (SC.add (SC.add SC.nil K (rL Xa) v_0 a_0) K Xa v_1 a_1) K (rV Xa) v_2 a_2) K Xa v2 a1) K Xa v18 a17) K (oL (oF Xa)) x24.1 g25.1 x24.2.2.2) K Xa x24.2.1 g25.2) } : Jn ((List Int) × Int) (V × V × Option V × List XO))) (Xp (K:=K) (Zv (Xb (r:=Xa) 3 rfl (fun _ s=>s.l.l.l.r)) (Gv (Xe 10) (Xe 18)))) (ZL (K:=K) (o:=(oF Xa)) (f:=fun a35=>(Rs.ok (a35, g15.2))) 5 0 rfl rfl rfl (fun _ s=>s.l.l.r) (EvS.ev (EvB.sh (X3 (Ev.toB (Ya (Xb (r:=Xa) 3 rfl (fun _ s=>s.l.l.l.r)) (Xb (r:=Xa) 6 rfl (fun _ s=>s.r)))) (Xx (Xb (r:=(rV Xa)) 2 rfl (fun _ s=>s.l.l.l.l.r)) (Xb (r:=Xa) 6 rfl (fun _ s=>s.r)))))) fun a33 C34=>(Xv (J:=_) (x16.2.1, x16.2.2.1, (x16.2.2.2.1), C34) ((g15.1 ++ [a33]), g15.2) rfl rfl (fun _ s=>(SC.i (SC.i (SC.i (SC.i (SC.i (SC.i (SC.i SC.t s.l.l.l.l.l.l.l.r) s.l.l.l.l.l.l.r) s.l.l.l.l.l.r) s.l.l.l.l.r) s.l.r) s.r) s.l.l.r)))) (Zh (J:=({ oo:=fun x39=>[x39.2.2.2], ss:=fun x39=>[some v_0, some v_1, some v_2, some v2, some x39.1, some x39.2.2.1, some v18, x39.2.1], sc:=fun g40 x39=>(SC.addO (SC.add (SC.add (SC.add (SC.add (SC.add (SC.add SC.nil K (rL Xa) v_0 a_0) K Xa v_1 a_1) K (rV Xa) v_2 a_2) K Xa v2 a1) K Xa v18 a17) K Xa x39.1 g40.1) K (oL (oF Xa)) x39.2.2.1 g40.2 x39.2.2.2) } : Jn (Int × (List Int)) (V × Option V × V × List XO))) (ZS (Fd:=FNd ({ oo:=fun x39=>[x39.2.2.2], ss:=fun x39=>[some v_0, some v_1, some v_2, some v2, some x39.1, some x39.2.2.1, some v18, x39.2.1], sc:=fun g40 x39=>(SC.addO (SC.add (SC.add (SC.add (SC.add (SC.add (SC.add SC.nil K (rL Xa) v_0 a_0) K Xa v_1 a_1) K (rV Xa) v_2 a_2) K Xa v2 a1) K Xa v18 a17) K Xa x39.1 g40.1) K (oL (oF Xa)) x39.2.2.1 g40.2 x39.2.2.2) } : Jn (Int × (List Int)) (V × Option V × V × List XO))) (Xp (K:=K) (VU (Xb (r:=Xa) 4 rfl (fun _ s=>s.l.r)) (Xe 0))) (ZL (K:=K) (o:=(oF Xa)) (f:=fun a47=>(Rs.bind (Rs.bind (Rs.ok g15.2) fun x52=>(Rs.bind (Rs.bind (Rs.ok a_2) fun x50=>(Rs.bind (Rs.ok a17) fun x51=>(atR x50 x51))) fun x53=>(HQ x52 x53))) fun a48=>(Rs.ok (a48, a47)))) 5 0 rfl rfl rfl (fun _ s=>s.l.l.r) (EvS.ev (EvB.sh (X3 (Xb (r:=Xa) 4 rfl (fun _ s=>s.l.r)) (Xx (Xb (r:=(rV Xa)) 2 rfl (fun _ s=>s.l.l.l.l.r)) (Xb (r:=Xa) 6 rfl (fun _ s=>s.r)))))) fun a45 C46=>(Xy (K:=K) (r:=Xa) 4 (EvB.sh (KU (Xb (r:=Xa) 4 rfl (fun _ s=>s.l.l.r)) (Xx (Xb (r:=(rV Xa)) 2 rfl (fun _ s=>s.l.l.l.l.l.r)) (Xb (r:=Xa) 6 rfl (fun _ s=>s.l.r))))) fun a48 v49=>(Xv (J:=_) (v49, (x16.2.2.2.1), x16.2.1, C46) (a48, (g15.1 ++ [a45])) rfl rfl (fun _ s=>(SC.i (SC.i (SC.i (SC.i (SC.i (SC.i (SC.i SC.t s.l.l.l.l.l.l.l.l.r) s.l.l.l.l.l.l.l.r) s.l.l.l.l.l.l.r) s.l.l.l.l.l.r) s.l.l.r) s.r) s.l.r))))) (Xy (K:=K) (r:=Xa) 7 (EvB.sh (Ev.toB (Ya (Xb (r:=(rL Xa)) 0 rfl (fun _ s=>s.l.l.l.l.l.l.r)) (X3 (XL (XL (Xb (r:=Xa) 1 rfl (fun _ s=>s.l.l.l.l.l.r)) (Xe 1)) (Xb (r:=Xa) 6 rfl (fun _ s=>s.r))) (Xe 63))))) fun a54 v55=>(ZL (K:=K) (o:=(oF Xa)) (f:=fun a74=>(Rs.ok (g15.2, a74))) 5 0 rfl rfl rfl (fun _ s=>s.l.l.l.r) (EvS.ev (EvB.sh (X3 (Ev.toB (Ya (Xb (r:=Xa) 7 rfl (fun _ s=>s.r)) (Xb (r:=Xa) 6 rfl (fun _ s=>s.l.r)))) (Xx (Xb (r:=(rV Xa)) 2 rfl (fun _ s=>s.l.l.l.l.l.r)) (Xb (r:=Xa) 6 rfl (fun _ s=>s.l.r)))))) fun a72 C73=>(Xv (J:=_) (x16.2.2.1, (some v55), x16.2.1, C73) (g15.2, (g15.1 ++ [a72])) rfl rfl (fun _ s=>(SC.i (SC.i (SC.i (SC.i (SC.i (SC.i (SC.i SC.t s.l.l.l.l.l.l.l.l.r) s.l.l.l.l.l.l.l.r) s.l.l.l.l.l.l.r) s.l.l.l.l.l.r) s.l.l.r) s.l.l.l.r) s.r)))))) fun g76 x75=>(Xv (J:=_) (x75.2.2.1, x75.1, (x75.2.1), x75.2.2.2) (g76.2, g76.1) rfl rfl (fun _ s=>(SC.i (SC.i (SC.i (SC.i (SC.i (SC.i (SC.i SC.t s.l.l.l.l.l.l.r) s.l.l.l.l.l.r) s.l.l.l.l.r) s.l.l.l.r) s.l.l.r) s.r) s.l.r))))) fun g78 x77=>(Xv (J:=_) ((some v18), x77.1, x77.2.1, (x77.2.2.1), x77.2.2.2) (g78.1, g78.2) rfl rfl (fun _ s=>(SC.i (SC.i (SC.i (SC.i (SC.i (SC.i SC.t s.l.l.l.l.l.l.r) s.l.l.l.l.l.r) s.l.l.l.l.r) s.l.l.l.r) s.l.r) s.r))))) fun g79 x80=>(XB (Ys (o:=(oL (oF Xa))) 5 0 rfl rfl (fun _ s=>s.l.r)))))))
theorem Vh : FnScope ["_law_names", "_law_some", "_law_left", "_law_found", "_law_k"] ["_law_names", "_law_some"] (Xi Qr):=⟨rfl, rfl, rfl, by decide +kernel, rfl, by decide +kernel, by decide +kernel⟩
theorem BH (D : Def K mg "_law_mixed" Qr ["_law_names", "_law_some"])  (Z : Blt mg) : Fn P w K mg base 1 "_law_mixed" ["_law_names", "_law_some"] (sp2 (rV Xa) (rV Xa) (oL (oF Xa)) JH K):=by
  refine YH D Vh (fun vs H Q E h=>?_) (fun f cdv A outer s H vs Q E hr h=>?_)
  . obtain ⟨v_0, v_1, a_0, a_1, b, rfl, _⟩:=h; rfl
  obtain ⟨v_0, v_1, a_0, a_1, b, rfl, h_0, h_1, hm, q⟩:=h
  have hu:=hu8 hr
  have hu1:=YD hr
  refine ⟨_, (Xc (Xo (i:=2) Vh.nd rfl (Or.inl rfl) (Zu (YV K rfl) rfl Z.b_list PyProof.Rows.boot_list (Xd (pv 0) Xg)))
    (Xc (Xo (i:=3) Vh.nd rfl (Or.inl rfl) (X7 Xg))
    (Xc (X4 PassesOwn.never rfl (XM rfl Z.b_range (Xd (Xu (Xm K rfl) rfl Z.b_len PySem.boot_len (Xd (pv 0) Xg)) Xg)) (Xn (i:=4) Vh.nd rfl (Or.inl rfl))
      (Xc (Yv (ZK PySem.F.plainAttrs_list PySem.F.slot_list_append PySem.F.type_list_append X1 (pv 3) (Xd (ZK PySem.F.plainAttrs_list PySem.F.slot_list_pop PySem.F.type_list_pop Uw (pv 2) (Xd (Xq Yq (XE (Xk K rfl) (pv 1) (Xq X2 (Xq YT Xh (pv 4)) Xh) (fun _ _=>rfl)) (Xu (Xm K rfl) rfl Z.b_len PySem.boot_len (Xd (pv 2) Xg))) Xg)) Xg)))
      Xf))
    (Xc (XA (pv 3))
    Xf)))), ?_⟩
  refine YJ (S:=(SC.add (SC.add SC.nil K (rV Xa) v_0 a_0) K (rV Xa) v_1 a_1)) (σ:=[some v_0, some v_1, none, none, none]) 2 ?_ (SC.i (SC.i SC.t h_0) h_1) hm q rfl
  unfold JH
  exact (XY (K:=K) (o:=(oL (oF Xa))) 2 1 (JF (EvS.ls (Xl (r:=(rV Xa)) 0 rfl (fun _ s=>s.l.r)))) (Nat.le_of_ble_eq_true rfl) fun a1 v2 C3=>(XY (K:=K) (o:=(oL (oF Xa))) 3 0 (QM (o:=(oF Xa))) (Nat.le_of_ble_eq_true rfl) fun a5 v6 C7=>(Yo (K:=K) (J:=({ oo:=fun x10=>[x10.2.2.2.1, x10.2.2.2.2], ss:=fun x10=>[some v_0, some v_1, some x10.2.2.1, some x10.2.1, x10.1], sc:=fun g11 x10=>(SC.addO (SC.addO (SC.add (SC.add SC.nil K (rV Xa) v_0 a_0) K (rV Xa) v_1 a_1) K (oL (oF Xa)) x10.2.1 g11.1 x10.2.2.2.1) K (oL (oF Xa)) x10.2.2.1 g11.2 x10.2.2.2.2) } : Jn ((List Int) × (List Int)) (Option V × V × V × List XO × List XO))) (fun _=>tg1 4) ((none), v6, v2, C7, C3) (a5, a1) (Xw (X0 (Xb (r:=(rV Xa)) 0 rfl (fun _ s=>s.l.l.l.r)))) rfl rfl (fun _ s=>(SC.i (SC.i (SC.i (SC.i SC.t s.l.l.l.r) s.l.l.r) s.r) s.l.r)) (fun g12 x13 a14 v15=>(GA (K:=K) (r:=Xa) (f:=fun a26 a27=>(Rs.ok (a27, a26))) 2 1 3 0 (by decide) rfl rfl (fun _ s=>s.l.r) rfl rfl (fun _ s=>s.l.l.r) (X3 (Xx (Xb (r:=(rV Xa)) 1 rfl (fun _ s=>s.l.l.l.r)) (XL (Yd (Xe 8) (Xb (r:=Xa) 4 rfl (fun _ s=>s.r))) (Xe 9))) (X0 (Za (o:=(oL (oF Xa))) 2 1 rfl rfl (fun _ s=>s.l.r)))) fun a25 a26 C28 C29=>(Xv (J:=_) ((some v15), x13.2.1, x13.2.2.1, C29, C28) ((g12.1 ++ [a25]), a26) rfl rfl (fun _ s=>(SC.i (SC.i (SC.i (SC.i SC.t s.l.l.l.l.l.l.r) s.l.l.l.l.l.r) s.r) s.l.r))))) fun g32 x33=>(XB (Ys (o:=(oL (oF Xa))) 3 0 rfl rfl (fun _ s=>s.l.r))))))
theorem VS : FnScope ["_law_names", "_law_some", "_law_rings", "_law_left", "_law_one", "_law_walks", "_law_k", "_law_at", "_law_passage"] ["_law_names", "_law_some", "_law_rings"] (Xi Ut):=⟨rfl, rfl, rfl, by decide +kernel, rfl, by decide +kernel, by decide +kernel⟩
theorem Ic (D : Def K mg "_law_any" Ut ["_law_names", "_law_some", "_law_rings"])  (Z : Blt mg) : Fn P w K mg base 1 "_law_any" ["_law_names", "_law_some", "_law_rings"] (sp3 (rV Xa) (rV Xa) Xa (oL (oL (oF Xa))) Fo K):=by
  refine YH D VS (fun vs H Q E h=>?_) (fun f cdv A outer s H vs Q E hr h=>?_)
  . obtain ⟨v_0, v_1, v_2, a_0, a_1, a_2, b, rfl, _⟩:=h; rfl
  obtain ⟨v_0, v_1, v_2, a_0, a_1, a_2, b, rfl, h_0, h_1, h_2, hm, q⟩:=h
  have hu:=hu8 hr
  have hu1:=YD hr
  refine ⟨_, (Xc (Xo (i:=3) VS.nd rfl (Or.inl rfl) (X7 Xg))
    (Xc (X4 PassesOwn.never rfl (XV (K:=K) rfl (pv 0)) (Xn (i:=4) VS.nd rfl (Or.inl rfl))
      (Xc (Yv (ZK PySem.F.plainAttrs_list PySem.F.slot_list_extend PySem.F.type_list_extend DZ (pv 3) (Xd (X7 (Xd (pv 4) (Xd (U0 JP (pv 4)) Xg))) Xg Ji)))
      Xf))
    (Xc (Gm 5 (Xi Ut) ["_law_names", "_law_some", "_law_rings", "_law_left", "_law_one", "_law_walks", "_law_k", "_law_at", "_law_passage"] ["_law_k"] [] rfl VS.nd rfl rfl (XM rfl Z.b_range (Xd (pv 2) Xg)) (Zx (by decide)) (fun cl C s H ex E=>⟨Xn (i:=0) (show List.Nodup (["_law_k"] : List Str) by decide +kernel) rfl (Or.inl rfl), Z0, (X7 Xg)⟩))
    (Xc (X4 PassesOwn.never rfl (XM rfl Z.b_range (Xd (Xq YT Xh (Xu (Xm K rfl) rfl Z.b_len PySem.boot_len (Xd (pv 0) Xg))) Xg)) (Xn (i:=6) VS.nd rfl (Or.inl rfl))
      (Xc (Xo (i:=7) VS.nd rfl (Or.inl rfl) (Xq X2 (Xq YT Xh (pv 6)) Xh))
      (Xc (Xo (i:=8) VS.nd rfl (Or.inl rfl) (ZK PySem.F.plainAttrs_list PySem.F.slot_list_pop PySem.F.type_list_pop Uw (pv 3) (Xd (Xq Yq (XE (Xk K rfl) (pv 1) (pv 7) (fun _ _=>rfl)) (Xu (Xm K rfl) rfl Z.b_len PySem.boot_len (Xd (pv 3) Xg))) Xg)))
      (Xc (Yv (ZK PySem.F.plainAttrs_list PySem.F.slot_list_append PySem.F.type_list_append X1 (XE (Xk K rfl) (pv 5) (Xq Yq (XE (Xk K rfl) (pv 1) (Xq X2 (pv 7) Xh) (fun _ _=>rfl)) (pv 2)) (fun _ _=>rfl)) (Xd (pv 8) Xg)))
      Xf))))
    (Xc (XA (pv 5))
    Xf))))), ?_⟩
  refine YJ (S:=(SC.add (SC.add (SC.add SC.nil K (rV Xa) v_0 a_0) K (rV Xa) v_1 a_1) K Xa v_2 a_2)) (σ:=[some v_0, some v_1, some v_2, none, none, none, none, none, none]) 2 ?_ (SC.i (SC.i (SC.i SC.t h_0) h_1) h_2) hm q rfl
  unfold Fo
  exact (XY (K:=K) (o:=(oL (oF Xa))) 3 1 (QM (o:=(oF Xa))) (Nat.le_of_ble_eq_true rfl) fun a1 v2 C3=>(Yo (K:=K) (J:=({ oo:=fun x4=>[[], x4.2.2], ss:=fun x4=>[some v_0, some v_1, some v_2, some x4.2.1, x4.1, none, none, none, none], sc:=fun g5 x4=>(SC.addO (SC.add (SC.add (SC.add SC.nil K (rV Xa) v_0 a_0) K (rV Xa) v_1 a_1) K Xa v_2 a_2) K (oL (oF Xa)) x4.2.1 g5 x4.2.2) } : Jn ((List Int)) (Option V × V × List XO))) (fun _=>tg1 4) ((none), v2, C3) (a1) (XH (Xl (r:=(rV Xa)) 0 rfl (fun _ s=>s.l.l.l.r))) rfl rfl (fun _ s=>(SC.i (SC.i (SC.i (SC.i SC.t s.l.l.l.r) s.l.l.r) s.l.r) s.r)) (fun g6 x7 a8 v9=>(Ir (K:=K) (o:=(oF Xa)) (f:=fun a18=>(Rs.ok (a18))) 3 1 rfl rfl rfl (fun _ s=>s.l.r) (ZA (Xt (Xl (r:=Xa) 4 rfl (fun _ s=>s.r)) (Xt (EvB.sh (Qw (Xb (r:=Xa) 4 rfl (fun _ s=>s.r)))) Y0))) fun a16 C17=>(Xv (J:=_) ((some v9), x7.2.1, C17) ((g6 ++ a16)) rfl rfl (fun _ s=>(SC.i (SC.i (SC.i (SC.i SC.t s.l.l.l.l.l.r) s.l.l.l.l.r) s.l.l.l.r) s.r))))) fun g19 x20=>(XY (K:=K) (o:=(oL (oL (oF Xa)))) 5 0 (Z1 (fun _=>tg1 0) (Xw (Xb (r:=Xa) 2 rfl (fun _ s=>s.l.r))) (fun C25 a26 v27=>(QM (o:=(oF Xa))))) (Nat.le_of_ble_eq_true rfl) fun a21 v22 C23=>(Yo (K:=K) (J:=({ oo:=fun x33=>[x33.2.2.2.2.2.2, x33.2.2.2.2.2.1], ss:=fun x33=>[some v_0, some v_1, some v_2, some x33.2.2.2.1, x20.1, some x33.2.2.2.2.1, x33.1, x33.2.1, x33.2.2.1], sc:=fun g34 x33=>(SC.addO (SC.addO (SC.add (SC.add (SC.add SC.nil K (rV Xa) v_0 a_0) K (rV Xa) v_1 a_1) K Xa v_2 a_2) K (oL (oF Xa)) x33.2.2.2.1 g34.1 x33.2.2.2.2.2.1) K (oL (oL (oF Xa))) x33.2.2.2.2.1 g34.2 x33.2.2.2.2.2.2) } : Jn ((List Int) × (List (List Int))) (Option V × Option V × Option V × V × V × List XO × List XO))) (fun _=>tg1 6) ((none), (none), (none), x20.2.1, v22, x20.2.2, C23) (g19, a21) (Xw (Yd (Xe 2) (X0 (Xb (r:=(rV Xa)) 0 rfl (fun _ s=>s.l.l.l.l.r))))) rfl rfl (fun _ s=>(SC.i (SC.i (SC.i (SC.i (SC.i SC.t s.l.l.l.l.r) s.l.l.l.r) s.l.l.r) s.l.r) s.r)) (fun g35 x36 a37 v38=>(Xy (K:=K) (r:=Xa) 7 (EvB.sh (XL (Yd (Xe 4) (Xb (r:=Xa) 6 rfl (fun _ s=>s.r))) (Xe 5))) fun a39 v40=>(Ib (K:=K) (r:=Xa) (f:=(fun p55=>(fun a50 a51=>(Rs.bind (Rs.bind (Rs.bind (Rs.ok a_1) fun x58=>(Rs.bind (Rs.bind (Rs.ok a39) fun x56=>(Rs.bind (Rs.ok (1 : Int)) fun x57=>(Rs.ok (x56 + x57)))) fun x59=>(atR x58 x59))) fun x60=>(Rs.bind (Rs.ok a_2) fun x61=>(QL x60 x61))) fun x63=>(Rs.bind (atR g35.2 x63) fun x64=>(Rs.bind (Rs.ok a50) fun x62=>(chk (x64.length < sizeLine) (Rs.bind (JT g35.2 x63 (x64 ++ [x62])) fun a65=>(Rs.ok (a51, a65)))))))) p55.1 p55.2)) 8 3 1 rfl rfl (fun _ s=>s.l.l.l.r) (X3 (Xx (Xb (r:=(rV Xa)) 1 rfl (fun _ s=>s.l.l.l.l.l.r)) (Xb (r:=Xa) 7 rfl (fun _ s=>s.r))) (X0 (Za (o:=(oL (oF Xa))) 3 1 rfl rfl (fun _ s=>s.l.l.l.r)))) fun a50 a51 v52 C53=>(B6 (K:=K) (r:=Xa) 5 0 rfl rfl (fun _ s=>s.l.l.l.l.r) (Xl (r:=Xa) 8 rfl (fun _ s=>s.l.r)) (X3 (Xx (Xb (r:=(rV Xa)) 1 rfl (fun _ s=>s.l.l.l.l.l.l.l.r)) (XL (Xb (r:=Xa) 7 rfl (fun _ s=>s.l.l.r)) (Xe 1))) (Xb (r:=Xa) 2 rfl (fun _ s=>s.l.l.l.l.l.l.r))) fun a65 C66=>(Xv (J:=_) ((some v38), (some v40), (some v52), x36.2.2.2.1, x36.2.2.2.2.1, C53, C66) (a51, a65) rfl rfl (fun _ s=>(SC.i (SC.i (SC.i (SC.i (SC.i SC.t s.l.l.l.l.l.l.l.l.l.r) s.l.l.l.l.l.l.l.l.r) s.l.l.l.l.l.l.l.r) s.l.r) s.r))))))) fun g67 x68=>(XB (Ys (o:=(oL (oL (oF Xa)))) 5 0 rfl rfl (fun _ s=>s.r)))))))
theorem YF : FnScope ["_law_names", "_law_signs", "_law_some", "_law_strands", "_law_seen", "_law_walks", "_law_start", "_law_walk", "_law_at", "_law_k", "_law_low"] ["_law_names", "_law_signs", "_law_some", "_law_strands"] (Xi Zt):=⟨rfl, rfl, rfl, by decide +kernel, rfl, by decide +kernel, by decide +kernel⟩
theorem FN (D : Def K mg "_law_plaited" Zt ["_law_names", "_law_signs", "_law_some", "_law_strands"])  (Z : Blt mg) : Fn P w K mg base 1 "_law_plaited" ["_law_names", "_law_signs", "_law_some", "_law_strands"] (sp4 (rV Xa) (rD Xa) (rV Xa) Xa (oL (oL (oF Xa))) Z4 K):=by
  refine YH D YF (fun vs H Q E h=>?_) (fun f cdv A outer s H vs Q E hr h=>?_)
  . obtain ⟨v_0, v_1, v_2, v_3, a_0, a_1, a_2, a_3, b, rfl, _⟩:=h; rfl
  obtain ⟨v_0, v_1, v_2, v_3, a_0, a_1, a_2, a_3, b, rfl, h_0, h_1, h_2, h_3, hm, q⟩:=h
  have hu:=hu8 hr
  have hu1:=YD hr
  refine ⟨_, (Xc (Xo (i:=4) YF.nd rfl (Or.inl rfl) (Xq UZ (X7 (Xd Qn Xg)) (pv 3)))
    (Xc (Xo (i:=5) YF.nd rfl (Or.inl rfl) (X7 Xg))
    (Xc (X4 PassesOwn.never rfl (XM rfl Z.b_range (Xd (pv 3) Xg)) (Xn (i:=6) YF.nd rfl (Or.inl rfl))
      (Xc (YI (QW (QS (XE (Xk K rfl) (pv 4) (pv 6) (fun _ _=>rfl))))
        (Xc (Xo (i:=7) YF.nd rfl (Or.inl rfl) (X7 Xg))
        (Xc (Xo (i:=8) YF.nd rfl (Or.inl rfl) (pv 6))
        (Xc (Vd PassesOwn.never (QW (QS (XE (Xk K rfl) (pv 4) (pv 8) (fun _ _=>rfl))))
          (Xc (V8 Qn (CI (pv 4) (pv 8) UB))
          (Xc (X4 PassesOwn.never rfl (XM rfl Z.b_range (Xd (Xu (Xm K rfl) rfl Z.b_len PySem.boot_len (Xd (pv 0) Xg)) Xg)) (Xn (i:=9) YF.nd rfl (Or.inl rfl))
            (Xc (Xo (i:=10) YF.nd rfl (Or.inl rfl) (Xq Yq (XE (Xk K rfl) (pv 2) (Xq X2 (Xq YT Xh (pv 9)) Xh) (fun _ _=>rfl)) (Xq ZN (pv 3) Xh)))
            (Xc (YI (Xs Ql (pv 8) (pv 10) (XG _))
              (Xc (Yv (ZK PySem.F.plainAttrs_list PySem.F.slot_list_append PySem.F.type_list_append X1 (pv 7) (Xd (Xq YT (XE (Xk K rfl) (pv 0) (pv 9) (fun _ _=>rfl)) (Gf hu1 (pv 1) (XE (Xk K rfl) (pv 0) (pv 9) (fun _ _=>rfl)) (fun _ _=>rfl))) Xg)))
              (Xc (Xo (i:=8) YF.nd rfl (Or.inl rfl) (Xq X2 (pv 10) Xh))
              Xf))
              (Xc (YI (Xs Ql (pv 8) (Xq X2 (pv 10) Xh) (XG _))
                (Xc (Yv (ZK PySem.F.plainAttrs_list PySem.F.slot_list_append PySem.F.type_list_append X1 (pv 7) (Xd (Xq YT (U0 JP (XE (Xk K rfl) (pv 0) (pv 9) (fun _ _=>rfl))) (Gf hu1 (pv 1) (XE (Xk K rfl) (pv 0) (pv 9) (fun _ _=>rfl)) (fun _ _=>rfl))) Xg)))
                (Xc (Xo (i:=8) YF.nd rfl (Or.inl rfl) (pv 10))
                Xf))
                Xf)
              Xf))
            Xf)))
          Xf)))
        (Xc (Yv (ZK PySem.F.plainAttrs_list PySem.F.slot_list_append PySem.F.type_list_append X1 (pv 5) (Xd (pv 7) Xg)))
        Xf))))
        Xf)
      Xf))
    (Xc (XA (pv 5))
    Xf)))), ?_⟩
  refine YJ (S:=(SC.add (SC.add (SC.add (SC.add SC.nil K (rV Xa) v_0 a_0) K (rD Xa) v_1 a_1) K (rV Xa) v_2 a_2) K Xa v_3 a_3)) (σ:=[some v_0, some v_1, some v_2, some v_3, none, none, none, none, none, none, none]) 3 ?_ (SC.i (SC.i (SC.i (SC.i SC.t h_0) h_1) h_2) h_3) hm q rfl
  unfold Z4
  exact (XY (K:=K) (o:=(oL (oF XT))) 4 1 (KF (Ev.ls (ZA (Xt (EvB.sh (Zf false)) Y0))) (Xb (r:=Xa) 3 rfl (fun _ s=>s.r))) (Nat.le_of_ble_eq_true rfl) fun a1 v2 C3=>(XY (K:=K) (o:=(oL (oL (oF Xa)))) 5 0 (QM (o:=(oL (oF Xa)))) (Nat.le_of_ble_eq_true rfl) fun a9 v10 C11=>(Yo (K:=K) (J:=({ oo:=fun x13=>[x13.2.2.2.2.2.2.2.2, x13.2.2.2.2.2.2.2.1, []], ss:=fun x13=>[some v_0, some v_1, some v_2, some v_3, some x13.2.2.2.1, some x13.2.2.2.2.2.1, x13.1, x13.2.1, x13.2.2.1, x13.2.2.2.2.1, x13.2.2.2.2.2.2.1], sc:=fun g14 x13=>(SC.addO (SC.addO (SC.add (SC.add (SC.add (SC.add SC.nil K (rV Xa) v_0 a_0) K (rD Xa) v_1 a_1) K (rV Xa) v_2 a_2) K Xa v_3 a_3) K (oL (oF XT)) x13.2.2.2.1 g14.1 x13.2.2.2.2.2.2.2.1) K (oL (oL (oF Xa))) x13.2.2.2.2.2.1 g14.2 x13.2.2.2.2.2.2.2.2) } : Jn ((List Bool) × (List (List Int))) (Option V × Option V × Option V × V × Option V × V × Option V × List XO × List XO))) (fun _=>tg1 6) ((none), (none), (none), v2, (none), v10, (none), C3, C11) (a1, a9) (Xw (Xb (r:=Xa) 3 rfl (fun _ s=>s.l.l.r))) rfl rfl (fun _ s=>(SC.i (SC.i (SC.i (SC.i (SC.i (SC.i SC.t s.l.l.l.l.l.r) s.l.l.l.l.r) s.l.l.l.r) s.l.l.r) s.l.r) s.r)) (fun g15 x16 a17 v18=>(Zh (J:=({ oo:=fun x23=>[x23.2.2.2.2.2.2.2, x23.2.2.2.2.2.2.1, []], ss:=fun x23=>[some v_0, some v_1, some v_2, some v_3, some x23.2.2.1, some x23.2.2.2.2.1, some v18, x23.1, x23.2.1, x23.2.2.2.1, x23.2.2.2.2.2.1], sc:=fun g24 x23=>(SC.addO (SC.addO (SC.add (SC.add (SC.add (SC.add (SC.add SC.nil K (rV Xa) v_0 a_0) K (rD Xa) v_1 a_1) K (rV Xa) v_2 a_2) K Xa v_3 a_3) K Xa v18 a17) K (oL (oF XT)) x23.2.2.1 g24.1 x23.2.2.2.2.2.2.1) K (oL (oL (oF Xa))) x23.2.2.2.2.1 g24.2 x23.2.2.2.2.2.2.2) } : Jn ((List Bool) × (List (List Int))) (Option V × Option V × V × Option V × V × Option V × List XO × List XO))) (ZS (Fd:=FNd ({ oo:=fun x23=>[x23.2.2.2.2.2.2.2, x23.2.2.2.2.2.2.1, []], ss:=fun x23=>[some v_0, some v_1, some v_2, some v_3, some x23.2.2.1, some x23.2.2.2.2.1, some v18, x23.1, x23.2.1, x23.2.2.2.1, x23.2.2.2.2.2.1], sc:=fun g24 x23=>(SC.addO (SC.addO (SC.add (SC.add (SC.add (SC.add (SC.add SC.nil K (rV Xa) v_0 a_0) K (rD Xa) v_1 a_1) K (rV Xa) v_2 a_2) K Xa v_3 a_3) K Xa v18 a17) K (oL (oF XT)) x23.2.2.1 g24.1 x23.2.2.2.2.2.2.1) K (oL (oL (oF Xa))) x23.2.2.2.2.1 g24.2 x23.2.2.2.2.2.2.2) } : Jn ((List Bool) × (List (List Int))) (Option V × Option V × V × Option V × V × Option V × List XO × List XO))) (ZY (J1 (K:=K) (Xx (Za (o:=(oL (oF XT))) 4 1 rfl rfl (fun _ s=>s.l.l.r)) (Xb (r:=Xa) 6 rfl (fun _ s=>s.r))))) (XY (K:=K) (o:=(oL (oF Xa))) 7 2 (QM (o:=(oF Xa))) (Nat.le_of_ble_eq_true rfl) fun a25 v26 C27=>(Xy (K:=K) (r:=Xa) 8 (Xl (r:=Xa) 6 rfl (fun _ s=>s.l.r)) fun a28 v29=>(Vc (J:=({ oo:=fun x30=>[x16.2.2.2.2.2.2.2.2, x30.2.2.2.2.2.1, x30.2.2.2.2.2.2], ss:=fun x30=>[some v_0, some v_1, some v_2, some v_3, some x30.1, some x16.2.2.2.2.2.1, some v18, some x30.2.2.2.2.1, some x30.2.2.2.1, x30.2.1, x30.2.2.1], sc:=fun g31 x30=>(SC.addO (SC.add (SC.addO (SC.add (SC.addO (SC.add (SC.add (SC.add (SC.add SC.nil K (rV Xa) v_0 a_0) K (rD Xa) v_1 a_1) K (rV Xa) v_2 a_2) K Xa v_3 a_3) K (oL (oL (oF Xa))) x16.2.2.2.2.2.1 g15.2 x16.2.2.2.2.2.2.2.2) K Xa v18 a17) K (oL (oF XT)) x30.1 g31.1 x30.2.2.2.2.2.1) K Xa x30.2.2.2.1 g31.2.1) K (oL (oF Xa)) x30.2.2.2.2.1 g31.2.2 x30.2.2.2.2.2.2) } : Jn ((List Bool) × Int × (List Int)) (V × Option V × Option V × V × V × List XO × List XO))) (a_3.natAbs + 2) (x16.2.2.2.1, (x16.2.2.2.2.1), (x16.2.2.2.2.2.2.1), v29, v26, x16.2.2.2.2.2.2.2.1, C27) (g15.1, a28, a25) rfl rfl (fun _ s=>(SC.i (SC.i (SC.i (SC.i (SC.i (SC.i (SC.i (SC.i (SC.i SC.t s.l.l.l.l.l.l.l.l.r) s.l.l.l.l.l.l.l.r) s.l.l.l.l.l.l.r) s.l.l.l.l.l.r) s.l.l.l.r) s.l.l.r) s.l.l.l.l.r) s.r) s.l.r)) (fun g32 x33=>(ZY (J1 (K:=K) (Xx (Za (o:=(oL (oF XT))) 4 1 rfl rfl (fun _ s=>s.l.l.r)) (Xb (r:=Xa) 8 rfl (fun _ s=>s.l.r)))))) (fun g32 x33=>(Gz (K:=K) (o:=(oF XT)) 4 1 rfl rfl (fun _ s=>s.l.l.r) (EvS.ev (EvB.sh (Zf true))) (fun _=>(Xb (r:=Xa) 8 rfl (fun _ s=>s.l.r))) fun a39 C40=>(Yo (K:=K) (J:=({ oo:=fun x43=>[x16.2.2.2.2.2.2.2.2, C40, x43.2.2.2.2], ss:=fun x43=>[some v_0, some v_1, some v_2, some v_3, some x33.1, some x16.2.2.2.2.2.1, some v18, some x43.2.2.2.1, some x43.2.2.1, x43.1, x43.2.1], sc:=fun g44 x43=>(SC.addO (SC.add (SC.addO (SC.add (SC.addO (SC.add (SC.add (SC.add (SC.add SC.nil K (rV Xa) v_0 a_0) K (rD Xa) v_1 a_1) K (rV Xa) v_2 a_2) K Xa v_3 a_3) K (oL (oL (oF Xa))) x16.2.2.2.2.2.1 g15.2 x16.2.2.2.2.2.2.2.2) K Xa v18 a17) K (oL (oF XT)) x33.1 a39 C40) K Xa x43.2.2.1 g44.1) K (oL (oF Xa)) x43.2.2.2.1 g44.2 x43.2.2.2.2) } : Jn (Int × (List Int)) (Option V × Option V × V × V × List XO))) (fun _=>tg1 9) ((x33.2.1), (x33.2.2.1), x33.2.2.2.1, x33.2.2.2.2.1, x33.2.2.2.2.2.2) (g32.2.1, g32.2.2) (Xw (X0 (Xb (r:=(rV Xa)) 0 rfl (fun _ s=>s.l.l.l.l.l.l.l.l.l.r)))) rfl rfl (fun _ s=>(SC.i (SC.i (SC.i (SC.i (SC.i (SC.i (SC.i (SC.i (SC.i SC.t s.l.l.l.l.l.l.l.l.l.r) s.l.l.l.l.l.l.l.l.r) s.l.l.l.l.l.l.l.r) s.l.l.l.l.l.l.r) s.l.l.l.l.l.r) s.l.l.l.l.r) s.r) s.l.l.r) s.l.r)) (fun g45 x46 a47 v48=>(Xy (K:=K) (r:=Xa) 10 (EvB.sh (X3 (Xx (Xb (r:=(rV Xa)) 2 rfl (fun _ s=>s.l.l.l.l.l.l.l.r)) (XL (Yd (Xe 8) (Xb (r:=Xa) 9 rfl (fun _ s=>s.r))) (Xe 10))) (Y6 (Xb (r:=Xa) 3 rfl (fun _ s=>s.l.l.l.l.l.l.r)) (Xe 1)))) fun a49 v50=>(Zh (J:=({ oo:=fun x64=>[x16.2.2.2.2.2.2.2.2, C40, x64.2.2], ss:=fun x64=>[some v_0, some v_1, some v_2, some v_3, some x33.1, some x16.2.2.2.2.2.1, some v18, some x64.2.1, some x64.1, some v48, some v50], sc:=fun g65 x64=>(SC.addO (SC.add (SC.add (SC.add (SC.addO (SC.add (SC.addO (SC.add (SC.add (SC.add (SC.add SC.nil K (rV Xa) v_0 a_0) K (rD Xa) v_1 a_1) K (rV Xa) v_2 a_2) K Xa v_3 a_3) K (oL (oL (oF Xa))) x16.2.2.2.2.2.1 g15.2 x16.2.2.2.2.2.2.2.2) K Xa v18 a17) K (oL (oF XT)) x33.1 a39 C40) K Xa v48 a47) K Xa v50 a49) K Xa x64.1 g65.1) K (oL (oF Xa)) x64.2.1 g65.2 x64.2.2) } : Jn (Int × (List Int)) (V × V × List XO))) (ZS (Fd:=FNd ({ oo:=fun x64=>[x16.2.2.2.2.2.2.2.2, C40, x64.2.2], ss:=fun x64=>[some v_0, some v_1, some v_2, some v_3, some x33.1, some x16.2.2.2.2.2.1, some v18, some x64.2.1, some x64.1, some v48, some v50], sc:=fun g65 x64=>(SC.addO (SC.add (SC.add (SC.add (SC.addO (SC.add (SC.addO (SC.add (SC.add (SC.add (SC.add SC.nil K (rV Xa) v_0 a_0) K (rD Xa) v_1 a_1) K (rV Xa) v_2 a_2) K Xa v_3 a_3) K (oL (oL (oF Xa))) x16.2.2.2.2.2.1 g15.2 x16.2.2.2.2.2.2.2.2) K Xa v18 a17) K (oL (oF XT)) x33.1 a39 C40) K Xa v48 a47) K Xa v50 a49) K Xa x64.1 g65.1) K (oL (oF Xa)) x64.2.1 g65.2 x64.2.2) } : Jn (Int × (List Int)) (V × V × List XO))) (Xp (K:=K) (Zg (Xb (r:=Xa) 8 rfl (fun _ s=>s.l.l.l.r)) (Xb (r:=Xa) 10 rfl (fun _ s=>s.r)))) (ZL (K:=K) (o:=(oF Xa)) (f:=fun a76=>(Rs.bind (Rs.bind (Rs.ok a49) fun x79=>(Rs.bind (Rs.ok (1 : Int)) fun x80=>(Rs.ok (x79 + x80)))) fun a77=>(Rs.ok (a77, a76)))) 7 2 rfl rfl rfl (fun _ s=>s.l.l.r) (EvS.ev (EvB.sh (Yd (Xx (Xb (r:=(rV Xa)) 0 rfl (fun _ s=>s.l.l.l.l.l.l.l.l.l.l.r)) (Xb (r:=Xa) 9 rfl (fun _ s=>s.l.r))) (UL (Xb (r:=(rD Xa)) 1 rfl (fun _ s=>s.l.l.l.l.l.l.l.l.l.r)) (Xx (Xb (r:=(rV Xa)) 0 rfl (fun _ s=>s.l.l.l.l.l.l.l.l.l.l.r)) (Xb (r:=Xa) 9 rfl (fun _ s=>s.l.r))))))) fun a74 C75=>(Xy (K:=K) (r:=Xa) 8 (EvB.sh (XL (Xb (r:=Xa) 10 rfl (fun _ s=>s.l.r)) (Xe 1))) fun a77 v78=>(Xv (J:=_) (v78, x46.2.2.2.1, C75) (a77, (g45.2 ++ [a74])) rfl rfl (fun _ s=>(SC.i (SC.i (SC.i (SC.i (SC.i (SC.i (SC.i (SC.i (SC.i (SC.i (SC.i SC.t s.l.l.l.l.l.l.l.l.l.l.l.l.r) s.l.l.l.l.l.l.l.l.l.l.l.r) s.l.l.l.l.l.l.l.l.l.l.r) s.l.l.l.l.l.l.l.l.l.r) s.l.l.l.l.l.l.l.l.r) s.l.l.l.l.l.l.l.r) s.l.l.l.l.l.l.r) s.l.l.l.r) s.l.l.r) s.r) s.l.r))))) (Zh (J:=({ oo:=fun x86=>[x16.2.2.2.2.2.2.2.2, C40, x86.2.2], ss:=fun x86=>[some v_0, some v_1, some v_2, some v_3, some x33.1, some x16.2.2.2.2.2.1, some v18, some x86.2.1, some x86.1, some v48, some v50], sc:=fun g87 x86=>(SC.addO (SC.add (SC.add (SC.add (SC.addO (SC.add (SC.addO (SC.add (SC.add (SC.add (SC.add SC.nil K (rV Xa) v_0 a_0) K (rD Xa) v_1 a_1) K (rV Xa) v_2 a_2) K Xa v_3 a_3) K (oL (oL (oF Xa))) x16.2.2.2.2.2.1 g15.2 x16.2.2.2.2.2.2.2.2) K Xa v18 a17) K (oL (oF XT)) x33.1 a39 C40) K Xa v48 a47) K Xa v50 a49) K Xa x86.1 g87.1) K (oL (oF Xa)) x86.2.1 g87.2 x86.2.2) } : Jn (Int × (List Int)) (V × V × List XO))) (ZS (Fd:=FNd ({ oo:=fun x86=>[x16.2.2.2.2.2.2.2.2, C40, x86.2.2], ss:=fun x86=>[some v_0, some v_1, some v_2, some v_3, some x33.1, some x16.2.2.2.2.2.1, some v18, some x86.2.1, some x86.1, some v48, some v50], sc:=fun g87 x86=>(SC.addO (SC.add (SC.add (SC.add (SC.addO (SC.add (SC.addO (SC.add (SC.add (SC.add (SC.add SC.nil K (rV Xa) v_0 a_0) K (rD Xa) v_1 a_1) K (rV Xa) v_2 a_2) K Xa v_3 a_3) K (oL (oL (oF Xa))) x16.2.2.2.2.2.1 g15.2 x16.2.2.2.2.2.2.2.2) K Xa v18 a17) K (oL (oF XT)) x33.1 a39 C40) K Xa v48 a47) K Xa v50 a49) K Xa x86.1 g87.1) K (oL (oF Xa)) x86.2.1 g87.2 x86.2.2) } : Jn (Int × (List Int)) (V × V × List XO))) (Xp (K:=K) (Zg (Xb (r:=Xa) 8 rfl (fun _ s=>s.l.l.l.r)) (XL (Xb (r:=Xa) 10 rfl (fun _ s=>s.r)) (Xe 1)))) (ZL (K:=K) (o:=(oF Xa)) (f:=fun a99=>(Rs.bind (Rs.ok a49) fun a100=>(Rs.ok (a100, a99)))) 7 2 rfl rfl rfl (fun _ s=>s.l.l.r) (EvS.ev (EvB.sh (Yd (Qw (Xx (Xb (r:=(rV Xa)) 0 rfl (fun _ s=>s.l.l.l.l.l.l.l.l.l.l.r)) (Xb (r:=Xa) 9 rfl (fun _ s=>s.l.r)))) (UL (Xb (r:=(rD Xa)) 1 rfl (fun _ s=>s.l.l.l.l.l.l.l.l.l.r)) (Xx (Xb (r:=(rV Xa)) 0 rfl (fun _ s=>s.l.l.l.l.l.l.l.l.l.l.r)) (Xb (r:=Xa) 9 rfl (fun _ s=>s.l.r))))))) fun a97 C98=>(Xy (K:=K) (r:=Xa) 8 (Xl (r:=Xa) 10 rfl (fun _ s=>s.l.r)) fun a100 v101=>(Xv (J:=_) (v101, x46.2.2.2.1, C98) (a100, (g45.2 ++ [a97])) rfl rfl (fun _ s=>(SC.i (SC.i (SC.i (SC.i (SC.i (SC.i (SC.i (SC.i (SC.i (SC.i (SC.i SC.t s.l.l.l.l.l.l.l.l.l.l.l.l.r) s.l.l.l.l.l.l.l.l.l.l.l.r) s.l.l.l.l.l.l.l.l.l.l.r) s.l.l.l.l.l.l.l.l.l.r) s.l.l.l.l.l.l.l.l.r) s.l.l.l.l.l.l.l.r) s.l.l.l.l.l.l.r) s.l.l.l.r) s.l.l.r) s.r) s.l.r))))) (Xv (J:=_) (x46.2.2.1, x46.2.2.2.1, x46.2.2.2.2) (g45.1, g45.2) rfl rfl (fun _ s=>(SC.i (SC.i (SC.i (SC.i (SC.i (SC.i (SC.i (SC.i (SC.i (SC.i (SC.i SC.t s.l.l.l.l.l.l.l.l.l.l.r) s.l.l.l.l.l.l.l.l.l.r) s.l.l.l.l.l.l.l.l.r) s.l.l.l.l.l.l.l.r) s.l.l.l.l.l.l.r) s.l.l.l.l.l.r) s.l.l.l.l.r) s.l.r) s.r) s.l.l.l.r) s.l.l.r)))) fun g103 x102=>(Xv (J:=_) (x102.1, x102.2.1, x102.2.2) (g103.1, g103.2) rfl rfl (fun _ s=>(SC.i (SC.i (SC.i (SC.i (SC.i (SC.i (SC.i (SC.i (SC.i (SC.i (SC.i SC.t s.l.l.l.l.l.l.l.l.l.l.r) s.l.l.l.l.l.l.l.l.l.r) s.l.l.l.l.l.l.l.l.r) s.l.l.l.l.l.l.l.r) s.l.l.l.l.l.l.r) s.l.l.l.l.l.r) s.l.l.l.l.r) s.l.l.l.r) s.l.l.r) s.l.r) s.r))))) fun g105 x104=>(Xv (J:=_) ((some v48), (some v50), x104.1, x104.2.1, x104.2.2) (g105.1, g105.2) rfl rfl (fun _ s=>(SC.i (SC.i (SC.i (SC.i (SC.i (SC.i (SC.i (SC.i (SC.i SC.t s.l.l.l.l.l.l.l.l.l.l.r) s.l.l.l.l.l.l.l.l.l.r) s.l.l.l.l.l.l.l.l.r) s.l.l.l.l.l.l.l.r) s.l.l.l.l.l.l.r) s.l.l.l.l.l.r) s.l.l.l.l.r) s.l.r) s.r)))))) fun g106 x107=>(Xv (J:=_) (x33.1, (x107.1), (x107.2.1), x107.2.2.1, x107.2.2.2.1, C40, x107.2.2.2.2) (a39, g106.1, g106.2) rfl rfl (fun _ s=>(SC.i (SC.i (SC.i (SC.i (SC.i (SC.i (SC.i (SC.i (SC.i SC.t s.l.l.l.l.l.l.l.l.r) s.l.l.l.l.l.l.l.r) s.l.l.l.l.l.l.r) s.l.l.l.l.l.r) s.l.l.l.l.r) s.l.l.l.r) s.l.l.r) s.l.r) s.r)))))) fun g109 x110=>(ZL (K:=K) (o:=(oL (oF Xa))) (f:=fun a113=>(Rs.ok (g109.1, a113))) 5 0 rfl rfl rfl (fun _ s=>s.l.l.l.l.r) (Ys (o:=(oL (oF Xa))) 7 2 rfl rfl (fun _ s=>s.r)) fun a111 C112=>(Xv (J:=_) ((some x110.2.2.2.2.1), (some x110.2.2.2.1), x110.1, (x110.2.1), x16.2.2.2.2.2.1, (x110.2.2.1), x110.2.2.2.2.2.1, C112) (g109.1, (g15.2 ++ [a111])) rfl rfl (fun _ s=>(SC.i (SC.i (SC.i (SC.i (SC.i (SC.i (SC.i SC.t s.l.l.l.l.l.l.l.l.l.r) s.l.l.l.l.l.l.l.l.r) s.l.l.l.l.l.l.l.r) s.l.l.l.l.l.l.r) s.l.l.l.l.r) s.l.l.l.r) s.r))))))) (Xv (J:=_) ((x16.2.1), (x16.2.2.1), x16.2.2.2.1, (x16.2.2.2.2.1), x16.2.2.2.2.2.1, (x16.2.2.2.2.2.2.1), x16.2.2.2.2.2.2.2.1, x16.2.2.2.2.2.2.2.2) (g15.1, g15.2) rfl rfl (fun _ s=>(SC.i (SC.i (SC.i (SC.i (SC.i (SC.i (SC.i SC.t s.l.l.l.l.l.l.r) s.l.l.l.l.l.r) s.l.l.l.l.r) s.l.l.l.r) s.r) s.l.l.r) s.l.r)))) fun g115 x114=>(Xv (J:=_) ((some v18), (x114.1), (x114.2.1), x114.2.2.1, (x114.2.2.2.1), x114.2.2.2.2.1, (x114.2.2.2.2.2.1), x114.2.2.2.2.2.2.1, x114.2.2.2.2.2.2.2) (g115.1, g115.2) rfl rfl (fun _ s=>(SC.i (SC.i (SC.i (SC.i (SC.i (SC.i SC.t s.l.l.l.l.l.l.r) s.l.l.l.l.l.r) s.l.l.l.l.r) s.l.l.l.r) s.l.r) s.r))))) fun g116 x117=>(XB (Ys (o:=(oL (oL (oF Xa)))) 5 0 rfl rfl (fun _ s=>s.r))))))
theorem Y4 : FnScope ["_law_script", "_law_place", "_law_most", "_law_sizes", "_law_some", "_law_names", "_law_signs", "_law_last", "_law_k", "_law_step", "_law_walks", "_law_rings"] ["_law_script", "_law_place", "_law_most"] (Xi Qg):=⟨rfl, rfl, rfl, by decide +kernel, rfl, by decide +kernel, by decide +kernel⟩
theorem BS (D : Def K mg "_law_drawn" Qg ["_law_script", "_law_place", "_law_most"]) (g_row : Fn P w K mg base 2 "_law_row" ["_law_script", "_law_place", "_law_sizes"] (sp3 (rL Xa) Xa (rV Xa) (oL (oF Xa)) V1 K)) (g_plaited : Fn P w K mg base 1 "_law_plaited" ["_law_names", "_law_signs", "_law_some", "_law_strands"] (sp4 (rV Xa) (rD Xa) (rV Xa) Xa (oL (oL (oF Xa))) Z4 K)) (g_any : Fn P w K mg base 1 "_law_any" ["_law_names", "_law_some", "_law_rings"] (sp3 (rV Xa) (rV Xa) Xa (oL (oL (oF Xa))) Fo K)) (g_mixed : Fn P w K mg base 1 "_law_mixed" ["_law_names", "_law_some"] (sp2 (rV Xa) (rV Xa) (oL (oF Xa)) JH K)) (Z : Blt mg) : Fn P w K mg base 3 "_law_drawn" ["_law_script", "_law_place", "_law_most"] (sp3 (rL Xa) Xa Xa (oT2 (oL (oL (oF Xa))) (oL (oF (rP2 Xa Xa)))) QY K):=by
  refine YH D Y4 (fun vs H Q E h=>?_) (fun f cdv A outer s H vs Q E hr h=>?_)
  . obtain ⟨v_0, v_1, v_2, a_0, a_1, a_2, b, rfl, _⟩:=h; rfl
  obtain ⟨v_0, v_1, v_2, a_0, a_1, a_2, b, rfl, h_0, h_1, h_2, hm, q⟩:=h
  have hu:=hu8 hr
  have hu1:=YD hr
  refine ⟨_, (Xc (Xo (i:=3) Y4.nd rfl (Or.inl rfl) (X7 (Xd (Xq X2 (pv 2) Xh) (Xd Xh (Xd Xh (Xd Xh (Xd Xh Xg)))))))
    (Xc (Xo (i:=4) Y4.nd rfl (Or.inl rfl) (X9 g_row hr (by decide) (Xd (pv 0) (Xd (pv 1) (Xd (Xq F1 (pv 3) (Xq UZ (X7 (Xd Xh (Xd Xh (Xd Xh (Xd Xh Xg))))) (Xq YT Xh (pv 2)))) Xg)))))
    (Xc (Xo (i:=5) Y4.nd rfl (Or.inl rfl) (X7 Xg))
    (Xc (Xo (i:=6) Y4.nd rfl (Or.inr rfl) BT)
    (Xc (Xo (i:=7) Y4.nd rfl (Or.inl rfl) Xh)
    (Xc (X4 PassesOwn.never rfl (XM rfl Z.b_range (Xd (XE (Xk K rfl) (pv 4) Xh (fun _ _=>rfl)) Xg)) (Xn (i:=8) Y4.nd rfl (Or.inl rfl))
      (Xc (Xo (i:=9) Y4.nd rfl (Or.inl rfl) (Xq YT (XE (Xk K rfl) (pv 4) (Xq X2 (Xq YT Xh (pv 8)) Xh) (fun _ _=>rfl)) (XE (Xk K rfl) (X7 (Xd Xh (Xd Xh (Xd (Xq F5 Xh Xh) Xg)))) (XE (Xk K rfl) (pv 4) Xh (fun _ _=>rfl)) (fun _ _=>rfl))))
      (Xc (Xo (i:=7) Y4.nd rfl (Or.inl rfl) (Xq X2 (Xq X2 (pv 7) Xh) (pv 9)))
      (Xc (Yv (ZK PySem.F.plainAttrs_list PySem.F.slot_list_append PySem.F.type_list_append X1 (pv 5) (Xd (pv 7) Xg)))
      (Xc (CM hu1 (pv 6) (pv 7) (Xq ZN (Xq YT Xh (XE (Xk K rfl) (pv 4) (Xq X2 (Xq YT Xh (pv 8)) Xh) (fun _ _=>rfl))) Xh) rfl)
      Xf)))))
    (Xc (YI (Xs Qv (XE (Xk K rfl) (pv 4) Xh (fun _ _=>rfl)) Xh (XG _))
      (Xc (Xo (i:=10) Y4.nd rfl (Or.inl rfl) (X9 g_plaited hr (by decide) (Xd (X9 g_mixed hr (by decide) (Xd (pv 5) (Xd (pv 4) Xg))) (Xd (pv 6) (Xd (pv 4) (Xd (Xq X2 Xh (XE (Xk K rfl) (pv 4) Xh (fun _ _=>rfl))) Xg))))))
      Xf)
      (Xc (Xo (i:=11) Y4.nd rfl (Or.inl rfl) (Xu (VG rfl) rfl Z.b_max PyProof.Rows.boot_max (Xd (XE (Xk K rfl) (pv 4) Xh (fun _ _=>rfl)) (Xd (Xu (Co rfl) rfl Z.b_min PyProof.Rows.boot_min (Xd (Xu (Xm K rfl) rfl Z.b_len PySem.boot_len (Xd (pv 5) Xg)) (Xd Xh Xg))) Xg))))
      (Xc (Xo (i:=10) Y4.nd rfl (Or.inl rfl) (X9 g_any hr (by decide) (Xd (pv 5) (Xd (pv 4) (Xd (pv 11) Xg)))))
      Xf)))
    (Xc (XA (QU (Xd (pv 10) (Xd (Zq (sc:=(Xi Qg)) (N0:=["_law_script", "_law_place", "_law_most", "_law_sizes", "_law_some", "_law_names", "_law_signs", "_law_last", "_law_k", "_law_step", "_law_walks", "_law_rings"]) (tns:=["_law_one"]) (caps:=[(6, "_law_signs")]) rfl (XV (K:=K) rfl (pv 5)) (Zx (by decide)) (fun cl C s H ex E=>⟨Xn (i:=0) (show List.Nodup (["_law_one", "_law_signs"] : List Str) by decide +kernel) rfl (Or.inl rfl), Z0, (QU (Xd (pv 0) (Xd (Gf hu1 (pv 1) (pv 0) (fun _ _=>rfl)) Xg)))⟩)) Xg))))
    Xf)))))))), ?_⟩
  refine YJ (S:=(SC.add (SC.add (SC.add SC.nil K (rL Xa) v_0 a_0) K Xa v_1 a_1) K Xa v_2 a_2)) (σ:=[some v_0, some v_1, some v_2, none, none, none, none, none, none, none, none, none]) 3 ?_ (SC.i (SC.i (SC.i SC.t h_0) h_1) h_2) hm q rfl
  unfold QY
  exact (Xy (K:=K) (r:=(rV Xa)) 3 (Ev.sh (ZA (Xt (EvB.sh (XL (Xb (r:=Xa) 2 rfl (fun _ s=>s.r)) (Xe 1))) (Xt (EvB.sh (Xe 5)) (Xt (EvB.sh (Xe 4)) (Xt (EvB.sh (Xe 3)) (Xt (EvB.sh (Xe 3)) Y0))))))) fun a1 v2=>(Xy (K:=K) (r:=(rV Xa)) 4 (Ev.sh (Y3 (Xb (r:=(rL Xa)) 0 rfl (fun _ s=>s.l.l.l.r)) (Xb (r:=Xa) 1 rfl (fun _ s=>s.l.l.r)) (Ev.toB (Ct (EvS.ls (Xl (r:=(rV Xa)) 3 rfl (fun _ s=>s.r))) (Ev.ls (KF (Ev.ls (ZA (Xt (EvB.sh (Xe 80)) (Xt (EvB.sh (Xe 5)) (Xt (EvB.sh (Xe 2)) (Xt (EvB.sh (Xe 3)) Y0)))))) (Yd (Xe 2) (Xb (r:=Xa) 2 rfl (fun _ s=>s.l.r))))))))) fun a16 v17=>(XY (K:=K) (o:=(oL (oF Xa))) 5 2 (QM (o:=(oF Xa))) (Nat.le_of_ble_eq_true rfl) fun a37 v38 C39=>(XY (K:=K) (o:=(oD Xa)) 6 1 (EE (r:=Xa)) (Nat.le_of_ble_eq_true rfl) fun a40 v41 C42=>(Xy (K:=K) (r:=Xa) 7 (EvB.sh (Xe 0)) fun a43 v44=>(Yo (K:=K) (J:=({ oo:=fun x48=>[[], x48.2.2.2.2.2.1, x48.2.2.2.2.2.2], ss:=fun x48=>[some v_0, some v_1, some v_2, some v2, some v17, some x48.2.2.2.2.1, some x48.2.2.2.1, some x48.2.2.1, x48.1, x48.2.1, none, none], sc:=fun g49 x48=>(SC.addO (SC.addO (SC.add (SC.add (SC.add (SC.add (SC.add (SC.add SC.nil K (rL Xa) v_0 a_0) K Xa v_1 a_1) K Xa v_2 a_2) K (rV Xa) v2 a1) K (rV Xa) v17 a16) K Xa x48.2.2.1 g49.1) K (oD Xa) x48.2.2.2.1 g49.2.1 x48.2.2.2.2.2.1) K (oL (oF Xa)) x48.2.2.2.2.1 g49.2.2 x48.2.2.2.2.2.2) } : Jn (Int × (List (Int × Int)) × (List Int)) (Option V × Option V × V × V × V × List XO × List XO))) (fun _=>tg1 8) ((none), (none), v44, v41, v38, C42, C39) (a43, a40, a37) (Xw (Xx (Xb (r:=(rV Xa)) 4 rfl (fun _ s=>s.l.l.l.r)) (Xe 0))) rfl rfl (fun _ s=>(SC.i (SC.i (SC.i (SC.i (SC.i (SC.i (SC.i (SC.i SC.t s.l.l.l.l.l.l.l.r) s.l.l.l.l.l.l.r) s.l.l.l.l.l.r) s.l.l.l.l.r) s.l.l.l.r) s.r) s.l.r) s.l.l.r)) (fun g50 x51 a52 v53=>(Xy (K:=K) (r:=Xa) 9 (EvB.sh (Yd (Xx (Xb (r:=(rV Xa)) 4 rfl (fun _ s=>s.l.l.l.l.r)) (XL (Yd (Xe 8) (Xb (r:=Xa) 8 rfl (fun _ s=>s.r))) (Xe 8))) (Xx (Ev.toB (ZA (Xt (EvB.sh (Xe 0)) (Xt (EvB.sh (Xe 1)) (Xt (EvB.sh (Gv (Xe 10) (Xe 9))) Y0))))) (Xx (Xb (r:=(rV Xa)) 4 rfl (fun _ s=>s.l.l.l.l.r)) (Xe 3))))) fun a54 v55=>(Xy (K:=K) (r:=Xa) 7 (EvB.sh (XL (XL (Xb (r:=Xa) 7 rfl (fun _ s=>s.l.l.l.l.r)) (Xe 1)) (Xb (r:=Xa) 9 rfl (fun _ s=>s.r)))) fun a77 v78=>(ZL (K:=K) (o:=(oF Xa)) (f:=fun a85=>(Rs.bind (Rs.bind (Rs.bind (Rs.ok (2 : Int)) fun x92=>(Rs.bind (Rs.bind (Rs.ok a16) fun x90=>(Rs.bind (Rs.bind (Rs.bind (Rs.ok (8 : Int)) fun x86=>(Rs.bind (Rs.ok a52) fun x87=>(QT x86 x87))) fun x88=>(Rs.bind (Rs.ok (7 : Int)) fun x89=>(Rs.ok (x88 + x89)))) fun x91=>(atR x90 x91))) fun x93=>(QT x92 x93))) fun x94=>(Rs.bind (Rs.ok (1 : Int)) fun x95=>(Rs.ok (x94 - x95)))) fun x96=>(Rs.bind (Rs.ok a77) fun x97=>(chk (g50.2.1.length < sizeLine) ((fun a98=>(Rs.ok (a77, a98, a85))) (K1 g50.2.1 x97 x96)))))) 5 2 rfl rfl rfl (fun _ s=>s.l.l.l.r) (EvS.ev (Xl (r:=Xa) 7 rfl (fun _ s=>s.r))) fun a83 C84=>(EO (K:=K) (r:=Xa) (f:=fun a98=>(Rs.ok (a77, a98, (g50.2.2 ++ [a83])))) 6 1 rfl rfl (fun _ s=>s.l.l.l.l.l.r) (EvB.sh (Y6 (Yd (Xe 2) (Xx (Xb (r:=(rV Xa)) 4 rfl (fun _ s=>s.l.l.l.l.l.l.l.r)) (XL (Yd (Xe 8) (Xb (r:=Xa) 8 rfl (fun _ s=>s.l.l.l.r))) (Xe 7)))) (Xe 1))) (Xb (r:=Xa) 7 rfl (fun _ s=>s.l.r)) fun a98 C99=>(Xv (J:=_) ((some v53), (some v55), v78, x51.2.2.2.1, x51.2.2.2.2.1, C99, C84) (a77, a98, (g50.2.2 ++ [a83])) rfl rfl (fun _ s=>(SC.i (SC.i (SC.i (SC.i (SC.i (SC.i (SC.i (SC.i SC.t s.l.l.l.l.l.l.l.l.l.l.l.l.r) s.l.l.l.l.l.l.l.l.l.l.l.r) s.l.l.l.l.l.l.l.l.l.l.r) s.l.l.l.l.l.l.l.l.l.r) s.l.l.l.l.l.l.l.l.r) s.l.l.r) s.r) s.l.r)))))))) fun g100 x101=>(Zh (J:=({ oo:=fun x107=>[x107.2.2, x101.2.2.2.2.2.1, x101.2.2.2.2.2.2], ss:=fun x107=>[some v_0, some v_1, some v_2, some v2, some v17, some x101.2.2.2.2.1, some x101.2.2.2.1, some x101.2.2.1, x101.1, x101.2.1, some x107.1, x107.2.1], sc:=fun g108 x107=>(SC.addO (SC.addO (SC.addO (SC.add (SC.add (SC.add (SC.add (SC.add (SC.add SC.nil K (rL Xa) v_0 a_0) K Xa v_1 a_1) K Xa v_2 a_2) K (rV Xa) v2 a1) K (rV Xa) v17 a16) K Xa x101.2.2.1 g100.1) K (oD Xa) x101.2.2.2.1 g100.2.1 x101.2.2.2.2.2.1) K (oL (oF Xa)) x101.2.2.2.2.1 g100.2.2 x101.2.2.2.2.2.2) K (oL (oL (oF Xa))) x107.1 g108 x107.2.2) } : Jn ((List (List Int))) (V × Option V × List XO))) (ZS (Fd:=FNd ({ oo:=fun x107=>[x107.2.2, x101.2.2.2.2.2.1, x101.2.2.2.2.2.2], ss:=fun x107=>[some v_0, some v_1, some v_2, some v2, some v17, some x101.2.2.2.2.1, some x101.2.2.2.1, some x101.2.2.1, x101.1, x101.2.1, some x107.1, x107.2.1], sc:=fun g108 x107=>(SC.addO (SC.addO (SC.addO (SC.add (SC.add (SC.add (SC.add (SC.add (SC.add SC.nil K (rL Xa) v_0 a_0) K Xa v_1 a_1) K Xa v_2 a_2) K (rV Xa) v2 a1) K (rV Xa) v17 a16) K Xa x101.2.2.1 g100.1) K (oD Xa) x101.2.2.2.1 g100.2.1 x101.2.2.2.2.2.1) K (oL (oF Xa)) x101.2.2.2.2.1 g100.2.2 x101.2.2.2.2.2.2) K (oL (oL (oF Xa))) x107.1 g108 x107.2.2) } : Jn ((List (List Int))) (V × Option V × List XO))) (Xp (K:=K) (Zv (Xx (Xb (r:=(rV Xa)) 4 rfl (fun _ s=>s.l.l.l.r)) (Xe 2)) (Xe 2))) (XY (K:=K) (o:=(oL (oL (oF Xa)))) 10 0 (B1 (Ev.toB (Ya (Za (o:=(oL (oF Xa))) 5 2 rfl rfl (fun _ s=>s.r)) (Xb (r:=(rV Xa)) 4 rfl (fun _ s=>s.l.l.l.r)))) (Za (o:=(oD Xa)) 6 1 rfl rfl (fun _ s=>s.l.r)) (Xb (r:=(rV Xa)) 4 rfl (fun _ s=>s.l.l.l.r)) (XL (Xe 2) (Xx (Xb (r:=(rV Xa)) 4 rfl (fun _ s=>s.l.l.l.r)) (Xe 4)))) (Nat.le_of_ble_eq_true rfl) fun a109 v110 C111=>(Xv (J:=_) (v110, (none), C111) (a109) rfl rfl (fun _ s=>(SC.i (SC.i (SC.i (SC.i (SC.i (SC.i (SC.i (SC.i (SC.i SC.t s.l.l.l.l.l.l.l.l.r) s.l.l.l.l.l.l.l.r) s.l.l.l.l.l.l.r) s.l.l.l.l.l.r) s.l.l.l.l.r) s.l.l.l.r) s.l.l.r) s.l.r) s.r)))) (Xy (K:=K) (r:=Xa) 11 (EvB.sh (K3 (Xx (Xb (r:=(rV Xa)) 4 rfl (fun _ s=>s.l.l.l.r)) (Xe 1)) (E1 (X0 (Za (o:=(oL (oF Xa))) 5 2 rfl rfl (fun _ s=>s.r))) (Xe 1)))) fun a124 v125=>(XY (K:=K) (o:=(oL (oL (oF Xa)))) 10 0 (Y3 (Za (o:=(oL (oF Xa))) 5 2 rfl rfl (fun _ s=>s.l.r)) (Xb (r:=(rV Xa)) 4 rfl (fun _ s=>s.l.l.l.l.r)) (Xb (r:=Xa) 11 rfl (fun _ s=>s.r))) (Nat.le_of_ble_eq_true rfl) fun a133 v134 C135=>(Xv (J:=_) (v134, (some v125), C135) (a133) rfl rfl (fun _ s=>(SC.i (SC.i (SC.i (SC.i (SC.i (SC.i (SC.i (SC.i (SC.i SC.t s.l.l.l.l.l.l.l.l.l.r) s.l.l.l.l.l.l.l.l.r) s.l.l.l.l.l.l.l.r) s.l.l.l.l.l.l.r) s.l.l.l.l.l.r) s.l.l.l.l.r) s.l.l.l.r) s.l.l.r) s.r)))))) fun g141 x140=>(XB (GH (Ys (o:=(oL (oL (oF Xa)))) 10 0 rfl rfl (fun _ s=>s.r)) fun _=>(HB (K:=K) (o1:=(oL (oF Xa))) 3 rfl (fun _ s=>s.l.r) (Z1 (fun _=>tg1 0) (XH (Xl (r:=(rV Xa)) 5 rfl (fun _ s=>s.r))) (fun C142 a143 v144=>(EvS.ev (Va (Xl (r:=Xa) 0 rfl (fun _ s=>s.r)) (EvB.sh (UL (Za (o:=(oD Xa)) 1 3 rfl rfl (fun _ s=>s.l.l.l.l.r)) (Xb (r:=Xa) 0 rfl (fun _ s=>s.r))))))))))))))))))
theorem EW : FnScope ["_law_drawing"] ["_law_drawing"] (Xi Jc):=⟨rfl, rfl, rfl, by decide +kernel, rfl, by decide +kernel, by decide +kernel⟩
theorem Ho (D : Def K mg "_law_copy" Jc ["_law_drawing"])  (Z : Blt mg) : Fn P w K mg base 1 "_law_copy" ["_law_drawing"] (sp1 (rP2 (rV (rV Xa)) (rV (rP2 Xa Xa))) (oT2 (oL (oL (oF Xa))) (oL (oF (rP2 Xa Xa)))) Vn K):=by
  refine YH D EW (fun vs H Q E h=>?_) (fun f cdv A outer s H vs Q E hr h=>?_)
  . obtain ⟨v_0, a_0, b, rfl, _⟩:=h; rfl
  obtain ⟨v_0, a_0, b, rfl, h_0, hm, q⟩:=h
  have hu:=hu8 hr
  have hu1:=YD hr
  refine ⟨_, (Xc (XA (QU (Xd (Zq (sc:=(Xi Jc)) (N0:=["_law_drawing"]) (tns:=["_law_walk"]) (caps:=[]) rfl (XV (K:=K) rfl (XE (Zi K rfl) (pv 0) Xh (fun _ _=>rfl))) (Zx (by decide)) (fun cl C s H ex E=>⟨Xn (i:=0) (show List.Nodup (["_law_walk"] : List Str) by decide +kernel) rfl (Or.inl rfl), Z0, (Zu (YV K rfl) rfl Z.b_list PyProof.Rows.boot_list (Xd (pv 0) Xg))⟩)) (Xd (Zu (YV K rfl) rfl Z.b_list PyProof.Rows.boot_list (Xd (XE (Zi K rfl) (pv 0) Xh (fun _ _=>rfl)) Xg)) Xg))))
    Xf), ?_⟩
  refine YJ (S:=(SC.add SC.nil K (rP2 (rV (rV Xa)) (rV (rP2 Xa Xa))) v_0 a_0)) (σ:=[some v_0]) 0 ?_ (SC.i SC.t h_0) hm q rfl
  unfold Vn
  exact (XB (GH (Z1 (fun _=>tg1 0) (XH (VB (Xl (r:=(rP2 (rV (rV Xa)) (rV (rP2 Xa Xa)))) 0 rfl (fun _ s=>s.r)))) (fun C2 a3 v4=>(JF (EvS.ls (Xl (r:=(rV Xa)) 0 rfl (fun _ s=>s.r)))))) fun _=>(JF (EvB.ls (Vy (Xb (r:=(rP2 (rV (rV Xa)) (rV (rP2 Xa Xa)))) 0 rfl (fun _ s=>s.r)))))))
theorem K7 : FnScope ["_law_one"] ["_law_one"] (Xi Y8):=⟨rfl, rfl, rfl, by decide +kernel, rfl, by decide +kernel, by decide +kernel⟩
theorem Gn (D : Def K mg "_law_is_whole" Y8 ["_law_one"])  (Z : Blt mg) : Fn P w K mg base 1 "_law_is_whole" ["_law_one"] (sp1 Xa (oF XT) Zo K):=by
  refine YH D K7 (fun vs H Q E h=>?_) (fun f cdv A outer s H vs Q E hr h=>?_)
  . obtain ⟨v_0, a_0, b, rfl, _⟩:=h; rfl
  obtain ⟨v_0, a_0, b, rfl, h_0, hm, q⟩:=h
  have hu:=hu8 hr
  have hu1:=YD hr
  refine ⟨_, (Xc (XA (ID (Xu Z7 rfl Z.b_isinstance PyProof.Rows.boot_isinstance (Xd (pv 0) (Xd (UF (v:=V.ty "int") rfl Z.b_int PyProof.Rows.boot_int rfl) Xg))) (IR (Iy (Xu Z7 rfl Z.b_isinstance PyProof.Rows.boot_isinstance (Xd (pv 0) (Xd (UF (v:=V.ty "bool") rfl Z.b_bool PyProof.Rows.boot_bool rfl) Xg)))))))
    Xf), ?_⟩
  refine YJ (S:=(SC.add SC.nil K Xa v_0 a_0)) (σ:=[some v_0]) 0 ?_ (SC.i SC.t h_0) hm q rfl
  unfold Zo
  exact (XB (EvS.ev (EvB.sh (B7 (QI "int" true (Ux K "int") (Xb (r:=Xa) 0 rfl (fun _ s=>s.r))) (BI (QI "bool" false (Ko K) (Xb (r:=Xa) 0 rfl (fun _ s=>s.r))))))))
theorem JO : FnScope ["_law_found", "_law_one"] ["_law_found"] (Xi YU):=⟨rfl, rfl, rfl, by decide +kernel, rfl, by decide +kernel, by decide +kernel⟩
theorem Kw (D : Def K mg "_law_is_wholes" YU ["_law_found"]) (g_is_whole : Fn P w K mg base 1 "_law_is_whole" ["_law_one"] (sp1 Xa (oF XT) Zo K)) (Z : Blt mg) : Fn P w K mg base 2 "_law_is_wholes" ["_law_found"] (sp1 (rV Xa) (oF XT) Zl K):=by
  refine YH D JO (fun vs H Q E h=>?_) (fun f cdv A outer s H vs Q E hr h=>?_)
  . obtain ⟨v_0, a_0, b, rfl, _⟩:=h; rfl
  obtain ⟨v_0, a_0, b, rfl, h_0, hm, q⟩:=h
  have hu:=hu8 hr
  have hu1:=YD hr
  refine ⟨_, (Xc (YI (QW (QS (Xu Z7 rfl Z.b_isinstance PyProof.Rows.boot_isinstance (Xd (pv 0) (Xd (UF (v:=V.ty "list") rfl Z.b_list PyProof.Rows.boot_list rfl) Xg)))))
      (Xc (XA Qn)
      Xf)
      Xf)
    (Xc (X4 PassesOwn.never rfl (XV (K:=K) rfl (pv 0)) (Xn (i:=1) JO.nd rfl (Or.inl rfl))
      (Xc (YI (QW (QS (X9 g_is_whole hr (by decide) (Xd (pv 1) Xg))))
        (Xc (XA Qn)
        Xf)
        Xf)
      Xf))
    (Xc (XA Qn)
    Xf))), ?_⟩
  refine YJ (S:=(SC.add SC.nil K (rV Xa) v_0 a_0)) (σ:=[some v_0, none]) 0 ?_ (SC.i SC.t h_0) hm q rfl
  unfold Zl
  exact (Qi (ZY (J1 (K:=K) (QI "list" true (Ux K "list") (Xb (r:=(rV Xa)) 0 rfl (fun _ s=>s.r))))) (XB (EvS.ev (EvB.sh (Zf false)))) (Q9 (K:=K) (J:=({ oo:=fun x4=>[], ss:=fun x4=>[some v_0, x4], sc:=fun g5 x4=>(SC.add SC.nil K (rV Xa) v_0 a_0) } : Jn (Unit) (Option V))) (fun _=>tg1 1) ((none)) () (XH (Xl (r:=(rV Xa)) 0 rfl (fun _ s=>s.r))) rfl rfl (fun _ s=>(SC.i SC.t s.r)) (fun g6 x7 a8 v9=>(ZZ (ZY (J1 (K:=K) (Ev.toB (Yl (Xb (r:=Xa) 1 rfl (fun _ s=>s.r)))))) (XB (EvS.ev (EvB.sh (Zf false)))) (QB (Xv (J:=_) ((some v9)) () rfl rfl (fun _ s=>(SC.i SC.t s.l.r)))))) fun g16 x17=>(XB (EvS.ev (EvB.sh (Zf true))))))
theorem Ua : FnScope ["_law_way", "_law_size", "_law_factor", "_law_a", "_law_b", "_law_half"] ["_law_way", "_law_size", "_law_factor", "_law_a", "_law_b"] (Xi Zw):=⟨rfl, rfl, rfl, by decide +kernel, rfl, by decide +kernel, by decide +kernel⟩
theorem Fu (D : Def K mg "_law_cell_of" Zw ["_law_way", "_law_size", "_law_factor", "_law_a", "_law_b"])  (Z : Blt mg) : Fn P w K mg base 1 "_law_cell_of" ["_law_way", "_law_size", "_law_factor", "_law_a", "_law_b"] (sp5 Xa Xa Xa Xa Xa (oF Xa) ZI K):=by
  refine YH D Ua (fun vs H Q E h=>?_) (fun f cdv A outer s H vs Q E hr h=>?_)
  . obtain ⟨v_0, v_1, v_2, v_3, v_4, a_0, a_1, a_2, a_3, a_4, b, rfl, _⟩:=h; rfl
  obtain ⟨v_0, v_1, v_2, v_3, v_4, a_0, a_1, a_2, a_3, a_4, b, rfl, h_0, h_1, h_2, h_3, h_4, hm, q⟩:=h
  have hu:=hu8 hr
  have hu1:=YD hr
  refine ⟨_, (Xc (Xo (i:=5) Ua.nd rfl (Or.inl rfl) (Xq Ul (pv 1) Xh))
    (Xc (YI (Xs Ql (pv 0) Xh (XG _))
      (Xc (XA (Xq Yq (Xq ZN (Xq YT Xh (pv 4)) (pv 3)) (pv 1)))
      Xf)
      Xf)
    (Xc (YI (Xs Ql (pv 0) Xh (XG _))
      (Xc (XA (Xq Yq (Xq X2 (Xq YT (pv 2) (pv 3)) (Xq YT (Xq ZN Xh (pv 2)) (pv 4))) (pv 1)))
      Xf)
      Xf)
    (Xc (YI (PW.pt (ZW (Xs Ql (pv 0) Xh (XG _)) (ZW (Xs Gc (pv 1) Xh (XG _)) (ZW (Xs Qv (pv 3) Xh (XG _)) (Z6 (Xs Ql (pv 4) (Xq ZN (pv 1) Xh) (XG _)))))))
      (Xc (XA (Xq ZN Xh (pv 3)))
      Xf)
      Xf)
    (Xc (YI (PW.pt (ZW (Xs Ql (pv 0) Xh (XG _)) (ZW (Xs Qv (pv 3) (Xq ZN (pv 1) Xh) (XG _)) (Z6 (Xs Ql (pv 4) (Xq ZN (pv 1) Xh) (XG _))))))
      (Xc (XA (Xq Yq (Xq X2 (pv 3) Xh) (Xq ZN (pv 1) Xh)))
      Xf)
      Xf)
    (Xc (YI (PW.pt (ZW (Xs Ql (pv 0) Xh (XG _)) (ZW (Xs Qv (pv 3) (pv 5) (XG _)) (Z6 (Xs Qv (pv 4) (pv 5) (XG _))))))
      (Xc (XA (Xq Yq (Xq ZN (Xq YT Xh (pv 4)) (pv 3)) (pv 5)))
      Xf)
      Xf)
    (Xc (YI (PW.pt (ZW (Xs Ql (pv 0) Xh (XG _)) (ZW (Xs EA (pv 3) (pv 5) (XG _)) (Z6 (Xs EA (pv 4) (pv 5) (XG _))))))
      (Xc (XA (Xq X2 (pv 5) (Xq Yq (Xq ZN (Xq ZN (Xq YT Xh (pv 4)) (pv 3)) (pv 5)) (Xq ZN (pv 1) (pv 5)))))
      Xf)
      Xf)
    (Xc (XA (pv 3))
    Xf)))))))), ?_⟩
  refine YJ (S:=(SC.add (SC.add (SC.add (SC.add (SC.add SC.nil K Xa v_0 a_0) K Xa v_1 a_1) K Xa v_2 a_2) K Xa v_3 a_3) K Xa v_4 a_4)) (σ:=[some v_0, some v_1, some v_2, some v_3, some v_4, none]) 0 ?_ (SC.i (SC.i (SC.i (SC.i (SC.i SC.t h_0) h_1) h_2) h_3) h_4) hm q rfl
  unfold ZI
  exact (Xy (K:=K) (r:=Xa) 5 (EvB.sh (KU (Xb (r:=Xa) 1 rfl (fun _ s=>s.l.l.l.r)) (Xe 2))) fun a1 v2=>(Qi (Xp (K:=K) (Zg (Xb (r:=Xa) 0 rfl (fun _ s=>s.l.l.l.l.l.r)) (Xe 1))) (XB (EvS.ev (EvB.sh (X3 (Y6 (Yd (Xe 2) (Xb (r:=Xa) 4 rfl (fun _ s=>s.l.r))) (Xb (r:=Xa) 3 rfl (fun _ s=>s.l.l.r))) (Xb (r:=Xa) 1 rfl (fun _ s=>s.l.l.l.l.r)))))) (Qi (Xp (K:=K) (Zg (Xb (r:=Xa) 0 rfl (fun _ s=>s.l.l.l.l.l.r)) (Xe 2))) (XB (EvS.ev (EvB.sh (X3 (XL (Yd (Xb (r:=Xa) 2 rfl (fun _ s=>s.l.l.l.r)) (Xb (r:=Xa) 3 rfl (fun _ s=>s.l.l.r))) (Yd (Y6 (Xe 1) (Xb (r:=Xa) 2 rfl (fun _ s=>s.l.l.l.r))) (Xb (r:=Xa) 4 rfl (fun _ s=>s.l.r)))) (Xb (r:=Xa) 1 rfl (fun _ s=>s.l.l.l.l.r)))))) (Qi (Zb (Xp (K:=K) (Zg (Xb (r:=Xa) 0 rfl (fun _ s=>s.l.l.l.l.l.r)) (Xe 3))) (Zb (Xp (K:=K) (VU (Xb (r:=Xa) 1 rfl (fun _ s=>s.l.l.l.l.r)) (Xe 2))) (Zb (Xp (K:=K) (Zv (Xb (r:=Xa) 3 rfl (fun _ s=>s.l.l.r)) (Xe 2))) (Xp (K:=K) (Zg (Xb (r:=Xa) 4 rfl (fun _ s=>s.l.r)) (Y6 (Xb (r:=Xa) 1 rfl (fun _ s=>s.l.l.l.l.r)) (Xe 1))))))) (XB (EvS.ev (EvB.sh (Y6 (Xe 1) (Xb (r:=Xa) 3 rfl (fun _ s=>s.l.l.r)))))) (Qi (Zb (Xp (K:=K) (Zg (Xb (r:=Xa) 0 rfl (fun _ s=>s.l.l.l.l.l.r)) (Xe 6))) (Zb (Xp (K:=K) (Zv (Xb (r:=Xa) 3 rfl (fun _ s=>s.l.l.r)) (Y6 (Xb (r:=Xa) 1 rfl (fun _ s=>s.l.l.l.l.r)) (Xe 1)))) (Xp (K:=K) (Zg (Xb (r:=Xa) 4 rfl (fun _ s=>s.l.r)) (Y6 (Xb (r:=Xa) 1 rfl (fun _ s=>s.l.l.l.l.r)) (Xe 1)))))) (XB (EvS.ev (EvB.sh (X3 (XL (Xb (r:=Xa) 3 rfl (fun _ s=>s.l.l.r)) (Xe 1)) (Y6 (Xb (r:=Xa) 1 rfl (fun _ s=>s.l.l.l.l.r)) (Xe 1)))))) (Qi (Zb (Xp (K:=K) (Zg (Xb (r:=Xa) 0 rfl (fun _ s=>s.l.l.l.l.l.r)) (Xe 4))) (Zb (Xp (K:=K) (Zv (Xb (r:=Xa) 3 rfl (fun _ s=>s.l.l.r)) (Xb (r:=Xa) 5 rfl (fun _ s=>s.r)))) (Xp (K:=K) (Zv (Xb (r:=Xa) 4 rfl (fun _ s=>s.l.r)) (Xb (r:=Xa) 5 rfl (fun _ s=>s.r)))))) (XB (EvS.ev (EvB.sh (X3 (Y6 (Yd (Xe 2) (Xb (r:=Xa) 4 rfl (fun _ s=>s.l.r))) (Xb (r:=Xa) 3 rfl (fun _ s=>s.l.l.r))) (Xb (r:=Xa) 5 rfl (fun _ s=>s.r)))))) (Qi (Zb (Xp (K:=K) (Zg (Xb (r:=Xa) 0 rfl (fun _ s=>s.l.l.l.l.l.r)) (Xe 4))) (Zb (Xp (K:=K) (Do (Xb (r:=Xa) 3 rfl (fun _ s=>s.l.l.r)) (Xb (r:=Xa) 5 rfl (fun _ s=>s.r)))) (Xp (K:=K) (Do (Xb (r:=Xa) 4 rfl (fun _ s=>s.l.r)) (Xb (r:=Xa) 5 rfl (fun _ s=>s.r)))))) (XB (EvS.ev (EvB.sh (XL (Xb (r:=Xa) 5 rfl (fun _ s=>s.r)) (X3 (Y6 (Y6 (Yd (Xe 2) (Xb (r:=Xa) 4 rfl (fun _ s=>s.l.r))) (Xb (r:=Xa) 3 rfl (fun _ s=>s.l.l.r))) (Xb (r:=Xa) 5 rfl (fun _ s=>s.r))) (Y6 (Xb (r:=Xa) 1 rfl (fun _ s=>s.l.l.l.l.r)) (Xb (r:=Xa) 5 rfl (fun _ s=>s.r)))))))) (XB (EvS.ev (Xl (r:=Xa) 3 rfl (fun _ s=>s.l.l.r)))))))))))
theorem Vx : FnScope ["_law_one", "_law_other"] ["_law_one", "_law_other"] (Xi ZU):=⟨rfl, rfl, rfl, by decide +kernel, rfl, by decide +kernel, by decide +kernel⟩
theorem Dt (D : Def K mg "_law_common" ZU ["_law_one", "_law_other"])  (Z : Blt mg) : Fn P w K mg base 1 "_law_common" ["_law_one", "_law_other"] (sp2 Xa Xa (oF Xa) QF K):=by
  refine YH D Vx (fun vs H Q E h=>?_) (fun f cdv A outer s H vs Q E hr h=>?_)
  . obtain ⟨v_0, v_1, a_0, a_1, b, rfl, _⟩:=h; rfl
  obtain ⟨v_0, v_1, a_0, a_1, b, rfl, h_0, h_1, hm, q⟩:=h
  have hu:=hu8 hr
  have hu1:=YD hr
  refine ⟨_, (Xc (GP (i:=0) (j:=1) rfl Vx.nd rfl rfl (by decide) rfl rfl (Xd (Xu GL rfl Z.b_abs PyProof.Rows.boot_abs (Xd (pv 0) Xg)) (Xd (Xu GL rfl Z.b_abs PyProof.Rows.boot_abs (Xd (pv 1) Xg)) Xg)) rfl)
    (Xc (Vd PassesOwn.never (Xs Gc (pv 1) Xh (XG _))
      (Xc (GP (i:=0) (j:=1) rfl Vx.nd rfl rfl (by decide) rfl rfl (Xd (pv 1) (Xd (Xq Yq (pv 0) (pv 1)) Xg)) rfl)
      Xf))
    (Xc (XA (pv 0))
    Xf))), ?_⟩
  refine YJ (S:=(SC.add (SC.add SC.nil K Xa v_0 a_0) K Xa v_1 a_1)) (σ:=[some v_0, some v_1]) 0 ?_ (SC.i (SC.i SC.t h_0) h_1) hm q rfl
  unfold QF
  exact (G4 (K:=K) 0 1 (EvB.sh (Dp (Xb (r:=Xa) 0 rfl (fun _ s=>s.l.r)))) (EvB.sh (Dp (Xb (r:=Xa) 1 rfl (fun _ s=>s.r)))) fun a3 a4 v5 v6=>(Vc (J:=({ oo:=fun x7=>[], ss:=fun x7=>[some x7.1, some x7.2], sc:=fun g8 x7=>(SC.add (SC.add SC.nil K Xa x7.1 g8.1) K Xa x7.2 g8.2) } : Jn (Int × Int) (V × V))) (a3.natAbs + a4.natAbs + 2) (v5, v6) (a3, a4) rfl rfl (fun _ s=>(SC.i (SC.i SC.t s.l.r) s.r)) (fun g9 x10=>(Xp (K:=K) (VU (Xb (r:=Xa) 1 rfl (fun _ s=>s.r)) (Xe 0)))) (fun g9 x10=>(G4 (K:=K) 0 1 (Xl (r:=Xa) 1 rfl (fun _ s=>s.r)) (EvB.sh (X3 (Xb (r:=Xa) 0 rfl (fun _ s=>s.l.r)) (Xb (r:=Xa) 1 rfl (fun _ s=>s.r)))) fun a15 a16 v17 v18=>(Xv (J:=_) (v17, v18) (a15, a16) rfl rfl (fun _ s=>(SC.i (SC.i SC.t s.l.r) s.r))))) fun g19 x20=>(XB (EvS.ev (Xl (r:=Xa) 0 rfl (fun _ s=>s.l.r))))))
theorem UJ : FnScope ["_law_way", "_law_size", "_law_factor", "_law_some", "_law_a"] ["_law_way", "_law_size", "_law_factor"] (Xi Je):=⟨rfl, rfl, rfl, by decide +kernel, rfl, by decide +kernel, by decide +kernel⟩
theorem E6 (D : Def K mg "_law_made" Je ["_law_way", "_law_size", "_law_factor"]) (g_common : Fn P w K mg base 1 "_law_common" ["_law_one", "_law_other"] (sp2 Xa Xa (oF Xa) QF K)) (g_cell_of : Fn P w K mg base 1 "_law_cell_of" ["_law_way", "_law_size", "_law_factor", "_law_a", "_law_b"] (sp5 Xa Xa Xa Xa Xa (oF Xa) ZI K)) (Z : Blt mg) : Fn P w K mg base 2 "_law_made" ["_law_way", "_law_size", "_law_factor"] (sp3 Xa Xa Xa (oL (oL (oF Xa))) V7 K):=by
  refine YH D UJ (fun vs H Q E h=>?_) (fun f cdv A outer s H vs Q E hr h=>?_)
  . obtain ⟨v_0, v_1, v_2, a_0, a_1, a_2, b, rfl, _⟩:=h; rfl
  obtain ⟨v_0, v_1, v_2, a_0, a_1, a_2, b, rfl, h_0, h_1, h_2, hm, q⟩:=h
  have hu:=hu8 hr
  have hu1:=YD hr
  refine ⟨_, (Xc (YI (PW.pt (ZW (Xs Ql (pv 0) Xh (XG _)) (Z6 (Xs Ql (pv 1) Xh (XG _)))))
      (@Xc _ _ _ _ _ (@XA _ _ _ _ (@KC _))
      Xf)
      Xf)
    (Xc (Vd PassesOwn.never (Xs Bj (X9 g_common hr (by decide) (Xd (pv 2) (Xd (pv 1) Xg))) Xh (XG _))
      (Xc (Xo (i:=2) UJ.nd rfl (Or.inr rfl) (Xq X2 (pv 2) Xh))
      Xf))
    (Xc (Xo (i:=3) UJ.nd rfl (Or.inl rfl) (X7 Xg))
    (Xc (X4 PassesOwn.never rfl (XM rfl Z.b_range (Xd (pv 1) Xg)) (Xn (i:=4) UJ.nd rfl (Or.inr rfl))
      (Xc (Yv (ZK PySem.F.plainAttrs_list PySem.F.slot_list_append PySem.F.type_list_append X1 (pv 3) (Xd (Zq (sc:=(Xi Je)) (N0:=["_law_way", "_law_size", "_law_factor", "_law_some", "_law_a"]) (tns:=["_law_b"]) (caps:=[(0, "_law_way"), (1, "_law_size"), (2, "_law_factor"), (4, "_law_a")]) rfl (XM rfl Z.b_range (Xd (pv 1) Xg)) (Zx (by decide)) (fun cl C s H ex E=>⟨Xn (i:=0) (show List.Nodup (["_law_b", "_law_way", "_law_size", "_law_factor", "_law_a"] : List Str) by decide +kernel) rfl (Or.inl rfl), Z0, (X9 g_cell_of hr (by decide) (Xd (pv 1) (Xd (pv 2) (Xd (pv 3) (Xd (pv 4) (Xd (pv 0) Xg))))))⟩)) Xg)))
      Xf))
    (Xc (XA (pv 3))
    Xf))))), ?_⟩
  refine YJ (S:=(SC.add (SC.add (SC.add SC.nil K Xa v_0 a_0) K Xa v_1 a_1) K Xa v_2 a_2)) (σ:=[some v_0, some v_1, some v_2, none, none]) 1 ?_ (SC.i (SC.i (SC.i SC.t h_0) h_1) h_2) hm q rfl
  unfold V7
  exact (Qi (Zb (Xp (K:=K) (Zg (Xb (r:=Xa) 0 rfl (fun _ s=>s.l.l.r)) (Xe 5))) (Xp (K:=K) (Zg (Xb (r:=Xa) 1 rfl (fun _ s=>s.l.r)) (Xe 4)))) (XB (CJ (QA (ZA (Xt (EvB.sh (Xe 0)) (Xt (EvB.sh (Xe 3)) (Xt (EvB.sh (Xe 1)) (Xt (EvB.sh (Xe 2)) Y0))))) fun _=>(QA (ZA (Xt (EvB.sh (Xe 2)) (Xt (EvB.sh (Xe 1)) (Xt (EvB.sh (Xe 3)) (Xt (EvB.sh (Xe 0)) Y0))))) fun _=>(QA (ZA (Xt (EvB.sh (Xe 3)) (Xt (EvB.sh (Xe 0)) (Xt (EvB.sh (Xe 2)) (Xt (EvB.sh (Xe 1)) Y0))))) fun _=>(QA (ZA (Xt (EvB.sh (Xe 1)) (Xt (EvB.sh (Xe 2)) (Xt (EvB.sh (Xe 0)) (Xt (EvB.sh (Xe 3)) Y0))))) fun _=>GQ)))))) (Vc (J:=({ oo:=fun x51=>[[]], ss:=fun x51=>[some v_0, some v_1, some x51, none, none], sc:=fun g52 x51=>(SC.add (SC.add (SC.add SC.nil K Xa v_0 a_0) K Xa v_1 a_1) K Xa x51 g52) } : Jn (Int) (V))) (a_1.natAbs + 2) (v_2) (a_2) rfl rfl (fun _ s=>(SC.i (SC.i (SC.i SC.t s.l.l.r) s.l.r) s.r)) (fun g53 x54=>(Xp (K:=K) (GI (Ev.toB (Ya (Xb (r:=Xa) 2 rfl (fun _ s=>s.r)) (Xb (r:=Xa) 1 rfl (fun _ s=>s.l.r)))) (Xe 1)))) (fun g53 x54=>(Xy (K:=K) (r:=Xa) 2 (EvB.sh (XL (Xb (r:=Xa) 2 rfl (fun _ s=>s.r)) (Xe 1))) fun a60 v61=>(Xv (J:=_) (v61) (a60) rfl rfl (fun _ s=>(SC.i (SC.i (SC.i SC.t s.l.l.l.r) s.l.l.r) s.r))))) fun g64 x65=>(XY (K:=K) (o:=(oL (oL (oF Xa)))) 3 0 (QM (o:=(oL (oF Xa)))) (Nat.le_of_ble_eq_true rfl) fun a66 v67 C68=>(Yo (K:=K) (J:=({ oo:=fun x70=>[x70.2.2], ss:=fun x70=>[some v_0, some v_1, some x65, some x70.2.1, x70.1], sc:=fun g71 x70=>(SC.addO (SC.add (SC.add (SC.add SC.nil K Xa v_0 a_0) K Xa v_1 a_1) K Xa x65 g64) K (oL (oL (oF Xa))) x70.2.1 g71 x70.2.2) } : Jn ((List (List Int))) (Option V × V × List XO))) (fun _=>tg1 4) ((none), v67, C68) (a66) (Xw (Xb (r:=Xa) 1 rfl (fun _ s=>s.l.l.r))) rfl rfl (fun _ s=>(SC.i (SC.i (SC.i (SC.i SC.t s.l.l.l.r) s.l.l.r) s.l.r) s.r)) (fun g72 x73 a74 v75=>(ZL (K:=K) (o:=(oL (oF Xa))) (f:=fun a89=>(Rs.ok (a89))) 3 0 rfl rfl rfl (fun _ s=>s.l.r) (Z1 (fun _=>tg1 0) (Xw (Xb (r:=Xa) 1 rfl (fun _ s=>s.l.l.l.r))) (fun C77 a78 v79=>(BD (Xb (r:=Xa) 1 rfl (fun _ s=>s.l.l.l.l.l.r)) (Xb (r:=Xa) 2 rfl (fun _ s=>s.l.l.l.l.r)) (Xb (r:=Xa) 3 rfl (fun _ s=>s.l.l.l.r)) (Xb (r:=Xa) 4 rfl (fun _ s=>s.l.r)) (Xb (r:=Xa) 0 rfl (fun _ s=>s.r))))) fun a87 C88=>(Xv (J:=_) ((some v75), x73.2.1, C88) ((g72 ++ [a87])) rfl rfl (fun _ s=>(SC.i (SC.i (SC.i (SC.i SC.t s.l.l.l.l.l.r) s.l.l.l.l.r) s.l.l.l.r) s.r))))) fun g90 x91=>(XB (Ys (o:=(oL (oL (oF Xa)))) 3 0 rfl rfl (fun _ s=>s.r)))))))
theorem QH : FnScope ["_law_some", "_law_count_here", "_law_left", "_law_found", "_law_k"] ["_law_some", "_law_count_here"] (Xi Zs):=⟨rfl, rfl, rfl, by decide +kernel, rfl, by decide +kernel, by decide +kernel⟩
theorem FG (D : Def K mg "_law_ordered" Zs ["_law_some", "_law_count_here"])  (Z : Blt mg) : Fn P w K mg base 1 "_law_ordered" ["_law_some", "_law_count_here"] (sp2 (rV Xa) Xa (oL (oF Xa)) Z3 K):=by
  refine YH D QH (fun vs H Q E h=>?_) (fun f cdv A outer s H vs Q E hr h=>?_)
  . obtain ⟨v_0, v_1, a_0, a_1, b, rfl, _⟩:=h; rfl
  obtain ⟨v_0, v_1, a_0, a_1, b, rfl, h_0, h_1, hm, q⟩:=h
  have hu:=hu8 hr
  have hu1:=YD hr
  refine ⟨_, (Xc (Xo (i:=2) QH.nd rfl (Or.inl rfl) (Kz rfl rfl rfl Z.b_list Z.b_range (Xd (pv 1) Xg)))
    (Xc (Xo (i:=3) QH.nd rfl (Or.inl rfl) (X7 Xg))
    (Xc (X4 PassesOwn.never rfl (XM rfl Z.b_range (Xd (pv 1) Xg)) (Xn (i:=4) QH.nd rfl (Or.inl rfl))
      (Xc (Yv (ZK PySem.F.plainAttrs_list PySem.F.slot_list_append PySem.F.type_list_append X1 (pv 3) (Xd (ZK PySem.F.plainAttrs_list PySem.F.slot_list_pop PySem.F.type_list_pop Uw (pv 2) (Xd (Xq Yq (XE (Xk K rfl) (pv 0) (pv 4) (fun _ _=>rfl)) (Xu (Xm K rfl) rfl Z.b_len PySem.boot_len (Xd (pv 2) Xg))) Xg)) Xg)))
      Xf))
    (Xc (XA (pv 3))
    Xf)))), ?_⟩
  refine YJ (S:=(SC.add (SC.add SC.nil K (rV Xa) v_0 a_0) K Xa v_1 a_1)) (σ:=[some v_0, some v_1, none, none, none]) 2 ?_ (SC.i (SC.i SC.t h_0) h_1) hm q rfl
  unfold Z3
  exact (XY (K:=K) (o:=(oL (oF Xa))) 2 1 (Kf (Xb (r:=Xa) 1 rfl (fun _ s=>s.r))) (Nat.le_of_ble_eq_true rfl) fun a1 v2 C3=>(XY (K:=K) (o:=(oL (oF Xa))) 3 0 (QM (o:=(oF Xa))) (Nat.le_of_ble_eq_true rfl) fun a5 v6 C7=>(Yo (K:=K) (J:=({ oo:=fun x9=>[x9.2.2.2.1, x9.2.2.2.2], ss:=fun x9=>[some v_0, some v_1, some x9.2.2.1, some x9.2.1, x9.1], sc:=fun g10 x9=>(SC.addO (SC.addO (SC.add (SC.add SC.nil K (rV Xa) v_0 a_0) K Xa v_1 a_1) K (oL (oF Xa)) x9.2.1 g10.1 x9.2.2.2.1) K (oL (oF Xa)) x9.2.2.1 g10.2 x9.2.2.2.2) } : Jn ((List Int) × (List Int)) (Option V × V × V × List XO × List XO))) (fun _=>tg1 4) ((none), v6, v2, C7, C3) (a5, a1) (Xw (Xb (r:=Xa) 1 rfl (fun _ s=>s.l.l.r))) rfl rfl (fun _ s=>(SC.i (SC.i (SC.i (SC.i SC.t s.l.l.l.r) s.l.l.r) s.r) s.l.r)) (fun g11 x12 a13 v14=>(GA (K:=K) (r:=Xa) (f:=fun a21 a22=>(Rs.ok (a22, a21))) 2 1 3 0 (by decide) rfl rfl (fun _ s=>s.l.r) rfl rfl (fun _ s=>s.l.l.r) (X3 (Xx (Xb (r:=(rV Xa)) 0 rfl (fun _ s=>s.l.l.l.l.r)) (Xb (r:=Xa) 4 rfl (fun _ s=>s.r))) (X0 (Za (o:=(oL (oF Xa))) 2 1 rfl rfl (fun _ s=>s.l.r)))) fun a20 a21 C23 C24=>(Xv (J:=_) ((some v14), x12.2.1, x12.2.2.1, C24, C23) ((g11.1 ++ [a20]), a21) rfl rfl (fun _ s=>(SC.i (SC.i (SC.i (SC.i SC.t s.l.l.l.l.l.l.r) s.l.l.l.l.l.r) s.r) s.l.r))))) fun g27 x28=>(XB (Ys (o:=(oL (oF Xa))) 3 0 rfl rfl (fun _ s=>s.l.r))))))
theorem Ja : FnScope ["_law_some", "_law_spots", "_law_found", "_law_a", "_law_b"] ["_law_some", "_law_spots"] (Xi ZC):=⟨rfl, rfl, rfl, by decide +kernel, rfl, by decide +kernel, by decide +kernel⟩
theorem Cn (D : Def K mg "_law_relaid" ZC ["_law_some", "_law_spots"])  (Z : Blt mg) : Fn P w K mg base 1 "_law_relaid" ["_law_some", "_law_spots"] (sp2 (rV (rV Xa)) (rV Xa) (oL (oL (oF Xa))) QJ K):=by
  refine YH D Ja (fun vs H Q E h=>?_) (fun f cdv A outer s H vs Q E hr h=>?_)
  . obtain ⟨v_0, v_1, a_0, a_1, b, rfl, _⟩:=h; rfl
  obtain ⟨v_0, v_1, a_0, a_1, b, rfl, h_0, h_1, hm, q⟩:=h
  have hu:=hu8 hr
  have hu1:=YD hr
  refine ⟨_, (Xc (Gm 2 (Xi ZC) ["_law_some", "_law_spots", "_law_found", "_law_a", "_law_b"] ["_law_line"] [] rfl Ja.nd rfl rfl (XV (K:=K) rfl (pv 0)) (Zx (by decide)) (fun cl C s H ex E=>⟨Xn (i:=0) (show List.Nodup (["_law_line"] : List Str) by decide +kernel) rfl (Or.inl rfl), Z0, (Zu (YV K rfl) rfl Z.b_list PyProof.Rows.boot_list (Xd (pv 0) Xg))⟩))
    (Xc (X4 PassesOwn.never rfl (XM rfl Z.b_range (Xd (Xu (Xm K rfl) rfl Z.b_len PySem.boot_len (Xd (pv 0) Xg)) Xg)) (Xn (i:=3) Ja.nd rfl (Or.inl rfl))
      (Xc (X4 PassesOwn.never rfl (XM rfl Z.b_range (Xd (Xu (Xm K rfl) rfl Z.b_len PySem.boot_len (Xd (pv 0) Xg)) Xg)) (Xn (i:=4) Ja.nd rfl (Or.inl rfl))
        (Xc (V8 (XE (Xk K rfl) (pv 1) (XE (Xk K rfl) (XE (Xk K rfl) (pv 0) (pv 3) (fun _ _=>rfl)) (pv 4) (fun _ _=>rfl)) (fun _ _=>rfl)) (CI (XE (Xk K rfl) (pv 2) (XE (Xk K rfl) (pv 1) (pv 3) (fun _ _=>rfl)) (fun _ _=>rfl)) (XE (Xk K rfl) (pv 1) (pv 4) (fun _ _=>rfl)) UB))
        Xf))
      Xf))
    (Xc (XA (pv 2))
    Xf))), ?_⟩
  refine YJ (S:=(SC.add (SC.add SC.nil K (rV (rV Xa)) v_0 a_0) K (rV Xa) v_1 a_1)) (σ:=[some v_0, some v_1, none, none, none]) 1 ?_ (SC.i (SC.i SC.t h_0) h_1) hm q rfl
  unfold QJ
  exact (XY (K:=K) (o:=(oL (oL (oF Xa)))) 2 0 (Z1 (fun _=>tg1 0) (XH (Xl (r:=(rV (rV Xa))) 0 rfl (fun _ s=>s.l.r))) (fun C4 a5 v6=>(JF (EvS.ls (Xl (r:=(rV Xa)) 0 rfl (fun _ s=>s.r)))))) (Nat.le_of_ble_eq_true rfl) fun a1 v2 C3=>(Yo (K:=K) (J:=({ oo:=fun x11=>[x11.2.2.2], ss:=fun x11=>[some v_0, some v_1, some x11.2.2.1, x11.1, x11.2.1], sc:=fun g12 x11=>(SC.addO (SC.add (SC.add SC.nil K (rV (rV Xa)) v_0 a_0) K (rV Xa) v_1 a_1) K (oL (oL (oF Xa))) x11.2.2.1 g12 x11.2.2.2) } : Jn ((List (List Int))) (Option V × Option V × V × List XO))) (fun _=>tg1 3) ((none), (none), v2, C3) (a1) (Xw (X0 (Xb (r:=(rV (rV Xa))) 0 rfl (fun _ s=>s.l.l.r)))) rfl rfl (fun _ s=>(SC.i (SC.i (SC.i SC.t s.l.l.r) s.l.r) s.r)) (fun g13 x14 a15 v16=>(Yo (K:=K) (J:=({ oo:=fun x19=>[x19.2.2], ss:=fun x19=>[some v_0, some v_1, some x19.2.1, some v16, x19.1], sc:=fun g20 x19=>(SC.addO (SC.add (SC.add (SC.add SC.nil K (rV (rV Xa)) v_0 a_0) K (rV Xa) v_1 a_1) K Xa v16 a15) K (oL (oL (oF Xa))) x19.2.1 g20 x19.2.2) } : Jn ((List (List Int))) (Option V × V × List XO))) (fun _=>tg1 4) ((x14.2.1), x14.2.2.1, x14.2.2.2) (g13) (Xw (X0 (Xb (r:=(rV (rV Xa))) 0 rfl (fun _ s=>s.l.l.l.r)))) rfl rfl (fun _ s=>(SC.i (SC.i (SC.i (SC.i SC.t s.l.l.l.r) s.l.l.r) s.r) s.l.r)) (fun g21 x22 a23 v24=>(CH (K:=K) (r:=Xa) 2 0 rfl rfl (fun _ s=>s.l.r) (EvB.sh (Xx (Xb (r:=(rV Xa)) 1 rfl (fun _ s=>s.l.l.l.r)) (Xx (Xx (Xb (r:=(rV (rV Xa))) 0 rfl (fun _ s=>s.l.l.l.l.r)) (Xb (r:=Xa) 3 rfl (fun _ s=>s.l.l.r))) (Xb (r:=Xa) 4 rfl (fun _ s=>s.r))))) (Xx (Xb (r:=(rV Xa)) 1 rfl (fun _ s=>s.l.l.l.r)) (Xb (r:=Xa) 3 rfl (fun _ s=>s.l.l.r))) (Xx (Xb (r:=(rV Xa)) 1 rfl (fun _ s=>s.l.l.l.r)) (Xb (r:=Xa) 4 rfl (fun _ s=>s.r))) fun a38 C39=>(Xv (J:=_) ((some v24), x22.2.1, C39) (a38) rfl rfl (fun _ s=>(SC.i (SC.i (SC.i (SC.i SC.t s.l.l.l.l.l.r) s.l.l.l.l.r) s.l.l.l.r) s.r))))) fun g42 x43=>(Xv (J:=_) ((some v16), (x43.1), x43.2.1, x43.2.2) (g42) rfl rfl (fun _ s=>(SC.i (SC.i (SC.i SC.t s.l.l.l.r) s.l.l.r) s.r))))) fun g45 x46=>(XB (Ys (o:=(oL (oL (oF Xa)))) 2 0 rfl rfl (fun _ s=>s.r)))))
theorem Zc : FnScope ["_law_script", "_law_place", "_law_most", "_law_some", "_law_size", "_law_found"] ["_law_script", "_law_place", "_law_most"] (Xi Yx):=⟨rfl, rfl, rfl, by decide +kernel, rfl, by decide +kernel, by decide +kernel⟩
theorem Ur (D : Def K mg "_law_good_table" Yx ["_law_script", "_law_place", "_law_most"]) (g_row : Fn P w K mg base 2 "_law_row" ["_law_script", "_law_place", "_law_sizes"] (sp3 (rL Xa) Xa (rV Xa) (oL (oF Xa)) V1 K)) (g_made : Fn P w K mg base 2 "_law_made" ["_law_way", "_law_size", "_law_factor"] (sp3 Xa Xa Xa (oL (oL (oF Xa))) V7 K)) (g_relaid : Fn P w K mg base 1 "_law_relaid" ["_law_some", "_law_spots"] (sp2 (rV (rV Xa)) (rV Xa) (oL (oL (oF Xa))) QJ K)) (g_ordered : Fn P w K mg base 1 "_law_ordered" ["_law_some", "_law_count_here"] (sp2 (rV Xa) Xa (oL (oF Xa)) Z3 K)) (Z : Blt mg) : Fn P w K mg base 3 "_law_good_table" ["_law_script", "_law_place", "_law_most"] (sp3 (rL Xa) Xa Xa (oL (oL (oF Xa))) Y9 K):=by
  refine YH D Zc (fun vs H Q E h=>?_) (fun f cdv A outer s H vs Q E hr h=>?_)
  . obtain ⟨v_0, v_1, v_2, a_0, a_1, a_2, b, rfl, _⟩:=h; rfl
  obtain ⟨v_0, v_1, v_2, a_0, a_1, a_2, b, rfl, h_0, h_1, h_2, hm, q⟩:=h
  have hu:=hu8 hr
  have hu1:=YD hr
  refine ⟨_, (Xc (Xo (i:=3) Zc.nd rfl (Or.inl rfl) (X9 g_row hr (by decide) (Xd (pv 0) (Xd (pv 1) (Xd (Xq F1 (X7 (Xd Xh (Xd Xh (Xd Xh (Xd Xh (Xd Xh Xg)))))) (Xq UZ (X7 (Xd Xh Xg)) Xh)) Xg)))))
    (Xc (Xo (i:=4) Zc.nd rfl (Or.inl rfl) (Xq X2 Xh (Xq Yq (XE (Xk K rfl) (pv 3) Xh (fun _ _=>rfl)) (pv 2))))
    (Xc (YI (PW.pt (ZW (Xs Gc (pv 2) Xh (XG _)) (Z6 (Xs Gc (XE (Xk K rfl) (pv 3) Xh (fun _ _=>rfl)) Xh (XG _)))))
      (Xc (Xo (i:=4) Zc.nd rfl (Or.inl rfl) (Xq X2 Xh (Xq Yq (XE (Xk K rfl) (pv 3) Xh (fun _ _=>rfl)) (Xq ZN (pv 2) Xh))))
      Xf)
      Xf)
    (Xc (Xo (i:=5) Zc.nd rfl (Or.inl rfl) (X9 g_made hr (by decide) (Xd (XE (Xk K rfl) (pv 3) Xh (fun _ _=>rfl)) (Xd (pv 4) (Xd (Xq X2 Xh (XE (Xk K rfl) (pv 3) Xh (fun _ _=>rfl))) Xg)))))
    (Xc (YI (Xs Ql (XE (Xk K rfl) (pv 3) Xh (fun _ _=>rfl)) Xh (XG _))
      (Xc (XA (pv 5))
      Xf)
      Xf)
    (Xc (XA (X9 g_relaid hr (by decide) (Xd (pv 5) (Xd (X9 g_ordered hr (by decide) (Xd (Uy (Uq K rfl) (pv 3) (Gs Xh) KR) (Xd (pv 4) Xg))) Xg))))
    Xf)))))), ?_⟩
  refine YJ (S:=(SC.add (SC.add (SC.add SC.nil K (rL Xa) v_0 a_0) K Xa v_1 a_1) K Xa v_2 a_2)) (σ:=[some v_0, some v_1, some v_2, none, none, none]) 1 ?_ (SC.i (SC.i (SC.i SC.t h_0) h_1) h_2) hm q rfl
  unfold Y9
  exact (Xy (K:=K) (r:=(rV Xa)) 3 (Ev.sh (Y3 (Xb (r:=(rL Xa)) 0 rfl (fun _ s=>s.l.l.r)) (Xb (r:=Xa) 1 rfl (fun _ s=>s.l.r)) (Ev.toB (Ct (Ev.ls (ZA (Xt (EvB.sh (Xe 7)) (Xt (EvB.sh (Xe 24)) (Xt (EvB.sh (Xe 6)) (Xt (EvB.sh (Xe 2)) (Xt (EvB.sh (Xe 6)) Y0))))))) (Ev.ls (KF (Ev.ls (ZA (Xt (EvB.sh (Xe 24)) Y0))) (Xe 24))))))) fun a1 v2=>(Xy (K:=K) (r:=Xa) 4 (EvB.sh (XL (Xe 1) (X3 (Xx (Xb (r:=(rV Xa)) 3 rfl (fun _ s=>s.r)) (Xe 1)) (Xb (r:=Xa) 2 rfl (fun _ s=>s.l.r))))) fun a25 v26=>(Zh (J:=({ oo:=fun x40=>[[]], ss:=fun x40=>[some v_0, some v_1, some v_2, some v2, some x40, none], sc:=fun g41 x40=>(SC.add (SC.add (SC.add (SC.add (SC.add SC.nil K (rL Xa) v_0 a_0) K Xa v_1 a_1) K Xa v_2 a_2) K (rV Xa) v2 a1) K Xa x40 g41) } : Jn (Int) (V))) (ZS (Fd:=FNd ({ oo:=fun x40=>[[]], ss:=fun x40=>[some v_0, some v_1, some v_2, some v2, some x40, none], sc:=fun g41 x40=>(SC.add (SC.add (SC.add (SC.add (SC.add SC.nil K (rL Xa) v_0 a_0) K Xa v_1 a_1) K Xa v_2 a_2) K (rV Xa) v2 a1) K Xa x40 g41) } : Jn (Int) (V))) (Zb (Xp (K:=K) (VU (Xb (r:=Xa) 2 rfl (fun _ s=>s.l.l.r)) (Xe 2))) (Xp (K:=K) (VU (Xx (Xb (r:=(rV Xa)) 3 rfl (fun _ s=>s.l.r)) (Xe 4)) (Xe 0)))) (Xy (K:=K) (r:=Xa) 4 (EvB.sh (XL (Xe 3) (X3 (Xx (Xb (r:=(rV Xa)) 3 rfl (fun _ s=>s.l.r)) (Xe 1)) (Y6 (Xb (r:=Xa) 2 rfl (fun _ s=>s.l.l.r)) (Xe 2))))) fun a42 v43=>(Xv (J:=_) (v43) (a42) rfl rfl (fun _ s=>(SC.i (SC.i (SC.i (SC.i (SC.i SC.t s.l.l.l.l.l.r) s.l.l.l.l.r) s.l.l.l.r) s.l.l.r) s.r)))) (Xv (J:=_) (v26) (a25) rfl rfl (fun _ s=>(SC.i (SC.i (SC.i (SC.i (SC.i SC.t s.l.l.l.l.r) s.l.l.l.r) s.l.l.r) s.l.r) s.r)))) fun g53 x52=>(XY (K:=K) (o:=(oL (oL (oF Xa)))) 5 0 (Y3 (Xx (Xb (r:=(rV Xa)) 3 rfl (fun _ s=>s.l.r)) (Xe 0)) (Xb (r:=Xa) 4 rfl (fun _ s=>s.r)) (XL (Xe 2) (Xx (Xb (r:=(rV Xa)) 3 rfl (fun _ s=>s.l.r)) (Xe 2)))) (Nat.le_of_ble_eq_true rfl) fun a54 v55 C56=>(Qi (Xp (K:=K) (Zg (Xx (Xb (r:=(rV Xa)) 3 rfl (fun _ s=>s.l.l.r)) (Xe 3)) (Xe 0))) (XB (Ys (o:=(oL (oL (oF Xa)))) 5 0 rfl rfl (fun _ s=>s.r))) (XB (Ya (Za (o:=(oL (oL (oF Xa)))) 5 0 rfl rfl (fun _ s=>s.r)) (Ev.toB (Ya (Ev.toB (G2 (EvS.ls (Xl (r:=(rV Xa)) 3 rfl (fun _ s=>s.l.l.r))) (Uu (K:=K) (Xe 5)) UG)) (Xb (r:=Xa) 4 rfl (fun _ s=>s.l.r)))))))))))
theorem Yg : FnScope ["_law_walks", "_law_found", "_law_count_here", "_law_walk", "_law_first", "_law_number", "_law_last", "_law_k", "_law_row_here"] ["_law_walks"] (Xi ZR):=⟨rfl, rfl, rfl, by decide +kernel, rfl, by decide +kernel, by decide +kernel⟩
theorem Dl (D : Def K mg "_law_arcs" ZR ["_law_walks"])  (Z : Blt mg) : Fn P w K mg base 1 "_law_arcs" ["_law_walks"] (sp1 (rV (rV Xa)) (oL (oL (oF Xa))) QD K):=by
  refine YH D Yg (fun vs H Q E h=>?_) (fun f cdv A outer s H vs Q E hr h=>?_)
  . obtain ⟨v_0, a_0, b, rfl, _⟩:=h; rfl
  obtain ⟨v_0, a_0, b, rfl, h_0, hm, q⟩:=h
  have hu:=hu8 hr
  have hu1:=YD hr
  refine ⟨_, (Xc (Xo (i:=1) Yg.nd rfl (Or.inl rfl) (X7 Xg))
    (Xc (Xo (i:=2) Yg.nd rfl (Or.inl rfl) Xh)
    (Xc (X4 PassesOwn.never rfl (XV (K:=K) rfl (pv 0)) (Xn (i:=3) Yg.nd rfl (Or.inl rfl))
      (Xc (Xo (i:=4) Yg.nd rfl (Or.inl rfl) (pv 2))
      (Xc (Xo (i:=5) Yg.nd rfl (Or.inl rfl) (pv 2))
      (Xc (Xo (i:=6) Yg.nd rfl (Or.inl rfl) (U0 JP Xh))
      (Xc (X4 PassesOwn.never rfl (XM rfl Z.b_range (Xd (Xu (Xm K rfl) rfl Z.b_len PySem.boot_len (Xd (pv 3) Xg)) Xg)) (Xn (i:=7) Yg.nd rfl (Or.inl rfl))
        (Xc (YI (Xs Qv (XE (Xk K rfl) (pv 3) (pv 7) (fun _ _=>rfl)) Xh (XG _))
          (Xc (Xo (i:=6) Yg.nd rfl (Or.inl rfl) (pv 7))
          Xf)
          Xf)
        Xf))
      (Xc (Xo (i:=8) Yg.nd rfl (Or.inl rfl) (Xq UZ (X7 (Xd (pv 4) Xg)) (Xu (VG rfl) rfl Z.b_max PyProof.Rows.boot_max (Xd (Xu (Xm K rfl) rfl Z.b_len PySem.boot_len (Xd (pv 3) Xg)) (Xd Xh Xg)))))
      (Xc (X4 PassesOwn.never rfl (XM rfl Z.b_range (Xd (Xq X2 (pv 6) Xh) Xg)) (Xn (i:=7) Yg.nd rfl (Or.inl rfl))
        (Xc (V8 (pv 5) (CI (pv 8) (pv 7) UB))
        (Xc (YI (PW.pt (ZW (Xs Qv (XE (Xk K rfl) (pv 3) (pv 7) (fun _ _=>rfl)) Xh (XG _)) (Z6 (Xs Qv (pv 7) (pv 6) (XG _)))))
          (Xc (Xo (i:=2) Yg.nd rfl (Or.inl rfl) (Xq X2 (pv 2) Xh))
          (Xc (Xo (i:=5) Yg.nd rfl (Or.inl rfl) (pv 2))
          Xf))
          Xf)
        Xf)))
      (Xc (Xo (i:=2) Yg.nd rfl (Or.inl rfl) (Xq X2 (pv 2) Xh))
      (Xc (Yv (ZK PySem.F.plainAttrs_list PySem.F.slot_list_append PySem.F.type_list_append X1 (pv 1) (Xd (pv 8) Xg)))
      Xf)))))))))
    (Xc (XA (pv 1))
    Xf)))), ?_⟩
  refine YJ (S:=(SC.add SC.nil K (rV (rV Xa)) v_0 a_0)) (σ:=[some v_0, none, none, none, none, none, none, none, none]) 2 ?_ (SC.i SC.t h_0) hm q rfl
  unfold QD
  exact (XY (K:=K) (o:=(oL (oL (oF Xa)))) 1 0 (QM (o:=(oL (oF Xa)))) (Nat.le_of_ble_eq_true rfl) fun a1 v2 C3=>(Xy (K:=K) (r:=Xa) 2 (EvB.sh (Xe 0)) fun a4 v5=>(Yo (K:=K) (J:=({ oo:=fun x6=>[x6.2.2.2.2.2.2.2.2, []], ss:=fun x6=>[some v_0, some x6.2.2.2.2.2.2.2.1, some x6.2.2.2.2.2.2.1, x6.1, x6.2.1, x6.2.2.1, x6.2.2.2.1, x6.2.2.2.2.1, x6.2.2.2.2.2.1], sc:=fun g7 x6=>(SC.addO (SC.add (SC.add SC.nil K (rV (rV Xa)) v_0 a_0) K Xa x6.2.2.2.2.2.2.1 g7.1) K (oL (oL (oF Xa))) x6.2.2.2.2.2.2.2.1 g7.2 x6.2.2.2.2.2.2.2.2) } : Jn (Int × (List (List Int))) (Option V × Option V × Option V × Option V × Option V × Option V × V × V × List XO))) (fun _=>tg1 3) ((none), (none), (none), (none), (none), (none), v5, v2, C3) (a4, a1) (XH (Xl (r:=(rV (rV Xa))) 0 rfl (fun _ s=>s.l.l.r))) rfl rfl (fun _ s=>(SC.i (SC.i (SC.i SC.t s.l.l.r) s.r) s.l.r)) (fun g8 x9 a10 v11=>(Xy (K:=K) (r:=Xa) 4 (Xl (r:=Xa) 2 rfl (fun _ s=>s.l.l.r)) fun a12 v13=>(Xy (K:=K) (r:=Xa) 5 (Xl (r:=Xa) 2 rfl (fun _ s=>s.l.l.l.r)) fun a14 v15=>(Xy (K:=K) (r:=Xa) 6 (EvB.sh (Qw (Xe 1))) fun a16 v17=>(Yo (K:=K) (J:=({ oo:=fun x21=>[x9.2.2.2.2.2.2.2.2, []], ss:=fun x21=>[some v_0, some x9.2.2.2.2.2.2.2.1, some x9.2.2.2.2.2.2.1, some v11, some v13, some v15, some x21.2, x21.1, x9.2.2.2.2.2.1], sc:=fun g22 x21=>(SC.add (SC.add (SC.add (SC.add (SC.addO (SC.add (SC.add SC.nil K (rV (rV Xa)) v_0 a_0) K Xa x9.2.2.2.2.2.2.1 g8.1) K (oL (oL (oF Xa))) x9.2.2.2.2.2.2.2.1 g8.2 x9.2.2.2.2.2.2.2.2) K (rV Xa) v11 a10) K Xa v13 a12) K Xa v15 a14) K Xa x21.2 g22) } : Jn (Int) (Option V × V))) (fun _=>tg1 7) ((x9.2.2.2.2.1), v17) (a16) (Xw (X0 (Xb (r:=(rV Xa)) 3 rfl (fun _ s=>s.l.l.l.r)))) rfl rfl (fun _ s=>(SC.i (SC.i (SC.i (SC.i (SC.i (SC.i (SC.i SC.t s.l.l.l.l.l.l.r) s.l.l.l.l.l.r) s.l.l.l.l.r) s.l.l.l.r) s.l.l.r) s.l.r) s.r)) (fun g23 x24 a25 v26=>(Zh (J:=({ oo:=fun x32=>[x9.2.2.2.2.2.2.2.2, []], ss:=fun x32=>[some v_0, some x9.2.2.2.2.2.2.2.1, some x9.2.2.2.2.2.2.1, some v11, some v13, some v15, some x32, some v26, x9.2.2.2.2.2.1], sc:=fun g33 x32=>(SC.add (SC.add (SC.add (SC.add (SC.add (SC.addO (SC.add (SC.add SC.nil K (rV (rV Xa)) v_0 a_0) K Xa x9.2.2.2.2.2.2.1 g8.1) K (oL (oL (oF Xa))) x9.2.2.2.2.2.2.2.1 g8.2 x9.2.2.2.2.2.2.2.2) K (rV Xa) v11 a10) K Xa v13 a12) K Xa v15 a14) K Xa v26 a25) K Xa x32 g33) } : Jn (Int) (V))) (ZS (Fd:=FNd ({ oo:=fun x32=>[x9.2.2.2.2.2.2.2.2, []], ss:=fun x32=>[some v_0, some x9.2.2.2.2.2.2.2.1, some x9.2.2.2.2.2.2.1, some v11, some v13, some v15, some x32, some v26, x9.2.2.2.2.2.1], sc:=fun g33 x32=>(SC.add (SC.add (SC.add (SC.add (SC.add (SC.addO (SC.add (SC.add SC.nil K (rV (rV Xa)) v_0 a_0) K Xa x9.2.2.2.2.2.2.1 g8.1) K (oL (oL (oF Xa))) x9.2.2.2.2.2.2.2.1 g8.2 x9.2.2.2.2.2.2.2.2) K (rV Xa) v11 a10) K Xa v13 a12) K Xa v15 a14) K Xa v26 a25) K Xa x32 g33) } : Jn (Int) (V))) (Xp (K:=K) (Zv (Xx (Xb (r:=(rV Xa)) 3 rfl (fun _ s=>s.l.l.l.l.r)) (Xb (r:=Xa) 7 rfl (fun _ s=>s.r))) (Xe 0))) (Xy (K:=K) (r:=Xa) 6 (Xl (r:=Xa) 7 rfl (fun _ s=>s.r)) fun a34 v35=>(Xv (J:=_) (v35) (a34) rfl rfl (fun _ s=>(SC.i (SC.i (SC.i (SC.i (SC.i (SC.i (SC.i (SC.i SC.t s.l.l.l.l.l.l.l.l.r) s.l.l.l.l.l.l.l.r) s.l.l.l.l.l.l.r) s.l.l.l.l.l.r) s.l.l.l.l.r) s.l.l.l.r) s.l.r) s.r)))) (Xv (J:=_) (x24.2) (g23) rfl rfl (fun _ s=>(SC.i (SC.i (SC.i (SC.i (SC.i (SC.i (SC.i (SC.i SC.t s.l.l.l.l.l.l.l.r) s.l.l.l.l.l.l.r) s.l.l.l.l.l.r) s.l.l.l.l.r) s.l.l.l.r) s.l.l.r) s.r) s.l.r)))) fun g37 x36=>(Xv (J:=_) ((some v26), x36) (g37) rfl rfl (fun _ s=>(SC.i (SC.i (SC.i (SC.i (SC.i (SC.i (SC.i SC.t s.l.l.l.l.l.l.l.r) s.l.l.l.l.l.l.r) s.l.l.l.l.l.r) s.l.l.l.l.r) s.l.l.l.r) s.l.l.r) s.r))))) fun g38 x39=>(XY (K:=K) (o:=(oL (oF Xa))) 8 1 (KF (Ev.ls (ZA (Xt (Xl (r:=Xa) 4 rfl (fun _ s=>s.l.l.r)) Y0))) (K3 (X0 (Xb (r:=(rV Xa)) 3 rfl (fun _ s=>s.l.l.l.r))) (Xe 1))) (Nat.le_of_ble_eq_true rfl) fun a40 v41 C42=>(Yo (K:=K) (J:=({ oo:=fun x54=>[x9.2.2.2.2.2.2.2.2, x54.2.2.2.2], ss:=fun x54=>[some v_0, some x9.2.2.2.2.2.2.2.1, some x54.2.2.1, some v11, some v13, some x54.2.2.2.1, some x39.2, x54.1, some x54.2.1], sc:=fun g55 x54=>(SC.add (SC.add (SC.addO (SC.add (SC.add (SC.add (SC.addO (SC.add SC.nil K (rV (rV Xa)) v_0 a_0) K (oL (oL (oF Xa))) x9.2.2.2.2.2.2.2.1 g8.2 x9.2.2.2.2.2.2.2.2) K (rV Xa) v11 a10) K Xa v13 a12) K Xa x39.2 g38) K (oL (oF Xa)) x54.2.1 g55.1 x54.2.2.2.2) K Xa x54.2.2.1 g55.2.1) K Xa x54.2.2.2.1 g55.2.2) } : Jn ((List Int) × Int × Int) (Option V × V × V × V × List XO))) (fun _=>tg1 7) ((x39.1), v41, x9.2.2.2.2.2.2.1, v15, C42) (a40, g8.1, a14) (Xw (XL (Xb (r:=Xa) 6 rfl (fun _ s=>s.l.r)) (Xe 1))) rfl rfl (fun _ s=>(SC.i (SC.i (SC.i (SC.i (SC.i (SC.i (SC.i (SC.i SC.t s.l.l.l.l.l.l.l.r) s.l.l.l.l.l.r) s.l.l.l.l.r) s.l.l.l.r) s.l.r) s.r) s.l.l.l.l.l.l.r) s.l.l.r)) (fun g56 x57 a58 v59=>(Gz (K:=K) (o:=(oF Xa)) 8 1 rfl rfl (fun _ s=>s.l.l.l.r) (EvS.ev (Xl (r:=Xa) 5 rfl (fun _ s=>s.l.r))) (fun _=>(Xb (r:=Xa) 7 rfl (fun _ s=>s.r))) fun a62 C63=>(Zh (J:=({ oo:=fun x71=>[x9.2.2.2.2.2.2.2.2, C63], ss:=fun x71=>[some v_0, some x9.2.2.2.2.2.2.2.1, some x71.1, some v11, some v13, some x71.2, some x39.2, some v59, some x57.2.1], sc:=fun g72 x71=>(SC.add (SC.add (SC.add (SC.addO (SC.add (SC.add (SC.add (SC.addO (SC.add SC.nil K (rV (rV Xa)) v_0 a_0) K (oL (oL (oF Xa))) x9.2.2.2.2.2.2.2.1 g8.2 x9.2.2.2.2.2.2.2.2) K (rV Xa) v11 a10) K Xa v13 a12) K Xa x39.2 g38) K (oL (oF Xa)) x57.2.1 a62 C63) K Xa v59 a58) K Xa x71.1 g72.1) K Xa x71.2 g72.2) } : Jn (Int × Int) (V × V))) (ZS (Fd:=FNd ({ oo:=fun x71=>[x9.2.2.2.2.2.2.2.2, C63], ss:=fun x71=>[some v_0, some x9.2.2.2.2.2.2.2.1, some x71.1, some v11, some v13, some x71.2, some x39.2, some v59, some x57.2.1], sc:=fun g72 x71=>(SC.add (SC.add (SC.add (SC.addO (SC.add (SC.add (SC.add (SC.addO (SC.add SC.nil K (rV (rV Xa)) v_0 a_0) K (oL (oL (oF Xa))) x9.2.2.2.2.2.2.2.1 g8.2 x9.2.2.2.2.2.2.2.2) K (rV Xa) v11 a10) K Xa v13 a12) K Xa x39.2 g38) K (oL (oF Xa)) x57.2.1 a62 C63) K Xa v59 a58) K Xa x71.1 g72.1) K Xa x71.2 g72.2) } : Jn (Int × Int) (V × V))) (Zb (Xp (K:=K) (Zv (Xx (Xb (r:=(rV Xa)) 3 rfl (fun _ s=>s.l.l.l.l.l.l.l.r)) (Xb (r:=Xa) 7 rfl (fun _ s=>s.l.r))) (Xe 0))) (Xp (K:=K) (Zv (Xb (r:=Xa) 7 rfl (fun _ s=>s.l.r)) (Xb (r:=Xa) 6 rfl (fun _ s=>s.l.l.l.l.l.r))))) (Xy (K:=K) (r:=Xa) 2 (EvB.sh (XL (Xb (r:=Xa) 2 rfl (fun _ s=>s.l.l.l.r)) (Xe 1))) fun a73 v74=>(Xy (K:=K) (r:=Xa) 5 (Xl (r:=Xa) 2 rfl (fun _ s=>s.r)) fun a77 v78=>(Xv (J:=_) (v74, v78) (a73, a77) rfl rfl (fun _ s=>(SC.i (SC.i (SC.i (SC.i (SC.i (SC.i (SC.i (SC.i (SC.i SC.t s.l.l.l.l.l.l.l.l.l.l.l.r) s.l.l.l.l.l.l.l.l.l.l.r) s.l.l.l.l.l.l.l.l.l.r) s.l.l.l.l.l.l.l.l.r) s.l.l.l.l.l.l.l.r) s.l.l.r) s.l.l.l.r) s.l.r) s.r))))) (Xv (J:=_) (x57.2.2.1, x57.2.2.2.1) (g56.2.1, g56.2.2) rfl rfl (fun _ s=>(SC.i (SC.i (SC.i (SC.i (SC.i (SC.i (SC.i (SC.i (SC.i SC.t s.l.l.l.l.l.l.l.l.l.r) s.l.l.l.l.l.l.l.l.r) s.l.l.l.l.l.l.l.r) s.l.l.l.l.l.l.r) s.l.l.l.l.l.r) s.r) s.l.r) s.l.l.l.r) s.l.l.r)))) fun g80 x79=>(Xv (J:=_) ((some v59), x57.2.1, x79.1, x79.2, C63) (a62, g80.1, g80.2) rfl rfl (fun _ s=>(SC.i (SC.i (SC.i (SC.i (SC.i (SC.i (SC.i (SC.i SC.t s.l.l.l.l.l.l.l.l.r) s.l.l.l.l.l.l.l.r) s.l.l.l.l.l.l.r) s.l.l.l.l.l.r) s.l.l.l.l.r) s.l.l.l.r) s.l.r) s.r)))))) fun g81 x82=>(Xy (K:=K) (r:=Xa) 2 (EvB.sh (XL (Xb (r:=Xa) 2 rfl (fun _ s=>s.l.r)) (Xe 1))) fun a83 v84=>(ZL (K:=K) (o:=(oL (oF Xa))) (f:=fun a89=>(Rs.ok (a83, a89))) 1 0 rfl rfl rfl (fun _ s=>s.l.l.l.l.l.l.l.r) (Ys (o:=(oL (oF Xa))) 8 1 rfl rfl (fun _ s=>s.l.l.l.r)) fun a87 C88=>(Xv (J:=_) ((some v11), (some v13), (some x82.2.2.2.1), (some x39.2), (x82.1), (some x82.2.1), v84, x9.2.2.2.2.2.2.2.1, C88) (a83, (g8.2 ++ [a87])) rfl rfl (fun _ s=>(SC.i (SC.i (SC.i SC.t s.l.l.l.l.l.l.l.l.l.r) s.l.r) s.r)))))))))))) fun g92 x93=>(XB (Ys (o:=(oL (oL (oF Xa)))) 1 0 rfl rfl (fun _ s=>s.r))))))
theorem Kn : FnScope ["_law_walks", "_law_passage", "_law_k"] ["_law_walks", "_law_passage"] (Xi ZX):=⟨rfl, rfl, rfl, by decide +kernel, rfl, by decide +kernel, by decide +kernel⟩
theorem DI (D : Def K mg "_law_spot" ZX ["_law_walks", "_law_passage"])  (Z : Blt mg) : Fn P w K mg base 1 "_law_spot" ["_law_walks", "_law_passage"] (sp2 (rV (rV Xa)) Xa (oF (rP2 Xa Xa)) Qe K):=by
  refine YH D Kn (fun vs H Q E h=>?_) (fun f cdv A outer s H vs Q E hr h=>?_)
  . obtain ⟨v_0, v_1, a_0, a_1, b, rfl, _⟩:=h; rfl
  obtain ⟨v_0, v_1, a_0, a_1, b, rfl, h_0, h_1, hm, q⟩:=h
  have hu:=hu8 hr
  have hu1:=YD hr
  refine ⟨_, (Xc (X4 PassesOwn.never rfl (XM rfl Z.b_range (Xd (Xu (Xm K rfl) rfl Z.b_len PySem.boot_len (Xd (pv 0) Xg)) Xg)) (Xn (i:=2) Kn.nd rfl (Or.inl rfl))
      (Xc (YI (Xs U3 (pv 1) (XE (Xk K rfl) (pv 0) (pv 2) (fun _ _=>rfl)) rfl)
        (Xc (XA (QU (Xd (pv 2) (Xd (Ef (K:=K) rfl PySem.F.plainAttrs_list PySem.F.slot_list_index PySem.F.type_list_index (KI K rfl) (XE (Xk K rfl) (pv 0) (pv 2) (fun _ _=>rfl)) (Xd (pv 1) Xg)) Xg))))
        Xf)
        Xf)
      Xf))
    (Xc (XA (QU (Xd (U0 JP Xh) (Xd (U0 JP Xh) Xg))))
    Xf)), ?_⟩
  refine YJ (S:=(SC.add (SC.add SC.nil K (rV (rV Xa)) v_0 a_0) K Xa v_1 a_1)) (σ:=[some v_0, some v_1, none]) 0 ?_ (SC.i (SC.i SC.t h_0) h_1) hm q rfl
  unfold Qe
  exact (Q9 (K:=K) (J:=({ oo:=fun x3=>[], ss:=fun x3=>[some v_0, some v_1, x3], sc:=fun g4 x3=>(SC.add (SC.add SC.nil K (rV (rV Xa)) v_0 a_0) K Xa v_1 a_1) } : Jn (Unit) (Option V))) (fun _=>tg1 2) ((none)) () (Xw (X0 (Xb (r:=(rV (rV Xa))) 0 rfl (fun _ s=>s.l.r)))) rfl rfl (fun _ s=>(SC.i (SC.i SC.t s.l.r) s.r)) (fun g5 x6 a7 v8=>(ZZ (Xp (K:=K) (Ec (Xb (r:=Xa) 1 rfl (fun _ s=>s.l.r)) (Xx (Xb (r:=(rV (rV Xa))) 0 rfl (fun _ s=>s.l.l.r)) (Xb (r:=Xa) 2 rfl (fun _ s=>s.r))))) (XB (EvS.ev (Va (Xl (r:=Xa) 2 rfl (fun _ s=>s.r)) (EvB.sh (Kg (Xx (Xb (r:=(rV (rV Xa))) 0 rfl (fun _ s=>s.l.l.r)) (Xb (r:=Xa) 2 rfl (fun _ s=>s.r))) (Xb (r:=Xa) 1 rfl (fun _ s=>s.l.r))))))) (QB (Xv (J:=_) ((some v8)) () rfl rfl (fun _ s=>(SC.i (SC.i SC.t s.l.l.r) s.l.r)))))) fun g22 x23=>(XB (EvS.ev (Va (EvB.sh (Qw (Xe 1))) (EvB.sh (Qw (Xe 1)))))))
theorem Yf : FnScope ["_law_drawing", "_law_walks", "_law_signs", "_law_rows", "_law_found", "_law_crossing", "_law_sign", "_law_up", "_law_at", "_law_down", "_law_to", "_law_behind"] ["_law_drawing"] (Xi Zr):=⟨rfl, rfl, rfl, by decide +kernel, rfl, by decide +kernel, by decide +kernel⟩
theorem Fg (D : Def K mg "_law_meets" Zr ["_law_drawing"]) (g_l_arcs : Fn P w K mg base 1 "_law_arcs" ["_law_walks"] (sp1 (rV (rV Xa)) (oL (oL (oF Xa))) QD K)) (g_l_spot : Fn P w K mg base 1 "_law_spot" ["_law_walks", "_law_passage"] (sp2 (rV (rV Xa)) Xa (oF (rP2 Xa Xa)) Qe K)) (Z : Blt mg) : Fn P w K mg base 2 "_law_meets" ["_law_drawing"] (sp1 (rP2 (rV (rV Xa)) (rV (rP2 Xa Xa))) (oL (oF (rP5 Xa Xa Xa Xa Xa))) ZP K):=by
  refine YH D Yf (fun vs H Q E h=>?_) (fun f cdv A outer s H vs Q E hr h=>?_)
  . obtain ⟨v_0, a_0, b, rfl, _⟩:=h; rfl
  obtain ⟨v_0, a_0, b, rfl, h_0, hm, q⟩:=h
  have hu:=hu8 hr
  have hu1:=YD hr
  refine ⟨_, (Xc (V8 (pv 0) (Jd rfl (XU (Xn (i:=1) Yf.nd rfl (Or.inl rfl)) (XU (Xn (i:=2) Yf.nd rfl (Or.inl rfl)) Qd))))
    (Xc (Xo (i:=3) Yf.nd rfl (Or.inl rfl) (X9 g_l_arcs hr (by decide) (Xd (pv 1) Xg)))
    (Xc (Xo (i:=4) Yf.nd rfl (Or.inl rfl) (X7 Xg))
    (Xc (X4 PassesOwn.never rfl (XV (K:=K) rfl (pv 2)) (Jd rfl (XU (Xn (i:=5) Yf.nd rfl (Or.inl rfl)) (XU (Xn (i:=6) Yf.nd rfl (Or.inl rfl)) Qd)))
      (Xc (V8 (X9 g_l_spot hr (by decide) (Xd (pv 1) (Xd (pv 5) Xg))) (Jd rfl (XU (Xn (i:=7) Yf.nd rfl (Or.inl rfl)) (XU (Xn (i:=8) Yf.nd rfl (Or.inl rfl)) Qd))))
      (Xc (V8 (X9 g_l_spot hr (by decide) (Xd (pv 1) (Xd (U0 JP (pv 5)) Xg))) (Jd rfl (XU (Xn (i:=9) Yf.nd rfl (Or.inl rfl)) (XU (Xn (i:=10) Yf.nd rfl (Or.inl rfl)) Qd))))
      (Xc (Xo (i:=11) Yf.nd rfl (Or.inl rfl) (Xq Yq (Xq X2 (pv 10) Xh) (Xu (Xm K rfl) rfl Z.b_len PySem.boot_len (Xd (XE (Xk K rfl) (pv 1) (pv 9) (fun _ _=>rfl)) Xg))))
      (Xc (Yv (ZK PySem.F.plainAttrs_list PySem.F.slot_list_append PySem.F.type_list_append X1 (pv 4) (Xd (QU (Xd (pv 5) (Xd (pv 6) (Xd (XE (Xk K rfl) (XE (Xk K rfl) (pv 3) (pv 7) (fun _ _=>rfl)) (pv 8) (fun _ _=>rfl)) (Xd (XE (Xk K rfl) (XE (Xk K rfl) (pv 3) (pv 9) (fun _ _=>rfl)) (pv 10) (fun _ _=>rfl)) (Xd (XE (Xk K rfl) (XE (Xk K rfl) (pv 3) (pv 9) (fun _ _=>rfl)) (pv 11) (fun _ _=>rfl)) Xg)))))) Xg)))
      Xf)))))
    (Xc (XA (pv 4))
    Xf))))), ?_⟩
  refine YJ (S:=(SC.add SC.nil K (rP2 (rV (rV Xa)) (rV (rP2 Xa Xa))) v_0 a_0)) (σ:=[some v_0, none, none, none, none, none, none, none, none, none, none, none]) 1 ?_ (SC.i SC.t h_0) hm q rfl
  unfold ZP
  exact (DJ 1 2 (Xl (r:=(rP2 (rV (rV Xa)) (rV (rP2 Xa Xa)))) 0 rfl (fun _ s=>s.r)) fun a1 v2 v3=>(Xy (K:=K) (r:=(rV (rV Xa))) 3 (Ev.sh (Yl (Xb (r:=(rV (rV Xa))) 1 rfl (fun _ s=>s.l.r)))) fun a4 v5=>(XY (K:=K) (o:=(oL (oF (rP5 Xa Xa Xa Xa Xa)))) 4 0 (QM (o:=(oF (rP5 Xa Xa Xa Xa Xa)))) (Nat.le_of_ble_eq_true rfl) fun a8 v9 C10=>(Yo (K:=K) (J:=({ oo:=fun x11=>[x11.2.2.2.2.2.2.2.2], ss:=fun x11=>[some v_0, some v2, some v3, some v5, some x11.2.2.2.2.2.2.2.1, x11.1, x11.2.1, x11.2.2.1, x11.2.2.2.1, x11.2.2.2.2.1, x11.2.2.2.2.2.1, x11.2.2.2.2.2.2.1], sc:=fun g12 x11=>(SC.addO (SC.add (SC.add (SC.add (SC.add SC.nil K (rP2 (rV (rV Xa)) (rV (rP2 Xa Xa))) v_0 a_0) K (rV (rV Xa)) v2 a1.1) K (rV (rP2 Xa Xa)) v3 a1.2) K (rV (rV Xa)) v5 a4) K (oL (oF (rP5 Xa Xa Xa Xa Xa))) x11.2.2.2.2.2.2.2.1 g12 x11.2.2.2.2.2.2.2.2) } : Jn ((List (Int × Int × Int × Int × Int))) (Option V × Option V × Option V × Option V × Option V × Option V × Option V × V × List XO))) (fun _=>tg2 5 6) ((none), (none), (none), (none), (none), (none), (none), v9, C10) (a8) (XH (Xl (r:=(rV (rP2 Xa Xa))) 2 rfl (fun _ s=>s.l.l.r))) rfl rfl (fun _ s=>(SC.i (SC.i (SC.i (SC.i (SC.i SC.t s.l.l.l.l.r) s.l.l.l.r) s.l.l.r) s.l.r) s.r)) (fun g13 x14 a15 v16=>(DJ 7 8 (EvB.sh (Ev.toB (Ya (Xb (r:=(rV (rV Xa))) 1 rfl (fun _ s=>s.l.l.l.l.l.r)) (Xb (r:=Xa) 5 rfl (fun _ s=>s.l.r))))) fun a20 v21 v22=>(DJ 9 10 (EvB.sh (Ev.toB (Ya (Xb (r:=(rV (rV Xa))) 1 rfl (fun _ s=>s.l.l.l.l.l.l.l.r)) (Qw (Xb (r:=Xa) 5 rfl (fun _ s=>s.l.l.l.r)))))) fun a27 v28 v29=>(Xy (K:=K) (r:=Xa) 11 (EvB.sh (X3 (XL (Xb (r:=Xa) 10 rfl (fun _ s=>s.r)) (Xe 1)) (X0 (Xx (Xb (r:=(rV (rV Xa))) 1 rfl (fun _ s=>s.l.l.l.l.l.l.l.l.l.r)) (Xb (r:=Xa) 9 rfl (fun _ s=>s.l.r)))))) fun a30 v31=>(ZL (K:=K) (o:=(oF (rP5 Xa Xa Xa Xa Xa))) (f:=fun a58=>(Rs.ok (a58))) 4 0 rfl rfl rfl (fun _ s=>s.l.l.l.l.l.l.l.r) (EvS.ev (GM (Xl (r:=Xa) 5 rfl (fun _ s=>s.l.l.l.l.l.l.r)) (Xl (r:=Xa) 6 rfl (fun _ s=>s.l.l.l.l.l.r)) (EvB.sh (Xx (Xx (Xb (r:=(rV (rV Xa))) 3 rfl (fun _ s=>s.l.l.l.l.l.l.l.l.r)) (Xb (r:=Xa) 7 rfl (fun _ s=>s.l.l.l.l.r))) (Xb (r:=Xa) 8 rfl (fun _ s=>s.l.l.l.r)))) (EvB.sh (Xx (Xx (Xb (r:=(rV (rV Xa))) 3 rfl (fun _ s=>s.l.l.l.l.l.l.l.l.r)) (Xb (r:=Xa) 9 rfl (fun _ s=>s.l.l.r))) (Xb (r:=Xa) 10 rfl (fun _ s=>s.l.r)))) (EvB.sh (Xx (Xx (Xb (r:=(rV (rV Xa))) 3 rfl (fun _ s=>s.l.l.l.l.l.l.l.l.r)) (Xb (r:=Xa) 9 rfl (fun _ s=>s.l.l.r))) (Xb (r:=Xa) 11 rfl (fun _ s=>s.r)))))) fun a56 C57=>(Xv (J:=_) ((some v16.1), (some v16.2), (some v21), (some v22), (some v28), (some v29), (some v31), x14.2.2.2.2.2.2.2.1, C57) ((g13 ++ [a56])) rfl rfl (fun _ s=>(SC.i (SC.i (SC.i (SC.i (SC.i SC.t s.l.l.l.l.l.l.l.l.l.l.l.l.r) s.l.l.l.l.l.l.l.l.l.l.l.r) s.l.l.l.l.l.l.l.l.l.l.r) s.l.l.l.l.l.l.l.l.l.r) s.r)))))))) fun g59 x60=>(XB (Ys (o:=(oL (oF (rP5 Xa Xa Xa Xa Xa)))) 4 0 rfl rfl (fun _ s=>s.r)))))))
theorem Ve : FnScope ["_law_drawing", "_law_count_here", "_law_walk"] ["_law_drawing"] (Xi Qa):=⟨rfl, rfl, rfl, by decide +kernel, rfl, by decide +kernel, by decide +kernel⟩
theorem BG (D : Def K mg "_law_count" Qa ["_law_drawing"])  (Z : Blt mg) : Fn P w K mg base 1 "_law_count" ["_law_drawing"] (sp1 (rP2 (rV (rV Xa)) (rV (rP2 Xa Xa))) (oF Xa) Zy K):=by
  refine YH D Ve (fun vs H Q E h=>?_) (fun f cdv A outer s H vs Q E hr h=>?_)
  . obtain ⟨v_0, a_0, b, rfl, _⟩:=h; rfl
  obtain ⟨v_0, a_0, b, rfl, h_0, hm, q⟩:=h
  have hu:=hu8 hr
  have hu1:=YD hr
  refine ⟨_, (Xc (Xo (i:=1) Ve.nd rfl (Or.inl rfl) (Xu (Xm K rfl) rfl Z.b_len PySem.boot_len (Xd (XE (Zi K rfl) (pv 0) Xh (fun _ _=>rfl)) Xg)))
    (Xc (X4 PassesOwn.never rfl (XV (K:=K) rfl (XE (Zi K rfl) (pv 0) Xh (fun _ _=>rfl))) (Xn (i:=2) Ve.nd rfl (Or.inl rfl))
      (Xc (YI (Xs Ql (Xu (Xm K rfl) rfl Z.b_len PySem.boot_len (Xd (Zq (sc:=(Xi Qa)) (N0:=["_law_drawing", "_law_count_here", "_law_walk"]) (tns:=["_law_one"]) (caps:=[]) rfl (XV (K:=K) rfl (pv 2)) (Zx (by decide)) (fun cl C s H ex E=>⟨Xn (i:=0) (show List.Nodup (["_law_one"] : List Str) by decide +kernel) rfl (Or.inl rfl), (Ga (Xs Qv (pv 0) Xh (XG _))), (pv 0)⟩)) Xg)) Xh (XG _))
        (Xc (Xo (i:=1) Ve.nd rfl (Or.inl rfl) (Xq X2 (pv 1) Xh))
        Xf)
        Xf)
      Xf))
    (Xc (XA (pv 1))
    Xf))), ?_⟩
  refine YJ (S:=(SC.add SC.nil K (rP2 (rV (rV Xa)) (rV (rP2 Xa Xa))) v_0 a_0)) (σ:=[some v_0, none, none]) 0 ?_ (SC.i SC.t h_0) hm q rfl
  unfold Zy
  exact (Xy (K:=K) (r:=Xa) 1 (EvB.sh (X0 (Vy (Xb (r:=(rP2 (rV (rV Xa)) (rV (rP2 Xa Xa)))) 0 rfl (fun _ s=>s.r))))) fun a1 v2=>(Yo (K:=K) (J:=({ oo:=fun x6=>[], ss:=fun x6=>[some v_0, some x6.2, x6.1], sc:=fun g7 x6=>(SC.add (SC.add SC.nil K (rP2 (rV (rV Xa)) (rV (rP2 Xa Xa))) v_0 a_0) K Xa x6.2 g7) } : Jn (Int) (Option V × V))) (fun _=>tg1 2) ((none), v2) (a1) (XH (VB (Xl (r:=(rP2 (rV (rV Xa)) (rV (rP2 Xa Xa)))) 0 rfl (fun _ s=>s.l.r)))) rfl rfl (fun _ s=>(SC.i (SC.i SC.t s.l.r) s.r)) (fun g8 x9 a10 v11=>(Zh (J:=({ oo:=fun x22=>[], ss:=fun x22=>[some v_0, some x22, some v11], sc:=fun g23 x22=>(SC.add (SC.add (SC.add SC.nil K (rP2 (rV (rV Xa)) (rV (rP2 Xa Xa))) v_0 a_0) K (rV Xa) v11 a10) K Xa x22 g23) } : Jn (Int) (V))) (ZS (Fd:=FNd ({ oo:=fun x22=>[], ss:=fun x22=>[some v_0, some x22, some v11], sc:=fun g23 x22=>(SC.add (SC.add (SC.add SC.nil K (rP2 (rV (rV Xa)) (rV (rP2 Xa Xa))) v_0 a_0) K (rV Xa) v11 a10) K Xa x22 g23) } : Jn (Int) (V))) (Xp (K:=K) (Zg (X0 (Ev.toB (UE (fun _=>tg1 0) (XH (Xl (r:=(rV Xa)) 2 rfl (fun _ s=>s.r))) (fun C12 a13 v14=>(Xp (K:=K) (Zv (Xb (r:=Xa) 0 rfl (fun _ s=>s.r)) (Xe 0)))) (fun C12 a13 v14=>(EvS.ev (Xl (r:=Xa) 0 rfl (fun _ s=>s.r))))))) (Xe 0))) (Xy (K:=K) (r:=Xa) 1 (EvB.sh (XL (Xb (r:=Xa) 1 rfl (fun _ s=>s.l.r)) (Xe 1))) fun a24 v25=>(Xv (J:=_) (v25) (a24) rfl rfl (fun _ s=>(SC.i (SC.i (SC.i SC.t s.l.l.l.r) s.l.r) s.r)))) (Xv (J:=_) (x9.2) (g8) rfl rfl (fun _ s=>(SC.i (SC.i (SC.i SC.t s.l.l.r) s.r) s.l.r)))) fun g29 x28=>(Xv (J:=_) ((some v11), x28) (g29) rfl rfl (fun _ s=>(SC.i (SC.i SC.t s.l.l.r) s.r))))) fun g30 x31=>(XB (EvS.ev (Xl (r:=Xa) 1 rfl (fun _ s=>s.r))))))
theorem ZT : FnScope ["_law_meetings", "_law_table", "_law_colours", "_law_crossing", "_law_sign", "_law_over", "_law_inward", "_law_outward", "_law_one", "_law_other"] ["_law_meetings", "_law_table", "_law_colours"] (Xi Qu):=⟨rfl, rfl, rfl, by decide +kernel, rfl, by decide +kernel, by decide +kernel⟩
theorem B0 (D : Def K mg "_law_keeps" Qu ["_law_meetings", "_law_table", "_law_colours"])  (Z : Blt mg) : Fn P w K mg base 1 "_law_keeps" ["_law_meetings", "_law_table", "_law_colours"] (sp3 (rV (rP5 Xa Xa Xa Xa Xa)) (rV (rV Xa)) (rV Xa) (oF XT) Jx K):=by
  refine YH D ZT (fun vs H Q E h=>?_) (fun f cdv A outer s H vs Q E hr h=>?_)
  . obtain ⟨v_0, v_1, v_2, a_0, a_1, a_2, b, rfl, _⟩:=h; rfl
  obtain ⟨v_0, v_1, v_2, a_0, a_1, a_2, b, rfl, h_0, h_1, h_2, hm, q⟩:=h
  have hu:=hu8 hr
  have hu1:=YD hr
  refine ⟨_, (Xc (X4 PassesOwn.never rfl (XV (K:=K) rfl (pv 0)) (Jd rfl (XU (Xn (i:=3) ZT.nd rfl (Or.inl rfl)) (XU (Xn (i:=4) ZT.nd rfl (Or.inl rfl)) (XU (Xn (i:=5) ZT.nd rfl (Or.inl rfl)) (XU (Xn (i:=6) ZT.nd rfl (Or.inl rfl)) (XU (Xn (i:=7) ZT.nd rfl (Or.inl rfl)) Qd))))))
      (Xc (GP (i:=8) (j:=9) rfl ZT.nd rfl rfl (by decide) rfl rfl (Xd (XE (Xk K rfl) (pv 2) (pv 6) (fun _ _=>rfl)) (Xd (XE (Xk K rfl) (pv 2) (pv 7) (fun _ _=>rfl)) Xg)) rfl)
      (Xc (YI (Xs Qv (pv 4) Xh (XG _))
        (Xc (GP (i:=8) (j:=9) rfl ZT.nd rfl rfl (by decide) rfl rfl (Xd (pv 9) (Xd (pv 8) Xg)) rfl)
        Xf)
        Xf)
      (Xc (YI (Xs Bj (XE (Xk K rfl) (XE (Xk K rfl) (pv 1) (pv 8) (fun _ _=>rfl)) (XE (Xk K rfl) (pv 2) (pv 5) (fun _ _=>rfl)) (fun _ _=>rfl)) (pv 9) (XG _))
        (Xc (XA Qn)
        Xf)
        Xf)
      Xf))))
    (Xc (XA Qn)
    Xf)), ?_⟩
  refine YJ (S:=(SC.add (SC.add (SC.add SC.nil K (rV (rP5 Xa Xa Xa Xa Xa)) v_0 a_0) K (rV (rV Xa)) v_1 a_1) K (rV Xa) v_2 a_2)) (σ:=[some v_0, some v_1, some v_2, none, none, none, none, none, none, none]) 0 ?_ (SC.i (SC.i (SC.i SC.t h_0) h_1) h_2) hm q rfl
  unfold Jx
  exact (Q9 (K:=K) (J:=({ oo:=fun x1=>[], ss:=fun x1=>[some v_0, some v_1, some v_2, x1.1, x1.2.1, x1.2.2.1, x1.2.2.2.1, x1.2.2.2.2.1, x1.2.2.2.2.2.1, x1.2.2.2.2.2.2], sc:=fun g2 x1=>(SC.add (SC.add (SC.add SC.nil K (rV (rP5 Xa Xa Xa Xa Xa)) v_0 a_0) K (rV (rV Xa)) v_1 a_1) K (rV Xa) v_2 a_2) } : Jn (Unit) (Option V × Option V × Option V × Option V × Option V × Option V × Option V))) (fun _=>tg5 3 4 5 6 7) ((none), (none), (none), (none), (none), (none), (none)) () (XH (Xl (r:=(rV (rP5 Xa Xa Xa Xa Xa))) 0 rfl (fun _ s=>s.l.l.r))) rfl rfl (fun _ s=>(SC.i (SC.i (SC.i SC.t s.l.l.r) s.l.r) s.r)) (fun g3 x4 a5 v6=>(G4 (K:=K) 8 9 (EvB.sh (Xx (Xb (r:=(rV Xa)) 2 rfl (fun _ s=>s.l.l.l.l.l.r)) (Xb (r:=Xa) 6 rfl (fun _ s=>s.l.r)))) (EvB.sh (Xx (Xb (r:=(rV Xa)) 2 rfl (fun _ s=>s.l.l.l.l.l.r)) (Xb (r:=Xa) 7 rfl (fun _ s=>s.r)))) fun a11 a12 v13 v14=>(Zh (J:=({ oo:=fun x18=>[], ss:=fun x18=>[some v_0, some v_1, some v_2, some v6.1, some v6.2.1, some v6.2.2.1, some v6.2.2.2.1, some v6.2.2.2.2, some x18.1, some x18.2], sc:=fun g19 x18=>(SC.add (SC.add (SC.add (SC.add (SC.add (SC.add (SC.add (SC.add (SC.add (SC.add SC.nil K (rV (rP5 Xa Xa Xa Xa Xa)) v_0 a_0) K (rV (rV Xa)) v_1 a_1) K (rV Xa) v_2 a_2) K Xa v6.1 a5.1) K Xa v6.2.1 a5.2.1) K Xa v6.2.2.1 a5.2.2.1) K Xa v6.2.2.2.1 a5.2.2.2.1) K Xa v6.2.2.2.2 a5.2.2.2.2) K Xa x18.1 g19.1) K Xa x18.2 g19.2) } : Jn (Int × Int) (V × V))) (ZS (Fd:=FNd ({ oo:=fun x18=>[], ss:=fun x18=>[some v_0, some v_1, some v_2, some v6.1, some v6.2.1, some v6.2.2.1, some v6.2.2.2.1, some v6.2.2.2.2, some x18.1, some x18.2], sc:=fun g19 x18=>(SC.add (SC.add (SC.add (SC.add (SC.add (SC.add (SC.add (SC.add (SC.add (SC.add SC.nil K (rV (rP5 Xa Xa Xa Xa Xa)) v_0 a_0) K (rV (rV Xa)) v_1 a_1) K (rV Xa) v_2 a_2) K Xa v6.1 a5.1) K Xa v6.2.1 a5.2.1) K Xa v6.2.2.1 a5.2.2.1) K Xa v6.2.2.2.1 a5.2.2.2.1) K Xa v6.2.2.2.2 a5.2.2.2.2) K Xa x18.1 g19.1) K Xa x18.2 g19.2) } : Jn (Int × Int) (V × V))) (Xp (K:=K) (Zv (Xb (r:=Xa) 4 rfl (fun _ s=>s.l.l.l.l.l.r)) (Xe 0))) (G4 (K:=K) 8 9 (Xl (r:=Xa) 9 rfl (fun _ s=>s.r)) (Xl (r:=Xa) 8 rfl (fun _ s=>s.l.r)) fun a20 a21 v22 v23=>(Xv (J:=_) (v22, v23) (a20, a21) rfl rfl (fun _ s=>(SC.i (SC.i (SC.i (SC.i (SC.i (SC.i (SC.i (SC.i (SC.i (SC.i SC.t s.l.l.l.l.l.l.l.l.l.l.l.r) s.l.l.l.l.l.l.l.l.l.l.r) s.l.l.l.l.l.l.l.l.l.r) s.l.l.l.l.l.l.l.l.r) s.l.l.l.l.l.l.l.r) s.l.l.l.l.l.l.r) s.l.l.l.l.l.r) s.l.l.l.l.r) s.l.r) s.r)))) (Xv (J:=_) (v13, v14) (a11, a12) rfl rfl (fun _ s=>(SC.i (SC.i (SC.i (SC.i (SC.i (SC.i (SC.i (SC.i (SC.i (SC.i SC.t s.l.l.l.l.l.l.l.l.l.r) s.l.l.l.l.l.l.l.l.r) s.l.l.l.l.l.l.l.r) s.l.l.l.l.l.l.r) s.l.l.l.l.l.r) s.l.l.l.l.r) s.l.l.l.r) s.l.l.r) s.l.r) s.r)))) fun g25 x24=>(ZZ (Xp (K:=K) (GI (Xx (Xx (Xb (r:=(rV (rV Xa))) 1 rfl (fun _ s=>s.l.l.l.l.l.l.l.l.r)) (Xb (r:=Xa) 8 rfl (fun _ s=>s.l.r))) (Xx (Xb (r:=(rV Xa)) 2 rfl (fun _ s=>s.l.l.l.l.l.l.l.r)) (Xb (r:=Xa) 5 rfl (fun _ s=>s.l.l.l.l.r)))) (Xb (r:=Xa) 9 rfl (fun _ s=>s.r)))) (XB (EvS.ev (EvB.sh (Zf false)))) (QB (Xv (J:=_) ((some v6.1), (some v6.2.1), (some v6.2.2.1), (some v6.2.2.2.1), (some v6.2.2.2.2), (some x24.1), (some x24.2)) () rfl rfl (fun _ s=>(SC.i (SC.i (SC.i SC.t s.l.l.l.l.l.l.l.l.l.r) s.l.l.l.l.l.l.l.l.r) s.l.l.l.l.l.l.l.r)))))))) fun g37 x38=>(XB (EvS.ev (EvB.sh (Zf true)))))
theorem J7 : FnScope ["_law_size", "_law_count_here", "_law_total", "_law_k"] ["_law_size", "_law_count_here"] (Xi Qo):=⟨rfl, rfl, rfl, by decide +kernel, rfl, by decide +kernel, by decide +kernel⟩
theorem Bt (D : Def K mg "_law_power" Qo ["_law_size", "_law_count_here"])  (Z : Blt mg) : Fn P w K mg base 1 "_law_power" ["_law_size", "_law_count_here"] (sp2 Xa Xa (oF Xa) JC K):=by
  refine YH D J7 (fun vs H Q E h=>?_) (fun f cdv A outer s H vs Q E hr h=>?_)
  . obtain ⟨v_0, v_1, a_0, a_1, b, rfl, _⟩:=h; rfl
  obtain ⟨v_0, v_1, a_0, a_1, b, rfl, h_0, h_1, hm, q⟩:=h
  have hu:=hu8 hr
  have hu1:=YD hr
  refine ⟨_, (Xc (Xo (i:=2) J7.nd rfl (Or.inl rfl) Xh)
    (Xc (X4 PassesOwn.never rfl (XM rfl Z.b_range (Xd (pv 1) Xg)) (Xn (i:=3) J7.nd rfl (Or.inl rfl))
      (Xc (Xo (i:=2) J7.nd rfl (Or.inl rfl) (Xq YT (pv 2) (pv 0)))
      Xf))
    (Xc (XA (pv 2))
    Xf))), ?_⟩
  refine YJ (S:=(SC.add (SC.add SC.nil K Xa v_0 a_0) K Xa v_1 a_1)) (σ:=[some v_0, some v_1, none, none]) 0 ?_ (SC.i (SC.i SC.t h_0) h_1) hm q rfl
  unfold JC
  exact (Xy (K:=K) (r:=Xa) 2 (EvB.sh (Xe 1)) fun a1 v2=>(Yo (K:=K) (J:=({ oo:=fun x4=>[], ss:=fun x4=>[some v_0, some v_1, some x4.2, x4.1], sc:=fun g5 x4=>(SC.add (SC.add (SC.add SC.nil K Xa v_0 a_0) K Xa v_1 a_1) K Xa x4.2 g5) } : Jn (Int) (Option V × V))) (fun _=>tg1 3) ((none), v2) (a1) (Xw (Xb (r:=Xa) 1 rfl (fun _ s=>s.l.r))) rfl rfl (fun _ s=>(SC.i (SC.i (SC.i SC.t s.l.l.r) s.l.r) s.r)) (fun g6 x7 a8 v9=>(Xy (K:=K) (r:=Xa) 2 (EvB.sh (Yd (Xb (r:=Xa) 2 rfl (fun _ s=>s.l.r)) (Xb (r:=Xa) 0 rfl (fun _ s=>s.l.l.l.r)))) fun a10 v11=>(Xv (J:=_) ((some v9), v11) (a10) rfl rfl (fun _ s=>(SC.i (SC.i (SC.i SC.t s.l.l.l.l.r) s.l.l.l.r) s.r))))) fun g14 x15=>(XB (EvS.ev (Xl (r:=Xa) 2 rfl (fun _ s=>s.r))))))
theorem Vb : FnScope ["_law_drawing", "_law_most", "_law_count_here", "_law_size"] ["_law_drawing", "_law_most"] (Xi Qx):=⟨rfl, rfl, rfl, by decide +kernel, rfl, by decide +kernel, by decide +kernel⟩
theorem Bd (D : Def K mg "_law_limit" Qx ["_law_drawing", "_law_most"]) (g_count : Fn P w K mg base 1 "_law_count" ["_law_drawing"] (sp1 (rP2 (rV (rV Xa)) (rV (rP2 Xa Xa))) (oF Xa) Zy K)) (g_power : Fn P w K mg base 1 "_law_power" ["_law_size", "_law_count_here"] (sp2 Xa Xa (oF Xa) JC K)) (Z : Blt mg) : Fn P w K mg base 2 "_law_limit" ["_law_drawing", "_law_most"] (sp2 (rP2 (rV (rV Xa)) (rV (rP2 Xa Xa))) Xa (oF Xa) JA K):=by
  refine YH D Vb (fun vs H Q E h=>?_) (fun f cdv A outer s H vs Q E hr h=>?_)
  . obtain ⟨v_0, v_1, a_0, a_1, b, rfl, _⟩:=h; rfl
  obtain ⟨v_0, v_1, a_0, a_1, b, rfl, h_0, h_1, hm, q⟩:=h
  have hu:=hu8 hr
  have hu1:=YD hr
  refine ⟨_, (Xc (Xo (i:=2) Vb.nd rfl (Or.inl rfl) (X9 g_count hr (by decide) (Xd (pv 0) Xg)))
    (Xc (Xo (i:=3) Vb.nd rfl (Or.inl rfl) Xh)
    (Xc (Vd PassesOwn.never (PW.pt (ZW (Xs Qv (pv 3) Xh (XG _)) (Z6 (Xs LC (X9 g_power hr (by decide) (Xd (Xq X2 (pv 3) Xh) (Xd (pv 2) Xg))) (pv 1) (XG _)))))
      (Xc (Xo (i:=3) Vb.nd rfl (Or.inl rfl) (Xq X2 (pv 3) Xh))
      Xf))
    (Xc (XA (pv 3))
    Xf)))), ?_⟩
  refine YJ (S:=(SC.add (SC.add SC.nil K (rP2 (rV (rV Xa)) (rV (rP2 Xa Xa))) v_0 a_0) K Xa v_1 a_1)) (σ:=[some v_0, some v_1, none, none]) 0 ?_ (SC.i (SC.i SC.t h_0) h_1) hm q rfl
  unfold JA
  exact (Xy (K:=K) (r:=Xa) 2 (EvB.sh (Ev.toB (Yl (Xb (r:=(rP2 (rV (rV Xa)) (rV (rP2 Xa Xa)))) 0 rfl (fun _ s=>s.l.r))))) fun a1 v2=>(Xy (K:=K) (r:=Xa) 3 (EvB.sh (Xe 1)) fun a5 v6=>(Vc (J:=({ oo:=fun x7=>[], ss:=fun x7=>[some v_0, some v_1, some v2, some x7], sc:=fun g8 x7=>(SC.add (SC.add (SC.add (SC.add SC.nil K (rP2 (rV (rV Xa)) (rV (rP2 Xa Xa))) v_0 a_0) K Xa v_1 a_1) K Xa v2 a1) K Xa x7 g8) } : Jn (Int) (V))) (8) (v6) (a5) rfl rfl (fun _ s=>(SC.i (SC.i (SC.i (SC.i SC.t s.l.l.l.r) s.l.l.r) s.l.r) s.r)) (fun g9 x10=>(Zb (Xp (K:=K) (Zv (Xb (r:=Xa) 3 rfl (fun _ s=>s.r)) (Xe 6))) (Xp (K:=K) (IL (Ev.toB (Ya (XL (Xb (r:=Xa) 3 rfl (fun _ s=>s.r)) (Xe 1)) (Xb (r:=Xa) 2 rfl (fun _ s=>s.l.r)))) (Xb (r:=Xa) 1 rfl (fun _ s=>s.l.l.r)))))) (fun g9 x10=>(Xy (K:=K) (r:=Xa) 3 (EvB.sh (XL (Xb (r:=Xa) 3 rfl (fun _ s=>s.r)) (Xe 1))) fun a20 v21=>(Xv (J:=_) (v21) (a20) rfl rfl (fun _ s=>(SC.i (SC.i (SC.i (SC.i SC.t s.l.l.l.l.r) s.l.l.l.r) s.l.l.r) s.r))))) fun g24 x25=>(XB (EvS.ev (Xl (r:=Xa) 3 rfl (fun _ s=>s.r)))))))
theorem Y7 : FnScope ["_law_drawing", "_law_table", "_law_found", "_law_meetings", "_law_count_here", "_law_k", "_law_one", "_law_colour"] ["_law_drawing", "_law_table", "_law_found"] (Xi YR):=⟨rfl, rfl, rfl, by decide +kernel, rfl, by decide +kernel, by decide +kernel⟩
theorem Kq (D : Def K mg "_law_each_fits" YR ["_law_drawing", "_law_table", "_law_found"]) (g_l_meets : Fn P w K mg base 2 "_law_meets" ["_law_drawing"] (sp1 (rP2 (rV (rV Xa)) (rV (rP2 Xa Xa))) (oL (oF (rP5 Xa Xa Xa Xa Xa))) ZP K)) (g_count : Fn P w K mg base 1 "_law_count" ["_law_drawing"] (sp1 (rP2 (rV (rV Xa)) (rV (rP2 Xa Xa))) (oF Xa) Zy K)) (g_keeps : Fn P w K mg base 1 "_law_keeps" ["_law_meetings", "_law_table", "_law_colours"] (sp3 (rV (rP5 Xa Xa Xa Xa Xa)) (rV (rV Xa)) (rV Xa) (oF XT) Jx K)) (g_is_wholes : Fn P w K mg base 2 "_law_is_wholes" ["_law_found"] (sp1 (rV Xa) (oF XT) Zl K)) (Z : Blt mg) : Fn P w K mg base 3 "_law_each_fits" ["_law_drawing", "_law_table", "_law_found"] (sp3 (rP2 (rV (rV Xa)) (rV (rP2 Xa Xa))) (rV (rV Xa)) (rV (rV Xa)) (oF XT) Zm K):=by
  refine YH D Y7 (fun vs H Q E h=>?_) (fun f cdv A outer s H vs Q E hr h=>?_)
  . obtain ⟨v_0, v_1, v_2, a_0, a_1, a_2, b, rfl, _⟩:=h; rfl
  obtain ⟨v_0, v_1, v_2, a_0, a_1, a_2, b, rfl, h_0, h_1, h_2, hm, q⟩:=h
  have hu:=hu8 hr
  have hu1:=YD hr
  refine ⟨_, (Xc (Xo (i:=3) Y7.nd rfl (Or.inl rfl) (X9 g_l_meets hr (by decide) (Xd (pv 0) Xg)))
    (Xc (Xo (i:=4) Y7.nd rfl (Or.inl rfl) (X9 g_count hr (by decide) (Xd (pv 0) Xg)))
    (Xc (X4 PassesOwn.never rfl (XM rfl Z.b_range (Xd (Xu (Xm K rfl) rfl Z.b_len PySem.boot_len (Xd (pv 2) Xg)) Xg)) (Xn (i:=5) Y7.nd rfl (Or.inl rfl))
      (Xc (Xo (i:=6) Y7.nd rfl (Or.inl rfl) (XE (Xk K rfl) (pv 2) (pv 5) (fun _ _=>rfl)))
      (Xc (YI (PW.pt (Dh (QW (QS (X9 g_is_wholes hr (by decide) (Xd (pv 6) Xg)))) (Kv (Xs Bj (Xu (Xm K rfl) rfl Z.b_len PySem.boot_len (Xd (pv 6) Xg)) (pv 4) (XG _)))))
        (Xc (XA Qn)
        Xf)
        Xf)
      (Xc (X4 PassesOwn.never rfl (XV (K:=K) rfl (pv 6)) (Xn (i:=7) Y7.nd rfl (Or.inl rfl))
        (Xc (YI (PW.pt (Dh (Xs Qv (pv 7) Xh (XG _)) (Kv (Xs EA (pv 7) (Xu (Xm K rfl) rfl Z.b_len PySem.boot_len (Xd (pv 1) Xg)) (XG _)))))
          (Xc (XA Qn)
          Xf)
          Xf)
        Xf))
      (Xc (YI (QW (QS (X9 g_keeps hr (by decide) (Xd (pv 3) (Xd (pv 1) (Xd (pv 6) Xg))))))
        (Xc (XA Qn)
        Xf)
        Xf)
      (Xc (YI (PW.pt (ZW (Xs Gc (pv 5) Xh (XG _)) (Z6 (QW (Xs (IX K rfl (Nat.lt_of_succ_lt hu1)) (XE (Xk K rfl) (pv 2) (Xq ZN (pv 5) Xh) (fun _ _=>rfl)) (pv 6) (XG _))))))
        (Xc (XA Qn)
        Xf)
        Xf)
      Xf))))))
    (Xc (XA Qn)
    Xf)))), ?_⟩
  refine YJ (S:=(SC.add (SC.add (SC.add SC.nil K (rP2 (rV (rV Xa)) (rV (rP2 Xa Xa))) v_0 a_0) K (rV (rV Xa)) v_1 a_1) K (rV (rV Xa)) v_2 a_2)) (σ:=[some v_0, some v_1, some v_2, none, none, none, none, none]) 0 ?_ (SC.i (SC.i (SC.i SC.t h_0) h_1) h_2) hm q rfl
  unfold Zm
  exact (Xy (K:=K) (r:=(rV (rP5 Xa Xa Xa Xa Xa))) 3 (Ev.sh (Yl (Xb (r:=(rP2 (rV (rV Xa)) (rV (rP2 Xa Xa)))) 0 rfl (fun _ s=>s.l.l.r)))) fun a1 v2=>(Xy (K:=K) (r:=Xa) 4 (EvB.sh (Ev.toB (Yl (Xb (r:=(rP2 (rV (rV Xa)) (rV (rP2 Xa Xa)))) 0 rfl (fun _ s=>s.l.l.l.r))))) fun a5 v6=>(Q9 (K:=K) (J:=({ oo:=fun x11=>[], ss:=fun x11=>[some v_0, some v_1, some v_2, some v2, some v6, x11.1, x11.2.1, x11.2.2], sc:=fun g12 x11=>(SC.add (SC.add (SC.add (SC.add (SC.add SC.nil K (rP2 (rV (rV Xa)) (rV (rP2 Xa Xa))) v_0 a_0) K (rV (rV Xa)) v_1 a_1) K (rV (rV Xa)) v_2 a_2) K (rV (rP5 Xa Xa Xa Xa Xa)) v2 a1) K Xa v6 a5) } : Jn (Unit) (Option V × Option V × Option V))) (fun _=>tg1 5) ((none), (none), (none)) () (Xw (X0 (Xb (r:=(rV (rV Xa))) 2 rfl (fun _ s=>s.l.l.r)))) rfl rfl (fun _ s=>(SC.i (SC.i (SC.i (SC.i (SC.i SC.t s.l.l.l.l.r) s.l.l.l.r) s.l.l.r) s.l.r) s.r)) (fun g13 x14 a15 v16=>(Xy (K:=K) (r:=(rV Xa)) 6 (Dj (EvS.ls (Xl (r:=(rV (rV Xa))) 2 rfl (fun _ s=>s.l.l.l.r))) (Xb (r:=Xa) 5 rfl (fun _ s=>s.r))) fun a17 v18=>(ZZ (KJ (ZY (J1 (K:=K) (Ev.toB (Yl (Xb (r:=(rV Xa)) 6 rfl (fun _ s=>s.r)))))) (Xp (K:=K) (GI (X0 (Xb (r:=(rV Xa)) 6 rfl (fun _ s=>s.r))) (Xb (r:=Xa) 4 rfl (fun _ s=>s.l.l.r))))) (XB (EvS.ev (EvB.sh (Zf false)))) (G6 (K:=K) (J:=({ oo:=fun x28=>[], ss:=fun x28=>[some v_0, some v_1, some v_2, some v2, some v6, some v16, some v18, x28], sc:=fun g29 x28=>(SC.add (SC.add (SC.add (SC.add (SC.add (SC.add (SC.add SC.nil K (rP2 (rV (rV Xa)) (rV (rP2 Xa Xa))) v_0 a_0) K (rV (rV Xa)) v_1 a_1) K (rV (rV Xa)) v_2 a_2) K (rV (rP5 Xa Xa Xa Xa Xa)) v2 a1) K Xa v6 a5) K Xa v16 a15) K (rV Xa) v18 a17) } : Jn (Unit) (Option V))) (fun _=>tg1 7) ((x14.2.2)) () (XH (Xl (r:=(rV Xa)) 6 rfl (fun _ s=>s.r))) rfl rfl (fun _ s=>(SC.i (SC.i (SC.i (SC.i (SC.i (SC.i (SC.i SC.t s.l.l.l.l.l.l.r) s.l.l.l.l.l.r) s.l.l.l.l.r) s.l.l.l.r) s.l.l.r) s.l.r) s.r)) (fun g30 x31 a32 v33=>(ZZ (KJ (Xp (K:=K) (Zv (Xb (r:=Xa) 7 rfl (fun _ s=>s.r)) (Xe 0))) (Xp (K:=K) (Do (Xb (r:=Xa) 7 rfl (fun _ s=>s.r)) (X0 (Xb (r:=(rV (rV Xa))) 1 rfl (fun _ s=>s.l.l.l.l.l.l.r)))))) (XB (EvS.ev (EvB.sh (Zf false)))) (QB (Xv (J:=_) ((some v33)) () rfl rfl (fun _ s=>(SC.i (SC.i (SC.i (SC.i (SC.i (SC.i (SC.i SC.t s.l.l.l.l.l.l.l.r) s.l.l.l.l.l.l.r) s.l.l.l.l.l.r) s.l.l.l.l.r) s.l.l.l.r) s.l.l.r) s.l.r)))))) fun g42 x43=>(ZZ (ZY (J1 (K:=K) (Ev.toB (Y3 (Xb (r:=(rV (rP5 Xa Xa Xa Xa Xa))) 3 rfl (fun _ s=>s.l.l.l.r)) (Xb (r:=(rV (rV Xa))) 1 rfl (fun _ s=>s.l.l.l.l.l.r)) (Xb (r:=(rV Xa)) 6 rfl (fun _ s=>s.r)))))) (XB (EvS.ev (EvB.sh (Zf false)))) (ZZ (Zb (Xp (K:=K) (VU (Xb (r:=Xa) 5 rfl (fun _ s=>s.l.r)) (Xe 0))) (ZY (Xp (K:=K) (EF (Xx (Xb (r:=(rV (rV Xa))) 2 rfl (fun _ s=>s.l.l.l.l.r)) (Y6 (Xb (r:=Xa) 5 rfl (fun _ s=>s.l.r)) (Xe 1))) (Xb (r:=(rV Xa)) 6 rfl (fun _ s=>s.r)))))) (XB (EvS.ev (EvB.sh (Zf false)))) (QB (Xv (J:=_) ((some v16), (some v18), (x43)) () rfl rfl (fun _ s=>(SC.i (SC.i (SC.i (SC.i (SC.i SC.t s.l.l.l.l.l.l.r) s.l.l.l.l.l.r) s.l.l.l.l.r) s.l.l.l.r) s.l.l.r)))))))))) fun g65 x66=>(XB (EvS.ev (EvB.sh (Zf true)))))))
theorem Qp : FnScope ["_law_table", "_law_found", "_law_some", "_law_there", "_law_one", "_law_k", "_law_c"] ["_law_table", "_law_found", "_law_some"] (Xi ZE):=⟨rfl, rfl, rfl, by decide +kernel, rfl, by decide +kernel, by decide +kernel⟩
theorem Dk (D : Def K mg "_law_pushed" ZE ["_law_table", "_law_found", "_law_some"])  (Z : Blt mg) : Fn P w K mg base 1 "_law_pushed" ["_law_table", "_law_found", "_law_some"] (sp3 (rV (rV Xa)) (rV (rV Xa)) Xa (oF XT) QG K):=by
  refine YH D Qp (fun vs H Q E h=>?_) (fun f cdv A outer s H vs Q E hr h=>?_)
  . obtain ⟨v_0, v_1, v_2, a_0, a_1, a_2, b, rfl, _⟩:=h; rfl
  obtain ⟨v_0, v_1, v_2, a_0, a_1, a_2, b, rfl, h_0, h_1, h_2, hm, q⟩:=h
  have hu:=hu8 hr
  have hu1:=YD hr
  refine ⟨_, (Xc (Xo (i:=3) Qp.nd rfl (Or.inl rfl) B9)
    (Xc (X4 PassesOwn.never rfl (XV (K:=K) rfl (pv 1)) (Xn (i:=4) Qp.nd rfl (Or.inl rfl))
      (Xc (CM hu1 (pv 3) (Zu (QQ K rfl) rfl Z.b_tuple PyProof.Rows.boot_tuple (Xd (pv 4) Xg)) Qn rfl)
      Xf))
    (Xc (X4 PassesOwn.never rfl (XM rfl Z.b_range (Xd (Xu (Xm K rfl) rfl Z.b_len PySem.boot_len (Xd (pv 1) Xg)) Xg)) (Xn (i:=5) Qp.nd rfl (Or.inl rfl))
      (Xc (YI (PW.pt (Dh (Xs Qv (pv 5) Xh (XG _)) (Kv (Xs Ql (Xq Yq (pv 5) Xh) (pv 2) (XG _)))))
        (Xc (X4 PassesOwn.never rfl (XM rfl Z.b_range (Xd (Xu (Xm K rfl) rfl Z.b_len PySem.boot_len (Xd (pv 0) Xg)) Xg)) (Xn (i:=6) Qp.nd rfl (Or.inr rfl))
          (Xc (YI (Lh (Dq hu1 (Zu (QQ K rfl) rfl Z.b_tuple PyProof.Rows.boot_tuple (Xd (Zq (sc:=(Xi ZE)) (N0:=["_law_table", "_law_found", "_law_some", "_law_there", "_law_one", "_law_k", "_law_c"]) (tns:=["_law_colour"]) (caps:=[(0, "_law_table"), (6, "_law_c")]) rfl (XV (K:=K) rfl (XE (Xk K rfl) (pv 1) (pv 5) (fun _ _=>rfl))) (Zx (by decide)) (fun cl C s H ex E=>⟨Xn (i:=0) (show List.Nodup (["_law_colour", "_law_table", "_law_c"] : List Str) by decide +kernel) rfl (Or.inl rfl), Z0, (XE (Xk K rfl) (XE (Xk K rfl) (pv 1) (pv 0) (fun _ _=>rfl)) (pv 2) (fun _ _=>rfl))⟩)) Xg)) (pv 3)))
            (Xc (XA Qn)
            Xf)
            Xf)
          Xf))
        Xf)
        Xf)
      Xf))
    (Xc (XA Qn)
    Xf)))), ?_⟩
  refine YJ (S:=(SC.add (SC.add (SC.add SC.nil K (rV (rV Xa)) v_0 a_0) K (rV (rV Xa)) v_1 a_1) K Xa v_2 a_2)) (σ:=[some v_0, some v_1, some v_2, none, none, none, none]) 1 ?_ (SC.i (SC.i (SC.i SC.t h_0) h_1) h_2) hm q rfl
  unfold QG
  exact (XY (K:=K) (o:=(oDT XT)) 3 0 (Bl (r:=XT)) (Nat.le_of_ble_eq_true rfl) fun a1 v2 C3=>(Yo (K:=K) (J:=({ oo:=fun x4=>[x4.2.2], ss:=fun x4=>[some v_0, some v_1, some v_2, some x4.2.1, x4.1, none, none], sc:=fun g5 x4=>(SC.addO (SC.add (SC.add (SC.add SC.nil K (rV (rV Xa)) v_0 a_0) K (rV (rV Xa)) v_1 a_1) K Xa v_2 a_2) K (oDT XT) x4.2.1 g5 x4.2.2) } : Jn ((List ((List Int) × Bool))) (Option V × V × List XO))) (fun _=>tg1 4) ((none), v2, C3) (a1) (XH (Xl (r:=(rV (rV Xa))) 1 rfl (fun _ s=>s.l.l.r))) rfl rfl (fun _ s=>(SC.i (SC.i (SC.i (SC.i SC.t s.l.l.l.r) s.l.l.r) s.l.r) s.r)) (fun g6 x7 a8 v9=>(B5 (K:=K) (r:=XT) (f:=fun a13=>(Rs.ok (a13))) 3 0 rfl rfl (fun _ s=>s.l.r) (EvB.sh (Zf true)) (Ub (Xb (r:=(rV Xa)) 4 rfl (fun _ s=>s.r))) fun a13 C14=>(Xv (J:=_) ((some v9), x7.2.1, C14) (a13) rfl rfl (fun _ s=>(SC.i (SC.i (SC.i (SC.i SC.t s.l.l.l.l.l.r) s.l.l.l.l.r) s.l.l.l.r) s.r))))) fun g15 x16=>(Q9 (K:=K) (J:=({ oo:=fun x19=>[x16.2.2], ss:=fun x19=>[some v_0, some v_1, some v_2, some x16.2.1, x16.1, x19.1, x19.2], sc:=fun g20 x19=>(SC.addO (SC.add (SC.add (SC.add SC.nil K (rV (rV Xa)) v_0 a_0) K (rV (rV Xa)) v_1 a_1) K Xa v_2 a_2) K (oDT XT) x16.2.1 g15 x16.2.2) } : Jn (Unit) (Option V × Option V))) (fun _=>tg1 5) ((none), (none)) () (Xw (X0 (Xb (r:=(rV (rV Xa))) 1 rfl (fun _ s=>s.l.l.r)))) rfl rfl (fun _ s=>(SC.i (SC.i (SC.i (SC.i SC.t s.l.l.l.r) s.l.l.r) s.l.r) s.r)) (fun g21 x22 a23 v24=>(Bn (J:=({ oo:=fun x32=>[x16.2.2], ss:=fun x32=>[some v_0, some v_1, some v_2, some x16.2.1, x16.1, some v24, x32], sc:=fun g33 x32=>(SC.add (SC.addO (SC.add (SC.add (SC.add SC.nil K (rV (rV Xa)) v_0 a_0) K (rV (rV Xa)) v_1 a_1) K Xa v_2 a_2) K (oDT XT) x16.2.1 g15 x16.2.2) K Xa v24 a23) } : Jn (Unit) (Option V))) (ZS (Fd:=FCd K (oF XT) ({ oo:=fun x32=>[x16.2.2], ss:=fun x32=>[some v_0, some v_1, some v_2, some x16.2.1, x16.1, some v24, x32], sc:=fun g33 x32=>(SC.add (SC.addO (SC.add (SC.add (SC.add SC.nil K (rV (rV Xa)) v_0 a_0) K (rV (rV Xa)) v_1 a_1) K Xa v_2 a_2) K (oDT XT) x16.2.1 g15 x16.2.2) K Xa v24 a23) } : Jn (Unit) (Option V))) (KJ (Xp (K:=K) (Zv (Xb (r:=Xa) 5 rfl (fun _ s=>s.r)) (Xe 40))) (Xp (K:=K) (Zg (X3 (Xb (r:=Xa) 5 rfl (fun _ s=>s.r)) (Xe 7)) (Xb (r:=Xa) 2 rfl (fun _ s=>s.l.l.r))))) (G6 (K:=K) (J:=({ oo:=fun x36=>[x16.2.2], ss:=fun x36=>[some v_0, some v_1, some v_2, some x16.2.1, x16.1, some v24, x36], sc:=fun g37 x36=>(SC.add (SC.addO (SC.add (SC.add (SC.add SC.nil K (rV (rV Xa)) v_0 a_0) K (rV (rV Xa)) v_1 a_1) K Xa v_2 a_2) K (oDT XT) x16.2.1 g15 x16.2.2) K Xa v24 a23) } : Jn (Unit) (Option V))) (fun _=>tg1 6) ((x22.2)) () (Xw (X0 (Xb (r:=(rV (rV Xa))) 0 rfl (fun _ s=>s.l.l.l.l.r)))) rfl rfl (fun _ s=>(SC.i (SC.i (SC.i (SC.i (SC.i SC.t s.l.l.l.l.r) s.l.l.l.r) s.l.l.r) s.l.r) s.r)) (fun g38 x39 a40 v41=>(ZZ (J1 (K:=K) (De (Ub (Ev.toB (Z1 (fun _=>tg1 0) (XH (Dj (EvS.ls (Xl (r:=(rV (rV Xa))) 1 rfl (fun _ s=>s.l.l.l.l.r))) (Xb (r:=Xa) 5 rfl (fun _ s=>s.l.r)))) (fun C44 a45 v46=>(EvS.ev (EvB.sh (Xx (Xx (Xb (r:=(rV (rV Xa))) 1 rfl (fun _ s=>s.l.l.l.l.l.l.r)) (Xb (r:=Xa) 0 rfl (fun _ s=>s.r))) (Xb (r:=Xa) 2 rfl (fun _ s=>s.l.r))))))))) (Za (o:=(oDT XT)) 3 0 rfl rfl (fun _ s=>s.l.l.r)))) (XB (EvS.ev (EvB.sh (Zf false)))) (QB (Xv (J:=_) ((some v41)) () rfl rfl (fun _ s=>(SC.i (SC.i (SC.i (SC.i (SC.i SC.t s.l.l.l.l.l.r) s.l.l.l.l.r) s.l.l.l.r) s.l.l.r) s.l.r)))))) fun g58 x59=>(QB (Xv (J:=_) ((x59)) () rfl rfl (fun _ s=>(SC.i (SC.i (SC.i (SC.i (SC.i SC.t s.l.l.l.l.r) s.l.l.l.r) s.l.l.r) s.l.r) s.r))))) (QB (Xv (J:=_) ((x22.2)) () rfl rfl (fun _ s=>(SC.i (SC.i (SC.i (SC.i (SC.i SC.t s.l.l.l.l.r) s.l.l.l.r) s.l.l.r) s.l.r) s.r))))) fun g64 x63=>(QB (Xv (J:=_) ((some v24), (x63)) () rfl rfl (fun _ s=>(SC.i (SC.i (SC.i (SC.i SC.t s.l.l.l.l.r) s.l.l.l.r) s.l.l.r) s.l.r)))))) fun g66 x67=>(XB (EvS.ev (EvB.sh (Zf true)))))))
theorem V6 : FnScope ["_law_script", "_law_drawing", "_law_table", "_law_found", "_law_count_here", "_law_colour"] ["_law_script"] (Xi Vj):=⟨rfl, rfl, rfl, by decide +kernel, rfl, by decide +kernel, by decide +kernel⟩
theorem I0 {f : Addr} {fd : FuncData} (F : Fun K "law" "law" Vj f fd) (g_drawn : Fn P w K mg base 3 "_law_drawn" ["_law_script", "_law_place", "_law_most"] (sp3 (rL Xa) Xa Xa (oT2 (oL (oL (oF Xa))) (oL (oF (rP2 Xa Xa)))) QY K)) (g_good_table : Fn P w K mg base 3 "_law_good_table" ["_law_script", "_law_place", "_law_most"] (sp3 (rL Xa) Xa Xa (oL (oL (oF Xa))) Y9 K)) (g_colourings : Fn P w K mg base 6 "colourings" ["drawing", "table"] (sp2 (rP2 (rV (rV Xa)) (rV (rP2 Xa Xa))) (rV (rV Xa)) (oL (oL (oF Xa))) Yy K)) (g_many : Fn P w K mg base 7 "many" ["drawing", "table"] (sp2 (rP2 (rV (rV Xa)) (rV (rP2 Xa Xa))) (rV (rV Xa)) (oF Xa) Ks K)) (g_pushed : Fn P w K mg base 1 "_law_pushed" ["_law_table", "_law_found", "_law_some"] (sp3 (rV (rV Xa)) (rV (rV Xa)) Xa (oF XT) QG K)) (g_limit : Fn P w K mg base 2 "_law_limit" ["_law_drawing", "_law_most"] (sp2 (rP2 (rV (rV Xa)) (rV (rP2 Xa Xa))) Xa (oF Xa) JA K)) (g_copy : Fn P w K mg base 1 "_law_copy" ["_law_drawing"] (sp1 (rP2 (rV (rV Xa)) (rV (rP2 Xa Xa))) (oT2 (oL (oL (oF Xa))) (oL (oF (rP2 Xa Xa)))) Vn K)) (g_each_fits : Fn P w K mg base 3 "_law_each_fits" ["_law_drawing", "_law_table", "_law_found"] (sp3 (rP2 (rV (rV Xa)) (rV (rP2 Xa Xa))) (rV (rV Xa)) (rV (rV Xa)) (oF XT) Zm K)) (g_is_whole : Fn P w K mg base 1 "_law_is_whole" ["_law_one"] (sp1 Xa (oF XT) Zo K)) (g_row : Fn P w K mg base 2 "_law_row" ["_law_script", "_law_place", "_law_sizes"] (sp3 (rL Xa) Xa (rV Xa) (oL (oF Xa)) V1 K)) (g_count : Fn P w K mg base 1 "_law_count" ["_law_drawing"] (sp1 (rP2 (rV (rV Xa)) (rV (rP2 Xa Xa))) (oF Xa) Zy K)) (Z : Blt mg) : FnOk P w K mg base CX0 8 f fd ["_law_script"] (sp1 (rL Xa) (oF XT) Gg K):=by
  refine F.ok V6 (fun vs H Q E h=>?_) (fun cdv A outer s H vs Q E hr h=>?_)
  . obtain ⟨v_0, a_0, b, rfl, _⟩:=h; rfl
  obtain ⟨v_0, a_0, b, rfl, h_0, hm, q⟩:=h
  have hu:=hu8 hr
  have hu1:=YD hr
  refine ⟨_, (Xc (Xo (i:=1) V6.nd rfl (Or.inl rfl) (X9 g_drawn hr (by decide) (Xd (pv 0) (Xd Xh (Xd Xh Xg)))))
    (Xc (Xo (i:=2) V6.nd rfl (Or.inl rfl) (X9 g_good_table hr (by decide) (Xd (pv 0) (Xd Xh (Xd (X9 g_limit hr (by decide) (Xd (pv 1) (Xd Xh Xg))) Xg)))))
    (Xc (Xo (i:=3) V6.nd rfl (Or.inl rfl) (X9 g_colourings hr (by decide) (Xd (X9 g_copy hr (by decide) (Xd (pv 1) Xg)) (Xd (Zq (sc:=(Xi Vj)) (N0:=["_law_script", "_law_drawing", "_law_table", "_law_found", "_law_count_here", "_law_colour"]) (tns:=["_law_line"]) (caps:=[]) rfl (XV (K:=K) rfl (pv 2)) (Zx (by decide)) (fun cl C s H ex E=>⟨Xn (i:=0) (show List.Nodup (["_law_line"] : List Str) by decide +kernel) rfl (Or.inl rfl), Z0, (Zu (YV K rfl) rfl Z.b_list PyProof.Rows.boot_list (Xd (pv 0) Xg))⟩)) Xg))))
    (Xc (YI (PW.pt (Dh (QW (QS (Xu Z7 rfl Z.b_isinstance PyProof.Rows.boot_isinstance (Xd (pv 3) (Xd (UF (v:=V.ty "list") rfl Z.b_list PyProof.Rows.boot_list rfl) Xg))))) (Kv (QW (QS (X9 g_each_fits hr (by decide) (Xd (pv 1) (Xd (pv 2) (Xd (pv 3) Xg)))))))))
      (Xc (XA Qn)
      Xf)
      Xf)
    (Xc (Xo (i:=4) V6.nd rfl (Or.inl rfl) (X9 g_many hr (by decide) (Xd (X9 g_copy hr (by decide) (Xd (pv 1) Xg)) (Xd (Zq (sc:=(Xi Vj)) (N0:=["_law_script", "_law_drawing", "_law_table", "_law_found", "_law_count_here", "_law_colour"]) (tns:=["_law_line"]) (caps:=[]) rfl (XV (K:=K) rfl (pv 2)) (Zx (by decide)) (fun cl C s H ex E=>⟨Xn (i:=0) (show List.Nodup (["_law_line"] : List Str) by decide +kernel) rfl (Or.inl rfl), Z0, (Zu (YV K rfl) rfl Z.b_list PyProof.Rows.boot_list (Xd (pv 0) Xg))⟩)) Xg))))
    (Xc (YI (PW.pt (Dh (QW (QS (X9 g_is_whole hr (by decide) (Xd (pv 4) Xg)))) (Kv (Xs Bj (pv 4) (Xu (Xm K rfl) rfl Z.b_len PySem.boot_len (Xd (pv 3) Xg)) (XG _)))))
      (Xc (XA Qn)
      Xf)
      Xf)
    (Xc (X4 PassesOwn.never rfl (XM rfl Z.b_range (Xd (Xu (Xm K rfl) rfl Z.b_len PySem.boot_len (Xd (pv 2) Xg)) Xg)) (Xn (i:=5) V6.nd rfl (Or.inl rfl))
      (Xc (YI (Xs (Ba K rfl (L7 eq_int) (by decide) hu) (Xq UZ (X7 (Xd (pv 5) Xg)) (X9 g_count hr (by decide) (Xd (pv 1) Xg))) (pv 3) rfl)
        (Xc (XA Qn)
        Xf)
        Xf)
      Xf))
    (Xc (XA (X9 g_pushed hr (by decide) (Xd (pv 2) (Xd (pv 3) (Xd (XE (Xk K rfl) (X9 g_row hr (by decide) (Xd (pv 0) (Xd Xh (Xd (X7 (Xd Xh Xg)) Xg Ji)))) Xh (fun _ _=>rfl)) Xg)))))
    Xf)))))))), ?_⟩
  refine YJ (S:=(SC.add SC.nil K (rL Xa) v_0 a_0)) (σ:=[some v_0, none, none, none, none, none]) 0 ?_ (SC.i SC.t h_0) hm q rfl
  unfold Gg
  exact (Xy (K:=K) (r:=(rP2 (rV (rV Xa)) (rV (rP2 Xa Xa)))) 1 (Ev.sh (Y3 (Xb (r:=(rL Xa)) 0 rfl (fun _ s=>s.r)) (Xe 0) (Xe 8))) fun a1 v2=>(Xy (K:=K) (r:=(rV (rV Xa))) 2 (Ev.sh (Y3 (Xb (r:=(rL Xa)) 0 rfl (fun _ s=>s.l.r)) (Xe 1) (Ev.toB (Ya (Xb (r:=(rP2 (rV (rV Xa)) (rV (rP2 Xa Xa)))) 1 rfl (fun _ s=>s.r)) (Xe 7000))))) fun a7 v8=>(Xy (K:=K) (r:=(rV (rV Xa))) 3 (Ev.sh (Ya (Ev.toB (Yl (Xb (r:=(rP2 (rV (rV Xa)) (rV (rP2 Xa Xa)))) 1 rfl (fun _ s=>s.l.r)))) (Ev.toB (Z1 (fun _=>tg1 0) (XH (Xl (r:=(rV (rV Xa))) 2 rfl (fun _ s=>s.r))) (fun C21 a22 v23=>(JF (EvS.ls (Xl (r:=(rV Xa)) 0 rfl (fun _ s=>s.r))))))))) fun a16 v17=>(Qi (KJ (ZY (J1 (K:=K) (QI "list" true (Ux K "list") (Xb (r:=(rV (rV Xa))) 3 rfl (fun _ s=>s.r))))) (ZY (J1 (K:=K) (Ev.toB (Y3 (Xb (r:=(rP2 (rV (rV Xa)) (rV (rP2 Xa Xa)))) 1 rfl (fun _ s=>s.l.l.r)) (Xb (r:=(rV (rV Xa))) 2 rfl (fun _ s=>s.l.r)) (Xb (r:=(rV (rV Xa))) 3 rfl (fun _ s=>s.r))))))) (XB (EvS.ev (EvB.sh (Zf false)))) (Xy (K:=K) (r:=Xa) 4 (EvB.sh (Ev.toB (Ya (Ev.toB (Yl (Xb (r:=(rP2 (rV (rV Xa)) (rV (rP2 Xa Xa)))) 1 rfl (fun _ s=>s.l.l.r)))) (Ev.toB (Z1 (fun _=>tg1 0) (XH (Xl (r:=(rV (rV Xa))) 2 rfl (fun _ s=>s.l.r))) (fun C41 a42 v43=>(JF (EvS.ls (Xl (r:=(rV Xa)) 0 rfl (fun _ s=>s.r)))))))))) fun a36 v37=>(Qi (KJ (ZY (J1 (K:=K) (Ev.toB (Yl (Xb (r:=Xa) 4 rfl (fun _ s=>s.r)))))) (Xp (K:=K) (GI (Xb (r:=Xa) 4 rfl (fun _ s=>s.r)) (X0 (Xb (r:=(rV (rV Xa))) 3 rfl (fun _ s=>s.l.r)))))) (XB (EvS.ev (EvB.sh (Zf false)))) (Q9 (K:=K) (J:=({ oo:=fun x57=>[], ss:=fun x57=>[some v_0, some v2, some v8, some v17, some v37, x57], sc:=fun g58 x57=>(SC.add (SC.add (SC.add (SC.add (SC.add SC.nil K (rL Xa) v_0 a_0) K (rP2 (rV (rV Xa)) (rV (rP2 Xa Xa))) v2 a1) K (rV (rV Xa)) v8 a7) K (rV (rV Xa)) v17 a16) K Xa v37 a36) } : Jn (Unit) (Option V))) (fun _=>tg1 5) ((none)) () (Xw (X0 (Xb (r:=(rV (rV Xa))) 2 rfl (fun _ s=>s.l.l.r)))) rfl rfl (fun _ s=>(SC.i (SC.i (SC.i (SC.i (SC.i SC.t s.l.l.l.l.r) s.l.l.l.r) s.l.l.r) s.l.r) s.r)) (fun g59 x60 a61 v62=>(ZZ (Xp (K:=K) (Bx (r:=(rV Xa)) (Ev.toB (KF (Ev.ls (ZA (Xt (Xl (r:=Xa) 5 rfl (fun _ s=>s.r)) Y0))) (Ev.toB (Yl (Xb (r:=(rP2 (rV (rV Xa)) (rV (rP2 Xa Xa)))) 1 rfl (fun _ s=>s.l.l.l.l.r)))))) (Xb (r:=(rV (rV Xa))) 3 rfl (fun _ s=>s.l.l.r)))) (XB (EvS.ev (EvB.sh (Zf false)))) (QB (Xv (J:=_) ((some v62)) () rfl rfl (fun _ s=>(SC.i (SC.i (SC.i (SC.i (SC.i SC.t s.l.l.l.l.l.r) s.l.l.l.l.r) s.l.l.l.r) s.l.l.r) s.l.r)))))) fun g75 x76=>(XB (Y3 (Xb (r:=(rV (rV Xa))) 2 rfl (fun _ s=>s.l.l.r)) (Xb (r:=(rV (rV Xa))) 3 rfl (fun _ s=>s.l.r)) (Xx (Ev.toB (Y3 (Xb (r:=(rL Xa)) 0 rfl (fun _ s=>s.l.l.l.l.r)) (Xe 2) (Ev.toB (ZA (Xt (EvB.sh (Xe 7)) Y0))))) (Xe 0)))))))))))
end
theorem Lg {l : PySem.W.OpenLaw} {w : World} {K : PySem.W.Frag} {h : Heap} {mg : Str -> Option Value} {fa f1 f2 f3 f4 f5 f6 f7 f8 f9 f10 f11 f12 f13 f14 f15 f16 f17 f18 f19 f20 f21 f22 f23 f24 f25 f26 f27 f28 f29 f30 f31 f32 f33 f34 f35 f36 f37 f38 : Addr}  {tk0 : Tok} (X : K.In h) (G : h.Ns mainGlobals mg) (hfa : mg "law" = some (.ref fa))
    {od1 an1 od2 an2 od3 an3 od4 an4 od5 an5 od6 an6 od7 an7 od8 an8 od9 an9 od10 an10 od11 an11 od12 an12 od13 an13 od14 an14 od15 an15 od16 an16 od17 an17 od18 an18 od19 an19 od20 an20 od21 an21 od22 an22 od23 an23 od24 an24 od25 an25 od26 an26 od27 an27 od28 an28 od29 an29 od30 an30 od31 an31 od32 an32 od33 an33 od34 an34 od35 an35 od36 an36 od37 an37 od38 an38 : Option Addr} {sl1 sl2 sl3 sl4 sl5 sl6 sl7 sl8 sl9 sl10 sl11 sl12 sl13 sl14 sl15 sl16 sl17 sl18 sl19 sl20 sl21 sl22 sl23 sl24 sl25 sl26 sl27 sl28 sl29 sl30 sl31 sl32 sl33 sl34 sl35 sl36 sl37 sl38 : Array (Option Value)} {oc1 kV1 dc1 pm1 cd1 ct1 oc2 kV2 dc2 pm2 cd2 ct2 oc3 kV3 dc3 pm3 cd3 ct3 oc4 kV4 dc4 pm4 cd4 ct4 oc5 kV5 dc5 pm5 cd5 ct5 oc6 kV6 dc6 pm6 cd6 ct6 oc7 kV7 dc7 pm7 cd7 ct7 oc8 kV8 dc8 pm8 cd8 ct8 oc9 kV9 dc9 pm9 cd9 ct9 oc10 kV10 dc10 pm10 cd10 ct10 oc11 kV11 dc11 pm11 cd11 ct11 oc12 kV12 dc12 pm12 cd12 ct12 oc13 kV13 dc13 pm13 cd13 ct13 oc14 kV14 dc14 pm14 cd14 ct14 oc15 kV15 dc15 pm15 cd15 ct15 oc16 kV16 dc16 pm16 cd16 ct16 oc17 kV17 dc17 pm17 cd17 ct17 oc18 kV18 dc18 pm18 cd18 ct18 oc19 kV19 dc19 pm19 cd19 ct19 oc20 kV20 dc20 pm20 cd20 ct20 oc21 kV21 dc21 pm21 cd21 ct21 oc22 kV22 dc22 pm22 cd22 ct22 oc23 kV23 dc23 pm23 cd23 ct23 oc24 kV24 dc24 pm24 cd24 ct24 oc25 kV25 dc25 pm25 cd25 ct25 oc26 kV26 dc26 pm26 cd26 ct26 oc27 kV27 dc27 pm27 cd27 ct27 oc28 kV28 dc28 pm28 cd28 ct28 oc29 kV29 dc29 pm29 cd29 ct29 oc30 kV30 dc30 pm30 cd30 ct30 oc31 kV31 dc31 pm31 cd31 ct31 oc32 kV32 dc32 pm32 cd32 ct32 oc33 kV33 dc33 pm33 cd33 ct33 oc34 kV34 dc34 pm34 cd34 ct34 oc35 kV35 dc35 pm35 cd35 ct35 oc36 kV36 dc36 pm36 cd36 ct36 oc37 kV37 dc37 pm37 cd37 ct37 oc38 kV38 dc38 pm38 cd38 ct38 : Value}
    (a1 : PySem.W.nsIn K mainGlobals "spot" = some (some (.ref f1))) (l1 : K.lookup f1 = some ⟨oc1, od1, .func (PySem.W.fnOf "spot" "spot" (XC JM) (Xz JM) (Xi JM) .none kV1 dc1 pm1 an1 cd1 ct1), sl1⟩) (c1 : PySem.W.codeIn K cd1 "spot" = true) (k1 : PySem.W.keepIn K (.ref f1) = true)
    (a2 : PySem.W.nsIn K mainGlobals "arcs" = some (some (.ref f2))) (l2 : K.lookup f2 = some ⟨oc2, od2, .func (PySem.W.fnOf "arcs" "arcs" (XC JU) (Xz JU) (Xi JU) .none kV2 dc2 pm2 an2 cd2 ct2), sl2⟩) (c2 : PySem.W.codeIn K cd2 "arcs" = true) (k2 : PySem.W.keepIn K (.ref f2) = true)
    (a3 : PySem.W.nsIn K mainGlobals "arc_count" = some (some (.ref f3))) (l3 : K.lookup f3 = some ⟨oc3, od3, .func (PySem.W.fnOf "arc_count" "arc_count" (XC Yz) (Xz Yz) (Xi Yz) .none kV3 dc3 pm3 an3 cd3 ct3), sl3⟩) (c3 : PySem.W.codeIn K cd3 "arc_count" = true) (k3 : PySem.W.keepIn K (.ref f3) = true)
    (a4 : PySem.W.nsIn K mainGlobals "arcs_of_walk" = some (some (.ref f4))) (l4 : K.lookup f4 = some ⟨oc4, od4, .func (PySem.W.fnOf "arcs_of_walk" "arcs_of_walk" (XC X5) (Xz X5) (Xi X5) .none kV4 dc4 pm4 an4 cd4 ct4), sl4⟩) (c4 : PySem.W.codeIn K cd4 "arcs_of_walk" = true) (k4 : PySem.W.keepIn K (.ref f4) = true)
    (a5 : PySem.W.nsIn K mainGlobals "arcs_of_ways" = some (some (.ref f5))) (l5 : K.lookup f5 = some ⟨oc5, od5, .func (PySem.W.fnOf "arcs_of_ways" "arcs_of_ways" (XC Yb) (Xz Yb) (Xi Yb) .none kV5 dc5 pm5 an5 cd5 ct5), sl5⟩) (c5 : PySem.W.codeIn K cd5 "arcs_of_ways" = true) (k5 : PySem.W.keepIn K (.ref f5) = true)
    (a6 : PySem.W.nsIn K mainGlobals "meets" = some (some (.ref f6))) (l6 : K.lookup f6 = some ⟨oc6, od6, .func (PySem.W.fnOf "meets" "meets" (XC Qy) (Xz Qy) (Xi Qy) .none kV6 dc6 pm6 an6 cd6 ct6), sl6⟩) (c6 : PySem.W.codeIn K cd6 "meets" = true) (k6 : PySem.W.keepIn K (.ref f6) = true)
    (a7 : PySem.W.nsIn K mainGlobals "ties" = some (some (.ref f7))) (l7 : K.lookup f7 = some ⟨oc7, od7, .func (PySem.W.fnOf "ties" "ties" (XC JQ) (Xz JQ) (Xi JQ) .none kV7 dc7 pm7 an7 cd7 ct7), sl7⟩) (c7 : PySem.W.codeIn K cd7 "ties" = true) (k7 : PySem.W.keepIn K (.ref f7) = true)
    (a8 : PySem.W.nsIn K mainGlobals "all_held" = some (some (.ref f8))) (l8 : K.lookup f8 = some ⟨oc8, od8, .func (PySem.W.fnOf "all_held" "all_held" (XC YY) (Xz YY) (Xi YY) .none kV8 dc8 pm8 an8 cd8 ct8), sl8⟩) (c8 : PySem.W.codeIn K cd8 "all_held" = true) (k8 : PySem.W.keepIn K (.ref f8) = true)
    (a9 : PySem.W.nsIn K mainGlobals "colourings" = some (some (.ref f9))) (l9 : K.lookup f9 = some ⟨oc9, od9, .func (PySem.W.fnOf "colourings" "colourings" (XC Yk) (Xz Yk) (Xi Yk) .none kV9 dc9 pm9 an9 cd9 ct9), sl9⟩) (c9 : PySem.W.codeIn K cd9 "colourings" = true) (k9 : PySem.W.keepIn K (.ref f9) = true)
    (a10 : PySem.W.nsIn K mainGlobals "refuse_too_much" = some (some (.ref f10))) (l10 : K.lookup f10 = some ⟨oc10, od10, .func (PySem.W.fnOf "refuse_too_much" "refuse_too_much" (XC XW) (Xz XW) (Xi XW) .none kV10 dc10 pm10 an10 cd10 ct10), sl10⟩) (c10 : PySem.W.codeIn K cd10 "refuse_too_much" = true) (k10 : PySem.W.keepIn K (.ref f10) = true)
    (a11 : PySem.W.nsIn K mainGlobals "longer_by_arc" = some (some (.ref f11))) (l11 : K.lookup f11 = some ⟨oc11, od11, .func (PySem.W.fnOf "longer_by_arc" "longer_by_arc" (XC X6) (Xz X6) (Xi X6) .none kV11 dc11 pm11 an11 cd11 ct11), sl11⟩) (c11 : PySem.W.codeIn K cd11 "longer_by_arc" = true) (k11 : PySem.W.keepIn K (.ref f11) = true)
    (a12 : PySem.W.nsIn K mainGlobals "many" = some (some (.ref f12))) (l12 : K.lookup f12 = some ⟨oc12, od12, .func (PySem.W.fnOf "many" "many" (XC JK) (Xz JK) (Xi JK) .none kV12 dc12 pm12 an12 cd12 ct12), sl12⟩) (c12 : PySem.W.codeIn K cd12 "many" = true) (k12 : PySem.W.keepIn K (.ref f12) = true)
    (a13 : PySem.W.nsIn K mainGlobals "_law_cell" = some (some (.ref f13))) (l13 : K.lookup f13 = some ⟨oc13, od13, .func (PySem.W.fnOf "_law_cell" "_law_cell" (XC JS) (Xz JS) (Xi JS) .none kV13 dc13 pm13 an13 cd13 ct13), sl13⟩) (c13 : PySem.W.codeIn K cd13 "_law_cell" = true) (k13 : PySem.W.keepIn K (.ref f13) = true)
    (a14 : PySem.W.nsIn K mainGlobals "_law_mix" = some (some (.ref f14))) (l14 : K.lookup f14 = some ⟨oc14, od14, .func (PySem.W.fnOf "_law_mix" "_law_mix" (XC Km) (Xz Km) (Xi Km) .none kV14 dc14 pm14 an14 cd14 ct14), sl14⟩) (c14 : PySem.W.codeIn K cd14 "_law_mix" = true) (k14 : PySem.W.keepIn K (.ref f14) = true)
    (a15 : PySem.W.nsIn K mainGlobals "_law_row" = some (some (.ref f15))) (l15 : K.lookup f15 = some ⟨oc15, od15, .func (PySem.W.fnOf "_law_row" "_law_row" (XC U4) (Xz U4) (Xi U4) .none kV15 dc15 pm15 an15 cd15 ct15), sl15⟩) (c15 : PySem.W.codeIn K cd15 "_law_row" = true) (k15 : PySem.W.keepIn K (.ref f15) = true)
    (a16 : PySem.W.nsIn K mainGlobals "_law_mixed" = some (some (.ref f16))) (l16 : K.lookup f16 = some ⟨oc16, od16, .func (PySem.W.fnOf "_law_mixed" "_law_mixed" (XC Qr) (Xz Qr) (Xi Qr) .none kV16 dc16 pm16 an16 cd16 ct16), sl16⟩) (c16 : PySem.W.codeIn K cd16 "_law_mixed" = true) (k16 : PySem.W.keepIn K (.ref f16) = true)
    (a17 : PySem.W.nsIn K mainGlobals "_law_any" = some (some (.ref f17))) (l17 : K.lookup f17 = some ⟨oc17, od17, .func (PySem.W.fnOf "_law_any" "_law_any" (XC Ut) (Xz Ut) (Xi Ut) .none kV17 dc17 pm17 an17 cd17 ct17), sl17⟩) (c17 : PySem.W.codeIn K cd17 "_law_any" = true) (k17 : PySem.W.keepIn K (.ref f17) = true)
    (a18 : PySem.W.nsIn K mainGlobals "_law_plaited" = some (some (.ref f18))) (l18 : K.lookup f18 = some ⟨oc18, od18, .func (PySem.W.fnOf "_law_plaited" "_law_plaited" (XC Zt) (Xz Zt) (Xi Zt) .none kV18 dc18 pm18 an18 cd18 ct18), sl18⟩) (c18 : PySem.W.codeIn K cd18 "_law_plaited" = true) (k18 : PySem.W.keepIn K (.ref f18) = true)
    (a19 : PySem.W.nsIn K mainGlobals "_law_drawn" = some (some (.ref f19))) (l19 : K.lookup f19 = some ⟨oc19, od19, .func (PySem.W.fnOf "_law_drawn" "_law_drawn" (XC Qg) (Xz Qg) (Xi Qg) .none kV19 dc19 pm19 an19 cd19 ct19), sl19⟩) (c19 : PySem.W.codeIn K cd19 "_law_drawn" = true) (k19 : PySem.W.keepIn K (.ref f19) = true)
    (a20 : PySem.W.nsIn K mainGlobals "_law_copy" = some (some (.ref f20))) (l20 : K.lookup f20 = some ⟨oc20, od20, .func (PySem.W.fnOf "_law_copy" "_law_copy" (XC Jc) (Xz Jc) (Xi Jc) .none kV20 dc20 pm20 an20 cd20 ct20), sl20⟩) (c20 : PySem.W.codeIn K cd20 "_law_copy" = true) (k20 : PySem.W.keepIn K (.ref f20) = true)
    (a21 : PySem.W.nsIn K mainGlobals "_law_is_whole" = some (some (.ref f21))) (l21 : K.lookup f21 = some ⟨oc21, od21, .func (PySem.W.fnOf "_law_is_whole" "_law_is_whole" (XC Y8) (Xz Y8) (Xi Y8) .none kV21 dc21 pm21 an21 cd21 ct21), sl21⟩) (c21 : PySem.W.codeIn K cd21 "_law_is_whole" = true) (k21 : PySem.W.keepIn K (.ref f21) = true)
    (a22 : PySem.W.nsIn K mainGlobals "_law_is_wholes" = some (some (.ref f22))) (l22 : K.lookup f22 = some ⟨oc22, od22, .func (PySem.W.fnOf "_law_is_wholes" "_law_is_wholes" (XC YU) (Xz YU) (Xi YU) .none kV22 dc22 pm22 an22 cd22 ct22), sl22⟩) (c22 : PySem.W.codeIn K cd22 "_law_is_wholes" = true) (k22 : PySem.W.keepIn K (.ref f22) = true)
    (a23 : PySem.W.nsIn K mainGlobals "_law_cell_of" = some (some (.ref f23))) (l23 : K.lookup f23 = some ⟨oc23, od23, .func (PySem.W.fnOf "_law_cell_of" "_law_cell_of" (XC Zw) (Xz Zw) (Xi Zw) .none kV23 dc23 pm23 an23 cd23 ct23), sl23⟩) (c23 : PySem.W.codeIn K cd23 "_law_cell_of" = true) (k23 : PySem.W.keepIn K (.ref f23) = true)
    (a24 : PySem.W.nsIn K mainGlobals "_law_common" = some (some (.ref f24))) (l24 : K.lookup f24 = some ⟨oc24, od24, .func (PySem.W.fnOf "_law_common" "_law_common" (XC ZU) (Xz ZU) (Xi ZU) .none kV24 dc24 pm24 an24 cd24 ct24), sl24⟩) (c24 : PySem.W.codeIn K cd24 "_law_common" = true) (k24 : PySem.W.keepIn K (.ref f24) = true)
    (a25 : PySem.W.nsIn K mainGlobals "_law_made" = some (some (.ref f25))) (l25 : K.lookup f25 = some ⟨oc25, od25, .func (PySem.W.fnOf "_law_made" "_law_made" (XC Je) (Xz Je) (Xi Je) .none kV25 dc25 pm25 an25 cd25 ct25), sl25⟩) (c25 : PySem.W.codeIn K cd25 "_law_made" = true) (k25 : PySem.W.keepIn K (.ref f25) = true)
    (a26 : PySem.W.nsIn K mainGlobals "_law_ordered" = some (some (.ref f26))) (l26 : K.lookup f26 = some ⟨oc26, od26, .func (PySem.W.fnOf "_law_ordered" "_law_ordered" (XC Zs) (Xz Zs) (Xi Zs) .none kV26 dc26 pm26 an26 cd26 ct26), sl26⟩) (c26 : PySem.W.codeIn K cd26 "_law_ordered" = true) (k26 : PySem.W.keepIn K (.ref f26) = true)
    (a27 : PySem.W.nsIn K mainGlobals "_law_relaid" = some (some (.ref f27))) (l27 : K.lookup f27 = some ⟨oc27, od27, .func (PySem.W.fnOf "_law_relaid" "_law_relaid" (XC ZC) (Xz ZC) (Xi ZC) .none kV27 dc27 pm27 an27 cd27 ct27), sl27⟩) (c27 : PySem.W.codeIn K cd27 "_law_relaid" = true) (k27 : PySem.W.keepIn K (.ref f27) = true)
    (a28 : PySem.W.nsIn K mainGlobals "_law_good_table" = some (some (.ref f28))) (l28 : K.lookup f28 = some ⟨oc28, od28, .func (PySem.W.fnOf "_law_good_table" "_law_good_table" (XC Yx) (Xz Yx) (Xi Yx) .none kV28 dc28 pm28 an28 cd28 ct28), sl28⟩) (c28 : PySem.W.codeIn K cd28 "_law_good_table" = true) (k28 : PySem.W.keepIn K (.ref f28) = true)
    (a29 : PySem.W.nsIn K mainGlobals "_law_arcs" = some (some (.ref f29))) (l29 : K.lookup f29 = some ⟨oc29, od29, .func (PySem.W.fnOf "_law_arcs" "_law_arcs" (XC ZR) (Xz ZR) (Xi ZR) .none kV29 dc29 pm29 an29 cd29 ct29), sl29⟩) (c29 : PySem.W.codeIn K cd29 "_law_arcs" = true) (k29 : PySem.W.keepIn K (.ref f29) = true)
    (a30 : PySem.W.nsIn K mainGlobals "_law_spot" = some (some (.ref f30))) (l30 : K.lookup f30 = some ⟨oc30, od30, .func (PySem.W.fnOf "_law_spot" "_law_spot" (XC ZX) (Xz ZX) (Xi ZX) .none kV30 dc30 pm30 an30 cd30 ct30), sl30⟩) (c30 : PySem.W.codeIn K cd30 "_law_spot" = true) (k30 : PySem.W.keepIn K (.ref f30) = true)
    (a31 : PySem.W.nsIn K mainGlobals "_law_meets" = some (some (.ref f31))) (l31 : K.lookup f31 = some ⟨oc31, od31, .func (PySem.W.fnOf "_law_meets" "_law_meets" (XC Zr) (Xz Zr) (Xi Zr) .none kV31 dc31 pm31 an31 cd31 ct31), sl31⟩) (c31 : PySem.W.codeIn K cd31 "_law_meets" = true) (k31 : PySem.W.keepIn K (.ref f31) = true)
    (a32 : PySem.W.nsIn K mainGlobals "_law_count" = some (some (.ref f32))) (l32 : K.lookup f32 = some ⟨oc32, od32, .func (PySem.W.fnOf "_law_count" "_law_count" (XC Qa) (Xz Qa) (Xi Qa) .none kV32 dc32 pm32 an32 cd32 ct32), sl32⟩) (c32 : PySem.W.codeIn K cd32 "_law_count" = true) (k32 : PySem.W.keepIn K (.ref f32) = true)
    (a33 : PySem.W.nsIn K mainGlobals "_law_keeps" = some (some (.ref f33))) (l33 : K.lookup f33 = some ⟨oc33, od33, .func (PySem.W.fnOf "_law_keeps" "_law_keeps" (XC Qu) (Xz Qu) (Xi Qu) .none kV33 dc33 pm33 an33 cd33 ct33), sl33⟩) (c33 : PySem.W.codeIn K cd33 "_law_keeps" = true) (k33 : PySem.W.keepIn K (.ref f33) = true)
    (a34 : PySem.W.nsIn K mainGlobals "_law_power" = some (some (.ref f34))) (l34 : K.lookup f34 = some ⟨oc34, od34, .func (PySem.W.fnOf "_law_power" "_law_power" (XC Qo) (Xz Qo) (Xi Qo) .none kV34 dc34 pm34 an34 cd34 ct34), sl34⟩) (c34 : PySem.W.codeIn K cd34 "_law_power" = true) (k34 : PySem.W.keepIn K (.ref f34) = true)
    (a35 : PySem.W.nsIn K mainGlobals "_law_limit" = some (some (.ref f35))) (l35 : K.lookup f35 = some ⟨oc35, od35, .func (PySem.W.fnOf "_law_limit" "_law_limit" (XC Qx) (Xz Qx) (Xi Qx) .none kV35 dc35 pm35 an35 cd35 ct35), sl35⟩) (c35 : PySem.W.codeIn K cd35 "_law_limit" = true) (k35 : PySem.W.keepIn K (.ref f35) = true)
    (a36 : PySem.W.nsIn K mainGlobals "_law_each_fits" = some (some (.ref f36))) (l36 : K.lookup f36 = some ⟨oc36, od36, .func (PySem.W.fnOf "_law_each_fits" "_law_each_fits" (XC YR) (Xz YR) (Xi YR) .none kV36 dc36 pm36 an36 cd36 ct36), sl36⟩) (c36 : PySem.W.codeIn K cd36 "_law_each_fits" = true) (k36 : PySem.W.keepIn K (.ref f36) = true)
    (a37 : PySem.W.nsIn K mainGlobals "_law_pushed" = some (some (.ref f37))) (l37 : K.lookup f37 = some ⟨oc37, od37, .func (PySem.W.fnOf "_law_pushed" "_law_pushed" (XC ZE) (Xz ZE) (Xi ZE) .none kV37 dc37 pm37 an37 cd37 ct37), sl37⟩) (c37 : PySem.W.codeIn K cd37 "_law_pushed" = true) (k37 : PySem.W.keepIn K (.ref f37) = true)
    (a38 : PySem.W.nsIn K mainGlobals "law" = some (some (.ref f38))) (l38 : K.lookup f38 = some ⟨oc38, od38, .func (PySem.W.fnOf "law" "law" (XC Vj) (Xz Vj) (Xi Vj) .none kV38 dc38 pm38 an38 cd38 ct38), sl38⟩) (c38 : PySem.W.codeIn K cd38 "law" = true) (k38 : PySem.W.keepIn K (.ref f38) = true)
    (z1 : PySem.W.nsIn K mainGlobals "abs" = some none)
    (z2 : PySem.W.nsIn K mainGlobals "all" = some none)
    (z3 : PySem.W.nsIn K mainGlobals "bool" = some none)
    (z4 : PySem.W.nsIn K mainGlobals "enumerate" = some none)
    (z5 : PySem.W.nsIn K mainGlobals "int" = some none)
    (z6 : PySem.W.nsIn K mainGlobals "isinstance" = some none)
    (z7 : PySem.W.nsIn K mainGlobals "len" = some none)
    (z8 : PySem.W.nsIn K mainGlobals "list" = some none)
    (z9 : PySem.W.nsIn K mainGlobals "max" = some none)
    (z10 : PySem.W.nsIn K mainGlobals "min" = some none)
    (z11 : PySem.W.nsIn K mainGlobals "range" = some none)
    (z12 : PySem.W.nsIn K mainGlobals "sum" = some none)
    (z13 : PySem.W.nsIn K mainGlobals "tuple" = some none)
    (w0 : PySem.W.nsIn K mainGlobals "MOST_LISTS" = some (some (.int 65536 tk0)))
    : ∃ fd : FuncData, (∀ (s : Shared) (v : Value), BindsTo s fd ⟨[v], []⟩ [("_law_script", v)]) /\ ∀ base : Heap, K.In base -> base.Ns mainGlobals mg -> FnOk l.prog w K mg base CX0 8 fa fd ["_law_script"] (sp1 (rL Xa) (oF XT) Gg K):=by
  have e:=hfa.symm.trans (PySem.W.mg_of X G a38)
  cases e
  have Z : Blt mg:=⟨PySem.W.mg_none_of X G z1, PySem.W.mg_none_of X G z2, PySem.W.mg_none_of X G z3, PySem.W.mg_none_of X G z4, PySem.W.mg_none_of X G z5, PySem.W.mg_none_of X G z6, PySem.W.mg_none_of X G z7, PySem.W.mg_none_of X G z8, PySem.W.mg_none_of X G z9, PySem.W.mg_none_of X G z10, PySem.W.mg_none_of X G z11, PySem.W.mg_none_of X G z12, PySem.W.mg_none_of X G z13, ⟨_, PySem.W.mg_of X G w0, _, rfl⟩⟩
  have D1 : Def K mg "spot" JM ["drawing", "passage"]:=⟨f1, _, Xr (st:=JM) l1 c1 k1, (Xr (st:=JM) l1 c1 k1).binds (ps:=["drawing", "passage"]) fun _ _ _ _ _ _ us hl=>(by obtain ⟨_, _, rfl⟩:=Q0 hl; rfl), PySem.W.mg_of X G a1⟩
  have D2 : Def K mg "arcs" JU ["drawing"]:=⟨f2, _, Xr (st:=JU) l2 c2 k2, (Xr (st:=JU) l2 c2 k2).binds (ps:=["drawing"]) fun _ _ _ _ _ _ us hl=>(by obtain ⟨_, rfl⟩:=JY hl; rfl), PySem.W.mg_of X G a2⟩
  have D3 : Def K mg "arc_count" Yz ["drawing"]:=⟨f3, _, Xr (st:=Yz) l3 c3 k3, (Xr (st:=Yz) l3 c3 k3).binds (ps:=["drawing"]) fun _ _ _ _ _ _ us hl=>(by obtain ⟨_, rfl⟩:=JY hl; rfl), PySem.W.mg_of X G a3⟩
  have D4 : Def K mg "arcs_of_walk" X5 ["walk"]:=⟨f4, _, Xr (st:=X5) l4 c4 k4, (Xr (st:=X5) l4 c4 k4).binds (ps:=["walk"]) fun _ _ _ _ _ _ us hl=>(by obtain ⟨_, rfl⟩:=JY hl; rfl), PySem.W.mg_of X G a4⟩
  have D5 : Def K mg "arcs_of_ways" Yb ["walk", "first"]:=⟨f5, _, Xr (st:=Yb) l5 c5 k5, (Xr (st:=Yb) l5 c5 k5).binds (ps:=["walk", "first"]) fun _ _ _ _ _ _ us hl=>(by obtain ⟨_, _, rfl⟩:=Q0 hl; rfl), PySem.W.mg_of X G a5⟩
  have D6 : Def K mg "meets" Qy ["drawing"]:=⟨f6, _, Xr (st:=Qy) l6 c6 k6, (Xr (st:=Qy) l6 c6 k6).binds (ps:=["drawing"]) fun _ _ _ _ _ _ us hl=>(by obtain ⟨_, rfl⟩:=JY hl; rfl), PySem.W.mg_of X G a6⟩
  have D7 : Def K mg "ties" JQ ["drawing"]:=⟨f7, _, Xr (st:=JQ) l7 c7 k7, (Xr (st:=JQ) l7 c7 k7).binds (ps:=["drawing"]) fun _ _ _ _ _ _ us hl=>(by obtain ⟨_, rfl⟩:=JY hl; rfl), PySem.W.mg_of X G a7⟩
  have D8 : Def K mg "all_held" YY ["table", "colours", "asked"]:=⟨f8, _, Xr (st:=YY) l8 c8 k8, (Xr (st:=YY) l8 c8 k8).binds (ps:=["table", "colours", "asked"]) fun _ _ _ _ _ _ us hl=>(by obtain ⟨_, _, _, rfl⟩:=VF hl; rfl), PySem.W.mg_of X G a8⟩
  have D9 : Def K mg "colourings" Yk ["drawing", "table"]:=⟨f9, _, Xr (st:=Yk) l9 c9 k9, (Xr (st:=Yk) l9 c9 k9).binds (ps:=["drawing", "table"]) fun _ _ _ _ _ _ us hl=>(by obtain ⟨_, _, rfl⟩:=Q0 hl; rfl), PySem.W.mg_of X G a9⟩
  have D10 : Def K mg "refuse_too_much" XW ["size", "count"]:=⟨f10, _, Xr (st:=XW) l10 c10 k10, (Xr (st:=XW) l10 c10 k10).binds (ps:=["size", "count"]) fun _ _ _ _ _ _ us hl=>(by obtain ⟨_, _, rfl⟩:=Q0 hl; rfl), PySem.W.mg_of X G a10⟩
  have D11 : Def K mg "longer_by_arc" X6 ["lists", "table", "asked"]:=⟨f11, _, Xr (st:=X6) l11 c11 k11, (Xr (st:=X6) l11 c11 k11).binds (ps:=["lists", "table", "asked"]) fun _ _ _ _ _ _ us hl=>(by obtain ⟨_, _, _, rfl⟩:=VF hl; rfl), PySem.W.mg_of X G a11⟩
  have D12 : Def K mg "many" JK ["drawing", "table"]:=⟨f12, _, Xr (st:=JK) l12 c12 k12, (Xr (st:=JK) l12 c12 k12).binds (ps:=["drawing", "table"]) fun _ _ _ _ _ _ us hl=>(by obtain ⟨_, _, rfl⟩:=Q0 hl; rfl), PySem.W.mg_of X G a12⟩
  have D13 : Def K mg "_law_cell" JS ["_law_script", "_law_place"]:=⟨f13, _, Xr (st:=JS) l13 c13 k13, (Xr (st:=JS) l13 c13 k13).binds (ps:=["_law_script", "_law_place"]) fun _ _ _ _ _ _ us hl=>(by obtain ⟨_, _, rfl⟩:=Q0 hl; rfl), PySem.W.mg_of X G a13⟩
  have D14 : Def K mg "_law_mix" Km ["_law_cell_here", "_law_k"]:=⟨f14, _, Xr (st:=Km) l14 c14 k14, (Xr (st:=Km) l14 c14 k14).binds (ps:=["_law_cell_here", "_law_k"]) fun _ _ _ _ _ _ us hl=>(by obtain ⟨_, _, rfl⟩:=Q0 hl; rfl), PySem.W.mg_of X G a14⟩
  have D15 : Def K mg "_law_row" U4 ["_law_script", "_law_place", "_law_sizes"]:=⟨f15, _, Xr (st:=U4) l15 c15 k15, (Xr (st:=U4) l15 c15 k15).binds (ps:=["_law_script", "_law_place", "_law_sizes"]) fun _ _ _ _ _ _ us hl=>(by obtain ⟨_, _, _, rfl⟩:=VF hl; rfl), PySem.W.mg_of X G a15⟩
  have D16 : Def K mg "_law_mixed" Qr ["_law_names", "_law_some"]:=⟨f16, _, Xr (st:=Qr) l16 c16 k16, (Xr (st:=Qr) l16 c16 k16).binds (ps:=["_law_names", "_law_some"]) fun _ _ _ _ _ _ us hl=>(by obtain ⟨_, _, rfl⟩:=Q0 hl; rfl), PySem.W.mg_of X G a16⟩
  have D17 : Def K mg "_law_any" Ut ["_law_names", "_law_some", "_law_rings"]:=⟨f17, _, Xr (st:=Ut) l17 c17 k17, (Xr (st:=Ut) l17 c17 k17).binds (ps:=["_law_names", "_law_some", "_law_rings"]) fun _ _ _ _ _ _ us hl=>(by obtain ⟨_, _, _, rfl⟩:=VF hl; rfl), PySem.W.mg_of X G a17⟩
  have D18 : Def K mg "_law_plaited" Zt ["_law_names", "_law_signs", "_law_some", "_law_strands"]:=⟨f18, _, Xr (st:=Zt) l18 c18 k18, (Xr (st:=Zt) l18 c18 k18).binds (ps:=["_law_names", "_law_signs", "_law_some", "_law_strands"]) fun _ _ _ _ _ _ us hl=>(by obtain ⟨_, _, _, _, rfl⟩:=HY hl; rfl), PySem.W.mg_of X G a18⟩
  have D19 : Def K mg "_law_drawn" Qg ["_law_script", "_law_place", "_law_most"]:=⟨f19, _, Xr (st:=Qg) l19 c19 k19, (Xr (st:=Qg) l19 c19 k19).binds (ps:=["_law_script", "_law_place", "_law_most"]) fun _ _ _ _ _ _ us hl=>(by obtain ⟨_, _, _, rfl⟩:=VF hl; rfl), PySem.W.mg_of X G a19⟩
  have D20 : Def K mg "_law_copy" Jc ["_law_drawing"]:=⟨f20, _, Xr (st:=Jc) l20 c20 k20, (Xr (st:=Jc) l20 c20 k20).binds (ps:=["_law_drawing"]) fun _ _ _ _ _ _ us hl=>(by obtain ⟨_, rfl⟩:=JY hl; rfl), PySem.W.mg_of X G a20⟩
  have D21 : Def K mg "_law_is_whole" Y8 ["_law_one"]:=⟨f21, _, Xr (st:=Y8) l21 c21 k21, (Xr (st:=Y8) l21 c21 k21).binds (ps:=["_law_one"]) fun _ _ _ _ _ _ us hl=>(by obtain ⟨_, rfl⟩:=JY hl; rfl), PySem.W.mg_of X G a21⟩
  have D22 : Def K mg "_law_is_wholes" YU ["_law_found"]:=⟨f22, _, Xr (st:=YU) l22 c22 k22, (Xr (st:=YU) l22 c22 k22).binds (ps:=["_law_found"]) fun _ _ _ _ _ _ us hl=>(by obtain ⟨_, rfl⟩:=JY hl; rfl), PySem.W.mg_of X G a22⟩
  have D23 : Def K mg "_law_cell_of" Zw ["_law_way", "_law_size", "_law_factor", "_law_a", "_law_b"]:=⟨f23, _, Xr (st:=Zw) l23 c23 k23, (Xr (st:=Zw) l23 c23 k23).binds (ps:=["_law_way", "_law_size", "_law_factor", "_law_a", "_law_b"]) fun _ _ _ _ _ _ us hl=>(by obtain ⟨_, _, _, _, _, rfl⟩:=Lv hl; rfl), PySem.W.mg_of X G a23⟩
  have D24 : Def K mg "_law_common" ZU ["_law_one", "_law_other"]:=⟨f24, _, Xr (st:=ZU) l24 c24 k24, (Xr (st:=ZU) l24 c24 k24).binds (ps:=["_law_one", "_law_other"]) fun _ _ _ _ _ _ us hl=>(by obtain ⟨_, _, rfl⟩:=Q0 hl; rfl), PySem.W.mg_of X G a24⟩
  have D25 : Def K mg "_law_made" Je ["_law_way", "_law_size", "_law_factor"]:=⟨f25, _, Xr (st:=Je) l25 c25 k25, (Xr (st:=Je) l25 c25 k25).binds (ps:=["_law_way", "_law_size", "_law_factor"]) fun _ _ _ _ _ _ us hl=>(by obtain ⟨_, _, _, rfl⟩:=VF hl; rfl), PySem.W.mg_of X G a25⟩
  have D26 : Def K mg "_law_ordered" Zs ["_law_some", "_law_count_here"]:=⟨f26, _, Xr (st:=Zs) l26 c26 k26, (Xr (st:=Zs) l26 c26 k26).binds (ps:=["_law_some", "_law_count_here"]) fun _ _ _ _ _ _ us hl=>(by obtain ⟨_, _, rfl⟩:=Q0 hl; rfl), PySem.W.mg_of X G a26⟩
  have D27 : Def K mg "_law_relaid" ZC ["_law_some", "_law_spots"]:=⟨f27, _, Xr (st:=ZC) l27 c27 k27, (Xr (st:=ZC) l27 c27 k27).binds (ps:=["_law_some", "_law_spots"]) fun _ _ _ _ _ _ us hl=>(by obtain ⟨_, _, rfl⟩:=Q0 hl; rfl), PySem.W.mg_of X G a27⟩
  have D28 : Def K mg "_law_good_table" Yx ["_law_script", "_law_place", "_law_most"]:=⟨f28, _, Xr (st:=Yx) l28 c28 k28, (Xr (st:=Yx) l28 c28 k28).binds (ps:=["_law_script", "_law_place", "_law_most"]) fun _ _ _ _ _ _ us hl=>(by obtain ⟨_, _, _, rfl⟩:=VF hl; rfl), PySem.W.mg_of X G a28⟩
  have D29 : Def K mg "_law_arcs" ZR ["_law_walks"]:=⟨f29, _, Xr (st:=ZR) l29 c29 k29, (Xr (st:=ZR) l29 c29 k29).binds (ps:=["_law_walks"]) fun _ _ _ _ _ _ us hl=>(by obtain ⟨_, rfl⟩:=JY hl; rfl), PySem.W.mg_of X G a29⟩
  have D30 : Def K mg "_law_spot" ZX ["_law_walks", "_law_passage"]:=⟨f30, _, Xr (st:=ZX) l30 c30 k30, (Xr (st:=ZX) l30 c30 k30).binds (ps:=["_law_walks", "_law_passage"]) fun _ _ _ _ _ _ us hl=>(by obtain ⟨_, _, rfl⟩:=Q0 hl; rfl), PySem.W.mg_of X G a30⟩
  have D31 : Def K mg "_law_meets" Zr ["_law_drawing"]:=⟨f31, _, Xr (st:=Zr) l31 c31 k31, (Xr (st:=Zr) l31 c31 k31).binds (ps:=["_law_drawing"]) fun _ _ _ _ _ _ us hl=>(by obtain ⟨_, rfl⟩:=JY hl; rfl), PySem.W.mg_of X G a31⟩
  have D32 : Def K mg "_law_count" Qa ["_law_drawing"]:=⟨f32, _, Xr (st:=Qa) l32 c32 k32, (Xr (st:=Qa) l32 c32 k32).binds (ps:=["_law_drawing"]) fun _ _ _ _ _ _ us hl=>(by obtain ⟨_, rfl⟩:=JY hl; rfl), PySem.W.mg_of X G a32⟩
  have D33 : Def K mg "_law_keeps" Qu ["_law_meetings", "_law_table", "_law_colours"]:=⟨f33, _, Xr (st:=Qu) l33 c33 k33, (Xr (st:=Qu) l33 c33 k33).binds (ps:=["_law_meetings", "_law_table", "_law_colours"]) fun _ _ _ _ _ _ us hl=>(by obtain ⟨_, _, _, rfl⟩:=VF hl; rfl), PySem.W.mg_of X G a33⟩
  have D34 : Def K mg "_law_power" Qo ["_law_size", "_law_count_here"]:=⟨f34, _, Xr (st:=Qo) l34 c34 k34, (Xr (st:=Qo) l34 c34 k34).binds (ps:=["_law_size", "_law_count_here"]) fun _ _ _ _ _ _ us hl=>(by obtain ⟨_, _, rfl⟩:=Q0 hl; rfl), PySem.W.mg_of X G a34⟩
  have D35 : Def K mg "_law_limit" Qx ["_law_drawing", "_law_most"]:=⟨f35, _, Xr (st:=Qx) l35 c35 k35, (Xr (st:=Qx) l35 c35 k35).binds (ps:=["_law_drawing", "_law_most"]) fun _ _ _ _ _ _ us hl=>(by obtain ⟨_, _, rfl⟩:=Q0 hl; rfl), PySem.W.mg_of X G a35⟩
  have D36 : Def K mg "_law_each_fits" YR ["_law_drawing", "_law_table", "_law_found"]:=⟨f36, _, Xr (st:=YR) l36 c36 k36, (Xr (st:=YR) l36 c36 k36).binds (ps:=["_law_drawing", "_law_table", "_law_found"]) fun _ _ _ _ _ _ us hl=>(by obtain ⟨_, _, _, rfl⟩:=VF hl; rfl), PySem.W.mg_of X G a36⟩
  have D37 : Def K mg "_law_pushed" ZE ["_law_table", "_law_found", "_law_some"]:=⟨f37, _, Xr (st:=ZE) l37 c37 k37, (Xr (st:=ZE) l37 c37 k37).binds (ps:=["_law_table", "_law_found", "_law_some"]) fun _ _ _ _ _ _ us hl=>(by obtain ⟨_, _, _, rfl⟩:=VF hl; rfl), PySem.W.mg_of X G a37⟩
  refine ⟨PySem.W.fnOf "law" "law" (XC Vj) (Xz Vj) (Xi Vj) .none kV38 dc38 pm38 an38 cd38 ct38, fun s v=>.of_eq rfl, fun base _ _=>?_⟩
  have g_cell:=HF (P:=l.prog) (w:=w) (base:=base) D13  Z
  have g_mix:=Ij (P:=l.prog) (w:=w) (base:=base) D14  Z
  have g_row:=Ix (P:=l.prog) (w:=w) (base:=base) D15 g_cell g_mix Z
  have g_plaited:=FN (P:=l.prog) (w:=w) (base:=base) D18  Z
  have g_any:=Ic (P:=l.prog) (w:=w) (base:=base) D17  Z
  have g_mixed:=BH (P:=l.prog) (w:=w) (base:=base) D16  Z
  have g_drawn:=BS (P:=l.prog) (w:=w) (base:=base) D19 g_row g_plaited g_any g_mixed Z
  have g_common:=Dt (P:=l.prog) (w:=w) (base:=base) D24  Z
  have g_cell_of:=Fu (P:=l.prog) (w:=w) (base:=base) D23  Z
  have g_made:=E6 (P:=l.prog) (w:=w) (base:=base) D25 g_common g_cell_of Z
  have g_relaid:=Cn (P:=l.prog) (w:=w) (base:=base) D27  Z
  have g_ordered:=FG (P:=l.prog) (w:=w) (base:=base) D26  Z
  have g_good_table:=Ur (P:=l.prog) (w:=w) (base:=base) D28 g_row g_made g_relaid g_ordered Z
  have g_arcs_of_walk:=VT (P:=l.prog) (w:=w) (base:=base) D4  Z
  have g_arc_count:=KB (P:=l.prog) (w:=w) (base:=base) D3 g_arcs_of_walk Z
  have g_refuse_too_much:=Jk (P:=l.prog) (w:=w) (base:=base) D10  Z
  have g_arcs_of_ways:=VD (P:=l.prog) (w:=w) (base:=base) D5 g_arcs_of_walk Z
  have g_arcs:=Hz (P:=l.prog) (w:=w) (base:=base) D2 g_arcs_of_walk g_arcs_of_ways Z
  have g_spot:=HD (P:=l.prog) (w:=w) (base:=base) D1  Z
  have g_meets:=BV (P:=l.prog) (w:=w) (base:=base) D6 g_arcs g_spot Z
  have g_ties:=EG (P:=l.prog) (w:=w) (base:=base) D7 g_meets Z
  have g_all_held:=Ge (P:=l.prog) (w:=w) (base:=base) D8  Z
  have g_longer_by_arc:=JW (P:=l.prog) (w:=w) (base:=base) D11 g_all_held Z
  have g_colourings:=Uk (P:=l.prog) (w:=w) (base:=base) D9 g_arc_count g_refuse_too_much g_ties g_longer_by_arc Z
  have g_many:=EC (P:=l.prog) (w:=w) (base:=base) D12 g_colourings Z
  have g_pushed:=Dk (P:=l.prog) (w:=w) (base:=base) D37  Z
  have g_count:=BG (P:=l.prog) (w:=w) (base:=base) D32  Z
  have g_power:=Bt (P:=l.prog) (w:=w) (base:=base) D34  Z
  have g_limit:=Bd (P:=l.prog) (w:=w) (base:=base) D35 g_count g_power Z
  have g_copy:=Ho (P:=l.prog) (w:=w) (base:=base) D20  Z
  have g_l_arcs:=Dl (P:=l.prog) (w:=w) (base:=base) D29  Z
  have g_l_spot:=DI (P:=l.prog) (w:=w) (base:=base) D30  Z
  have g_l_meets:=Fg (P:=l.prog) (w:=w) (base:=base) D31 g_l_arcs g_l_spot Z
  have g_keeps:=B0 (P:=l.prog) (w:=w) (base:=base) D33  Z
  have g_is_whole:=Gn (P:=l.prog) (w:=w) (base:=base) D21  Z
  have g_is_wholes:=Kw (P:=l.prog) (w:=w) (base:=base) D22 g_is_whole Z
  have g_each_fits:=Kq (P:=l.prog) (w:=w) (base:=base) D36 g_l_meets g_count g_keeps g_is_wholes Z
  exact I0 (P:=l.prog) (w:=w) (base:=base) (Xr (st:=Vj) l38 c38 k38) g_drawn g_good_table g_colourings g_many g_pushed g_limit g_copy g_each_fits g_is_whole g_row g_count Z
theorem L8 {l : PySem.W.OpenLaw} {q : Program} {loose : List Str} {XP : (Str -> Option Value) -> Heap -> Prop} {YP : World -> Heap -> Prop} {d : DefRec} {K : Params -> PySem.W.Frag} (hn : l.most = some 63) (hdf : d.params.defaults = [])
    (hY : ∀ (w : World) (h : Heap), YP w h -> (K w.params).In h)
    (F : ∀ (w : World) (mg : Str -> Option Value) (fa : Addr) (h : Heap), (K w.params).In h -> h.Ns mainGlobals mg -> mg d.name = some (.ref fa) ->
      ∃ fd : FuncData, (∀ (s : Shared) (u : Value), BindsTo s fd ⟨[u], []⟩ [("_law_script", u)]) /\ ∀ base : Heap, (K w.params).In base -> base.Ns mainGlobals mg -> FnOk l.prog w (K w.params) mg base CX0 8 fa fd ["_law_script"] (sp1 (rL Xa) (oF XT) Gg (K w.params))) :
    PySem.W.WalkO q loose XP YP l.row.toRowW d [] (fun f vs=>PySem.call f vs):=
  L2.EQ (n:=63) (k:=8) (x:="_law_script") (CX:=fun _=>CX0) (sp:=fun w=>sp1 (rL Xa) (oF XT) Gg (K w.params)) hn (by decide) hdf ⟨rfl, by decide, by decide⟩ hY F (fun _ _ a ns hl _ hS=>⟨.ref a, ns, true, rfl, ⟨a, _, rfl, hS, KO ns⟩, Bz ns hl, fun v C H' w m ho=>ho.2⟩) fun _ _ _ _ _ z=>z
end My
open PySem PySem.W PyProof.Rows
set_option maxRecDepth 100000 in
set_option maxHeartbeats 0 in
theorem PySem.Challenge.cw_plait_k55_one_colour_and_pushed_holds : PySem.Challenge.rw_plait_k55_one_colour_and_pushed.Holds := by
  w_on; o_law; k_head; (case hw => w_witness2)
  k_fill
  refine My.L8 (l := PySem.Challenge.rw_plait_k55_one_colour_and_pushed) rfl rfl (fun w h Y => PySem.W.kIn_of Y) ?F
  case F =>
    intro w mg fa h KX G hmg
    refine' My.Lg KX G hmg ?a1 ?l1 ?c1 ?k1 ?a2 ?l2 ?c2 ?k2 ?a3 ?l3 ?c3 ?k3 ?a4 ?l4 ?c4 ?k4 ?a5 ?l5 ?c5 ?k5 ?a6 ?l6 ?c6 ?k6 ?a7 ?l7 ?c7 ?k7 ?a8 ?l8 ?c8 ?k8 ?a9 ?l9 ?c9 ?k9 ?a10 ?l10 ?c10 ?k10 ?a11 ?l11 ?c11 ?k11 ?a12 ?l12 ?c12 ?k12 ?a13 ?l13 ?c13 ?k13 ?a14 ?l14 ?c14 ?k14 ?a15 ?l15 ?c15 ?k15 ?a16 ?l16 ?c16 ?k16 ?a17 ?l17 ?c17 ?k17 ?a18 ?l18 ?c18 ?k18 ?a19 ?l19 ?c19 ?k19 ?a20 ?l20 ?c20 ?k20 ?a21 ?l21 ?c21 ?k21 ?a22 ?l22 ?c22 ?k22 ?a23 ?l23 ?c23 ?k23 ?a24 ?l24 ?c24 ?k24 ?a25 ?l25 ?c25 ?k25 ?a26 ?l26 ?c26 ?k26 ?a27 ?l27 ?c27 ?k27 ?a28 ?l28 ?c28 ?k28 ?a29 ?l29 ?c29 ?k29 ?a30 ?l30 ?c30 ?k30 ?a31 ?l31 ?c31 ?k31 ?a32 ?l32 ?c32 ?k32 ?a33 ?l33 ?c33 ?k33 ?a34 ?l34 ?c34 ?k34 ?a35 ?l35 ?c35 ?k35 ?a36 ?l36 ?c36 ?k36 ?a37 ?l37 ?c37 ?k37 ?a38 ?l38 ?c38 ?k38 ?z1 ?z2 ?z3 ?z4 ?z5 ?z6 ?z7 ?z8 ?z9 ?z10 ?z11 ?z12 ?z13 ?w0
    (case a1 => k_is); (case l1 => k_is); (case c1 => k_is); (case k1 => k_is); (case a2 => k_is); (case l2 => k_is); (case c2 => k_is); (case k2 => k_is); (case a3 => k_is); (case l3 => k_is); (case c3 => k_is); (case k3 => k_is); (case a4 => k_is); (case l4 => k_is); (case c4 => k_is); (case k4 => k_is); (case a5 => k_is); (case l5 => k_is); (case c5 => k_is); (case k5 => k_is); (case a6 => k_is); (case l6 => k_is); (case c6 => k_is); (case k6 => k_is); (case a7 => k_is); (case l7 => k_is); (case c7 => k_is); (case k7 => k_is); (case a8 => k_is); (case l8 => k_is); (case c8 => k_is); (case k8 => k_is); (case a9 => k_is); (case l9 => k_is); (case c9 => k_is); (case k9 => k_is); (case a10 => k_is); (case l10 => k_is); (case c10 => k_is); (case k10 => k_is); (case a11 => k_is); (case l11 => k_is); (case c11 => k_is); (case k11 => k_is); (case a12 => k_is); (case l12 => k_is); (case c12 => k_is); (case k12 => k_is); (case a13 => k_is); (case l13 => k_is); (case c13 => k_is); (case k13 => k_is); (case a14 => k_is); (case l14 => k_is); (case c14 => k_is); (case k14 => k_is); (case a15 => k_is); (case l15 => k_is); (case c15 => k_is); (case k15 => k_is); (case a16 => k_is); (case l16 => k_is); (case c16 => k_is); (case k16 => k_is); (case a17 => k_is); (case l17 => k_is); (case c17 => k_is); (case k17 => k_is); (case a18 => k_is); (case l18 => k_is); (case c18 => k_is); (case k18 => k_is); (case a19 => k_is); (case l19 => k_is); (case c19 => k_is); (case k19 => k_is); (case a20 => k_is); (case l20 => k_is); (case c20 => k_is); (case k20 => k_is); (case a21 => k_is); (case l21 => k_is); (case c21 => k_is); (case k21 => k_is); (case a22 => k_is); (case l22 => k_is); (case c22 => k_is); (case k22 => k_is); (case a23 => k_is); (case l23 => k_is); (case c23 => k_is); (case k23 => k_is); (case a24 => k_is); (case l24 => k_is); (case c24 => k_is); (case k24 => k_is); (case a25 => k_is); (case l25 => k_is); (case c25 => k_is); (case k25 => k_is); (case a26 => k_is); (case l26 => k_is); (case c26 => k_is); (case k26 => k_is); (case a27 => k_is); (case l27 => k_is); (case c27 => k_is); (case k27 => k_is); (case a28 => k_is); (case l28 => k_is); (case c28 => k_is); (case k28 => k_is); (case a29 => k_is); (case l29 => k_is); (case c29 => k_is); (case k29 => k_is); (case a30 => k_is); (case l30 => k_is); (case c30 => k_is); (case k30 => k_is); (case a31 => k_is); (case l31 => k_is); (case c31 => k_is); (case k31 => k_is); (case a32 => k_is); (case l32 => k_is); (case c32 => k_is); (case k32 => k_is); (case a33 => k_is); (case l33 => k_is); (case c33 => k_is); (case k33 => k_is); (case a34 => k_is); (case l34 => k_is); (case c34 => k_is); (case k34 => k_is); (case a35 => k_is); (case l35 => k_is); (case c35 => k_is); (case k35 => k_is); (case a36 => k_is); (case l36 => k_is); (case c36 => k_is); (case k36 => k_is); (case a37 => k_is); (case l37 => k_is); (case c37 => k_is); (case k37 => k_is); (case a38 => k_is); (case l38 => k_is); (case c38 => k_is); (case k38 => k_is); (case z1 => k_is); (case z2 => k_is); (case z3 => k_is); (case z4 => k_is); (case z5 => k_is); (case z6 => k_is); (case z7 => k_is); (case z8 => k_is); (case z9 => k_is); (case z10 => k_is); (case z11 => k_is); (case z12 => k_is); (case z13 => k_is); (case w0 => k_is)
