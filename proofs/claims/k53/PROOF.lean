import PyProof.Rows.All
import Wide.All
import OpenK.AllK
import Wide.FinOn
import Lean
import PyProof.EqAt
import PyProof.EqKinds
import PyProof.TupleCall
import PySem.Challenge.RW_plait_k53_how_many
set_option Elab.async false
set_option linter.all false
set_option maxRecDepth 100000
namespace L2
open PySem PySem.Spec PyProof.Rows
noncomputable abbrev Key:=Sum Int Str
noncomputable def KY : Key -> Value -> Bool
  | .inl k, v=>Value.isInt k v
  | .inr x, v=>Value.isStrOf x v
noncomputable def IV (w : World) : Key -> Int
  | .inl k=>hashInt k
  | .inr x=>hashStr w x
theorem X1 : ∀ {k : Key} {v : Value}, KY k v = true -> (∃ i t, k = Sum.inl i /\ v = Value.int i t) ∨ (∃ x t, k = Sum.inr x /\ v = Value.str x t)
  | .inl i, v, h=>by
    obtain ⟨t, e⟩:=Value.isInt_shape (k:=i) (v:=v) h
    exact .inl ⟨i, t, rfl, e⟩
  | .inr x, v, h=>by
    obtain ⟨t, e⟩:=Value.isStrOf_shape (x:=x) (v:=v) h
    exact .inr ⟨x, t, rfl, e⟩
theorem GM (i : Int) (t : Tok) : KY (.inl i) (.int i t) = true:=by simp [KY, Value.isInt]
theorem Gm (x : Str) (t : Tok) : KY (.inr x) (.str x t) = true:=by simp [KY, Value.isStrOf]
theorem Ht (a b : Int) : decide ((Sum.inl a : Key) = Sum.inl b) = (a == b):=by
  by_cases e : a = b
  . subst e; simp
  . have h : ¬ (Sum.inl a : Key) = Sum.inl b := fun q => e (Sum.inl.inj q)
    rw [decide_eq_false h]
    exact (beq_eq_false_iff_ne.mpr e).symm
theorem HB (a b : Str) : decide ((Sum.inr a : Key) = Sum.inr b) = decide (a = b):=by
  by_cases e : a = b
  . subst e; simp
  . have h : ¬ (Sum.inr a : Key) = Sum.inr b := fun q => e (Sum.inr.inj q)
    rw [decide_eq_false h, decide_eq_false e]
theorem EV (a : Int) (b : Str) : decide ((Sum.inl a : Key) = Sum.inr b) = false:=decide_eq_false (fun q=>nomatch q)
theorem EF (a : Str) (b : Int) : decide ((Sum.inr a : Key) = Sum.inl b) = false:=decide_eq_false (fun q=>nomatch q)
noncomputable def YY (prog : Program) (w : World) : PySem.KeyKind prog w Key where
  is:=KY
  hash:=IV w
  inj:=fun v a b ha hb=>by
    rcases X1 ha with ⟨i, t, rfl, rfl⟩ | ⟨x, t, rfl, rfl⟩
    . rcases X1 hb with ⟨j, u, rfl, e⟩ | ⟨y, u, rfl, e⟩
      . injection e with e1 _; rw [e1]
      . exact nomatch e
    . rcases X1 hb with ⟨j, u, rfl, e⟩ | ⟨y, u, rfl, e⟩
      . exact nomatch e
      . injection e with e1 _; rw [e1]
  byValue := fun k v h => by
    rcases X1 h with ⟨i, t, rfl, rfl⟩ | ⟨x, t, rfl, rfl⟩ <;> rfl
  pyHash:=fun hv h=>by
    rcases X1 hv with ⟨i, t, rfl, rfl⟩ | ⟨x, t, rfl, rfl⟩
    . exact wpAny_pyHash_int h
    . exact wpAny_pyHash_str h
  eqBool:=fun hu hv h=>by
    rcases X1 hu with ⟨i, t, rfl, rfl⟩ | ⟨x, t, rfl, rfl⟩
    . rcases X1 hv with ⟨j, u, rfl, rfl⟩ | ⟨y, u, rfl, rfl⟩
      . rw [Ht] at h; exact wpAny_eqBool_int h
      . rw [EV] at h; exact SeqAt.EqAt.int_str i t y u _ _ _ _ h
    . rcases X1 hv with ⟨j, u, rfl, rfl⟩ | ⟨y, u, rfl, rfl⟩
      . rw [EF] at h; exact SeqAt.EqAt.str_int x t j u _ _ _ _ h
      . rw [HB] at h; exact wpAny_eqBool_str h
  «strs»:=fun k x t v h=>by
    rcases X1 h with ⟨i, u, rfl, e⟩ | ⟨y, u, rfl, e⟩
    . exact nomatch e
    . injection e with e1 _
      subst e1
      cases v <;> rfl
theorem UK (prog : Program) (w : World) (i : Int) (t : Tok) : (YY prog w).is (.inl i) (.int i t) = true:=GM i t
theorem UX (prog : Program) (w : World) (x : Str) (t : Tok) : (YY prog w).is (.inr x) (.str x t) = true:=Gm x t
end L2
namespace L2
open PySem PySem.Spec PyProof.Rows
inductive V where
  | non | bl (b : Bool) | int (i : Int) | str (x : Str) | byt (b : Array UInt8) | flt (b : UInt64) | ref (a : Addr) | ty (n : String)
  deriving DecidableEq
noncomputable def XV : V -> Value -> Prop
  | .non, u=>u = Value.none
  | .bl b, u=>u = Value.bool b
  | .int i, u=>∃ t, u = Value.int i t
  | .str x, u=>∃ t, u = Value.str x t
  | .byt b, u=>∃ t, u = Value.bytes b t
  | .flt b, u=>∃ t, u = Value.float b t
  | .ref a, u=>u = Value.ref a
  | .ty n, u=>u = Value.type n
noncomputable abbrev XR : List V -> List Value -> Prop:=Paired XV
theorem XR.length {xs : List V} {us : List Value} (r : XR xs us) : xs.length = us.length:=Paired.length r
theorem XR.get : ∀ {xs : List V} {us : List Value} {i : Nat} {x : V}, XR xs us -> xs[i]? = some x -> ∃ u, us[i]? = some u /\ XV x u
  | _, _, _, _, .nil, e=>by simp at e
  | _, _, 0, _, .cons r _, e=>by simp at e; subst e; exact ⟨_, rfl, r⟩
  | _, _, i + 1, x, .cons _ t, e=>by
    obtain ⟨u, h1, h2⟩:=XR.get (i:=i) (x:=x) t (by simpa using e)
    exact ⟨u, by simpa using h1, h2⟩
theorem XR.set {x : V} {u : Value} (r : XV x u) : ∀ {xs : List V} {us : List Value} (i : Nat), XR xs us -> XR (xs.set i x) (us.set i u)
  | _, _, _, .nil=>.nil
  | _, _, 0, .cons _ t=>.cons r t
  | _, _, i + 1, .cons q t=>.cons q (XR.set r i t)
theorem XR.append : ∀ {xs ys : List V} {us ws : List Value}, XR xs us -> XR ys ws -> XR (xs ++ ys) (us ++ ws)
  | _, _, _, _, .nil, s=>s
  | _, _, _, _, .cons r t, s=>.cons r (XR.append t s)
theorem XR.take : ∀ {xs : List V} {us : List Value} (n : Nat), XR xs us -> XR (xs.take n) (us.take n)
  | _, _, 0, _=>.nil
  | _, _, _ + 1, .nil=>.nil
  | _, _, n + 1, .cons r t=>.cons r (XR.take n t)
theorem XR.drop : ∀ {xs : List V} {us : List Value} (n : Nat), XR xs us -> XR (xs.drop n) (us.drop n)
  | _, _, 0, r=>r
  | _, _, _ + 1, .nil=>.nil
  | _, _, n + 1, .cons _ t=>XR.drop n t
noncomputable def Dl : Option V -> Option Value -> Prop
  | some v, some u=>XV v u
  | none, none=>True
  | _, _=>False
noncomputable def KV {κ : Type} : List (κ × V) -> List (κ × Value) -> Prop:=Paired fun (p : κ × V) (q : κ × Value)=>p.1 = q.1 /\ XV p.2 q.2
noncomputable def kV : Key -> V
  | .inl i=>.int i
  | .inr x=>.str x
inductive HO where
  /-- a list -/
  | lst (xs : List V)
  /-- a tuple (never changes) -/
  | tup (xs : List V)
  /-- a dict whose keys are ints and texts; one whose keys are tuples of ints and texts (the empty one is both) -/
  | dK (kvs : List (Key × V)) | dT (kvs : List (List Key × V))
  /-- a set of ints: its members, its size -/
  | set (S : Int -> Bool) (n : Nat)
  /-- an instance of the class at C, its dict at dx, its attributes -/
  | ins (C dx : Addr) (fs : List (Str × V))
  /-- the dict of the instance at x -/
  | own (x : Addr)
  /-- the dict of an exception -/
  | xd (fs : List (Str × V))
  /-- a bound method, f of x -/
  | met (f x : Addr)
  /-- a range object lo, lo + 1, .. below hi -/
  | rng (lo hi : Int)
  /-- a thing that is known to the object (the script; a dict while a loop walks it): read, never written while it is so -/
  | frz (o : Obj) (u : HO)
  /-- a code object's table -/
  | tbl (ps : Array Value)
  /-- any other thing, by what is true of its one object (a def of one's own: SetO a S n:=HO.ext fun h=>..) -/
  | ext (φ : Heap -> Prop)
noncomputable abbrev Hp:=Addr -> Option HO
noncomputable def upd (H : Hp) (a : Addr) (o : HO) : Hp:=fun b=>if b = a then some o else H b
theorem Yu {H : Hp} {a : Addr} {o : HO} : upd H a o a = some o:=by unfold upd; rw [if_pos rfl]
theorem XA {H : Hp} {a b : Addr} {o : HO} (h : b ≠ a) : upd H a o b = H b:=by unfold upd; rw [if_neg h]
theorem XJ {H : Hp} {a b : Addr} {o : HO} (h : H a = some o) (h' : H b = none) : a ≠ b:=by
  intro e; subst e; rw [h] at h'; cases h'
noncomputable def VT (h : Heap) (a : Addr) (items : Array Value) : Prop:=∃ o, h.get? a = some o /\ (o.cls = .type "tuple" /\ o.dict = none) /\ ∃ n, o.data = .seq items n
theorem VT.t {h : Heap} {a : Addr} {items : Array Value} (x : VT h a items) : IsTup h a items:=let ⟨o, ho, c, r⟩:=x; ⟨o, ho, c.1, r⟩
theorem VT.new (h : Heap) (items : Array Value) : VT (h.push { cls:=.type "tuple", data:=.seq items }) h.objs.size items:=⟨_, Heap.get?_push_size _ rfl, ⟨rfl, rfl⟩, _, rfl⟩
section
variable (P : Program) (w : World)
noncomputable def Y2 (H : Hp) (h : Heap) (a : Addr) : HO -> Prop
  | .lst xs=>xs.length <= sizeLine /\ ∃ (its : List Value) (n : Nat), XR xs its /\ h.get? a = some { cls:=.type "list", data:=.seq its.toArray n }
  | .tup xs=>xs.length <= sizeLine /\ ∃ its : List Value, XR xs its /\ VT h a its.toArray
  | .dK kvs=>kvs.length <= sizeLine /\ (a == sysModules) = false /\ ∃ vs, KV kvs vs /\ h.DictOf (YY P w) a vs
  | .dT kvs=>kvs.length <= sizeLine /\ (a == sysModules) = false /\ ∃ xs : List (List Key × Addr × Value),
      Paired (fun (p : List Key × V) (q : List Key × Addr × Value)=>p.1 = q.1 /\ H q.2.1 = some (.tup (p.1.map kV)) /\ XV p.2 q.2.2) kvs xs /\
      ∃ o es ep, h.get? a = some o /\ o.ExactDict /\ o.data = .dict es ep /\ es.toList = xs.map (entryOfKey (tupleKind (YY P w))) /\ (xs.map (·.1)).Nodup
  | .set S n=>h.SetOf (intKind P w) a S n
  | .ins C dx fs=>H dx = some (.own a) /\ fs.length <= 1000 /\ dx ≠ a /\ h.get? a = some (PySem.W.instObj C dx) /\
      ∃ mA, h.Ns1 dx mA /\ (∀ f, Dl (fs.lookup f) (mA f)) /\ PySem.Within mA (fs.map (·.1))
  | .own _=>∃ o, h.get? a = some o
  | .xd fs=>∃ mA, h.Ns1 a mA /\ ∀ f, Dl (fs.lookup f) (mA f)
  | .rng lo hi=>∃ t u v, h.get? a = some { cls:=.type "range", data:=.fields #[.int lo t, .int hi u, .int 1 v] }
  | .frz o u=>h.get? a = some o /\ Y2 H h a u
  | .tbl ps=>h.get? a = some { cls:=.none, data:=.fields ps }
  | .met f x=>h.get? a = some (PySem.W.methodObj (.ref f) (.ref x))
  | .ext φ=>φ h /\ (∃ o, h.get? a = some o) /\ ∀ h1 h2 : Heap, φ h1 -> (∀ o, h1.get? a = some o -> h2.get? a = some o) -> φ h2
noncomputable def HOk (H : Hp) (h : Heap) : Prop:=∀ a o, H a = some o -> Y2 P w H h a o
end
section
variable {P : Program} {w : World} {H H' : Hp} {h h' : Heap} {a : Addr} {o : HO}
theorem Y2.lt (x : Y2 P w H h a o) : a < h.objs.size:=by
  cases o with
  | lst xs=>obtain ⟨_, _, _, _, e⟩:=x; exact Heap.lt_size e
  | tup xs=>obtain ⟨_, _, _, p⟩:=x; exact p.t.lt
  | dK kvs=>obtain ⟨_, _, _, _, o, _, _, e, _⟩:=x; exact Heap.lt_size e
  | dT kvs=>obtain ⟨_, _, _, _, o, _, _, e, _⟩:=x; exact Heap.lt_size e
  | set S n=>obtain ⟨o, _, _, _, e, _⟩:=x; exact Heap.lt_size e
  | ins C dx fs=>obtain ⟨_, _, _, e, _⟩:=x; exact Heap.lt_size e
  | own y=>obtain ⟨_, e⟩:=x; exact Heap.lt_size e
  | xd fs=>obtain ⟨_, ⟨_, _, _, e, _⟩, _⟩:=x; exact Heap.lt_size e
  | rng lo hi=>obtain ⟨_, _, _, e⟩:=x; exact Heap.lt_size e
  | frz ob u=>obtain ⟨e, _⟩:=x; exact Heap.lt_size e
  | tbl ps=>exact Heap.lt_size (show h.get? a = some _ from x)
  | met f y=>exact Heap.lt_size (show h.get? a = some _ from x)
  | ext φ=>obtain ⟨_, ⟨_, e⟩, _⟩:=x; exact Heap.lt_size e
theorem Paired.mapP {α β : Type} {F G : α -> β -> Prop} : ∀ {l₁ : List α} {l₂ : List β}, Paired F l₁ l₂ -> (∀ a b, F a b -> G a b) -> Paired G l₁ l₂
  | _, _, .nil, _=>.nil
  | _, _, .cons r t, f=>.cons (f _ _ r) (Paired.mapP t f)
theorem Y2.stay (x : Y2 P w H h a o) (k : ∀ b u, (b = a ∨ H b = some (.own a)) -> h.get? b = some u -> h'.get? b = some u)
    (ho : ∀ b, H b = some (.own a) -> H' b = some (.own a)) (ht : ∀ b xs, H b = some (.tup xs) -> H' b = some (.tup xs)) : Y2 P w H' h' a o:=by
  induction o with
  | lst xs=>obtain ⟨z, its, n, r, e⟩:=x; exact ⟨z, its, n, r, k _ _ (.inl rfl) e⟩
  | tup xs=>obtain ⟨z, its, r, ob, e, c⟩:=x; exact ⟨z, its, r, ob, k _ _ (.inl rfl) e, c⟩
  | dK kvs=>obtain ⟨z, y, vs, r, ob, es, ep, e, c⟩:=x; exact ⟨z, y, vs, r, ob, es, ep, k _ _ (.inl rfl) e, c⟩
  | dT kvs=>
    obtain ⟨z, y, xs, r, ob, es, ep, e, c⟩:=x
    exact ⟨z, y, xs, Paired.mapP r fun p q z=>⟨z.1, ht _ _ z.2.1, z.2.2⟩, ob, es, ep, k _ _ (.inl rfl) e, c⟩
  | set S n=>obtain ⟨ob, es, ep, t, e, c⟩:=x; exact ⟨ob, es, ep, t, k _ _ (.inl rfl) e, c⟩
  | ins C dx fs=>
    obtain ⟨d, z, ne, e, mA, ⟨od, es, ep, e2, c⟩, r⟩:=x
    exact ⟨ho _ d, z, ne, k _ _ (.inl rfl) e, mA, ⟨od, es, ep, k _ _ (.inr d) e2, c⟩, r⟩
  | own y=>obtain ⟨ob, e⟩:=x; exact ⟨ob, k _ _ (.inl rfl) e⟩
  | xd fs=>obtain ⟨mA, ⟨od, es, ep, e, c⟩, r⟩:=x; exact ⟨mA, ⟨od, es, ep, k _ _ (.inl rfl) e, c⟩, r⟩
  | rng lo hi=>obtain ⟨t, u, v, e⟩:=x; exact ⟨t, u, v, k _ _ (.inl rfl) e⟩
  | frz ob u ih=>obtain ⟨e, q⟩:=x; exact ⟨k _ _ (.inl rfl) e, ih q⟩
  | tbl ps=>
    have e : h.get? a = some { cls:=.none, data:=.fields ps }:=x
    show h'.get? a = some { cls:=.none, data:=.fields ps }
    exact k a _ (.inl rfl) e
  | met f y=>
    have e : h.get? a = some (PySem.W.methodObj (.ref f) (.ref y)):=x
    show h'.get? a = some (PySem.W.methodObj (.ref f) (.ref y))
    exact k a _ (.inl rfl) e
  | ext φ=>obtain ⟨p, ⟨o, e⟩, st⟩:=x; exact ⟨st _ _ p fun o q=>k _ _ (.inl rfl) q, ⟨o, k _ _ (.inl rfl) e⟩, st⟩
theorem HOk.lt (x : HOk P w H h) (e : H a = some o) : a < h.objs.size:=(x a o e).lt
theorem HOk.fresh (x : HOk P w H h) (e : h.objs.size <= a) : H a = none:=by
  cases q : H a with
  | none=>rfl
  | some u=>exact absurd (Nat.lt_of_lt_of_le (x.lt q) e) (Nat.lt_irrefl _)
theorem HOk.kept (x : HOk P w H h) (k : ∀ b u, h.get? b = some u -> h'.get? b = some u) : HOk P w H h':=fun a o e=>
  (x a o e).stay (fun b u _ q=>k b u q) (fun _ q=>q) fun _ _ q=>q
theorem HOk.laid (x : HOk P w H h) (k : ∀ b u, h.get? b = some u -> h'.get? b = some u) (hp : h.objs.size <= a) (new : Y2 P w (upd H a o) h' a o) : HOk P w (upd H a o) h':=fun b u e=>by
  have hn:=x.fresh hp
  by_cases hb : b = a
  . subst hb; rw [Yu] at e; cases e; exact new
  . rw [XA hb] at e
    exact (x b u e).stay (fun c v _ q=>k c v q) (fun c q=>by rw [XA (XJ q hn)]; exact q) fun c xs q=>by rw [XA (XJ q hn)]; exact q
end
noncomputable def Rd (H : Hp) (a : Addr) (u : HO) : Prop:=H a = some u ∨ ∃ o, H a = some (.frz o u)
theorem Rd.of {H : Hp} {a : Addr} {u : HO} (h : H a = some u) : Rd H a u:=.inl h
theorem Rd.ok {P : Program} {w : World} {H : Hp} {h : Heap} {a : Addr} {u : HO} (r : Rd H a u) (x : HOk P w H h) : Y2 P w H h a u:=by
  rcases r with r | ⟨o, r⟩
  . exact x a u r
  . obtain ⟨_, q⟩ := x a _ r
    exact q
noncomputable def Mut : Option HO -> Prop
  | some (.lst _)=>True
  | some (.dK _)=>True
  | some (.dT _)=>True
  | some (.set _ _)=>True
  | some (.ins _ _ _)=>True
  | some (.ext _)=>True
  | _=>False
section
variable {P : Program} {w : World} {H : Hp} {h h' : Heap} {x e : Addr} {o' : HO}
theorem HOk.write (ok : HOk P w H h) (mu : Mut (H x)) (he : e = x ∨ H e = some (.own x)) (k : ∀ b u, b ≠ e -> h.get? b = some u -> h'.get? b = some u) (heo : ∃ u, h'.get? e = some u)
    (new : Y2 P w (upd H x o') h' x o') : HOk P w (upd H x o') h':=fun b u q=>by
  have nown : ∀ c y, H c = some (.own y) -> c ≠ x:=fun c y r z=>by subst z; rw [r] at mu; exact mu
  have ntup : ∀ c xs, H c = some (.tup xs) -> c ≠ x:=fun c xs r z=>by subst z; rw [r] at mu; exact mu
  by_cases hb : b = x
  . subst hb; rw [Yu] at q; cases q; exact new
  . rw [XA hb] at q
    by_cases hbe : b = e
    . have q' : H b = some (.own x):=by
        rcases he with z | z
        . exact absurd (hbe.trans z) hb
        . rw [hbe]; exact z
      rw [q] at q'; cases q'
      obtain ⟨v, hv⟩:=heo
      exact ⟨v, by rw [hbe]; exact hv⟩
    . refine (ok b u q).stay (fun c v hc r => k c v ?_ r) (fun c r => by rw [XA (nown c b r)]; exact r) fun c xs r => by rw [XA (ntup c xs r)]; exact r
      rcases hc with rfl | hc
      . exact hbe
      . rintro rfl
        rcases he with z | z
        . exact nown c b hc z
        . rw [hc] at z; cases z; exact hb rfl
end
structure Un (fs ex : List Addr) (H H' : Hp) (h h' : Heap) : Prop where
  keep : ∀ b o, h.get? b = some o -> H b = none -> b ∉ fs -> b ∉ ex -> h'.get? b = some o
  slot : ∀ b o, h.get? b = some o -> H b = none -> b ∈ fs -> b ∉ ex -> ∃ sl, h'.get? b = some { o with slots:=sl }
  free : ∀ b o, h.get? b = some o -> H b = none -> b ∉ ex -> H' b = none
  there : ∀ b o, h.get? b = some o -> b ∉ ex -> ∃ o', h'.get? b = some o'
  tups : ∀ b xs, H b = some (.tup xs) -> H' b = some (.tup xs)
  frzs : ∀ b o u, H b = some (.frz o u) -> H' b = some (.frz o u)
  tbls : ∀ b ps, H b = some (.tbl ps) -> ∃ more, H' b = some (.tbl (ps ++ more))
section
variable {fs fs' ex ex' : List Addr} {H H1 H2 : Hp} {h h1 h2 h' : Heap} {a x e : Addr} {o : HO}
theorem Un.any (u : Un fs ex H H1 h h1) {b : Addr} {ob : Obj} (q : h.get? b = some ob) (n : H b = none) (hx : b ∉ ex) : ∃ sl, h1.get? b = some { ob with slots:=sl }:=by
  by_cases hb : b ∈ fs
  . exact u.slot b ob q n hb hx
  . exact ⟨ob.slots, u.keep b ob q n hb hx⟩
theorem Un.trans (a : Un fs ex H H1 h h1) (b : Un fs ex H1 H2 h1 h2) : Un fs ex H H2 h h2 where
  keep:=fun c ob q n hc hx=>b.keep c ob (a.keep c ob q n hc hx) (a.free c ob q n hx) hc hx
  slot:=fun c ob q n hc hx=>by
    obtain ⟨sl, e1⟩:=a.slot c ob q n hc hx
    obtain ⟨sl', e2⟩:=b.slot c _ e1 (a.free c ob q n hx) hc hx
    exact ⟨sl', e2⟩
  free:=fun c ob q n hx=>by
    obtain ⟨o', e1⟩:=a.there c ob q hx
    exact b.free c o' e1 (a.free c ob q n hx) hx
  there:=fun c ob q hx=>by
    obtain ⟨o', e1⟩:=a.there c ob q hx
    exact b.there c o' e1 hx
  tups:=fun c xs q=>b.tups c xs (a.tups c xs q)
  frzs:=fun c ob xs q=>b.frzs c ob xs (a.frzs c ob xs q)
  tbls:=fun c ps q=>by
    obtain ⟨m1, e1⟩:=a.tbls c ps q
    obtain ⟨m2, e2⟩:=b.tbls c _ e1
    exact ⟨m1 ++ m2, by rw [e2, Array.append_assoc]⟩
theorem Un.kept (k : ∀ b u, h.get? b = some u -> h'.get? b = some u) : Un fs ex H H h h':=
  ⟨fun b ob q _ _ _=>k b ob q, fun b ob q _ _ _=>⟨ob.slots, k b ob q⟩, fun _ _ _ n _=>n, fun b ob q _=>⟨ob, k b ob q⟩, fun _ _ q=>q, fun _ _ _ q=>q, fun _ ps q=>⟨#[], by rw [q]; simp⟩⟩
theorem Un.refl : Un fs ex H H h h:=Un.kept fun _ _ q=>q
theorem Un.laid (k : ∀ b u, h.get? b = some u -> h'.get? b = some u) (hp : h.objs.size <= a) (hn : H a = none) : Un fs ex H (upd H a o) h h' where
  keep:=fun b u q _ _ _=>k b u q
  slot:=fun b u q _ _ _=>⟨u.slots, k b u q⟩
  free:=fun b u q n _=>by rw [XA (Nat.ne_of_lt (Nat.lt_of_lt_of_le (Heap.lt_size q) hp))]; exact n
  there:=fun b u q _=>⟨u, k b u q⟩
  tups:=fun b xs q=>by rw [XA (XJ q hn)]; exact q
  frzs:=fun b u xs q=>by rw [XA (XJ q hn)]; exact q
  tbls:=fun b ps q=>⟨#[], by rw [XA (XJ q hn), q]; simp⟩
theorem Un.write (mu : Mut (H x)) (he : e = x ∨ H e = some (.own x)) (k : ∀ b u, b ≠ e -> h.get? b = some u -> h'.get? b = some u) (heo : ∃ u, h'.get? e = some u) : Un fs ex H (upd H x o) h h':=by
  have hx : ∀ b, H b = none -> b ≠ x:=fun b n z=>by subst z; rw [n] at mu; exact mu
  have hb : ∀ b, H b = none -> b ≠ e:=fun b n z=>by
    subst z
    rcases he with r | r
    . exact hx b n r
    . rw [n] at r; cases r
  have hm : ∀ b u, H b = some u -> ¬ Mut (some u) -> b ≠ x:=fun b u q nm z=>by subst z; rw [q] at mu; exact nm mu
  refine ⟨fun b u q n _ _=>k b u (hb b n) q, fun b u q n _ _=>⟨u.slots, k b u (hb b n) q⟩, fun b u q n _=>by rw [XA (hx b n)]; exact n, fun b u q _=>?_,
    fun b xs q=>by rw [XA (hm b _ q fun z=>z)]; exact q, fun b u xs q=>by rw [XA (hm b _ q fun z=>z)]; exact q, fun b ps q=>⟨#[], by rw [XA (hm b _ q fun z=>z), q]; simp⟩⟩
  by_cases hbe : b = e
  . subst hbe; exact heo
  . exact ⟨u, k b u hbe q⟩
theorem Un.mono (u : Un fs ex H H1 h h1) (hs : ∀ b ∈ fs, b ∈ fs') (hx : ∀ b ∈ ex, b ∈ ex') : Un fs' ex' H H1 h h1:=
  ⟨fun b ob q n hb he=>u.keep b ob q n (fun z=>hb (hs b z)) fun z=>he (hx b z), fun _ _ q n _ he=>u.any q n fun z=>he (hx _ z), fun b ob q n he=>u.free b ob q n fun z=>he (hx b z), fun b ob q he=>u.there b ob q fun z=>he (hx b z), u.tups, u.frzs, u.tbls⟩
end
noncomputable def trk (h : Heap) (H : Hp) : List Addr:=(List.range h.objs.size).filter fun a=>(H a).isSome
noncomputable def F5 (h : Heap) (H : Hp) : Heap:=PySem.W.hideAll h (trk h H)
theorem FN (h : Heap) (H : Hp) : (F5 h H).objs.size = h.objs.size:=PySem.W.hideAll_size _ _
theorem KJ {h : Heap} {H : Hp} {b : Addr} {o : Obj} (e : h.get? b = some o) (n : H b = none) : (F5 h H).get? b = some o:=
  PySem.W.hideAll_get _ e fun hm=>by
    have q : (H b).isSome = true:=(List.mem_filter.mp hm).2
    rw [n] at q; simp at q
theorem GF {h : Heap} {H : Hp} {b : Addr} {o : Obj} (e : (F5 h H).get? b = some o) : h.get? b = some o /\ H b = none:=by
  have e' : h.get? b = some o:=PySem.W.of_hideAll (trk h H) e
  refine ⟨e', ?_⟩
  cases q : H b with
  | none=>rfl
  | some x=>
    have hm : b ∈ trk h H:=List.mem_filter.mpr ⟨List.mem_range.mpr (Heap.lt_size e'), by simp [q]⟩
    have z : (F5 h H).get? b = none:=PySem.W.hideAll_none (trk h H) hm
    rw [z] at e; cases e
noncomputable def Bp (g h : Heap) (L : Addr) : List (Addr × Obj):=(List.range h.objs.size).filterMap fun a=>if a = L ∨ (g.get? a).isSome = true then none else (h.get? a).map fun o=>(a, o)
noncomputable def Zn (g h : Heap) (L d : Addr) : List (Addr × Obj):=(Bp g h L).filter fun p=>decide (p.1 ≠ d)
end L2
namespace L2
open PySem PySem.Spec PyProof.Rows
structure Mod (K : PySem.W.Frag) (mg : Str -> Option Value) (base : Heap) : Prop where
  kin : K.In base
  glob : base.Ns mainGlobals mg
  blt : ∃ mb, base.Ns builtinsNs mb /\ ∀ x : Str, x ≠ "__name__" -> mb x = bootBuiltins x
  nolimit : base.NoLimit
structure Cx where
  prog : Program
  w : World
  K : PySem.W.Frag
  mg : Str -> Option Value
  base : Heap
  A : Around
  N : List Str
  s₀ : Shared
  H₀ : Hp
  env : Env
  outer : List Env
  stack : List Env
  ex : List Addr
  fn : Str -> Bool
  calm : Bool
  pn : List (Addr × Obj)
  xe : Value -> Shared -> Prop
noncomputable def frs (l : List Env) : List Addr:=l.filterMap (·.frame)
noncomputable abbrev Cx.fs (X : Cx) : List Addr:=frs X.outer
noncomputable def Vis (sc : Scope) (x : Str) : Prop:=sc.names.lookup x = some .local ∨ sc.names.lookup x = some .cell ∨ sc.names.lookup x = some .free
noncomputable def Loc (sc : Scope) (x : Str) : Prop:=sc.names.lookup x = some .local ∨ sc.names.lookup x = some .cell
noncomputable def IU (env : Env) (h : Heap) (m : Str -> Option Value) (x : Str) (u : Value) : Prop:=
  (env.kindOf x = some .local /\ m x = some u) ∨ ((env.kindOf x = some .cell ∨ env.kindOf x = some .free) /\ ∃ c, env.cells.lookup x = some c /\ h.IsCell c (some u))
structure Cx.Ok (X : Cx) : Prop where
  mod : Mod X.K X.mg X.base
  kind : X.env.scope.kind = .function
  glob : X.env.globals = mainGlobals
  blt : X.env.builtins = builtinsNs
  above : X.s₀.heap.objs.size <= X.env.locals
  inj : ∀ x y c, X.env.cells.lookup x = some c -> X.env.cells.lookup y = some c -> x = y
  has : ∀ x, (X.env.kindOf x = some .cell ∨ X.env.kindOf x = some .free) -> ∃ c, X.env.cells.lookup x = some c
  cab : ∀ x c, X.fn x = true -> X.env.cells.lookup x = some c -> X.s₀.heap.objs.size <= c
  hd : X.calm = true -> X.A.handled = none
  frames : X.A.frames = some X.stack
  stk : X.stack = X.outer ∨ (X.stack = X.env :: X.outer /\ X.env.frame = some X.env.locals)
  exf : ∀ b ∈ X.ex, b ≠ X.env.locals /\ ∀ x c, X.env.cells.lookup x = some c -> c ≠ b
  bs : ∀ b o, X.base.get? b = some o -> X.s₀.heap.get? b = some o /\ X.H₀ b = none
  bsz : X.base.objs.size <= X.s₀.heap.objs.size
  noex : ∀ b o, X.base.get? b = some o -> b ∉ X.ex
  exfs : ∀ b ∈ X.ex, b ∉ X.fs
  funs : X.s₀.heap.FunFrames X.base X.outer
  frf : ∀ b ∈ X.fs, X.H₀ b = none
structure Inv (X : Cx) (pins : List (Addr × Obj)) (σ : List (Option V)) (H : Hp) (s : Shared) : Prop where
  ok : X.Ok
  os : s.os = X.s₀.os
  bare : AllBare s.gens
  base : Un X.fs X.ex X.H₀ H X.s₀.heap s.heap
  loc : ∃ m, s.heap.Ns X.env.locals m /\ ∀ (i : Nat) (x : Str) (v : V), X.N[i]? = some x -> σ[i]? = some (some v) -> Vis X.env.scope x -> ∃ u, XV v u /\ IU X.env s.heap m x u
  cell : ∀ x c, X.env.cells.lookup x = some c -> ∃ v, s.heap.IsCell c v
  free : H X.env.locals = none
  freeC : ∀ x c, X.env.cells.lookup x = some c -> H c = none
  pin : ∀ p ∈ X.pn ++ pins, s.heap.get? p.1 = some p.2 /\ H p.1 = none /\ p.1 ≠ X.env.locals /\ p.1 ∉ X.fs /\ ∀ v, p.2.data ≠ .cell v
  hok : HOk X.prog X.w H s.heap
  len : σ.length = X.N.length
section
variable {X : Cx} {pins : List (Addr × Obj)} {σ : List (Option V)} {H H' : Hp} {s : Shared} {h' : Heap}
theorem Cx.Ok.nofr (ok : X.Ok) {b : Addr} {o : Obj} (e : X.base.get? b = some o) : b ∉ X.fs:=fun hb=>by
  have:=(ok.funs.mem hb).1
  rw [e] at this; cases this
theorem Inv.bs (I : Inv X pins σ H s) : ∀ b o, X.base.get? b = some o -> s.heap.get? b = some o /\ H b = none:=fun b o e=>
  ⟨I.base.keep b o (I.ok.bs b o e).1 (I.ok.bs b o e).2 (I.ok.nofr e) (I.ok.noex b o e), I.base.free b o (I.ok.bs b o e).1 (I.ok.bs b o e).2 (I.ok.noex b o e)⟩
theorem Inv.bk (I : Inv X pins σ H s) : ∀ b o, X.base.get? b = some o -> s.heap.get? b = some o:=fun b o e=>(I.bs b o e).1
theorem Inv.mod (I : Inv X pins σ H s) : Mod X.K X.mg X.base:=I.ok.mod
theorem Inv.kIn (I : Inv X pins σ H s) : X.K.In s.heap:=I.ok.mod.kin.keeps I.bk
theorem Inv.nolimit (I : Inv X pins σ H s) : s.heap.NoLimit:=I.ok.mod.nolimit.keeps I.bk
theorem Inv.lt (I : Inv X pins σ H s) : X.env.locals < s.heap.objs.size:=let ⟨_, hn, _⟩:=I.loc; hn.lt
theorem Inv.sz (I : Inv X pins σ H s) : X.s₀.heap.objs.size <= s.heap.objs.size:=Nat.le_trans I.ok.above (Nat.le_of_lt I.lt)
theorem Inv.nofs (I : Inv X pins σ H s) {a : Addr} (h : s.heap.objs.size <= a) : a ∉ X.fs:=fun hb=>by
  obtain ⟨_, o, ho, _⟩:=I.ok.funs.mem hb
  exact absurd (Nat.lt_of_lt_of_le (Heap.lt_size ho) (Nat.le_trans I.sz h)) (Nat.lt_irrefl _)
theorem Inv.cne (I : Inv X pins σ H s) : ∀ x c, X.env.cells.lookup x = some c -> c ≠ X.env.locals:=fun x c e z=>by
  obtain ⟨v, o, ho, hd⟩:=I.cell x c e
  obtain ⟨m, ⟨o', es, ep, ho', hd', _⟩, _⟩:=I.loc
  rw [z, ho'] at ho; cases ho; rw [hd'] at hd; cases hd
theorem Inv.funs (I : Inv X pins σ H s) : s.heap.FunFrames X.base X.outer:=by
  have all : ∀ (l : List Env), (∀ b ∈ frs l, b ∈ X.fs) -> X.s₀.heap.FunFrames X.base l -> s.heap.FunFrames X.base l:=by
    intro l
    induction l with
    | nil=>intro _ _; trivial
    | cons env r ih=>
      intro hs hl
      obtain ⟨hk, ⟨L, o, hf, hn, ho, hd⟩, hr⟩:=hl
      have hL : L ∈ X.fs:=hs L (by unfold frs; rw [List.filterMap_cons, hf]; exact List.mem_cons_self)
      obtain ⟨sl, e⟩:=I.base.slot L o ho (I.ok.frf L hL) hL fun z=>I.ok.exfs L z hL
      exact ⟨hk, ⟨L, _, hf, hn, e, hd⟩, ih (fun b hb=>hs b (by unfold frs; rw [List.filterMap_cons, hf]; exact List.mem_cons_of_mem _ hb)) hr⟩
  exact all X.outer (fun _ hb=>hb) I.ok.funs
theorem Inv.stack (I : Inv X pins σ H s) : s.heap.FunFrames X.base X.stack:=by
  rcases I.ok.stk with e | ⟨e, hf⟩
  . rw [e]; exact I.funs
  . rw [e]
    obtain ⟨m, hn, _⟩:=I.loc
    refine .cons (by rw [I.ok.kind]; decide) hf hn ?_ I.funs
    exact Heap.get?_none_of_le (Nat.le_trans I.ok.bsz I.ok.above)
theorem Inv.stkSub (I : Inv X pins σ H s) : ∀ b ∈ frs X.stack, b ∈ X.env.locals :: X.fs:=fun b hb=>by
  rcases I.ok.stk with e | ⟨e, hf⟩
  . rw [e] at hb; exact List.mem_cons_of_mem _ hb
  . rw [e] at hb
    unfold frs at hb
    rw [List.filterMap_cons, hf] at hb
    exact hb
theorem Inv.stkFree (I : Inv X pins σ H s) : ∀ b ∈ frs X.stack, H b = none:=fun b hb=>by
  rcases List.mem_cons.mp (I.stkSub b hb) with e | hb
  . rw [e]; exact I.free
  . obtain ⟨_, o, ho, _⟩ := I.ok.funs.mem hb
    exact I.base.free b o ho (I.ok.frf b hb) fun z=>I.ok.exfs b z hb
theorem Inv.step {g' : Array GenState} {t' : Nat} {d' : Drawn} {ch : List Addr} (I : Inv X pins σ H s)
    (hch : ∀ b ∈ ch, (b ∈ X.ex ∨ X.s₀.heap.objs.size <= b) /\ b ≠ X.env.locals /\ (∀ x c, X.env.cells.lookup x = some c -> c ≠ b) /\ ∀ p ∈ X.pn ++ pins, p.1 ≠ b)
    (keep : ∀ b o, b ≠ X.env.locals -> b ∉ X.fs -> b ∉ ch -> s.heap.get? b = some o -> H b = none -> h'.get? b = some o)
    (slot : ∀ b o, b ≠ X.env.locals -> b ∈ X.fs -> b ∉ ch -> s.heap.get? b = some o -> H b = none -> ∃ sl, h'.get? b = some { o with slots:=sl }) (free : ∀ b o, b ∉ ch -> s.heap.get? b = some o -> H b = none -> H' b = none)
    (there : ∀ b o, b ∉ ch -> s.heap.get? b = some o -> ∃ o', h'.get? b = some o')
    (tups : ∀ b xs, H b = some (.tup xs) -> H' b = some (.tup xs)) (frzs : ∀ b o u, H b = some (.frz o u) -> H' b = some (.frz o u)) (tbls : ∀ b ps, H b = some (.tbl ps) -> ∃ more, H' b = some (.tbl (ps ++ more)))
    (ns : ∀ m, s.heap.Ns X.env.locals m -> h'.Ns X.env.locals m) (hok : HOk X.prog X.w H' h') (hg : AllBare g') :
    Inv X pins σ H' { s with heap:=h', gens:=g', drawn:=d', toks:=t' }:=by
  have neL : ∀ b o, X.s₀.heap.get? b = some o -> b ≠ X.env.locals:=fun b o e=>Nat.ne_of_lt (Nat.lt_of_lt_of_le (Heap.lt_size e) I.ok.above)
  have neC : ∀ b o, X.s₀.heap.get? b = some o -> b ∉ X.ex -> b ∉ ch:=fun b o e hx hb=>by
    rcases (hch b hb).1 with z | z
    . exact hx z
    . exact absurd (Nat.lt_of_lt_of_le (Heap.lt_size e) z) (Nat.lt_irrefl _)
  have cellK : ∀ x c, X.env.cells.lookup x = some c -> ∀ v, s.heap.IsCell c v -> h'.IsCell c v:=fun x c e v ⟨o, ho, hd⟩=>by
    have nch : c ∉ ch:=fun z=>(hch c z).2.2.1 x c e rfl
    by_cases hc : c ∈ X.fs
    . obtain ⟨sl, q⟩ := slot c o (I.cne x c e) hc nch ho (I.freeC x c e)
      exact ⟨_, q, hd⟩
    . exact ⟨o, keep c o (I.cne x c e) hc nch ho (I.freeC x c e), hd⟩
  refine ⟨I.ok, I.os, hg, ⟨fun b o e n hb hx=>?_, fun b o e n hb hx=>?_, fun b o e n hx=>?_, fun b o e hx=>?_, fun b xs e=>tups b xs (I.base.tups b xs e), fun b o xs e=>frzs b o xs (I.base.frzs b o xs e), fun b ps e=>?_⟩, ?_, fun x c e=>?_, ?_, fun x c e=>?_, fun p hp=>?_, hok, I.len⟩
  . exact keep b o (neL b o e) hb (neC b o e hx) (I.base.keep b o e n hb hx) (I.base.free b o e n hx)
  . obtain ⟨sl, e1⟩ := I.base.slot b o e n hb hx
    obtain ⟨sl', e2⟩:=slot b _ (neL b o e) hb (neC b o e hx) e1 (I.base.free b o e n hx)
    exact ⟨sl', e2⟩
  . obtain ⟨o', e1⟩ := I.base.there b o e hx
    exact free b o' (neC b o e hx) e1 (I.base.free b o e n hx)
  . obtain ⟨o', e1⟩ := I.base.there b o e hx
    exact there b o' (neC b o e hx) e1
  . obtain ⟨m1, e1⟩ := I.base.tbls b ps e
    obtain ⟨m2, e2⟩:=tbls b _ e1
    exact ⟨m1 ++ m2, by rw [e2, Array.append_assoc]⟩
  . obtain ⟨m, hn, hl⟩ := I.loc
    refine ⟨m, ns m hn, fun i x v e1 e2 e3=>?_⟩
    obtain ⟨u, r, l⟩:=hl i x v e1 e2 e3
    refine ⟨u, r, ?_⟩
    rcases l with l | ⟨k, c, e, z⟩
    . exact .inl l
    . exact .inr ⟨k, c, e, cellK x c e _ z⟩
  . obtain ⟨v, z⟩ := I.cell x c e
    exact ⟨v, cellK x c e v z⟩
  . obtain ⟨m, ⟨o, _, _, ho, _⟩, _⟩ := I.loc
    exact free _ o (fun z=>(hch _ z).2.1 rfl) ho I.free
  . obtain ⟨v, o, ho, hd⟩ := I.cell x c e
    exact free c o (fun z=>(hch c z).2.2.1 x c e rfl) ho (I.freeC x c e)
  . obtain ⟨e, n, ne, nf, d⟩ := I.pin p hp
    have nch : p.1 ∉ ch:=fun z=>(hch p.1 z).2.2.2 p hp rfl
    exact ⟨keep p.1 p.2 ne nf nch e n, free p.1 p.2 nch e n, ne, nf, d⟩
theorem Inv.un {t' : Nat} (I : Inv X pins σ H s) (u : Un X.fs [] H H' s.heap h') (hok : HOk X.prog X.w H' h') : Inv X pins σ H' { s with heap:=h', toks:=t' }:=by
  obtain ⟨m, ⟨o, es, ep, ho, r⟩, _⟩:=id I.loc
  obtain ⟨sl, hL⟩:=u.any ho I.free (by simp)
  exact I.step (g':=s.gens) (d':=s.drawn) (ch:=[]) (fun _ z=>nomatch z) (fun b o _ hb _ e n=>u.keep b o e n hb (by simp)) (fun b o _ hb _ e n=>u.slot b o e n hb (by simp)) (fun b o _ e n=>u.free b o e n (by simp)) (fun b o _ e=>u.there b o e (by simp)) u.tups u.frzs u.tbls (fun m' hm=>by
    obtain ⟨o', es', ep', ho', r'⟩:=hm
    rw [ho] at ho'; cases ho'
    exact ⟨_, es', ep', hL, r'⟩) hok I.bare
theorem Inv.call {g' : Array GenState} {t' : Nat} {d' : Drawn} {ch : List Addr} (I : Inv X pins σ H s) (u : Un (frs X.stack) ch H H' s.heap h') (hok : HOk X.prog X.w H' h') (hg : AllBare g')
    (hch : ∀ b ∈ ch, (b ∈ X.ex ∨ X.s₀.heap.objs.size <= b) /\ b ≠ X.env.locals /\ (∀ x c, X.env.cells.lookup x = some c -> c ≠ b) /\ ∀ p ∈ X.pn ++ pins, p.1 ≠ b) :
    Inv X pins σ H' { s with heap:=h', gens:=g', drawn:=d', toks:=t' }:=by
  obtain ⟨m, ⟨o, es, ep, ho, r⟩, _⟩:=id I.loc
  obtain ⟨sl, hL⟩:=u.any ho I.free fun z=>(hch _ z).2.1 rfl
  exact I.step (ch:=ch) hch (fun b o hL hb hc e n=>u.keep b o e n (fun z=>(List.mem_cons.mp (I.stkSub b z)).elim hL hb) hc) (fun b o _ _ hc e n=>u.any e n hc) (fun b o hc e n=>u.free b o e n hc) (fun b o hc e=>u.there b o e hc) u.tups u.frzs u.tbls (fun m' hm=>by
    obtain ⟨o', es', ep', ho', r'⟩:=hm
    rw [ho] at ho'; cases ho'
    exact ⟨_, es', ep', hL, r'⟩) hok hg
theorem Inv.turned {t' : Nat} {it : Addr} (I : Inv X pins σ H s) (k : ∀ b o, b ≠ it -> s.heap.get? b = some o -> h'.get? b = some o) (hn : H it = none) (hL : it ≠ X.env.locals)
    (h1 : it ∈ X.ex ∨ X.s₀.heap.objs.size <= it) (h2 : ∀ x c, X.env.cells.lookup x = some c -> c ≠ it) (h3 : ∀ p ∈ X.pn ++ pins, p.1 ≠ it) : Inv X pins σ H { s with heap:=h', toks:=t' }:=by
  have nit : ∀ b u, H b = some u -> b ≠ it:=fun b u e z=>by rw [z, hn] at e; cases e
  refine I.step (g':=s.gens) (d':=s.drawn) (ch:=[it]) (fun b hb=>?_) (fun b o _ _ hc e _=>k b o (fun z=>hc (by simp [z])) e) (fun b o _ _ hc e _=>⟨o.slots, k b o (fun z=>hc (by simp [z])) e⟩) (fun _ _ _ _ n=>n)
    (fun b o hc e=>⟨o, k b o (fun z=>hc (by simp [z])) e⟩) (fun _ _ e=>e) (fun _ _ _ e=>e) (fun b ps e=>⟨#[], by rw [e]; simp⟩) (fun m hm=>?_) (fun b u e=>?_) I.bare
  . have e : b = it := by simpa using hb
    subst e
    exact ⟨h1, hL, h2, h3⟩
  . obtain ⟨o, es, ep, ho, r⟩ := hm
    exact ⟨o, es, ep, k _ o (Ne.symm hL) ho, r⟩
  . refine (I.hok b u e).stay (fun c v hc q => k c v ?_ q) (fun _ q => q) fun _ _ q => q
    rcases hc with z | z
    . rw [z]; exact nit b u e
    . exact nit c _ z
theorem Inv.tok (I : Inv X pins σ H s) (t : Nat) : Inv X pins σ H { s with toks:=t }:=I.un (h':=s.heap) (t':=t) Un.refl I.hok
theorem Inv.kept {t' : Nat} (I : Inv X pins σ H s) (k : ∀ b u, s.heap.get? b = some u -> h'.get? b = some u) : Inv X pins σ H { s with heap:=h', toks:=t' }:=I.un (Un.kept k) (I.hok.kept k)
theorem Inv.laid {a : Addr} {o : HO} {t' : Nat} (I : Inv X pins σ H s) (k : ∀ b u, s.heap.get? b = some u -> h'.get? b = some u) (hp : s.heap.objs.size <= a) (new : Y2 X.prog X.w (upd H a o) h' a o) :
    Inv X pins σ (upd H a o) { s with heap:=h', toks:=t' }:=I.un (Un.laid k hp (I.hok.fresh hp)) (I.hok.laid k hp new)
theorem Inv.write {x e : Addr} {o : HO} {t' : Nat} (I : Inv X pins σ H s) (mu : Mut (H x)) (he : e = x ∨ H e = some (.own x)) (k : ∀ b u, b ≠ e -> s.heap.get? b = some u -> h'.get? b = some u) (heo : ∃ u, h'.get? e = some u)
    (new : Y2 X.prog X.w (upd H x o) h' x o) : Inv X pins σ (upd H x o) { s with heap:=h', toks:=t' }:=I.un (Un.write mu he k heo) (I.hok.write mu he k heo new)
theorem Inv.weak {σ' : List (Option V)} (I : Inv X pins σ H s) (hl : σ'.length = σ.length) (w : ∀ (i : Nat) v, σ'[i]? = some (some v) -> σ[i]? = some (some v)) : Inv X pins σ' H s:=
  ⟨I.ok, I.os, I.bare, I.base, let ⟨m, hn, hl'⟩:=I.loc; ⟨m, hn, fun i x v e1 e2 e3=>hl' i x v e1 (w i v e2) e3⟩, I.cell, I.free, I.freeC, I.pin, I.hok, hl.trans I.len⟩
theorem Inv.pins_of {pins' : List (Addr × Obj)} (I : Inv X pins σ H s) (h : ∀ p ∈ pins', s.heap.get? p.1 = some p.2 /\ H p.1 = none /\ p.1 ≠ X.env.locals /\ p.1 ∉ X.fs /\ ∀ v, p.2.data ≠ .cell v) : Inv X pins' σ H s:=
  ⟨I.ok, I.os, I.bare, I.base, I.loc, I.cell, I.free, I.freeC, fun p hp=>(List.mem_append.mp hp).elim (fun z=>I.pin p (List.mem_append_left _ z)) (h p), I.hok, I.len⟩
theorem KK {N : List Str} (hN : N.Nodup) {i j : Nat} {x : Str} (a : N[i]? = some x) (b : N[j]? = some x) : i = j:=by
  obtain ⟨h1, e1⟩:=List.getElem?_eq_some_iff.mp a
  obtain ⟨h2, e2⟩:=List.getElem?_eq_some_iff.mp b
  exact (List.getElem_inj hN).mp (e1.trans e2.symm)
theorem V9 {M : Model} {A : Around} {E : Value -> Shared -> Prop} {i : Nat} {x : Str} {v : V} {u : Value} {Q : Unit -> Shared -> Prop} (I : Inv X pins σ H s) (hN : X.N.Nodup) (hi : X.N[i]? = some x) (hx : Loc X.env.scope x) (r : XV v u)
    (h : ∀ s', Inv X pins (σ.set i (some v)) H s' -> (∃ a, Heap.SameBut a s.heap s'.heap /\ (a = X.env.locals ∨ X.env.cells.lookup x = some a)) -> Q () s') (hf : X.fn x = true ∨ X.env.scope.names.lookup x = some .local:=by first | exact .inl rfl | exact .inr rfl | assumption) : wpAny M A (storeName X.env x u) Q E s:=by
  obtain ⟨m, hn, hl⟩:=id I.loc
  have hcls : (X.env.scope.kind == .class || (X.env.scope.kind == .module && X.env.locals != X.env.globals)) = false:=by rw [I.ok.kind]; rfl
  have hiσ : i < σ.length:=by rw [I.len]; exact (List.getElem?_eq_some_iff.mp hi).1
  have cne:=I.cne
  have tracked : ∀ {a : Addr} {h' : Heap}, (∃ o, s.heap.get? a = some o /\ H a = none) -> Heap.SameBut a s.heap h' -> HOk X.prog X.w H h':=fun {a h'} ha hs b ob e=>by
    obtain ⟨_, _, hfree⟩:=ha
    refine (I.hok b ob e).stay (fun c w' hc q=>(hs.2 c ?_).trans q) (fun _ q=>q) fun _ _ q=>q
    rintro rfl
    rcases hc with rfl | hc
    . rw [hfree] at e; cases e
    . rw [hfree] at hc; cases hc
  rcases hx with hk | hk
  . refine wpAny_storeName_local hk hn (fun h' hn' hs => ?_) hcls
    obtain ⟨oL, _, _, hoL, _⟩:=id hn
    refine h _ ⟨I.ok, I.os, I.bare, ⟨fun b o e n hb hx=>?_, fun b o e n hb hx=>?_, I.base.free, fun b o e hx=>?_, I.base.tups, I.base.frzs, I.base.tbls⟩, ⟨_, hn', fun j y v' e1 e2 e3=>?_⟩, fun y c e=>?_, I.free, I.freeC, fun p hp=>?_, tracked ⟨oL, hoL, I.free⟩ hs, by simpa using I.len⟩ ⟨_, hs, .inl rfl⟩
    . exact (hs.2 b (Nat.ne_of_lt (Nat.lt_of_lt_of_le (Heap.lt_size e) I.ok.above))).trans (I.base.keep b o e n hb hx)
    . obtain ⟨sl, e1⟩ := I.base.slot b o e n hb hx
      exact ⟨sl, (hs.2 b (Nat.ne_of_lt (Nat.lt_of_lt_of_le (Heap.lt_size e) I.ok.above))).trans e1⟩
    . obtain ⟨o', e1⟩ := I.base.there b o e hx
      exact ⟨o', (hs.2 b (Nat.ne_of_lt (Nat.lt_of_lt_of_le (Heap.lt_size e) I.ok.above))).trans e1⟩
    . by_cases hj : j = i
      . subst hj
        rw [hi] at e1; cases e1
        rw [List.getElem?_set_self hiσ] at e2
        cases e2
        exact ⟨u, r, .inl ⟨hk, by simp⟩⟩
      . rw [List.getElem?_set_ne (Ne.symm hj)] at e2
        obtain ⟨u', r', q⟩:=hl j y v' e1 e2 e3
        refine ⟨u', r', ?_⟩
        rcases q with ⟨k, e⟩ | ⟨k, c, e, z⟩
        . refine .inl ⟨k, ?_⟩
          have : y ≠ x:=fun e=>hj (KK hN e1 (e ▸ hi))
          simp [this, e]
        . exact .inr ⟨k, c, e, z.sameBut hs (cne y c e)⟩
    . obtain ⟨w', z⟩ := I.cell y c e
      exact ⟨w', z.sameBut hs (cne y c e)⟩
    . obtain ⟨e, n, ne, nf, d⟩ := I.pin p hp
      exact ⟨(hs.2 p.1 ne).trans e, n, ne, nf, d⟩
  . have hfn : X.fn x = true:=by
      rcases hf with z | z
      . exact z
      . rw [z] at hk; cases hk
    obtain ⟨c, hc⟩:=I.ok.has x (.inl hk)
    obtain ⟨w', z⟩:=I.cell x c hc
    refine wpAny_storeName_cell I.ok.kind hk hc z (fun h' hc' hs=>?_)
    obtain ⟨oc, hoc, hocd⟩:=id z
    refine h { s with heap:=h' } ⟨I.ok, I.os, I.bare, ⟨fun b o e n hb hx=>?_, fun b o e n hb hx=>?_, I.base.free, fun b o e hx=>?_, I.base.tups, I.base.frzs, I.base.tbls⟩, ⟨m, hn.sameBut hs (Ne.symm (cne x c hc)), fun j y v' e1 e2 e3=>?_⟩, fun y c' e=>?_, I.free, I.freeC, fun p hp=>?_, tracked ⟨oc, hoc, I.freeC x c hc⟩ hs, by simpa using I.len⟩ ⟨c, hs, .inr hc⟩
    . exact (hs.2 b (Nat.ne_of_lt (Nat.lt_of_lt_of_le (Heap.lt_size e) (I.ok.cab x c hfn hc)))).trans (I.base.keep b o e n hb hx)
    . obtain ⟨sl, e1⟩ := I.base.slot b o e n hb hx
      exact ⟨sl, (hs.2 b (Nat.ne_of_lt (Nat.lt_of_lt_of_le (Heap.lt_size e) (I.ok.cab x c hfn hc)))).trans e1⟩
    . obtain ⟨o', e1⟩ := I.base.there b o e hx
      exact ⟨o', (hs.2 b (Nat.ne_of_lt (Nat.lt_of_lt_of_le (Heap.lt_size e) (I.ok.cab x c hfn hc)))).trans e1⟩
    . by_cases hj : j = i
      . subst hj
        rw [hi] at e1; cases e1
        rw [List.getElem?_set_self hiσ] at e2
        cases e2
        exact ⟨u, r, .inr ⟨.inl hk, c, hc, hc'⟩⟩
      . rw [List.getElem?_set_ne (Ne.symm hj)] at e2
        obtain ⟨u', r', q⟩:=hl j y v' e1 e2 e3
        refine ⟨u', r', ?_⟩
        rcases q with q | ⟨k, c', e, z'⟩
        . exact .inl q
        . refine .inr ⟨k, c', e, z'.sameBut hs ?_⟩
          rintro rfl
          exact hj (KK hN e1 (I.ok.inj _ _ _ e hc ▸ hi))
    . by_cases hcc : c' = c
      . subst hcc; exact ⟨_, hc'⟩
      . obtain ⟨w2, z2⟩ := I.cell y c' e
        exact ⟨w2, z2.sameBut hs hcc⟩
    . obtain ⟨e, n, ne, nf, d⟩ := I.pin p hp
      refine ⟨(hs.2 p.1 ?_).trans e, n, ne, nf, d⟩
      intro q
      rw [q, hoc] at e
      have q' : oc = p.2:=Option.some.inj e
      exact d w' (by rw [← q']; exact hocd)
theorem ZF {M : Model} {A : Around} {E : Value -> Shared -> Prop} {i : Nat} {x : Str} {v : V} {u : Value} {Q : Unit -> Shared -> Prop} (I : Inv X pins σ H s) (hN : X.N.Nodup) (hi : X.N[i]? = some x) (hx : Loc X.env.scope x) (r : XV v u)
    (h : ∀ s', Inv X pins (σ.set i (some v)) H s' -> Q () s') (hf : X.fn x = true ∨ X.env.scope.names.lookup x = some .local:=by first | exact .inl rfl | exact .inr rfl | assumption) : wpAny M A (storeName X.env x u) Q E s:=
  V9 I hN hi hx r (fun s' I' _=>h s' I') hf
theorem Inv.call' {s' : Shared} {ch : List Addr} (I : Inv X pins σ H s) (ho : s'.os = s.os) (u : Un (frs X.stack) ch H H' s.heap s'.heap) (hok : HOk X.prog X.w H' s'.heap) (hg : AllBare s'.gens)
    (hch : ∀ b ∈ ch, (b ∈ X.ex ∨ X.s₀.heap.objs.size <= b) /\ b ≠ X.env.locals /\ (∀ x c, X.env.cells.lookup x = some c -> c ≠ b) /\ ∀ p ∈ X.pn ++ pins, p.1 ≠ b) : Inv X pins σ H' s':=by
  obtain ⟨h', g', d', t', o'⟩:=s'
  have e : o' = s.os:=ho
  subst e
  exact I.call (g':=g') (t':=t') (d':=d') u hok hg hch
end
noncomputable abbrev XK:=Value -> Option Addr -> Hp -> Prop
noncomputable abbrev St:=List (Option V)
noncomputable abbrev VK:=V -> Hp -> Prop
noncomputable abbrev TE:=St -> Hp -> VK -> Prop
noncomputable abbrev TT:=St -> Hp -> (Bool -> Hp -> Prop) -> Prop
noncomputable abbrev TA:=St -> Hp -> (List V -> Hp -> Prop) -> Prop
structure Ends where
  nx : St -> Hp -> Prop
  rt : VK
  bk : St -> Hp -> Prop:=fun _ _=>False
  ct : St -> Hp -> Prop:=fun _ _=>False
noncomputable abbrev TS:=Ends -> St -> Hp -> Prop
noncomputable def EP (X : Cx) (pins : List (Addr × Obj)) (σ : St) (Q : VK) (u : Value) (s' : Shared) : Prop:=∃ v H', Inv X pins σ H' s' /\ XV v u /\ Q v H'
noncomputable def TP (X : Cx) (pins : List (Addr × Obj)) (σ : St) (Q : Bool -> Hp -> Prop) (b : Bool) (s' : Shared) : Prop:=∃ H', Inv X pins σ H' s' /\ Q b H'
noncomputable def AP (X : Cx) (pins : List (Addr × Obj)) (σ : St) (Q : List V -> Hp -> Prop) (us : List Value) (s' : Shared) : Prop:=∃ vs H', Inv X pins σ H' s' /\ XR vs us /\ Q vs H'
noncomputable def SP (X : Cx) (pins : List (Addr × Obj)) (D : Ends) (f : Flow) (s' : Shared) : Prop:=
  match f with
  | .next=>∃ σ' H', Inv X pins σ' H' s' /\ D.nx σ' H'
  | .brk=>∃ σ' H', Inv X pins σ' H' s' /\ D.bk σ' H'
  | .cont=>∃ σ' H', Inv X pins σ' H' s' /\ D.ct σ' H'
  | .ret u=>∃ v σ' H', Inv X pins σ' H' s' /\ XV v u /\ D.rt v H'
noncomputable def PE (X : Cx) (e : Expr) (t : TE) : Prop:=
  ∀ (pins : List (Addr × Obj)) (s : Shared) (σ : St) (H : Hp) (Q : VK), Inv X pins σ H s -> t σ H Q -> wpAny (model X.prog X.w) X.A (eval e X.env) (EP X pins σ Q) X.xe s
noncomputable def PT (X : Cx) (e : Expr) (t : TT) : Prop:=
  ∀ (pins : List (Addr × Obj)) (s : Shared) (σ : St) (H : Hp) (Q : Bool -> Hp -> Prop), Inv X pins σ H s -> t σ H Q -> wpAny (model X.prog X.w) X.A (isTrue e X.env (eval e X.env)) (TP X pins σ Q) X.xe s
noncomputable def PW (X : Cx) (e : Expr) (t : TT) : Prop:=
  ∀ (whole : Sem Value) (pins : List (Addr × Obj)) (s : Shared) (σ : St) (H : Hp) (Q : Bool -> Hp -> Prop), Inv X pins σ H s -> t σ H Q -> wpAny (model X.prog X.w) X.A (isTrue e X.env whole) (TP X pins σ Q) X.xe s
theorem PW.pt {X : Cx} {e : Expr} {t : TT} (h : PW X e t) : PT X e t:=h _
noncomputable def PA (X : Cx) (es : List Expr) (t : TA) : Prop:=
  ∀ (pos : Pos) (pins : List (Addr × Obj)) (s : Shared) (σ : St) (H : Hp) (Q : List V -> Hp -> Prop), Inv X pins σ H s -> t σ H Q -> wpAny (model X.prog X.w) X.A (spliced (backTo pos (starEach es X.env))) (AP X pins σ Q) X.xe s
noncomputable def PS (X : Cx) (st : Stmt) (t : TS) : Prop:=
  ∀ (pins : List (Addr × Obj)) (s : Shared) (σ : St) (H : Hp) (D : Ends), Inv X pins σ H s -> t D σ H -> wpAny (model X.prog X.w) X.A (exec st X.env) (SP X pins D) X.xe s
noncomputable def PSs (X : Cx) (st : List Stmt) (t : TS) : Prop:=
  ∀ (pins : List (Addr × Obj)) (s : Shared) (σ : St) (H : Hp) (D : Ends), Inv X pins σ H s -> t D σ H -> wpAny (model X.prog X.w) X.A (execs st X.env) (SP X pins D) X.xe s
theorem thn {α : Type} {t : Sem α} {Q Q' : α -> Shared -> Prop} {M : Model} {A : Around} {E : Value -> Shared -> Prop} {s : Shared} (h : wpAny M A t Q E s) (hQ : ∀ a s, Q a s -> Q' a s) : wpAny M A t Q' E s:=wpAny_mono h hQ fun _ _ x=>x
end L2
namespace L2
open PySem PySem.Spec PyProof.Rows
section
variable {X : Cx}
noncomputable def KM (i : Nat) : TE:=fun σ H Q=>∃ v, σ[i]? = some (some v) /\ Q v H
noncomputable def tC (v : V) : TE:=fun _ H Q=>Q v H
theorem Hj {i : Nat} {x : Str} {pos : Pos} (hN : X.N[i]? = some x) (hv : Vis X.env.scope x) (hd : (x == ("__debug__" : Str)) = false:=by decide) (hcd : (x == ("__classdict__" : Str)) = false:=by decide) : PE X (.Name x pos) (KM i):=by
  intro pins s σ H Q I h
  obtain ⟨v, e, h⟩:=h
  obtain ⟨m, hn, hl⟩:=I.loc
  obtain ⟨u, r, l⟩:=hl i x v hN e hv
  have fin : EP X pins σ Q u s:=⟨v, H, I, r, h⟩
  rcases l with ⟨hk, hm⟩ | ⟨hk, c, hc, hcell⟩
  . exact wpAny_Name (wpAny_loadName_local I.ok.kind hk hn hm fin) hd
  . rcases hk with hk | hk
    . exact wpAny_Name (wpAny_loadName_cell I.ok.kind hk hc hcell fin) hd
    . exact wpAny_Name (wpAny_loadName_free I.ok.kind hk hc hcell fin hcd) hd
theorem Xh {i j pos} : PE X (.Constant (.int i) j pos) (tC (.int i)):=fun _ _ _ H _ I h=>wpAny_Constant_int ⟨.int i, H, I.tok _, ⟨_, rfl⟩, h⟩
theorem QN {b j pos} : PE X (.Constant (.bool b) j pos) (tC (.bl b)):=fun _ _ _ H _ I h=>Constant_bool ⟨.bl b, H, I, rfl, h⟩
theorem Qm {x j pos} : PE X (.Constant (.str x) j pos) (tC (.str x)):=fun _ _ _ H _ I h=>Calls.Constant_str ⟨.str x, H, I.tok _, ⟨_, rfl⟩, h⟩
noncomputable def Gl (X : Cx) (x : Str) : Prop:=X.env.kindOf x = some .globalImplicit
theorem Vz {E : Value -> Shared -> Prop} {pins : List (Addr × Obj)} {s : Shared} {σ : St} {H : Hp} {x : Str} {u : Value} {pos : Pos} {Q : Value -> Shared -> Prop} (I : Inv X pins σ H s) (hg : Gl X x) (hm : X.mg x = some u) (h : Q u s)
    (hd : (x == ("__debug__" : Str)) = false:=by decide) : wpAny (model X.prog X.w) X.A (eval (.Name x pos) X.env) Q E s:=
  Calls.Name_function_global I.ok.kind hg (Calls.loadGlobal_global (by rw [I.ok.glob]; exact I.mod.glob.keeps I.bk) hm h) hd
theorem QF {E : Value -> Shared -> Prop} {pins : List (Addr × Obj)} {s : Shared} {σ : St} {H : Hp} {x : Str} {u : Value} {pos : Pos} {Q : Value -> Shared -> Prop} (I : Inv X pins σ H s) (hg : Gl X x) (hm : X.mg x = none) (hv : bootBuiltins x = some u) (h : Q u s)
    (hn : x ≠ "__name__":=by decide) (hd : (x == ("__debug__" : Str)) = false:=by decide) : wpAny (model X.prog X.w) X.A (eval (.Name x pos) X.env) Q E s:=by
  obtain ⟨mb, h1, h2⟩:=I.mod.blt
  exact Calls.Name_function_global I.ok.kind hg (Calls.loadGlobal_builtin (by rw [I.ok.glob]; exact I.mod.glob.keeps I.bk) hm (by rw [I.ok.blt]; exact h1.keeps I.bk) ((h2 x hn).trans hv) h) hd
theorem Q7 {x : Str} {v : V} {u : Value} {pos : Pos} (hg : Gl X x) (hm : X.mg x = some u) (r : XV v u) (hd : (x == ("__debug__" : Str)) = false:=by decide) : PE X (.Name x pos) (tC v):=
  fun _ _ _ H _ I h=>Vz I hg hm ⟨v, H, I, r, h⟩ hd
theorem VI {x : Str} {v : V} {u : Value} {pos : Pos} (hg : Gl X x) (hm : X.mg x = none) (hv : bootBuiltins x = some u) (r : XV v u) (hn : x ≠ "__name__":=by decide) (hd : (x == ("__debug__" : Str)) = false:=by decide) : PE X (.Name x pos) (tC v):=
  fun _ _ _ H _ I h=>QF I hg hm hv ⟨v, H, I, r, h⟩ hn hd
variable {a b : Expr} {ta tb : TE} {pos : Pos}
noncomputable def tB (t : TE) : TT:=fun σ H Q=>t σ H fun x H1=>∃ c, x = .bl c /\ Q c H1
theorem ZT {e : Expr} {t : TE} (h : PE X e t) (he : ∀ whole, isTrue e X.env whole = (do let v ← whole; standAt e.pos; holding [v] (truthy v)):=by intro _; rfl) : PT X e (tB t):=by
  intro pins s σ H Q I hw
  refine isTrue_plain (thn (h pins s σ H _ I hw) fun v s1 ⟨x, H1, I1, r1, q1⟩=>?_) (he _)
  obtain ⟨d, rfl, q⟩:=q1
  cases r1
  exact wpAny_truthy_bool ⟨H1, I1, q⟩
variable {tA tB' : TT} {Zn : List Expr}
noncomputable def IK (t u : TT) : TT:=fun σ H Q=>t σ H fun c H1=>if c = true then u σ H1 Q else Q false H1
noncomputable def tOr (t u : TT) : TT:=fun σ H Q=>t σ H fun c H1=>if c = true then Q true H1 else u σ H1 Q
noncomputable def IH (t : TT) : TT:=fun σ H Q=>t σ H fun c H1=>Q (!c) H1
theorem UJ (ha : PT X a tA) : PW X (.BoolOp .And [a] pos) tA:=by
  intro wh pins s σ H Q I h
  refine isTrue_and (thn (ha pins s σ H Q I h) fun c s1 e=>?_)
  cases c with
  | true=>exact isTrue_and_nil e
  | false=>exact e
theorem JL (ha : PT X a tA) : PW X (.BoolOp .Or [a] pos) tA:=by
  intro wh pins s σ H Q I h
  refine isTrue_or (thn (ha pins s σ H Q I h) fun c s1 e=>?_)
  cases c with
  | false=>exact isTrue_or_nil e
  | true=>exact e
theorem Kx (ha : PT X a tA) (hb : PW X (.BoolOp .And (b :: Zn) pos) tB') : PW X (.BoolOp .And (a :: b :: Zn) pos) (IK tA tB'):=by
  intro wh pins s σ H Q I h
  refine isTrue_and (thn (ha pins s σ H _ I h) fun c s1 ⟨H1, I1, q1⟩=>?_)
  cases c with
  | true=>exact hb wh pins s1 σ H1 Q I1 q1
  | false=>exact ⟨H1, I1, q1⟩
theorem K5 (ha : PT X a tA) (hb : PW X (.BoolOp .Or (b :: Zn) pos) tB') : PW X (.BoolOp .Or (a :: b :: Zn) pos) (tOr tA tB'):=by
  intro wh pins s σ H Q I h
  refine isTrue_or (thn (ha pins s σ H _ I h) fun c s1 ⟨H1, I1, q1⟩=>?_)
  cases c with
  | true=>exact ⟨H1, I1, q1⟩
  | false=>exact hb wh pins s1 σ H1 Q I1 q1
theorem QG (ha : PT X a tA) : PT X (.UnaryOp .Not a pos) (IH tA):=by
  intro pins s σ H Q I h
  exact isTrue_not (ha pins s σ H (fun c H1=>Q (!c) H1) I h)
noncomputable def EM (ta tb : TE) : TE:=fun σ H Q=>ta σ H fun x H1=>∃ c, x = .bl c /\ if c = true then tb σ H1 Q else Q (.bl false) H1
noncomputable def Hv (ta : TE) : TE:=fun σ H Q=>ta σ H fun x H1=>∃ c, x = .bl c /\ Q (.bl (!c)) H1
theorem Cv {op} {t : TE} (h : PE X a t) : PE X (.BoolOp op [a] pos) t:=fun pins s σ H Q I hw=>BoolOp_one (h pins s σ H Q I hw)
theorem Cq (ha : PE X a ta) (hb : PE X (.BoolOp .And (b :: Zn) pos) tb) : PE X (.BoolOp .And (a :: b :: Zn) pos) (EM ta tb):=by
  intro pins s σ H Q I h
  refine BoolOp_and (thn (ha pins s σ H _ I h) fun v s1 ⟨x, H1, I1, r1, q1⟩=>?_)
  obtain ⟨c, rfl, q1⟩:=q1
  cases r1
  refine wpAny_truthy_bool ?_
  cases c with
  | true=>exact hb pins s1 σ H1 Q I1 q1
  | false=>exact ⟨.bl false, H1, I1, rfl, q1⟩
theorem El (ha : PE X a ta) : PE X (.UnaryOp .Not a pos) (Hv ta):=by
  intro pins s σ H Q I h
  refine UnaryOp_ (thn (ha pins s σ H _ I h) fun v s1 ⟨x, H1, I1, r1, q1⟩=>?_)
  obtain ⟨c, rfl, q1⟩:=q1
  cases r1
  exact not_of (wpAny_truthy_bool ⟨.bl (!c), H1, I1, rfl, q1⟩)
noncomputable def tIf (t : TT) (ta tb : TE) : TE:=fun σ H Q=>t σ H fun c H1=>if c = true then ta σ H1 Q else tb σ H1 Q
theorem DJ {c : Expr} (hc : PT X c tA) (ha : PE X a ta) (hb : PE X b tb) : PE X (.IfExp c a b pos) (tIf tA ta tb):=by
  intro pins s σ H Q I h
  refine wpAny_IfExp (thn (hc pins s σ H _ I h) fun d s1 ⟨H1, I1, q1⟩=>?_)
  cases d with
  | true=>exact ha pins s1 σ H1 Q I1 q1
  | false=>exact hb pins s1 σ H1 Q I1 q1
end
end L2
namespace L2
open PySem PySem.Spec PyProof.Rows
noncomputable def SqL (K : PySem.W.Frag) (H : Hp) (a : Addr) (xs : List V) : Prop:=
  Rd H a (.lst xs) ∨
    ∃ (o : Obj) (its : Array Value) (n : Nat), K.lookup a = some o /\ o.cls = .type "list" /\ o.dict = none /\ o.data = .seq its n /\ its.size <= sizeLine /\ XR xs its.toList
noncomputable def SqT (K : PySem.W.Frag) (H : Hp) (a : Addr) (xs : List V) : Prop:=
  Rd H a (.tup xs) ∨
    ∃ (o : Obj) (its : Array Value) (n : Nat), K.lookup a = some o /\ o.cls = .type "tuple" /\ o.data = .seq its n /\ its.size <= sizeLine /\ XR xs its.toList
noncomputable def IL : Value -> Option V
  | .none=>some .non
  | .bool b=>some (.bl b)
  | .int i _=>some (.int i)
  | .str x _=>some (.str x)
  | .bytes b _=>some (.byt b)
  | .float b _=>some (.flt b)
  | .ref a=>some (.ref a)
  | .type n=>some (.ty n)
  | _=>none
theorem XV.abs {x : V} {u : Value} (r : XV x u) : IL u = some x:=by
  cases x with
  | non=>cases r; rfl
  | bl _=>cases r; rfl
  | int _=>obtain ⟨t, rfl⟩:=r; rfl
  | str _=>obtain ⟨t, rfl⟩:=r; rfl
  | byt _=>obtain ⟨t, rfl⟩:=r; rfl
  | flt _=>obtain ⟨t, rfl⟩:=r; rfl
  | ref _=>cases r; rfl
  | ty _=>cases r; rfl
theorem XV.inj {x y : V} {u : Value} (r : XV x u) (q : XV y u) : x = y:=Option.some.inj (r.abs.symm.trans q.abs)
theorem XR.inj : ∀ {xs ys : List V} {us : List Value}, XR xs us -> XR ys us -> xs = ys
  | _, _, _, .nil, .nil=>rfl
  | _, _, _, .cons r t, .cons r' t'=>by rw [r.inj r', XR.inj t t']
section
variable {X : Cx} {pins : List (Addr × Obj)} {σ : St} {H : Hp} {s : Shared} {a : Addr} {xs ys : List V}
theorem SqL.of {K : PySem.W.Frag} (h : H a = some (.lst xs)) : SqL K H a xs:=.inl (.inl h)
theorem SqT.of {K : PySem.W.Frag} (h : H a = some (.tup xs)) : SqT K H a xs:=.inl (.inl h)
theorem Inv.list (I : Inv X pins σ H s) (h : SqL X.K H a xs) : ∃ its : List Value, XR xs its /\ PlainL s.heap a its.toArray /\ xs.length <= sizeLine:=by
  rcases h with h | ⟨o, its, n, hk, hc, hd, hs, hz, r⟩
  . obtain ⟨z, its, n, r, e⟩ := h.ok I.hok
    exact ⟨its, r, ⟨_, n, e, rfl, rfl, rfl⟩, z⟩
  . refine ⟨its.toList, r, ⟨o, n, I.kIn a o hk, hc, hd, by simpa using hs⟩, ?_⟩
    have e:=r.length
    simp only [Array.length_toList] at e
    omega
theorem Inv.tuple (I : Inv X pins σ H s) (h : SqT X.K H a xs) : ∃ its : List Value, XR xs its /\ IsTup s.heap a its.toArray /\ xs.length <= sizeLine:=by
  rcases h with h | ⟨o, its, n, hk, hc, hs, hz, r⟩
  . obtain ⟨z, its, r, p⟩ := h.ok I.hok
    exact ⟨its, r, p.t, z⟩
  . refine ⟨its.toList, r, ⟨o, I.kIn a o hk, hc, n, by simpa using hs⟩, ?_⟩
    have e:=r.length
    simp only [Array.length_toList] at e
    omega
theorem Inv.list_inj (I : Inv X pins σ H s) (h : SqL X.K H a xs) (h' : SqL X.K H a ys) : xs = ys:=by
  obtain ⟨its, r, ⟨o, n, e, _, _, d⟩, _⟩:=I.list h
  obtain ⟨its', r', ⟨o', n', e', _, _, d'⟩, _⟩:=I.list h'
  rw [e] at e'; cases e'
  rw [d] at d'
  injection d' with d1 _
  have : its = its':=by simpa using congrArg Array.toList d1
  subst this
  exact r.inj r'
theorem Inv.tuple_inj (I : Inv X pins σ H s) (h : SqT X.K H a xs) (h' : SqT X.K H a ys) : xs = ys:=by
  obtain ⟨its, r, ⟨o, e, _, n, d⟩, _⟩:=I.tuple h
  obtain ⟨its', r', ⟨o', e', _, n', d'⟩, _⟩:=I.tuple h'
  rw [e] at e'; cases e'
  rw [d] at d'
  injection d' with d1 _
  have : its = its':=by simpa using congrArg Array.toList d1
  subst this
  exact r.inj r'
end
noncomputable abbrev Cx.wish (X : Cx) (E : Value -> Shared -> Prop) : Cx:={ X with xe:=E }
noncomputable abbrev Cx.nox (X : Cx) : Cx:=X.wish fun _ _=>False
theorem Cx.Ok.wish {X : Cx} (ok : X.Ok) (E : Value -> Shared -> Prop) : (X.wish E).Ok:=
  ⟨ok.mod, ok.kind, ok.glob, ok.blt, ok.above, ok.inj, ok.has, ok.cab, ok.hd, ok.frames, ok.stk, ok.exf, ok.bs, ok.bsz, ok.noex, ok.exfs, ok.funs, ok.frf⟩
theorem Cx.Ok.unwish {X : Cx} {E : Value -> Shared -> Prop} (ok : (X.wish E).Ok) : X.Ok:=
  ⟨ok.mod, ok.kind, ok.glob, ok.blt, ok.above, ok.inj, ok.has, ok.cab, ok.hd, ok.frames, ok.stk, ok.exf, ok.bs, ok.bsz, ok.noex, ok.exfs, ok.funs, ok.frf⟩
section
variable {X : Cx} {pins : List (Addr × Obj)} {σ : St} {H : Hp} {s : Shared} {E : Value -> Shared -> Prop}
theorem Inv.wish (I : Inv X pins σ H s) (E : Value -> Shared -> Prop) : Inv (X.wish E) pins σ H s:=⟨I.ok.wish E, I.os, I.bare, I.base, I.loc, I.cell, I.free, I.freeC, I.pin, I.hok, I.len⟩
theorem Inv.unwish (I : Inv (X.wish E) pins σ H s) : Inv X pins σ H s:=⟨I.ok.unwish, I.os, I.bare, I.base, I.loc, I.cell, I.free, I.freeC, I.pin, I.hok, I.len⟩
theorem SP.unwish {D : Ends} {f : Flow} {s' : Shared} (h : SP (X.wish E) pins D f s') : SP X pins D f s':=by
  cases f with
  | next=>obtain ⟨σ', H', I, q⟩:=h; exact ⟨σ', H', I.unwish, q⟩
  | brk=>obtain ⟨σ', H', I, q⟩:=h; exact ⟨σ', H', I.unwish, q⟩
  | cont=>obtain ⟨σ', H', I, q⟩:=h; exact ⟨σ', H', I.unwish, q⟩
  | ret u=>obtain ⟨v, σ', H', I, r, q⟩:=h; exact ⟨v, σ', H', I.unwish, r, q⟩
theorem PE.nox {e : Expr} {t : TE} (h : PE X.nox e t) : PE X e t:=fun pins s σ H Q I hw=>
  wpAny_mono (h pins s σ H Q (I.wish _) hw) (fun _ _ ⟨v, H', I', r, q⟩=>⟨v, H', I'.unwish, r, q⟩) fun _ _ z=>False.elim z
theorem PT.nox {e : Expr} {t : TT} (h : PT X.nox e t) : PT X e t:=fun pins s σ H Q I hw=>
  wpAny_mono (h pins s σ H Q (I.wish _) hw) (fun _ _ ⟨H', I', q⟩=>⟨H', I'.unwish, q⟩) fun _ _ z=>False.elim z
theorem PSs.nox {st : List Stmt} {t : TS} (h : PSs X.nox st t) : PSs X st t:=fun pins s σ H D I hw=>
  wpAny_mono (h pins s σ H D (I.wish _) hw) (fun _ _ q=>q.unwish) fun _ _ z=>False.elim z
end
section
variable {X : Cx} {st : Stmt} {Zn : List Stmt} {t u : TS} {e : Expr} {te : TE} {pos : Pos}
noncomputable def UQ : TS:=fun D σ H=>D.nx σ H
noncomputable def Jf (t u : TS) : TS:=fun D σ H=>t { D with nx:=u D } σ H
theorem Xg : PSs X [] UQ:=fun _ _ σ H _ I h=>wpAny_execs_nil ⟨σ, H, I, h⟩
theorem Xc (h1 : PS X st t) (h2 : PSs X Zn u) : PSs X (st :: Zn) (Jf t u):=by
  intro pins s σ H D I h
  refine wpAny_execs_cons (thn (h1 pins s σ H { D with nx:=u D } I h) fun f s1 q=>?_)
  cases f with
  | next=>
    obtain ⟨σ', H', I', q⟩:=q
    exact h2 pins s1 σ' H' D I' q
  | ret v=>exact q
  | brk=>exact q
  | cont=>exact q
theorem Inv.quiet {pins : List (Addr × Obj)} {σ : St} {H : Hp} {s : Shared} (I : Inv X pins σ H s) : interactive X.env = false:=by simp [interactive, I.ok.kind]
noncomputable def FZ (te : TE) : TS:=fun D σ H=>te σ H fun _ H1=>D.nx σ H1
theorem Yn (he : PE X e te) (hs : swapsWith e none pos.line X.env = pure false:=by rfl) : PS X (.Expr e pos) (FZ te):=by
  intro pins s σ H D I h
  exact wpAny_Expr_any (thn (he pins s σ H _ I h) fun v s1 ⟨x, H1, I1, r1, q1⟩=>⟨σ, H1, I1, q1⟩) I.quiet hs
noncomputable def Il (te : TE) : TS:=fun D σ H=>te σ H D.rt
theorem Xx (he : PE X e te) : PS X (.Return (some e) pos) (Il te):=by
  intro pins s σ H D I h
  exact wpAny_Return_some (thn (he pins s σ H _ I h) fun v s1 ⟨x, H1, I1, r1, q1⟩=>⟨x, σ, H1, I1, r1, q1⟩)
noncomputable def ES (c : TT) (t u : TS) : TS:=fun D σ H=>c σ H fun b H1=>if b = true then t D σ H1 else u D σ H1
theorem Y7 {c : Expr} {a b : List Stmt} {tc : TT} (hc : PT X c tc) (ha : PSs X a t) (hb : PSs X b u) : PS X (.If c a b pos) (ES tc t u):=by
  intro pins s σ H D I h
  refine wpAny_If (thn (hc pins s σ H _ I h) fun d s1 ⟨H1, I1, q1⟩=>?_)
  cases d with
  | true=>exact ha pins s1 σ H1 D I1 q1
  | false=>exact hb pins s1 σ H1 D I1 q1
end
noncomputable abbrev TG:=V -> St -> Hp -> (St -> Hp -> Prop) -> Prop
noncomputable abbrev TGs:=List V -> St -> Hp -> (St -> Hp -> Prop) -> Prop
noncomputable def PG (X : Cx) (target : Expr) (t : TG) : Prop:=
  ∀ (pins : List (Addr × Obj)) (s : Shared) (σ : St) (H : Hp) (v : V) (u : Value) (Q : St -> Hp -> Prop), Inv X pins σ H s -> XV v u -> t v σ H Q ->
    wpAny (model X.prog X.w) X.A (assign target X.env u) (fun _ s'=>∃ σ' H', Inv X pins σ' H' s' /\ Q σ' H') X.xe s
noncomputable def PGs (X : Cx) (ts : List Expr) (t : TGs) : Prop:=
  ∀ (pins : List (Addr × Obj)) (s : Shared) (σ : St) (H : Hp) (vs : List V) (us : List Value) (Q : St -> Hp -> Prop), Inv X pins σ H s -> XR vs us -> t vs σ H Q ->
    wpAny (model X.prog X.w) X.A (assignInOrder ((assignEach ts X.env).map (·.2)) us) (fun _ s'=>∃ σ' H', Inv X pins σ' H' s' /\ Q σ' H') X.xe s
noncomputable abbrev Im:=V -> V -> V -> Hp -> (Hp -> Prop) -> Prop
noncomputable def Iz (X : Cx) (t : Im) : Prop:=
  ∀ (pins : List (Addr × Obj)) (s : Shared) (σ : St) (H : Hp) (o i v : V) (ov iv u : Value) (Q : Hp -> Prop), Inv X pins σ H s -> XV o ov -> XV i iv -> XV v u -> t o i v H Q ->
    wpAny (model X.prog X.w) X.A (setItem ov iv u) (fun _ s'=>∃ H', Inv X pins σ H' s' /\ Q H') X.xe s
noncomputable abbrev TIp:=V -> V -> Hp -> VK -> Prop
noncomputable def PIp (X : Cx) (op : Operator) (t : TIp) : Prop:=
  ∀ (pins : List (Addr × Obj)) (s : Shared) (σ : St) (H : Hp) (x y : V) (v u : Value) (Q : VK), Inv X pins σ H s -> XV x v -> XV y u -> t x y H Q ->
    wpAny (model X.prog X.w) X.A (inplaceOp op v u) (EP X pins σ Q) X.xe s
section
variable {X : Cx} {pos : Pos}
noncomputable def YX (i : Nat) : TG:=fun v σ H Q=>Q (σ.set i (some v)) H
theorem Xo {i : Nat} {x : Str} (hN : X.N.Nodup) (hi : X.N[i]? = some x) (hx : Loc X.env.scope x) (hf : X.fn x = true ∨ X.env.scope.names.lookup x = some .local:=by first | exact .inl rfl | exact .inr rfl | assumption) : PG X (.Name x pos) (YX i):=by
  intro pins s σ H v u Q I r h
  exact wpAny_assign_Name (ZF I hN hi hx r (fun s' I'=>⟨_, H, I', h⟩) hf)
noncomputable def Ek : TGs:=fun vs σ H Q=>vs = [] /\ Q σ H
noncomputable def ZN (t : TG) (u : TGs) : TGs:=fun vs σ H Q=>∃ v r, vs = v :: r /\ t v σ H fun σ' H'=>u r σ' H' Q
theorem Q3 : PGs X [] Ek:=by
  intro pins s σ H vs us Q I r h
  obtain ⟨e, h⟩:=h
  subst e
  cases r
  exact assignInOrder_nil ⟨σ, H, I, h⟩
theorem Yb {e : Expr} {es : List Expr} {t : TG} {u : TGs} (h1 : PG X e t) (h2 : PGs X es u)
    (hs : (assignEach (e :: es) X.env).map (·.2) = assign e X.env :: (assignEach es X.env).map (·.2):=by rfl) : PGs X (e :: es) (ZN t u):=by
  intro pins s σ H vs us Q I r h
  obtain ⟨v, vr, e1, h⟩:=h
  subst e1
  cases r with
  | cons r rr=>
    rw [hs]
    refine assignInOrder_cons (thn (h1 pins s σ H _ _ _ I r h) fun _ s1 ⟨σ1, H1, I1, q1⟩=>?_)
    exact h2 pins s1 σ1 H1 _ _ Q I1 rr q1
noncomputable def B0 (K : PySem.W.Frag) (n : Nat) (t : TGs) : TG:=fun v σ H Q=>∃ a xs, v = .ref a /\ SqT K H a xs /\ xs.length = n /\ t xs σ H Q
theorem V3 {es : List Expr} {k : Nat} {t : TGs} {n : Nat} (hc : X.calm = true) (h : PGs X es t)
    (hn : (assignEach es X.env).length = n:=by rfl) (hst : (assignEach es X.env).findIdx? (·.1) = none:=by rfl) : PG X (.Tuple es k pos) (B0 X.K n t):=by
  intro pins s σ H v u Q I r hw
  obtain ⟨a, xs, e1, hq, hl, hw⟩:=hw
  subst e1
  cases r
  obtain ⟨its, rv, ht, hz⟩:=I.tuple hq
  refine assign_Tuple_tuple (I.ok.hd hc) ht (by simp [hn, ← hl, rv.length]) hst fun h' hx=>?_
  have I1 : Inv X pins σ H { s with heap:=h' }:=I.kept (t':=s.toks) fun b o e=>hx b o (Nat.ne_of_lt (Heap.lt_size e)) e
  exact h pins _ σ H xs _ Q I1 (by simpa using rv) hw
noncomputable def Is (to ti : TE) (t : Im) : TG:=fun v σ H Q=>to σ H fun o H1=>ti σ H1 fun i H2=>t o i v H2 fun H3=>Q σ H3
theorem Hd {o i : Expr} {to ti : TE} {t : Im} (ho : PE X o to) (hi : PE X i ti) (hs : Iz X t)
    (ha : ∀ v, assign (.Subscript o i pos) X.env v = (do
      let ov ← holding [v] (eval o X.env)
      let iv ← holding [v, ov] (eval i X.env)
      standAt pos
      holding [v, ov, iv] (setItem ov iv v)
      release [v, ov, iv] []):=by intro _; rfl) : PG X (.Subscript o i pos) (Is to ti t):=by
  intro pins s σ H v u Q I r h
  rw [ha]
  refine wpAny_bind (wpAny_holding (thn (ho pins s σ H _ I h) fun ov s1 ⟨x, H1, I1, r1, q1⟩=>?_))
  refine wpAny_bind (wpAny_holding (thn (hi pins s1 σ H1 _ I1 q1) fun iv s2 ⟨y, H2, I2, r2, q2⟩=>?_))
  refine wpAny_bind (wpAny_standAt (wpAny_bind (wpAny_holding (thn (hs pins s2 σ H2 x y v ov iv u _ I2 r1 r2 r q2) fun _ s3 ⟨H3, I3, q3⟩=>?_))))
  exact wpAny_release ⟨σ, H3, I3, q3⟩
noncomputable def By (te : TE) (g : TG) : TS:=fun D σ H=>te σ H fun x H1=>g x σ H1 D.nx
theorem CA {tg e : Expr} {te : TE} {g : TG} (he : PE X e te) (hg : PG X tg g) (hs : swapsWithSole [tg] e pos.line X.env = pure false:=by rfl) (hw : swappedStores [tg] e X.env = pure none:=by rfl)
    (h1 : (assignEach [tg] X.env).map (·.2) = [assign tg X.env]:=by rfl) : PS X (.Assign [tg] e pos) (By te g):=by
  intro pins s σ H D I h
  refine wpAny_Assign_stores (thn (he pins s σ H _ I h) fun v s1 ⟨x, H1, I1, r1, q1⟩=>?_) hs hw
  rw [h1]
  exact thn (hg pins s1 σ H1 x v _ I1 r1 q1) fun _ s2 q=>q
theorem Xp {i : Nat} {x : Str} {e : Expr} {te : TE} {pos' : Pos} (hN : X.N.Nodup) (hi : X.N[i]? = some x) (hx : Loc X.env.scope x) (he : PE X e te) (hs : swapsWith e (some (.Name x pos')) pos.line X.env = pure false:=by rfl) (hf : X.fn x = true ∨ X.env.scope.names.lookup x = some .local:=by first | exact .inl rfl | exact .inr rfl | assumption) :
    PS X (.Assign [.Name x pos'] e pos) (By te (YX i)):=by
  intro pins s σ H D I h
  refine wpAny_Assign_Name (thn (he pins s σ H _ I h) fun v s1 ⟨y, H1, I1, r1, q1⟩=>?_) hs
  exact ZF I1 hN hi hx r1 (fun s2 I2=>⟨_, H1, I2, q1⟩) hf
noncomputable def IE (i j : Nat) (ta : TA) : TS:=fun D σ H=>ta σ H fun vs H1=>∃ v w, vs = [v, w] /\ D.nx ((σ.set i (some v)).set j (some w)) H1
theorem HC {i j : Nat} {x y : Str} {a b : Expr} {ta : TA} {px py pt : Pos} {kt k2 pt2} (hc : X.calm = true) (hN : X.N.Nodup) (hi : X.N[i]? = some x) (hj : X.N[j]? = some y) (hij : i ≠ j)
    (hx : X.env.scope.names.lookup x = some .local) (hy : X.env.scope.names.lookup y = some .local) (ha : PA X [a, b] ta)
    (hw : swappedStores [.Tuple [.Name x px, .Name y py] kt pt] (.Tuple [a, b] k2 pt2) X.env = pure (some [x, y]))
    (hs : swapsWithSole [.Tuple [.Name x px, .Name y py] kt pt] (.Tuple [a, b] k2 pt2) pos.line X.env = pure false:=by rfl) :
    PS X (.Assign [.Tuple [.Name x px, .Name y py] kt pt] (.Tuple [a, b] k2 pt2) pos) (IE i j ta):=by
  intro pins s σ H D I h
  rw [exec_Assign_arm]
  refine wpAny_bind (wpAny_standAt ?_)
  rw [hs]
  refine wpAny_bind (wpAny_pure ?_)
  rw [if_neg (by decide)]
  refine wpAny_bind (Tuple_ (thn (ha _ pins s σ H _ I h) fun us s1 ⟨vs, H1, I1, r1, q1⟩=>?_))
  obtain ⟨v, w, e1, q1⟩:=q1
  subst e1
  obtain ⟨u1, u2, rfl, rv, rw'⟩ : ∃ u1 u2, us = [u1, u2] /\ XV v u1 /\ XV w u2:=by
    cases r1 with
    | cons p q=>
      cases q with
      | cons p' q'=>
        cases q'
        exact ⟨_, _, rfl, p, p'⟩
  refine wpAny_newObj_type ?_ (by show 2 <= sizeLine; decide)
  have I2 : Inv X pins σ H1 { s1 with heap:=s1.heap.push { cls:=.type "tuple", data:=.seq [u1, u2].toArray } }:=I1.kept (t':=s1.toks) fun b o e=>Heap.get?_push_of_some _ e
  rw [hw]
  refine wpAny_bind (wpAny_pure ?_)
  show wpAny (model X.prog X.w) X.A (do rule "assign.swapped-stores"; let items ← unpackItems (.ref s1.heap.objs.size) 2 none; assignInOrder [fun v=>bindName X.env y v, fun v=>bindName X.env x v] items.reverse; pure Flow.next) _ _ _
  refine wpAny_bind (wpAny_rule (wpAny_bind (unpackItems_tuple (items:=#[u1, u2]) (I.ok.hd hc) (IsTup.new s1.heap _) fun h' hx'=>?_)))
  have I3:=I2.kept (h':=h') (t':=s1.toks) fun b o e=>hx' b o (Nat.ne_of_lt (Heap.lt_size e)) e
  show wpAny _ _ (assignInOrder [fun v=>bindName X.env y v, fun v=>bindName X.env x v] [u2, u1] >>= fun _=>pure Flow.next) _ _ _
  refine wpAny_bind (assignInOrder_cons (wpAny_bindName (ZF I3 hN hj (.inl hy) rw' (fun s2 I4=>?_) (.inr hy))))
  refine assignInOrder_cons (wpAny_bindName (ZF I4 hN hi (.inl hx) rv (fun s3 I5=>assignInOrder_nil (wpAny_pure ?_)) (.inr hx)))
  rw [List.set_comm _ _ (Ne.symm hij)] at I5
  exact ⟨_, H1, I5, q1⟩
noncomputable def Ii (i : Nat) (te : TE) (ti : TIp) : TS:=fun D σ H=>∃ x, σ[i]? = some (some x) /\ te σ H fun y H1=>ti x y H1 fun z H2=>D.nx (σ.set i (some z)) H2
theorem Fc {i : Nat} {x : Str} {e : Expr} {te : TE} {op : Operator} {ti : TIp} {pos' : Pos} (hN : X.N.Nodup) (hi : X.N[i]? = some x) (hx : Loc X.env.scope x) (he : PE X e te) (ho : PIp X op ti) (hf : X.fn x = true ∨ X.env.scope.names.lookup x = some .local:=by first | exact .inl rfl | exact .inr rfl | assumption) :
    PS X (.AugAssign (.Name x pos') op e pos) (Ii i te ti):=by
  intro pins s σ H D I h
  obtain ⟨v, e1, h⟩:=h
  obtain ⟨m, hn, hl⟩:=I.loc
  have vis : Vis X.env.scope x:=by rcases hx with k | k; exact .inl k; exact .inr (.inl k)
  obtain ⟨u, r, l⟩:=hl i x v hi e1 vis
  refine wpAny_AugAssign_Name ?_
  have go : wpAny (model X.prog X.w) X.A (eval e X.env) (fun w s₂=>wpAny (model X.prog X.w) X.A (inplaceOp op u w) (fun r s₃=>wpAny (model X.prog X.w) X.A (storeName X.env x r) (fun _=>SP X pins D .next) X.xe s₃) X.xe s₂) X.xe s:=by
    refine thn (he pins s σ H _ I h) fun w s1 ⟨y, H1, I1, r1, q1⟩=>?_
    refine thn (ho pins s1 σ H1 v y u w _ I1 r r1 q1) fun z s2 ⟨zv, H2, I2, r2, q2⟩=>?_
    exact ZF I2 hN hi hx r2 (fun s3 I3=>⟨_, H2, I3, q2⟩) hf
  rcases l with ⟨hk, hm⟩ | ⟨hk, c, hc, hcell⟩
  . exact wpAny_loadName_local I.ok.kind hk hn hm go
  . rcases hk with hk | hk
    . exact wpAny_loadName_cell I.ok.kind hk hc hcell go
    . rcases hx with k | k
      . have : X.env.scope.names.lookup x = some .free := hk
        rw [k] at this; cases this
      . have : X.env.scope.names.lookup x = some .free := hk
        rw [k] at this; cases this
noncomputable def ipI (f : Int -> Int -> Int) : TIp:=fun x y H Q=>∃ i j, x = .int i /\ y = .int j /\ Q (.int (f i j)) H
theorem CJ : PIp X .Add (ipI fun i j=>i + j):=by
  intro pins s σ H x y v u Q I r1 r2 h
  obtain ⟨i, j, e1, e2, q⟩:=h
  subst e1; subst e2
  obtain ⟨t, rfl⟩:=r1
  obtain ⟨t', rfl⟩:=r2
  exact iadd_int ⟨.int _, H, I.tok _, ⟨_, rfl⟩, q⟩
end
section
variable {X : Cx} {pos : Pos}
end
structure It where
  go : Nat -> Hp -> Prop
  yld : Nat -> Hp -> V -> Hp -> Prop
  stop : Nat -> Hp -> Prop
noncomputable def U5 (X : Cx) (pins : List (Addr × Obj)) (H : Hp) (b : Addr) : Prop:=
  H b = none /\ b ≠ X.env.locals /\ b ∉ X.fs /\ (b ∈ X.ex ∨ X.s₀.heap.objs.size <= b) /\ (∀ x c, X.env.cells.lookup x = some c -> c ≠ b) /\ ∀ p ∈ X.pn ++ pins, p.1 ≠ b
theorem Inv.fpOk {X : Cx} {pins : List (Addr × Obj)} {σ : St} {H H' : Hp} {s : Shared} {b : Addr} (I : Inv X pins σ H s) (hb : s.heap.objs.size <= b) (hn : H' b = none) : U5 X pins H' b:=by
  refine ⟨hn, Nat.ne_of_gt (Nat.lt_of_lt_of_le I.lt hb), I.nofs hb, .inr (Nat.le_trans I.sz hb), fun x c e z=>?_, fun p hp z=>?_⟩
  . obtain ⟨v, q⟩ := I.cell x c e
    exact absurd (Nat.lt_of_lt_of_le q.lt (by rw [z]; exact hb)) (Nat.lt_irrefl _)
  . exact absurd (Nat.lt_of_lt_of_le (Heap.lt_size (I.pin p hp).1) (by rw [z]; exact hb)) (Nat.lt_irrefl _)
structure Turn (P : Program) (w : World) (K : PySem.W.Frag) (tg : Expr) (J : It) (fp : List Addr) (it : Addr) (tn : Nat -> Heap -> Prop) : Prop where
  mem : it ∈ fp
  obj : ∀ i h, tn i h -> ∀ b ∈ fp, ∃ o, h.get? b = some o /\ ∀ v, o.data ≠ .cell v
  keep : ∀ i h h', tn i h -> (∀ b ∈ fp, ∀ o, h.get? b = some o -> h'.get? b = some o) -> tn i h'
  item : ∀ (X : Cx), X.prog = P -> X.w = w -> X.K = K -> X.calm = true -> ∀ (i : Nat) (pins : List (Addr × Obj)) (s : Shared) (σ : St) (H : Hp) (E : Value -> Shared -> Prop), Inv X pins σ H s -> (∀ b ∈ fp, U5 X pins H b) -> tn i s.heap -> J.go i H ->
    wpAny (model P w) X.A (pyNext (.ref it)) (fun r s1=>∃ u, r = some u /\
      wpAny (model P w) X.A (letOwnedTupleGo tg (.ref it) u) (fun _ s2=>∃ x H', Inv X pins σ H' s2 /\ XV x u /\ J.yld i H x H' /\ tn (i + 1) s2.heap /\ ∀ b ∈ fp, H' b = none) E s1) E s
  done : ∀ (X : Cx), X.prog = P -> X.w = w -> X.K = K -> X.calm = true -> ∀ (i : Nat) (pins : List (Addr × Obj)) (s : Shared) (σ : St) (H : Hp) (E : Value -> Shared -> Prop), Inv X pins σ H s -> (∀ b ∈ fp, U5 X pins H b) -> tn i s.heap -> J.stop i H ->
    wpAny (model P w) X.A (pyNext (.ref it)) (fun r s1=>r = none /\ Inv X pins σ H s1) E s
  self : ∀ (A : Around) (i : Nat) (s : Shared) (Q : Value -> Shared -> Prop) (E : Value -> Shared -> Prop), tn i s.heap -> Q (.ref it) s -> wpAny (model P w) A (pyIter (.ref it)) Q E s
noncomputable abbrev TI:=St -> Hp -> (It -> Hp -> Prop) -> Prop
noncomputable def PIE (X : Cx) (pins : List (Addr × Obj)) (σ : St) (tg : Expr) (R : It -> Hp -> Prop) (itv : Value) (s2 : Shared) : Prop:=
  ∃ (it : Addr) (fp : List Addr) (tn : Nat -> Heap -> Prop) (J : It) (H' : Hp), itv = .ref it /\ Inv X pins σ H' s2 /\ Turn X.prog X.w X.K tg J fp it tn /\ tn 0 s2.heap /\ (∀ b ∈ fp, U5 X pins H' b) /\ R J H'
noncomputable def PI (X : Cx) (tg iter : Expr) (wi : TI) : Prop:=
  ∀ (pins : List (Addr × Obj)) (s : Shared) (σ : St) (H : Hp) (R : It -> Hp -> Prop), Inv X pins σ H s -> wi σ H R ->
    wpAny (model X.prog X.w) X.A (eval iter X.env) (fun v s1=>wpAny (model X.prog X.w) X.A (pyIter v) (PIE X pins σ tg R) X.xe s1) X.xe s
theorem Ez {M : Model} {A : Around} {E : Value -> Shared -> Prop} {s : Shared} {tg : Expr} {it : Addr} {u : Value} {o : Obj} {n : String} {vs : Array Value} {Q : Unit -> Shared -> Prop} (ho : s.heap.get? it = some o) (hc : o.cls = .type n) (hd : o.data = .fields vs)
    (hn : ["enumerate", "zip", "dict_itemiterator", "dict_reverseitemiterator", "odict_iterator", "itertools.zip_longest", "itertools.pairwise"].contains n = false) (hQ : Q () s) : wpAny M A (letOwnedTupleGo tg (.ref it) u) Q E s:=by
  unfold letOwnedTupleGo
  cases tg <;> first
    | exact wpAny_pure hQ
    | (cases u <;> first
        | exact wpAny_pure hQ
        | (refine wpAny_bind (wpAny_load ho ?_)
           rw [hc, hd]
           show wpAny M A (if (["enumerate", "zip", "dict_itemiterator", "dict_reverseitemiterator", "odict_iterator", "itertools.zip_longest", "itertools.pairwise"].contains n && vs[0]? == some (rawInt _)) = true then _ else _) Q E s
           rw [if_neg (by intro h; rw [hn, Bool.false_and] at h; cases h)]
           exact wpAny_pure hQ))
noncomputable def Itl (K : PySem.W.Frag) (a : Addr) : It:=
  ⟨fun i H=>∃ xs x, SqL K H a xs /\ xs[i]? = some x, fun i H x H'=>H' = H /\ ∀ xs, SqL K H a xs -> xs[i]? = some x, fun i H=>∃ xs, SqL K H a xs /\ xs.length <= i⟩
noncomputable def Itr (lo : Int) (n : Nat) : It:=⟨fun i _=>i < n, fun i H x H'=>H' = H /\ x = .int (lo + i), fun i _=>n <= i⟩
theorem Fe {P : Program} {w : World} {K : PySem.W.Frag} {tg : Expr} (a it : Addr) : Turn P w K tg (Itl K a) [it] it (fun i h=>h.IsListIter it a i) where
  mem:=by simp
  obj:=fun i h st b hb=>by
    have e : b = it:=by simpa using hb
    subst e
    obtain ⟨o, e, c, d⟩:=st
    exact ⟨o, e, fun v z=>by rw [d] at z; cases z⟩
  keep:=fun i h h' st k=>st.at fun o e=>k it (by simp) o e
  item:=by
    intro X hP hw hK hc i pins s σ H E I hf st hg
    subst hP hw hK
    obtain ⟨xs, x, hq, hx⟩:=hg
    obtain ⟨its, rv, p, hz⟩:=I.list hq
    obtain ⟨u, hu, ru⟩:=rv.get hx
    obtain ⟨f0, f1, f2, f3, f4, f5⟩:=hf it (by simp)
    refine wpAny_pyNext_list_item st p.isList (x:=u) (by simpa using hu) fun h' st' sb=>?_
    have I1 : Inv X pins σ H { s with heap:=h' }:=I.turned (t':=s.toks) (fun b o hb e=>(sb.2 b hb).trans e) f0 f1 f3 f4 f5
    obtain ⟨o, e, c, d⟩:=id st'
    exact ⟨u, rfl, Ez (s:={ s with heap:=h' }) e c d (by decide) ⟨x, H, I1, ru, ⟨rfl, fun ys hy=>by rw [I.list_inj hy hq]; exact hx⟩, st', fun b hb=>(hf b hb).1⟩⟩
  done:=by
    intro X hP hw hK hc i pins s σ H E I hf st hg
    subst hP hw hK
    obtain ⟨xs, hq, hx⟩:=hg
    obtain ⟨its, rv, p, hz⟩:=I.list hq
    obtain ⟨f0, f1, f2, f3, f4, f5⟩:=hf it (by simp)
    have hl:=rv.length
    exact wpAny_pyNext_list_end (I.ok.hd hc) st p.isList (by simp; omega) fun h' eb=>⟨rfl, I.turned (t':=s.toks) (fun b o hb e=>eb b o hb e) f0 f1 f3 f4 f5⟩
  self:=fun _ _ _ _ _ st h=>wpAny_pyIter_listiter st h
theorem K2 {P : Program} {w : World} {K : PySem.W.Frag} {tg : Expr} (it : Addr) (lo : Int) (n : Nat) : Turn P w K tg (Itr lo n) [it] it (fun i h=>IsRangeIter h it (lo + (i : Nat) * 1) ((n : Int) - (i : Nat)) 1) where
  mem:=by simp
  obj:=fun i h st b hb=>by
    have e : b = it:=by simpa using hb
    subst e
    exact ⟨_, st, fun v z=>by
      have z' : Data.fields _ = Data.cell v:=z
      cases z'⟩
  keep:=fun i h h' st k=>k it (by simp) _ st
  item:=by
    intro X hP hw hK hc i pins s σ H E I hf st hg
    subst hP hw hK
    obtain ⟨f0, f1, f2, f3, f4, f5⟩:=hf it (by simp)
    have W:=Walks.range (prog:=X.prog) (w:=X.w) (I.ok.hd hc) it lo 1 n
    refine W.item i s _ _ hg st fun v h' tk hv st' kk=>?_
    obtain ⟨t, rfl⟩:=hv
    have I1 : Inv X pins σ H { s with heap:=h', toks:=tk }:=I.turned (fun b o hb e=>kk b o (by simpa using hb) e) f0 f1 f3 f4 f5
    refine ⟨_, rfl, Ez (s:={ s with heap:=h', toks:=tk }) (n:="range_iterator") st' rfl rfl (by decide) ⟨.int (lo + i), H, I1, ⟨t, ?_⟩, ⟨rfl, rfl⟩, st', fun b hb=>(hf b hb).1⟩⟩
    rw [Int.mul_one]
  done:=by
    intro X hP hw hK hc i pins s σ H E I hf st hg
    subst hP hw hK
    obtain ⟨f0, f1, f2, f3, f4, f5⟩:=hf it (by simp)
    exact wpAny_pyNext_range_end (I.ok.hd hc) st (by have : n <= i:=hg; omega) fun h' eb=>⟨rfl, I.turned (t':=s.toks) (fun b o hb e=>eb b o hb e) f0 f1 f3 f4 f5⟩
  self:=fun _ _ _ _ _ st h=>wpAny_pyIter_rangeiter st h
end L2
namespace L2
open PySem PySem.Spec PyProof.Rows
section
variable {X : Cx} {tg : Expr}
noncomputable def BA (K : PySem.W.Frag) (tl : TE) : TI:=fun σ H R=>tl σ H fun x H1=>∃ a, x = .ref a /\ (∃ xs, SqL K H1 a xs) /\ R (Itl K a) H1
theorem CQ {l : Expr} {tl : TE} (hl : PE X l tl) : PI X tg l (BA X.K tl):=by
  intro pins s σ H R I h
  refine thn (hl pins s σ H _ I h) fun v s1 ⟨x, H1, I1, r1, q1⟩=>?_
  obtain ⟨a, e, ⟨xs, hq⟩, q⟩:=q1
  subst e
  cases r1
  obtain ⟨its, rv, p, hz⟩:=I1.list hq
  refine wpAny_pyIter_list p.isList ?_
  refine ⟨s1.heap.objs.size, [s1.heap.objs.size], _, _, H1, rfl, I1.kept (t':=s1.toks) fun b o e=>Heap.get?_push_of_some _ e, Fe a _, ⟨_, Heap.get?_push_size _ rfl, rfl, rfl⟩, fun b hb=>?_, q⟩
  have e : b = s1.heap.objs.size:=by simpa using hb
  subst e
  exact I1.fpOk (Nat.le_refl _) (I1.hok.fresh (Nat.le_refl _))
theorem Ku {pins : List (Addr × Obj)} {σ : St} {H : Hp} {s : Shared} {R : It -> Hp -> Prop} {E : Value -> Shared -> Prop} {lo hi : Int} {t u v : Tok} {tk : Nat} (I : Inv X pins σ H s) (h1 : -(2 ^ 62) <= lo) (h2 : lo < 2 ^ 62) (h3 : -(2 ^ 62) <= hi) (h4 : hi < 2 ^ 62)
    (q : R (Itr lo (hi - lo).toNat) H) : wpAny (model X.prog X.w) X.A (pyIter (.ref s.heap.objs.size)) (PIE X pins σ tg R) E { s with heap:=s.heap.push { cls:=.type "range", data:=.fields #[.int lo t, .int hi u, .int 1 v] }, toks:=tk }:=by
  refine wpAny_pyIter_range (IsRange.new ..) (small_one h1 h2 h3 h4) ?_
  have I1 : Inv X pins σ H { s with heap:=s.heap.push { cls:=.type "range", data:=.fields #[.int lo t, .int hi u, .int 1 v] }, toks:=tk }:=I.kept fun b o e=>Heap.get?_push_of_some _ e
  refine ⟨(s.heap.push { cls:=.type "range", data:=.fields #[.int lo t, .int hi u, .int 1 v] }).objs.size, [(s.heap.push { cls:=.type "range", data:=.fields #[.int lo t, .int hi u, .int 1 v] }).objs.size], _, _, H, rfl,
    I1.kept (t':=tk) fun b o e=>Heap.get?_push_of_some _ e, K2 _ lo (hi - lo).toNat, ?_, fun b hb=>?_, q⟩
  . have e1 : lo + ((0 : Nat) : Int) * 1 = lo := by simp
    have e2 : (((hi - lo).toNat : Nat) : Int) - ((0 : Nat) : Int) = Builtin.Range.rangeSize lo hi 1:=by rw [rangeSize_one]; split <;> omega
    show IsRangeIter _ _ (lo + ((0 : Nat) : Int) * 1) ((((hi - lo).toNat : Nat) : Int) - ((0 : Nat) : Int)) 1
    rw [e1, e2]
    exact Heap.get?_push_size _ rfl
  . have e : b = (s.heap.push { cls := .type "range", data := .fields #[.int lo t, .int hi u, .int 1 v] }).objs.size := by simpa using hb
    subst e
    exact I1.fpOk (Nat.le_refl _) (I1.hok.fresh (Nat.le_refl _))
noncomputable def E8 (ta : TA) : TI:=fun σ H R=>ta σ H fun vs H1=>∃ j : Int, vs = [.int j] /\ -(2 ^ 62) <= j /\ j < 2 ^ 62 /\ R (Itr 0 j.toNat) H1
noncomputable def HG (ta : TA) : TI:=fun σ H R=>ta σ H fun vs H1=>∃ i j : Int, vs = [.int i, .int j] /\ (-(2 ^ 62) <= i /\ i < 2 ^ 62 /\ -(2 ^ 62) <= j /\ j < 2 ^ 62) /\ R (Itr i (j - i).toNat) H1
theorem X4 {a : Expr} {ta : TA} {p pos : Pos} (hg : Gl X "range") (hm : X.mg "range" = none) (ha : PA X [a] ta) (hs : starEach [a] X.env = [(false, eval a X.env)]:=by rfl) : PI X tg (.Call (.Name "range" p) [a] [] pos) (E8 ta):=by
  intro pins s σ H R I h
  refine Call_ (QF I hg hm boot_range (PyProof.Rows.callWith_type1 (thn (ha pos pins s σ H _ I h) fun us s1 ⟨vs, H1, I1, r1, q1⟩=>?_) hs rfl))
  obtain ⟨j, e, q1, q2, q⟩:=q1
  subst e
  cases r1 with
  | cons r rr=>
    cases rr
    obtain ⟨t, rfl⟩:=r
    exact call_range_1 (Ku I1 (by omega) (by omega) q1 q2 (by simpa using q))
theorem Fh {a b : Expr} {ta : TA} {p pos : Pos} (hg : Gl X "range") (hm : X.mg "range" = none) (ha : PA X [a, b] ta) (hs : starEach [a, b] X.env = [(false, eval a X.env), (false, eval b X.env)]:=by rfl) (hs2 : starEach [b] X.env = [(false, eval b X.env)]:=by rfl) :
    PI X tg (.Call (.Name "range" p) [a, b] [] pos) (HG ta):=by
  intro pins s σ H R I h
  refine Call_ (QF I hg hm boot_range (PyProof.Rows.callWith_type1 (thn (ha pos pins s σ H _ I h) fun us s1 ⟨vs, H1, I1, r1, q1⟩=>?_) (by rw [hs, hs2]) (by rw [hs2]; rfl)))
  obtain ⟨i, j, e, ⟨q1, q2, q3, q4⟩, q⟩:=q1
  subst e
  cases r1 with
  | cons r rr=>
    cases rr with
    | cons r' rr=>
      cases rr
      obtain ⟨t, rfl⟩:=r
      obtain ⟨t', rfl⟩:=r'
      exact call_range_2 (Ku I1 q1 q2 q3 q4 q)
noncomputable def HJ (wi : TI) (g : TG) (tb : TS) : TS:=fun D σ H=>wi σ H fun J H1=>∃ W : Nat -> Nat -> St -> Hp -> Prop, (∃ m, W 0 m σ H1) /\ ∀ i m σ H, W i m σ H ->
  (J.stop i H /\ D.nx σ H) ∨ (J.go i H /\ ∃ N : St -> Hp -> Prop, (∀ σ' H', N σ' H' -> ∃ m', m' < m /\ W (i + 1) m' σ' H') /\ ∀ x H', J.yld i H x H' -> g x σ H' fun σ2 H2=>tb { D with nx:=N, ct:=N, bk:=D.nx } σ2 H2)
noncomputable def V6 (fp : List Addr) (h : Heap) : List (Addr × Obj):=fp.filterMap fun b=>(h.get? b).map fun o=>(b, o)
theorem Qw {fp : List Addr} {h : Heap} {b : Addr} {o : Obj} (hb : b ∈ fp) (e : h.get? b = some o) : (b, o) ∈ V6 fp h:=List.mem_filterMap.mpr ⟨b, hb, by rw [e]; rfl⟩
theorem FD {fp : List Addr} {h : Heap} {p : Addr × Obj} (hp : p ∈ V6 fp h) : p.1 ∈ fp /\ h.get? p.1 = some p.2:=by
  obtain ⟨b, hb, e⟩:=List.mem_filterMap.mp hp
  cases q : h.get? b with
  | none=>rw [q] at e; cases e
  | some o=>
    rw [q] at e
    have e' : (b, o) = p:=Option.some.inj e
    subst e'
    exact ⟨hb, q⟩
theorem Inv.pinned {pins : List (Addr × Obj)} {σ : St} {H : Hp} {s : Shared} {fp : List Addr} (I : Inv X pins σ H s) (hf : ∀ b ∈ fp, U5 X pins H b) (ho : ∀ b ∈ fp, ∃ o, s.heap.get? b = some o /\ ∀ v, o.data ≠ .cell v) : Inv X (pins ++ V6 fp s.heap) σ H s:=
  I.pins_of fun p hp=>(List.mem_append.mp hp).elim (fun z=>I.pin p (List.mem_append_right _ z)) fun z=>by
    obtain ⟨hb, e⟩:=FD z
    obtain ⟨f0, f1, f2, _⟩:=hf p.1 hb
    obtain ⟨o, e', d⟩:=ho p.1 hb
    rw [e] at e'; cases e'
    exact ⟨e, f0, f1, f2, d⟩
theorem Inv.unpinned {pins pl : List (Addr × Obj)} {σ : St} {H : Hp} {s : Shared} (I : Inv X (pins ++ pl) σ H s) : Inv X pins σ H s:=I.pins_of fun p hp=>I.pin p (List.mem_append_right _ (List.mem_append_left _ hp))
theorem Yg {iter : Expr} {body : List Stmt} {wi : TI} {g : TG} {tb : TS} {pos : Pos} (hp : PassesOwn (model X.prog X.w) X.A X.env X.xe) (hc : X.calm = true) (hi : PI X tg iter wi) (hg : PG X tg g) (hb : PSs X body tb)
    (hs : ∀ x, foldedSetIterable iter X.env x = pure x:=by intro _; rfl) : PS X (.For tg iter body [] pos) (HJ wi g tb):=by
  intro pins s σ H D I h
  refine wpAny_For (thn (hi pins s σ H _ I h) fun v s1 h1=>thn h1 fun itv s2 h2=>?_) hs
  obtain ⟨it, fp, tn, J, H2, e, I2, T, st2, f2, W, ⟨m0, w0⟩, turn⟩:=h2
  subst e
  -- what stays true of the iterator's objects through the loop
  have stat : ∀ {H' : Hp}, (∀ b ∈ fp, H' b = none) -> ∀ b ∈ fp, U5 X pins H' b:=fun hn b hb=>⟨hn b hb, (f2 b hb).2⟩
  refine codeAny_forLoop_any (fun n s'=>∃ i σ' H', Inv X pins σ' H' s' /\ tn i s'.heap /\ (∀ b ∈ fp, H' b = none) /\ W i n σ' H') ?_ m0 ⟨0, σ, H2, I2, st2, fun b hb=>(f2 b hb).1, w0⟩
  rintro n s3 ⟨i, σ3, H3, I3, st3, fr3, w3⟩
  rcases turn i n σ3 H3 w3 with ⟨stop, qn⟩ | ⟨go, N, hN, step⟩
  . refine wpAny_passesOwn hp (thn (T.done X rfl rfl rfl hc i pins s3 σ3 H3 X.xe I3 (stat fr3) st3 stop) fun r s4 ⟨hr, I4⟩ => ?_)
    subst hr
    exact wpAny_execs_nil ⟨σ3, H3, I4, qn⟩
  . refine wpAny_passesOwn hp (thn (T.item X rfl rfl rfl hc i pins s3 σ3 H3 X.xe I3 (stat fr3) st3 go) fun r s4 ⟨u, hr, h4⟩ => ?_)
    subst hr
    refine wpAny_passesOwn hp (thn h4 fun _ s5 ⟨x, H5, I5, r5, y5, st5, fr5⟩=>?_)
    have I5':=I5.pinned (stat fr5) (T.obj _ _ st5)
    refine wpAny_passesOwn hp (thn (hg _ s5 σ3 H5 x u _ I5' r5 (step x H5 y5)) fun _ s6 ⟨σ6, H6, I6, q6⟩=>?_)
    refine wpAny_passesOwn hp (thn (hb _ s6 σ6 H6 _ I6 q6) fun f s7 q7=>?_)
    have again : ∀ {σ7 : St} {H7 : Hp}, Inv X (pins ++ V6 fp s5.heap) σ7 H7 s7 -> N σ7 H7 -> ∃ m, m < n /\ ∃ i σ' H', Inv X pins σ' H' s7 /\ tn i s7.heap /\ (∀ b ∈ fp, H' b = none) /\ W i m σ' H':=fun {σ7 H7} I7 n7=>by
      obtain ⟨m', hm, w7⟩:=hN σ7 H7 n7
      refine ⟨m', hm, i + 1, σ7, H7, I7.unpinned, T.keep _ _ _ st5 fun b hb o e=>(I7.pin (b, o) (List.mem_append_right _ (List.mem_append_right _ (Qw hb e)))).1, fun b hb=>?_, w7⟩
      obtain ⟨o, e, d⟩:=T.obj _ _ st5 b hb
      exact (I7.pin (b, o) (List.mem_append_right _ (List.mem_append_right _ (Qw hb e)))).2.1
    cases f with
    | next=>obtain ⟨σ7, H7, I7, n7⟩:=q7; exact again I7 n7
    | cont=>obtain ⟨σ7, H7, I7, n7⟩:=q7; exact again I7 n7
    | brk=>obtain ⟨σ7, H7, I7, q7⟩:=q7; exact ⟨σ7, H7, I7.unpinned, q7⟩
    | ret v=>obtain ⟨x7, σ7, H7, I7, r7, q7⟩:=q7; exact ⟨x7, σ7, H7, I7.unpinned, r7, q7⟩
end
end L2
namespace L2
open PySem PySem.Spec PyProof.Rows
noncomputable abbrev R2:=V -> V -> Hp -> VK -> Prop
noncomputable def OpR (X : Cx) (f : Value -> Value -> Sem Value) (r : R2) : Prop:=
  ∀ (pins : List (Addr × Obj)) (s : Shared) (σ : St) (H : Hp) (x y : V) (v u : Value) (Q : VK), Inv X pins σ H s -> XV x v -> XV y u -> r x y H Q ->
    wpAny (model X.prog X.w) X.A (f v u) (EP X pins σ Q) X.xe s
noncomputable def UnR (X : Cx) (f : Value -> Sem Value) (r : V -> Hp -> VK -> Prop) : Prop:=
  ∀ (pins : List (Addr × Obj)) (s : Shared) (σ : St) (H : Hp) (x : V) (v : Value) (Q : VK), Inv X pins σ H s -> XV x v -> r x H Q ->
    wpAny (model X.prog X.w) X.A (f v) (EP X pins σ Q) X.xe s
noncomputable def ZQ (X : Cx) (f : Value) (r : List V -> Hp -> VK -> Prop) : Prop:=
  ∀ (pins : List (Addr × Obj)) (s : Shared) (σ : St) (H : Hp) (xs : List V) (us : List Value) (Q : VK), Inv X pins σ H s -> XR xs us -> r xs H Q ->
    wpAny (model X.prog X.w) X.A (call f us) (EP X pins σ Q) X.xe s
noncomputable def tOp (r : R2) (ta tb : TE) : TE:=fun σ H Q=>ta σ H fun x H1=>tb σ H1 fun y H2=>r x y H2 Q
noncomputable def tUn (r : V -> Hp -> VK -> Prop) (ta : TE) : TE:=fun σ H Q=>ta σ H fun x H1=>r x H1 Q
noncomputable def rI (C : Int -> Int -> Prop) (g : Int -> Int -> V) : R2:=fun x y H Q=>∃ i j, x = .int i /\ y = .int j /\ C i j /\ Q (g i j) H
noncomputable def rI0 (g : Int -> Int -> V) : R2:=fun x y H Q=>∃ i j, x = .int i /\ y = .int j /\ Q (g i j) H
noncomputable def rU (g : Int -> V) : V -> Hp -> VK -> Prop:=fun x H Q=>∃ i, x = .int i /\ Q (g i) H
section
variable {X : Cx} {a b c : Expr} {ta tb tc : TE} {pos : Pos}
theorem H9 (ha : PE X a ta) (hb : PE X b tb) {pins : List (Addr × Obj)} {s : Shared} {σ : St} {H : Hp} {R : V -> V -> Hp -> Prop} (I : Inv X pins σ H s)
    (h : ta σ H fun x H1=>tb σ H1 fun y H2=>R x y H2) {Q : Value -> Shared -> Prop} {f : Value -> Value -> Sem Value}
    (hf : ∀ v u s2 x y H2, Inv X pins σ H2 s2 -> XV x v -> XV y u -> R x y H2 -> wpAny (model X.prog X.w) X.A (f v u) Q X.xe s2) :
    wpAny (model X.prog X.w) X.A (eval a X.env) (fun v s₁=>wpAny (model X.prog X.w) X.A (eval b X.env) (fun u s₂=>wpAny (model X.prog X.w) X.A (f v u) Q X.xe s₂) X.xe s₁) X.xe s:=by
  refine thn (ha pins s σ H _ I h) fun v s1 ⟨x, H1, I1, r1, q1⟩=>?_
  refine thn (hb pins s1 σ H1 _ I1 q1) fun u s2 ⟨y, H2, I2, r2, q2⟩=>?_
  exact hf v u s2 x y H2 I2 r1 r2 q2
theorem XC {op : Operator} {r : R2} (ho : OpR X (binaryOp op) r) (ha : PE X a ta) (hb : PE X b tb) : PE X (.BinOp a op b pos) (tOp r ta tb):=by
  intro pins s σ H Q I h
  exact wpAny_BinOp (H9 ha hb I h fun v u s2 x y H2 I2 rx ry q=>ho pins s2 σ H2 x y v u Q I2 rx ry q)
theorem DP {op : UnaryOp} {r : V -> Hp -> VK -> Prop} (ho : UnR X (unaryOp op) r) (ha : PE X a ta) : PE X (.UnaryOp op a pos) (tUn r ta):=by
  intro pins s σ H Q I h
  exact UnaryOp_ (thn (ha pins s σ H _ I h) fun v s1 ⟨x, H1, I1, r1, q1⟩=>ho pins s1 σ H1 x v Q I1 r1 q1)
theorem opI {f : Value -> Value -> Sem Value} {C : Int -> Int -> Prop} {g : Int -> Int -> Int}
    (rule : ∀ (i j : Int) (t u : Tok) (s : Shared) (Q : Value -> Shared -> Prop) (E : Value -> Shared -> Prop), C i j -> Q (.int (g i j) s.toks) { s with toks:=s.toks + 1 } -> wpAny (model X.prog X.w) X.A (f (.int i t) (.int j u)) Q E s) :
    OpR X f (rI C fun i j=>.int (g i j)):=by
  intro pins s σ H x y v u Q I rx ry h
  obtain ⟨i, j, rfl, rfl, hc, q⟩:=h
  obtain ⟨t, rfl⟩:=rx
  obtain ⟨t', rfl⟩:=ry
  exact rule i j t t' s _ _ hc ⟨.int (g i j), H, I.tok _, ⟨_, rfl⟩, q⟩
theorem Iw {f : Value -> Value -> Sem Value} {g : Int -> Int -> Int}
    (rule : ∀ (i j : Int) (t u : Tok) (s : Shared) (Q : Value -> Shared -> Prop) (E : Value -> Shared -> Prop), Q (.int (g i j) s.toks) { s with toks:=s.toks + 1 } -> wpAny (model X.prog X.w) X.A (f (.int i t) (.int j u)) Q E s) :
    OpR X f (rI0 fun i j=>.int (g i j)):=by
  intro pins s σ H x y v u Q I rx ry h
  obtain ⟨i, j, rfl, rfl, q⟩:=h
  obtain ⟨t, rfl⟩:=rx
  obtain ⟨t', rfl⟩:=ry
  exact rule i j t t' s _ _ ⟨.int (g i j), H, I.tok _, ⟨_, rfl⟩, q⟩
theorem HM {f : Value -> Value -> Sem Value} {g : Int -> Int -> Bool}
    (rule : ∀ (i j : Int) (t u : Tok) (s : Shared) (Q : Value -> Shared -> Prop) (E : Value -> Shared -> Prop), Q (.bool (g i j)) s -> wpAny (model X.prog X.w) X.A (f (.int i t) (.int j u)) Q E s) :
    OpR X f (rI0 fun i j=>.bl (g i j)):=by
  intro pins s σ H x y v u Q I rx ry h
  obtain ⟨i, j, rfl, rfl, q⟩:=h
  obtain ⟨t, rfl⟩:=rx
  obtain ⟨t', rfl⟩:=ry
  exact rule i j t t' s _ _ ⟨.bl (g i j), H, I, rfl, q⟩
noncomputable def IC (i j : Int) : Prop:=0 <= j /\ j <= 1000000 /\ i.natAbs < 2 ^ 64
noncomputable def EX (i j : Int) : Prop:=(-(2 ^ 64) < i /\ i < 2 ^ 64) ∨ (-(2 ^ 64) < j /\ j < 2 ^ 64)
theorem EX.ok {i j : Int} (h : EX i j) : IntMulOk i j:=by
  rcases h with ⟨h1, h2⟩ | ⟨h1, h2⟩
  . exact .of_left (intBits_le_64 h1 h2)
  . exact .of_right (intBits_le_64 h1 h2)
theorem Yz : OpR X (binaryOp .Add) (rI0 fun i j=>.int (i + j)):=Iw fun _ _ _ _ _ _ _ q=>add_int q
theorem VW : OpR X (binaryOp .Sub) (rI0 fun i j=>.int (i - j)):=Iw fun _ _ _ _ _ _ _ q=>sub_int q
theorem Zm : OpR X (binaryOp .Mult) (rI EX fun i j=>.int (i * j)):=opI fun _ _ _ _ _ _ _ hc q=>mul_int q hc.ok
theorem Zc : OpR X (binaryOp .Mod) (rI (fun _ j=>0 < j) fun i j=>.int (i % j)):=opI fun i j _ _ _ _ _ hc q=>by
  have h1 : (0 : Int) < j:=hc
  exact mod_int' (by omega) (by rw [Int.fmod_eq_emod_of_nonneg i (by omega)]; exact q)
theorem Ce : OpR X (binaryOp .Pow) (rI IC fun i j=>.int (i ^ j.toNat)):=opI fun _ _ _ _ _ _ _ hc q=>pow_int_small hc.1 hc.2.1 hc.2.2 q
theorem unI {f : Value -> Sem Value} {g : Int -> Int}
    (rule : ∀ (i : Int) (t : Tok) (s : Shared) (Q : Value -> Shared -> Prop) (E : Value -> Shared -> Prop), Q (.int (g i) s.toks) { s with toks:=s.toks + 1 } -> wpAny (model X.prog X.w) X.A (f (.int i t)) Q E s) :
    UnR X f (rU fun i=>.int (g i)):=by
  intro pins s σ H x v Q I rx h
  obtain ⟨i, rfl, q⟩:=h
  obtain ⟨t, rfl⟩:=rx
  exact rule i t s _ _ ⟨.int (g i), H, I.tok _, ⟨_, rfl⟩, q⟩
theorem Ke : UnR X (unaryOp .USub) (rU fun i=>.int (-i)):=unI fun _ _ _ _ _ q=>neg_int q
end
noncomputable def HW : V -> V -> Bool
  | .non, .non=>true | .non, .int _=>true | .int _, .non=>true | .non, .bl _=>true | .bl _, .non=>true | .non, .str _=>true | .str _, .non=>true
  | .int _, .int _=>true | .bl _, .bl _=>true | .str _, .str _=>true | .byt _, .byt _=>true
  | .int _, .str _=>true | .str _, .int _=>true | .bl _, .str _=>true | .str _, .bl _=>true
  | _, _=>false
noncomputable def rEq : R2:=fun x y H Q=>HW x y = true /\ Q (.bl (decide (x = y))) H
noncomputable def rNe : R2:=fun x y H Q=>HW x y = true /\ Q (.bl (!decide (x = y))) H
theorem GO {i j : Int} : decide (V.int i = V.int j) = (i == j):=by
  rw [Bool.eq_iff_iff]
  simp
theorem Cd {i j : Bool} : decide (V.bl i = V.bl j) = (i == j):=by
  rw [Bool.eq_iff_iff]
  simp
theorem F0 {i j : Str} : decide (V.str i = V.str j) = (i == j):=by
  rw [Bool.eq_iff_iff]
  simp
theorem GI {i j : Array UInt8} : decide (V.byt i = V.byt j) = (i.toList == j.toList):=by
  rw [Bool.eq_iff_iff]
  cases i
  cases j
  simp
section
variable {X : Cx} {a b c : Expr} {ta tb tc : TE} {pos : Pos}
theorem XS {pins : List (Addr × Obj)} {σ : St} {H : Hp} {s : Shared} {Q : VK} {k k' : Bool} (I : Inv X pins σ H s) (q : Q (.bl k) H) (e : k = k') : EP X pins σ Q (.bool k') s:=by
  subst e
  exact ⟨.bl k, H, I, rfl, q⟩
theorem Gz : OpR X (compareOp .Eq) rEq:=by
  intro pins s σ H x y v u Q I rx ry h
  obtain ⟨hs, q⟩:=h
  cases x with
  | non=>
    cases rx
    cases y with
    | non=>cases ry; exact PySem.EqNone.eq_none_none (XS I q (by simp))
    | bl j=>cases ry; exact PySem.EqNone.eq_none_bool (XS I q (by simp))
    | int j=>obtain ⟨t', rfl⟩:=ry; exact PySem.EqNone.eq_none_int (XS I q (by simp))
    | str j=>obtain ⟨t', rfl⟩:=ry; exact PySem.EqNone.eq_none_str (XS I q (by simp))
    | _=>exact absurd (show false = true from hs) Bool.false_ne_true
  | bl i=>
    cases rx
    cases y with
    | non=>cases ry; exact PySem.EqNone.eq_bool_none (XS I q (by simp))
    | bl j=>cases ry; exact eq_bool (XS I q Cd)
    | str j=>obtain ⟨t', rfl⟩:=ry; exact PySem.EqMixed.eq_bool_str (XS I q (by simp))
    | _=>exact absurd (show false = true from hs) Bool.false_ne_true
  | int i=>
    obtain ⟨t, rfl⟩:=rx
    cases y with
    | non=>cases ry; exact PySem.EqNone.eq_int_none (XS I q (by simp))
    | int j=>obtain ⟨t', rfl⟩:=ry; exact eq_int (XS I q GO)
    | str j=>obtain ⟨t', rfl⟩:=ry; exact PySem.EqMixed.eq_int_str (XS I q (by simp))
    | _=>exact absurd (show false = true from hs) Bool.false_ne_true
  | str i=>
    obtain ⟨t, rfl⟩:=rx
    cases y with
    | non=>cases ry; exact PySem.EqNone.eq_str_none (XS I q (by simp))
    | bl j=>cases ry; exact PySem.EqMixed.eq_str_bool (XS I q (by simp))
    | int j=>obtain ⟨t', rfl⟩:=ry; exact PySem.EqMixed.eq_str_int (XS I q (by simp))
    | str j=>obtain ⟨t', rfl⟩:=ry; exact eq_str (XS I q F0)
    | _=>exact absurd (show false = true from hs) Bool.false_ne_true
  | byt i=>
    obtain ⟨t, rfl⟩:=rx
    cases y with
    | byt j=>obtain ⟨t', rfl⟩:=ry; exact PySem.W.eq_bytes (XS I q GI)
    | _=>exact absurd (show false = true from hs) Bool.false_ne_true
  | _=>cases y <;> exact absurd (show false = true from hs) Bool.false_ne_true
theorem BT : OpR X (compareOp .NotEq) rNe:=by
  intro pins s σ H x y v u Q I rx ry h
  obtain ⟨hs, q⟩:=h
  cases x with
  | non=>
    cases rx
    cases y with
    | non=>cases ry; exact PySem.EqNone.ne_none_none (XS I q (by simp))
    | bl j=>cases ry; exact PySem.EqNone.ne_none_bool (XS I q (by simp))
    | int j=>obtain ⟨t', rfl⟩:=ry; exact PySem.EqNone.ne_none_int (XS I q (by simp))
    | str j=>obtain ⟨t', rfl⟩:=ry; exact PySem.EqNone.ne_none_str (XS I q (by simp))
    | _=>exact absurd (show false = true from hs) Bool.false_ne_true
  | bl i=>
    cases rx
    cases y with
    | non=>cases ry; exact PySem.EqNone.ne_bool_none (XS I q (by simp))
    | bl j=>cases ry; exact ne_bool (XS I q (congrArg not Cd))
    | str j=>obtain ⟨t', rfl⟩:=ry; exact PySem.EqMixed.ne_bool_str (XS I q (by simp))
    | _=>exact absurd (show false = true from hs) Bool.false_ne_true
  | int i=>
    obtain ⟨t, rfl⟩:=rx
    cases y with
    | non=>cases ry; exact PySem.EqNone.ne_int_none (XS I q (by simp))
    | int j=>obtain ⟨t', rfl⟩:=ry; exact ne_int (XS I q (congrArg not GO))
    | str j=>obtain ⟨t', rfl⟩:=ry; exact PySem.EqMixed.ne_int_str (XS I q (by simp))
    | _=>exact absurd (show false = true from hs) Bool.false_ne_true
  | str i=>
    obtain ⟨t, rfl⟩:=rx
    cases y with
    | non=>cases ry; exact PySem.EqNone.ne_str_none (XS I q (by simp))
    | bl j=>cases ry; exact PySem.EqMixed.ne_str_bool (XS I q (by simp))
    | int j=>obtain ⟨t', rfl⟩:=ry; exact PySem.EqMixed.ne_str_int (XS I q (by simp))
    | str j=>obtain ⟨t', rfl⟩:=ry; exact ne_str (XS I q (congrArg not F0))
    | _=>exact absurd (show false = true from hs) Bool.false_ne_true
  | byt i=>
    obtain ⟨t, rfl⟩:=rx
    cases y with
    | byt j=>obtain ⟨t', rfl⟩:=ry; exact PySem.W.ne_bytes (XS I q (congrArg not GI))
    | _=>exact absurd (show false = true from hs) Bool.false_ne_true
  | _=>cases y <;> exact absurd (show false = true from hs) Bool.false_ne_true
theorem KR : OpR X (compareOp .Lt) (rI0 fun i j=>.bl (decide (i < j))):=HM fun _ _ _ _ _ _ _ q=>lt_int q
theorem Ip : OpR X (compareOp .LtE) (rI0 fun i j=>.bl (decide (i <= j))):=HM fun _ _ _ _ _ _ _ q=>le_int q
theorem K7 : OpR X (compareOp .Gt) (rI0 fun i j=>.bl (decide (j < i))):=HM fun _ _ _ _ _ _ _ q=>gt_int q
theorem Ie : OpR X (compareOp .GtE) (rI0 fun i j=>.bl (decide (j <= i))):=HM fun _ _ _ _ _ _ _ q=>ge_int q
theorem OpR.or {f : Value -> Value -> Sem Value} {r r' : R2} (h : OpR X f r) (h' : OpR X f r') : OpR X f (fun x y H Q=>r x y H Q ∨ r' x y H Q):=by
  intro pins s σ H x y v u Q I rx ry q
  rcases q with q | q
  . exact h pins s σ H x y v u Q I rx ry q
  . exact h' pins s σ H x y v u Q I rx ry q
theorem XZ (b : Expr) {op : CmpOp} (h : op ≠ .In:=by decide) (h2 : op ≠ .NotIn:=by decide) : behindInMarks op b = false:=by
  have e1 : (op == CmpOp.In) = false:=by cases op <;> first | rfl | exact absurd rfl h
  have e2 : (op == CmpOp.NotIn) = false:=by cases op <;> first | rfl | exact absurd rfl h2
  cases b <;> simp [behindInMarks, e1, e2]
theorem U4 {op : CmpOp} {r : R2} (ho : OpR X (compareOp op) r) (ha : PE X a ta) (hb : PE X b tb) (hm : behindInMarks op b = false) : PE X (.Compare a [op] [b] pos) (tOp r ta tb):=by
  intro pins s σ H Q I h
  exact wpAny_Compare1 (H9 ha hb I h fun v u s2 x y H2 I2 rx ry q=>ho pins s2 σ H2 x y v u Q I2 rx ry q) hm
noncomputable def BW (t : TE) : TT:=fun σ H Q=>t σ H fun x H'=>∃ k, x = .bl k /\ Q k H'
theorem XN {op : CmpOp} {r : R2} (ho : OpR X (compareOp op) r) (ha : PE X a ta) (hb : PE X b tb) (hm : behindInMarks op b = false) : PT X (.Compare a [op] [b] pos) (BW (tOp r ta tb)):=by
  intro pins s σ H Q I h
  refine wpAny_isTrue_Compare1 (thn (ha pins s σ H _ I h) fun v s1 ⟨x, H1, I1, r1, q1⟩=>thn (hb pins s1 σ H1 _ I1 q1) fun u s2 ⟨y, H2, I2, r2, q2⟩=>
    thn (ho pins s2 σ H2 x y v u _ I2 r1 r2 q2) fun c s3 ⟨z, H3, I3, r3, k, e, q3⟩=>?_) hm
  subst e
  cases r3
  exact wpAny_truthy_bool ⟨H3, I3, q3⟩
noncomputable def CK (r r' : R2) (ta tb tc : TE) : TE:=fun σ H Q=>ta σ H fun x H1=>tb σ H1 fun y H2=>r x y H2 fun z H3=>∃ k, z = .bl k /\
  (if k = true then tc σ H3 fun w' H4=>r' y w' H4 Q else Q (.bl false) H3)
theorem D0 {op op' : CmpOp} {r r' : R2} (ho : OpR X (compareOp op) r) (ho' : OpR X (compareOp op') r') (ha : PE X a ta) (hb : PE X b tb) (hc : PE X c tc)
    (hm : lastMarks [op, op'] [b, c] = false:=by with_unfolding_all rfl) : PT X (.Compare a [op, op'] [b, c] pos) (BW (CK r r' ta tb tc)):=by
  intro pins s σ H Q I h
  refine isTrue_chain (thn (ha pins s σ H _ I h) fun v s1 ⟨x, H1, I1, r1, q1⟩=>test_link (thn (hb pins s1 σ H1 _ I1 q1) fun u s2 ⟨y, H2, I2, r2, q2⟩=>
    thn (ho pins s2 σ H2 x y v u _ I2 r1 r2 q2) fun d s3 ⟨z, H3, I3, r3, k, e, q3⟩=>?_)) hm
  subst e
  cases r3
  refine wpAny_truthy_bool ?_
  cases k with
  | false=>
    obtain ⟨k', e', q'⟩:=q3
    cases e'
    exact ite_ff ⟨H3, I3, q'⟩
  | true=>
    refine ite_tt (test_last (thn (hc pins s3 σ H3 _ I3 q3) fun w' s4 ⟨z', H4, I4, r4, q4⟩=>thn (ho' pins s4 σ H4 y z' u w' _ I4 r2 r4 q4) fun d' s5 ⟨z2, H5, I5, r5, k2, e2, q5⟩=>?_))
    subst e2
    cases r5
    exact wpAny_truthy_bool ⟨H5, I5, q5⟩
theorem KE : (sizeLine : Nat) < 2 ^ 63:=by rw [sizeLine_eq]; decide
theorem Gn {x : V} {us : List Value} (r : XR [x] us) : ∃ u, us = [u] /\ XV x u:=by
  cases r with
  | cons r1 r2=>cases r2; exact ⟨_, rfl, r1⟩
theorem HU {x y : V} {us : List Value} (r : XR [x, y] us) : ∃ u w', us = [u, w'] /\ XV x u /\ XV y w':=by
  cases r with
  | cons r1 r2=>
    cases r2 with
    | cons r3 r4=>cases r4; exact ⟨_, _, rfl, r1, r3⟩
theorem Qb (hc : X.calm = true) : ZQ X (.builtin "max") (fun xs H Q=>∃ i j, xs = [.int i, .int j] /\ Q (.int (if j > i then j else i)) H):=by
  intro pins s σ H xs us Q I r h
  obtain ⟨i, j, rfl, q⟩:=h
  obtain ⟨u, w', rfl, ⟨t, rfl⟩, ⟨t', rfl⟩⟩:=HU r
  refine max_two_ints (I.ok.hd hc) fun h' tk k=>⟨_, H, I.kept k, ?_, q⟩
  by_cases hj : j > i
  . rw [if_pos hj, if_pos hj]; exact ⟨_, rfl⟩
  . rw [if_neg hj, if_neg hj]; exact ⟨_, rfl⟩
end
end L2
namespace L2
open PySem PySem.Spec PyProof.Rows
structure ObjM (h : Heap) (x dx C : Addr) (mA : Str -> Option Value) : Prop where
  obj : h.get? x = some (PySem.W.instObj C dx)
  ns : h.Ns1 dx mA
  ne : dx ≠ x
theorem G2 {h : Heap} {dx : Addr} {mA : Str -> Option Value} (n : h.Ns1 dx mA) : ∃ od, h.get? dx = some od /\ ∀ name, PySem.W.lookIn name od = some (mA name):=by
  obtain ⟨o, es, ep, ho, hd, hk, _, hm⟩:=n
  refine ⟨o, ho, fun name=>?_⟩
  have e:=hm name
  unfold nsFind findBy at e
  rw [← Array.find?_toList] at e
  unfold PySem.W.lookIn
  rw [hd]
  dsimp only
  split
  . rename_i y q
    rw [q] at e
    exact congrArg some e
  . rename_i q
    rw [q] at e
    have a : es.toList.any (·.refKey) = false:=by
      rw [List.any_eq_false]
      intro y hy
      obtain ⟨z, t, hkey⟩:=hk y (Array.mem_toList_iff.mp hy)
      simp [DictEntry.refKey, hkey]
    have a' : ¬ es.toList.any (·.refKey) = true:=by rw [a]; exact Bool.false_ne_true
    rw [if_neg a']
    exact congrArg some e
theorem ObjM.look {h : Heap} {x dx C : Addr} {mA : Str -> Option Value} (I : ObjM h x dx C mA) : ∃ od, PySem.W.InstAt h x (PySem.W.instObj C dx) C (some od) /\ ∀ name, PySem.W.lookIn name od = some (mA name):=
  let ⟨od, ho, hl⟩:=G2 I.ns
  ⟨od, ⟨I.obj, rfl, rfl, ho⟩, hl⟩
section
variable {prog : Program} {w : World} {A : Around} {E : Value -> Shared -> Prop} {s : Shared} {K : PySem.W.Frag} {x dx C f : Addr} {mA : Str -> Option Value} {name : Str} {v : Value}
end
section
variable {P : Program} {w : World} {H H' : Hp} {h h' : Heap} {a C dx : Addr} {fs fs' : List (Str × V)}
theorem BX (hok : HOk P w H h) (e : H a = some (.ins C dx fs)) : ∃ mA, ObjM h a dx C mA /\ (∀ f, Dl (fs.lookup f) (mA f)) /\ PySem.Within mA (fs.map (·.1)) /\ fs.length <= 1000 /\ H dx = some (.own a):=by
  obtain ⟨d, z, ne, ob, mA, n, r, q⟩:=(show Y2 P w H h a (.ins C dx fs) from hok a _ e)
  exact ⟨mA, ⟨ob, n, ne⟩, r, q, z, d⟩
end
structure Cls (K : PySem.W.Frag) (C : Addr) : Prop where
  pg : PySem.W.plainGet K C Str.empty = true
  hd : PySem.W.hasDictIn K C = true
  po : PySem.W.plainOver K C = true
  sa : PySem.W.findIn K (.ref C) "__setattr__" = some (some (.builtin "object.__setattr__"))
theorem Cls.get {K : PySem.W.Frag} {C : Addr} (c : Cls K C) (f : Str) : PySem.W.plainGet K C f = true:=c.pg
section
variable {X : Cx} {pins : List (Addr × Obj)} {σ : St} {H : Hp} {s : Shared} {a C dx : Addr} {fs : List (Str × V)} {f : Str} {v : V} {A : Around} {E : Value -> Shared -> Prop}
theorem Inv.made (I : Inv X pins σ H s) : Inv X pins σ (upd (upd H s.heap.objs.size (.own (s.heap.objs.size + 1))) (s.heap.objs.size + 1) (.ins C s.heap.objs.size []))
    { s with heap:=(s.heap.push PySem.W.emptyDict).push (PySem.W.instObj C s.heap.objs.size) }:=by
  have e1 : (s.heap.push PySem.W.emptyDict).get? s.heap.objs.size = some PySem.W.emptyDict:=Heap.get?_push_size s.heap rfl
  have e2 : ((s.heap.push PySem.W.emptyDict).push (PySem.W.instObj C s.heap.objs.size)).get? (s.heap.objs.size + 1) = some (PySem.W.instObj C s.heap.objs.size):=by
    have:=Heap.get?_push_size (s.heap.push PySem.W.emptyDict) (o:=PySem.W.instObj C s.heap.objs.size) rfl
    rwa [Heap.size_push] at this
  have e3 : (s.heap.push PySem.W.emptyDict).Ns s.heap.objs.size (fun _=>none):=⟨PySem.W.emptyDict, #[], _, e1, rfl, (fun e he=>absurd he (by simp)), fun _=>rfl⟩
  have I1:=I.laid (a:=s.heap.objs.size) (o:=.own (s.heap.objs.size + 1)) (h':=s.heap.push PySem.W.emptyDict) (t':=s.toks) (fun b u q=>Heap.get?_push_of_some _ q) (Nat.le_refl _) ⟨_, e1⟩
  refine I1.laid (a:=s.heap.objs.size + 1) (o:=.ins C s.heap.objs.size []) (t':=s.toks) (fun b u q=>Heap.get?_push_of_some _ q) (Nat.le_of_eq (Heap.size_push _ _)) ?_
  have ne : s.heap.objs.size ≠ s.heap.objs.size + 1:=Nat.ne_of_lt (Nat.lt_succ_self _)
  refine ⟨by rw [XA ne, Yu], Nat.zero_le _, ne, e2, fun _=>none, (Heap.Ns1.of_empty e3).at fun o q=>Heap.get?_push_of_some _ q, fun _=>True.intro, fun y hy=>absurd rfl hy⟩
end
section
variable {X : Cx} {o e value : Expr} {f : Str} {pos pos' tpos : Pos} {ta tv : TE}
end
section
variable {X : Cx} {pins : List (Addr × Obj)} {σ : St} {H : Hp} {s : Shared} {A : Around} {E : Value -> Shared -> Prop} {Q : Value -> Shared -> Prop} {c : Value} {b : Bool}
inductive TyOf (K : PySem.W.Frag) (H : Hp) : V -> Value -> Prop where
  | non : TyOf K H .non (.type "NoneType")
  | bl (x : Bool) : TyOf K H (.bl x) (.type "bool")
  | int (i : Int) : TyOf K H (.int i) (.type "int")
  | str (x : Str) : TyOf K H (.str x) (.type "str")
  | flt (x : UInt64) : TyOf K H (.flt x) (.type "float")
  | lst {a : Addr} {xs : List V} (e : H a = some (.lst xs)) : TyOf K H (.ref a) (.type "list")
  | frz {a : Addr} {o : Obj} {xs : List V} (e : H a = some (.frz o (.lst xs))) : TyOf K H (.ref a) (.type "list")
  | tup {a : Addr} {xs : List V} (e : H a = some (.tup xs)) : TyOf K H (.ref a) (.type "tuple")
  | dK {a : Addr} {kvs : List (Key × V)} (e : H a = some (.dK kvs)) : TyOf K H (.ref a) (.type "dict")
  | dT {a : Addr} {kvs : List (List Key × V)} (e : H a = some (.dT kvs)) : TyOf K H (.ref a) (.type "dict")
  | ins {a C dx : Addr} {fs : List (Str × V)} (e : H a = some (.ins C dx fs)) (cl : Cls K C) (ha : PySem.W.findIn K (.ref C) "__class__" = some (some (.builtin "object.__class__")))
      (hn : PySem.W.specialIn K (.builtin "object.__class__") "__get__" = some (some (.builtin "getset_descriptor.__get__"))) (htk : PySem.W.takesIn K (.builtin "object.__class__") = some true)
      (hm : PySem.W.mroIn K C (.type "object") = some true) : TyOf K H (.ref a) (.ref C)
theorem Fp {x : V} {u t : Value} (I : Inv X pins σ H s) (rx : XV x u) (ty : TyOf X.K H x t) (e : PySem.W.kitOne X.K t c = some b) (h : ∀ tk, Q (.bool b) { s with toks:=tk }) :
    wpAny (model X.prog X.w) A (call (.builtin "isinstance") [u, c]) Q E s:=by
  cases ty with
  | non=>cases (show u = Value.none from rx); exact PySem.W.kia_one PySem.W.kitx_none I.kIn True.intro e (fun z=>nomatch z) h
  | bl y=>cases (show u = Value.bool y from rx); exact PySem.W.kia_one PySem.W.kitx_bool I.kIn True.intro e (fun z=>nomatch z) h
  | int i=>obtain ⟨t, q⟩:=(show ∃ t, u = Value.int i t from rx); cases q; exact PySem.W.kia_one PySem.W.kitx_int I.kIn True.intro e (fun z=>nomatch z) h
  | str y=>obtain ⟨t, q⟩:=(show ∃ t, u = Value.str y t from rx); cases q; exact PySem.W.kia_one PySem.W.kitx_str I.kIn True.intro e (fun z=>nomatch z) h
  | flt y=>obtain ⟨t, q⟩:=(show ∃ t, u = Value.float y t from rx); cases q; exact PySem.W.kia_one PySem.W.kitx_float I.kIn True.intro e (fun z=>nomatch z) h
  | @lst a xs ea=>
    cases (show u = Value.ref a from rx)
    obtain ⟨_, _, n, _, h1⟩:=(show Y2 X.prog X.w H s.heap a (.lst xs) from I.hok a _ ea)
    exact PySem.W.kia_one PySem.W.kitx_list I.kIn ⟨_, h1, rfl⟩ e (fun z=>nomatch z) h
  | @frz a ob xs ea=>
    cases (show u = Value.ref a from rx)
    obtain ⟨_, _, _, n, _, h1⟩:=(show Y2 X.prog X.w H s.heap a (.frz ob (.lst xs)) from I.hok a _ ea)
    exact PySem.W.kia_one PySem.W.kitx_list I.kIn ⟨_, h1, rfl⟩ e (fun z=>nomatch z) h
  | @tup a xs ea=>
    cases (show u = Value.ref a from rx)
    obtain ⟨_, _, _, p⟩:=(show Y2 X.prog X.w H s.heap a (.tup xs) from I.hok a _ ea)
    obtain ⟨o, h1, h2, _⟩:=p
    exact PySem.W.kia_one PySem.W.kitx_tuple I.kIn ⟨o, h1, h2.1⟩ e (fun z=>nomatch z) h
  | @dK a kvs ea=>
    cases (show u = Value.ref a from rx)
    obtain ⟨_, _, vs, _, p⟩:=(show Y2 X.prog X.w H s.heap a (.dK kvs) from I.hok a _ ea)
    obtain ⟨o, es, ep, h1, h2, _⟩:=p
    exact PySem.W.kia_one PySem.W.kitx_dict I.kIn ⟨o, h1, h2.1⟩ e (fun z=>nomatch z) h
  | @dT a kvs ea=>
    cases (show u = Value.ref a from rx)
    obtain ⟨_, _, xs, _, o, es, ep, h1, h2, _⟩:=(show Y2 X.prog X.w H s.heap a (.dT kvs) from I.hok a _ ea)
    exact PySem.W.kia_one PySem.W.kitx_dict I.kIn ⟨o, h1, h2.1⟩ e (fun z=>nomatch z) h
  | @ins a C dx fs ea cl ha hn htk hm=>
    cases (show u = Value.ref a from rx)
    obtain ⟨mA, O, _⟩:=BX I.hok ea
    obtain ⟨od, J, _⟩:=O.look
    exact PySem.W.kia_one (PySem.W.kitx_own (cl.get _) cl.hd ha hn htk hm) I.kIn J e (fun z=>nomatch z) h
end
end L2
namespace L2
open PySem PySem.Spec PyProof.Rows
structure Room (k : Nat) (A : Around) : Prop where
  hd : A.handled = none
  dp : A.depth + 3 * k + 5 < recursionLimit
  un : A.units + 16 * k + 200 < cLine
theorem Room.mono {j k : Nat} {A : Around} (r : Room k A) (h : j <= k) : Room j A:=⟨r.hd, by have:=r.dp; omega, by have:=r.un; omega⟩
theorem Room.deeper {k : Nat} {A : Around} (r : Room (k + 1) A) (env : Env) : Room k (A.deeper env):=
  ⟨r.hd, by have:=r.dp; show A.depth + 1 + 3 * k + 5 < _; omega, by have:=r.un; show A.units + 3 + 16 * k + 200 < _; omega⟩
theorem Room.in1 {k : Nat} {A : Around} (r : Room (k + 1) A) : Room k A.in1:=
  ⟨r.hd, by have:=r.dp; show A.depth + 3 * k + 5 < _; omega, by have:=r.un; show A.units + 1 + 16 * k + 200 < _; omega⟩
theorem Room.depth {k : Nat} {A : Around} (r : Room k A) : A.depth < recursionLimit:=by have:=r.dp; omega
theorem Room.units {k : Nat} {A : Around} (r : Room k A) : A.units + 64 < cLine:=by have:=r.un; omega
noncomputable def ZM : TA:=fun _ H Q=>Q [] H
noncomputable def XG (ta : TE) (tr : TA) : TA:=fun σ H Q=>ta σ H fun x H1=>tr σ H1 fun xs H2=>Q (x :: xs) H2
section
variable {X : Cx} {e : Expr} {es : List Expr} {te : TE} {t : TA} {pos : Pos}
theorem Xf : PA X [] ZM:=fun _ _ _ _ H Q I h=>Calls.spliced_nil ⟨[], H, I, .nil, h⟩
theorem Xb (ha : PE X e te) (hr : PA X es t) (hs : starEach (e :: es) X.env = (false, eval e X.env) :: starEach es X.env:=by rfl) : PA X (e :: es) (XG te t):=by
  intro pos pins s σ H Q I h
  rw [hs]
  show wpAny _ _ (spliced ((false, eval e X.env) :: backTo pos (starEach es X.env))) _ _ s
  refine Calls.spliced_cons (thn (ha pins s σ H _ I h) fun u s1 ⟨x, H1, I1, r1, q1⟩=>?_)
  exact thn (hr pos pins s1 σ H1 _ I1 q1) fun us s2 ⟨xs, H2, I2, r2, q2⟩=>⟨x :: xs, H2, I2, .cons r1 r2, q2⟩
noncomputable def EN (t : TA) : TE:=fun σ H Q=>t σ H fun xs H1=>xs.length <= sizeLine /\ ∀ p, H1 p = none -> Q (.ref p) (upd H1 p (.tup xs))
noncomputable def ED (t : TA) : TE:=fun σ H Q=>t σ H fun xs H1=>xs.length <= sizeLine /\ ∀ p, H1 p = none -> Q (.ref p) (upd H1 p (.lst xs))
theorem Y6 {x1} (h : PA X es t) : PE X (.Tuple es x1 pos) (EN t):=by
  intro pins s σ H Q I hq
  refine wpAny_Tuple_spliced (thn (h pos pins s σ H _ I hq) fun us s1 ⟨xs, H1, I1, r, z, q⟩=>⟨by rw [← r.length]; exact z, ?_⟩)
  have hf : H1 s1.heap.objs.size = none:=I1.hok.fresh (Nat.le_refl _)
  refine ⟨.ref s1.heap.objs.size, upd H1 s1.heap.objs.size (.tup xs), I1.laid (t':=s1.toks) (fun b u e=>Heap.get?_push_of_some _ e) (Nat.le_refl _) ?_, rfl, q _ hf⟩
  exact ⟨z, us, r, ⟨_, Heap.get?_push_size _ rfl, ⟨rfl, rfl⟩, _, rfl⟩⟩
theorem Yj (h : PA X es t) : PE X (.List es pos) (ED t):=by
  intro pins s σ H Q I hq
  refine wpAny_List_spliced (thn (h pos pins s σ H _ I hq) fun us s1 ⟨xs, H1, I1, r, z, q⟩=>⟨by rw [← r.length]; exact z, ?_⟩)
  have hf : H1 s1.heap.objs.size = none:=I1.hok.fresh (Nat.le_refl _)
  refine ⟨.ref s1.heap.objs.size, upd H1 s1.heap.objs.size (.lst xs), I1.laid (t':=s1.toks) (fun b u e=>Heap.get?_push_of_some _ e) (Nat.le_refl _) ?_, rfl, q _ hf⟩
  exact ⟨z, us, 0, r, Heap.get?_push_size _ rfl⟩
end
noncomputable abbrev Sp:=List V -> Hp -> VK -> XK -> Prop
noncomputable abbrev CXT:=List Env -> Hp -> Shared -> XK -> Value -> Shared -> Prop
structure Env0 (P : Program) (w : World) (K : PySem.W.Frag) (mg : Str -> Option Value) (base : Heap) (A : Around) (outer : List Env) (s : Shared) (H : Hp) : Prop where
  frames : A.frames = some outer
  mod : Mod K mg base
  bs : ∀ b o, base.get? b = some o -> s.heap.get? b = some o /\ H b = none
  bsz : base.objs.size <= s.heap.objs.size
  funs : s.heap.FunFrames base outer
  frf : ∀ b ∈ frs outer, H b = none
  hok : HOk P w H s.heap
  bare : AllBare s.gens
noncomputable def CE (outer : List Env) (P : Program) (w : World) (H : Hp) (s : Shared) (Q : VK) (u : Value) (s' : Shared) : Prop:=
  ∃ v H', s'.os = s.os /\ AllBare s'.gens /\ Un (frs outer) [] H H' s.heap s'.heap /\ HOk P w H' s'.heap /\ XV v u /\ Q v H'
noncomputable def CR (CX : CXT) (outer : List Env) (P : Program) (w : World) (H : Hp) (s : Shared) (Q : VK) (E : XK) (r : Result) (s' : Shared) : Prop:=
  match r with
  | .ok (.ret u)=>CE outer P w H s Q u s'
  | .ok _=>False
  | .error e=>CX outer H s E e s'
structure FnOk (P : Program) (w : World) (K : PySem.W.Frag) (mg : Str -> Option Value) (base : Heap) (CX : CXT) (k : Nat) (f : Addr) (fd : FuncData) (ps : List Str) (sp : Sp) : Prop where
  len : ∀ vs H Q E, sp vs H Q E -> vs.length = ps.length
  run : ∀ (A : Around) (outer : List Env) (s : Shared) (H : Hp) (args : Args) (us : List Value) (vs : List V) (Q : VK) (E : XK), Room k A -> Env0 P w K mg base A outer s H -> BindsTo s fd args (ps.zip us) -> XR vs us -> sp vs H Q E ->
    codeAny (model P w) A (.call (.ref f) args) (CR CX outer P w H s Q E) s
theorem FnOk.mono {P : Program} {w : World} {K : PySem.W.Frag} {mg : Str -> Option Value} {base : Heap} {CX : CXT} {j k : Nat} {f : Addr} {fd : FuncData} {ps : List Str} {sp : Sp} (F : FnOk P w K mg base CX j f fd ps sp) (h : j <= k) :
    FnOk P w K mg base CX k f fd ps sp:=⟨F.len, fun A outer s H args us vs Q E hr=>F.run A outer s H args us vs Q E (hr.mono h)⟩
theorem FnOk.imp {P : Program} {w : World} {K : PySem.W.Frag} {mg : Str -> Option Value} {base : Heap} {CX : CXT} {k : Nat} {f : Addr} {fd : FuncData} {ps : List Str} {sp sp' : Sp} (F : FnOk P w K mg base CX k f fd ps sp)
    (h : ∀ vs H Q E, sp' vs H Q E -> sp vs H Q E) : FnOk P w K mg base CX k f fd ps sp':=
  ⟨fun vs H Q E q=>F.len vs H Q E (h _ _ _ _ q), fun A outer s H args us vs Q E hr he hb hv hs=>F.run A outer s H args us vs Q E hr he hb hv (h _ _ _ _ hs)⟩
theorem Env0.in1 {P : Program} {w : World} {K : PySem.W.Frag} {mg : Str -> Option Value} {base : Heap} {A : Around} {outer : List Env} {s : Shared} {H : Hp} (e : Env0 P w K mg base A outer s H) :
    Env0 P w K mg base A.in1 outer s H:=⟨e.frames, e.mod, e.bs, e.bsz, e.funs, e.frf, e.hok, e.bare⟩
section
variable {X : Cx} {pins : List (Addr × Obj)} {σ : St} {H : Hp} {s s' : Shared}
theorem Inv.env0 (I : Inv X pins σ H s) : Env0 X.prog X.w X.K X.mg X.base X.A X.stack s H:=
  ⟨I.ok.frames, I.ok.mod, I.bs, Nat.le_trans I.ok.bsz I.sz, I.stack, I.stkFree, I.hok, I.bare⟩
theorem Inv.after {Q : VK} {u : Value} (I : Inv X pins σ H s) (h : CE X.stack X.prog X.w H s Q u s') : EP X pins σ Q u s':=by
  obtain ⟨v, H', os, bare, un, hok, r, q⟩:=h
  obtain ⟨hh, g, d, t, os'⟩:=s'
  obtain rfl : os' = s.os:=os
  exact ⟨v, H', I.call (h':=hh) (g':=g) (d':=d) (t':=t) (ch:=[]) un hok bare (fun b z=>absurd z (by simp)), r, q⟩
end
noncomputable def VA (sp : Sp) (dvs : List V) (E : XK) (t : TA) : TE:=fun σ H Q=>t σ H fun vs H1=>sp (vs ++ dvs) H1 Q E
noncomputable def V5 (K : PySem.W.Frag) (fd : FuncData) (ps : List Str) (ds : List Value) : Prop:=
  ∀ (s : Shared) (us : List Value), K.In s.heap -> (us ++ ds).length = ps.length -> BindsTo s fd ⟨us, []⟩ (ps.zip (us ++ ds))
theorem V5.all {K : PySem.W.Frag} {fd : FuncData} {ps : List Str} (h : ∀ us : List Value, us.length = ps.length -> bindArgs fd ⟨us, []⟩ = pure (ps.zip us)) : V5 K fd ps []:=fun s us _ hl=>by
  rw [List.append_nil] at hl ⊢
  exact .of_eq (h us hl)
noncomputable def Va (CX : CXT) (X : Cx) (E : XK) : Prop:=∀ (pins : List (Addr × Obj)) (σ : St) (H : Hp) (s : Shared) (e : Value) (s' : Shared), Inv X pins σ H s -> CX X.stack H s E e s' -> X.xe e s'
section
variable {X : Cx} {CX : CXT} {k : Nat} {f C : Addr} {fd : FuncData} {ps : List Str} {sp : Sp} {dvs : List V} {ds : List Value} {E : XK} {x m : Str} {p pos apos : Pos} {e o : Expr} {es : List Expr} {ta : TE} {t : TA}
theorem Hg {pins : List (Addr × Obj)} {σ : St} {H : Hp} {s : Shared} {Q : VK} {us : List Value} {vs : List V} (F : FnOk X.prog X.w X.K X.mg X.base CX k f fd ps sp) (hr : Room k X.A) (hb : V5 X.K fd ps ds) (hd : XR dvs ds) (hx : Va CX X E)
    (I : Inv X pins σ H s) (r : XR vs us) (h : sp (vs ++ dvs) H Q E) : wpAny (model X.prog X.w) X.A (call (.ref f) us) (EP X pins σ Q) X.xe s:=by
  have r2 : XR (vs ++ dvs) (us ++ ds):=r.append hd
  have hl : (us ++ ds).length = ps.length:=by rw [← r2.length]; exact F.len _ _ _ _ h
  refine wpAny_call (codeAny_mono (F.run X.A X.stack s H ⟨us, []⟩ (us ++ ds) (vs ++ dvs) Q E hr I.env0 (hb s us I.kIn hl) r2 h) fun r s' hq=>?_)
  cases r with
  | error e=>exact hx pins σ H s e s' I hq
  | ok fl=>
    cases fl with
    | ret u=>exact I.after hq
    | next=>exact False.elim hq
    | brk=>exact False.elim hq
    | cont=>exact False.elim hq
theorem GN (F : FnOk X.prog X.w X.K X.mg X.base CX k f fd ps sp) (hr : Room k X.A) (hg : Gl X x) (hm : X.mg x = some (.ref f)) (hk : PySem.W.keepIn X.K (.ref f) = true) (hb : V5 X.K fd ps ds) (hd : XR dvs ds) (hx : Va CX X E)
    (ha : PA X (e :: es) t) (hdb : (x == ("__debug__" : Str)) = false:=by decide) (he : starEach (e :: es) X.env = (false, eval e X.env) :: starEach es X.env:=by rfl) (hpl : (backTo pos (starEach es X.env)).any (·.1) = false:=by rfl) :
    PE X (.Call (.Name x p) (e :: es) [] pos) (VA sp dvs E t):=by
  intro pins s σ H Q I h
  refine wpAny_Call_Name_kw (Vz I hg hm ?_ hdb)
  refine PySem.W.callWith_K (h₀:=X.base) I.ok.mod.kin hk (thn (ha pos pins s σ H _ I h) fun us s1 ⟨vs, H1, I1, r, q⟩=>⟨I1.kIn, ?_⟩) he hpl
  exact Hg F hr hb hd hx I1 r q
end
section
variable {X : Cx} {CX : CXT} {k : Nat} {f C : Addr} {fd : FuncData} {ps ks : List Str} {sp : Sp} {E : XK} {x m : Str} {p pos apos kpos : Pos} {e o : Expr} {es : List Expr} {kws : List Keyword} {te ta : TE} {t tk : TA} {nm : Option Str}
variable {g : List Value -> List Value -> List Value} {gV : List V -> List V -> List V}
end
structure FnScope (N P : List Str) (sc : Scope) : Prop where
  kind : sc.kind = .function
  co : sc.isCoroutine = false
  gen : sc.isGenerator = false
  nd : N.Nodup
  pre : N.take P.length = P
  par : ∀ x ∈ P, sc.names.lookup x = some .local ∨ sc.names.lookup x = some .cell
  nofree : ∀ y ∈ sc.names, y.2 ≠ .free
theorem Us {kindOf : Str -> Option NameKind} {x : Str} : ∀ {binds : List (Str × Value)} {m : Str -> Option Value}, (∀ v, (x, v) ∉ binds) -> bindL kindOf binds m x = m x
  | [], _, _=>rfl
  | (n, v) :: r, m, h=>by
    unfold bindL
    rw [Us fun w hw=>h w (List.mem_cons_of_mem _ hw)]
    split
    . have : x ≠ n := by rintro rfl; exact h v List.mem_cons_self
      simp [this]
    . rfl
theorem Ue {kindOf : Str -> Option NameKind} {x : Str} : ∀ {binds : List (Str × Value)} {m : Str -> Option Value}, (∀ v, (x, v) ∉ binds) -> bindC kindOf binds m x = m x
  | [], _, _=>rfl
  | (n, v) :: r, m, h=>by
    unfold bindC
    rw [Ue fun w hw=>h w (List.mem_cons_of_mem _ hw)]
    split
    . rfl
    . have : x ≠ n := by rintro rfl; exact h v List.mem_cons_self
      simp [this]
theorem VR {kindOf : Str -> Option NameKind} {x : Str} {v : Value} : ∀ {P : List Str} {vs : List Value} {i : Nat} {m : Str -> Option Value}, P.Nodup -> P[i]? = some x -> vs[i]? = some v -> kindOf x = some .local ->
    bindL kindOf (P.zip vs) m x = some v
  | [], _, _, _, _, h, _, _=>by simp at h
  | _ :: _, [], _, _, _, _, h, _=>by simp at h
  | p :: P, w :: vs, 0, m, nd, h1, h2, hk=>by
    simp at h1 h2; subst h1; subst h2
    show bindL kindOf ((p, w) :: P.zip vs) m p = _
    unfold bindL
    rw [Us fun v hv=>(List.nodup_cons.mp nd).1 (List.of_mem_zip hv).1, if_pos hk]
    simp
  | p :: P, w :: vs, i + 1, m, nd, h1, h2, hk=>by
    show bindL kindOf ((p, w) :: P.zip vs) m x = _
    unfold bindL
    exact VR (i:=i) (List.nodup_cons.mp nd).2 (by simpa using h1) (by simpa using h2) hk
theorem Ul {kindOf : Str -> Option NameKind} {x : Str} {v : Value} : ∀ {P : List Str} {vs : List Value} {i : Nat} {m : Str -> Option Value}, P.Nodup -> P[i]? = some x -> vs[i]? = some v -> kindOf x ≠ some .local ->
    bindC kindOf (P.zip vs) m x = some v
  | [], _, _, _, _, h, _, _=>by simp at h
  | _ :: _, [], _, _, _, _, h, _=>by simp at h
  | p :: P, w :: vs, 0, m, nd, h1, h2, hk=>by
    simp at h1 h2; subst h1; subst h2
    show bindC kindOf ((p, w) :: P.zip vs) m p = _
    unfold bindC
    rw [Ue fun v hv=>(List.nodup_cons.mp nd).1 (List.of_mem_zip hv).1, if_neg hk]
    simp
  | p :: P, w :: vs, i + 1, m, nd, h1, h2, hk=>by
    show bindC kindOf ((p, w) :: P.zip vs) m x = _
    unfold bindC
    exact Ul (i:=i) (List.nodup_cons.mp nd).2 (by simpa using h1) (by simpa using h2) hk
noncomputable def JC (N : List Str) (vs : List V) : St:=vs.map some ++ List.replicate (N.length - vs.length) none
noncomputable def K4 (CX : CXT) (P : Program) (w : World) (K : PySem.W.Frag) (mg : Str -> Option Value) (base : Heap) (N : List Str) (qual : Str) (scope : Scope) (f : Addr) (cd : Value) (A : Around) (outer : List Env) (s : Shared) (H : Hp) (E : XK) : Cx where
  prog:=P
  w:=w
  K:=K
  mg:=mg
  base:=base
  A:=A.deeper (envOfC qual scope s.heap.objs.size f cd)
  N:=N
  s₀:=s
  H₀:=H
  env:=envOfC qual scope s.heap.objs.size f cd
  outer:=outer
  stack:=envOfC qual scope s.heap.objs.size f cd :: outer
  ex:=[]
  calm:=true
  fn:=fun _=>true
  pn:=[]
  xe:=fun e s'=>wpAny (model P w) (A.deeper (envOfC qual scope s.heap.objs.size f cd)) (leaving (envOfC qual scope s.heap.objs.size f cd) e) (fun _ s''=>CX outer H s E e s'') (fun e' s''=>CX outer H s E e' s'') s'
theorem KI {sc : Scope} {n : Nat} {x : Str} (h : sc.names.lookup x = some .cell) : ∃ c, (cellsFrom n sc.names []).lookup x = some c:=by
  have q:=PySem.W.cellsFrom_some sc.names n [] (.inl h)
  exact Option.isSome_iff_exists.mp q
theorem GC {CX : CXT} {P : Program} {w : World} {K : PySem.W.Frag} {mg : Str -> Option Value} {base : Heap} {N ps : List Str} {qual : Str} {scope : Scope} {f : Addr} {cd : Value} {A : Around} {outer : List Env} {s s1 : Shared} {H : Hp} {E : XK} {us : List Value} {vs : List V}
    (S : FnScope N ps scope) (hd : A.handled = none) (e0 : Env0 P w K mg base A outer s H) (hl : vs.length = ps.length) (r : XR vs us)
    (x : InCallC s s.heap.objs.size (bindL (envOfC qual scope s.heap.objs.size f cd).kindOf (ps.zip us) fun _=>none) (cellsFrom (s.heap.objs.size + 1) scope.names []) (bindC (envOfC qual scope s.heap.objs.size f cd).kindOf (ps.zip us) fun _=>none) s1) :
    Inv (K4 CX P w K mg base N qual scope f cd A outer s H E) [] (JC N vs) H s1:=by
  have hpl : ps.length <= N.length:=by have:=congrArg List.length S.pre; rw [List.length_take] at this; omega
  obtain ⟨h1, tk, rfl, hk⟩:=x.done
  have noA : ∀ b : Addr, b ∉ (K4 CX P w K mg base N qual scope f cd A outer s H E).ex:=fun b z=>absurd (show b ∈ ([] : List Addr) from z) (by simp)
  refine ⟨⟨e0.mod, S.kind, rfl, rfl, Nat.le_refl _, fun y z c h1 h2=>?_, fun y hy=>?_, fun y c _ h=>?_, fun _=>hd, Around.frames_deeper e0.frames, .inr ⟨rfl, rfl⟩, fun b z=>absurd z (noA b), e0.bs, e0.bsz, fun b _ _=>noA b, fun b z=>absurd z (noA b), e0.funs, e0.frf⟩,
    rfl, e0.bare, Un.kept hk, ⟨_, x.toInCall.ns, fun i y v h1 h2 h3=>?_⟩, fun y c h=>⟨_, x.cell y c h⟩, e0.hok.fresh (Nat.le_refl _), fun y c h=>?_, fun p hp=>absurd (show p ∈ ([] : List (Addr × Obj)) from hp) (by simp), e0.hok.kept hk, ?_⟩
  . exact name_of_addr x.apart (PySem.mem_of_lookup h1) (PySem.mem_of_lookup h2)
  . have hy : scope.names.lookup y = some .cell ∨ scope.names.lookup y = some .free := hy
    rcases hy with hy | hy
    . exact KI hy
    . exact absurd rfl (S.nofree _ (PySem.mem_of_lookup hy))
  . exact Nat.le_of_lt (x.above y c (PySem.mem_of_lookup h))
  . have hi : i < vs.length:=by
      unfold JC at h2
      by_cases hi : i < vs.length
      . exact hi
      . rw [List.getElem?_append_right (by simpa using hi)] at h2
        rw [List.getElem?_replicate] at h2
        split at h2 <;> cases h2
    have ha : vs[i]? = some v:=by
      unfold JC at h2
      rw [List.getElem?_append_left (by simpa using hi), List.getElem?_map] at h2
      cases e : vs[i]? with
      | none=>rw [e] at h2; cases h2
      | some a=>rw [e] at h2; cases h2; rfl
    obtain ⟨u, hu, rv⟩:=r.get ha
    have hp : ps[i]? = some y:=by
      rw [← S.pre, List.getElem?_take_of_lt (by omega)]; exact h1
    have ndP : ps.Nodup:=by rw [← S.pre]; exact S.nd.sublist (List.take_sublist _ _)
    refine ⟨u, rv, ?_⟩
    rcases S.par y (List.mem_of_getElem? hp) with k | k
    . exact .inl ⟨k, VR ndP hp hu k⟩
    . obtain ⟨c, e⟩ := KI (n := s.heap.objs.size + 1) k
      refine .inr ⟨.inl k, c, e, ?_⟩
      have q:=x.cell y c e
      rw [Ul ndP hp hu (by show scope.names.lookup y ≠ _; rw [k]; decide)] at q
      exact q
  . exact e0.hok.fresh (Nat.le_of_lt (x.above y c (PySem.mem_of_lookup h)))
  . unfold JC
    show _ = N.length
    rw [List.length_append, List.length_map, List.length_replicate]
    omega
theorem EO {CX : CXT} {P : Program} {w : World} {K : PySem.W.Frag} {mg : Str -> Option Value} {base : Heap} {k : Nat} {f : Addr} {name qual : Str} {params : Arguments} {body : List Stmt} {scope : Scope} {dV kV doc pm cdv ct oc : Value} {an od : Option Addr}
    {osl : Array (Option Value)} {N ps : List Str} {sp : Sp} (lk : K.lookup f = some ⟨oc, od, .func (PySem.W.fnOf name qual params body scope dV kV doc pm an cdv ct), osl⟩) (hcd : PySem.W.codeIn K cdv qual = true) (S : FnScope N ps scope)
    (len : ∀ vs H Q E, sp vs H Q E -> vs.length = ps.length)
    (hbody : ∀ (A : Around) (outer : List Env) (s : Shared) (H : Hp) (vs : List V) (Q : VK) (E : XK), Room k (A.deeper (envOfC qual scope s.heap.objs.size f cdv)) -> sp vs H Q E ->
      ∃ t, PSs (K4 CX P w K mg base N qual scope f cdv A outer s H E) body t /\ t { nx:=fun _ H'=>Q .non H', rt:=Q } (JC N vs) H) :
    FnOk P w K mg base CX (k + 1) f (PySem.W.fnOf name qual params body scope dV kV doc pm an cdv ct) ps sp:=by
  refine ⟨len, fun A outer s H args us vs Q E hr e0 hb r hsp=>?_⟩
  have hl:=len _ _ _ _ hsp
  have KX : K.In s.heap:=e0.mod.kin.keeps fun b o e=>(e0.bs b o e).1
  have lim : s.heap.NoLimit:=e0.mod.nolimit.keeps fun b o e=>(e0.bs b o e).1
  have hkind : ∀ y ∈ ps.zip us, scope.names.lookup y.1 = some .local ∨ (scope.names.lookup y.1 = some .cell /\ ((cellsFrom (s.heap.objs.size + 1) scope.names []).lookup y.1).isSome = true):=fun ⟨n, v⟩ hy=>by
    rcases S.par n (List.of_mem_zip hy).1 with q | q
    . exact .inl q
    . exact .inr ⟨q, PySem.W.cellsFrom_some _ _ _ (.inl q)⟩
  refine codeAny_call_function hr.depth (KX _ _ lk) rfl S.co S.gen rfl (PySem.W.codeRec_of KX hcd) (hb _ _ _ _ ?_)
  refine wpAny_newFunctionEnv_cells S.kind hkind fun env he s1 x=>?_
  subst he
  refine ⟨lim.keeps x.toInCall.keep, codeAny_func ?_⟩
  obtain ⟨t, ht, hq⟩:=hbody A outer s H vs Q E (hr.deeper _) hsp
  have I : Inv (K4 CX P w K mg base N qual scope f cdv A outer s H E) [] (JC N vs) H s1:=GC S hr.hd e0 hl r x
  refine wpAny_mono (ht [] s1 (JC N vs) H _ I hq) (fun fl s' hs=>?_) fun e s' hs=>hs
  have fin : ∀ {σ' : St} {H' : Hp} {v : V} {u : Value}, Inv (K4 CX P w K mg base N qual scope f cdv A outer s H E) [] σ' H' s' -> XV v u -> Q v H' -> CE outer P w H s Q u s':=
    fun {σ' H' v u} J rv q=>⟨v, H', J.os, J.bare, J.base, J.hok, rv, q⟩
  cases fl with
  | ret u=>
    obtain ⟨v, σ', H', J, rv, q⟩:=hs
    exact fin J rv q
  | next=>
    obtain ⟨σ', H', J, q⟩:=hs
    exact fin (v:=V.non) (u:=Value.none) J rfl q
  | brk=>
    obtain ⟨_, _, _, q⟩:=hs
    exact False.elim q
  | cont=>
    obtain ⟨_, _, _, q⟩:=hs
    exact False.elim q
end L2
namespace L2
open PySem PySem.Spec PyProof.Rows
section
variable {X : Cx} {x : Str} {p pos : Pos} {e : Expr} {es : List Expr} {t : TA} {id T : String} {r : List V -> Hp -> VK -> Prop}
noncomputable def tCB (r : List V -> Hp -> VK -> Prop) (t : TA) : TE:=fun σ H Q=>t σ H fun vs H1=>r vs H1 Q
theorem Xr (hc : ZQ X (.builtin id) r) (hg : Gl X x) (hm : X.mg x = none) (hv : bootBuiltins x = some (.builtin id)) (ha : PA X (e :: es) t) (hn : x ≠ "__name__":=by decide) (hdb : (x == ("__debug__" : Str)) = false:=by decide)
    (he : starEach (e :: es) X.env = (false, eval e X.env) :: starEach es X.env:=by rfl) (hpl : (backTo pos (starEach es X.env)).any (·.1) = false:=by rfl) : PE X (.Call (.Name x p) (e :: es) [] pos) (tCB r t):=by
  intro pins s σ H Q I h
  refine wpAny_Call_Name_kw (QF I hg hm hv ?_ hn hdb)
  exact PyProof.Rows.callWith_builtin1 (thn (ha pos pins s σ H _ I h) fun us s1 ⟨vs, H1, I1, r1, q1⟩=>hc pins s1 σ H1 vs us Q I1 r1 q1) he hpl
theorem Qf (hc : ZQ X (.type T) r) (hg : Gl X x) (hm : X.mg x = none) (hv : bootBuiltins x = some (.type T)) (ha : PA X (e :: es) t) (hn : x ≠ "__name__":=by decide) (hdb : (x == ("__debug__" : Str)) = false:=by decide)
    (he : starEach (e :: es) X.env = (false, eval e X.env) :: starEach es X.env:=by rfl) (hpl : (backTo pos (starEach es X.env)).any (·.1) = false:=by rfl) : PE X (.Call (.Name x p) (e :: es) [] pos) (tCB r t):=by
  intro pins s σ H Q I h
  refine wpAny_Call_Name_kw (QF I hg hm hv ?_ hn hdb)
  exact PyProof.Rows.callWith_type1 (thn (ha pos pins s σ H _ I h) fun us s1 ⟨vs, H1, I1, r1, q1⟩=>hc pins s1 σ H1 vs us Q I1 r1 q1) he hpl
end
end L2
namespace HT
open PySem PyProof.Rows
section
open PySem.SeqAt
open PySem.AutoSeq1 (wpAny_loadPart')
open PySem.MeetsSeq PySem.MeetsSeq2 PySem.MeetsSeq3
end
section
variable {prog : Program} {w : World} {A : Around} {E : Value -> Shared -> Prop} {s : Shared}
noncomputable def sIx (n d : Nat) : Option Int -> Nat
  | none=>d
  | some v=>if v < 0 then (v + (n : Int)).toNat else min v.toNat n
theorem sIx_none (n d : Nat) : sIx n d none = d:=rfl
theorem sIx_nat (n d k : Nat) : sIx n d (some (k : Int)) = min k n:=by
  show (if (k : Int) < 0 then ((k : Int) + (n : Int)).toNat else min (k : Int).toNat n) = min k n
  rw [if_neg (by omega), Int.toNat_natCast]
end
end HT
namespace L2
open PySem PySem.Spec PyProof.Rows
noncomputable abbrev TO:=St -> Hp -> (Option Int -> Hp -> Prop) -> Prop
noncomputable def PO (X : Cx) (e : Option Expr) (t : TO) : Prop:=
  ∀ (pins : List (Addr × Obj)) (s : Shared) (σ : St) (H : Hp) (Q : Option Int -> Hp -> Prop), Inv X pins σ H s -> t σ H Q ->
    wpAny (model X.prog X.w) X.A (evalPart e X.env) (fun u s'=>∃ o H', Inv X pins σ H' s' /\ IsPart u o /\ Q o H') X.xe s
noncomputable def Gr : TO:=fun _ H Q=>Q none H
noncomputable def Ex (t : TE) : TO:=fun σ H Q=>t σ H fun x H1=>∃ i, x = .int i /\ Q (some i) H1
theorem K6 {ns : List Int} : ∀ {us : List Value}, XR (ns.map V.int) us -> IntsAre us ns:=by
  induction ns with
  | nil=>intro us r; rw [List.map_nil] at r; cases r; exact .nil
  | cons n ns ih=>
    intro us r
    rw [List.map_cons] at r
    cases r with
    | cons r1 r2=>
      obtain ⟨t, e⟩:=r1
      subst e
      exact .cons n t (ih r2)
section
variable {X : Cx} {e : Expr} {te : TE} {lo hi : Option Expr} {tl th : TO} {pos p2 : Pos}
theorem Vh : PO X none Gr:=by
  intro pins s σ H Q I h
  rw [evalPart_none]
  exact wpAny_pure ⟨none, H, I, .none, h⟩
theorem Vu (h : PE X e te) : PO X (some e) (Ex te):=by
  intro pins s σ H Q I hw
  rw [evalPart_some]
  refine thn (h pins s σ H _ I hw) fun u s1 ⟨x, H1, I1, r1, q1⟩=>?_
  obtain ⟨i, rfl, q⟩:=q1
  obtain ⟨t, rfl⟩:=r1
  exact ⟨some i, H1, I1, .int i t, q⟩
noncomputable def SlR (X : Cx) (r : V -> Option Int -> Option Int -> Hp -> VK -> Prop) : Prop:=
  ∀ (pins : List (Addr × Obj)) (s : Shared) (σ : St) (H : Hp) (x : V) (v vl vu : Value) (lo hi : Option Int) (sl : Addr) (Q : VK), Inv X pins σ H s -> XV x v -> s.heap.IsSliceOf sl vl vu .none -> IsPart vl lo -> IsPart vu hi -> r x lo hi H Q ->
    ∃ T id, typeLookup (.type T) "__getitem__" = pure (some (.builtin id)) /\ s.TypeIs v T /\ wpAny (model X.prog X.w) X.A (getItem v (.ref sl)) (EP X pins σ Q) X.xe s
theorem SlR.or {r r' : V -> Option Int -> Option Int -> Hp -> VK -> Prop} (h : SlR X r) (h' : SlR X r') : SlR X (fun x lo hi H Q=>r x lo hi H Q ∨ r' x lo hi H Q):=by
  intro pins s σ H x v vl vu lo hi sl Q I rx hs pl pu q
  rcases q with q | q
  . exact h pins s σ H x v vl vu lo hi sl Q I rx hs pl pu q
  . exact h' pins s σ H x v vl vu lo hi sl Q I rx hs pl pu q
noncomputable def tSl (r : V -> Option Int -> Option Int -> Hp -> VK -> Prop) (te : TE) (tl th : TO) : TE:=fun σ H Q=>te σ H fun x H1=>tl σ H1 fun l H2=>th σ H2 fun u H3=>r x l u H3 Q
theorem QX {r : V -> Option Int -> Option Int -> Hp -> VK -> Prop} (hr : SlR X r) (he : PE X e te) (hl : PO X lo tl) (hu : PO X hi th) : PE X (.Subscript e (.Slice lo hi none p2) pos) (tSl r te tl th):=by
  intro pins s σ H Q I h
  refine Subscript_ (thn (he pins s σ H _ I h) fun v s1 ⟨x, H1, I1, r1, q1⟩=>?_)
  refine wpAny_Slice (thn (hl pins s1 σ H1 _ I1 q1) fun vl s2 ⟨l, H2, I2, pl, q2⟩=>thn (hu pins s2 σ H2 _ I2 q2) fun vu s3 ⟨u, H3, I3, pu, q3⟩=>?_)
  rw [evalPart_none]
  refine wpAny_pure ?_
  have I4 : Inv X pins σ H3 { s3 with heap:=s3.heap.push { cls:=.type "slice", data:=.fields #[vl, vu, .none] } }:=I3.kept (t':=s3.toks) fun b ob q=>Heap.get?_push_of_some _ q
  obtain ⟨T, id, hT, ht, hg⟩:=hr pins { s3 with heap:=s3.heap.push { cls:=.type "slice", data:=.fields #[vl, vu, .none] } } σ H3 x v vl vu l u s3.heap.objs.size Q I4 r1 (Heap.IsSliceOf.new ..) pl pu q3
  show wpAny (model X.prog X.w) X.A (subscriptTail e (.Slice lo hi none p2) v (.ref s3.heap.objs.size)) (EP X pins σ Q) X.xe { s3 with heap:=s3.heap.push { cls:=.type "slice", data:=.fields #[vl, vu, .none] } }
  exact tail_any (ops:=[.ref s3.heap.objs.size, v]) ht hT hg (by with_unfolding_all rfl)
noncomputable def Ei (xs : List V) (lo hi : Option Int) : List V:=(xs.drop (HT.sIx xs.length 0 lo)).take (HT.sIx xs.length xs.length hi - HT.sIx xs.length 0 lo)
theorem UW (xs : List V) (lo hi : Option Int) : (Ei xs lo hi).length <= xs.length:=by
  unfold Ei
  rw [List.length_take, List.length_drop]
  omega
end
end L2
namespace L2
open PySem PySem.Spec PyProof.Rows
noncomputable def ixN (n : Nat) (i : Int) : Option Nat:=if 0 <= i then (if i < n then some i.toNat else none) else if -(n : Int) <= i then some (i + n).toNat else none
noncomputable def atI {α : Type} (xs : List α) (i : Int) : Option α:=(ixN xs.length i).bind fun j=>xs[j]?
theorem FX {n : Nat} {i : Int} {j : Nat} (h : ixN n i = some j) : seqIndex? i n = some j /\ j < n /\ -(n : Int) <= i /\ i < n:=by
  unfold ixN at h
  by_cases h0 : 0 <= i
  . rw [if_pos h0] at h
    by_cases h1 : i < n
    . rw [if_pos h1] at h
      have e : i.toNat = j:=Option.some.inj h
      exact ⟨by rw [seqIndex_of h0 h1, e], by omega, by omega, h1⟩
    . rw [if_neg h1] at h; cases h
  . rw [if_neg h0] at h
    by_cases h1 : -(n : Int) <= i
    . rw [if_pos h1] at h
      have e : (i + n).toNat = j:=Option.some.inj h
      exact ⟨by rw [seqIndex_neg (by omega) h1, e], by omega, h1, by omega⟩
    . rw [if_neg h1] at h; cases h
theorem GY {α : Type} {xs : List α} {i : Int} {v : α} (h : atI xs i = some v) : ∃ j, seqIndex? i xs.length = some j /\ xs[j]? = some v /\ j < xs.length /\ -(xs.length : Int) <= i /\ i < xs.length:=by
  unfold atI at h
  cases e : ixN xs.length i with
  | none=>rw [e] at h; cases h
  | some j=>
    rw [e] at h
    obtain ⟨h1, h2, h3, h4⟩:=FX e
    exact ⟨j, h1, h, h2, h3, h4⟩
noncomputable def CY (b : Expr) : Prop:=∀ o i, subscripted b false o i = operate [o, i] (getItem o i)
noncomputable def IxR (X : Cx) (r : R2) : Prop:=
  ∀ (value slice : Expr) (pins : List (Addr × Obj)) (s : Shared) (σ : St) (H : Hp) (x y : V) (v u : Value) (Q : VK), Inv X pins σ H s -> XV x v -> XV y u -> r x y H Q ->
    subscripted slice false v u = operate [v, u] (getItem v u) -> wpAny (model X.prog X.w) X.A (subscriptTail value slice v u) (EP X pins σ Q) X.xe s
noncomputable def MtR (X : Cx) (id : String) (r : V -> List V -> Hp -> VK -> Prop) : Prop:=
  ∀ (pins : List (Addr × Obj)) (s : Shared) (σ : St) (H : Hp) (x : V) (xs : List V) (v : Value) (us : List Value) (Q : VK), Inv X pins σ H s -> XV x v -> XR xs us -> r x xs H Q ->
    wpAny (model X.prog X.w) X.A (call (.builtin id) (v :: us)) (EP X pins σ Q) X.xe s
section
variable {X : Cx} {a b : Expr} {ta tb : TE} {pos : Pos}
theorem IxR.or {r r' : R2} (h : IxR X r) (h' : IxR X r') : IxR X (fun x y H Q=>r x y H Q ∨ r' x y H Q):=by
  intro value slice pins s σ H x y v u Q I rx ry q hs
  rcases q with q | q
  . exact h value slice pins s σ H x y v u Q I rx ry q hs
  . exact h' value slice pins s σ H x y v u Q I rx ry q hs
theorem MtR.or {id : String} {r r' : V -> List V -> Hp -> VK -> Prop} (h : MtR X id r) (h' : MtR X id r') : MtR X id (fun x xs H Q=>r x xs H Q ∨ r' x xs H Q):=by
  intro pins s σ H x xs v us Q I rx rs q
  rcases q with q | q
  . exact h pins s σ H x xs v us Q I rx rs q
  . exact h' pins s σ H x xs v us Q I rx rs q
theorem XO {r : R2} (hr : IxR X r) (ha : PE X a ta) (hb : PE X b tb) (hs : CY b) : PE X (.Subscript a b pos) (tOp r ta tb):=by
  intro pins s σ H Q I h
  exact Subscript_ (H9 ha hb I h fun v u s2 x y H2 I2 rx ry q=>hr a b pins s2 σ H2 x y v u Q I2 rx ry q (hs _ _))
noncomputable def Ej (K : PySem.W.Frag) : R2:=fun x y H Q=>∃ p xs i v, x = .ref p /\ y = .int i /\ SqL K H p xs /\ atI xs i = some v /\ Q v H
noncomputable def Eh (K : PySem.W.Frag) : R2:=fun x y H Q=>∃ p xs i v, x = .ref p /\ y = .int i /\ SqT K H p xs /\ atI xs i = some v /\ Q v H
theorem B2 : IxR X (Ej X.K):=by
  intro value slice pins s σ H x y v u Q I rx ry h hs
  obtain ⟨p, xs, i, z, rfl, rfl, hq, he, q⟩:=h
  cases rx
  obtain ⟨t, rfl⟩:=ry
  obtain ⟨its, r, pl, hz⟩:=I.list hq
  obtain ⟨j, h1, h2, h3, h4, h5⟩:=GY he
  obtain ⟨w, ew, rw'⟩:=r.get h2
  have hl:=r.length
  have hn:=KE
  have fin : EP X pins σ Q w s:=⟨z, H, I, rw', q⟩
  by_cases h0 : 0 <= i
  . have hj : i.toNat = j:=by
      rw [seqIndex_of h0 h5] at h1
      exact Option.some.inj h1
    exact item_listR pl.isList h0 (by omega) (by rw [hj]; simpa using ew) fin hs
  . have hj : (i + (its.toArray.size : Int)).toNat = j:=by
      rw [seqIndex_neg (by omega) h4] at h1
      rw [List.size_toArray, ← hl]
      exact Option.some.inj h1
    exact subscriptTail_builtinR (x:=w) pl.isList.typeIs slot_list_getitem.lookup
      (wpAny_getItem_list_neg (Q:=fun r s'=>r = w /\ EP X pins σ Q r s') pl.isList (by omega) (by rw [List.size_toArray] <;> omega) (by omega) (by rw [hj]; simpa using ew) ⟨rfl, fin⟩) hs
theorem E5 : IxR X (Eh X.K):=by
  intro value slice pins s σ H x y v u Q I rx ry h hs
  obtain ⟨p, xs, i, z, rfl, rfl, hq, he, q⟩:=h
  cases rx
  obtain ⟨t, rfl⟩:=ry
  obtain ⟨its, r, pl, hz⟩:=I.tuple hq
  obtain ⟨j, h1, h2, h3, h4, h5⟩:=GY he
  obtain ⟨w, ew, rw'⟩:=r.get h2
  have hl:=r.length
  have hn:=KE
  have fin : EP X pins σ Q w s:=⟨z, H, I, rw', q⟩
  exact subscriptTail_builtinR (x:=w) pl.typeIs slot_tuple_getitem.lookup
    (getItem_tuple (j:=j) (Q:=fun r s'=>r = w /\ EP X pins σ Q r s') pl (by omega) (by omega) (by rw [List.size_toArray, ← hl]; exact h1) (by simpa using ew) ⟨rfl, fin⟩) hs
theorem K9 (its : List Value) (n j : Nat) (u : Value) : Obj.mapSeq (·.setIfInBounds j u) { cls:=.type "list", data:=.seq its.toArray n } = { cls:=.type "list", data:=.seq (its.set j u).toArray n }:=by
  simp [Obj.mapSeq]
theorem Inv.lst {pins : List (Addr × Obj)} {σ : St} {H : Hp} {s : Shared} {p : Addr} {xs : List V} (I : Inv X pins σ H s) (h : H p = some (.lst xs)) :
    ∃ (its : List Value) (n : Nat), XR xs its /\ s.heap.get? p = some { cls:=.type "list", data:=.seq its.toArray n } /\ xs.length <= sizeLine:=by
  obtain ⟨z, its, n, r, e⟩:=I.hok p _ h
  exact ⟨its, n, r, e, z⟩
theorem Inv.lstUpd {pins : List (Addr × Obj)} {σ : St} {H : Hp} {s : Shared} {p : Addr} {xs ys : List V} {its its' : List Value} {n n' : Nat} {f : Obj -> Obj} (I : Inv X pins σ H s) (h : H p = some (.lst xs))
    (ho : s.heap.get? p = some { cls:=.type "list", data:=.seq its.toArray n }) (hf : f { cls:=.type "list", data:=.seq its.toArray n } = { cls:=.type "list", data:=.seq its'.toArray n' }) (r : XR ys its') (hz : ys.length <= sizeLine) (t : Nat) :
    Inv X pins σ (upd H p (.lst ys)) { s with heap:=s.heap.update p f, toks:=t }:=by
  have e : (s.heap.update p f).get? p = some { cls:=.type "list", data:=.seq its'.toArray n' }:=by
    rw [Heap.get?_update_self f ho (by rw [hf] <;> rfl), hf]
  refine I.write (x:=p) (e:=p) (by rw [h]; trivial) (.inl rfl) (fun b u hb q=>(Heap.get?_update_other _ _ (Ne.symm hb)).trans q) ⟨_, e⟩ ?_
  exact ⟨hz, its', n', r, e⟩
noncomputable def EW : V -> V -> V -> Hp -> (Hp -> Prop) -> Prop:=fun o i v H Q=>∃ p xs k j, o = .ref p /\ i = .int k /\ H p = some (.lst xs) /\ ixN xs.length k = some j /\ Q (upd H p (.lst (xs.set j v)))
theorem DN : Iz X EW:=by
  intro pins s σ H o i v ov iv u Q I ro ri rv h
  obtain ⟨p, xs, k, j, rfl, rfl, hp, hj, q⟩:=h
  cases ro
  obtain ⟨t, rfl⟩:=ri
  obtain ⟨its, n, r, ho, hz⟩:=I.lst hp
  obtain ⟨h1, h2, h3, h4⟩:=FX hj
  have hl:=r.length
  have hn:=KE
  have I' : Inv X pins σ (upd H p (.lst (xs.set j v))) { s with heap:=s.heap.update p (Obj.mapSeq (·.setIfInBounds j u)) }:=
    I.lstUpd hp ho (K9 its n j u) (r.set rv j) (by rw [List.length_set]; exact hz) s.toks
  by_cases h0 : 0 <= k
  . have hk : k.toNat = j:=by
      rw [seqIndex_of h0 h4] at h1
      exact Option.some.inj h1
    exact PySem.W.ki_setAt ho h0 (by omega) (by rw [List.size_toArray, ← hl]; exact h4) (by rw [hk]; exact ⟨_, I', q⟩)
  . have hk : (k + (its.toArray.size : Int)).toNat = j:=by
      rw [seqIndex_neg (by omega) h3] at h1
      rw [List.size_toArray, ← hl]
      exact Option.some.inj h1
    exact PySem.W.ki_setBack ho (by omega) (by rw [List.size_toArray, ← hl]; exact h3) (by omega) (by rw [hk]; exact ⟨_, I', q⟩)
theorem V7 (lo hi : Option Int) (n : Nat) : (sliceBounds lo hi none n).1 = ((HT.sIx n 0 lo : Nat) : Int) /\ (sliceBounds lo hi none n).2.1 = ((HT.sIx n n hi : Nat) : Int) /\ (sliceBounds lo hi none n).2.2 = 1:=by
  refine ⟨?_, ?_, rfl⟩
  . cases lo with
    | none=>simp [sliceBounds, HT.sIx]
    | some i=>
      simp only [sliceBounds, HT.sIx, Option.getD_none, show (1 : Int) > 0 by decide, if_true]
      by_cases h : i < 0
      . simp only [h, if_true] <;> omega
      . simp only [h, if_false] <;> omega
  . cases hi with
    | none=>simp [sliceBounds, HT.sIx]
    | some i=>
      simp only [sliceBounds, HT.sIx, Option.getD_none, show (1 : Int) > 0 by decide, if_true]
      by_cases h : i < 0
      . simp only [h, if_true] <;> omega
      . simp only [h, if_false] <;> omega
theorem VD (its : List Value) (lo hi : Option Int) : slicePick its.toArray lo hi none = ((its.drop (HT.sIx its.length 0 lo)).take (HT.sIx its.length its.length hi - HT.sIx its.length 0 lo)).toArray:=by
  obtain ⟨h1, h2, h3⟩:=V7 lo hi its.toArray.size
  unfold slicePick
  rw [h1, h2, h3]
  simp only [sliceRange_one, pick_run, List.size_toArray] <;> rfl
noncomputable def HI (K : PySem.W.Frag) : V -> Option Int -> Option Int -> Hp -> VK -> Prop:=fun x lo hi H Q=>∃ a xs, x = .ref a /\ SqL K H a xs /\ ∀ p, H p = none -> Q (.ref p) (upd H p (.lst (Ei xs lo hi)))
theorem C5 : SlR X (HI X.K):=by
  intro pins s σ H x v vl vu lo hi sl Q I rx hs pl pu h
  obtain ⟨a, xs, rfl, hx, q⟩:=h
  cases rx
  obtain ⟨its, r, ht, hz⟩:=I.list hx
  have hlen:=r.length
  refine ⟨"list", _, slot_list_getitem.lookup, ht.isList.typeIs, ?_⟩
  refine wpAny_getItem_list_slice ht.isList hs pl pu .none (by simp) ?_ (by rw [List.size_toArray] <;> omega)
  rw [VD, ← hlen]
  refine ⟨.ref s.heap.objs.size, _, I.laid (t':=s.toks) (o:=.lst (Ei xs lo hi)) (fun b ob q=>Heap.get?_push_of_some _ q) (Nat.le_refl _) ?_, rfl, q _ (I.hok.fresh (Nat.le_refl _))⟩
  exact ⟨Nat.le_trans (UW xs lo hi) hz, _, 0, (r.drop (HT.sIx xs.length 0 lo)).take (HT.sIx xs.length xs.length hi - HT.sIx xs.length 0 lo), Heap.get?_push_size _ rfl⟩
noncomputable def QL : V -> Bool
  | .non=>true
  | .bl _=>true
  | .int _=>true
  | .str _=>true
  | _=>false
noncomputable def eqV : V -> V -> Bool
  | .non, .non=>true
  | .bl a, .bl b=>a == b
  | .bl a, .int b=>(if a then 1 else 0) == b
  | .int a, .bl b=>a == (if b then 1 else 0)
  | .int a, .int b=>a == b
  | .str a, .str b=>a == b
  | _, _=>false
theorem EC {A : Around} {s : Shared} {y x : V} {u v : Value} (ry : XV y u) (rx : XV x v) (fy : QL y = true) (fx : QL x = true) : SeqAt.EqAt A s u v (eqV y x):=by
  cases y with
  | non=>
    cases ry
    cases x with
    | non=>cases rx; exact SeqAt.EqAt.same _
    | bl b=>cases rx; exact SeqAt.EqAt.none_bool b
    | int b=>obtain ⟨t, rfl⟩:=rx; exact SeqAt.EqAt.none_int b t
    | str b=>obtain ⟨t, rfl⟩:=rx; exact SeqAt.EqAt.none_str b t
    | _=>exact absurd (show false = true from fx) Bool.false_ne_true
  | bl a=>
    cases ry
    cases x with
    | non=>cases rx; exact SeqAt.EqAt.bool_none a
    | bl b=>cases rx; exact SeqAt.EqAt.bool_bool a b
    | int b=>obtain ⟨t, rfl⟩:=rx; exact SeqAt.EqAt.bool_int a b t
    | str b=>obtain ⟨t, rfl⟩:=rx; exact SeqAt.EqAt.bool_str a b t
    | _=>exact absurd (show false = true from fx) Bool.false_ne_true
  | int a=>
    obtain ⟨t', rfl⟩:=ry
    cases x with
    | non=>cases rx; exact SeqAt.EqAt.int_none a t'
    | bl b=>cases rx; exact SeqAt.EqAt.int_bool a t' b
    | int b=>obtain ⟨t, rfl⟩:=rx; exact SeqAt.EqAt.int_int a t' b t
    | str b=>obtain ⟨t, rfl⟩:=rx; exact SeqAt.EqAt.int_str a t' b t
    | _=>exact absurd (show false = true from fx) Bool.false_ne_true
  | str a=>
    obtain ⟨t', rfl⟩:=ry
    cases x with
    | non=>cases rx; exact SeqAt.EqAt.str_none a t'
    | bl b=>cases rx; exact SeqAt.EqAt.str_bool a t' b
    | int b=>obtain ⟨t, rfl⟩:=rx; exact SeqAt.EqAt.str_int a t' b t
    | str b=>obtain ⟨t, rfl⟩:=rx; exact SeqAt.EqAt.str_str a t' b t
    | _=>exact absurd (show false = true from fx) Bool.false_ne_true
  | _=>exact absurd (show false = true from fy) Bool.false_ne_true
noncomputable def eqU (x : V) (u : Value) : Bool:=match u with
  | .none=>eqV .non x
  | .bool b=>eqV (.bl b) x
  | .int i _=>eqV (.int i) x
  | .str z _=>eqV (.str z) x
  | _=>false
theorem G5 {x y : V} {u : Value} (r : XV y u) (f : QL y = true) : eqU x u = eqV y x:=by
  cases y with
  | non=>cases r; rfl
  | bl b=>cases r; rfl
  | int i=>obtain ⟨t, rfl⟩:=r; rfl
  | str z=>obtain ⟨t, rfl⟩:=r; rfl
  | _=>exact absurd (show false = true from f) Bool.false_ne_true
theorem UZ {x : V} : ∀ {xs : List V} {us : List Value}, XR xs us -> xs.all QL = true -> us.any (eqU x) = xs.any fun y=>eqV y x
  | _, _, .nil, _=>rfl
  | y :: xs, u :: us, .cons r t, f=>by
    rw [List.all_cons, Bool.and_eq_true] at f
    rw [List.any_cons, List.any_cons, G5 r f.1, UZ t f.2]
theorem QU {A : Around} {s : Shared} {x : V} {v : Value} (rx : XV x v) (fx : QL x = true) : ∀ {xs : List V} {us : List Value}, XR xs us -> xs.all QL = true -> ∀ u ∈ us, SeqAt.EqAt A s u v (eqU x u)
  | _, _, .nil, _=>fun u hu=>by cases hu
  | y :: xs, u :: us, .cons r t, f=>fun u' hu=>by
    rw [List.all_cons, Bool.and_eq_true] at f
    rcases List.mem_cons.mp hu with rfl | hu
    . rw [G5 r f.1]; exact EC r rx f.1 fx
    . exact QU rx fx t f.2 u' hu
noncomputable def inV (x : V) (xs : List V) : Bool:=xs.any fun y=>eqV y x
noncomputable def rIn (K : PySem.W.Frag) (neg : Bool) : R2:=fun x y H Q=>∃ p xs, y = .ref p /\ (SqL K H p xs ∨ SqT K H p xs) /\ QL x = true /\ xs.all QL = true /\ Q (.bl (if neg then !inV x xs else inV x xs)) H
theorem G7 : OpR X (compareOp .In) (rIn X.K false):=by
  intro pins s σ H x y v u Q I rx ry h
  obtain ⟨p, xs, rfl, hq, fx, fs, q⟩:=h
  cases ry
  rcases hq with hq | hq
  . obtain ⟨its, r, pl, hz⟩ := I.list hq
    refine SeqAt.in_listAt (eqU x) pl.isList (fun w hw=>QU rx fx r fs w (by simpa using hw)) ⟨.bl _, H, I, rfl, ?_⟩
    rw [show its.toArray.any (eqU x) = its.any (eqU x) by simp, UZ r fs]
    exact q
  . obtain ⟨its, r, pl, hz⟩ := I.tuple hq
    refine SeqAt.in_tupleAt (eqU x) pl (fun w hw=>QU rx fx r fs w (by simpa using hw)) ⟨.bl _, H, I, rfl, ?_⟩
    rw [show its.toArray.any (eqU x) = its.any (eqU x) by simp, UZ r fs]
    exact q
theorem Uj : ZQ X (.builtin "len") (fun xs H Q=>∃ p ys, xs = [.ref p] /\ (SqL X.K H p ys ∨ SqT X.K H p ys) /\ Q (.int ys.length) H):=by
  intro pins s σ H xs us Q I r h
  obtain ⟨p, ys, rfl, hq, q⟩:=h
  obtain ⟨u, rfl, rx⟩:=Gn r
  cases rx
  have hn:=KE
  rcases hq with hq | hq
  . obtain ⟨its, r', pl, hz⟩ := I.list hq
    have hlen:=r'.length
    exact Calls.call_len_list pl.isList (by simp only [List.size_toArray] <;> omega) ⟨.int ys.length, H, I.tok _, ⟨s.toks + 1, by rw [List.size_toArray, hlen]⟩, q⟩
  . obtain ⟨its, r', pl, hz⟩ := I.tuple hq
    have hlen:=r'.length
    exact len_tuple pl (by simp only [List.size_toArray] <;> omega) ⟨.int ys.length, H, I.tok _, ⟨s.toks + 1, by rw [List.size_toArray, hlen]⟩, q⟩
theorem ZQ.or {f : Value} {r r' : List V -> Hp -> VK -> Prop} (h : ZQ X f r) (h' : ZQ X f r') : ZQ X f (fun xs H Q=>r xs H Q ∨ r' xs H Q):=by
  intro pins s σ H xs us Q I rs q
  rcases q with q | q
  . exact h pins s σ H xs us Q I rs q
  . exact h' pins s σ H xs us Q I rs q
theorem Uh : ZQ X (.type "list") (fun xs H Q=>∃ p ys, xs = [.ref p] /\ (SqL X.K H p ys ∨ SqT X.K H p ys) /\ ∀ l, H l = none -> Q (.ref l) (upd H l (.lst ys))):=by
  intro pins s σ H xs us Q I r h
  obtain ⟨p, ys, rfl, hq, q⟩:=h
  obtain ⟨u, rfl, rx⟩:=Gn r
  cases rx
  have fin : ∀ (its : List Value), XR ys its -> ys.length <= sizeLine -> ∀ (h' : Heap) (c' : Nat), (∀ b o', s.heap.get? b = some o' -> h'.get? b = some o') ->
      h'.get? s.heap.objs.size = some { cls:=.type "list", dict:=none, data:=.seq its.toArray c', slots:=#[] } -> EP X pins σ Q (.ref s.heap.objs.size) { s with heap:=h' }:=fun its r' hz h' c' kp e=>
    ⟨.ref s.heap.objs.size, _, I.laid (t':=s.toks) kp (Nat.le_refl _) (show Y2 X.prog X.w _ h' _ (.lst ys) from ⟨hz, its, c', r', e⟩), rfl, q _ (I.hok.fresh (Nat.le_refl _))⟩
  rcases hq with hq | hq
  . obtain ⟨its, r', pl, hz⟩ := I.list hq
    have hlen:=r'.length
    obtain ⟨o, ho, hc, n, hd⟩:=pl.isList
    exact call_list_seq p (.inl rfl) ho hc hd (fun h' c' kp e=>fin its r' hz h' c' kp e) (by simp only [List.size_toArray] <;> omega)
  . obtain ⟨its, r', pl, hz⟩ := I.tuple hq
    have hlen:=r'.length
    obtain ⟨o, ho, hc, n, hd⟩:=pl
    exact call_list_seq p (.inr rfl) ho hc hd (fun h' c' kp e=>fin its r' hz h' c' kp e) (by simp only [List.size_toArray] <;> omega)
noncomputable def tyV (K : PySem.W.Frag) (T : String) (x : V) (H : Hp) : Prop:=match x with
  | .str _=>T = "str"
  | .int _=>T = "int"
  | .ref p=>(T = "list" /\ ∃ xs, SqL K H p xs) ∨ (T = "tuple" /\ ∃ o, K.lookup p = some o /\ o.cls = .type "tuple" /\ o.dict = none) ∨
      (T = "dict" /\ ((∃ kvs, H p = some (.dK kvs)) ∨ ∃ kvs, H p = some (.dT kvs))) ∨ (T = "set" /\ ∃ S n, H p = some (.set S n))
  | _=>False
theorem Hw {pins : List (Addr × Obj)} {σ : St} {H : Hp} {s : Shared} {T : String} {x : V} {v : Value} (I : Inv X pins σ H s) (r : XV x v) (ty : tyV X.K T x H) :
    s.TypeIs v T /\ ∀ a, v = .ref a -> ∃ ob, s.heap.get? a = some ob /\ ob.dict = none:=by
  cases x with
  | str z=>
    obtain ⟨t, rfl⟩:=r
    cases (show T = "str" from ty)
    exact ⟨typeIs_str s z t, fun _ e=>nomatch e⟩
  | int i=>
    obtain ⟨t, rfl⟩:=r
    cases (show T = "int" from ty)
    exact ⟨typeIs_int s i t, fun _ e=>nomatch e⟩
  | ref p=>
    cases r
    rcases ty with ⟨rfl, xs, hq⟩ | ⟨rfl, o, hk, hc, hd⟩ | ⟨rfl, hk⟩ | ⟨rfl, S, n, hk⟩
    . obtain ⟨its, _, pl, _⟩ := I.list hq
      refine ⟨pl.isList.typeIs, fun a e=>?_⟩
      cases e
      obtain ⟨o, n, e, c, hd, _⟩:=pl
      exact ⟨o, e, hd⟩
    . refine ⟨⟨o, I.kIn p o hk, hc⟩, fun a e => ?_⟩
      cases e
      exact ⟨o, I.kIn _ o hk, hd⟩
    . have z : ∃ o, s.heap.get? p = some o /\ o.ExactDict:=by
        rcases hk with ⟨kvs, hk⟩ | ⟨kvs, hk⟩
        . obtain ⟨_, _, _, _, o, _, _, e, ex, _⟩ := I.hok p _ hk
          exact ⟨o, e, ex⟩
        . obtain ⟨_, _, _, _, o, _, _, e, ex, _⟩ := I.hok p _ hk
          exact ⟨o, e, ex⟩
      obtain ⟨o, e, ex⟩:=z
      refine ⟨⟨o, e, ex.1⟩, fun a e2=>?_⟩
      cases e2
      exact ⟨o, e, ex.2.1⟩
    . obtain ⟨o, _, _, _, e, ex, _⟩ := I.hok p _ hk
      refine ⟨⟨o, e, ex.1⟩, fun a e2=>?_⟩
      cases e2
      exact ⟨o, e, ex.2.1⟩
  | _=>exact False.elim ty
noncomputable def tBM (K : PySem.W.Frag) (T : String) (r : V -> List V -> Hp -> VK -> Prop) (to : TE) (t : TA) : TE:=fun σ H Q=>to σ H fun x H1=>tyV K T x H1 /\ t σ H1 fun xs H2=>r x xs H2 Q
variable {o e : Expr} {es : List Expr} {to : TE} {t : TA} {name : Str} {apos cpos : Pos} {T id : String} {r : V -> List V -> Hp -> VK -> Prop}
theorem ZS (pa : PlainAttrs T) (slot : Slot T name id) (hty : typeOf (.builtin id) = pure (.type "method_descriptor")) (hm : MtR X id r) (ho : PE X o to) (ha : PA X (e :: es) t)
    (hbase : attributeBase o name X.env (eval o X.env) = eval o X.env:=by rfl)
    (hfew : ((backTo cpos (starEach (e :: es) X.env)).all (fun x=>!x.1) && (backToKw cpos (keywordEach [] X.env)).all (fun x=>x.1.isSome)
      && decide ((e :: es).length + ([] : List Keyword).length + (if ([] : List Keyword).isEmpty then 0 else 1) < 30)) = true:=by rfl)
    (hline : (apos.endLine == cpos.line) = true:=by rfl) (hs : starEach (e :: es) X.env = (false, eval e X.env) :: starEach es X.env:=by rfl) (hplain : (backTo cpos (starEach es X.env)).any (·.1) = false:=by rfl) :
    PE X (.Call (.Attribute o name apos) (e :: es) [] cpos) (tBM X.K T r to t):=by
  intro pins s σ H Q I h
  refine wpAny_Call_method_late hbase hfew hline rfl (thn (ho pins s σ H _ I h) fun v s1 ⟨x, H1, I1, r1, ty, q1⟩=>?_)
  obtain ⟨h1, h2⟩:=Hw I1 r1 ty
  refine ⟨T, id, pa, slot, hty, h1, h2, ?_⟩
  have hA:=ha cpos pins s1 σ H1 _ I1 q1
  rw [hs] at hA ⊢
  refine Calls.callWith_builtin (by show (false || (backTo cpos (starEach es X.env)).any (·.1)) = false; rw [hplain] <;> rfl) (Calls.evalArgs_plain ?_)
  exact thn hA fun us s2 ⟨vs, H2, I2, r2, q2⟩=>hm pins s2 σ H2 x vs v us Q I2 r1 r2 q2
/- xs.append(e), list.index on a module's tuple .. are MtR facts of 06m -/
end
end L2
namespace L2
open PySem PySem.Spec PyProof.Rows
noncomputable def MtM (X : Cx) (id : String) (r : V -> List V -> Hp -> VK -> Prop) : Prop:=
  ∀ (pins : List (Addr × Obj)) (s : Shared) (σ : St) (H : Hp) (x : V) (xs : List V) (v : Value) (us : List Value) (Q : VK), Inv X pins σ H s -> XV x v -> XR xs us -> r x xs H Q ->
    wpAny (model X.prog X.w) X.A (call (.builtin id) (v :: us)) (EP X pins σ Q) X.xe s
theorem XR.one : ∀ {x : V} {us : List Value}, XR [x] us -> ∃ u, us = [u] /\ XV x u:=fun {x us} h=>by
  cases h with
  | cons r t=>
    cases t
    exact ⟨_, rfl, r⟩
theorem XR.two : ∀ {x y : V} {us : List Value}, XR [x, y] us -> ∃ u v, us = [u, v] /\ XV x u /\ XV y v:=fun {x y us} h=>by
  cases h with
  | cons r t=>
    cases t with
    | cons q t=>
      cases t
      exact ⟨_, _, rfl, r, q⟩
theorem XR.zero : ∀ {us : List Value}, XR [] us -> us = []
  | _, .nil=>rfl
theorem XR.eraseIdx : ∀ {xs : List V} {us : List Value} (i : Nat), XR xs us -> XR (xs.eraseIdx i) (us.eraseIdx i)
  | _, _, _, .nil=>.nil
  | _, _, 0, .cons _ t=>t
  | _, _, i + 1, .cons r t=>.cons r (XR.eraseIdx i t)
theorem XR.reverse {xs : List V} {us : List Value} (h : XR xs us) : XR xs.reverse us.reverse:=by
  induction h with
  | nil=>exact .nil
  | cons r t ih=>rw [List.reverse_cons, List.reverse_cons]; exact XR.append ih (.cons r .nil)
theorem XR.rep {xs : List V} {us : List Value} (h : XR xs us) : ∀ k : Nat, XR (List.replicate k xs).flatten (List.replicate k us).flatten
  | 0=>.nil
  | k + 1=>by
    rw [List.replicate_succ, List.replicate_succ, List.flatten_cons, List.flatten_cons]
    exact XR.append h (XR.rep h k)
theorem Uv {α : Type} : ∀ (l : List α) (i : Nat), (l.eraseIdx i).length <= l.length
  | [], _=>Nat.le_refl _
  | _ :: _, 0=>Nat.le_succ _
  | _ :: r, i + 1=>Nat.succ_le_succ (Uv r i)
theorem Ub (its : List Value) : ∀ (k : Nat) (acc : List Value),
    List.foldl (fun x1 x2=>x1 ++ x2) acc.toArray (List.replicate k its.toArray) = (acc ++ (List.replicate k its).flatten).toArray
  | 0, acc=>by simp
  | k + 1, acc=>by
    have e : acc.toArray ++ its.toArray = (acc ++ its).toArray:=by simp
    have e2 : (acc ++ its) ++ (List.replicate k its).flatten = acc ++ (List.replicate (k + 1) its).flatten:=by
      rw [List.replicate_succ, List.flatten_cons, List.append_assoc]
    rw [← e2, ← Ub its k (acc ++ its), ← e, List.replicate_succ, List.foldl_cons]
section
variable {X : Cx} {pins : List (Addr × Obj)} {σ : St} {H : Hp} {s : Shared} {l b : Addr} {xs ys zs : List V}
theorem Inv.lset {its its' : List Value} {n : Nat} {f : Array Value -> Array Value} {t' : Nat} (I : Inv X pins σ H s) (hH : H l = some (.lst xs))
    (e : s.heap.get? l = some { cls:=.type "list", data:=.seq its.toArray n }) (hf : f its.toArray = its'.toArray) (hv : XR ys its') (hz : ys.length <= sizeLine) :
    Inv X pins σ (upd H l (.lst ys)) { s with heap:=s.heap.update l (Obj.mapSeq f), toks:=t' }:=by
  have q:=PySem.IsL.update e f
  rw [hf] at q
  refine I.write (x:=l) (e:=l) (by rw [hH]; exact trivial) (.inl rfl) (fun b' u hb hu=>(Heap.get?_update_other s.heap (Obj.mapSeq f) (Ne.symm hb)).trans hu) ⟨_, q⟩ ?_
  exact ⟨hz, its', _, hv, q⟩
theorem Inv.lnew {its : List Value} {t' : Nat} (I : Inv X pins σ H s) (hv : XR ys its) (hz : ys.length <= sizeLine) :
    Inv X pins σ (upd H s.heap.objs.size (.lst ys)) { s with heap:=s.heap.push { cls:=.type "list", data:=.seq its.toArray }, toks:=t' }:=
  I.laid (fun _ _ q=>Heap.get?_push_of_some _ q) (Nat.le_refl _) ⟨hz, its, 0, hv, Heap.get?_push_size _ rfl⟩
theorem Inv.fresh (I : Inv X pins σ H s) : H s.heap.objs.size = none:=I.hok.fresh (Nat.le_refl _)
theorem Inv.lstM (I : Inv X pins σ H s) (hH : H l = some (.lst xs)) : xs.length <= sizeLine /\ ∃ (its : List Value) (n : Nat), XR xs its /\ xs.length = its.length /\ s.heap.get? l = some { cls:=.type "list", data:=.seq its.toArray n }:=by
  obtain ⟨z, its, n, r, e⟩:=I.hok l _ hH
  exact ⟨z, its, n, r, r.length, e⟩
theorem Ki {n : Nat} (h : n <= sizeLine) : Builtin.List.listTooLong n = false:=by
  unfold Builtin.List.listTooLong
  exact decide_eq_false (by omega)
end
section
variable {X : Cx}
noncomputable def UR : V -> List V -> Hp -> VK -> Prop:=fun x vs H Q=>∃ l xs y, x = .ref l /\ vs = [y] /\ H l = some (.lst xs) /\ xs.length < sizeLine /\ Q .non (upd H l (.lst (xs ++ [y])))
theorem X6 : MtM X "list.append" UR:=by
  intro pins s σ H x vs v us Q I rx rv h
  obtain ⟨l, xs, y, rfl, rfl, hH, hz, q⟩:=h
  cases rx
  obtain ⟨u, rfl, ru⟩:=rv.one
  obtain ⟨z, its, n, r, hl, e⟩:=I.lstM hH
  refine call_meets F.slot_list_append ⟨_, e, rfl⟩ F.entry_list_append (F.args_list_append_2 _ _) (PySem.list_append l its.toArray n u (by rw [List.size_toArray]; omega)) ⟨e, ?_⟩
  refine ⟨.non, _, I.lset (its':=its ++ [u]) hH e (by simp) (r.append (.cons ru .nil)) ?_, rfl, q⟩
  rw [List.length_append, List.length_singleton]
  omega
noncomputable def Fo : V -> List V -> Hp -> VK -> Prop:=fun x vs H Q=>∃ l b xs zs, x = .ref l /\ vs = [.ref b] /\ H l = some (.lst xs) /\ H b = some (.lst zs) /\ xs.length + zs.length <= sizeLine /\ Q .non (upd H l (.lst (xs ++ zs)))
theorem V8 : MtM X "list.extend" Fo:=by
  intro pins s σ H x vs v us Q I rx rv h
  obtain ⟨l, b, xs, zs, rfl, rfl, hH, hB, hz, q⟩:=h
  cases rx
  obtain ⟨u, rfl, ru⟩:=rv.one
  cases ru
  obtain ⟨z, its, n, r, hl, e⟩:=I.lstM hH
  obtain ⟨z2, its2, n2, r2, hl2, e2⟩:=I.lstM hB
  have hsz : its.toArray.size + its2.toArray.size <= sizeLine:=by rw [List.size_toArray, List.size_toArray]; omega
  have hlong : ¬ (!its.toArray.isEmpty && Builtin.List.listTooLong (its.toArray.size + its2.toArray.size)) = true:=by
    rw [Ki hsz, Bool.and_false]
    exact Bool.false_ne_true
  refine call_meets F.slot_list_extend ⟨_, e, rfl⟩ F.entry_list_extend (F.args_list_extend_2 _ _)
    (AutoSeq1.list_extend_list_list_0 l its.toArray n b its2.toArray n2 hlong (by rw [List.size_toArray]; omega) (by omega)) ⟨e, e2, ?_⟩
  refine ⟨.non, _, I.lset (its':=its ++ its2) hH e (by simp) (r.append r2) ?_, rfl, q⟩
  rw [List.length_append]
  omega
noncomputable def Gh : V -> List V -> Hp -> VK -> Prop:=fun x vs H Q=>∃ l xs i k y, x = .ref l /\ vs = [.int i] /\ H l = some (.lst xs) /\ -(2 ^ 63) <= i /\ i < 2 ^ 63 /\ seqIndex? i xs.length = some k /\ xs[k]? = some y /\ Q y (upd H l (.lst (xs.eraseIdx k)))
theorem DC : MtM X "list.pop" Gh:=by
  intro pins s σ H x vs v us Q I rx rv h
  obtain ⟨l, xs, i, k, y, rfl, rfl, hH, h1, h2, hk, hy, q⟩:=h
  cases rx
  obtain ⟨u, rfl, ru⟩:=rv.one
  obtain ⟨t, rfl⟩:=ru
  obtain ⟨z, its, n, r, hl, e⟩:=I.lstM hH
  obtain ⟨w, hw, rw'⟩:=r.get hy
  refine call_meets F.slot_list_pop ⟨_, e, rfl⟩ F.entry_list_pop (F.args_list_pop_2 _ _)
    (MeetsSeq.list_pop_at l its.toArray n i t k w (fitsIndex_both h1 h2) (by rw [List.size_toArray, ← hl]; exact hk) (by rw [← Array.getElem?_toList]; exact hw) (by rw [List.size_toArray]; omega)) ⟨e, ?_⟩
  refine ⟨y, _, I.lset (its':=its.eraseIdx k) hH e ?_ (r.eraseIdx k) ?_, rw', q⟩
  . show its.toArray.eraseIdxIfInBounds k = (its.eraseIdx k).toArray
    rw [List.eraseIdxIfInBounds_toArray]
  . have := Uv xs k
    omega
noncomputable def II : R2:=fun x y H Q=>∃ l b xs zs, x = .ref l /\ y = .ref b /\ H l = some (.lst xs) /\ H b = some (.lst zs) /\ xs.length + zs.length <= sizeLine /\ ∀ p, H p = none -> Q (.ref p) (upd H p (.lst (xs ++ zs)))
theorem CH : OpR X (binaryOp .Add) II:=by
  intro pins s σ H x y v u Q I rx ry h
  obtain ⟨l, b, xs, zs, rfl, rfl, hH, hB, hz, q⟩:=h
  cases rx
  cases ry
  obtain ⟨z, its, n, r, hl, e⟩:=I.lstM hH
  obtain ⟨z2, its2, n2, r2, hl2, e2⟩:=I.lstM hB
  refine PySem.P.add_list e e2 ?_ (by rw [List.size_toArray, List.size_toArray]; omega)
  have ea : its.toArray ++ its2.toArray = (its ++ its2).toArray:=by simp
  rw [ea]
  exact ⟨.ref _, _, I.lnew (t':=s.toks) (r.append r2) (by rw [List.length_append]; omega), rfl, q _ I.fresh⟩
noncomputable def IG : R2:=fun x y H Q=>∃ l k xs, x = .ref l /\ y = .int k /\ H l = some (.lst xs) /\ -(2 ^ 63) <= k /\ k < 2 ^ 63 /\ xs.length * k.toNat <= sizeLine /\
  ∀ p, H p = none -> Q (.ref p) (upd H p (.lst (List.replicate k.toNat xs).flatten))
theorem Bt {α : Type} (xs : List α) (k : Nat) : (List.replicate k xs).flatten.length = k * xs.length:=by
  induction k with
  | zero=>simp
  | succ k ih=>rw [List.replicate_succ, List.flatten_cons, List.length_append, ih, Nat.succ_mul, Nat.add_comm]
theorem Ck : OpR X (binaryOp .Mult) IG:=by
  intro pins s σ H x y v u Q I rx ry h
  obtain ⟨l, k, xs, rfl, rfl, hH, h1, h2, hz, q⟩:=h
  cases rx
  obtain ⟨t, rfl⟩:=ry
  obtain ⟨z, its, n, r, hl, e⟩:=I.lstM hH
  have hlen : its.toArray.size * k.toNat <= sizeLine:=by rw [List.size_toArray, ← hl]; exact hz
  have hcap : ¬ its.toArray.size * k.toNat > (2 ^ 63 - 1) / 8:=by
    have : (sizeLine : Nat) <= (2 ^ 63 - 1) / 8:=by decide
    omega
  have hfit : ¬ (!Builtin.List.listFitsIndex k) = true:=by
    rw [fitsIndex_both h1 h2]
    exact Bool.false_ne_true
  have hlong : ¬ Builtin.List.listTooLong (its.toArray.size * k.toNat) = true:=by
    rw [Ki hlen]
    exact Bool.false_ne_true
  have hnew : List.foldl (fun x1 x2=>x1 ++ x2) #[] (List.replicate (if its.toArray.isEmpty = true then 0 else k.toNat) its.toArray) = (List.replicate k.toNat its).flatten.toArray:=by
    have f0 : ∀ m : Nat, List.foldl (fun x1 x2=>x1 ++ x2) #[] (List.replicate m its.toArray) = (List.replicate m its).flatten.toArray:=fun m=>by
      have:=Ub its m []
      rw [List.nil_append] at this
      exact this
    rw [f0]
    cases its with
    | nil=>simp
    | cons a r'=>rw [if_neg (by simp)]
  refine wpAny_binaryOp_repeat_ref (T:="list") (U:="int") (by decide) ⟨_, e, rfl⟩ (fun s'=>typeIs_int s' k t) noFill_list_mul F.fills_int_mul F.slot_int_rmul repeat_list F.slot_int_index.lookup
    (call_meets F.slot_int_rmul (typeIs_int s k t) F.entry_int_rmul (F.args_int_rmul_2 _ _) (int___rmul___int_list k t l its.toArray n)
      ⟨e, rfl, ⟨_, e, rfl⟩, call_meets F.slot_list_mul ⟨_, e, rfl⟩ F.entry_list_mul (F.args_list_mul_2 _ _) (AutoListH.list___mul___list_int_3 l its.toArray n k t hfit hcap hlong) ⟨e, ?_⟩⟩)
  rw [hnew]
  exact ⟨.ref _, _, I.lnew (t':=s.toks) (r.rep k.toNat) (by rw [Bt, Nat.mul_comm]; exact hz), rfl, q _ I.fresh⟩
end
section
variable {prog : Program} {w : World} {A : Around} {E : Value -> Shared -> Prop} {s : Shared}
end
section
variable {X : Cx}
end
end L2
namespace Att
open PySem PySem.W PySem.Calls PyProof.Rows
theorem Jy {P : Params} {h : Heap} : ∀ (ns : List Int) (vs : List Value), WellAll P h vs (ns.map WData.int) -> IntsAre vs ns:=by
  intro ns
  induction ns with
  | nil=>
    intro vs w
    rw [List.map_nil] at w
    cases w
    exact .nil
  | cons n ns ih=>
    intro vs w
    rw [List.map_cons] at w
    cases w with
    | cons a b=>
      cases a
      exact .cons _ _ (ih _ b)
theorem FK {l : OpenLaw} {n : Nat} (hn : l.most = some n) {P : Params} {h : Heap} {args : List WData} {vals : List Value}
    (hpre : l.row.toRowW.claim.pre args = true) (hwl : WellAll P h vals args) :
    ∃ a vs ns, vals = [Value.ref a] /\ args = [WData.list (ns.map WData.int)] /\ h.get? a = some { cls:=.type "list", data:=.seq vs.toArray } /\ IntsAre vs ns /\ ns.length <= n:=by
  have hsh : WShape.hasAll [] args [.list .int] = true:=(pre_splitW hpre).1
  have hc : l.pre.holds [] { args:=args } = true:=(pre_splitW hpre).2
  obtain ⟨d, r, rfl, h1, h2⟩:=hasAllW_cons hsh
  obtain rfl:=hasAllW_nil h2
  obtain ⟨xs, rfl, h3⟩:=hasW_list h1
  obtain ⟨ns, rfl⟩:=items_int h3
  have hlen : ns.length <= n:=by
    unfold OpenLaw.pre at hc
    have h4 : (WTm.not (.lt (.lit (.int (n : Int))) (.len (.arg 0)))).holds [] { args:=[.list (ns.map .int)] } = true:=by
      have h4:=(holds_andW hc).1
      rw [hn] at h4
      exact h4
    have h5:=condW_of h4 (w_not (w_lt w_lit (w_len_list (w_arg rfl))))
    rw [List.length_map] at h5
    refine Nat.le_of_not_lt fun q=>?_
    have q' : (n : Int) < ((ns.length : Nat) : Int):=by omega
    first
      | (rw [decide_eq_true q'] at h5; exact absurd h5 (by decide))
      | (simp at h5; omega)
  cases hwl with
  | cons w1 w2=>
    cases w2
    cases w1 with
    | list ho hall=>exact ⟨_, _, ns, rfl, rfl, ho, Jy ns _ hall, hlen⟩
theorem GS (l : OpenLaw) (args : List WData) : l.row.toRowW.claim.post args (.bool true) args = true:=
  postW_of (r:=l.row.toRowW) (X:=(true == true))
    (show WShape.has [] (.bool true) .bool = true by first | rfl | decide | simp [WShape.has, WShape.arms, WShape.armsAll])
    (show (WTm.eq .res (.lit (.bool true))).value [] { args:=args, res:=some (.bool true), after:=args } = some (.bool (true == true)) from w_eq_bool (w_res rfl) w_lit) rfl
theorem attach_call {l : OpenLaw} {n : Nat} {q : Program} {loose : List Str} {XP : (Str -> Option Value) -> Heap -> Prop} {YP : World -> Heap -> Prop} {d : DefRec}
    (hn : l.most = some n) (hdf : d.params.defaults = [])
    (call : ∀ (w : World) (s₀ s₁ : Shared) (mg mb : Str -> Option Value) (fa : Addr) (o : Obj) (pm cd doc : Value) (a : Addr) (vs : List Value) (ns : List Int),
      Ground q loose [] XP w s₀ mg mb s₁.heap -> YP w s₁.heap ->
      s₁.heap.get? fa = some o -> o.data = .func (docDef d.name d.params d.body d.scope pm cd doc) -> s₁.heap.CodeRec cd d.name -> mg d.name = some (.ref fa) ->
      s₁.heap.get? a = some { cls:=.type "list", data:=.seq vs.toArray } -> IntsAre vs ns -> ns.length <= n -> s₁.gens = #[] ->
      codeAny (model l.prog w) callerA (.call (.ref fa) ⟨[.ref a], []⟩) (fun r s'=>r = .ok (.ret (.bool true)) /\ OldK s₁.heap s'.heap /\ s'.os = s₁.os /\ AllBare s'.gens) s₁) :
    WalkO q loose XP YP l.row.toRowW d [] (fun f vs=>PySem.call f vs):=by
  intro w s₀ s₁ mg mb G Y fa o pm cd doc dV kV ho hd hcd hD hmg hg args vals as hpre hlay hrd hwl hlo
  obtain rfl : dV = .none:=Dflts.none hD hdf
  obtain rfl : kV = .none:=Dflts.noKw hD
  obtain ⟨a, vs, ns, rfl, rfl, hobj, hints, hlen⟩:=FK hn hpre hwl
  refine enter_call (codeAny_mono (call w s₀ s₁ mg mb fa o pm cd doc a vs ns G Y ho (fd_plain hd) hcd hmg hobj hints hlen hg) fun r s' hq=>?_)
  obtain ⟨rfl, h2, h3, h4⟩:=hq
  exact ⟨.inl ⟨.bool true, .bool true, [], rfl, fun _=>rfl, .bool true, GS l _, fun _=>⟨List.Pairwise.nil, fun _ hm=>(nomatch hm)⟩⟩, h2, h3, h4⟩
section
variable {prog : Program} {w : World} {A : Around} {E : Value -> Shared -> Prop} {s : Shared} {K : Frag}
noncomputable def Iv (h : Heap) (L d : Addr) : List (Addr × Obj):=(List.range h.objs.size).filterMap fun a=>if a = L ∨ a = d then none else (h.get? a).map fun o=>(a, o)
end
end Att
namespace L2
open PySem PySem.Spec PyProof.Rows
theorem V0 : ∀ {vs : List Value} {ns : List Int}, IntsAre vs ns -> XR (ns.map V.int) vs
  | _, _, .nil=>.nil
  | _, _, .cons n t h=>.cons ⟨t, rfl⟩ (V0 h)
noncomputable def HS (H : Hp) : Prop:=∀ b, H b = none ∨ ∃ o xs, H b = some (.frz o (.lst xs))
theorem DB {P : Program} {w : World} {K : PySem.W.Frag} {mg mb : Str -> Option Value} {CX : CXT} {k : Nat} {fa a : Addr} {fd : FuncData} {x : Str} {sp : Sp} {s₁ : Shared} {vs : List Value} {ns : List Int}
    (KX : K.In s₁.heap) (hns : s₁.heap.Ns mainGlobals mg) (hb : s₁.heap.Ns builtinsNs mb) (hbb : ∀ x : Str, x ≠ "__name__" -> mb x = bootBuiltins x) (hlim : s₁.heap.NoLimit) (hg : s₁.gens = #[])
    (ha : s₁.heap.get? a = some { cls:=.type "list", data:=.seq vs.toArray }) (hi : IntsAre vs ns) (hl : ns.length <= sizeLine) (hr : Room k callerA)
    (F : ∀ base : Heap, K.In base -> base.Ns mainGlobals mg -> FnOk P w K mg base CX k fa fd [x] sp) (hbind : ∀ (s : Shared) (u : Value), BindsTo s fd ⟨[u], []⟩ [(x, u)])
    (hsp : ∀ H : Hp, HS H -> SqL K H a (ns.map V.int) -> sp [.ref a] H (fun v _=>v = .bl true) fun _ _ _=>False)
    (hCX : ∀ H e s', CX [] H s₁ (fun _ _ _=>False) e s' -> False) :
    codeAny (model P w) callerA (.call (.ref fa) ⟨[.ref a], []⟩) (fun r s'=>r = .ok (.ret (.bool true)) /\ OldK s₁.heap s'.heap /\ s'.os = s₁.os /\ AllBare s'.gens) s₁:=by
  have rv:=V0 hi
  have lenV:=hi.length
  -- from an abstract heap in which nothing but the script may be tracked
  have core : ∀ H : Hp, HS H -> SqL K H a (ns.map V.int) -> HOk P w H s₁.heap -> (∀ b, H b ≠ none -> b = a) -> (H a ≠ none -> K.lookup a = none) ->
      codeAny (model P w) callerA (.call (.ref fa) ⟨[.ref a], []⟩) (fun r s'=>r = .ok (.ret (.bool true)) /\ OldK s₁.heap s'.heap /\ s'.os = s₁.os /\ AllBare s'.gens) s₁:=by
    intro H hO hS hok hA hK
    have base_of : ∀ {b : Addr} {o : Obj}, s₁.heap.get? b = some o -> H b = none -> (F5 s₁.heap H).get? b = some o:=fun e n=>KJ e n
    have noA : ∀ {b : Addr} {o : Obj} {es : Array DictEntry} {ep : Nat}, s₁.heap.get? b = some o -> o.data = .dict es ep -> H b = none:=fun {b o es ep} e d=>by
      cases q : H b with
      | none=>rfl
      | some u=>
        have e' : b = a:=hA b (by rw [q]; simp)
        subst e'
        rw [ha] at e; cases e
        have d' : Data.seq vs.toArray _ = Data.dict es ep:=d
        cases d'
    have nsK : ∀ {b : Addr} {m : Str -> Option Value}, s₁.heap.Ns b m -> (F5 s₁.heap H).Ns b m:=fun {b m} ⟨o, es, ep, e, d, r⟩=>⟨o, es, ep, base_of e (noA e d), d, r⟩
    have hKb : K.In (F5 s₁.heap H):=fun b o e=>base_of (KX b o e) (by
      cases q : H b with
      | none=>rfl
      | some u=>
        have e' : b = a:=hA b (by rw [q]; simp)
        subst e'
        rw [hK (by rw [q]; simp)] at e; cases e)
    have hM : Mod K mg (F5 s₁.heap H):=⟨hKb, nsK hns, ⟨mb, nsK hb, hbb⟩, let ⟨mc, h1, h2⟩:=hlim; ⟨mc, nsK h1, h2⟩⟩
    have e0 : Env0 P w K mg (F5 s₁.heap H) callerA [] s₁ H:=⟨rfl, hM, fun b o e=>GF e, Nat.le_of_eq (FN _ _), trivial, fun b hb=>absurd (show b ∈ ([] : List Addr) from hb) (by simp), hok, .of_eq hg⟩
    refine codeAny_mono ((F _ hKb (nsK hns)).run callerA [] s₁ H ⟨[.ref a], []⟩ [.ref a] [.ref a] _ _ hr e0 (hbind s₁ (.ref a)) (.cons rfl .nil) (hsp H hO hS)) fun r s' h=>?_
    cases r with
    | error e=>exact (hCX H e s' h).elim
    | ok fl=>
      cases fl with
      | next=>exact False.elim h
      | brk=>exact False.elim h
      | cont=>exact False.elim h
      | ret u=>
        obtain ⟨v, H', os, bare, un, hok', r', q⟩:=h
        have q' : v = .bl true:=q
        subst q'
        obtain rfl : u = Value.bool true:=r'
        refine ⟨rfl, OldK.of_keep fun b o e=>?_, os, bare⟩
        cases q : H b with
        | none=>exact un.keep b o e q (by intro z; exact absurd (show b ∈ ([] : List Addr) from z) (by simp)) (by simp)
        | some u=>
          rcases hO b with z | ⟨ob, xs, z⟩
          . rw [q] at z; cases z
          . have z2 := un.frzs b ob _ z
            obtain ⟨e1, _⟩:=hok b _ z
            obtain ⟨e2, _⟩:=hok' b _ z2
            rw [e] at e1; cases e1
            exact e2
  cases hk : K.lookup a with
  | some o=>
    -- the script is one of the module's own objects
    have e:=KX a o hk
    rw [ha] at e
    cases e
    refine core (fun _=>none) (fun _=>.inl rfl) (.inr ⟨_, vs.toArray, _, hk, rfl, rfl, rfl, by rw [List.size_toArray, lenV]; exact hl, by simpa using rv⟩) (fun b u z=>by have z' : (none : Option HO) = some u:=z; cases z') (fun b z=>absurd rfl z) fun z=>absurd rfl z
  | none=>
    refine core (fun b=>if b = a then some (.frz { cls:=.type "list", data:=.seq vs.toArray } (.lst (ns.map V.int))) else none) (fun b=>?_) (.inl (.inr ⟨{ cls:=.type "list", data:=.seq vs.toArray }, if_pos rfl⟩)) (fun b u z=>?_) (fun b z=>?_) fun _=>hk
    . by_cases hb : b = a
      . exact .inr ⟨_, _, if_pos hb⟩
      . exact .inl (if_neg hb)
    . by_cases hb : b = a
      . have z' := (if_pos hb).symm.trans z
        cases z'
        subst hb
        exact ⟨ha, by rw [List.length_map]; exact hl, vs, _, rv, ha⟩
      . have z' := (if_neg hb).symm.trans z
        cases z'
    . by_cases hb : b = a
      . exact hb
      . exact absurd (if_neg hb) z
end L2
namespace L2
open PySem PySem.Spec PyProof.Rows
theorem BE {l : PySem.W.OpenLaw} {n k : Nat} {q : Program} {loose : List Str} {XP : (Str -> Option Value) -> Heap -> Prop} {YP : World -> Heap -> Prop} {d : DefRec} {K : Params -> PySem.W.Frag} {CX : World -> CXT} {sp : World -> Sp} {x : Str}
    (hn : l.most = some n) (hn2 : n <= sizeLine) (hdf : d.params.defaults = []) (hr : Room k callerA)
    (hY : ∀ (w : World) (h : Heap), YP w h -> (K w.params).In h)
    (F : ∀ (w : World) (mg : Str -> Option Value) (fa : Addr) (h : Heap), (K w.params).In h -> h.Ns mainGlobals mg -> mg d.name = some (.ref fa) ->
      ∃ fd : FuncData, (∀ (s : Shared) (u : Value), BindsTo s fd ⟨[u], []⟩ [(x, u)]) /\
        ∀ base : Heap, (K w.params).In base -> base.Ns mainGlobals mg -> FnOk l.prog w (K w.params) mg base (CX w) k fa fd [x] (sp w))
    (hsp : ∀ (w : World) (H : Hp) (a : Addr) (ns : List Int), ns.length <= n -> HS H -> SqL (K w.params) H a (ns.map V.int) -> sp w [.ref a] H (fun v _=>v = .bl true) fun _ _ _=>False)
    (hCX : ∀ (w : World) (H : Hp) (s : Shared) (e : Value) (s' : Shared), CX w [] H s (fun _ _ _=>False) e s' -> False) :
    PySem.W.WalkO q loose XP YP l.row.toRowW d [] (fun f vs=>PySem.call f vs):=by
  refine Att.attach_call hn hdf fun w s₀ s₁ mg mb fa o pm cd doc a vs ns G Y ho hd hcd hmg hobj hints hlen hg=>?_
  have KX:=hY w _ Y
  obtain ⟨fd, hb, hF⟩:=F w mg fa _ KX G.T.g hmg
  exact DB KX G.T.g G.T.b G.T.builtins G.T.nolimit hg hobj hints (Nat.le_trans hlen hn2) hr hF hb (fun H hO hS=>hsp w H a ns hlen hO hS) fun H e s'=>hCX w H s₁ e s'
end L2
namespace L2
open PySem PySem.Spec PyProof.Rows
noncomputable def Yq (s : Stmt) : Arguments:=match s with
  | .FunctionDef _ a _ _ _ _ _ _ _ _=>a
  | _=>{ posonlyargs:=[], args:=[], vararg:=none, kwonlyargs:=[], kw_defaults:=[], kwarg:=none, defaults:=[] }
noncomputable def Ye (s : Stmt) : List Stmt:=match s with
  | .FunctionDef _ _ b _ _ _ _ _ _ _=>b
  | _=>[]
noncomputable def Xj (s : Stmt) : Scope:=match s with
  | .FunctionDef _ _ _ _ _ _ sc _ _ _=>sc
  | _=>{ kind:=.function, names:=[], isGenerator:=false, isCoroutine:=false }
noncomputable abbrev CX0 : CXT:=fun _ _ _ _ _ _=>False
noncomputable abbrev E0 : XK:=fun _ _ _=>False
theorem Ih {X : Cx} : Va CX0 X E0:=fun _ _ _ _ _ _ _ h=>h.elim
structure Fun (K : PySem.W.Frag) (x qual : Str) (st : Stmt) (f : Addr) (fd : FuncData) : Prop where
  ex : ∃ (oc : Value) (od : Option Addr) (kV doc pm : Value) (an : Option Addr) (cdv ct : Value) (osl : Array (Option Value)),
    fd = PySem.W.fnOf x qual (Yq st) (Ye st) (Xj st) .none kV doc pm an cdv ct /\ K.lookup f = some ⟨oc, od, .func fd, osl⟩ /\ PySem.W.codeIn K cdv qual = true
  kp : PySem.W.keepIn K (.ref f) = true
section
variable {P : Program} {w : World} {K : PySem.W.Frag} {mg : Str -> Option Value} {base : Heap}
theorem Fun.ok {x qual : Str} {st : Stmt} {f : Addr} {fd : FuncData} {N ps : List Str} {k : Nat} {sp : Sp} (F : Fun K x qual st f fd) (S : FnScope N ps (Xj st)) (len : ∀ vs H Q E, sp vs H Q E -> vs.length = ps.length)
    (hbody : ∀ (cdv : Value) (A : Around) (outer : List Env) (s : Shared) (H : Hp) (vs : List V) (Q : VK) (E : XK), Room k (A.deeper (envOfC qual (Xj st) s.heap.objs.size f cdv)) -> sp vs H Q E ->
      ∃ t, PSs (K4 CX0 P w K mg base N qual (Xj st) f cdv A outer s H E).nox (Ye st) t /\ t { nx:=fun _ H'=>Q .non H', rt:=Q } (JC N vs) H) : FnOk P w K mg base CX0 (k + 1) f fd ps sp:=by
  obtain ⟨oc, od, kV, doc, pm, an, cdv, ct, osl, rfl, lk, hcd⟩:=F.ex
  refine EO lk hcd S len fun A outer s H vs Q E hr hsp=>?_
  obtain ⟨t, h, q⟩:=hbody cdv A outer s H vs Q E hr hsp
  exact ⟨t, h.nox, q⟩
theorem Fun.binds {x qual : Str} {st : Stmt} {f : Addr} {fd : FuncData} {ps : List Str} (F : Fun K x qual st f fd)
    (h : ∀ (kV doc pm : Value) (an : Option Addr) (cdv ct : Value) (us : List Value), us.length = ps.length -> bindArgs (PySem.W.fnOf x qual (Yq st) (Ye st) (Xj st) .none kV doc pm an cdv ct) ⟨us, []⟩ = pure (ps.zip us)) : V5 K fd ps []:=by
  obtain ⟨oc, od, kV, doc, pm, an, cdv, ct, osl, rfl, lk, hcd⟩:=F.ex
  exact .all (h kV doc pm an cdv ct)
theorem Z6 {x qual : Str} {st : Stmt} {f : Addr} {oc : Value} {od an : Option Addr} {osl : Array (Option Value)} {kV doc pm cdv ct : Value} (l : K.lookup f = some ⟨oc, od, .func (PySem.W.fnOf x qual (Yq st) (Ye st) (Xj st) .none kV doc pm an cdv ct), osl⟩)
    (c : PySem.W.codeIn K cdv qual = true) (k : PySem.W.keepIn K (.ref f) = true) : Fun K x qual st f (PySem.W.fnOf x qual (Yq st) (Ye st) (Xj st) .none kV doc pm an cdv ct):=⟨⟨oc, od, kV, doc, pm, an, cdv, ct, osl, rfl, l, c⟩, k⟩
end
theorem YA {A : Around} {k : Nat} (hr : Room k A) : A.units + 1 < cLine:=Nat.lt_of_le_of_lt (Nat.add_le_add_left (by decide : 1 <= 64) _) hr.units
theorem Ff {n : Nat} (h : n <= 1000) : n < sizeLine:=Nat.lt_of_le_of_lt h (by decide)
section
variable {X : Cx}
theorem pv (i : Nat) {x : Str} {pos : Pos} (hN : X.N[i]? = some x:=by rfl) (hv : Vis X.env.scope x:=by first | exact Or.inl rfl | exact Or.inr (Or.inl rfl) | exact Or.inr (Or.inr rfl)) (hd : (x == ("__debug__" : Str)) = false:=by decide)
    (hcd : (x == ("__classdict__" : Str)) = false:=by decide) : PE X (.Name x pos) (KM i):=Hj hN hv hd hcd
end
noncomputable def Xm (H H' : Hp) : Prop:=∀ b o, H b = some o -> H' b = some o
theorem Xm.refl (H : Hp) : Xm H H:=fun _ _ h=>h
theorem Xm.trans {H H1 H2 : Hp} (a : Xm H H1) (b : Xm H1 H2) : Xm H H2:=fun c o h=>b c o (a c o h)
theorem Xm.free {H H' : Hp} (e : Xm H H') {l : Addr} (h : H' l = Option.none) : H l = Option.none:=by
  cases q : H l with
  | none=>rfl
  | some o=>
    rw [e l o q] at h
    cases h
theorem Xm.seq {K : PySem.W.Frag} {H H' : Hp} {a : Addr} {xs : List V} (e : Xm H H') (h : SqL K H a xs) : SqL K H' a xs:=by
  rcases h with (h | ⟨o, h⟩) | h
  . exact .inl (.inl (e _ _ h))
  . exact .inl (.inr ⟨o, e _ _ h⟩)
  . exact .inr h
end L2
namespace L2
open PySem PySem.Spec PyProof.Rows
section
variable {κ : Type} [DecidableEq κ]
noncomputable def Gb (kvs : List (κ × V)) (k : κ) : Option V:=(kvs.find? fun kv=>decide (kv.1 = k)).map (·.2)
noncomputable def DO (kvs : List (κ × V)) (k : κ) (v : V) : List (κ × V):=
  if (kvs.any fun kv=>decide (kv.1 = k)) = true then kvs.map (fun kv=>if kv.1 = k then (kv.1, v) else kv) else kvs ++ [(k, v)]
noncomputable def Ew (kvs : List (κ × V)) (k : κ) : List (κ × V):=kvs.filter fun kv=>decide (kv.1 ≠ k)
theorem VF {p : κ × V} {r : List (κ × V)} {k : κ} (e : p.1 = k) : Gb (p :: r) k = some p.2:=by simp [Gb, List.find?_cons, e]
theorem Vk {p : κ × V} {r : List (κ × V)} {k : κ} (e : ¬ p.1 = k) : Gb (p :: r) k = Gb r k:=by simp [Gb, List.find?_cons, e]
theorem Kf (k : κ) : ∀ kvs : List (κ × V), (kvs.any fun kv=>decide (kv.1 = k)) = (Gb kvs k).isSome
  | []=>rfl
  | p :: r=>by
    rw [List.any_cons]
    by_cases e : p.1 = k
    . simp only [VF e, decide_eq_true e, Bool.true_or, Option.isSome_some]
    . rw [Vk e, decide_eq_false e, Bool.false_or]; exact Kf k r
theorem Dl.isSome_eq {o : Option V} {u : Option Value} (r : Dl o u) : o.isSome = u.isSome:=by
  cases o with
  | none=>cases u with
    | none=>rfl
    | some _=>exact (show False from r).elim
  | some _=>cases u with
    | none=>exact (show False from r).elim
    | some _=>rfl
theorem Dl.getD {o : Option V} {u : Option Value} {d : V} {d' : Value} (r : Dl o u) (rd : XV d d') : XV (o.getD d) (u.getD d'):=by
  cases o with
  | none=>cases u with
    | none=>exact rd
    | some _=>exact (show False from r).elim
  | some _=>cases u with
    | none=>exact (show False from r).elim
    | some _=>exact r
theorem KV.val {kvs : List (κ × V)} {vs : List (κ × Value)} (r : KV kvs vs) (k : κ) : Dl (Gb kvs k) (valueAt vs k):=by
  unfold KV at r
  induction r with
  | nil=>exact True.intro
  | @cons p q ps qs h t ih=>
    obtain ⟨h1, h2⟩:=h
    by_cases e : p.1 = k
    . have e' : q.1 = k := h1.symm.trans e
      have b : valueAt (q :: qs) k = some q.2:=by simp [valueAt, List.find?_cons, e']
      rw [VF e, b]; exact h2
    . have e' : ¬ q.1 = k := fun z => e (h1.trans z)
      have b : valueAt (q :: qs) k = valueAt qs k:=by simp [valueAt, List.find?_cons, e']
      rw [Vk e, b]; exact ih
theorem KV.any {kvs : List (κ × V)} {vs : List (κ × Value)} (r : KV kvs vs) (k : κ) : (kvs.any fun kv=>decide (kv.1 = k)) = vs.any fun kv=>decide (kv.1 = k):=by
  unfold KV at r
  induction r with
  | nil=>rfl
  | cons h t ih=>rw [List.any_cons, List.any_cons, ih, h.1]
theorem KV.repl {kvs : List (κ × V)} {vs : List (κ × Value)} (r : KV kvs vs) (k : κ) {y : V} {u : Value} (ry : XV y u) :
    KV (kvs.map fun kv=>if kv.1 = k then (kv.1, y) else kv) (vs.map fun kv=>if kv.1 = k then (kv.1, u) else kv):=by
  unfold KV at r ⊢
  induction r with
  | nil=>exact .nil
  | @cons p q ps qs h t ih=>
    rw [List.map_cons, List.map_cons]
    refine .cons ?_ ih
    obtain ⟨h1, h2⟩:=h
    by_cases e : p.1 = k
    . rw [if_pos e, if_pos (h1.symm.trans e)]; exact ⟨h1, ry⟩
    . rw [if_neg e, if_neg (fun z=>e (h1.trans z))]; exact ⟨h1, h2⟩
theorem KV.put {kvs : List (κ × V)} {vs : List (κ × Value)} (r : KV kvs vs) (k : κ) {y : V} {u : Value} (ry : XV y u) : KV (DO kvs k y) (stored vs k u):=by
  unfold DO stored
  rw [r.any k]
  by_cases e : (vs.any fun kv=>decide (kv.1 = k)) = true
  . rw [if_pos e, if_pos e]; exact r.repl k ry
  . rw [if_neg e, if_neg e]; exact Paired.snoc r ⟨rfl, ry⟩
theorem KV.drop {kvs : List (κ × V)} {vs : List (κ × Value)} (r : KV kvs vs) (k : κ) : KV (Ew kvs k) (without vs k):=by
  unfold KV at r ⊢
  unfold Ew without
  induction r with
  | nil=>exact .nil
  | @cons p q ps qs h t ih=>
    obtain ⟨h1, h2⟩:=h
    rw [List.filter_cons, List.filter_cons]
    by_cases e : p.1 = k
    . have a : ¬ decide (p.1 ≠ k) = true := by simp [e]
      have b : ¬ decide (q.1 ≠ k) = true:=by simp [h1.symm.trans e]
      rw [if_neg a, if_neg b]; exact ih
    . have e' : ¬ q.1 = k := fun z => e (h1.trans z)
      have a : decide (p.1 ≠ k) = true:=by simp [e]
      have b : decide (q.1 ≠ k) = true:=by simp [e']
      rw [if_pos a, if_pos b]; exact .cons ⟨h1, h2⟩ ih
theorem KV.keys {kvs : List (κ × V)} {vs : List (κ × Value)} (r : KV kvs vs) : kvs.map (·.1) = vs.map (·.1):=by
  unfold KV at r
  induction r with
  | nil=>rfl
  | cons h t ih=>rw [List.map_cons, List.map_cons, ih, h.1]
theorem KV.length {kvs : List (κ × V)} {vs : List (κ × Value)} (r : KV kvs vs) : kvs.length = vs.length:=Paired.length r
end
theorem Iq {P : Program} {w : World} {k : Key} {u : Value} (r : XV (kV k) u) : (YY P w).is k u = true:=by
  cases k with
  | inl i=>obtain ⟨t, e⟩:=(show ∃ t, u = Value.int i t from r); subst e; exact UK P w i t
  | inr x=>obtain ⟨t, e⟩:=(show ∃ t, u = Value.str x t from r); subst e; exact UX P w x t
theorem VU {P : Program} {w : World} : ∀ {ks : List Key} {us : List Value}, XR (ks.map kV) us -> ItemsAre (YY P w) ks us
  | [], _, r=>by rw [List.map_nil] at r; cases r; exact .nil
  | k :: ks, _, r=>by
    rw [List.map_cons] at r
    cases r with
    | cons h t=>exact .cons (Iq h) (VU t)
noncomputable abbrev KT (H : Hp) : List (List Key × V) -> List (List Key × Addr × Value) -> Prop:=Paired fun p q=>p.1 = q.1 /\ H q.2.1 = some (.tup (p.1.map kV)) /\ XV p.2 q.2.2
theorem KT.val {H : Hp} {kvs : List (List Key × V)} {xs : List (List Key × Addr × Value)} (r : KT H kvs xs) (k : List Key) : Dl (Gb kvs k) ((atKey xs k).map (·.2)):=by
  induction r with
  | nil=>exact True.intro
  | @cons p q ps qs h t ih=>
    obtain ⟨h1, _, h2⟩:=h
    by_cases e : p.1 = k
    . have e' : q.1 = k := h1.symm.trans e
      have b : atKey (q :: qs) k = some q.2:=by simp [atKey, List.find?_cons, e']
      rw [VF e, b]; exact h2
    . have e' : ¬ q.1 = k := fun z => e (h1.trans z)
      have b : atKey (q :: qs) k = atKey qs k:=by simp [atKey, List.find?_cons, e']
      rw [Vk e, b]; exact ih
theorem KT.repl {H : Hp} {kvs : List (List Key × V)} {xs : List (List Key × Addr × Value)} (r : KT H kvs xs) (k : List Key) {y : V} {u : Value} (ry : XV y u) :
    KT H (kvs.map fun kv=>if kv.1 = k then (kv.1, y) else kv) (xs.map (putAt k u)):=by
  induction r with
  | nil=>exact .nil
  | @cons p q ps qs h t ih=>
    rw [List.map_cons, List.map_cons]
    refine .cons ?_ ih
    obtain ⟨h1, h2, h3⟩:=h
    unfold putAt
    by_cases e : p.1 = k
    . rw [if_pos e, if_pos (h1.symm.trans e)]; exact ⟨h1, h2, ry⟩
    . rw [if_neg e, if_neg (fun z=>e (h1.trans z))]; exact ⟨h1, h2, h3⟩
theorem KT.put {H : Hp} {kvs : List (List Key × V)} {xs : List (List Key × Addr × Value)} (r : KT H kvs xs) (k : List Key) {b : Addr} {y : V} {u : Value} (hb : H b = some (.tup (k.map kV))) (ry : XV y u) :
    KT H (DO kvs k y) (storedH xs k b u):=by
  have e : (kvs.any fun kv=>decide (kv.1 = k)) = (atKey xs k).isSome:=by
    rw [Kf, (r.val k).isSome_eq, Option.isSome_map]
  unfold DO storedH
  rw [e]
  by_cases q : (atKey xs k).isSome = true
  . rw [if_pos q, if_pos q]; exact r.repl k ry
  . rw [if_neg q, if_neg q]; exact Paired.snoc r ⟨rfl, hb, ry⟩
theorem KT.keeps {H H' : Hp} {kvs : List (List Key × V)} {xs : List (List Key × Addr × Value)} (r : KT H kvs xs) (ht : ∀ b ys, H b = some (.tup ys) -> H' b = some (.tup ys)) : KT H' kvs xs:=
  Paired.mapP r fun _ _ z=>⟨z.1, ht _ _ z.2.1, z.2.2⟩
section
variable {P : Program} {w : World} {H : Hp} {h : Heap} {a : Addr}
theorem Ho {ks : List Key} (ok : HOk P w H h) (e : H a = some (.tup (ks.map kV))) : (tupleKind (YY P w)).is h ks a:=by
  obtain ⟨_, its, r, o, h1, h2, n, h3⟩:=(show Y2 P w H h a (.tup (ks.map kV)) from ok a _ e)
  exact ⟨o, its.toArray, n, h1, h2.1, h3, by simpa using VU r⟩
end
noncomputable def HN (H : Hp) (a : Addr) (y : V) (r : Option V) : Prop:=
  (∃ kvs k, Rd H a (.dK kvs) /\ y = kV k /\ r = Gb kvs k) ∨ ∃ kvs k b, Rd H a (.dT kvs) /\ y = .ref b /\ H b = some (.tup (k.map kV)) /\ r = Gb kvs k
noncomputable def HQ (H : Hp) (a : Addr) (y v : V) (H' : Hp) : Prop:=
  (∃ kvs k, H a = some (.dK kvs) /\ y = kV k /\ kvs.length < sizeLine /\ H' = upd H a (.dK (DO kvs k v))) ∨
  ∃ kvs k b, H a = some (.dT kvs) /\ y = .ref b /\ H b = some (.tup (k.map kV)) /\ kvs.length < sizeLine /\ H' = upd H a (.dT (DO kvs k v))
theorem HN.k {H : Hp} {a : Addr} {kvs : List (Key × V)} {k : Key} (e : H a = some (.dK kvs)) : HN H a (kV k) (Gb kvs k):=.inl ⟨kvs, k, .inl e, rfl, rfl⟩
theorem HN.t {H : Hp} {a b : Addr} {kvs : List (List Key × V)} {k : List Key} (e : H a = some (.dT kvs)) (eb : H b = some (.tup (k.map kV))) : HN H a (.ref b) (Gb kvs k):=.inr ⟨kvs, k, b, .inl e, rfl, eb, rfl⟩
theorem HQ.k {H : Hp} {a : Addr} {kvs : List (Key × V)} {k : Key} {v : V} (e : H a = some (.dK kvs)) (hl : kvs.length < sizeLine) : HQ H a (kV k) v (upd H a (.dK (DO kvs k v))):=.inl ⟨kvs, k, e, rfl, hl, rfl⟩
theorem HQ.t {H : Hp} {a b : Addr} {kvs : List (List Key × V)} {k : List Key} {v : V} (e : H a = some (.dT kvs)) (eb : H b = some (.tup (k.map kV))) (hl : kvs.length < sizeLine) :
    HQ H a (.ref b) v (upd H a (.dT (DO kvs k v))):=.inr ⟨kvs, k, b, e, rfl, eb, hl, rfl⟩
section
variable {X : Cx} {pins : List (Addr × Obj)} {σ : St} {H : Hp} {s : Shared} {a : Addr} {y v : V} {u r : Value} {o : Option V} {A : Around} {E : Value -> Shared -> Prop}
end
section
variable {X : Cx} {pins : List (Addr × Obj)} {σ : St} {H : Hp} {s : Shared} {a : Addr} {kvs : List (Key × V)} {k : Key} {u : Value} {A : Around} {E : Value -> Shared -> Prop}
end
section
variable {X : Cx} {o i e value : Expr} {pos pos' tpos : Pos} {td ty tv : TE}
end
section
variable {X : Cx} {pos : Pos}
end
section
variable {X : Cx} {pins : List (Addr × Obj)} {σ : St} {H : Hp} {s : Shared} {a : Addr} {y d : V} {u r : Value} {o : Option V} {A : Around} {E : Value -> Shared -> Prop}
end
section
variable {X : Cx} {o e f : Expr} {apos cpos : Pos} {td ty tx : TE}
end
section
variable {X : Cx} {pins : List (Addr × Obj)} {σ : St} {H : Hp} {s : Shared} {a : Addr} {kvs : List (Key × V)} {A : Around} {E : Value -> Shared -> Prop}
end
section
variable {X : Cx} {pins : List (Addr × Obj)} {σ : St} {H : Hp} {s : Shared} {a : Addr} {y : V} {u : Value} {A : Around} {E : Value -> Shared -> Prop}
end
end L2
namespace L2
open PySem PySem.Spec PyProof.Rows
section
variable {X : Cx}
end
section
variable {κ : Type} [DecidableEq κ]
end
end L2
namespace L2
open PySem PySem.Spec PyProof.Rows
theorem G8 {env : Env} : ∀ (names : List (Str × NameKind)), (∀ x ∈ names, x.2 = NameKind.free -> ∃ c, env.cells.lookup x.1 = some c) ->
    ∀ cs : List (Str × Addr), (∀ x c, cs.lookup x = some c -> env.cells.lookup x = some c) ->
    ∃ cl : List (Str × Addr), (forIn names cs (fun (x : Str × NameKind) (r : List (Str × Addr))=>(if (x.2 == NameKind.free) = true then do let a ← cellOf env x.1; pure (ForInStep.yield ((x.1, a) :: r)) else pure (ForInStep.yield r) : Sem (ForInStep (List (Str × Addr)))))) = (pure cl : Sem (List (Str × Addr))) /\
      (∀ x c, cl.lookup x = some c -> env.cells.lookup x = some c) /\ (∀ x, ((x, NameKind.free) ∈ names ∨ ∃ c, cs.lookup x = some c) -> ∃ c, cl.lookup x = some c)
  | [], _, cs, hs=>⟨cs, by rw [List.forIn_nil], hs, fun x h=>h.elim (fun z=>nomatch z) id⟩
  | (n, k) :: r, hf, cs, hs=>by
    have hr : ∀ x ∈ r, x.2 = NameKind.free -> ∃ c, env.cells.lookup x.1 = some c:=fun x hx=>hf x (List.mem_cons_of_mem _ hx)
    by_cases hk : k = NameKind.free
    . subst hk
      obtain ⟨a, ha⟩:=hf (n, NameKind.free) List.mem_cons_self rfl
      have hs' : ∀ x c, ((n, a) :: cs).lookup x = some c -> env.cells.lookup x = some c:=fun x c h=>by
        rw [List.lookup_cons] at h
        by_cases hx : x = n
        . subst hx
          simp only [beq_self_eq_true] at h
          rw [← h]; exact ha
        . have : (x == n) = false := beq_eq_false_iff_ne.mpr hx
          rw [this] at h
          exact hs x c h
      obtain ⟨cl, e, h1, h2⟩:=G8 r hr ((n, a) :: cs) hs'
      refine ⟨cl, ?_, h1, fun x h=>h2 x ?_⟩
      . rw [List.forIn_cons]
        have e1 : cellOf env n = pure a:=by unfold cellOf; rw [show env.cells.lookup n = some a from ha]
        simp only [beq_self_eq_true, if_true, e1]
        exact e
      . rcases h with h | ⟨c, h⟩
        . rcases List.mem_cons.mp h with h | h
          . have : x = n := congrArg Prod.fst h
            subst this
            exact .inr ⟨a, by rw [List.lookup_cons]; simp⟩
          . exact .inl h
        . by_cases hx : x = n
          . subst hx; exact .inr ⟨a, by rw [List.lookup_cons]; simp⟩
          . exact .inr ⟨c, by rw [List.lookup_cons, beq_eq_false_iff_ne.mpr hx]; exact h⟩
    . obtain ⟨cl, e, h1, h2⟩ := G8 r hr cs hs
      refine ⟨cl, ?_, h1, fun x h=>h2 x ?_⟩
      . rw [List.forIn_cons]
        have hb : (k == NameKind.free) = false:=by simpa using hk
        simp only [hb, Bool.false_eq_true, if_false]
        exact e
      . rcases h with h | h
        . rcases List.mem_cons.mp h with h | h
          . exact absurd (congrArg Prod.snd h).symm hk
          . exact .inl h
        . exact .inr h
theorem Fi {scope : Scope} {env : Env} (hf : ∀ x ∈ scope.names, x.2 = NameKind.free -> ∃ c, env.cells.lookup x.1 = some c) :
    ∃ cl : List (Str × Addr), closureFor scope env = pure cl /\ (∀ x c, cl.lookup x = some c -> env.cells.lookup x = some c) /\ (∀ x, (x, NameKind.free) ∈ scope.names -> ∃ c, cl.lookup x = some c):=by
  obtain ⟨cl, e, h1, h2⟩:=G8 scope.names hf [] (fun x c h=>by simp at h)
  refine ⟨cl, ?_, h1, fun x h=>h2 x (.inl h)⟩
  unfold closureFor
  show ((forIn scope.names [] (fun (x : Str × NameKind) (r : List (Str × Addr))=>(if (x.2 == NameKind.free) = true then do let a ← cellOf env x.1; pure (ForInStep.yield ((x.1, a) :: r)) else pure (ForInStep.yield r) : Sem (ForInStep (List (Str × Addr)))))) >>= fun s=>pure s) = pure cl
  rw [e]
  rfl
theorem ZX {env : Env} : ∀ {names : List (Str × NameKind)} {x : Str} {k : NameKind}, (∀ y ∈ names, y.2 ≠ NameKind.cell) ->
    (names.map fun (n, k)=>if (k == NameKind.free && env.scope.kind == .function && env.kindOf n == some .cell) then (n, NameKind.cell) else (n, k)).lookup x = some k -> (k = .cell ∨ k = .free) -> (x, NameKind.free) ∈ names
  | [], _, _, _, h, _=>by simp at h
  | (n, kk) :: r, x, k, hc, h, hk=>by
    have ih:=@ZX env r x k (fun y hy=>hc y (List.mem_cons_of_mem _ hy))
    have hh:=hc (n, kk) List.mem_cons_self
    simp only [List.map_cons] at h
    by_cases hcond : (kk == NameKind.free && env.scope.kind == .function && env.kindOf n == some .cell) = true
    . rw [if_pos hcond, List.lookup_cons] at h
      have hfree : kk = NameKind.free:=by
        rw [Bool.and_eq_true, Bool.and_eq_true] at hcond
        simpa using hcond.1.1
      cases hx : x == n with
      | true=>
        have : x = n:=by simpa using hx
        subst this; subst hfree
        exact List.mem_cons_self
      | false=>rw [hx] at h; exact List.mem_cons_of_mem _ (ih h hk)
    . rw [if_neg hcond, List.lookup_cons] at h
      cases hx : x == n with
      | true=>
        rw [hx] at h
        have hkk : kk = k:=Option.some.inj h
        have : x = n:=by simpa using hx
        subst this; subst hkk
        rcases hk with z | z
        . exact absurd z hh
        . subst z; exact List.mem_cons_self
      | false=>rw [hx] at h; exact List.mem_cons_of_mem _ (ih h hk)
theorem QA {env : Env} : ∀ {names : List (Str × NameKind)} {x : Str}, names.lookup x = some .free ->
    let l:=(names.map fun (n, k)=>if (k == NameKind.free && env.scope.kind == .function && env.kindOf n == some .cell) then (n, NameKind.cell) else (n, k))
    l.lookup x = some .cell ∨ l.lookup x = some .free
  | [], _, h=>by simp at h
  | (n, kk) :: r, x, h=>by
    have ih:=@QA env r x
    simp only [List.map_cons]
    rw [List.lookup_cons] at h
    by_cases hcond : (kk == NameKind.free && env.scope.kind == .function && env.kindOf n == some .cell) = true
    . rw [if_pos hcond, List.lookup_cons]
      cases hx : x == n with
      | true=>exact .inl rfl
      | false=>rw [hx] at h; exact ih h
    . rw [if_neg hcond, List.lookup_cons]
      cases hx : x == n with
      | true=>rw [hx] at h; exact .inr h
      | false=>rw [hx] at h; exact ih h
noncomputable abbrev Cx.comp (X : Cx) (N : List Str) (scope : Scope) (cl : List (Str × Addr)) (C : Addr) (s : Shared) (H : Hp) (ex : List Addr) (E : Value -> Shared -> Prop) : Cx:=
  { X with N:=N, s₀:=s, H₀:=H, env:=compEnvC scope cl C X.env, outer:=X.stack, ex:=ex, fn:=fun _=>false, pn:=[], xe:=E }
noncomputable def PTs (X : Cx) (ifs : List Expr) (t : TT) : Prop:=
  ∀ (pins : List (Addr × Obj)) (s : Shared) (σ : St) (H : Hp) (Q : Bool -> Hp -> Prop), Inv X pins σ H s -> t σ H Q ->
    wpAny (model X.prog X.w) X.A (forIn ifs true fun c r=>if r = true then do let ok ← isTrue c X.env (eval c X.env); pure (ForInStep.yield ok) else pure (ForInStep.yield r)) (TP X pins σ Q) X.xe s
noncomputable def Vm : TT:=fun _ H Q=>Q true H
theorem Hy {σ : St} {H : Hp} {A B : Hp -> Prop} (h : A H) : Vm σ H fun c H5=>if c = true then A H5 else B H5:=by
  show if true = true then A H else B H
  rw [if_pos rfl]
  exact h
theorem Qy {X : Cx} : PTs X [] Vm:=fun _ _ _ H _ I h=>wpAny_tests_nil ⟨H, I, h⟩
theorem GT {X : Cx} {c : Expr} {t : TT} (h : PT X c t) : PTs X [c] t:=fun pins s σ H Q I hw=>wpAny_tests_one (h pins s σ H Q I hw)
noncomputable def Vd (n : Nat) (g : TG) : Prop:=∀ x σ H Q, g x σ H Q -> g x σ H fun σ2 H2=>Q σ2 H2 /\ σ2.length = σ.length /\ ∀ i, n <= i -> σ2[i]? = σ[i]?
theorem Z0 {n i : Nat} (h : i < n) : Vd n (YX i):=fun x σ H Q q=>⟨q, by simp, fun j hj=>by rw [List.getElem?_set_ne (by lia)]⟩
noncomputable def Z4 (n : Nat) (caps : List (Nat × Str)) (σ : St) : St:=List.replicate n none ++ caps.map fun p=>(σ[p.1]?).join
noncomputable def BN (g : TG) (tt : TT) (te : TE) (σ : St) (Q : VK) (J : It) (W : Nat -> Nat -> List V -> Hp -> Prop) : Prop:=
  ∀ i m ys H2, W i m ys H2 -> ys.length <= sizeLine /\
    ((J.stop i H2 /\ ∀ p, H2 p = none -> Q (.ref p) (upd H2 p (.lst ys))) ∨
    (J.go i H2 /\ ∃ N : List V -> Hp -> Prop, (∀ ys' H', N ys' H' -> ∃ m', m' < m /\ W (i + 1) m' ys' H') /\ ∀ x H3, J.yld i H2 x H3 -> g x σ H3 fun σ4 H4=>tt σ4 H4 fun c H5=>
      if c = true then te σ4 H5 fun v H6=>N (ys ++ [v]) H6 else N ys H5))
noncomputable def Cn (n : Nat) (caps : List (Nat × Str)) (g : TG) (tt : TT) (te : TE) (σ : St) (Q : VK) (J : It) (H1 : Hp) : Prop:=
  ∃ W : Nat -> Nat -> List V -> Hp -> Prop, (∃ m, W 0 m [] H1) /\ BN g tt te (Z4 n caps σ) Q J W
noncomputable def GA (n : Nat) (caps : List (Nat × Str)) (wi : TI) (g : TG) (tt : TT) (te : TE) : TE:=fun σ H Q=>wi σ H fun J H1=>Cn n caps g tt te σ Q J H1
noncomputable def Ud (sc scope : Scope) (N0 tns : List Str) (caps : List (Nat × Str)) : Bool:=
  scope.kind == .function && scope.names.all (fun y=>!(y.2 == .cell)) && scope.names.all (fun y=>!(y.2 == .local) || scope.names.lookup y.1 == some .local) &&
  scope.names.all (fun y=>!(y.2 == .free) || sc.names.lookup y.1 == some .cell) && caps.all (fun p=>N0[p.1]? == some p.2 && sc.names.lookup p.2 == some .cell && scope.names.lookup p.2 == some .free)
theorem KD {α : Type} {p : α} {P : Prop} (h : p ∈ ([] : List α)) : P:=nomatch h
noncomputable def He (M : Model) (A : Around) (elt tg : Expr) (ifs : List Expr) (acc : Value) (env : Env) (E : Value -> Shared -> Prop) (K : Shared -> Prop) (v : Value) (s : Shared) : Prop:=
  wpAny M A (assign tg env v) (fun _ s₂=>wpAny M A (forIn ifs true fun c r=>if r = true then do let ok ← isTrue c env (eval c env); pure (ForInStep.yield ok) else pure (ForInStep.yield r)) (fun ok s₃=>
    if ok = true then wpAny M A (eval elt env) (fun x s₄=>wpAny M A (call (.builtin "list.append") [acc, x]) (fun _ s₅=>K s₅) E s₄) E s₃ else K s₃) E s₂) E s
noncomputable def HY (M : Model) (A : Around) (elt tg : Expr) (ifs : List Expr) (it acc : Value) (env : Env) (E : Value -> Shared -> Prop) (Rn K : Shared -> Prop) (s : Shared) : Prop:=
  wpAny M A (pyNext it) (fun r s₁=>r = none /\ Rn s₁ ∨ ∃ v, r = some v /\ wpAny M A (letOwnedTupleGo tg it v) (fun _ s₁=>He M A elt tg ifs acc env E K v s₁) E s₁) E s
section
variable {prog : Program} {w : World} {A : Around} {R : Result -> Shared -> Prop} {s : Shared}
theorem VQ {elt target iter : Expr} {ifs : List Expr} {scope : Scope} {pos : Pos} {it acc : Value} {env : Env} {E : Value -> Shared -> Prop} (I : Nat -> Shared -> Prop) (hE : (notedBy (model prog w) A env fun e s'=>R (.error e) s') = E)
    (turn : ∀ n s, I n s -> HY (model prog w) A elt target ifs it acc env E (fun s=>R (.ok .next) s) (fun s=>∃ m, m < n /\ I m s) s) (n : Nat) (h : I n s) :
    codeAny (model prog w) A (.compLoop (.ListComp elt [⟨target, iter, ifs, 0⟩] scope pos) 0 it acc env) R s:=by
  subst hE
  refine codeAny_loop rfl I (fun n s hI=>?_) n h
  show wpAny _ A ((compTurn (.ListComp elt [⟨target, iter, ifs, 0⟩] scope pos) 0 it acc env).onRaise (fun x=>do noteFrame x env; theTreesLotGoes x)) _ _ s
  refine wpAny_noted ?_
  rw [compTurn_list]
  refine wpAny_bind (wpAny_standAt (wpAny_bind (thn (turn n s hI) fun r s₁ h₁=>?_)))
  rcases h₁ with ⟨rfl, h₁⟩ | ⟨v, rfl, h₁⟩
  . exact wpAny_pure h₁
  . refine wpAny_bind (thn h₁ fun _ s₁' h₁' => wpAny_bind (thn h₁' fun _ s₂ h₂ => wpAny_bind (thn h₂ fun ok s₃ h₃ => ?_)))
    cases ok with
    | false=>exact wpAny_pure ⟨rfl, h₃⟩
    | true=>exact wpAny_bind (wpAny_bind (thn h₃ fun x s₄ h₄=>wpAny_bind (thn h₄ fun _ s₅ h₅=>wpAny_pure (wpAny_pure ⟨rfl, h₅⟩))))
end
noncomputable def lob (its : List Value) (k : Nat) : Obj:={ cls:=.type "list", data:=.seq (List.toArray its) k }
structure CIn (Y : Cx) (tn : Nat -> Heap -> Prop) (fp : List Addr) (D : Addr) (σ : St) (i : Nat) (H : Hp) (o : Obj) (s : Shared) : Prop where
  I : Inv Y [] σ H s
  t : tn i s.heap
  f : ∀ b ∈ fp, H b = none
  l : s.heap.get? D = some o
  n : H D = none
inductive CI (Y : Cx) (tn : Nat -> Heap -> Prop) (fp : List Addr) (D : Addr) (σ : St) (W : Nat -> Nat -> List V -> Hp -> Prop) (m : Nat) (s : Shared) : Prop
  | mk (i : Nat) (H : Hp) (ys : List V) (its : List Value) (k : Nat) (c : CIn Y tn fp D σ i H (lob its k) s) (r : XR ys its) (w : W i m ys H)
structure CAt (Y : Cx) (fp : List Addr) (D : Addr) : Prop where
  calm : Y.calm = true
  pn : Y.pn = []
  ne : D ≠ Y.env.locals
  fs : D ∉ Y.fs
  sz : Y.s₀.heap.objs.size <= D
  cl : ∀ x c, Y.env.cells.lookup x = some c -> c ≠ D
  fpn : ∀ b ∈ fp, b ≠ D
  ok : ∀ b ∈ fp, ∀ H : Hp, H b = none -> U5 Y [] H b
section
variable {Y : Cx} {tn : Nat -> Heap -> Prop} {fp : List Addr} {D it : Addr} {σ : St} {tg elt iter : Expr} {ifs : List Expr} {J : It} {g : TG} {tt : TT} {te : TE} {n i : Nat} {H : Hp} {s : Shared} {o : Obj} {Kn : Shared -> Prop}
theorem CAt.pins (c : CAt Y fp D) (hn : ∀ b ∈ fp, H b = none) : ∀ b ∈ fp, U5 Y [(D, o)] H b:=fun b hb=>
  have z:=c.ok b hb H (hn b hb)
  ⟨z.1, z.2.1, z.2.2.1, z.2.2.2.1, z.2.2.2.2.1, fun p hp e=>by
    rw [c.pn] at hp
    cases List.mem_singleton.mp hp
    exact c.fpn b hb e.symm⟩
theorem Km (T : Turn Y.prog Y.w Y.K tg J fp it tn) {h5 : Heap} (t : tn i h5) (I : Inv Y ([(D, o)] ++ V6 fp h5) σ H s) : CIn Y tn fp D σ i H o s:=
  have p:=I.pin (D, o) (List.mem_append_right _ (.head _))
  have q : ∀ b ∈ fp, ∀ o', h5.get? b = some o' -> s.heap.get? b = some o' /\ H b = none:=fun b hb o' e=>have z:=I.pin (b, o') (List.mem_append_right _ (.tail _ (Qw hb e))); ⟨z.1, z.2.1⟩
  ⟨I.pins_of (pins':=[]) fun _ h=>KD h, T.keep _ _ _ t fun b hb o' e=>(q b hb o' e).1, fun b hb=>(T.obj _ _ t b hb).elim fun o' e=>(q b hb o' e.1).2, p.1, p.2.1⟩
theorem IN (T : Turn Y.prog Y.w Y.K tg J fp it tn) (a : CAt Y fp D) {its : List Value} {k : Nat} {v : Value} {E : Value -> Shared -> Prop} (c : CIn Y tn fp D σ i H (lob its k) s) (hz : its.length <= sizeLine)
    (hQ : ∀ k' s', CIn Y tn fp D σ i H (lob (its ++ [v]) k') s' -> Kn s') : wpAny (model Y.prog Y.w) Y.A (call (.builtin "list.append") [.ref D, v]) (fun _ s=>Kn s) E s:=by
  refine call_meets F.slot_list_append ⟨_, c.l, rfl⟩ F.entry_list_append (F.args_list_append_2 _ _) (PySem.list_append D (List.toArray its) k v hz) ⟨c.l, ?_⟩
  have q : ∃ k', PySem.IsL (s.heap.update D (Obj.mapSeq (·.push v))) D ((List.toArray its).push v) k':=⟨_, PySem.IsL.update c.l (·.push v)⟩
  rw [List.push_toArray] at q
  obtain ⟨k', q⟩:=q
  exact hQ k' _ ⟨c.I.turned (t':=s.toks) (h':=s.heap.update D (Obj.mapSeq (·.push v))) (it:=D) (fun b o hb' e=>(Heap.get?_update_other s.heap _ (Ne.symm hb')).trans e) c.n a.ne (.inr a.sz) a.cl (fun p hp=>by rw [a.pn] at hp; exact KD hp),
    T.keep _ _ _ c.t fun b hb o e=>(Heap.get?_update_other s.heap _ (Ne.symm (a.fpn b hb))).trans e, c.f, q, c.n⟩
theorem Dg {acc : Value} {pins : List (Addr × Obj)} {N : List V -> Hp -> Prop} {ys : List V} {x : V} {u : Value} (hg : PG Y tg g) (ht : PTs Y ifs tt) (he : PE Y elt te) (hG : Vd n g) (h0 : ∀ (j : Nat) v, σ[j]? = some (some v) -> n <= j)
    (I : Inv Y pins σ H s) (r : XV x u) (st : g x σ H fun σ4 H4=>tt σ4 H4 fun c H5=>if c = true then te σ4 H5 fun v H6=>N (ys ++ [v]) H6 else N ys H5)
    (hF : ∀ H7 s7, Inv Y pins σ H7 s7 -> N ys H7 -> Kn s7) (hT : ∀ H8 s8 y v, Inv Y pins σ H8 s8 -> XV y v -> N (ys ++ [y]) H8 -> wpAny (model Y.prog Y.w) Y.A (call (.builtin "list.append") [acc, v]) (fun _ s=>Kn s) Y.xe s8) :
    He (model Y.prog Y.w) Y.A elt tg ifs acc Y.env Y.xe Kn u s:=by
  refine thn (hg _ s _ H x u _ I r (hG _ _ _ _ st)) fun _ s6 ⟨σ6, H6, I6, q6, l6, k6⟩=>?_
  have wk : ∀ (j : Nat) v, σ[j]? = some (some v) -> σ6[j]? = some (some v):=fun j v e=>(k6 j (h0 j v e)).trans e
  refine thn (ht _ s6 σ6 H6 _ I6 q6) fun c s7 ⟨H7, I7, q7⟩=>?_
  cases c with
  | false=>exact hF _ _ (I7.weak l6.symm wk) q7
  | true=>exact thn (he _ s7 σ6 H7 _ I7 q7) fun v8 s8 ⟨y8, H8, I8, r8, n8⟩=>hT _ _ _ _ (I8.weak l6.symm wk) r8 n8
theorem KW {scope : Scope} {pos : Pos} {Q : V -> Hp -> Prop} {R : Result -> Shared -> Prop} (hE : (notedBy (model Y.prog Y.w) Y.A Y.env fun e s'=>R (.error e) s') = Y.xe)
    (T : Turn Y.prog Y.w Y.K tg J fp it tn) (hG : Vd n g) (hg : PG Y tg g) (ht : PTs Y ifs tt) (he : PE Y elt te) (a : CAt Y fp D) (h0 : ∀ (j : Nat) v, σ[j]? = some (some v) -> n <= j)
    {W : Nat -> Nat -> List V -> Hp -> Prop} (turn : BN g tt te σ Q J W)
    (hEnd : ∀ ys its k H3 s4, Inv Y [(D, lob its k)] σ H3 s4 -> XR ys its -> ys.length <= sizeLine -> Q (.ref D) (upd H3 D (.lst ys)) -> R (.ok .next) s4) {m0 : Nat} (hi : CI Y tn fp D σ W m0 s) :
    codeAny (model Y.prog Y.w) Y.A (.compLoop (.ListComp elt [⟨tg, iter, ifs, 0⟩] scope pos) 0 (.ref it) (.ref D) Y.env) R s:=by
  refine VQ (CI Y tn fp D σ W) hE (fun m s3 c=>?_) m0 hi
  cases c with
  | mk i H3 ys its k c rv w3=>
  have I3 : Inv Y [(D, lob its k)] σ H3 s3:=c.I.pins_of fun p hp=>List.mem_singleton.mp hp ▸ ⟨c.l, c.n, a.ne, a.fs, fun _ z=>by cases z⟩
  have t:=turn i m ys H3 w3
  refine t.2.elim (fun q=>?_) fun q=>?_
  . exact thn (T.done Y rfl rfl rfl a.calm i _ s3 _ H3 Y.xe I3 (a.pins c.f) c.t q.1) fun r s4 h=>.inl ⟨h.1, hEnd ys its k H3 s4 h.2 rv t.1 (q.2 D c.n)⟩
  . refine q.2.elim fun NN h => ?_
    refine thn (T.item Y rfl rfl rfl a.calm i _ s3 _ H3 Y.xe I3 (a.pins c.f) c.t q.1) fun r s4 h4=>.inr (h4.elim fun u h4=>⟨u, h4.1, thn h4.2 fun _ s5 h5=>h5.elim fun x h5=>h5.elim fun H5 h5=>?_⟩)
    exact Dg hg ht he hG h0 (h5.1.pinned (a.pins h5.2.2.2.2) (T.obj _ _ h5.2.2.2.1)) h5.2.1 (h.2 x H5 h5.2.2.1)
      (fun H7 s7 I7 q7=>(h.1 _ _ q7).elim fun m' z=>⟨m', z.1, .mk (i + 1) H7 ys its k (Km T h5.2.2.2.1 I7) rv z.2⟩)
      fun H8 s8 y v I8 r8 q8=>(h.1 _ _ q8).elim fun m' z=>IN T a (Km T h5.2.2.2.1 I8) (rv.length ▸ t.1) fun k' s' c'=>⟨m', z.1, .mk (i + 1) H8 (ys ++ [y]) (its ++ [v]) k' c' (rv.append (.cons r8 .nil)) z.2⟩
end
section
variable {X : Cx} {elt tg iter : Expr} {ifs : List Expr} {scope sc : Scope} {pos : Pos} {n : Nat} {tns : List Str} {caps : List (Nat × Str)} {wi : TI} {g : TG} {tt : TT} {te : TE}
structure CompEnd (X : Cx) (pins : List (Addr × Obj)) (σ : St) (H3 : Hp) (D C : Addr) (ys : List V) (s' : Shared) : Prop where
  inv : Inv X pins σ (upd H3 D (.lst ys)) s'
  fresh : H3 D = none
  fp : U5 X pins (upd H3 D (.lst ys)) C
  ns : ∃ m, s'.heap.Ns C m
theorem DZ {pins : List (Addr × Obj)} {σ σ' : St} {H H3 : Hp} {s s4 : Shared} {D C : Addr} {fp : List Addr} {its : List Value} {k : Nat} {ys : List V} {Y : Cx} (I : Inv X pins σ H s) (hf : ∀ b ∈ fp, U5 X pins H b) (hD : s.heap.objs.size <= D) (hDlt : D < C)
    (I4 : Inv Y [(D, lob its k)] σ' H3 s4) (hos : s4.os = s.os) (u : Un (frs X.stack) fp H H3 s.heap s4.heap) (hok : HOk X.prog X.w H3 s4.heap) (hC : Y.env.locals = C) (rv : XR ys its) (hz : ys.length <= sizeLine) : CompEnd X pins σ H3 D C ys s4:=by
  subst hC
  have p:=I4.pin (D, lob its k) (List.mem_append_right _ (.head _))
  have hDn : H3 D = none:=p.2.1
  have up : ∀ {b : Addr} {o : HO}, H3 b = some o -> upd H3 D (.lst ys) b = some o:=fun e=>(XA (XJ e hDn)).trans e
  refine ⟨I.call' (ch:=fp) hos ⟨u.keep, u.slot, fun b o e nn hx=>(XA (Nat.ne_of_lt (Nat.lt_of_lt_of_le (Heap.lt_size e) hD))).trans (u.free b o e nn hx), u.there, fun b xs e=>up (u.tups b xs e), fun b o xs e=>up (u.frzs b o xs e), fun b ps e=>(u.tbls b ps e).elim fun more z=>⟨more, up z⟩⟩ (fun a o e=>?_) I4.bare fun b hb=>have z:=hf b hb; ⟨z.2.2.2.1, z.2.1, z.2.2.2.2.1, z.2.2.2.2.2⟩, hDn, I.fpOk (Nat.le_trans hD (Nat.le_of_lt hDlt)) ((XA (Nat.ne_of_gt hDlt)).trans I4.free), I4.loc.elim fun m z=>⟨m, z.1⟩⟩
  by_cases ha : a = D
  . subst ha
    rw [Yu] at e; cases e
    exact ⟨hz, its, k, rv, p.1⟩
  . rw [XA ha] at e
    exact (hok a o e).stay (fun b u _ q=>q) (fun b q=>up q) fun b xs q=>up q
noncomputable def IQ (X : Cx) (elt tg iter : Expr) (ifs : List Expr) (scope : Scope) (pos : Pos) (it : Value) (cl : List (Str × Addr)) (RR : Value -> Addr -> Result -> Shared -> Prop) (E : Value -> Shared -> Prop) (s : Shared) : Prop:=
  wpAny (model X.prog X.w) X.A (newList []) (fun acc s₃=>wpAny (model X.prog X.w) X.A (newFunctionEnv scope X.env.globals cl [] X.env.qual none .none (some X.env)) (fun cenv s₄=>
      codeAny (model X.prog X.w) X.A (.compStart (.ListComp elt [⟨tg, iter, ifs, 0⟩] scope pos) 0 it acc { cenv with scope:=relabel scope X.env }) (RR acc cenv.locals) s₄) E s₃) E s
theorem Ua {σ : St} {i : Nat} {v : V} (e : (Z4 n caps σ)[i]? = some (some v)) : n <= i /\ ∃ p, caps[i - n]? = some p /\ σ[p.1]? = some (some v):=by
  unfold Z4 at e
  by_cases h : i < n
  . rw [List.getElem?_append_left (by simpa using h), List.getElem?_replicate, if_pos h] at e
    cases e
  . have hi := Nat.le_of_not_lt h
    rw [List.getElem?_append_right (by simpa using hi), List.length_replicate, List.getElem?_map] at e
    refine ⟨hi, ?_⟩
    cases hcp : caps[i - n]? with
    | none=>rw [hcp] at e; cases e
    | some p=>
      rw [hcp] at e
      exact ⟨p, rfl, Option.join_eq_some_iff.mp (Option.some.inj e)⟩
structure COk (X : Cx) (scope : Scope) (caps : List (Nat × Str)) : Prop where
  kind : scope.kind = .function
  cell : ∀ y ∈ scope.names, y.2 ≠ NameKind.cell
  loc : ∀ y ∈ scope.names, y.2 = .local -> scope.names.lookup y.1 = some .local
  free : ∀ y ∈ scope.names, y.2 = .free -> X.env.scope.names.lookup y.1 = some .cell
  caps : ∀ p ∈ caps, (X.N[p.1]? = some p.2 /\ X.env.scope.names.lookup p.2 = some .cell) /\ scope.names.lookup p.2 = some .free
theorem COk.of {N0 : List Str} (hsc : X.env.scope = sc) (hN0 : X.N = N0) (ok : Ud sc scope N0 tns caps = true) : COk X scope caps:=by
  subst hsc
  subst hN0
  unfold Ud at ok
  simp only [Bool.and_eq_true, List.all_eq_true, beq_iff_eq, Bool.or_eq_true, Bool.not_eq_true', beq_eq_false_iff_ne] at ok
  exact ⟨ok.1.1.1.1, ok.1.1.1.2, fun y hy e=>(ok.1.1.2 y hy).resolve_left (absurd e), fun y hy e=>(ok.1.2 y hy).resolve_left (absurd e), ok.2⟩
section
variable {pins : List (Addr × Obj)} {σ : St} {H : Hp} {s : Shared} {fp : List Addr} {cl : List (Str × Addr)} {C : Addr} {E : Value -> Shared -> Prop} {N : List Str} {h₁ : Heap}
theorem BF (ok : COk X scope caps) (I : Inv X pins σ H s) (hf : ∀ b ∈ fp, U5 X pins H b) (hlt : ∀ b ∈ fp, b < s.heap.objs.size)
    (hsub : ∀ x c, cl.lookup x = some c -> X.env.cells.lookup x = some c) (hall : ∀ x, (x, NameKind.free) ∈ scope.names -> ∃ c, cl.lookup x = some c) (hC : s.heap.objs.size < C) : (X.comp N scope cl C s H fp E).Ok:=
  ⟨I.ok.mod, ok.kind, I.ok.glob, I.ok.blt, Nat.le_of_lt hC, fun x y c h1 h2=>I.ok.inj x y c (hsub x c h1) (hsub y c h2), fun x hx=>hall x (hx.elim (fun z=>ZX ok.cell z (.inl rfl)) fun z=>ZX ok.cell z (.inr rfl)), (fun x c hx=>by cases hx), I.ok.hd, I.ok.frames, .inl rfl,
    fun b hb=>⟨Nat.ne_of_lt (Nat.lt_trans (hlt b hb) hC), fun x c e=>(hf b hb).2.2.2.2.1 x c (hsub x c e)⟩, I.bs, Nat.le_trans I.ok.bsz I.sz, fun b o e hb=>(hf b hb).2.2.2.1.elim (I.ok.noex b o e) fun z=>absurd (Nat.lt_of_lt_of_le (Heap.lt_size e) (Nat.le_trans I.ok.bsz z)) (Nat.lt_irrefl _),
    fun b hb hz=>(List.mem_cons.mp (I.stkSub b hz)).elim (hf b hb).2.1 (hf b hb).2.2.1, I.stack, I.stkFree⟩
theorem DI (okc : COk X scope caps) (hn : tns.length = n) (ok : (X.comp (tns ++ caps.map (·.2)) scope cl C s H fp E).Ok) (I : Inv X pins σ H s)
    (hsub : ∀ x c, cl.lookup x = some c -> X.env.cells.lookup x = some c) (hall : ∀ x, (x, NameKind.free) ∈ scope.names -> ∃ c, cl.lookup x = some c) (hC : s.heap.objs.size < C) (hns : h₁.Ns C fun _=>none) (old : ∀ b o, s.heap.get? b = some o -> h₁.get? b = some o) {tk : Nat} :
    Inv (X.comp (tns ++ caps.map (·.2)) scope cl C s H fp E) [] (Z4 n caps σ) H { s with heap:=h₁, toks:=tk }:=by
  refine ⟨ok, rfl, I.bare, Un.kept old, ⟨_, hns, fun i x v e1 e2 _=>?_⟩, fun x c e=>(I.cell x c (hsub x c e)).elim fun v z=>z.elim fun o z=>⟨v, o, old _ _ z.1, z.2⟩, I.hok.fresh (Nat.le_of_lt hC), fun x c e=>I.freeC x c (hsub x c e), fun p hp=>KD (α:=Addr × Obj) hp, I.hok.kept old, by simp [Z4, hn]⟩
  obtain ⟨hi, p, hp, hσ⟩:=Ua e2
  have e1' : (tns ++ caps.map (·.2))[i]? = some x:=e1
  rw [List.getElem?_append_right (hn ▸ hi), hn, List.getElem?_map, hp] at e1'
  cases Option.some.inj e1'
  have p5:=okc.caps p (List.mem_of_getElem? hp)
  obtain ⟨m, hm, hl⟩:=I.loc
  obtain ⟨u, r, l⟩:=hl p.1 p.2 v p5.1.1 hσ (.inr (.inl p5.1.2))
  refine ⟨u, r, .inr ?_⟩
  rcases l with ⟨k, _⟩ | ⟨k, c, e, z⟩
  . cases p5.1.2.symm.trans k
  . obtain ⟨c', e'⟩ := hall p.2 (PySem.mem_of_lookup p5.2)
    cases e.symm.trans (hsub _ _ e')
    exact ⟨QA (env:=X.env) p5.2, c, e', z.elim fun o z=>⟨o, old _ _ z.1, z.2⟩⟩
variable {J : It} {it : Addr} {tn : Nat -> Heap -> Prop} {Q : V -> Hp -> Prop} {RR : Value -> Addr -> Result -> Shared -> Prop} {W : Nat -> Nat -> List V -> Hp -> Prop} {m0 : Nat}
theorem Ba (ok : COk X scope caps) (hc : X.calm = true) (hn : tns.length = n) (hG : Vd n g)
    (hb : ∀ cl C s H ex E, PG (X.comp (tns ++ caps.map (·.2)) scope cl C s H ex E) tg g /\ PTs (X.comp (tns ++ caps.map (·.2)) scope cl C s H ex E) ifs tt /\ PE (X.comp (tns ++ caps.map (·.2)) scope cl C s H ex E) elt te)
    (I : Inv X pins σ H s) (T : Turn X.prog X.w X.K tg J fp it tn) (t0 : tn 0 s.heap) (hf : ∀ b ∈ fp, U5 X pins H b)
    (hsub : ∀ x c, cl.lookup x = some c -> X.env.cells.lookup x = some c) (hall : ∀ x, (x, NameKind.free) ∈ scope.names -> ∃ c, cl.lookup x = some c)
    (w0 : W 0 m0 [] H) (turn : BN g tt te (Z4 n caps σ) Q J W)
    (hRR : ∀ D C ys H3 s', CompEnd X pins σ H3 D C ys s' -> Q (.ref D) (upd H3 D (.lst ys)) -> RR (.ref D) C (.ok .next) s')
    (hC : s.heap.objs.size < C) (hns : h₁.Ns C fun _=>none) (old : ∀ b o, s.heap.get? b = some o -> h₁.get? b = some o) (hacc : h₁.get? s.heap.objs.size = some (lob [] 0)) {tk : Nat} :
    codeAny (model X.prog X.w) X.A (.compStart (.ListComp elt [⟨tg, iter, ifs, 0⟩] scope pos) 0 (.ref it) (.ref s.heap.objs.size) (compEnvC scope cl C X.env)) (RR (.ref s.heap.objs.size) C) { s with heap:=h₁, toks:=tk }:=by
  have hlt : ∀ b ∈ fp, b < s.heap.objs.size:=fun b hb=>(T.obj _ _ t0 b hb).elim fun o e=>Heap.lt_size e.1
  have okY : ∀ E, (X.comp (tns ++ caps.map (·.2)) scope cl C s H fp E).Ok:=fun E=>BF ok I hf hlt hsub hall hC
  have t1 : tn 0 h₁:=T.keep _ _ _ t0 fun b _ o e=>old b o e
  have loop : ∀ tk, codeAny (model X.prog X.w) X.A (.compLoop (.ListComp elt [⟨tg, iter, ifs, 0⟩] scope pos) 0 (.ref it) (.ref s.heap.objs.size) (compEnvC scope cl C X.env)) (RR (.ref s.heap.objs.size) C) { s with heap:=h₁, toks:=tk }:=fun tk=>
    have z:=hb cl C s H fp (notedBy (model X.prog X.w) X.A (compEnvC scope cl C X.env) fun e s'=>RR (.ref s.heap.objs.size) C (.error e) s')
    KW (Y:=X.comp (tns ++ caps.map (·.2)) scope cl C s H fp _) rfl T hG z.1 z.2.1 z.2.2
      ⟨hc, rfl, Nat.ne_of_lt hC, fun hz=>(I.stack.mem hz).2.elim fun o ho=>absurd (Heap.lt_size ho.1) (Nat.lt_irrefl _), Nat.le_refl _, fun x c e=>(I.cell x c (hsub x c e)).elim fun v z=>Nat.ne_of_lt z.lt, fun b hb=>Nat.ne_of_lt (hlt b hb),
        fun b hb H' h'=>⟨h', Nat.ne_of_lt (Nat.lt_trans (hlt b hb) hC), (okY fun _ _=>True).exfs b hb, .inl hb, fun x c e=>(hf b hb).2.2.2.2.1 x c (hsub x c e), fun p hp=>KD (α:=Addr × Obj) hp⟩⟩
      (fun j v e=>(Ua e).1) turn (fun ys its k H3 s4 I4 rv hz q=>hRR _ C ys H3 s4 (DZ I hf (Nat.le_refl _) hC I4 I4.os I4.base I4.hok rfl rv hz) q)
      (.mk 0 H [] [] 0 ⟨DI ok hn (okY _) I hsub hall hC hns old, t1, fun b hb=>(hf b hb).1, hacc, I.hok.fresh (Nat.le_refl _)⟩ .nil w0)
  exact codeAny_compStart_list (loop _) (T.self _ 0 _ _ _ t1 (loop _))
theorem JW (ok : COk X scope caps) (hc : X.calm = true) (hn : tns.length = n) (hG : Vd n g)
    (hb : ∀ cl C s H ex E, PG (X.comp (tns ++ caps.map (·.2)) scope cl C s H ex E) tg g /\ PTs (X.comp (tns ++ caps.map (·.2)) scope cl C s H ex E) ifs tt /\ PE (X.comp (tns ++ caps.map (·.2)) scope cl C s H ex E) elt te)
    {itv : Value} (h : PIE X pins σ tg (fun J H1=>Cn n caps g tt te σ Q J H1) itv s)
    (hsub : ∀ x c, cl.lookup x = some c -> X.env.cells.lookup x = some c) (hall : ∀ x, (x, NameKind.free) ∈ scope.names -> ∃ c, cl.lookup x = some c)
    (hRR : ∀ D C ys H3 s', CompEnd X pins σ H3 D C ys s' -> Q (.ref D) (upd H3 D (.lst ys)) -> RR (.ref D) C (.ok .next) s') :
    IQ X elt tg iter ifs scope pos itv cl RR E s:=by
  obtain ⟨it, fp, tn, J, H', rfl, I, T, t0, hf, W, ⟨m0, w0⟩, turn⟩:=h
  refine wpAny_newObj_type (wpAny_newFunctionEnv ok.cell (by intro y hy; simp at hy) (fun h₁ hns₁ hsb₁=>?_) ok.kind)
  have hs : ∀ o, (s.heap.push o).objs.size = s.heap.objs.size + 1:=fun o=>Heap.size_push ..
  exact Ba ok hc hn hG hb I T t0 hf hsub hall w0 turn hRR (Nat.lt_of_lt_of_eq (Nat.lt_succ_self _) (hs _).symm) hns₁
    (fun b o e=>hsb₁.extBut b o (Nat.ne_of_lt (Nat.lt_trans (Heap.lt_size e) (Nat.lt_of_lt_of_eq (Nat.lt_succ_self _) (hs _).symm))) (Heap.get?_push_of_some _ (Heap.get?_push_of_some _ e)))
    (hsb₁.extBut _ _ (Nat.ne_of_lt (Nat.lt_of_lt_of_eq (Nat.lt_succ_self _) (hs _).symm)) (Heap.get?_push_of_some _ (Heap.get?_push_size _ rfl)))
end
theorem BH (sc : Scope) (N0 : List Str) (tns : List Str) (caps : List (Nat × Str)) (hc : X.calm = true) (hi : PI X tg iter wi) (hG : Vd tns.length g)
    (hb : ∀ cl C s H ex E, PG (X.comp (tns ++ caps.map (·.2)) scope cl C s H ex E) tg g /\ PTs (X.comp (tns ++ caps.map (·.2)) scope cl C s H ex E) ifs tt /\ PE (X.comp (tns ++ caps.map (·.2)) scope cl C s H ex E) elt te)
    (hsc : X.env.scope = sc:=by rfl) (hN0 : X.N = N0:=by rfl) (ok : Ud sc scope N0 tns caps = true:=by decide +kernel)
    (hs : ∀ x, foldedSetIterable iter X.env x = pure x:=by intro _; rfl) :
    PE X (.ListComp elt [⟨tg, iter, ifs, 0⟩] scope pos) (GA tns.length caps wi g tt te):=by
  intro pins s σ H Q I h
  have okc:=COk.of hsc hN0 ok
  obtain ⟨cl, ecl, hsub, hall⟩:=Fi (scope:=scope) (env:=X.env) fun x hx hfr=>I.ok.has x.1 (.inl (okc.free x hx hfr))
  rw [eval_ListComp]
  exact wpAny_comprehension_free (use:=none) rfl hs ecl okc.kind okc.loc (thn (hi pins s σ H _ I h) fun xv s₁ h₁=>thn h₁ fun itv s₂ h₂=>
    JW (RR:=fun acc C=>compPost (model X.prog X.w) X.A X.xe none (EP X pins σ Q) acc C) okc hc rfl hG hb h₂ hsub hall fun D C ys H3 s' ce q=>ce.ns.elim fun mm hns=>
      ⟨mm, hns, fun h' hs'=>⟨.ref D, _, ce.inv.turned (t':=s'.toks) (fun b o hb' e=>(hs'.extBut b o hb' e)) ce.fp.1 ce.fp.2.1 ce.fp.2.2.2.1 ce.fp.2.2.2.2.1 ce.fp.2.2.2.2.2, rfl, q⟩⟩)
theorem Fj {x : Str} {px spos : Pos} (j : Nat) (sc : Scope) (N0 : List Str) (tns : List Str) (caps : List (Nat × Str)) (hc : X.calm = true) (hN : X.N.Nodup) (hj : X.N[j]? = some x) (hx : X.env.scope.names.lookup x = some .local) (hi : PI X tg iter wi) (hG : Vd tns.length g)
    (hb : ∀ cl C s H ex E, PG (X.comp (tns ++ caps.map (·.2)) scope cl C s H ex E) tg g /\ PTs (X.comp (tns ++ caps.map (·.2)) scope cl C s H ex E) ifs tt /\ PE (X.comp (tns ++ caps.map (·.2)) scope cl C s H ex E) elt te)
    (hsc : X.env.scope = sc:=by rfl) (hN0 : X.N = N0:=by rfl) (ok : Ud sc scope N0 tns caps = true:=by decide +kernel)
    (hsw : swapsWith (.ListComp elt [⟨tg, iter, ifs, 0⟩] scope pos) (some (.Name x px)) spos.line X.env = pure true:=by rfl)
    (hs : ∀ x, foldedSetIterable iter X.env x = pure x:=by intro _; rfl) :
    PS X (.Assign [.Name x px] (.ListComp elt [⟨tg, iter, ifs, 0⟩] scope pos) spos) (By (GA tns.length caps wi g tt te) (YX j)):=by
  intro pins s σ H D I h
  have okc:=COk.of hsc hN0 ok
  obtain ⟨cl, ecl, hsub, hall⟩:=Fi (scope:=scope) (env:=X.env) fun x hx hfr=>I.ok.has x.1 (.inl (okc.free x hx hfr))
  rw [exec_Assign_Name_used _ _ _ _ hsw]
  refine wpAny_bind (wpAny_standAt (wpAny_bind ?_))
  show wpAny _ _ (do let _ ← comprehension (.ListComp elt [⟨tg, iter, ifs, 0⟩] scope pos) scope X.env _ (newList []) false (eval iter X.env) (some (assign (.Name x px) X.env))) _ _ s
  refine wpAny_bind (thn (wpAny_comprehension_free (use:=some (assign (.Name x px) X.env)) (Q:=fun _ s'=>SP X pins D .next s') rfl hs ecl okc.kind okc.loc
    (thn (hi pins s σ H _ I h) fun xv s₁ h₁=>thn h₁ fun itv s₂ h₂=>?_)) fun _ s' hq=>wpAny_pure (wpAny_pure hq))
  refine JW (Q:=fun v H1=>YX j v σ H1 D.nx) (RR:=fun acc C=>compPost (model X.prog X.w) X.A X.xe (some (assign (.Name x px) X.env)) (fun _ s'=>SP X pins D .next s') acc C) okc hc rfl hG hb h₂ hsub hall ?_
  intro DD C ys H3 s' ce q
  obtain ⟨mm, hns⟩:=ce.ns
  obtain ⟨c0, c1, c2, c3, c4, c5⟩:=ce.fp
  show wpAny _ _ (assign (.Name x px) X.env (.ref DD)) _ _ _
  refine wpAny_assign_Name (V9 ce.inv hN hj (.inl hx) (v:=.ref DD) rfl (fun s2 I2 chg=>?_) (.inr hx))
  obtain ⟨c, hsb, hcc⟩:=chg
  have hCc : C ≠ c:=by
    rcases hcc with z | z
    . rw [z]; exact c1
    . exact fun e=>c4 x c z e.symm
  refine ⟨mm, ?_, fun h' hs'=>?_⟩
  . obtain ⟨o, es, ep, ho, r⟩ := hns
    exact ⟨o, es, ep, (hsb.2 C hCc).trans ho, r⟩
  . exact ⟨_, _, I2.turned (t':=s2.toks) (fun b o hb' e=>(hs'.extBut b o hb' e)) c0 c1 c3 c4 c5, q⟩
end
section
variable {K : PySem.W.Frag} {a : Addr} {xs : List V} {n : Nat} {caps : List (Nat × Str)} {g : TG} {tt : TT} {te : TE} {σ : St} {H : Hp} {Q : V -> Hp -> Prop}
end
section
variable {X : Cx} {pos : Pos}
noncomputable def GE (K : PySem.W.Frag) : List V -> Hp -> VK -> Prop:=fun xs H Q=>∃ p ys, xs = [.ref p] /\ (SqL K H p ys ∨ SqT K H p ys) /\ ∀ l, H l = none -> Q (.ref l) (upd H l (.lst ys))
noncomputable def Fs (K : PySem.W.Frag) : List V -> Hp -> VK -> Prop:=fun xs H Q=>∃ p ys, xs = [.ref p] /\ (SqL K H p ys ∨ SqT K H p ys) /\ Q (.int ys.length) H
theorem YT (K : PySem.W.Frag) (h : X.K = K) : ZQ X (.type "list") (GE K):=by subst h; exact Uh
theorem Xs (K : PySem.W.Frag) (h : X.K = K) : ZQ X (.builtin "len") (Fs K):=by subst h; exact Uj
theorem Xk (K : PySem.W.Frag) (h : X.K = K) : IxR X (Ej K):=by subst h; exact B2
theorem Y4 (K : PySem.W.Frag) (h : X.K = K) : IxR X (Eh K):=by subst h; exact E5
theorem QP (K : PySem.W.Frag) (h : X.K = K) : SlR X (HI K):=by subst h; exact C5
theorem Bf (K : PySem.W.Frag) (h : X.K = K) {es : List Expr} {k : Nat} {t : TGs} {n : Nat} (hc : X.calm = true) (hh : PGs X es t)
    (hn : (assignEach es X.env).length = n:=by rfl) (hst : (assignEach es X.env).findIdx? (·.1) = none:=by rfl) : PG X (.Tuple es k pos) (B0 K n t):=by subst h; exact V3 hc hh hn hst
end
end L2
namespace L2
open PySem PySem.Spec PyProof.Rows
structure Fn (P : Program) (w : World) (K : PySem.W.Frag) (mg : Str -> Option Value) (base : Heap) (k : Nat) (x : Str) (ps : List Str) (sp : Sp) : Prop where
  ex : ∃ f fd, FnOk P w K mg base CX0 k f fd ps sp /\ V5 K fd ps [] /\ PySem.W.keepIn K (.ref f) = true /\ mg x = some (.ref f)
section
variable {X : Cx} {k j : Nat} {x : Str} {ps : List Str} {sp : Sp} {e : Expr} {es : List Expr} {t : TA} {p pos : Pos}
theorem Yy (G : Fn X.prog X.w X.K X.mg X.base k x ps sp) (hr : Room j X.A) (hj : k <= j) (ha : PA X (e :: es) t) (hg : Gl X x:=by rfl) (hdb : (x == ("__debug__" : Str)) = false:=by decide)
    (he : starEach (e :: es) X.env = (false, eval e X.env) :: starEach es X.env:=by rfl) (hpl : (backTo pos (starEach es X.env)).any (·.1) = false:=by rfl) :
    PE X (.Call (.Name x p) (e :: es) [] pos) (VA sp [] E0 t):=by
  obtain ⟨f, fd, F, b, kp, m⟩:=G.ex
  exact GN F (hr.mono hj) hg m kp b .nil Ih ha hdb he hpl
end
noncomputable def Def (K : PySem.W.Frag) (mg : Str -> Option Value) (x : Str) (st : Stmt) (ps : List Str) : Prop:=∃ f fd, Fun K x x st f fd /\ V5 K fd ps [] /\ mg x = some (.ref f)
theorem Zg {P : Program} {w : World} {K : PySem.W.Frag} {mg : Str -> Option Value} {base : Heap} {x : Str} {st : Stmt} {N ps : List Str} {k : Nat} {sp : Sp} (D : Def K mg x st ps) (S : FnScope N ps (Xj st)) (len : ∀ vs H Q E, sp vs H Q E -> vs.length = ps.length)
    (hbody : ∀ (f : Addr) (cdv : Value) (A : Around) (outer : List Env) (s : Shared) (H : Hp) (vs : List V) (Q : VK) (E : XK), Room k (A.deeper (envOfC x (Xj st) s.heap.objs.size f cdv)) -> sp vs H Q E ->
      ∃ t, PSs (K4 CX0 P w K mg base N x (Xj st) f cdv A outer s H E).nox (Ye st) t /\ t { nx:=fun _ H'=>Q .non H', rt:=Q } (JC N vs) H) : Fn P w K mg base (k + 1) x ps sp:=by
  obtain ⟨f, fd, F, b, m⟩:=D
  exact ⟨f, fd, F.ok S len (hbody f), b, F.kp, m⟩
theorem Gx {a d c : Nat} (h : d <= 8) (hu : a + 8 < c) : a + d < c:=by omega
theorem XE {H : Hp} {p : Addr} (h : H p = none) (o : HO) : Xm H (upd H p o):=fun b u q=>by rw [XA (XJ q h)]; exact q
theorem Xm.own {H H2 : Hp} {p : Addr} (s : Xm H H2) (h : H p = none) (o : HO) : Xm H (upd H2 p o):=fun b u q=>by rw [XA (XJ q h)]; exact s b u q
theorem Xm.new {H H2 : Hp} {p : Addr} (s : Xm H H2) (h : H2 p = none) (o : HO) : Xm H (upd H2 p o):=s.trans (XE h o)
theorem Xm.seqT {K : PySem.W.Frag} {H H' : Hp} {a : Addr} {xs : List V} (e : Xm H H') (h : SqT K H a xs) : SqT K H' a xs:=by
  rcases h with (h | ⟨o, h⟩) | h
  . exact .inl (.inl (e _ _ h))
  . exact .inl (.inr ⟨o, e _ _ h⟩)
  . exact .inr h
theorem hu8 {A : Around} {k : Nat} (hr : Room k A) : A.units + 8 < cLine:=Nat.lt_of_le_of_lt (Nat.add_le_add_left (by decide : 8 <= 64) _) hr.units
noncomputable abbrev Enc (α : Type):=PySem.W.Frag -> Hp -> V -> α -> Prop
noncomputable def Xa : Enc Int:=fun _ _ v i=>v = .int i
noncomputable def rL {α : Type} (r : Enc α) : Enc (List α):=fun K H v as=>∃ a xs, v = .ref a /\ SqL K H a xs /\ Paired (r K H) xs as
noncomputable def rT2 {α β : Type} (r : Enc α) (q : Enc β) : Enc (α × β):=fun K H v p=>∃ a x y, v = .ref a /\ SqT K H a [x, y] /\ r K H x p.1 /\ q K H y p.2
theorem Paired.getL {α β : Type} {F : α -> β -> Prop} : ∀ {l : List α} {m : List β} {i : Nat} {a : α}, Paired F l m -> l[i]? = some a -> ∃ b, m[i]? = some b /\ F a b
  | _, _, _, _, .nil, e=>by simp at e
  | _, _, 0, _, .cons r _, e=>by simp at e; subst e; exact ⟨_, rfl, r⟩
  | _, _, i + 1, a, .cons _ t, e=>by
    obtain ⟨b, h1, h2⟩:=Paired.getL (i:=i) (a:=a) t (by simpa using e)
    exact ⟨b, by simpa using h1, h2⟩
theorem Paired.getR {α β : Type} {F : α -> β -> Prop} : ∀ {l : List α} {m : List β} {i : Nat} {b : β}, Paired F l m -> m[i]? = some b -> ∃ a, l[i]? = some a /\ F a b
  | _, _, _, _, .nil, e=>by simp at e
  | _, _, 0, _, .cons r _, e=>by simp at e; subst e; exact ⟨_, rfl, r⟩
  | _, _, i + 1, b, .cons _ t, e=>by
    obtain ⟨a, h1, h2⟩:=Paired.getR (i:=i) (b:=b) t (by simpa using e)
    exact ⟨a, by simpa using h1, h2⟩
theorem Paired.len {α β : Type} {F : α -> β -> Prop} {l : List α} {m : List β} (h : Paired F l m) : l.length = m.length:=Paired.length h
theorem Paired.app {α β : Type} {F : α -> β -> Prop} : ∀ {l l' : List α} {m m' : List β}, Paired F l m -> Paired F l' m' -> Paired F (l ++ l') (m ++ m')
  | _, _, _, _, .nil, h=>h
  | _, _, _, _, .cons r t, h=>.cons r (Paired.app t h)
theorem US (ns : List Int) : ∀ {K : PySem.W.Frag} {H : Hp}, Paired (Xa K H) (ns.map V.int) ns:=by
  intro K H
  induction ns with
  | nil=>exact .nil
  | cons n r ih=>exact .cons rfl ih
theorem ZV : ∀ {xs : List V} {ns : List Int} {K : PySem.W.Frag} {H : Hp}, Paired (Xa K H) xs ns -> xs = ns.map V.int
  | _, _, _, _, .nil=>rfl
  | _, _, _, _, .cons r t=>by
    have r' : _ = V.int _:=r
    rw [r', ZV t]; rfl
structure EqOk {α : Type} [DecidableEq α] (r : Enc α) (d : Nat) : Prop where
  uniq : ∀ {X : Cx} {pins : List (Addr × Obj)} {σ : St} {H : Hp} {s : Shared} {x : V} {a b : α}, Inv X pins σ H s -> r X.K H x a -> r X.K H x b -> a = b
  eq : ∀ {X : Cx} {pins : List (Addr × Obj)} {σ : St} {H : Hp} {s : Shared} {x y : V} {v u : Value} {a b : α} {A : Around}, Inv X pins σ H s -> XV x v -> XV y u -> r X.K H x a -> r X.K H y b -> A.units + d < cLine -> SeqAt.EqAt A s v u (decide (a = b))
  rc : ∀ {X : Cx} {pins : List (Addr × Obj)} {σ : St} {H : Hp} {s : Shared} {x y : V} {v u : Value} {a b : α} {A : Around}, Inv X pins σ H s -> XV x v -> XV y u -> r X.K H x a -> r X.K H y b -> A.units + d < cLine -> SeqAt.RcAt A s v u (decide (a = b))
  ne : ∀ {X : Cx} {pins : List (Addr × Obj)} {σ : St} {H : Hp} {s : Shared} {x y : V} {v u : Value} {a b : α} {A : Around}, Inv X pins σ H s -> XV x v -> XV y u -> r X.K H x a -> r X.K H y b -> A.units + d < cLine -> SeqAt.RcNeAt A s v u (!decide (a = b))
  keep : ∀ {K : PySem.W.Frag} {H H' : Hp} {x : V} {a : α}, Xm H H' -> r K H x a -> r K H' x a
theorem EqOk.up {α : Type} [DecidableEq α] {r : Enc α} {d e : Nat} (E : EqOk r d) (h : d <= e) : EqOk r e:=
  ⟨E.uniq, fun I rx ry h1 h2 hu=>E.eq I rx ry h1 h2 (by omega), fun I rx ry h1 h2 hu=>E.rc I rx ry h1 h2 (by omega), fun I rx ry h1 h2 hu=>E.ne I rx ry h1 h2 (by omega), E.keep⟩
theorem Jc (A : Around) : A.in1.units = A.units + 1:=rfl
theorem Ca {a b : Int} : (a == b) = decide (a = b):=by rw [Bool.eq_iff_iff]; simp
theorem eq_int : EqOk Xa 0 where
  uniq:=fun _ h1 h2=>by
    have h1' : _ = V.int _:=h1
    have h2' : _ = V.int _:=h2
    rw [h1'] at h2'; injection h2'
  eq:=fun {X pins σ H s x y v u a b A} I rx ry h1 h2 _=>by
    have h1' : x = V.int a:=h1
    have h2' : y = V.int b:=h2
    subst h1' h2'
    obtain ⟨t, rfl⟩:=rx
    obtain ⟨t', rfl⟩:=ry
    rw [← Ca]; exact SeqAt.EqAt.int_int a t b t'
  rc:=fun {X pins σ H s x y v u a b A} I rx ry h1 h2 _=>by
    have h1' : x = V.int a:=h1
    have h2' : y = V.int b:=h2
    subst h1' h2'
    obtain ⟨t, rfl⟩:=rx
    obtain ⟨t', rfl⟩:=ry
    rw [← Ca]; exact SeqAt.RcAt.int_int a t b t'
  ne:=fun {X pins σ H s x y v u a b A} I rx ry h1 h2 _=>by
    have h1' : x = V.int a:=h1
    have h2' : y = V.int b:=h2
    subst h1' h2'
    obtain ⟨t, rfl⟩:=rx
    obtain ⟨t', rfl⟩:=ry
    rw [← Ca]; exact SeqAt.RcNeAt.int_int a t b t'
  keep:=fun _ h=>h
theorem Gy {α : Type} [DecidableEq α] {as bs : List α} (h : as.length = bs.length) : (List.range as.length).all (fun j=>decide (as[j]? = bs[j]?)) = decide (as = bs):=by
  rw [Bool.eq_iff_iff]
  simp only [List.all_eq_true, List.mem_range, decide_eq_true_eq]
  constructor
  . intro hh
    apply List.ext_getElem?
    intro i
    by_cases hi : i < as.length
    . exact hh i hi
    . rw [List.getElem?_eq_none (by omega), List.getElem?_eq_none (by omega)]
  . rintro rfl; intros; rfl
theorem Paired.uniq {α β : Type} {F : α -> β -> Prop} (hu : ∀ a b c, F a b -> F a c -> b = c) : ∀ {l : List α} {m m' : List β}, Paired F l m -> Paired F l m' -> m = m'
  | _, _, _, .nil, .nil=>rfl
  | _, _, _, .cons r t, .cons r' t'=>by rw [hu _ _ _ r r', Paired.uniq hu t t']
theorem Paired.imp2 {α β : Type} {F G : α -> β -> Prop} (h : ∀ a b, F a b -> G a b) : ∀ {l : List α} {m : List β}, Paired F l m -> Paired G l m
  | _, _, .nil=>.nil
  | _, _, .cons r t=>.cons (h _ _ r) (Paired.imp2 h t)
section
variable {α : Type} [DecidableEq α] {r : Enc α} {d : Nat}
theorem JG (E : EqOk r d) {X : Cx} {pins : List (Addr × Obj)} {σ : St} {H : Hp} {s : Shared} {A : Around} (I : Inv X pins σ H s) (hu : A.units + (d + 1) < cLine) {xs ys : List V} {as bs : List α} {its its2 : List Value}
    (r1 : XR xs its) (r2 : XR ys its2) (p1 : Paired (r X.K H) xs as) (p2 : Paired (r X.K H) ys bs) :
    ∀ j (h1 : j < its.toArray.size) (h2 : j < its2.toArray.size), SeqAt.EqAt A.in1 s its.toArray[j] its2.toArray[j] (decide (as[j]? = bs[j]?)):=by
  intro j h1 h2
  have h1' : j < its.length:=by simpa using h1
  have h2' : j < its2.length:=by simpa using h2
  obtain ⟨x, ex, rx⟩:=Paired.getR (i:=j) (b:=its[j]) r1 (by simp [h1'])
  obtain ⟨y, ey, ry⟩:=Paired.getR (i:=j) (b:=its2[j]) r2 (by simp [h2'])
  obtain ⟨a, ea, ra⟩:=Paired.getL p1 ex
  obtain ⟨b, eb, rb⟩:=Paired.getL p2 ey
  have:=E.eq (A:=A.in1) I rx ry ra rb (by rw [Jc]; omega)
  rw [ea, eb]
  simpa using this
theorem BU (E : EqOk r d) : EqOk (rL r) (d + 1):=by
  have un : ∀ {X : Cx} {pins : List (Addr × Obj)} {σ : St} {H : Hp} {s : Shared} {x : V} {a b : List α}, Inv X pins σ H s -> rL r X.K H x a -> rL r X.K H x b -> a = b:=by
    intro X pins σ H s x as bs I h1 h2
    obtain ⟨a, xs, rfl, q1, p1⟩:=h1
    obtain ⟨b, ys, e, q2, p2⟩:=h2
    cases e
    cases I.list_inj q1 q2
    exact Paired.uniq (F:=r X.K H) (fun _ _ _ z z'=>E.uniq I z z') p1 p2
  have rc : ∀ {X : Cx} {pins : List (Addr × Obj)} {σ : St} {H : Hp} {s : Shared} {x y : V} {v u : Value} {a b : List α} {A : Around}, Inv X pins σ H s -> XV x v -> XV y u -> rL r X.K H x a -> rL r X.K H y b -> A.units + (d + 1) < cLine -> SeqAt.RcAt A s v u (decide (a = b)):=by
    intro X pins σ H s x y v u as bs A I rx ry h1 h2 hu
    obtain ⟨a, xs, rfl, q1, p1⟩:=h1
    obtain ⟨b, ys, rfl, q2, p2⟩:=h2
    cases rx; cases ry
    obtain ⟨its, r1, l1, _⟩:=I.list q1
    obtain ⟨its2, r2, l2, _⟩:=I.list q2
    have n1:=r1.length
    have n2:=r2.length
    have m1:=Paired.len p1
    have m2:=Paired.len p2
    by_cases hl : as.length = bs.length
    . have := SeqAt.RcAt.lists (A := A) (e := fun j => decide (as[j]? = bs[j]?)) l1.isList l2.isList (by simp only [List.size_toArray]; omega) (by omega) (JG E I hu r1 r2 p1 p2)
      rw [show its.toArray.size = as.length by simp only [List.size_toArray]; omega, Gy hl] at this
      exact this
    . rw [decide_eq_false (fun e => hl (congrArg List.length e))]
      exact SeqAt.RcAt.lists_lengths l1.isList l2.isList (by simp only [List.size_toArray, bne_iff_ne]; omega) (by omega)
  refine ⟨un, ?_, rc, ?_, ?_⟩
  . intro X pins σ H s x y v u as bs A I rx ry h1 h2 hu
    obtain ⟨a, xs, rfl, q1, p1⟩:=id h1
    obtain ⟨b, ys, rfl, q2, p2⟩:=id h2
    have R:=rc (A:=A) I rx ry h1 h2 hu
    cases rx; cases ry
    by_cases e : a = b
    . subst e
      rw [decide_eq_true (un I h1 h2)]
      exact SeqAt.EqAt.same _
    . exact SeqAt.EqAt.of_refs e R
  . intro X pins σ H s x y v u as bs A I rx ry h1 h2 hu
    obtain ⟨a, xs, rfl, q1, p1⟩:=h1
    obtain ⟨b, ys, rfl, q2, p2⟩:=h2
    cases rx; cases ry
    obtain ⟨its, r1, l1, _⟩:=I.list q1
    obtain ⟨its2, r2, l2, _⟩:=I.list q2
    have n1:=r1.length
    have n2:=r2.length
    have m1:=Paired.len p1
    have m2:=Paired.len p2
    by_cases hl : as.length = bs.length
    . have := SeqAt.RcNeAt.lists (A := A) (e := fun j => decide (as[j]? = bs[j]?)) l1.isList l2.isList (by simp only [List.size_toArray]; omega) (by omega) (JG E I hu r1 r2 p1 p2)
      rw [show its.toArray.size = as.length by simp only [List.size_toArray]; omega, Gy hl] at this
      exact this
    . rw [decide_eq_false (fun e => hl (congrArg List.length e))]
      exact SeqAt.RcNeAt.lists_lengths l1.isList l2.isList (by simp only [List.size_toArray, bne_iff_ne]; omega) (by omega)
  . intro K H H' x as e h
    obtain ⟨a, xs, rfl, q1, p1⟩:=h
    exact ⟨a, xs, rfl, e.seq q1, Paired.imp2 (fun _ _ z=>E.keep e z) p1⟩
end
section
variable {α β : Type} [DecidableEq α] [DecidableEq β] {r : Enc α} {q : Enc β} {d : Nat}
theorem Kj {a1 a2 : α} {b1 b2 : β} : (decide (a1 = a2) && decide (b1 = b2)) = decide ((a1, b1) = (a2, b2)):=by
  rw [Bool.eq_iff_iff]; simp
theorem BJ (E : EqOk r d) (F : EqOk q d) : EqOk (rT2 r q) (d + 1):=by
  have un : ∀ {X : Cx} {pins : List (Addr × Obj)} {σ : St} {H : Hp} {s : Shared} {x : V} {a b : α × β}, Inv X pins σ H s -> rT2 r q X.K H x a -> rT2 r q X.K H x b -> a = b:=by
    rintro X pins σ H s x ⟨a1, a2⟩ ⟨b1, b2⟩ I h1 h2
    obtain ⟨a, x1, x2, rfl, q1, p1, p2⟩:=h1
    obtain ⟨b, y1, y2, e, q2, p3, p4⟩:=h2
    cases e
    cases I.tuple_inj q1 q2
    rw [show a1 = b1 from E.uniq I p1 p3, show a2 = b2 from F.uniq I p2 p4]
  have its : ∀ {X : Cx} {pins : List (Addr × Obj)} {σ : St} {H : Hp} {s : Shared} {x1 x2 y1 y2 : V} {u1 u2 w1 w2 : Value} {a b : α × β} {A : Around}, Inv X pins σ H s -> XV x1 u1 -> XV x2 u2 -> XV y1 w1 -> XV y2 w2 ->
      r X.K H x1 a.1 -> q X.K H x2 a.2 -> r X.K H y1 b.1 -> q X.K H y2 b.2 -> A.units + (d + 1) < cLine ->
      ∀ j (h1 : j < [u1, u2].toArray.size) (h2 : j < [w1, w2].toArray.size), SeqAt.EqAt A.in1 s [u1, u2].toArray[j] [w1, w2].toArray[j] ((fun j=>if j = 0 then decide (a.1 = b.1) else decide (a.2 = b.2)) j):=by
    intro X pins σ H s x1 x2 y1 y2 u1 u2 w1 w2 a b A I e1 e2 e3 e4 p1 p2 p3 p4 hu j h1 h2
    have hj : j = 0 ∨ j = 1:=by
      have h1' : j < 2:=h1
      omega
    rcases hj with rfl | rfl
    . exact E.eq (A:=A.in1) I e1 e3 p1 p3 (by rw [Jc]; omega)
    . exact F.eq (A:=A.in1) I e2 e4 p2 p4 (by rw [Jc]; omega)
  have rc : ∀ {X : Cx} {pins : List (Addr × Obj)} {σ : St} {H : Hp} {s : Shared} {x y : V} {v u : Value} {a b : α × β} {A : Around}, Inv X pins σ H s -> XV x v -> XV y u -> rT2 r q X.K H x a -> rT2 r q X.K H y b -> A.units + (d + 1) < cLine -> SeqAt.RcAt A s v u (decide (a = b)):=by
    rintro X pins σ H s x y v u ⟨a1, a2⟩ ⟨b1, b2⟩ A I rx ry h1 h2 hu
    obtain ⟨a, x1, x2, rfl, q1, p1, p2⟩:=h1
    obtain ⟨b, y1, y2, rfl, q2, p3, p4⟩:=h2
    cases rx; cases ry
    obtain ⟨i1, r1, l1, _⟩:=I.tuple q1
    obtain ⟨i2, r2, l2, _⟩:=I.tuple q2
    obtain ⟨u1, u2, rfl, e1, e2⟩:=XR.two r1
    obtain ⟨w1, w2, rfl, e3, e4⟩:=XR.two r2
    have:=SeqAt.RcAt.tuples (A:=A) l1 l2 (by omega) (its (a:=(a1, a2)) (b:=(b1, b2)) I e1 e2 e3 e4 p1 p2 p3 p4 hu)
    rw [← Kj]
    simpa [List.range_succ] using this
  refine ⟨un, ?_, rc, ?_, ?_⟩
  . intro X pins σ H s x y v u as bs A I rx ry h1 h2 hu
    obtain ⟨a, x1, x2, rfl, q1, p1, p2⟩:=id h1
    obtain ⟨b, y1, y2, rfl, q2, p3, p4⟩:=id h2
    have R:=rc (A:=A) I rx ry h1 h2 hu
    cases rx; cases ry
    by_cases e : a = b
    . subst e
      rw [decide_eq_true (un I h1 h2)]
      exact SeqAt.EqAt.same _
    . exact SeqAt.EqAt.of_refs e R
  . rintro X pins σ H s x y v u ⟨a1, a2⟩ ⟨b1, b2⟩ A I rx ry h1 h2 hu
    obtain ⟨a, x1, x2, rfl, q1, p1, p2⟩:=h1
    obtain ⟨b, y1, y2, rfl, q2, p3, p4⟩:=h2
    cases rx; cases ry
    obtain ⟨i1, r1, l1, _⟩:=I.tuple q1
    obtain ⟨i2, r2, l2, _⟩:=I.tuple q2
    obtain ⟨u1, u2, rfl, e1, e2⟩:=XR.two r1
    obtain ⟨w1, w2, rfl, e3, e4⟩:=XR.two r2
    have:=SeqAt.RcNeAt.tuples (A:=A) l1 l2 (by omega) (its (a:=(a1, a2)) (b:=(b1, b2)) I e1 e2 e3 e4 p1 p2 p3 p4 hu)
    rw [← Kj]
    simpa [List.range_succ] using this
  . intro K H H' x as e h
    obtain ⟨a, x1, x2, rfl, q1, p1, p2⟩:=h
    exact ⟨a, x1, x2, rfl, e.seqT q1, E.keep e p1, F.keep e p2⟩
end
section
variable {X : Cx} {α : Type} [DecidableEq α] {r : Enc α} {d : Nat}
noncomputable def Iy (K : PySem.W.Frag) (r : Enc α) : R2:=fun x y H Q=>∃ a b, r K H x a /\ r K H y b /\ Q (.bl (decide (a = b))) H
noncomputable def Iu (K : PySem.W.Frag) (r : Enc α) : R2:=fun x y H Q=>∃ a b, r K H x a /\ r K H y b /\ Q (.bl (!decide (a = b))) H
theorem Cp (E : EqOk r d) (hu : X.A.units + d < cLine) : OpR X (compareOp .Eq) (Iy X.K r):=by
  intro pins s σ H x y v u Q I rx ry h
  obtain ⟨a, b, h1, h2, q⟩:=h
  exact E.rc (A:=X.A) I rx ry h1 h2 hu _ _ _ _ ⟨.bl _, H, I, rfl, q⟩
theorem Fa (E : EqOk r d) (hu : X.A.units + d < cLine) : OpR X (compareOp .NotEq) (Iu X.K r):=by
  intro pins s σ H x y v u Q I rx ry h
  obtain ⟨a, b, h1, h2, q⟩:=h
  exact E.ne (A:=X.A) I rx ry h1 h2 hu _ _ _ _ ⟨.bl _, H, I, rfl, q⟩
theorem Zp : ZQ X (.builtin "isinstance") (fun xs H Q=>∃ x n t b, xs = [x, .ty n] /\ TyOf X.K H x t /\ PySem.W.kitOne X.K t (.type n) = some b /\ Q (.bl b) H):=by
  intro pins s σ H xs us Q I r h
  obtain ⟨x, n, t, b, rfl, ty, e, q⟩:=h
  obtain ⟨u, v, rfl, ru, rv⟩:=XR.two r
  cases (show v = Value.type n from rv)
  exact Fp I ru ty e fun tk=>⟨.bl b, H, I.tok tk, rfl, q⟩
theorem Kl : OpR X (binaryOp .FloorDiv) (rI (fun _ j=>0 < j /\ j.natAbs.log2 < 9000) fun i j=>.int (i / j)):=opI fun i j _ _ _ _ _ hc q=>by
  refine floordiv_int (by omega) ?_ (.inl (PyProof.noPylong_of_log2 hc.2))
  rw [Int.fdiv_eq_ediv_of_nonneg i (by omega)]
  exact q
end
end L2
namespace PySem
open Sem (wp)
section
variable {prog : Program} {w : World} {A : Around} {E : Value -> Shared -> Prop} {s : Shared}
end
end PySem
namespace L2
open PySem PySem.Spec PyProof.Rows
theorem Vr {α β : Type} {F : α -> β -> Prop} : ∀ {l : List α} {m : List β} {i : Nat} {b : β}, Paired F l m -> m[i]? = some b -> ∃ a, l[i]? = some a /\ F a b
  | _, _, _, _, .nil, e=>by simp at e
  | _, _, 0, _, .cons r _, e=>by simp at e; subst e; exact ⟨_, rfl, r⟩
  | _, _, i + 1, b, .cons _ t, e=>by
    obtain ⟨a, h1, h2⟩:=Vr (i:=i) (b:=b) t (by simpa using e)
    exact ⟨a, by simpa using h1, h2⟩
section
variable {X : Cx} {e : Expr} {te : TE}
noncomputable def IB (K : PySem.W.Frag) : List V -> Hp -> VK -> Prop:=fun xs H Q=>∃ (a : Addr) (ns : List Int), xs = [.ref a] /\ SqL K H a (ns.map V.int) /\ Q (.int ns.sum) H
theorem Gs (hc : X.calm = true) : ZQ X (.builtin "sum") (IB X.K):=by
  intro pins s σ H xs us Q I r h
  obtain ⟨a, ns, rfl, hq, q⟩:=h
  obtain ⟨u, rfl, ru⟩:=Gn r
  cases ru
  obtain ⟨its, rv, pl, hz⟩:=I.list hq
  have hi : IntsAre its ns:=K6 rv
  have hlen:=hi.length
  have hlt : a < s.heap.objs.size:=by obtain ⟨o, n, ho, _⟩:=pl; exact Heap.lt_size ho
  refine call_sum_walkG ?_
  refine wpAny_pyIter_list pl.isList ?_
  have W:=Walks.list (prog:=X.prog) (w:=X.w) (A:=X.A.in1) (I.ok.hd hc) s.heap.objs.size a (Nat.ne_of_lt hlt) its.toArray
  refine ⟨s.heap.objs.size, _, _, _, _, _, fun i=>ns.getD i 0, rfl, W, ⟨⟨_, Heap.get?_push_size _ rfl, rfl, rfl⟩, pl.isList.at fun o e=>Heap.get?_push_of_some _ e⟩, fun b hb=>?_, fun i v hv=>?_, fun h' tk t' hk=>?_⟩
  . rcases List.mem_cons.mp hb with e | hb
    . rw [e, Heap.size_push]; exact Nat.lt_succ_self _
    . rw [List.mem_singleton.mp hb, Heap.size_push]; exact Nat.lt_succ_of_lt hlt
  . have hv' : its[i]? = some v := by simpa using hv
    have hil : i < its.length:=(List.getElem?_eq_some_iff.mp hv').1
    obtain ⟨x, ex, rx⟩:=Vr rv hv'
    rw [List.getElem?_map] at ex
    cases e : ns[i]? with
    | none=>rw [e] at ex; cases ex
    | some z=>
      rw [e] at ex
      have ex' : V.int z = x:=Option.some.inj ex
      subst ex'
      obtain ⟨t, rfl⟩:=rx
      exact ⟨t, by simp [List.getD, e]⟩
  . have I2 : Inv X pins σ H { s with heap:=h', toks:=tk }:=I.kept (t':=tk) fun b o e=>hk b o (fun hm=>by
      rw [List.mem_singleton.mp hm] at e
      exact absurd (Heap.lt_size e) (Nat.lt_irrefl _)) (Heap.get?_push_of_some _ e)
    refine ⟨.int ns.sum, H, I2, ⟨t', ?_⟩, q⟩
    rw [List.size_toArray, hlen, preSum_getD, List.take_length]
end
end L2
namespace L2
open PySem PySem.Spec PyProof.Rows
section
variable {X : Cx} {pins : List (Addr × Obj)} {σ : St} {H : Hp} {s : Shared} {h' : Heap}
theorem Inv.turnLay {t' : Nat} {ch : List Addr} {T : Addr} {u : HO} (I : Inv X pins σ H s) (k : ∀ b o, b ∉ ch -> s.heap.get? b = some o -> h'.get? b = some o) (hf : ∀ b ∈ ch, U5 X pins H b)
    (hp : s.heap.objs.size <= T) (new : Y2 X.prog X.w (upd H T u) h' T u) : Inv X pins σ (upd H T u) { s with heap:=h', toks:=t' }:=by
  have hn : H T = none:=I.hok.fresh hp
  have nit : ∀ b o, H b = some o -> b ∉ ch:=fun b o e z=>by rw [(hf b z).1] at e; cases e
  refine I.step (g':=s.gens) (d':=s.drawn) (ch:=ch) (fun b hb=>?_) (fun b o _ _ hc e _=>k b o hc e) (fun b o _ _ hc e _=>⟨o.slots, k b o hc e⟩)
    (fun b o _ e n=>by rw [XA (Nat.ne_of_lt (Nat.lt_of_lt_of_le (Heap.lt_size e) hp))]; exact n)
    (fun b o hc e=>⟨o, k b o hc e⟩) (fun b xs e=>by rw [XA (XJ e hn)]; exact e) (fun b o xs e=>by rw [XA (XJ e hn)]; exact e) (fun b ps e=>⟨#[], by rw [XA (XJ e hn), e]; simp⟩) (fun m hm=>?_) (fun b v e=>?_) I.bare
  . obtain ⟨f0, f1, f2, f3, f4, f5⟩ := hf b hb
    exact ⟨f3, f1, f4, f5⟩
  . obtain ⟨o, es, ep, ho, r⟩ := hm
    exact ⟨o, es, ep, k _ o (fun z=>(hf _ z).2.1 rfl) ho, r⟩
  . by_cases hb : b = T
    . subst hb; rw [Yu] at e; cases e; exact new
    . rw [XA hb] at e
      refine (I.hok b v e).stay (fun c o hc q=>k c o ?_ q) (fun c q=>by rw [XA (XJ q hn)]; exact q) fun c xs q=>by rw [XA (XJ q hn)]; exact q
      rcases hc with z | z
      . rw [z]; exact nit b v e
      . exact nit c _ z
end
noncomputable def Ite (K : PySem.W.Frag) (a : Addr) : It:=
  ⟨fun i H=>∃ xs x, SqL K H a xs /\ xs[i]? = some x, fun i H y H'=>∃ p x, y = .ref p /\ H p = none /\ H' = upd H p (.tup [.int (i : Int), x]) /\ ∀ xs, SqL K H a xs -> xs[i]? = some x, fun i H=>∃ xs, SqL K H a xs /\ xs.length <= i⟩
theorem GV {P : Program} {w : World} {K : PySem.W.Frag} {elts : List Expr} {k : Nat} {pos : Pos} (a e it : Addr) (h1 : e ≠ it) (h2 : a ≠ e) (h3 : a ≠ it) :
    Turn P w K (.Tuple elts k pos) (Ite K a) [e, it] e (fun i h=>(∃ old, IsEnum h e it (i : Int) old) /\ h.IsListIter it a i) where
  mem:=by simp
  obj:=fun i h st b hb=>by
    obtain ⟨⟨old, eo⟩, o, io, c, d⟩:=st
    rcases List.mem_cons.mp hb with z | z
    . subst z
      exact ⟨_, eo, fun v z=>by cases z⟩
    . have z := List.mem_singleton.mp z
      subst z
      exact ⟨o, io, fun v z=>by rw [d] at z; cases z⟩
  keep:=fun i h h' st k=>⟨let ⟨old, eo⟩:=st.1; ⟨old, k e (by simp) _ eo⟩, st.2.at fun o q=>k it (by simp) o q⟩
  item:=by
    intro X hP hw hK hc i pins s σ H E I hf st hg
    subst hP hw hK
    obtain ⟨xs, x, hq, hx⟩:=hg
    obtain ⟨its, rv, p, hz⟩:=I.list hq
    obtain ⟨u, hu, ru⟩:=rv.get hx
    obtain ⟨⟨old, eo⟩, io⟩:=id st
    have hu' : its.toArray[i]? = some u:=by simpa using hu
    have W:=WalksT.enumerate (prog:=X.prog) (w:=X.w) (A:=X.A) (I.ok.hd hc) e it a h1 h2 h3 its.toArray
    refine wpAny_pyNext_enum_item eo io p.isList hu' h1 fun h' eo' io' tup sz kk=>?_
    have hT : ∀ b o, s.heap.get? b = some o -> s.heap.objs.size ≠ b:=fun b o q z=>absurd (Heap.lt_size q) (by rw [← z]; exact Nat.lt_irrefl _)
    have hTe:=hT e _ eo
    have hTi : s.heap.objs.size ≠ it:=by obtain ⟨o, q, _⟩:=io; exact hT it o q
    have ha' : h'.IsList a its.toArray:=p.isList.at fun o q=>kk a o h2 h3 q
    refine ⟨_, rfl, W.go elts k pos i s.heap.objs.size _ _ _ ⟨⟨_, eo'⟩, io', ha', hTe, hTi⟩ fun h'' st' kk'=>?_⟩
    obtain ⟨st2, io2, _⟩:=st'
    have tup2:=kk' _ _ (by simp [hTe, hTi]) tup
    have k2 : ∀ b o, b ∉ [e, it] -> s.heap.get? b = some o -> h''.get? b = some o:=fun b o q1 q=>kk' b o q1 (kk b o (fun z=>q1 (by simp [z])) (fun z=>q1 (by simp [z])) q)
    refine ⟨.ref s.heap.objs.size, upd H s.heap.objs.size (.tup [.int (i : Int), x]), I.turnLay (h':=h'') (t':=s.toks + 1) k2 hf (Nat.le_refl _) ⟨by show 2 <= sizeLine; decide, [.int (i : Int) s.toks, u], .cons ⟨_, rfl⟩ (.cons ru .nil), ⟨_, tup2, ⟨rfl, rfl⟩, _, rfl⟩⟩, rfl,
      ⟨_, x, rfl, I.hok.fresh (Nat.le_refl _), rfl, fun ys hy=>by rw [I.list_inj hy hq]; exact hx⟩, ⟨by simpa using st2, io2⟩, fun b hb=>?_⟩
    rcases List.mem_cons.mp hb with z | z
    . rw [z, XA hTe.symm]; exact (hf e (by simp)).1
    . rw [List.mem_singleton.mp z, XA hTi.symm]; exact (hf it (by simp)).1
  done:=by
    intro X hP hw hK hc i pins s σ H E I hf st hg
    subst hP hw hK
    obtain ⟨xs, hq, hx⟩:=hg
    obtain ⟨its, rv, p, hz⟩:=I.list hq
    obtain ⟨⟨old, eo⟩, io⟩:=id st
    obtain ⟨f0, f1, f2, f3, f4, f5⟩:=hf it (by simp)
    have hl:=rv.length
    exact wpAny_pyNext_enum_end (I.ok.hd hc) eo io p.isList (by simp; omega) fun h' eb=>⟨rfl, I.turned (t':=s.toks) (fun b o hb q=>eb b o hb q) f0 f1 f3 f4 f5⟩
  self:=by
    intro A i s Q E st h
    obtain ⟨⟨old, eo⟩, io⟩:=st
    exact wpAny_pyIter_enum eo h
section
variable {X : Cx} {elts : List Expr} {k : Nat} {pos0 : Pos}
noncomputable def EB (K : PySem.W.Frag) (tl : TE) : TI:=fun σ H R=>tl σ H fun x H1=>∃ a, x = .ref a /\ (∃ xs, SqL K H1 a xs) /\ R (Ite K a) H1
theorem BK {l : Expr} {tl : TE} {p pos : Pos} (hg : Gl X "enumerate") (hm : X.mg "enumerate" = none) (hl : PE X l tl) (hs : starEach [l] X.env = [(false, eval l X.env)]:=by rfl) :
    PI X (.Tuple elts k pos0) (.Call (.Name "enumerate" p) [l] [] pos) (EB X.K tl):=by
  intro pins s σ H R I h
  refine wpAny_Call_Name_kw (QF I hg hm boot_enumerate ?_)
  refine PyProof.Rows.callWith_type1 ?_ hs rfl
  rw [hs]
  show wpAny _ _ (spliced ((false, eval l X.env) :: backTo pos [])) _ _ s
  refine Calls.spliced_cons (thn (hl pins s σ H _ I h) fun v s1 ⟨x, H1, I1, r1, a, ex, ⟨xs, hq⟩, q⟩=>?_)
  subst ex
  cases r1
  obtain ⟨its, rv, pl, hz⟩:=I1.list hq
  refine Calls.spliced_nil ?_
  have hlt : a < s1.heap.objs.size:=by obtain ⟨o, n, ho, _⟩:=pl; exact Heap.lt_size ho
  refine call_enumerate_list pl.isList fun h' en io sz kk=>?_
  refine wpAny_pyIter_enum en ?_
  refine ⟨_, [s1.heap.objs.size + 1, s1.heap.objs.size], _, _, H1, rfl, I1.kept (t':=s1.toks) kk, GV a _ _ (Nat.ne_of_gt (Nat.lt_succ_self _)) (Nat.ne_of_lt (Nat.lt_succ_of_lt hlt)) (Nat.ne_of_lt hlt), ⟨⟨_, en⟩, io⟩, fun b hb=>?_, q⟩
  have hb' : s1.heap.objs.size <= b:=by
    rcases List.mem_cons.mp hb with z | z
    . rw [z]; exact Nat.le_succ _
    . rw [List.mem_singleton.mp z]; exact Nat.le_refl _
  exact I1.fpOk hb' (I1.hok.fresh hb')
end
noncomputable def G3 (K : PySem.W.Frag) : V -> List V -> Hp -> VK -> Prop:=fun x vs H Q=>∃ l xs y, ∃ j : Nat, x = .ref l /\ vs = [y] /\ SqL K H l xs /\ QL y = true /\ xs.all QL = true /\ (∃ z, xs[j]? = some z /\ eqV z y = true) /\ (∀ (m : Nat) z, m < j -> xs[m]? = some z -> eqV z y = false) /\ Q (.int (j : Int)) H
section
variable {X : Cx}
theorem DY : MtR X "list.index" (G3 X.K):=by
  intro pins s σ H x vs v us Q I rx rv h
  obtain ⟨l, xs, y, j, rfl, rfl, hq, fy, fs, ⟨z, hz, ez⟩, hm, q⟩:=h
  cases rx
  obtain ⟨u, rfl, ry⟩:=XR.one rv
  obtain ⟨its, r, pl, hle⟩:=I.list hq
  have hl:=r.length
  have hjl:=(List.getElem?_eq_some_iff.mp hz).1
  have ge : ∀ (m : Nat) (w : V), xs[m]? = some w -> ∀ hm : m < its.toArray.size, eqU y its.toArray[m] = eqV w y:=fun m w hw hm=>by
    obtain ⟨u', hu', ru'⟩:=r.get hw
    have e : its.toArray[m] = u':=by
      have:=(List.getElem?_eq_some_iff.mp hu').2
      simpa using this
    rw [e]
    exact G5 ru' (List.all_eq_true.mp fs w (List.mem_of_getElem? hw))
  obtain ⟨o, n, ho, hc, hd, hs⟩:=id pl
  obtain ⟨cls, dict, data, slots⟩:=o
  cases hc; cases hd; cases hs
  refine call_meets F.slot_list_index ⟨_, ho, rfl⟩ F.entry_list_index (F.args_list_index_2 _ _) (SeqAt.list_indexAt l its.toArray n none slots u (eqU y) j (by rw [List.size_toArray]; omega) ?_ ?_ ?_) ⟨ho, fun w hw=>QU ry fy r fs w (by simpa using hw), ?_⟩
  . have : sizeLine < 2 ^ 63 - 1 := by decide
    omega
  . rw [ge j z hz]; exact ez
  . intro m hm' hlt
    rw [ge m xs[m] (List.getElem?_eq_getElem (by omega))]
    exact hm m _ hlt (List.getElem?_eq_getElem (by omega))
  . exact ⟨.int (j : Int), H, I.tok _, ⟨_, rfl⟩, q⟩
end
section
variable {α : Type} [DecidableEq α] {r : Enc α} {d : Nat}
end
end L2
namespace L2
open PySem PySem.Spec PyProof.Rows
section
variable {X : Cx} {o e f : Expr} {td ty tx : TE} {apos cpos : Pos}
end
end L2
namespace L2
open PySem PySem.Spec PyProof.Rows
section
variable {X : Cx} {elt tg iter : Expr} {ifs : List Expr} {scope sc : Scope} {pos : Pos} {n : Nat} {tns : List Str} {caps : List (Nat × Str)} {wi : TI} {g : TG} {tt : TT} {te : TE}
end
end L2
namespace L2
open PySem PySem.Spec PyProof.Rows
theorem Js : ∀ (xs : List V) (us : List Value), xs.length = us.length -> (∀ (j : Nat) x u, xs[j]? = some x -> us[j]? = some u -> XV x u) -> XR xs us
  | [], [], _, _=>.nil
  | [], _ :: _, h, _=>by simp at h
  | _ :: _, [], h, _=>by simp at h
  | x :: xs, u :: us, h, r=>.cons (r 0 x u rfl rfl) (Js xs us (by simpa using h) fun j y v e1 e2=>r (j + 1) y v (by simpa using e1) (by simpa using e2))
noncomputable def KB (ta : TA) : TE:=fun σ H Q=>ta σ H fun vs H1=>∃ j : Int, vs = [.int j] /\ 0 <= j /\ j <= 1000 /\ ∀ p, H1 p = none -> Q (.ref p) (upd H1 p (.lst ((List.range j.toNat).map fun i=>V.int ((i : Nat) : Int))))
variable {X : Cx}
theorem Uo {e : Expr} {ta : TA} {p q q2 pos : Pos} (hc : X.calm = true) (hg : Gl X "list") (hg2 : Gl X "range") (hm : X.mg "list" = none) (hm2 : X.mg "range" = none) (ha : PA X [e] ta)
    (hs : starEach [.Call (.Name "range" q) [e] [] q2] X.env = [(false, eval (.Call (.Name "range" q) [e] [] q2) X.env)]:=by rfl) (hs2 : starEach [e] X.env = [(false, eval e X.env)]:=by rfl) :
    PE X (.Call (.Name "list" p) [.Call (.Name "range" q) [e] [] q2] [] pos) (KB ta):=by
  intro pins s σ H Q I h
  refine wpAny_Call_Name_kw (QF I hg hm PyProof.Rows.boot_list ?_)
  refine PyProof.Rows.callWith_type1 ?_ hs rfl
  rw [hs]
  show wpAny _ _ (spliced ((false, eval (.Call (.Name "range" q) [e] [] q2) X.env) :: backTo pos [])) _ _ s
  refine Calls.spliced_cons ?_
  refine wpAny_Call_Name_kw (QF I hg2 hm2 boot_range ?_)
  refine PyProof.Rows.callWith_type1 (thn (ha q2 pins s σ H _ I h) fun us s1 ⟨vs, H1, I1, r1, q1⟩=>?_) hs2 rfl
  obtain ⟨j, e, h0, h1, k⟩:=q1
  subst e
  cases r1 with
  | cons r rr=>
    cases rr
    obtain ⟨t, rfl⟩:=r
    refine call_range_1 ?_
    refine Calls.spliced_nil ?_
    refine call_list_range (n:=j.toNat) (I.ok.hd hc) (IsRange.new ..) (small_one (by omega) (by omega) (by omega) (by omega)) (by rw [rangeSize_one]; split <;> omega) (by omega) fun h' tk acc' c' hk hS hacc=>?_
    refine ⟨.ref _, _, I1.laid (h':=h') (t':=tk) (o:=.lst ((List.range j.toNat).map fun i=>V.int ((i : Nat) : Int))) (fun b o e=>hk b o (Heap.get?_push_of_some _ e)) (by rw [Heap.size_push]; exact Nat.le_succ _) ?_, rfl, k _ (I1.hok.fresh (by rw [Heap.size_push]; exact Nat.le_succ _))⟩
    refine ⟨by rw [List.length_map, List.length_range]; exact Nat.le_of_lt (Ff (by omega)), acc'.toList, c', Js _ _ (by simp [hacc.1]) fun i x u e1 e2=>?_, hS⟩
    have e2' : acc'[i]? = some u:=by simpa using e2
    obtain ⟨tk, rfl⟩:=hacc.2 i u e2'
    rw [List.getElem?_map] at e1
    cases e3 : (List.range j.toNat)[i]? with
    | none=>rw [e3] at e1; cases e1
    | some z=>
      rw [e3] at e1
      have hz : z = i:=by
        have hi : i < j.toNat:=by have:=(List.getElem?_eq_some_iff.mp e3).1; simpa using this
        rw [List.getElem?_range hi] at e3
        exact (Option.some.inj e3).symm
      subst hz
      have : x = V.int (z : Int):=(Option.some.inj e1).symm
      subst this
      exact ⟨tk, by simp⟩
end L2
namespace L2
open PySem PySem.Spec PyProof.Rows
theorem Qi {l : List Expr} {p : Pos} {es : List Expr} {env : Env} : starEach (.List l p :: es) env = (false, eval (.List l p) env) :: starEach es env:=rfl
end L2
namespace L2
open PySem PySem.Spec PyProof.Rows
theorem Fk {X : Cx} (K : PySem.W.Frag) (h : X.K = K) : MtR X "list.index" (G3 K):=by subst h; exact DY
end L2
namespace L2
open PySem PySem.Spec PyProof.Rows
variable {X : Cx} {o e : Expr} {es : List Expr} {to : TE} {t : TA} {name : Str} {apos cpos : Pos} {T id : String} {r : V -> List V -> Hp -> VK -> Prop}
theorem HA (K : PySem.W.Frag) (hK : X.K = K) (pa : PlainAttrs T) (slot : Slot T name id) (hty : typeOf (.builtin id) = pure (.type "method_descriptor")) (hm : MtR X id r) (ho : PE X o to) (ha : PA X (e :: es) t)
    (hbase : attributeBase o name X.env (eval o X.env) = eval o X.env:=by rfl)
    (hfew : ((backTo cpos (starEach (e :: es) X.env)).all (fun x=>!x.1) && (backToKw cpos (keywordEach [] X.env)).all (fun x=>x.1.isSome)
      && decide ((e :: es).length + ([] : List Keyword).length + (if ([] : List Keyword).isEmpty then 0 else 1) < 30)) = true:=by rfl)
    (hline : (apos.endLine == cpos.line) = true:=by rfl) (hs : starEach (e :: es) X.env = (false, eval e X.env) :: starEach es X.env:=by rfl) (hplain : (backTo cpos (starEach es X.env)).any (·.1) = false:=by rfl) :
    PE X (.Call (.Attribute o name apos) (e :: es) [] cpos) (tBM K T r to t):=by
  subst hK
  exact ZS pa slot hty hm ho ha hbase hfew hline hs hplain
end L2
namespace PySem
open PySem.Spec
namespace SeqAt
open MeetsSeq
end SeqAt
end PySem
namespace L2
open PySem PySem.Spec PyProof.Rows
section
variable {X : Cx}
end
end L2
namespace L2
open PySem PySem.Spec PyProof.Rows
noncomputable def IA (K : PySem.W.Frag) : List V -> Hp -> VK -> Prop:=fun xs H Q=>∃ (a : Addr) (bs : List Bool), xs = [.ref a] /\ SqL K H a (bs.map V.bl) /\ Q (.bl (bs.all id)) H
section
variable {X : Cx}
theorem ER : ∀ (bs : List Bool), ((List.range bs.length).all fun i=>(bs[i]?).getD true) = bs.all id:=fun bs=>by
  rw [Bool.eq_iff_iff, List.all_eq_true, List.all_eq_true]
  constructor
  . intro h b hb
    obtain ⟨i, hi, rfl⟩:=List.getElem_of_mem hb
    have:=h i (List.mem_range.mpr hi)
    simpa [List.getElem?_eq_getElem hi] using this
  . intro h i hi
    have hi':=List.mem_range.mp hi
    simpa [List.getElem?_eq_getElem hi'] using h _ (List.getElem_mem hi')
theorem G6 (hc : X.calm = true) : ZQ X (.builtin "all") (IA X.K):=by
  intro pins s σ H xs us Q I r h
  obtain ⟨a, bs, rfl, hq, q⟩:=h
  obtain ⟨u, rfl, ru⟩:=Gn r
  cases ru
  obtain ⟨its, rv, pl, hz⟩:=I.list hq
  have hlen : bs.length = its.length:=by have:=rv.length; rwa [List.length_map] at this
  have hlt : a < s.heap.objs.size:=by obtain ⟨o, n, ho, _⟩:=pl; exact Heap.lt_size ho
  refine call_all_walk (wpAny_pyIter_list pl.isList ?_)
  refine ⟨s.heap.objs.size, [s.heap.objs.size, a], [s.heap.objs.size], its.toArray.size, _, _, fun i=>(bs[i]?).getD true, rfl, Walks.list (A:=X.A.in1) (I.ok.hd hc) _ a (Nat.ne_of_lt hlt) its.toArray,
    ⟨⟨_, Heap.get?_push_size _ rfl, rfl, rfl⟩, pl.isList.at fun o e=>Heap.get?_push_of_some _ e⟩, fun i v s' Q' E' hP hQ=>?_, fun h' tk hk=>?_⟩
  . have hv' : its[i]? = some v := by simpa using hP
    obtain ⟨x, ex, rx⟩:=Vr rv hv'
    rw [List.getElem?_map] at ex
    cases e : bs[i]? with
    | none=>rw [e] at ex; cases ex
    | some z=>
      rw [e] at ex
      have ex' : V.bl z = x:=Option.some.inj ex
      subst ex'
      cases rx
      simp only [e, Option.getD_some] at hQ
      exact wpAny_truthy_bool hQ
  . have e : ((List.range its.toArray.size).all fun i=>(bs[i]?).getD true) = bs.all id:=by
      rw [List.size_toArray, ← hlen]; exact ER bs
    rw [e]
    have I2 : Inv X pins σ H { s with heap:=h', toks:=tk }:=I.kept (t':=tk) fun b o e=>hk b o (fun hm=>by
      rw [List.mem_singleton.mp hm] at e
      exact absurd (Heap.lt_size e) (Nat.lt_irrefl _)) (Heap.get?_push_of_some _ e)
    exact ⟨.bl (bs.all id), H, I2, rfl, q⟩
end
end L2
namespace L2
open PySem PySem.Spec PyProof.Rows
section
variable {X : Cx} {α : Type} [DecidableEq α] {r : Enc α} {d : Nat}
end
section
variable {X : Cx}
end
section
variable {X : Cx}
variable {T : String} {name : Str} {id : String} {r : V -> List V -> Hp -> VK -> Prop} {o e : Expr} {es : List Expr} {to : TE} {t : TA} {apos cpos : Pos}
theorem En {K : PySem.W.Frag} (hK : X.K = K) (pa : PlainAttrs T) (slot : Slot T name id) (hty : typeOf (.builtin id) = pure (.type "method_descriptor")) (hm : MtR X id r) (ho : PE X o to) (ha : PA X (e :: es) t)
    (hbase : attributeBase o name X.env (eval o X.env) = eval o X.env:=by rfl)
    (hfew : ((backTo cpos (starEach (e :: es) X.env)).all (fun x=>!x.1) && (backToKw cpos (keywordEach [] X.env)).all (fun x=>x.1.isSome)
      && decide ((e :: es).length + ([] : List Keyword).length + (if ([] : List Keyword).isEmpty then 0 else 1) < 30)) = true:=by rfl)
    (hline : (apos.endLine == cpos.line) = true:=by rfl) (hs : starEach (e :: es) X.env = (false, eval e X.env) :: starEach es X.env:=by rfl) (hplain : (backTo cpos (starEach es X.env)).any (·.1) = false:=by rfl) :
    PE X (.Call (.Attribute o name apos) (e :: es) [] cpos) (tBM K T r to t):=HA K hK pa slot hty hm ho ha hbase hfew hline hs hplain
end
section
variable {X : Cx} {elt tg iter : Expr} {ifs : List Expr} {scope : Scope} {pos : Pos} {wi : TI} {g : TG} {tt : TT} {te : TE}
theorem ZH {sc : Scope} {N0 : List Str} {tns : List Str} {caps : List (Nat × Str)} (hc : X.calm = true) (hi : PI X tg iter wi) (hG : Vd tns.length g)
    (hb : ∀ cl C s H ex E, PG (X.comp (tns ++ caps.map (·.2)) scope cl C s H ex E) tg g /\ PTs (X.comp (tns ++ caps.map (·.2)) scope cl C s H ex E) ifs tt /\ PE (X.comp (tns ++ caps.map (·.2)) scope cl C s H ex E) elt te)
    (hsc : X.env.scope = sc:=by rfl) (hN0 : X.N = N0:=by rfl) (ok : Ud sc scope N0 tns caps = true:=by decide +kernel)
    (hs : ∀ x, foldedSetIterable iter X.env x = pure x:=by intro _; rfl) :
    PE X (.ListComp elt [⟨tg, iter, ifs, 0⟩] scope pos) (GA tns.length caps wi g tt te):=BH sc N0 tns caps hc hi hG hb hsc hN0 ok hs
end
section
variable {X : Cx} {tg l : Expr} {tl : TE} {p pos : Pos} {K : PySem.W.Frag}
theorem XT (h : X.K = K) (hl : PE X l tl) : PI X tg l (BA K tl):=by subst h; exact CQ hl
end
end L2
namespace L2
open PySem PySem.Spec PyProof.Rows
noncomputable def UV : List Int -> Int
  | []=>0
  | a :: r=>r.foldl max a
theorem Kt (ns : List Int) : ∀ k, k < ns.length -> ns.getD (argBest (fun i j=>decide (ns.getD i 0 > ns.getD j 0)) k) 0 = UV (ns.take (k + 1))
  | 0, h=>by
    cases ns with
    | nil=>simp at h
    | cons a r=>simp [argBest, UV]
  | k + 1, h=>by
    have ih:=Kt ns k (by omega)
    have e : UV (ns.take (k + 1 + 1)) = max (UV (ns.take (k + 1))) (ns.getD (k + 1) 0):=by
      rw [List.take_succ_eq_append_getElem h]
      cases ns with
      | nil=>simp at h
      | cons a r=>
        rw [List.take_succ_cons]
        simp only [UV, List.cons_append, List.foldl_append, List.foldl_cons, List.foldl_nil]
        rw [List.getD_eq_getElem?_getD, List.getElem?_eq_getElem h]
        rfl
    rw [e, ← ih]
    show ns.getD (if (decide (ns.getD (k + 1) 0 > ns.getD (argBest _ k) 0)) = true then k + 1 else argBest _ k) 0 = _
    by_cases hc : ns.getD (k + 1) 0 > ns.getD (argBest (fun i j=>decide (ns.getD i 0 > ns.getD j 0)) k) 0
    . rw [if_pos (by simpa using hc)]; omega
    . rw [if_neg (by simpa using hc)]; omega
section
variable {X : Cx}
theorem Gv {its : List Value} {ns : List Int} (rv : XR (ns.map V.int) its) : ∀ (i : Nat) (v : Value), its.toArray[i]? = some v -> ∃ t, v = Value.int (ns.getD i 0) t:=fun i v hv=>by
  have hv' : its[i]? = some v:=by simpa using hv
  obtain ⟨x, ex, rx⟩:=Vr rv hv'
  rw [List.getElem?_map] at ex
  cases e : ns[i]? with
  | none=>rw [e] at ex; cases ex
  | some z=>
    rw [e] at ex
    have ex' : V.int z = x:=Option.some.inj ex
    subst ex'
    obtain ⟨t, rfl⟩:=rx
    exact ⟨t, by simp [List.getD, e]⟩
noncomputable def EE (K : PySem.W.Frag) (f : List Int -> Int) : List V -> Hp -> VK -> Prop:=fun xs H Q=>∃ (a : Addr) (ns : List Int), xs = [.ref a] /\ SqT K H a (ns.map V.int) /\ 0 < ns.length /\ Q (.int (f ns)) H
theorem Gw (K : PySem.W.Frag) (hK : X.K = K) (hc : X.calm = true) : ZQ X (.builtin "max") (EE K UV):=by
  subst hK
  intro pins s σ H xs us Q I r h
  obtain ⟨a, ns, rfl, hq, hne, q⟩:=h
  obtain ⟨u, rfl, ru⟩:=Gn r
  cases ru
  obtain ⟨its, rv, pl, hz⟩:=I.tuple hq
  have hlen : its.length = ns.length:=by have:=rv.length; simpa using this.symm
  have hlt : a < s.heap.objs.size:=by obtain ⟨o, ho, _⟩:=pl; exact Heap.lt_size ho
  refine call_max_walk (wpAny_pyIter_tuple pl ?_)
  refine ⟨s.heap.objs.size, _, _, _, _, _, _, rfl, Walks.tuple (prog:=X.prog) (w:=X.w) (A:=X.A.in1) (I.ok.hd hc) s.heap.objs.size a (Nat.ne_of_lt hlt) its.toArray, ⟨⟨_, Heap.get?_push_size _ rfl, rfl, rfl⟩, (show s.heap.IsTuple a its.toArray from pl).at fun o e=>Heap.get?_push_of_some _ e⟩, fun b hb=>?_, by rw [List.size_toArray, hlen]; exact hne, CmpOf.ints_gt (fun i=>ns.getD i 0) (Gv rv), fun v h' tk hP hk=>?_⟩
  . rcases List.mem_cons.mp hb with e | hb
    . rw [e, Heap.size_push]; exact Nat.lt_succ_self _
    . rw [List.mem_singleton.mp hb, Heap.size_push]; exact Nat.lt_succ_of_lt hlt
  . have I2 : Inv X pins σ H { s with heap:=h', toks:=tk }:=I.kept (t':=tk) fun b o e=>hk b o (fun hm=>by
      rw [List.mem_singleton.mp hm] at e
      exact absurd (Heap.lt_size e) (Nat.lt_irrefl _)) (Heap.get?_push_of_some _ e)
    obtain ⟨t, rfl⟩:=Gv rv _ _ hP
    refine ⟨.int (UV ns), H, I2, ⟨t, ?_⟩, q⟩
    rw [List.size_toArray, hlen, Kt ns (ns.length - 1) (by omega), show ns.length - 1 + 1 = ns.length by omega, List.take_length]
end
end L2
namespace L2
open PySem PySem.Spec PyProof.Rows
inductive Pay where
  | non | int (i : Int) | tag (t : Str) (xs : List Int)
  deriving DecidableEq
structure Exc where
  cls : Str
  pay : Pay
inductive Res (α : Type) where
  | bad | err (x : Exc) | ok (a : α)
noncomputable def Res.bind {α β : Type} : Res α -> (α -> Res β) -> Res β
  | .bad, _=>.bad
  | .err x, _=>.err x
  | .ok a, f=>f a
theorem Res.ok_bind {α β : Type} (a : α) (f : α -> Res β) : (Res.ok a).bind f = f a:=rfl
noncomputable def chk {α : Type} (c : Prop) [Decidable c] (m : Res α) : Res α:=if c then m else .bad
theorem Xv {α : Type} {c : Prop} [Decidable c] {m : Res α} (h : c) : chk c m = m:=if_pos h
noncomputable abbrev Xt:=Addr × HO
noncomputable def Eg : HO -> Bool
  | .lst _=>true
  | .dK _=>true
  | .dT _=>true
  | _=>false
noncomputable def fl (OO : List (List Xt)) : List Addr:=OO.flatten.map (·.1)
open Classical in
noncomputable def hid (H : Hp) (OO : List (List Xt)) : Hp:=fun b=>if b ∈ fl OO then none else H b
structure W (OO : List (List Xt)) (H : Hp) : Prop where
  tr : ∀ c ∈ OO.flatten, H c.1 = some c.2
  nd : (fl OO).Nodup
  mu : ∀ c ∈ OO.flatten, Eg c.2 = true
theorem Yx {H : Hp} {OO} {b : Addr} {o : HO} (h : hid H OO b = some o) : H b = some o /\ b ∉ fl OO:=by
  unfold hid at h
  split at h
  . cases h
  . exact ⟨h, by assumption⟩
theorem QI {H : Hp} {OO} {b : Addr} {o : HO} (h : H b = some o) (n : b ∉ fl OO) : hid H OO b = some o:=by
  unfold hid; rw [if_neg n]; exact h
theorem Xq {H : Hp} {OO} : Xm (hid H OO) H:=fun b o h=>(Yx h).1
theorem Xi {H H' : Hp} {OO} (s : Xm H H') : Xm (hid H OO) (hid H' OO):=fun b o h=>QI (s _ _ (Yx h).1) (Yx h).2
theorem Jw {H H' : Hp} {OO OO'} (s : Xm H H') (h : ∀ b, b ∈ fl OO' -> b ∈ fl OO) : Xm (hid H OO) (hid H' OO'):=fun b o q=>QI (s _ _ (Yx q).1) fun z=>(Yx q).2 (h b z)
theorem Zq {C : List Xt} {OO} : fl (C :: OO) = C.map (·.1) ++ fl OO:=by simp [fl]
theorem Fq {OO} : fl ([] :: OO) = fl OO:=by simp [fl]
theorem Y3 {H : Hp} {OO} : hid H ([] :: OO) = hid H OO:=by unfold hid; rw [Fq]
theorem W.keep {OO} {H H' : Hp} (w : W OO H) (s : Xm H H') : W OO H':=⟨fun c hc=>s _ _ (w.tr c hc), w.nd, w.mu⟩
theorem W.of {OO OO' : List (List Xt)} {H : Hp} (w : W OO H) (h : OO'.flatten.Perm OO.flatten) : W OO' H:=
  ⟨fun c hc=>w.tr c (h.mem_iff.mp hc), (h.map _).nodup_iff.mpr w.nd, fun c hc=>w.mu c (h.mem_iff.mp hc)⟩
theorem W.sub {OO OO' : List (List Xt)} {H : Hp} (w : W OO H) (h : OO'.flatten.Sublist OO.flatten) : W OO' H:=
  ⟨fun c hc=>w.tr c (h.mem hc), (h.map _).nodup w.nd, fun c hc=>w.mu c (h.mem hc)⟩
theorem W.tail {C OO} {H : Hp} (w : W (C :: OO) H) : W OO H:=w.sub (by simp)
theorem W.nil {OO} {H : Hp} (w : W OO H) : W ([] :: OO) H:=w.of (by simp)
theorem W.cell {C OO} {H : Hp} (w : W (C :: OO) H) : ∀ c ∈ C, H c.1 = some c.2:=fun c hc=>w.tr c (by simp [hc])
theorem JT {OO : List (List Xt)} {c : Xt} (h : c ∈ OO.flatten) : c.1 ∈ fl OO:=List.mem_map.mpr ⟨c, h, rfl⟩
theorem FE {OO : List (List Xt)} {b : Addr} (h : b ∈ fl OO) : ∃ o, (b, o) ∈ OO.flatten:=by
  obtain ⟨⟨a, o⟩, hc, rfl⟩:=List.mem_map.mp h
  exact ⟨o, hc⟩
theorem W.fresh {OO} {H : Hp} (w : W OO H) {p : Addr} (h : H p = none) : p ∉ fl OO:=fun z=>by
  obtain ⟨o, ho⟩:=FE z
  have:=w.tr _ ho
  rw [h] at this; cases this
theorem W.new {OO} {H : Hp} (w : W OO H) {p : Addr} (h : H p = none) {o : HO} (m : Eg o = true) : W ([(p, o)] :: OO) (upd H p o):=by
  have hf:=w.fresh h
  refine ⟨fun c hc=>?_, ?_, fun c hc=>?_⟩
  . simp only [List.flatten_cons, List.cons_append, List.nil_append, List.mem_cons] at hc
    rcases hc with rfl | hc
    . exact Yu
    . rw [XA (fun e=>hf (by rw [← e]; exact JT hc))]; exact w.tr c hc
  . rw [Zq]; simpa using ⟨hf, w.nd⟩
  . simp only [List.flatten_cons, List.cons_append, List.nil_append, List.mem_cons] at hc
    rcases hc with rfl | hc
    . exact m
    . exact w.mu c hc
theorem Vl {OO} {H : Hp} {p : Addr} (h : H p = none) {o : HO} : Xm (hid H OO) (hid (upd H p o) ([(p, o)] :: OO)):=fun b u q=>by
  obtain ⟨q1, q2⟩:=Yx q
  have hb : b ≠ p:=XJ q1 h
  refine QI (by rw [XA hb]; exact q1) ?_
  rw [Zq]; simpa using ⟨hb, q2⟩
theorem Z7 {OO} {H : Hp} (w : W OO H) {p : Addr} (h : H p = none) {o : HO} : hid (upd H p o) OO p = some o:=QI Yu (w.fresh h)
class MonoE {α : Type} (r : Enc α) : Prop where
  mono : ∀ {K : PySem.W.Frag} {H H' : Hp} {v : V} {a : α}, Xm H H' -> r K H v a -> r K H' v a
noncomputable def IF : HO -> Bool
  | .tup _=>true
  | .frz _ _=>true
  | _=>false
noncomputable def Q8 (H H' : Hp) : Prop:=∀ b o, H b = some o -> IF o = true -> H' b = some o
theorem Xm.i {H H' : Hp} (s : Xm H H') : Q8 H H':=fun b o h _=>s b o h
theorem W.i {OO} {H : Hp} (w : W OO H) : Q8 H (hid H OO):=fun b o h i=>QI h fun z=>by
  obtain ⟨u, hu⟩:=FE z
  have h1:=w.tr _ hu
  have h2:=w.mu _ hu
  rw [h] at h1
  have e : o = u:=Option.some.inj h1
  subst e
  revert i h2; cases o <;> simp [IF, Eg]
theorem Q8.trans {H H1 H2 : Hp} (a : Q8 H H1) (b : Q8 H1 H2) : Q8 H H2:=fun c o h i=>b c o (a c o h i) i
class FlatE {α : Type} (r : Enc α) : Prop where
  flat : ∀ {K : PySem.W.Frag} {H H' : Hp} {v : V} {a : α}, Q8 H H' -> r K H v a -> r K H' v a
instance {α : Type} {r : Enc α} [f : FlatE r] : MonoE r:=⟨fun s h=>f.flat s.i h⟩
theorem Q8.seqT {K : PySem.W.Frag} {H H' : Hp} {a : Addr} {xs : List V} (e : Q8 H H') (h : SqT K H a xs) : SqT K H' a xs:=by
  rcases h with (h | ⟨o, h⟩) | h
  . exact .inl (.inl (e _ _ h rfl))
  . exact .inl (.inr ⟨o, e _ _ h rfl⟩)
  . exact .inr h
noncomputable def XY : Enc Bool:=fun _ _ v b=>v = .bl b
noncomputable def JO : Enc Str:=fun _ _ v x=>v = .str x
noncomputable def rV {α : Type} (r : Enc α) : Enc (List α):=fun K H v as=>∃ a xs, v = .ref a /\ H a = some (.lst xs) /\ Paired (r K H) xs as
noncomputable def rPL {α : Type} (r : Enc α) : Enc (List α):=fun K H v as=>∃ a xs, v = .ref a /\ H a = some (.tup xs) /\ Paired (r K H) xs as
noncomputable def rP2 {α β : Type} (r : Enc α) (q : Enc β) : Enc (α × β):=fun K H v p=>∃ a x y, v = .ref a /\ H a = some (.tup [x, y]) /\ r K H x p.1 /\ q K H y p.2
noncomputable def rP3 {α β γ : Type} (r : Enc α) (q : Enc β) (t : Enc γ) : Enc (α × β × γ):=fun K H v p=>∃ a x y z, v = .ref a /\ H a = some (.tup [x, y, z]) /\ r K H x p.1 /\ q K H y p.2.1 /\ t K H z p.2.2
instance {α : Type} {r : Enc α} [m : MonoE r] : MonoE (rV r):=⟨fun s h9=>(by obtain ⟨a, xs, e, q, p⟩:=h9; exact ⟨a, xs, e, s _ _ q, Paired.imp2 (fun _ _ z=>m.mono s z) p⟩)⟩
instance {α : Type} {r : Enc α} [m : MonoE r] : MonoE (rPL r):=⟨fun s h9=>(by obtain ⟨a, xs, e, q, p⟩:=h9; exact ⟨a, xs, e, s _ _ q, Paired.imp2 (fun _ _ z=>m.mono s z) p⟩)⟩
instance {α : Type} {r : Enc α} [m : FlatE r] : FlatE (rPL r):=⟨fun s h9=>(by obtain ⟨a, xs, e, q, p⟩:=h9; exact ⟨a, xs, e, s _ _ q rfl, Paired.imp2 (fun _ _ z=>m.flat s z) p⟩)⟩
instance {α β : Type} {r : Enc α} {q : Enc β} [m : MonoE r] [n : MonoE q] : MonoE (rP2 r q):=⟨fun s h9=>(by obtain ⟨a, x, y, e, h, p1, p2⟩:=h9; exact ⟨a, x, y, e, s _ _ h, m.mono s p1, n.mono s p2⟩)⟩
instance {α β : Type} {r : Enc α} {q : Enc β} [m : FlatE r] [n : FlatE q] : FlatE (rP2 r q):=⟨fun s h9=>(by obtain ⟨a, x, y, e, h, p1, p2⟩:=h9; exact ⟨a, x, y, e, s _ _ h rfl, m.flat s p1, n.flat s p2⟩)⟩
instance {α β γ : Type} {r : Enc α} {q : Enc β} {t : Enc γ} [m : MonoE r] [n : MonoE q] [k : MonoE t] : MonoE (rP3 r q t):=⟨fun s h9=>(by obtain ⟨a, x, y, z, e, h, p1, p2, p3⟩:=h9; exact ⟨a, x, y, z, e, s _ _ h, m.mono s p1, n.mono s p2, k.mono s p3⟩)⟩
instance {α β γ : Type} {r : Enc α} {q : Enc β} {t : Enc γ} [m : FlatE r] [n : FlatE q] [k : FlatE t] : FlatE (rP3 r q t):=⟨fun s h9=>(by obtain ⟨a, x, y, z, e, h, p1, p2, p3⟩:=h9; exact ⟨a, x, y, z, e, s _ _ h rfl, m.flat s p1, n.flat s p2, k.flat s p3⟩)⟩
instance : FlatE Xa:=⟨fun _ h=>h⟩
instance : FlatE XY:=⟨fun _ h=>h⟩
instance : FlatE JO:=⟨fun _ h=>h⟩
instance {α : Type} {r : Enc α} [m : MonoE r] : MonoE (rL r):=⟨fun s h9=>(by obtain ⟨a, xs, e, q, p⟩:=h9; exact ⟨a, xs, e, s.seq q, Paired.imp2 (fun _ _ z=>m.mono s z) p⟩)⟩
noncomputable abbrev OE (α : Type):=PySem.W.Frag -> Hp -> V -> α -> List Xt -> Prop
inductive P3 {α β γ : Type} (F : α -> β -> γ -> Prop) : List α -> List β -> List γ -> Prop where
  | nil : P3 F [] [] []
  | cons {a b c l m n} : F a b c -> P3 F l m n -> P3 F (a :: l) (b :: m) (c :: n)
noncomputable def oF {α : Type} (r : Enc α) : OE α:=fun K h v a C=>C = [] /\ r K h v a
noncomputable def oL {α : Type} (o : OE α) : OE (List α):=fun K h v as C=>∃ p xs Cs, v = .ref p /\ P3 (o K h) xs as Cs /\ C = (p, .lst xs) :: Cs.flatten
noncomputable def oT2 {α β : Type} (o : OE α) (q : OE β) : OE (α × β):=fun K h v a C=>∃ p x y C1 C2, v = .ref p /\ h p = some (.tup [x, y]) /\ o K h x a.1 C1 /\ q K h y a.2 C2 /\ C = C1 ++ C2
section
variable {α β γ δ : Type}
theorem P3.imp {F G : α -> β -> γ -> Prop} (h : ∀ a b c, F a b c -> G a b c) : ∀ {l m n}, P3 F l m n -> P3 G l m n:=fun p=>by
  induction p with
  | nil=>exact .nil
  | cons r _ ih=>exact .cons (h _ _ _ r) ih
theorem P3.app {F : α -> β -> γ -> Prop} : ∀ {l m n l' m' n'}, P3 F l m n -> P3 F l' m' n' -> P3 F (l ++ l') (m ++ m') (n ++ n'):=fun p h=>by
  induction p with
  | nil=>exact h
  | cons r _ ih=>exact .cons r ih
theorem P3.snoc {F : α -> β -> γ -> Prop} {l m n a b c} (h : P3 F l m n) (r : F a b c) : P3 F (l ++ [a]) (m ++ [b]) (n ++ [c]):=h.app (.cons r .nil)
theorem P3.len {F : α -> β -> γ -> Prop} : ∀ {l m n}, P3 F l m n -> l.length = m.length /\ n.length = m.length
  | _, _, _, .nil=>⟨rfl, rfl⟩
  | _, _, _, .cons _ t=>by simp [(P3.len t).1, (P3.len t).2]
theorem P3.pair {F : α -> β -> γ -> Prop} {G : α -> β -> Prop} : ∀ {l m n}, P3 F l m n -> (∀ a b c, c ∈ n -> F a b c -> G a b) -> Paired G l m:=fun p h=>by
  induction p with
  | nil=>exact .nil
  | cons r _ ih=>exact .cons (h _ _ _ List.mem_cons_self r) (ih fun a b c hc=>h a b c (List.mem_cons_of_mem _ hc))
theorem P3.get {F : α -> β -> γ -> Prop} : ∀ {l m n} {i : Nat} {b : β}, P3 F l m n -> m[i]? = some b -> ∃ a c, l[i]? = some a /\ n[i]? = some c /\ F a b c
  | _, _, _, _, _, .nil, e=>by simp at e
  | _, _, _, 0, _, .cons r _, e=>by simp at e; subst e; exact ⟨_, _, rfl, rfl, r⟩
  | _, _, _, i + 1, b, .cons _ t, e=>by
    obtain ⟨a, c, h1, h2, h3⟩:=P3.get (i:=i) (b:=b) t (by simpa using e)
    exact ⟨a, c, by simpa using h1, by simpa using h2, h3⟩
theorem P3.set {F : α -> β -> γ -> Prop} {a : α} {b : β} {c : γ} (r : F a b c) : ∀ {l m n} (i : Nat), P3 F l m n -> P3 F (l.set i a) (m.set i b) (n.set i c)
  | _, _, _, _, .nil=>.nil
  | _, _, _, 0, .cons _ t=>.cons r t
  | _, _, _, i + 1, .cons q t=>.cons q (P3.set r i t)
theorem P3.flat {F : α -> β -> Prop} : ∀ {l : List α} {m : List β} {n : List (List Xt)}, P3 (fun a b c=>c = [] /\ F a b) l m n -> Paired F l m /\ n.flatten = []:=fun p=>by
  induction p with
  | nil=>exact ⟨.nil, rfl⟩
  | cons r _ ih=>exact ⟨.cons r.2 ih.1, by rw [List.flatten_cons, r.1, ih.2]; rfl⟩
theorem P3.of {F : α -> β -> Prop} : ∀ {l : List α} {m : List β}, Paired F l m -> P3 (fun a b (c : List Xt)=>c = [] /\ F a b) l m (List.replicate m.length [])
  | _, _, .nil=>.nil
  | _, _, .cons r t=>.cons ⟨rfl, r⟩ (P3.of t)
theorem Yd : ∀ n : Nat, (List.replicate n ([] : List Xt)).flatten = []
  | 0=>rfl
  | n + 1=>by simp [List.replicate_succ, Yd n]
end
class MonoO {α : Type} (o : OE α) : Prop where
  mono : ∀ {K : PySem.W.Frag} {H H' : Hp} {v : V} {a : α} {C : List Xt}, Xm H H' -> o K H v a C -> o K H' v a C
class FlatO {α : Type} (o : OE α) : Prop where
  flat : ∀ {K : PySem.W.Frag} {H H' : Hp} {v : V} {a : α} {C : List Xt}, Q8 H H' -> o K H v a C -> o K H' v a C
class FrzC {α : Type} (o : OE α) (r : outParam (Enc α)) : Prop where
  frz : ∀ {K : PySem.W.Frag} {H H' : Hp} {v : V} {a : α} {C : List Xt}, o K H v a C -> Xm H H' -> (∀ c ∈ C, H' c.1 = some c.2) -> r K H' v a
instance {α : Type} {r : Enc α} [m : MonoE r] : MonoO (oF r):=⟨fun s h=>⟨h.1, m.mono s h.2⟩⟩
instance {α : Type} {r : Enc α} [m : FlatE r] : FlatO (oF r):=⟨fun s h=>⟨h.1, m.flat s h.2⟩⟩
instance {α : Type} {r : Enc α} [m : MonoE r] : FrzC (oF r) r:=⟨fun h s _=>m.mono s h.2⟩
instance {α : Type} {o : OE α} [m : MonoO o] : MonoO (oL o):=⟨fun s h9=>(by obtain ⟨p, xs, Cs, e, q, c⟩:=h9; exact ⟨p, xs, Cs, e, q.imp fun _ _ _ z=>m.mono s z, c⟩)⟩
instance {α : Type} {o : OE α} [m : FlatO o] : FlatO (oL o):=⟨fun s h9=>(by obtain ⟨p, xs, Cs, e, q, c⟩:=h9; exact ⟨p, xs, Cs, e, q.imp fun _ _ _ z=>m.flat s z, c⟩)⟩
instance {α : Type} {o : OE α} {r : Enc α} [m : FrzC o r] : FrzC (oL o) (rV r):=⟨fun ⟨p, xs, Cs, e, q, c⟩ s hc=>by
  subst c
  exact ⟨p, xs, e, hc _ List.mem_cons_self, q.pair fun a b c hm z=>m.frz z s fun x hx=>hc x (List.mem_cons_of_mem _ (List.mem_flatten.mpr ⟨c, hm, hx⟩))⟩⟩
instance {α β : Type} {o : OE α} {q : OE β} [m : MonoO o] [n : MonoO q] : MonoO (oT2 o q):=⟨fun s h9=>(by obtain ⟨p, x, y, C1, C2, e, h, h1, h2, c⟩:=h9; exact ⟨p, x, y, C1, C2, e, s _ _ h, m.mono s h1, n.mono s h2, c⟩)⟩
instance {α β : Type} {o : OE α} {q : OE β} [m : FlatO o] [n : FlatO q] : FlatO (oT2 o q):=⟨fun s h9=>(by obtain ⟨p, x, y, C1, C2, e, h, h1, h2, c⟩:=h9; exact ⟨p, x, y, C1, C2, e, s _ _ h rfl, m.flat s h1, n.flat s h2, c⟩)⟩
instance {α β : Type} {o : OE α} {q : OE β} {r : Enc α} {t : Enc β} [m : FrzC o r] [n : FrzC q t] : FrzC (oT2 o q) (rP2 r t):=⟨fun ⟨p, x, y, C1, C2, e, h, h1, h2, c⟩ s hc=>by
  subst c
  exact ⟨p, x, y, e, s _ _ h, m.frz h1 s fun c hm=>hc c (by simp [hm]), n.frz h2 s fun c hm=>hc c (by simp [hm])⟩⟩
structure SC where
  p : Hp -> Prop
  mono : ∀ h h', Xm h h' -> p h -> p h'
noncomputable def SC.nil : SC:=⟨fun _=>True, fun _ _ _ _=>True.intro⟩
noncomputable def SC.and (S T : SC) : SC:=⟨fun h=>S.p h /\ T.p h, fun _ _ s q=>⟨S.mono _ _ s q.1, T.mono _ _ s q.2⟩⟩
noncomputable def SC.one {α : Type} (K : PySem.W.Frag) (r : Enc α) [m : MonoE r] (v : V) (a : α) : SC:=⟨fun h=>r K h v a, fun _ _ s q=>m.mono s q⟩
noncomputable def SC.oneO {α : Type} (K : PySem.W.Frag) (o : OE α) [m : MonoO o] (v : V) (a : α) (C : List Xt) : SC:=⟨fun h=>o K h v a C, fun _ _ s q=>m.mono s q⟩
noncomputable abbrev SC.add {α : Type} (S : SC) (K : PySem.W.Frag) (r : Enc α) [m : MonoE r] (v : V) (a : α) : SC:=S.and (SC.one K r v a)
noncomputable abbrev SC.addO {α : Type} (S : SC) (K : PySem.W.Frag) (o : OE α) [m : MonoO o] (v : V) (a : α) (C : List Xt) : SC:=S.and (SC.oneO K o v a C)
theorem SC.l {S T : SC} {h : Hp} (q : (S.and T).p h) : S.p h:=q.1
theorem SC.r {S T : SC} {h : Hp} (q : (S.and T).p h) : T.p h:=q.2
theorem SC.i {S T : SC} {h : Hp} (q : S.p h) (p : T.p h) : (S.and T).p h:=⟨q, p⟩
theorem SC.t {h : Hp} : SC.nil.p h:=True.intro
noncomputable def PZ {β : Type} (Er : Exc -> Hp -> Prop) (F : β -> Hp -> Prop) (H : Hp) (m : Res β) : Prop:=
  match m with
  | .bad=>False
  | .err x=>∀ H', Xm H H' -> Er x H'
  | .ok b=>F b H
section
variable (K : PySem.W.Frag) (Er : Exc -> Hp -> Prop) (S : SC) (OO OO' : List (List Xt)) (σ : St)
noncomputable def FB {α : Type} (r : Enc α) (Q : VK) (a : α) (H : Hp) : Prop:=∀ v H', Xm H H' -> r K H' v a -> Q v H'
noncomputable def FO {α : Type} (o : OE α) (Q : VK) (a : α) (H : Hp) : Prop:=∀ v C H', Xm H H' -> W (C :: OO') H' -> Xm (hid H OO) (hid H' (C :: OO')) -> o K (hid H' (C :: OO')) v a C -> Q v H'
noncomputable def FT (Q : Bool -> Hp -> Prop) (b : Bool) (H : Hp) : Prop:=∀ H', Xm H H' -> Q b H'
noncomputable def EvB {α : Type} (te : TE) (r : Enc α) (m : Res α) : Prop:=∀ H Q, W OO H -> S.p (hid H OO) -> PZ Er (FB K r Q) H m -> te σ H Q
noncomputable def Ev {α : Type} (te : TE) (o : OE α) (m : Res α) : Prop:=∀ H Q, W OO H -> S.p (hid H OO) -> PZ Er (FO K OO OO' o Q) H m -> te σ H Q
noncomputable def EvT (tt : TT) (m : Res Bool) : Prop:=∀ H Q, W OO H -> S.p (hid H OO) -> PZ Er (FT Q) H m -> tt σ H Q
end
section
variable {K : PySem.W.Frag} {Er : Exc -> Hp -> Prop} {S : SC} {OO OO' OO2 : List (List Xt)} {σ : St} {α β γ : Type}
theorem FB.tr {r : Enc α} {Q : VK} : ∀ a H H', Xm H H' -> FB K r Q a H -> FB K r Q a H':=fun a H H' s h v H2 s2 q=>h v H2 (s.trans s2) q
theorem FO.tr {o : OE α} {Q : VK} : ∀ a H H', Xm H H' -> FO K OO OO' o Q a H -> FO K OO OO' o Q a H':=fun a H H' s h v C H2 s2 w m q=>h v C H2 (s.trans s2) w ((Xi s).trans m) q
theorem FT.tr {Q : Bool -> Hp -> Prop} : ∀ b H H', Xm H H' -> FT Q b H -> FT Q b H':=fun a H H' s h H2 s2=>h H2 (s.trans s2)
theorem EvB.run {te : TE} {r : Enc α} {m : Res α} (he : EvB K Er S OO σ te r m) {H : Hp} {Q : VK} (w : W OO H) (s : S.p (hid H OO)) {f : α -> Res β} {F : β -> Hp -> Prop} (hF : ∀ b H H', Xm H H' -> F b H -> F b H') (P : PZ Er F H (m.bind f))
    (hk : ∀ a v H', Xm H H' -> W OO H' -> S.p (hid H' OO) -> r K H' v a -> PZ Er F H' (f a) -> Q v H') : te σ H Q:=by
  refine he H Q w s ?_
  cases m with
  | bad=>exact P
  | err x=>exact P
  | ok a=>
    intro v H' s' hr
    refine hk a v H' s' (w.keep s') (S.mono _ _ (Xi s') s) hr ?_
    have P' : PZ Er F H (f a):=P
    revert P'
    cases f a with
    | bad=>exact fun z=>z
    | err x=>exact fun z H2 s2=>z H2 (s'.trans s2)
    | ok b=>exact fun z=>hF b H H' s' z
theorem Ev.run {te : TE} {o : OE α} {m : Res α} (he : Ev K Er S OO OO' σ te o m) {H : Hp} {Q : VK} (w : W OO H) (s : S.p (hid H OO)) {f : α -> Res β} {F : β -> Hp -> Prop} (hF : ∀ b H H', Xm H H' -> F b H -> F b H') (P : PZ Er F H (m.bind f))
    (hk : ∀ a v C H', Xm H H' -> W (C :: OO') H' -> Xm (hid H OO) (hid H' (C :: OO')) -> S.p (hid H' (C :: OO')) -> o K (hid H' (C :: OO')) v a C -> PZ Er F H' (f a) -> Q v H') : te σ H Q:=by
  refine he H Q w s ?_
  cases m with
  | bad=>exact P
  | err x=>exact P
  | ok a=>
    intro v C H' s' w' m' ho
    refine hk a v C H' s' w' m' (S.mono _ _ m' s) ho ?_
    have P' : PZ Er F H (f a):=P
    revert P'
    cases f a with
    | bad=>exact fun z=>z
    | err x=>exact fun z H2 s2=>z H2 (s'.trans s2)
    | ok b=>exact fun z=>hF b H H' s' z
theorem EvT.run {tt : TT} {m : Res Bool} (he : EvT Er S OO σ tt m) {H : Hp} {Q : Bool -> Hp -> Prop} (w : W OO H) (s : S.p (hid H OO)) {f : Bool -> Res β} {F : β -> Hp -> Prop} (hF : ∀ b H H', Xm H H' -> F b H -> F b H') (P : PZ Er F H (m.bind f))
    (hk : ∀ b H', Xm H H' -> W OO H' -> S.p (hid H' OO) -> PZ Er F H' (f b) -> Q b H') : tt σ H Q:=by
  refine he H Q w s ?_
  cases m with
  | bad=>exact P
  | err x=>exact P
  | ok a=>
    intro H' s'
    refine hk a H' s' (w.keep s') (S.mono _ _ (Xi s') s) ?_
    have P' : PZ Er F H (f a):=P
    revert P'
    cases f a with
    | bad=>exact fun z=>z
    | err x=>exact fun z H2 s2=>z H2 (s'.trans s2)
    | ok b=>exact fun z=>hF b H H' s' z
theorem Ev.toB {te : TE} {o : OE α} {r : Enc α} [z : FrzC o r] {m : Res α} (he : Ev K Er S OO OO σ te o m) : EvB K Er S OO σ te r m:=fun H Q w s P=>by
  refine he H Q w s ?_
  cases m with
  | bad=>exact P
  | err x=>exact P
  | ok a=>exact fun v C H' s' w' m' ho=>P v H' s' (z.frz ho Xq w'.cell)
theorem Ev.frz {te : TE} {o : OE α} {r : Enc α} [z : FrzC o r] {m : Res α} (he : Ev K Er S OO OO' σ te o m) : Ev K Er S OO OO' σ te (oF r) m:=fun H Q w s P=>by
  refine he H Q w s ?_
  cases m with
  | bad=>exact P
  | err x=>exact P
  | ok a=>
    intro v C H' s' w' m' ho
    have hs : Xm (hid H' (C :: OO')) (hid H' ([] :: OO')):=Jw (Xm.refl _) fun b hb=>by rw [Fq] at hb; rw [Zq]; simp [hb]
    refine P v [] H' s' w'.tail.nil (m'.trans hs) ⟨rfl, z.frz ho hs fun c hc=>QI (w'.cell c hc) ?_⟩
    rw [Fq]
    have:=w'.nd
    rw [Zq] at this
    intro hb
    exact (List.nodup_append.mp this).2.2 c.1 (List.mem_map.mpr ⟨c, hc, rfl⟩) c.1 hb rfl
theorem EvB.flat {te : TE} {r : Enc α} [z : FlatE r] {m : Res α} (he : EvB K Er S OO σ te r m) : Ev K Er S OO OO σ te (oF r) m:=fun H Q w s P=>by
  refine he H Q w s ?_
  cases m with
  | bad=>exact P
  | err x=>exact P
  | ok a=>
    intro v H' s' hr
    have w':=w.keep s'
    exact P v [] H' s' w'.nil (by rw [Y3]; exact Xi s') ⟨rfl, by rw [Y3]; exact z.flat w'.i hr⟩
theorem Xd {r : Enc α} [z : MonoE r] {v : V} {a : α} (i : Nat) (hσ : σ[i]? = some (some v)) (h : ∀ x, S.p x -> r K x v a) : EvB K Er S OO σ (KM i) r (.ok a):=fun H Q w s P=>
  ⟨v, hσ, P v H (Xm.refl _) (z.mono Xq (h _ s))⟩
theorem VL {o : OE α} {r : Enc α} [z : FrzC o r] {v : V} {a : α} {C : List Xt} (i k : Nat) (hσ : σ[i]? = some (some v)) (hk : OO[k]? = some C) (h : ∀ x, S.p x -> o K x v a C) : EvB K Er S OO σ (KM i) r (.ok a):=fun H Q w s P=>
  ⟨v, hσ, P v H (Xm.refl _) (z.frz (h _ s) Xq fun c hc=>w.tr c (List.mem_flatten.mpr ⟨C, List.mem_of_getElem? hk, hc⟩))⟩
theorem X2 : ∀ {OO : List (List Xt)} {k : Nat} {C : List Xt}, OO[k]? = some C -> (C :: OO.set k []).flatten.Perm OO.flatten
  | [], _, _, h=>by simp at h
  | D :: OO, 0, C, h=>by simp at h; subst h; simp
  | D :: OO, k + 1, C, h=>by
    have:=X2 (OO:=OO) (k:=k) (C:=C) (by simpa using h)
    simp only [List.set_cons_succ, List.flatten_cons] at this ⊢
    refine List.Perm.trans ?_ (this.append_left D)
    rw [← List.append_assoc, ← List.append_assoc]
    exact List.perm_append_comm.append_right _
theorem FQ {OO OO' : List (List Xt)} (h : OO'.flatten.Perm OO.flatten) (b : Addr) : b ∈ fl OO' ↔ b ∈ fl OO:=(h.map (·.1)).mem_iff
theorem X3 {H : Hp} {OO OO' : List (List Xt)} (h : OO'.flatten.Perm OO.flatten) : hid H OO' = hid H OO:=by
  funext b; unfold hid
  by_cases hb : b ∈ fl OO
  . rw [if_pos hb, if_pos ((FQ h b).mpr hb)]
  . rw [if_neg hb, if_neg fun z=>hb ((FQ h b).mp z)]
theorem YG {o : OE α} {v : V} {a : α} {C : List Xt} (i k : Nat) (hσ : σ[i]? = some (some v)) (hk : OO[k]? = some C) (h : ∀ x, S.p x -> o K x v a C) : Ev K Er S OO (OO.set k []) σ (KM i) o (.ok a):=fun H Q w s P=>by
  have hp:=X2 hk
  exact ⟨v, hσ, P v C H (Xm.refl _) (w.of hp) (by rw [X3 hp]; exact Xm.refl _) (by rw [X3 hp]; exact h _ s)⟩
theorem Xe (n : Int) : EvB K Er S OO σ (tC (.int n)) Xa (.ok n):=fun H Q w s P=>P _ H (Xm.refl _) rfl
theorem Zu (b : Bool) : EvB K Er S OO σ (tC (.bl b)) XY (.ok b):=fun H Q w s P=>P _ H (Xm.refl _) rfl
theorem Qx (x : Str) : EvB K Er S OO σ (tC (.str x)) JO (.ok x):=fun H Q w s P=>P _ H (Xm.refl _) rfl
theorem Jx {ta tb : TE} {g : Int -> Int -> V} {r : Enc β} {f : Int -> Int -> β} {ma mb : Res Int} (hg : ∀ K H i j, r K H (g i j) (f i j)) (ha : EvB K Er S OO σ ta Xa ma) (hb : EvB K Er S OO σ tb Xa mb) :
    EvB K Er S OO σ (tOp (rI0 g) ta tb) r (ma.bind fun a=>mb.bind fun b=>.ok (f a b)):=fun H Q w s P=>
  ha.run w s FB.tr P fun a x H1 s1 w1 q1 r1 P1=>hb.run w1 q1 FB.tr P1 fun b y H2 s2 w2 q2 r2 P2=>⟨a, b, r1, r2, P2 _ H2 (Xm.refl _) (hg K H2 a b)⟩
theorem Vc {ta tb : TE} {Cc : Int -> Int -> Prop} {g : Int -> Int -> V} {r : Enc β} {f : Int -> Int -> Res β} {ma mb : Res Int} (hg : ∀ K H i j c, f i j = .ok c -> Cc i j /\ r K H (g i j) c) (he : ∀ i j x, f i j ≠ .err x)
    (ha : EvB K Er S OO σ ta Xa ma) (hb : EvB K Er S OO σ tb Xa mb) :
    EvB K Er S OO σ (tOp (rI Cc g) ta tb) r (ma.bind fun a=>mb.bind fun b=>f a b):=fun H Q w s P=>
  ha.run w s FB.tr P fun a x H1 s1 w1 q1 r1 P1=>hb.run w1 q1 FB.tr P1 fun b y H2 s2 w2 q2 r2 P2=>by
    cases e : f a b with
    | bad=>rw [e] at P2; exact P2.elim
    | err x=>exact absurd e (he a b x)
    | ok c=>
      rw [e] at P2
      obtain ⟨h1, h2⟩:=hg K H2 a b c e
      exact ⟨a, b, r1, r2, h1, P2 _ H2 (Xm.refl _) h2⟩
noncomputable def QW (a b : Int) : Res Int:=chk ((-(2 ^ 64) < a /\ a < 2 ^ 64) ∨ (-(2 ^ 64) < b /\ b < 2 ^ 64)) (.ok (a * b))
noncomputable def VB (a b : Int) : Res Int:=chk (0 < b) (.ok (a % b))
noncomputable def Hc (a b : Int) : Res Int:=chk (0 < b /\ b.natAbs.log2 < 9000) (.ok (a / b))
noncomputable def HP (a b : Int) : Res Int:=chk (0 <= b /\ b <= 1000000 /\ a.natAbs < 2 ^ 64) (.ok (a ^ b.toNat))
theorem YR {c : Prop} [Decidable c] {m : Res α} {a : α} (h : chk c m = .ok a) : c /\ m = .ok a:=by
  unfold chk at h; split at h
  . exact ⟨by assumption, h⟩
  . cases h
theorem ZA {c : Prop} [Decidable c] {a : α} {x : Exc} : chk c (Res.ok a) ≠ .err x:=by
  unfold chk; split <;> exact fun z=>nomatch z
theorem YC {ta tb : TE} {ma mb : Res Int} (ha : EvB K Er S OO σ ta Xa ma) (hb : EvB K Er S OO σ tb Xa mb) : EvB K Er S OO σ (tOp (rI EX fun i j=>.int (i * j)) ta tb) Xa (ma.bind fun a=>mb.bind fun b=>QW a b):=
  Vc (fun K H i j c h=>by obtain ⟨h1, h2⟩:=YR h; cases h2; exact ⟨h1, rfl⟩) (fun i j x=>ZA) ha hb
theorem Yv {ta tb : TE} {ma mb : Res Int} (ha : EvB K Er S OO σ ta Xa ma) (hb : EvB K Er S OO σ tb Xa mb) : EvB K Er S OO σ (tOp (rI (fun _ j=>0 < j) fun i j=>.int (i % j)) ta tb) Xa (ma.bind fun a=>mb.bind fun b=>VB a b):=
  Vc (fun K H i j c h=>by obtain ⟨h1, h2⟩:=YR h; cases h2; exact ⟨h1, rfl⟩) (fun i j x=>ZA) ha hb
theorem Gp {ta tb : TE} {ma mb : Res Int} (ha : EvB K Er S OO σ ta Xa ma) (hb : EvB K Er S OO σ tb Xa mb) : EvB K Er S OO σ (tOp (rI (fun _ j=>0 < j /\ j.natAbs.log2 < 9000) fun i j=>.int (i / j)) ta tb) Xa (ma.bind fun a=>mb.bind fun b=>Hc a b):=
  Vc (fun K H i j c h=>by obtain ⟨h1, h2⟩:=YR h; cases h2; exact ⟨h1, rfl⟩) (fun i j x=>ZA) ha hb
theorem Fz {ta tb : TE} {ma mb : Res Int} (ha : EvB K Er S OO σ ta Xa ma) (hb : EvB K Er S OO σ tb Xa mb) : EvB K Er S OO σ (tOp (rI IC fun i j=>.int (i ^ j.toNat)) ta tb) Xa (ma.bind fun a=>mb.bind fun b=>HP a b):=
  Vc (fun K H i j c h=>by obtain ⟨h1, h2⟩:=YR h; cases h2; exact ⟨h1, rfl⟩) (fun i j x=>ZA) ha hb
theorem X8 {ta tb : TE} {ma mb : Res Int} (ha : EvB K Er S OO σ ta Xa ma) (hb : EvB K Er S OO σ tb Xa mb) : EvB K Er S OO σ (tOp (rI0 fun i j=>.int (i + j)) ta tb) Xa (ma.bind fun a=>mb.bind fun b=>.ok (a + b)):=Jx (fun _ _ _ _=>rfl) ha hb
theorem JB {ta tb : TE} {ma mb : Res Int} (ha : EvB K Er S OO σ ta Xa ma) (hb : EvB K Er S OO σ tb Xa mb) : EvB K Er S OO σ (tOp (rI0 fun i j=>.int (i - j)) ta tb) Xa (ma.bind fun a=>mb.bind fun b=>.ok (a - b)):=Jx (fun _ _ _ _=>rfl) ha hb
theorem VN {ta tb : TE} {ma mb : Res Int} (ha : EvB K Er S OO σ ta Xa ma) (hb : EvB K Er S OO σ tb Xa mb) : EvB K Er S OO σ (tOp (rI0 fun i j=>.bl (decide (i < j))) ta tb) XY (ma.bind fun a=>mb.bind fun b=>.ok (decide (a < b))):=Jx (fun _ _ _ _=>rfl) ha hb
theorem JU {ta tb : TE} {ma mb : Res Int} (ha : EvB K Er S OO σ ta Xa ma) (hb : EvB K Er S OO σ tb Xa mb) : EvB K Er S OO σ (tOp (rI0 fun i j=>.bl (decide (j < i))) ta tb) XY (ma.bind fun a=>mb.bind fun b=>.ok (decide (b < a))):=Jx (fun _ _ _ _=>rfl) ha hb
theorem EA {ta tb : TE} {ma mb : Res Int} (ha : EvB K Er S OO σ ta Xa ma) (hb : EvB K Er S OO σ tb Xa mb) : EvB K Er S OO σ (tOp (rI0 fun i j=>.bl (decide (j <= i))) ta tb) XY (ma.bind fun a=>mb.bind fun b=>.ok (decide (b <= a))):=Jx (fun _ _ _ _=>rfl) ha hb
theorem VG {ta : TE} {ma : Res Int} (ha : EvB K Er S OO σ ta Xa ma) : EvB K Er S OO σ (tUn (rU fun i=>.int (-i)) ta) Xa (ma.bind fun a=>.ok (-a)):=fun H Q w s P=>
  ha.run w s FB.tr P fun a x H1 s1 w1 q1 r1 P1=>⟨a, r1, P1 _ H1 (Xm.refl _) rfl⟩
class Scal {α : Type} [DecidableEq α] (r : Enc α) : Prop where
  to : ∀ {K : PySem.W.Frag} {H H' : Hp} {x y : V} {a b : α}, r K H x a -> r K H' y b -> HW x y = true /\ decide (x = y) = decide (a = b)
instance : Scal Xa:=⟨fun {K H H' x y a b} h1 h2=>by cases (show x = .int a from h1); cases (show y = .int b from h2); exact ⟨rfl, by simp⟩⟩
instance : Scal XY:=⟨fun {K H H' x y a b} h1 h2=>by cases (show x = .bl a from h1); cases (show y = .bl b from h2); exact ⟨rfl, by simp⟩⟩
instance : Scal JO:=⟨fun {K H H' x y a b} h1 h2=>by cases (show x = .str a from h1); cases (show y = .str b from h2); exact ⟨rfl, by simp⟩⟩
theorem Up [DecidableEq α] {r : Enc α} [z : Scal r] [MonoE r] {ta tb : TE} {ma mb : Res α} (ha : EvB K Er S OO σ ta r ma) (hb : EvB K Er S OO σ tb r mb) : EvB K Er S OO σ (tOp rEq ta tb) XY (ma.bind fun a=>mb.bind fun b=>.ok (decide (a = b))):=fun H Q w s P=>
  ha.run w s FB.tr P fun a x H1 s1 w1 q1 r1 P1=>hb.run w1 q1 FB.tr P1 fun b y H2 s2 w2 q2 r2 P2=>by
    obtain ⟨h1, h2⟩:=z.to r1 r2
    exact ⟨h1, P2 _ H2 (Xm.refl _) (by rw [h2]; rfl)⟩
theorem Gj [DecidableEq α] {r : Enc α} [z : Scal r] [MonoE r] {ta tb : TE} {ma mb : Res α} (ha : EvB K Er S OO σ ta r ma) (hb : EvB K Er S OO σ tb r mb) : EvB K Er S OO σ (tOp rNe ta tb) XY (ma.bind fun a=>mb.bind fun b=>.ok (!decide (a = b))):=fun H Q w s P=>
  ha.run w s FB.tr P fun a x H1 s1 w1 q1 r1 P1=>hb.run w1 q1 FB.tr P1 fun b y H2 s2 w2 q2 r2 P2=>by
    obtain ⟨h1, h2⟩:=z.to r1 r2
    exact ⟨h1, P2 _ H2 (Xm.refl _) (by rw [h2]; rfl)⟩
theorem F2 [DecidableEq α] {r : Enc α} [z : MonoE r] {ta tb : TE} {ma mb : Res α} (ha : EvB K Er S OO σ ta r ma) (hb : EvB K Er S OO σ tb r mb) : EvB K Er S OO σ (tOp (Iy K r) ta tb) XY (ma.bind fun a=>mb.bind fun b=>.ok (decide (a = b))):=fun H Q w s P=>
  ha.run w s FB.tr P fun a x H1 s1 w1 q1 r1 P1=>hb.run w1 q1 FB.tr P1 fun b y H2 s2 w2 q2 r2 P2=>⟨a, b, z.mono s2 r1, r2, P2 _ H2 (Xm.refl _) rfl⟩
theorem UU [DecidableEq α] {r : Enc α} [z : MonoE r] {ta tb : TE} {ma mb : Res α} (ha : EvB K Er S OO σ ta r ma) (hb : EvB K Er S OO σ tb r mb) : EvB K Er S OO σ (tOp (Iu K r) ta tb) XY (ma.bind fun a=>mb.bind fun b=>.ok (!decide (a = b))):=fun H Q w s P=>
  ha.run w s FB.tr P fun a x H1 s1 w1 q1 r1 P1=>hb.run w1 q1 FB.tr P1 fun b y H2 s2 w2 q2 r2 P2=>⟨a, b, z.mono s2 r1, r2, P2 _ H2 (Xm.refl _) rfl⟩
theorem Jv {te : TE} {m : Res Bool} (h : EvB K Er S OO σ te XY m) : EvT Er S OO σ (tB te) m:=fun H Q w s P=>h H _ w s (by
  cases m with
  | bad=>exact P
  | err x=>exact P
  | ok a=>exact fun v H' s' r=>⟨a, r, P H' s'⟩)
theorem Xw {te : TE} {m : Res Bool} (h : EvB K Er S OO σ te XY m) : EvT Er S OO σ (BW te) m:=Jv h
theorem Zz {t : TT} {m : Res Bool} (h : EvT Er S OO σ t m) : EvT Er S OO σ (IH t) (m.bind fun b=>.ok (!b)):=fun H Q w s P=>h.run w s FT.tr P fun b H1 s1 w1 q1 P1=>P1 H1 (Xm.refl _)
noncomputable def Gd (a b : Res Bool) : Res Bool:=a.bind fun x=>if x = true then b else .ok false
noncomputable def orR (a b : Res Bool) : Res Bool:=a.bind fun x=>if x = true then .ok true else b
theorem VH {t u : TT} {m n : Res Bool} (h : EvT Er S OO σ t m) (k : EvT Er S OO σ u n) : EvT Er S OO σ (IK t u) (Gd m n):=fun H Q w s P=>h.run w s FT.tr P fun b H1 s1 w1 q1 P1=>by
  cases b with
  | true=>rw [if_pos rfl] at P1 ⊢; exact k H1 Q w1 q1 P1
  | false=>exact P1 H1 (Xm.refl _)
theorem Vb {t u : TT} {m n : Res Bool} (h : EvT Er S OO σ t m) (k : EvT Er S OO σ u n) : EvT Er S OO σ (tOr t u) (orR m n):=fun H Q w s P=>h.run w s FT.tr P fun b H1 s1 w1 q1 P1=>by
  cases b with
  | true=>exact P1 H1 (Xm.refl _)
  | false=>exact k H1 Q w1 q1 P1
theorem Du {t : TE} {m : Res Bool} (h : EvB K Er S OO σ t XY m) : EvB K Er S OO σ (Hv t) XY (m.bind fun b=>.ok (!b)):=fun H Q w s P=>h.run w s FB.tr P fun b x H1 s1 w1 q1 r1 P1=>⟨b, r1, P1 _ H1 (Xm.refl _) rfl⟩
theorem Kw {t u : TE} {m n : Res Bool} (h : EvB K Er S OO σ t XY m) (k : EvB K Er S OO σ u XY n) : EvB K Er S OO σ (EM t u) XY (Gd m n):=fun H Q w s P=>h.run w s FB.tr P fun b x H1 s1 w1 q1 r1 P1=>⟨b, r1, by
  cases b with
  | true=>rw [if_pos rfl] at P1 ⊢; exact k H1 Q w1 q1 P1
  | false=>exact P1 _ H1 (Xm.refl _) rfl⟩
theorem HR {c : TT} {ta tb : TE} {o : OE α} {mc : Res Bool} {ma mb : Res α} (hc : EvT Er S OO σ c mc) (ha : Ev K Er S OO OO' σ ta o ma) (hb : Ev K Er S OO OO' σ tb o mb) : Ev K Er S OO OO' σ (tIf c ta tb) o (mc.bind fun b=>if b = true then ma else mb):=fun H Q w s P=>
  hc.run w s FO.tr P fun b H1 s1 w1 q1 P1=>by
    cases b with
    | true=>rw [if_pos rfl] at P1 ⊢; exact ha H1 Q w1 q1 P1
    | false=>exact hb H1 Q w1 q1 P1
end
end L2
namespace L2
open PySem PySem.Spec PyProof.Rows
section
variable (K : PySem.W.Frag) (Er : Exc -> Hp -> Prop) (S : SC) (OO : List (List Xt)) (σ : St)
noncomputable def FS {α : Type} (r : Enc α) (Q : VK) (a : α) (H : Hp) : Prop:=∀ v H', Xm H H' -> r K (hid H' OO) v a -> Q v H'
noncomputable def EvS {α : Type} (te : TE) (r : Enc α) (m : Res α) : Prop:=∀ H Q, W OO H -> S.p (hid H OO) -> PZ Er (FS K OO r Q) H m -> te σ H Q
noncomputable def rE {α : Type} (r : Enc α) (H : Hp) (v : V) (as : List α) : Prop:=∃ p xs, v = .ref p /\ H p = some (.lst xs) /\ Paired (r K (hid H OO)) xs as
noncomputable def FL {α : Type} (r : Enc α) (Q : VK) (as : List α) (H : Hp) : Prop:=∀ v H', Xm H H' -> rE K OO r H' v as -> Q v H'
noncomputable def EvL {α : Type} (te : TE) (r : Enc α) (m : Res (List α)) : Prop:=∀ H Q, W OO H -> S.p (hid H OO) -> PZ Er (FL K OO r Q) H m -> te σ H Q
end
section
variable {K : PySem.W.Frag} {Er : Exc -> Hp -> Prop} {S : SC} {OO OO' OO2 : List (List Xt)} {σ : St} {α β γ : Type}
theorem FS.tr {r : Enc α} {Q : VK} : ∀ a H H', Xm H H' -> FS K OO r Q a H -> FS K OO r Q a H':=fun a H H' s h v H2 s2 q=>h v H2 (s.trans s2) q
theorem FL.tr {r : Enc α} {Q : VK} : ∀ a H H', Xm H H' -> FL K OO r Q a H -> FL K OO r Q a H':=fun a H H' s h v H2 s2 q=>h v H2 (s.trans s2) q
theorem PZ.run {F : β -> Hp -> Prop} {f : α -> Res β} {H H' : Hp} {a : α} {m : Res α} (hm : m = .ok a) (hF : ∀ b H H', Xm H H' -> F b H -> F b H') (s : Xm H H') (P : PZ Er F H (m.bind f)) : PZ Er F H' (f a):=by
  subst hm
  have P' : PZ Er F H (f a):=P
  revert P'
  cases f a with
  | bad=>exact fun z=>z
  | err x=>exact fun z H2 s2=>z H2 (s.trans s2)
  | ok b=>exact fun z=>hF b H H' s z
theorem EvS.run {te : TE} {r : Enc α} {m : Res α} (he : EvS K Er S OO σ te r m) {H : Hp} {Q : VK} (w : W OO H) (s : S.p (hid H OO)) {f : α -> Res β} {F : β -> Hp -> Prop} (hF : ∀ b H H', Xm H H' -> F b H -> F b H') (P : PZ Er F H (m.bind f))
    (hk : ∀ a v H', Xm H H' -> W OO H' -> S.p (hid H' OO) -> r K (hid H' OO) v a -> PZ Er F H' (f a) -> Q v H') : te σ H Q:=by
  refine he H Q w s ?_
  cases e : m with
  | bad=>rw [e] at P; exact P
  | err x=>rw [e] at P; exact P
  | ok a=>exact fun v H' s' hr=>hk a v H' s' (w.keep s') (S.mono _ _ (Xi s') s) hr (PZ.run e hF s' P)
theorem EvL.run {te : TE} {r : Enc α} {m : Res (List α)} (he : EvL K Er S OO σ te r m) {H : Hp} {Q : VK} (w : W OO H) (s : S.p (hid H OO)) {f : List α -> Res β} {F : β -> Hp -> Prop} (hF : ∀ b H H', Xm H H' -> F b H -> F b H') (P : PZ Er F H (m.bind f))
    (hk : ∀ a v H', Xm H H' -> W OO H' -> S.p (hid H' OO) -> rE K OO r H' v a -> PZ Er F H' (f a) -> Q v H') : te σ H Q:=by
  refine he H Q w s ?_
  cases e : m with
  | bad=>rw [e] at P; exact P
  | err x=>rw [e] at P; exact P
  | ok a=>exact fun v H' s' hr=>hk a v H' s' (w.keep s') (S.mono _ _ (Xi s') s) hr (PZ.run e hF s' P)
theorem PZ.imp {F G : β -> Hp -> Prop} {H : Hp} {m : Res β} (P : PZ Er F H m) (h : ∀ b, m = .ok b -> F b H -> G b H) : PZ Er G H m:=by
  cases m with
  | bad=>exact P
  | err x=>exact P
  | ok b=>exact h b rfl P
theorem EvS.toB {te : TE} {r : Enc α} [z : MonoE r] {m : Res α} (he : EvS K Er S OO σ te r m) : EvB K Er S OO σ te r m:=fun H Q w s P=>he H Q w s (P.imp fun b _ h v H' s' q=>h v H' s' (z.mono Xq q))
theorem EvS.ev {te : TE} {r : Enc α} {m : Res α} (he : EvS K Er S OO σ te r m) : Ev K Er S OO OO σ te (oF r) m:=fun H Q w s P=>he H Q w s (P.imp fun b _ h v H' s' q=>
  h v [] H' s' (w.keep s').nil (by rw [Y3]; exact Xi s') ⟨rfl, by rw [Y3]; exact q⟩)
theorem EvB.sh {te : TE} {r : Enc α} [z : FlatE r] {m : Res α} (he : EvB K Er S OO σ te r m) : EvS K Er S OO σ te r m:=fun H Q w s P=>he H Q w s (P.imp fun b _ h v H' s' q=>h v H' s' (z.flat (w.keep s').i q))
theorem Ev.sh {te : TE} {o : OE α} {r : Enc α} [z : FrzC o r] {m : Res α} (he : Ev K Er S OO OO σ te o m) : EvS K Er S OO σ te r m:=fun H Q w s P=>he.frz H Q w s (P.imp fun b _ h v C H' s' w' m' q=>by
  obtain ⟨rfl, q⟩:=q
  rw [Y3] at q
  exact h v H' s' q)
theorem Xn {r : Enc α} {v : V} {a : α} (i : Nat) (hσ : σ[i]? = some (some v)) (h : ∀ x, S.p x -> r K x v a) : EvS K Er S OO σ (KM i) r (.ok a):=fun H Q w s P=>⟨v, hσ, P v H (Xm.refl _) (h _ s)⟩
theorem EvS.ls {te : TE} {r : Enc α} {m : Res (List α)} (he : EvS K Er S OO σ te (rV r) m) : EvL K Er S OO σ te r m:=fun H Q w s P=>he H Q w s (P.imp fun b _ h v H' s' ⟨p, xs, e, q, pr⟩=>h v H' s' ⟨p, xs, e, Xq _ _ q, pr⟩)
theorem EvB.ls {te : TE} {r : Enc α} [z : FlatE r] {m : Res (List α)} (he : EvB K Er S OO σ te (rV r) m) : EvL K Er S OO σ te r m:=fun H Q w s P=>he H Q w s (P.imp fun b _ h v H' s' ⟨p, xs, e, q, pr⟩=>h v H' s' ⟨p, xs, e, q, Paired.imp2 (fun _ _ z'=>z.flat (w.keep s').i z') pr⟩)
theorem Ev.ls {te : TE} {r : Enc α} [z : MonoE r] {m : Res (List α)} (he : Ev K Er S OO OO σ te (oL (oF r)) m) : EvL K Er S OO σ te r m:=he.sh.ls
noncomputable def atR (as : List α) (i : Int) : Res α:=match atI as i with
  | some a=>.ok a
  | none=>.bad
theorem Ks {as : List α} {i : Int} {a : α} (h : atR as i = .ok a) : atI as i = some a:=by
  unfold atR at h; split at h
  . cases h; assumption
  . cases h
theorem Kr {as : List α} {i : Int} {x : Exc} : atR as i ≠ .err x:=by unfold atR; split <;> exact fun z=>nomatch z
theorem Qq {F : V -> α -> Prop} {xs : List V} {as : List α} {i : Int} {a : α} (p : Paired F xs as) (h : atI as i = some a) : ∃ x, atI xs i = some x /\ F x a:=by
  unfold atI at h ⊢
  rw [Paired.len p]
  cases e : ixN as.length i with
  | none=>rw [e] at h; cases h
  | some j=>
    rw [e] at h
    obtain ⟨x, h1, h2⟩:=Paired.getR p h
    exact ⟨x, h1, h2⟩
theorem PZ.okOf {F : β -> Hp -> Prop} {H : Hp} {m : Res β} (he : ∀ x, m ≠ .err x) (P : PZ Er F H m) : ∃ b, m = .ok b /\ F b H:=by
  cases m with
  | bad=>exact P.elim
  | err x=>exact absurd rfl (he x)
  | ok b=>exact ⟨b, rfl, P⟩
theorem XI {ta tb : TE} {r : Enc α} [z : MonoE r] {ma : Res (List α)} {mb : Res Int} (ha : EvB K Er S OO σ ta (rV r) ma) (hb : EvB K Er S OO σ tb Xa mb) : EvB K Er S OO σ (tOp (Ej K) ta tb) r (ma.bind fun as=>mb.bind fun i=>atR as i):=fun H Q w s P=>
  ha.run w s FB.tr P fun a x H1 s1 w1 q1 ⟨p, xs, e, q, pr⟩ P1=>hb.run w1 q1 FB.tr P1 fun b y H2 s2 w2 q2 r2 P2=>by
    obtain ⟨c, hc, P3⟩:=P2.okOf fun x=>Kr
    obtain ⟨u, h1, h2⟩:=Qq pr (Ks hc)
    exact ⟨p, xs, b, u, e, r2, SqL.of (s2 _ _ q), h1, P3 u H2 (Xm.refl _) (z.mono s2 h2)⟩
theorem Hb {ta tb : TE} {r : Enc α} [z : MonoE r] {ma : Res (List α)} {mb : Res Int} (ha : EvL K Er S OO σ ta r ma) (hb : EvB K Er S OO σ tb Xa mb) : EvS K Er S OO σ (tOp (Ej K) ta tb) r (ma.bind fun as=>mb.bind fun i=>atR as i):=fun H Q w s P=>
  ha.run w s FS.tr P fun a x H1 s1 w1 q1 ⟨p, xs, e, q, pr⟩ P1=>hb.run w1 q1 FS.tr P1 fun b y H2 s2 w2 q2 r2 P2=>by
    obtain ⟨c, hc, P3⟩:=P2.okOf fun x=>Kr
    obtain ⟨u, h1, h2⟩:=Qq pr (Ks hc)
    exact ⟨p, xs, b, u, e, r2, SqL.of (s2 _ _ q), h1, P3 u H2 (Xm.refl _) (z.mono (Xi s2) h2)⟩
theorem GL {ta : TE} {r : Enc α} {q : Enc β} {m : Res (α × β)} (ha : EvB K Er S OO σ ta (rP2 r q) m) : EvB K Er S OO σ (tOp (Eh K) ta (tC (.int 0))) r (m.bind fun p=>.ok p.1):=fun H Q w s P=>
  ha.run w s FB.tr P fun a x H1 s1 w1 q1 ⟨p, x, y, e, q, h1, h2⟩ P1=>⟨p, _, 0, x, e, rfl, SqT.of q, rfl, P1 _ H1 (Xm.refl _) h1⟩
theorem Vn {ta : TE} {r : Enc α} {q : Enc β} {m : Res (α × β)} (ha : EvB K Er S OO σ ta (rP2 r q) m) : EvB K Er S OO σ (tOp (Eh K) ta (tC (.int 1))) q (m.bind fun p=>.ok p.2):=fun H Q w s P=>
  ha.run w s FB.tr P fun a x H1 s1 w1 q1 ⟨p, x, y, e, q, h1, h2⟩ P1=>⟨p, _, 1, y, e, rfl, SqT.of q, rfl, P1 _ H1 (Xm.refl _) h2⟩
theorem Vt {ta : TE} {r : Enc α} {q : Enc β} {m : Res (α × β)} (ha : EvS K Er S OO σ ta (rP2 r q) m) : EvS K Er S OO σ (tOp (Eh K) ta (tC (.int 0))) r (m.bind fun p=>.ok p.1):=fun H Q w s P=>
  ha.run w s FS.tr P fun a x H1 s1 w1 q1 ⟨p, x, y, e, q, h1, h2⟩ P1=>⟨p, _, 0, x, e, rfl, SqT.of (Xq _ _ q), rfl, P1 _ H1 (Xm.refl _) h1⟩
theorem B8 {ta : TE} {r : Enc α} {q : Enc β} {m : Res (α × β)} (ha : EvS K Er S OO σ ta (rP2 r q) m) : EvS K Er S OO σ (tOp (Eh K) ta (tC (.int 1))) q (m.bind fun p=>.ok p.2):=fun H Q w s P=>
  ha.run w s FS.tr P fun a x H1 s1 w1 q1 ⟨p, x, y, e, q, h1, h2⟩ P1=>⟨p, _, 1, y, e, rfl, SqT.of (Xq _ _ q), rfl, P1 _ H1 (Xm.refl _) h2⟩
theorem YQ {ta : TE} {r : Enc α} {m : Res (List α)} (ha : EvB K Er S OO σ ta (rV r) m) : EvB K Er S OO σ (tCB (Fs K) (XG ta ZM)) Xa (m.bind fun as=>.ok (as.length : Int)):=fun H Q w s P=>
  ha.run w s FB.tr P fun a x H1 s1 w1 q1 ⟨p, xs, e, q, pr⟩ P1=>⟨p, xs, by rw [e], .inl (SqL.of q), P1 _ H1 (Xm.refl _) (by rw [Paired.len pr]; rfl)⟩
theorem B3 {r : Enc α} [z : MonoE r] {xs : List V} {as : List α} {H : Hp} {Q : VK} (w : W OO H) (pr : Paired (r K (hid H OO)) xs as) (P : FO K OO OO (oL (oF r)) Q as H) : ∀ p, H p = none -> Q (.ref p) (upd H p (.lst xs)):=fun p hp=>by
  have hn:=Vl (OO:=OO) hp (o:=.lst xs)
  refine P (.ref p) [(p, .lst xs)] _ (XE hp _) (w.new hp rfl) hn ?_
  refine ⟨p, xs, List.replicate as.length [], rfl, (P3.of (Paired.imp2 (fun _ _ h=>z.mono hn h) pr)).imp fun _ _ _ h=>h, by rw [Yd]⟩
theorem Paired.take' {F : α -> β -> Prop} : ∀ {l : List α} {m : List β} (n : Nat), Paired F l m -> Paired F (l.take n) (m.take n)
  | _, _, 0, _=>.nil
  | _, _, _ + 1, .nil=>.nil
  | _, _, n + 1, .cons r t=>.cons r (Paired.take' n t)
theorem Paired.drop' {F : α -> β -> Prop} : ∀ {l : List α} {m : List β} (n : Nat), Paired F l m -> Paired F (l.drop n) (m.drop n)
  | _, _, 0, h=>h
  | _, _, _ + 1, .nil=>.nil
  | _, _, n + 1, .cons _ t=>Paired.drop' n t
theorem Paired.rep' {F : α -> β -> Prop} {l : List α} {m : List β} (h : Paired F l m) : ∀ n : Nat, Paired F (List.replicate n l).flatten (List.replicate n m).flatten
  | 0=>.nil
  | n + 1=>by simp only [List.replicate_succ, List.flatten_cons]; exact Paired.app h (Paired.rep' h n)
noncomputable def Uz (as : List α) (lo hi : Option Int) : List α:=(as.drop (HT.sIx as.length 0 lo)).take (HT.sIx as.length as.length hi - HT.sIx as.length 0 lo)
theorem JR {F : V -> α -> Prop} {xs : List V} {as : List α} (p : Paired F xs as) (lo hi : Option Int) : Paired F (Ei xs lo hi) (Uz as lo hi):=by
  unfold Ei Uz; rw [Paired.len p]; exact Paired.take' _ (Paired.drop' _ p)
noncomputable def FP (Q : Option Int -> Hp -> Prop) (a : Option Int) (H : Hp) : Prop:=∀ H', Xm H H' -> Q a H'
noncomputable def EvP (Er : Exc -> Hp -> Prop) (S : SC) (OO : List (List Xt)) (σ : St) (t : TO) (m : Res (Option Int)) : Prop:=∀ H Q, W OO H -> S.p (hid H OO) -> PZ Er (FP Q) H m -> t σ H Q
theorem EvP.run {t : TO} {m : Res (Option Int)} (he : EvP Er S OO σ t m) {H : Hp} {Q : Option Int -> Hp -> Prop} (w : W OO H) (s : S.p (hid H OO)) {f : Option Int -> Res β} {F : β -> Hp -> Prop} (hF : ∀ b H H', Xm H H' -> F b H -> F b H') (P : PZ Er F H (m.bind f))
    (hk : ∀ a H', Xm H H' -> W OO H' -> S.p (hid H' OO) -> PZ Er F H' (f a) -> Q a H') : t σ H Q:=by
  refine he H Q w s ?_
  cases e : m with
  | bad=>rw [e] at P; exact P
  | err x=>rw [e] at P; exact P
  | ok a=>exact fun H' s'=>hk a H' s' (w.keep s') (S.mono _ _ (Xi s') s) (PZ.run e hF s' P)
theorem QQ : EvP Er S OO σ Gr (.ok none):=fun H Q w s P=>P H (Xm.refl _)
theorem QR {te : TE} {m : Res Int} (h : EvB K Er S OO σ te Xa m) : EvP Er S OO σ (Ex te) (m.bind fun i=>.ok (some i)):=fun H Q w s P=>
  h.run w s (fun _ _ _ s h H2 s2=>h H2 (s.trans s2)) P fun a v H1 s1 w1 q1 r1 P1=>⟨a, r1, P1 H1 (Xm.refl _)⟩
theorem Vs {te : TE} {tl th : TO} {r : Enc α} [z : MonoE r] {m : Res (List α)} {ml mh : Res (Option Int)} (he : EvL K Er S OO σ te r m) (hl : EvP Er S OO σ tl ml) (hh : EvP Er S OO σ th mh) :
    Ev K Er S OO OO σ (tSl (HI K) te tl th) (oL (oF r)) (m.bind fun as=>ml.bind fun lo=>mh.bind fun hi=>.ok (Uz as lo hi)):=fun H Q w s P=>
  he.run w s FO.tr P fun as x H1 s1 w1 q1 ⟨p, xs, e, q, pr⟩ P1=>hl.run w1 q1 FO.tr P1 fun lo H2 s2 w2 q2 P2=>hh.run w2 q2 FO.tr P2 fun hi H3 s3 w3 q3 P3'=>
    ⟨p, xs, e, SqL.of (s3 _ _ (s2 _ _ q)), B3 w3 (JR (Paired.imp2 (fun _ _ h=>z.mono ((Xi s2).trans (Xi s3)) h) pr) lo hi) P3'⟩
theorem DV {ta : TE} {r : Enc α} {m : Res (List α)} (ha : EvB K Er S OO σ ta (rL r) m) : EvB K Er S OO σ (tCB (Fs K) (XG ta ZM)) Xa (m.bind fun as=>.ok (as.length : Int)):=fun H Q w s P=>
  ha.run w s FB.tr P fun a x H1 s1 w1 q1 ⟨p, xs, e, q, pr⟩ P1=>⟨p, xs, by rw [e], .inl q, P1 _ H1 (Xm.refl _) (by rw [Paired.len pr]; rfl)⟩
theorem Ea {ta tb : TE} {ma : Res (List Int)} {mb : Res Int} (ha : EvB K Er S OO σ ta (rL Xa) ma) (hb : EvB K Er S OO σ tb Xa mb) : EvB K Er S OO σ (tOp (Ej K) ta tb) Xa (ma.bind fun as=>mb.bind fun i=>atR as i):=fun H Q w s P=>
  ha.run w s FB.tr P fun a x H1 s1 w1 q1 ⟨p, xs, e, q, pr⟩ P1=>hb.run w1 q1 FB.tr P1 fun b y H2 s2 w2 q2 r2 P2=>by
    obtain ⟨c, hc, P3⟩:=P2.okOf fun x=>Kr
    obtain ⟨u, h1, h2⟩:=Qq pr (Ks hc)
    exact ⟨p, xs, b, u, e, r2, s2.seq q, h1, P3 u H2 (Xm.refl _) h2⟩
theorem FC {te : TE} {tl th : TO} {m : Res (List Int)} {ml mh : Res (Option Int)} (he : EvB K Er S OO σ te (rL Xa) m) (hl : EvP Er S OO σ tl ml) (hh : EvP Er S OO σ th mh) :
    Ev K Er S OO OO σ (tSl (HI K) te tl th) (oL (oF Xa)) (m.bind fun as=>ml.bind fun lo=>mh.bind fun hi=>.ok (Uz as lo hi)):=fun H Q w s P=>
  he.run w s FO.tr P fun as x H1 s1 w1 q1 ⟨p, xs, e, q, pr⟩ P1=>hl.run w1 q1 FO.tr P1 fun lo H2 s2 w2 q2 P2=>hh.run w2 q2 FO.tr P2 fun hi H3 s3 w3 q3 P3'=>
    ⟨p, xs, e, s3.seq (s2.seq q), B3 w3 (JR (Paired.imp2 (fun _ _ h=>h) pr) lo hi) P3'⟩
noncomputable def ET (as bs : List α) : Res (List α):=chk (as.length + bs.length <= sizeLine) (.ok (as ++ bs))
theorem Ci {ta tb : TE} {r : Enc α} [z : MonoE r] {ma mb : Res (List α)} (ha : EvL K Er S OO σ ta r ma) (hb : EvL K Er S OO σ tb r mb) : Ev K Er S OO OO σ (tOp II ta tb) (oL (oF r)) (ma.bind fun as=>mb.bind fun bs=>ET as bs):=fun H Q w s P=>
  ha.run w s FO.tr P fun as x H1 s1 w1 q1 ⟨p, xs, e, q, pr⟩ P1=>hb.run w1 q1 FO.tr P1 fun bs y H2 s2 w2 q2 ⟨p', ys, e', q', pr'⟩ P2=>by
    obtain ⟨c, hc, P3⟩:=P2.okOf fun x=>ZA
    obtain ⟨h1, h2⟩:=YR hc
    cases h2
    exact ⟨p, p', xs, ys, e, e', s2 _ _ q, q', by rw [Paired.len pr, Paired.len pr']; exact h1, B3 w2 (Paired.app (Paired.imp2 (fun _ _ h=>z.mono (Xi s2) h) pr) pr') P3⟩
noncomputable def Hs (as : List α) (n : Int) : Res (List α):=chk (-(2 ^ 63) <= n /\ n < 2 ^ 63 /\ as.length * n.toNat <= sizeLine) (.ok (List.replicate n.toNat as).flatten)
theorem CO {ta tb : TE} {r : Enc α} [z : MonoE r] {ma : Res (List α)} {mb : Res Int} (ha : EvL K Er S OO σ ta r ma) (hb : EvB K Er S OO σ tb Xa mb) : Ev K Er S OO OO σ (tOp IG ta tb) (oL (oF r)) (ma.bind fun as=>mb.bind fun n=>Hs as n):=fun H Q w s P=>
  ha.run w s FO.tr P fun as x H1 s1 w1 q1 ⟨p, xs, e, q, pr⟩ P1=>hb.run w1 q1 FO.tr P1 fun n y H2 s2 w2 q2 r2 P2=>by
    obtain ⟨c, hc, P3⟩:=P2.okOf fun x=>ZA
    obtain ⟨⟨h0, h1, h3⟩, h2⟩:=YR hc
    cases h2
    exact ⟨p, n, xs, e, r2, s2 _ _ q, h0, h1, by rw [Paired.len pr]; exact h3, B3 w2 (Paired.rep' (Paired.imp2 (fun _ _ h=>z.mono (Xi s2) h) pr) _) P3⟩
theorem Vv {ta : TE} {r : Enc α} [z : MonoE r] {ma : Res (List α)} (ha : EvL K Er S OO σ ta r ma) : Ev K Er S OO OO σ (tCB (GE K) (XG ta ZM)) (oL (oF r)) (ma.bind fun as=>.ok as):=fun H Q w s P=>
  ha.run w s FO.tr P fun as x H1 s1 w1 q1 ⟨p, xs, e, q, pr⟩ P1=>⟨p, xs, by rw [e], .inl (SqL.of q), B3 w1 pr P1⟩
noncomputable def Zi (lo hi : Int) : List Int:=(List.range (hi - lo).toNat).map fun (i : Nat)=>lo + (i : Int)
theorem Um {ta : TE} {ma : Res Int} (ha : EvB K Er S OO σ ta Xa ma) : Ev K Er S OO OO σ (KB (XG ta ZM)) (oL (oF Xa)) (ma.bind fun n=>chk (0 <= n /\ n <= 1000) (.ok (Zi 0 n))):=fun H Q w s P=>
  ha.run w s FO.tr P fun n x H1 s1 w1 q1 r1 P1=>by
    obtain ⟨c, hc, P3⟩:=P1.okOf fun x=>ZA
    obtain ⟨⟨h0, h1⟩, h2⟩:=YR hc
    cases h2
    refine ⟨n, by rw [show x = .int n from r1], h0, h1, B3 w1 ?_ P3⟩
    unfold Zi
    rw [Int.sub_zero]
    have : ∀ l : List Nat, Paired (Xa K (hid H1 OO)) (l.map fun (i : Nat)=>V.int (i : Int)) (l.map fun (i : Nat)=>(0 : Int) + (i : Int)):=fun l=>by
      induction l with
      | nil=>exact .nil
      | cons a l ih=>exact .cons (by show V.int (a : Int) = V.int (0 + (a : Int)); rw [Int.zero_add]) ih
    exact this _
theorem Jj {o : OE α} : Ev K Er S OO OO σ (ED ZM) (oL o) (.ok []):=fun H Q w s P=>⟨Nat.zero_le _, fun p hp=>P (.ref p) [(p, .lst [])] _ (XE hp _) (w.new hp rfl) (Vl hp) ⟨p, [], [], rfl, .nil, rfl⟩⟩
noncomputable def FA {α : Type} (K : PySem.W.Frag) (OO : List (List Xt)) (r : Enc α) (Q : List V -> Hp -> Prop) (as : List α) (H : Hp) : Prop:=∀ vs H', Xm H H' -> Paired (r K (hid H' OO)) vs as -> Q vs H'
noncomputable def EvA {α : Type} (K : PySem.W.Frag) (Er : Exc -> Hp -> Prop) (S : SC) (OO : List (List Xt)) (σ : St) (t : TA) (r : Enc α) (m : Res (List α)) : Prop:=∀ H Q, W OO H -> S.p (hid H OO) -> PZ Er (FA K OO r Q) H m -> t σ H Q
theorem Zo {r : Enc α} : EvA K Er S OO σ ZM r (.ok []):=fun H Q w s P=>P [] H (Xm.refl _) .nil
theorem Xl {te : TE} {t : TA} {r : Enc α} [z : MonoE r] {m : Res α} {n : Res (List α)} (he : EvS K Er S OO σ te r m) (ht : EvA K Er S OO σ t r n) : EvA K Er S OO σ (XG te t) r (m.bind fun a=>n.bind fun as=>.ok (a :: as)):=fun H Q w s P=>
  he.run w s (fun b H H' s h vs H2 s2 p=>h vs H2 (s.trans s2) p) P fun a x H1 s1 w1 q1 r1 P1=>by
    refine ht H1 _ w1 q1 ?_
    cases e : n with
    | bad=>rw [e] at P1; exact P1
    | err x=>rw [e] at P1; exact P1
    | ok as=>rw [e] at P1; exact fun vs H2 s2 p=>P1 (x :: vs) H2 s2 (.cons (z.mono (Xi s2) r1) p)
theorem Z5 {t : TA} {r : Enc α} [z : MonoE r] {m : Res (List α)} (h : EvA K Er S OO σ t r m) : Ev K Er S OO OO σ (ED t) (oL (oF r)) (m.bind fun as=>chk (as.length <= sizeLine) (.ok as)):=fun H Q w s P=>by
  refine h H _ w s ?_
  cases e : m with
  | bad=>rw [e] at P; exact P
  | err x=>rw [e] at P; exact P
  | ok as=>
    rw [e] at P
    intro vs H1 s1 p
    obtain ⟨c, hc, P3⟩:=PZ.okOf (fun x=>ZA) (show PZ Er _ H (chk (as.length <= sizeLine) (.ok as)) from P)
    obtain ⟨h1, h2⟩:=YR hc
    cases h2
    exact ⟨by rw [Paired.len p]; exact h1, B3 (w.keep s1) p (FO.tr _ _ _ s1 P3)⟩
theorem YL {ta tb : TE} {r : Enc α} {q : Enc β} [z : MonoE r] [y : MonoE q] {ma : Res α} {mb : Res β} (ha : EvS K Er S OO σ ta r ma) (hb : EvS K Er S OO σ tb q mb) : EvS K Er S OO σ (EN (XG ta (XG tb ZM))) (rP2 r q) (ma.bind fun a=>mb.bind fun b=>.ok (a, b)):=fun H Q w s P=>
  ha.run w s FS.tr P fun a x H1 s1 w1 q1 r1 P1=>hb.run w1 q1 FS.tr P1 fun b y' H2 s2 w2 q2 r2 P2=>
    ⟨by show 2 <= sizeLine; decide, fun p hp=>P2 _ _ (XE hp _) ⟨p, x, y', rfl, Z7 w2 hp, z.mono ((Xi s2).trans (Xi (XE hp _))) r1, y.mono (Xi (XE hp _)) r2⟩⟩
theorem KH {ta tb tc : TE} {r : Enc α} {q : Enc β} {t : Enc γ} [z : MonoE r] [y : MonoE q] [x : MonoE t] {ma : Res α} {mb : Res β} {mc : Res γ} (ha : EvS K Er S OO σ ta r ma) (hb : EvS K Er S OO σ tb q mb) (hc : EvS K Er S OO σ tc t mc) :
    EvS K Er S OO σ (EN (XG ta (XG tb (XG tc ZM)))) (rP3 r q t) (ma.bind fun a=>mb.bind fun b=>mc.bind fun c=>.ok (a, b, c)):=fun H Q w s P=>
  ha.run w s FS.tr P fun a x' H1 s1 w1 q1 r1 P1=>hb.run w1 q1 FS.tr P1 fun b y' H2 s2 w2 q2 r2 P2=>hc.run w2 q2 FS.tr P2 fun c z' H3 s3 w3 q3 r3 P3=>
    ⟨by show 3 <= sizeLine; decide, fun p hp=>P3 _ _ (XE hp _) ⟨p, x', y', z', rfl, Z7 w3 hp, z.mono (((Xi s2).trans (Xi s3)).trans (Xi (XE hp _))) r1, y.mono ((Xi s3).trans (Xi (XE hp _))) r2, x.mono (Xi (XE hp _)) r3⟩⟩
end
end L2
namespace L2
open PySem PySem.Spec PyProof.Rows
section
variable {K : PySem.W.Frag} {Er : Exc -> Hp -> Prop} {S : SC} {OO OO' OO2 : List (List Xt)} {σ : St} {α β γ ρ ι : Type} {α1 α2 α3 α4 α5 α6 : Type}
noncomputable def noE (m : Res α) : Res α:=match m with
  | .ok a=>.ok a
  | _=>.bad
theorem KG {m : Res α} {a : α} (h : noE m = .ok a) : m = .ok a:=by
  cases m with
  | ok b=>exact h
  | bad=>cases h
  | err x=>cases h
theorem KC {m : Res α} {x : Exc} : noE m ≠ .err x:=by cases m <;> exact fun z=>nomatch z
noncomputable def FF (K : PySem.W.Frag) (o : OE α) (Q : VK) (a : α) (H : Hp) : Prop:=∀ v C H', W [C] H' -> Xm H (hid H' [C]) -> o K (hid H' [C]) v a C -> Q v H'
noncomputable def sp1 (r1 : Enc α1) (o : OE ρ) (f : α1 -> Res ρ) (K : PySem.W.Frag) : Sp:=fun vs H Q _=>∃ v1 a1 b, vs = [v1] /\ r1 K H v1 a1 /\ f a1 = .ok b /\ FF K o Q b H
noncomputable def sp2 (r1 : Enc α1) (r2 : Enc α2) (o : OE ρ) (f : α1 -> α2 -> Res ρ) (K : PySem.W.Frag) : Sp:=fun vs H Q _=>∃ v1 v2 a1 a2 b, vs = [v1, v2] /\ r1 K H v1 a1 /\ r2 K H v2 a2 /\ f a1 a2 = .ok b /\ FF K o Q b H
noncomputable def sp3 (r1 : Enc α1) (r2 : Enc α2) (r3 : Enc α3) (o : OE ρ) (f : α1 -> α2 -> α3 -> Res ρ) (K : PySem.W.Frag) : Sp:=fun vs H Q _=>∃ v1 v2 v3 a1 a2 a3 b, vs = [v1, v2, v3] /\ r1 K H v1 a1 /\ r2 K H v2 a2 /\ r3 K H v3 a3 /\ f a1 a2 a3 = .ok b /\ FF K o Q b H
noncomputable def sp4 (r1 : Enc α1) (r2 : Enc α2) (r3 : Enc α3) (r4 : Enc α4) (o : OE ρ) (f : α1 -> α2 -> α3 -> α4 -> Res ρ) (K : PySem.W.Frag) : Sp:=fun vs H Q _=>∃ v1 v2 v3 v4 a1 a2 a3 a4 b, vs = [v1, v2, v3, v4] /\ r1 K H v1 a1 /\ r2 K H v2 a2 /\ r3 K H v3 a3 /\ r4 K H v4 a4 /\ f a1 a2 a3 a4 = .ok b /\ FF K o Q b H
theorem HV {C : List Xt} {H H' : Hp} (w : W OO H) (w' : W [C] H') (m' : Xm H (hid H' [C])) : W (C :: OO) H' /\ Xm (hid H OO) (hid H' (C :: OO)) /\ Q8 (hid H' [C]) (hid H' (C :: OO)):=by
  have s : Xm H H':=m'.trans Xq
  have f1 : fl [C] = C.map (·.1):=by simp [fl]
  have hd : ∀ b, b ∈ fl OO -> b ∉ C.map (·.1):=fun b hb hc=>by
    obtain ⟨u, hu⟩:=FE hb
    exact (Yx (m' _ _ (w.tr _ hu))).2 (by rw [f1]; exact hc)
  have w2 : W (C :: OO) H':=by
    refine ⟨fun c hc=>?_, ?_, fun c hc=>?_⟩
    . rw [List.flatten_cons, List.mem_append] at hc
      rcases hc with hc | hc
      . exact w'.tr c (by simp [hc])
      . exact s _ _ (w.tr c hc)
    . rw [Zq]
      refine List.nodup_append.mpr ⟨by rw [← f1]; exact w'.nd, w.nd, fun a ha b hb e=>?_⟩
      subst e; exact hd a hb ha
    . rw [List.flatten_cons, List.mem_append] at hc
      rcases hc with hc | hc
      . exact w'.mu c (by simp [hc])
      . exact w.mu c hc
  refine ⟨w2, fun b u q=>?_, fun b u q i=>?_⟩
  . obtain ⟨q1, q2⟩ := Yx q
    obtain ⟨q3, q4⟩:=Yx (m' _ _ q1)
    refine QI q3 ?_
    rw [Zq, List.mem_append]
    exact fun z=>z.elim (fun z=>q4 (by rw [f1]; exact z)) q2
  . exact w2.i b u (Yx q).1 i
theorem Q5 {o : OE α} [z : FlatO o] {Q : VK} {b : α} {H : Hp} (w : W OO H) (P : FO K OO OO o Q b H) : FF K o Q b H:=fun v C H' w' m' ho=>by
  obtain ⟨w2, h2, h3⟩:=HV w w' m'
  exact P v C H' (m'.trans Xq) w2 h2 (z.flat h3 ho)
theorem YS {ta : TE} {r1 : Enc α1} {o : OE ρ} [FlatO o] {f : α1 -> Res ρ} {ma : Res α1} (ha : EvB K Er S OO σ ta r1 ma) : Ev K Er S OO OO σ (VA (sp1 r1 o f K) [] E0 (XG ta ZM)) o (ma.bind fun a=>noE (f a)):=fun H Q w s P=>
  ha.run w s FO.tr P fun a x H1 s1 w1 q1 r1 P1=>by
    obtain ⟨b, hb, P2⟩:=P1.okOf fun x=>KC
    exact ⟨x, a, b, rfl, r1, KG hb, Q5 w1 P2⟩
theorem Ym {ta tb : TE} {r1 : Enc α1} {r2 : Enc α2} [z1 : MonoE r1] {o : OE ρ} [FlatO o] {f : α1 -> α2 -> Res ρ} {ma : Res α1} {mb : Res α2} (ha : EvB K Er S OO σ ta r1 ma) (hb : EvB K Er S OO σ tb r2 mb) :
    Ev K Er S OO OO σ (VA (sp2 r1 r2 o f K) [] E0 (XG ta (XG tb ZM))) o (ma.bind fun a=>mb.bind fun b=>noE (f a b)):=fun H Q w s P=>
  ha.run w s FO.tr P fun a x H1 s1 w1 q1 r1 P1=>hb.run w1 q1 FO.tr P1 fun b y H2 s2 w2 q2 r2 P2=>by
    obtain ⟨c, hc, P3⟩:=P2.okOf fun x=>KC
    exact ⟨x, y, a, b, c, rfl, z1.mono s2 r1, r2, KG hc, Q5 w2 P3⟩
theorem ZL {ta tb tc : TE} {r1 : Enc α1} {r2 : Enc α2} {r3 : Enc α3} [z1 : MonoE r1] [z2 : MonoE r2] {o : OE ρ} [FlatO o] {f : α1 -> α2 -> α3 -> Res ρ} {ma : Res α1} {mb : Res α2} {mc : Res α3} (ha : EvB K Er S OO σ ta r1 ma) (hb : EvB K Er S OO σ tb r2 mb) (hc : EvB K Er S OO σ tc r3 mc) :
    Ev K Er S OO OO σ (VA (sp3 r1 r2 r3 o f K) [] E0 (XG ta (XG tb (XG tc ZM)))) o (ma.bind fun a=>mb.bind fun b=>mc.bind fun c=>noE (f a b c)):=fun H Q w s P=>
  ha.run w s FO.tr P fun a x H1 s1 w1 q1 r1 P1=>hb.run w1 q1 FO.tr P1 fun b y H2 s2 w2 q2 r2 P2=>hc.run w2 q2 FO.tr P2 fun c z H3 s3 w3 q3 r3 P3=>by
    obtain ⟨d, hd, P4⟩:=P3.okOf fun x=>KC
    exact ⟨x, y, z, a, b, c, d, rfl, z1.mono (s2.trans s3) r1, z2.mono s3 r2, r3, KG hd, Q5 w3 P4⟩
theorem DT {ta tb tc td : TE} {r1 : Enc α1} {r2 : Enc α2} {r3 : Enc α3} {r4 : Enc α4} [z1 : MonoE r1] [z2 : MonoE r2] [z3 : MonoE r3] {o : OE ρ} [FlatO o] {f : α1 -> α2 -> α3 -> α4 -> Res ρ} {ma : Res α1} {mb : Res α2} {mc : Res α3} {md : Res α4} (ha : EvB K Er S OO σ ta r1 ma) (hb : EvB K Er S OO σ tb r2 mb) (hc : EvB K Er S OO σ tc r3 mc) (hd : EvB K Er S OO σ td r4 md) :
    Ev K Er S OO OO σ (VA (sp4 r1 r2 r3 r4 o f K) [] E0 (XG ta (XG tb (XG tc (XG td ZM))))) o (ma.bind fun a=>mb.bind fun b=>mc.bind fun c=>md.bind fun d=>noE (f a b c d)):=fun H Q w s P=>
  ha.run w s FO.tr P fun a x H1 s1 w1 q1 r1 P1=>hb.run w1 q1 FO.tr P1 fun b y H2 s2 w2 q2 r2 P2=>hc.run w2 q2 FO.tr P2 fun c z H3 s3 w3 q3 r3 P3=>hd.run w3 q3 FO.tr P3 fun d u H4 s4 w4 q4 r4 P4=>by
    obtain ⟨e, he, P5⟩:=P4.okOf fun x=>KC
    exact ⟨x, y, z, u, a, b, c, d, e, rfl, z1.mono (s2.trans (s3.trans s4)) r1, z2.mono (s3.trans s4) r2, z3.mono s4 r3, r4, KG he, Q5 w4 P5⟩
structure Jn (γ ι : Type) where
  oo : ι -> List (List Xt)
  ss : ι -> St
  sc : γ -> ι -> SC
inductive Ctl (ρ γ : Type) where
  | ret (r : ρ) | nx (g : γ)
noncomputable def FTd (K : PySem.W.Frag) (o : OE ρ) (D : Ends) (r : ρ) (h : Hp) : Prop:=∀ v C OO' H', W (C :: OO') H' -> Xm h (hid H' (C :: OO')) -> o K (hid H' (C :: OO')) v r C -> D.rt v H'
noncomputable def FNd (J : Jn γ ι) (D : Ends) (g : γ) (h : Hp) : Prop:=∀ x H', W (J.oo x) H' -> Xm h (hid H' (J.oo x)) -> (J.sc g x).p (hid H' (J.oo x)) -> D.nx (J.ss x) H'
noncomputable def FCd (K : PySem.W.Frag) (o : OE ρ) (J : Jn γ ι) (D : Ends) (c : Ctl ρ γ) (h : Hp) : Prop:=match c with
  | .ret r=>FTd K o D r h
  | .nx g=>FNd J D g h
class FdOk (Fd : Ends -> β -> Hp -> Prop) : Prop where
  tr : ∀ D b h h', Xm h h' -> Fd D b h -> Fd D b h'
instance {o : OE ρ} : FdOk (FTd K o):=⟨fun D b h h' s q v C O H' w m x=>q v C O H' w (s.trans m) x⟩
instance {J : Jn γ ι} : FdOk (FNd J):=⟨fun D b h h' s q x H' w m y=>q x H' w (s.trans m) y⟩
instance {o : OE ρ} {J : Jn γ ι} : FdOk (FCd K o J):=⟨fun D b h h' s q=>by
  cases b with
  | ret r=>exact fun v C O H' w m x=>q v C O H' w (s.trans m) x
  | nx g=>exact fun x H' w m y=>q x H' w (s.trans m) y⟩
theorem PZ.tr {F : β -> Hp -> Prop} (hF : ∀ b H H', Xm H H' -> F b H -> F b H') {H H' : Hp} {m : Res β} (s : Xm H H') (P : PZ Er F H m) : PZ Er F H' m:=by
  cases m with
  | bad=>exact P
  | err x=>exact fun H2 s2=>P H2 (s.trans s2)
  | ok b=>exact hF b H H' s P
noncomputable def Sv (Er : Exc -> Hp -> Prop) (S : SC) (OO : List (List Xt)) (σ : St) (t : TS) (Fd : Ends -> β -> Hp -> Prop) (m : Res β) : Prop:=∀ H D, W OO H -> S.p (hid H OO) -> PZ Er (Fd D) (hid H OO) m -> t D σ H
variable {Fd : Ends -> β -> Hp -> Prop} [fd : FdOk Fd] {u : TS}
theorem Ev.st {te : TE} {o : OE α} {m : Res α} (he : Ev K Er S OO OO' σ te o m) {H : Hp} {D : Ends} {Q : VK} (w : W OO H) (s : S.p (hid H OO)) {f : α -> Res β} (P : PZ Er (Fd D) (hid H OO) (m.bind f))
    (hk : ∀ a v C H', W (C :: OO') H' -> S.p (hid H' (C :: OO')) -> o K (hid H' (C :: OO')) v a C -> PZ Er (Fd D) (hid H' (C :: OO')) (f a) -> Q v H') : te σ H Q:=by
  refine he H Q w s ?_
  cases m with
  | bad=>exact P
  | err x=>exact fun H' s'=>P H' (Xq.trans s')
  | ok a=>exact fun v C H' s' w' m' ho=>hk a v C H' w' (S.mono _ _ m' s) ho (PZ.tr (fd.tr D) m' P)
theorem EvB.st {te : TE} {r : Enc α} {m : Res α} (he : EvB K Er S OO σ te r m) {H : Hp} {D : Ends} {Q : VK} (w : W OO H) (s : S.p (hid H OO)) {f : α -> Res β} (P : PZ Er (Fd D) (hid H OO) (m.bind f))
    (hk : ∀ a v H', Xm H H' -> W OO H' -> S.p (hid H' OO) -> r K H' v a -> PZ Er (Fd D) (hid H' OO) (f a) -> Q v H') : te σ H Q:=by
  refine he H Q w s ?_
  cases m with
  | bad=>exact P
  | err x=>exact fun H' s'=>P H' (Xq.trans s')
  | ok a=>exact fun v H' s' hr=>hk a v H' s' (w.keep s') (S.mono _ _ (Xi s') s) hr (PZ.tr (fd.tr D) (Xi s') P)
theorem EvS.st {te : TE} {r : Enc α} {m : Res α} (he : EvS K Er S OO σ te r m) {H : Hp} {D : Ends} {Q : VK} (w : W OO H) (s : S.p (hid H OO)) {f : α -> Res β} (P : PZ Er (Fd D) (hid H OO) (m.bind f))
    (hk : ∀ a v H', Xm H H' -> W OO H' -> S.p (hid H' OO) -> r K (hid H' OO) v a -> PZ Er (Fd D) (hid H' OO) (f a) -> Q v H') : te σ H Q:=by
  refine he H Q w s ?_
  cases m with
  | bad=>exact P
  | err x=>exact fun H' s'=>P H' (Xq.trans s')
  | ok a=>exact fun v H' s' hr=>hk a v H' s' (w.keep s') (S.mono _ _ (Xi s') s) hr (PZ.tr (fd.tr D) (Xi s') P)
theorem EvT.st {tt : TT} {m : Res Bool} (he : EvT Er S OO σ tt m) {H : Hp} {D : Ends} {Q : Bool -> Hp -> Prop} (w : W OO H) (s : S.p (hid H OO)) {f : Bool -> Res β} (P : PZ Er (Fd D) (hid H OO) (m.bind f))
    (hk : ∀ b H', W OO H' -> S.p (hid H' OO) -> PZ Er (Fd D) (hid H' OO) (f b) -> Q b H') : tt σ H Q:=by
  refine he H Q w s ?_
  cases m with
  | bad=>exact P
  | err x=>exact fun H' s'=>P H' (Xq.trans s')
  | ok a=>exact fun H' s'=>hk a H' (w.keep s') (S.mono _ _ (Xi s') s) (PZ.tr (fd.tr D) (Xi s') P)
theorem Vy {OO : List (List Xt)} {k : Nat} {C : List Xt} : (OO.set k C).set k [] = OO.set k []:=by simp
theorem IP {C : List Xt} {H : Hp} {k : Nat} (w : W (C :: OO) H) (hk : k < OO.length) : W (OO.set k C) H /\ Xm (hid H (C :: OO)) (hid H (OO.set k C)):=by
  have h1:=X2 (OO:=OO) (k:=k) (C:=OO[k]) (by simp [hk])
  have h2:=X2 (OO:=OO.set k C) (k:=k) (C:=C) (by simp [hk])
  rw [Vy] at h2
  have h3 : (OO.set k C).flatten.Perm (C ++ (OO.set k []).flatten):=by simpa using h2.symm
  have h4 : (C :: OO).flatten.Perm (C ++ (OO[k] ++ (OO.set k []).flatten)):=by
    rw [List.flatten_cons]; exact (by simpa using h1.symm : OO.flatten.Perm (OO[k] ++ (OO.set k []).flatten)).append_left C
  have h5 : (C ++ (OO.set k []).flatten).Sublist (C ++ (OO[k] ++ (OO.set k []).flatten)):=List.Sublist.append (List.Sublist.refl _) (List.sublist_append_right _ _)
  have w1 : W [C ++ (OO[k] ++ (OO.set k []).flatten)] H:=w.of (by simpa using h4.symm)
  have w2 : W [C ++ (OO.set k []).flatten] H:=w1.sub (by simpa using h5)
  refine ⟨w2.of (by simpa using h3), Jw (Xm.refl _) fun b hb=>?_⟩
  obtain ⟨o, ho⟩:=FE hb
  exact JT (h4.mem_iff.mpr (h5.mem (h3.mem_iff.mp ho)))
theorem Yk {te : TE} {o : OE α} [MonoO o] {m : Res α} {f : α -> Res β} (i k : Nat) (he : Ev K Er S OO OO' σ te o m) (hk : k < OO'.length) (hr : ∀ a v C, Sv Er (S.addO K o v a C) (OO'.set k C) (σ.set i (some v)) u Fd (f a)) : Sv Er S OO σ (Jf (By te (YX i)) u) Fd (m.bind f):=fun H D w s P=>
  he.st w s P fun a v C H' w' s' ho P'=>by
    obtain ⟨w2, h2⟩:=IP w' hk
    exact hr a v C H' D w2 ⟨S.mono _ _ h2 s', MonoO.mono h2 ho⟩ (PZ.tr (fd.tr D) h2 P')
theorem XB {te : TE} {r : Enc α} [MonoE r] {m : Res α} {f : α -> Res β} (i : Nat) (he : EvS K Er S OO σ te r m) (hr : ∀ a v, Sv Er (S.add K r v a) OO (σ.set i (some v)) u Fd (f a)) : Sv Er S OO σ (Jf (By te (YX i)) u) Fd (m.bind f):=fun H D w s P=>
  he.st w s P fun a v H' s1 w' s' ho P'=>hr a v H' D w' ⟨s', ho⟩ P'
theorem Xz {te : TE} {o : OE ρ} {m : Res ρ} (he : Ev K Er S OO OO' σ te o m) : Sv Er S OO σ (Jf (Il te) u) (FTd K o) m:=fun H D w s P=>
  he H _ w s (by
    cases m with
    | bad=>exact P
    | err x=>exact fun H' s'=>P H' (Xq.trans s')
    | ok a=>exact fun v C H' s' w' m' ho=>P v C OO' H' w' m' ho)
theorem JJ {J : Jn γ ι} {t : TS} {o : OE ρ} {m : Res γ} (h : Sv Er S OO σ t (FNd J) m) : Sv Er S OO σ t (FCd K o J) (m.bind fun r=>.ok (.nx r)):=fun H D w s P=>h H D w s (by
  cases m with
  | bad=>exact P
  | err x=>exact P
  | ok a=>exact P)
theorem XD {J : Jn γ ι} (x : ι) (g : γ) (h1 : OO = J.oo x) (h2 : σ = J.ss x) (h3 : ∀ h, S.p h -> (J.sc g x).p h) : Sv Er S OO σ UQ (FNd J) (.ok g):=fun H D w s P=>by
  subst h1 h2
  exact P x H w (Xm.refl _) (h3 _ s)
theorem JA {o : OE ρ} {c : TT} {t1 : TS} {mc : Res Bool} {m1 m2 : Res ρ} (hc : EvT Er S OO σ c mc) (h1 : Sv Er S OO σ t1 (FTd K o) m1) (h2 : Sv Er S OO σ u (FTd K o) m2) : Sv Er S OO σ (Jf (ES c t1 UQ) u) (FTd K o) (mc.bind fun b=>if b = true then m1 else m2):=fun H D w s P=>
  hc.st (Fd:=FTd K o) w s P fun b H' w' s' P'=>by
    cases b with
    | true=>rw [if_pos rfl] at P' ⊢; exact h1 H' _ w' s' P'
    | false=>exact h2 H' D w' s' P'
theorem ZD {o : OE ρ} {J : Jn γ ι} {c : TT} {t1 : TS} {mc : Res Bool} {m1 : Res ρ} {m2 : Res (Ctl ρ γ)} (hc : EvT Er S OO σ c mc) (h1 : Sv Er S OO σ t1 (FTd K o) m1) (h2 : Sv Er S OO σ u (FCd K o J) m2) : Sv Er S OO σ (Jf (ES c t1 UQ) u) (FCd K o J) (mc.bind fun b=>if b = true then m1.bind (fun r=>.ok (.ret r)) else m2):=fun H D w s P=>
  hc.st (Fd:=FCd K o J) w s P fun b H' w' s' P'=>by
    cases b with
    | true=>
      rw [if_pos rfl] at P' ⊢
      refine h1 H' _ w' s' ?_
      cases m1 with
      | bad=>exact P'
      | err x=>exact P'
      | ok a=>exact P'
    | false=>exact h2 H' D w' s' P'
theorem JV {c : TT} {t1 t2 : TS} {mc : Res Bool} {m1 m2 : Res β} (hc : EvT Er S OO σ c mc) (h1 : Sv Er S OO σ t1 Fd m1) (h2 : Sv Er S OO σ t2 Fd m2) : Sv Er S OO σ (ES c t1 t2) Fd (mc.bind fun b=>if b = true then m1 else m2):=fun H D w s P=>
  hc.st w s P fun b H' w' s' P'=>by
    cases b with
    | true=>rw [if_pos rfl] at P' ⊢; exact h1 H' _ w' s' P'
    | false=>exact h2 H' D w' s' P'
theorem Qp {J : Jn γ ι} {t : TS} {m : Res γ} {f : γ -> Res β} (hb : Sv Er S OO σ t (FNd J) m) (hr : ∀ g x, Sv Er (J.sc g x) (J.oo x) (J.ss x) u Fd (f g)) : Sv Er S OO σ (Jf t u) Fd (m.bind f):=fun H D w s P=>
  hb H _ w s (by
    cases m with
    | bad=>exact P
    | err x=>exact P
    | ok g=>exact fun x H' w' m' q=>hr g x H' D w' q (PZ.tr (fd.tr D) m' P))
noncomputable def Z3 (f : γ -> Res ρ) : Ctl ρ γ -> Res ρ
  | .ret r=>.ok r
  | .nx g=>f g
noncomputable def QK {δ : Type} (f : γ -> Res (Ctl ρ δ)) : Ctl ρ γ -> Res (Ctl ρ δ)
  | .ret r=>.ok (.ret r)
  | .nx g=>f g
theorem Sv.weak {S2 : SC} {t : TS} {m : Res β} (h : Sv Er S2 OO σ t Fd m) (hs : ∀ x, S.p x -> S2.p x) : Sv Er S OO σ t Fd m:=fun H D w s P=>h H D w (hs _ s) P
theorem IT {C D C' : List Xt} {H : Hp} {k : Nat} {p : Addr} {o : HO} (w : W (D :: OO) H) (hk : OO[k]? = some C) (hp : p ∈ C.map (·.1)) (hC : (C'.map (·.1)).Perm ((C ++ D).map (·.1))) (ht : ∀ c ∈ C', upd H p o c.1 = some c.2) (hm : ∀ c ∈ C', Eg c.2 = true) :
    W (OO.set k C') (upd H p o) /\ hid (upd H p o) (OO.set k C') = hid H (D :: OO):=by
  have hlt : k < OO.length:=by
    rcases Nat.lt_or_ge k OO.length with h | h
    . exact h
    . rw [List.getElem?_eq_none h] at hk; cases hk
  have h1:=X2 hk
  have h2:=X2 (OO:=OO.set k C') (k:=k) (C:=C') (by simp [hlt])
  rw [Vy] at h2
  have h3 : (OO.set k C').flatten.Perm (C' ++ (OO.set k []).flatten):=by simpa using h2.symm
  have h4 : (D :: OO).flatten.Perm (D ++ (C ++ (OO.set k []).flatten)):=by
    rw [List.flatten_cons]; exact (by simpa using h1.symm : OO.flatten.Perm (C ++ (OO.set k []).flatten)).append_left D
  have hfl : (fl (OO.set k C')).Perm (fl (D :: OO)):=by
    unfold fl
    refine (h3.map _).trans (List.Perm.trans ?_ (h4.map _).symm)
    simp only [List.map_append]
    refine (hC.append_right _).trans ?_
    simp only [List.map_append]
    rw [← List.append_assoc]
    exact List.perm_append_comm.append_right _
  have nd:=w.nd
  refine ⟨⟨fun c hc=>?_, hfl.nodup_iff.mpr nd, fun c hc=>?_⟩, ?_⟩
  . rcases List.mem_append.mp (h3.mem_iff.mp hc) with hc | hc
    . exact ht c hc
    . have hne : c.1 ≠ p:=fun e=>by
        have nd2 : ((D ++ (C ++ (OO.set k []).flatten)).map (·.1)).Nodup:=(h4.map _).nodup_iff.mp nd
        simp only [List.map_append] at nd2
        have nd3:=(List.nodup_append.mp nd2).2.1
        exact (List.nodup_append.mp nd3).2.2 p hp c.1 (List.mem_map.mpr ⟨c, hc, rfl⟩) e.symm
      rw [XA hne]
      exact w.tr c (h4.mem_iff.mpr (by simp [hc]))
  . rcases List.mem_append.mp (h3.mem_iff.mp hc) with hc | hc
    . exact hm c hc
    . exact w.mu c (h4.mem_iff.mpr (by simp [hc]))
  . funext b
    unfold hid
    by_cases hb : b ∈ fl (D :: OO)
    . rw [if_pos hb, if_pos (hfl.mem_iff.mpr hb)]
    . rw [if_neg hb, if_neg fun z => hb (hfl.mem_iff.mp z)]
      refine XA fun e=>hb ?_
      rw [e]
      obtain ⟨c, hc, rfl⟩:=List.mem_map.mp hp
      exact JT (h4.mem_iff.mpr (by simp [hc]))
theorem Zj {Cs : List (List Xt)} {D : List Xt} : (Cs ++ [D]).flatten = Cs.flatten ++ D:=by simp
theorem ZC {ta : TE} {o : OE α} [MonoO o] {m : Res α} {f : List α -> Res β} {v : V} {as : List α} {C : List Xt} (i k : Nat) (hσ : σ[i]? = some (some v)) (hk : OO[k]? = some C) (hk' : OO'[k]? = some C) (h : ∀ x, S.p x -> oL o K x v as C) (he : Ev K Er S OO OO' σ ta o m)
    (hr : ∀ a C', Sv Er (S.addO K (oL o) v (as ++ [a]) C') (OO'.set k C') σ u Fd (f (as ++ [a]))) : Sv Er S OO σ (Jf (FZ (tBM K "list" UR (KM i) (XG ta ZM))) u) Fd (m.bind fun a=>chk (as.length < sizeLine) (f (as ++ [a]))):=fun H D w s P=>by
  obtain ⟨p, xs, Cs, e, q, c⟩:=h _ s
  subst c
  have hH : H p = some (.lst xs):=w.tr (p, .lst xs) (List.mem_flatten.mpr ⟨_, List.mem_of_getElem? hk, List.mem_cons_self⟩)
  refine ⟨v, hσ, by rw [e]; exact .inl ⟨rfl, _, SqL.of hH⟩, he.st w s P fun a y D' H' w' s' ho P'=>?_⟩
  obtain ⟨p', xs', Cs', e2, q2, c2⟩:=h _ s'
  rw [e] at e2; cases e2
  have c3 : (p, HO.lst xs) = (p, HO.lst xs') /\ Cs.flatten = Cs'.flatten:=by
    injection c2 with h1 h2
    exact ⟨h1, h2⟩
  obtain ⟨c3, c4⟩:=c3
  cases c3
  have hH' : H' p = some (.lst xs):=w'.tr (p, .lst xs) (by rw [List.flatten_cons]; exact List.mem_append_right _ (List.mem_flatten.mpr ⟨_, List.mem_of_getElem? hk', List.mem_cons_self⟩))
  cases hlt : decide (as.length < sizeLine) with
  | false=>rw [chk, if_neg (by simpa using hlt)] at P'; exact P'.elim
  | true=>
    have hlt' : as.length < sizeLine:=by simpa using hlt
    rw [Xv hlt'] at P'
    have wnd:=w'.nd
    have hcell : ∀ c ∈ (p, HO.lst (xs ++ [y])) :: (Cs' ++ [D']).flatten, upd H' p (.lst (xs ++ [y])) c.1 = some c.2:=fun c hc=>by
      rcases List.mem_cons.mp hc with rfl | hc
      . exact Yu
      . have hp1 := X2 hk'
        have w3 : W [D' ++ (((p, HO.lst xs) :: Cs.flatten) ++ (OO'.set k []).flatten)] H':=w'.of (by
          simp only [List.flatten_cons, List.flatten_nil, List.append_nil]
          exact (by simpa using hp1 : (((p, HO.lst xs) :: Cs.flatten) ++ (OO'.set k []).flatten).Perm OO'.flatten).append_left D')
        have hin : c ∈ D' ++ (((p, HO.lst xs) :: Cs.flatten) ++ (OO'.set k []).flatten):=by
          rw [Zj, List.mem_append] at hc
          rcases hc with hc | hc
          . rw [← c4] at hc; simp [hc]
          . simp [hc]
        have hne : c.1 ≠ p:=fun ee=>by
          have nd3:=w3.nd
          rw [Zj, List.mem_append, ← c4] at hc
          simp only [fl, List.flatten_cons, List.flatten_nil, List.append_nil, List.map_append, List.cons_append, List.map_cons] at nd3
          rw [List.nodup_append] at nd3
          obtain ⟨_, n2, n3⟩:=nd3
          rcases hc with hc | hc
          . exact (List.nodup_cons.mp n2).1 (List.mem_append_left _ (List.mem_map.mpr ⟨c, hc, ee⟩))
          . exact n3 c.1 (List.mem_map.mpr ⟨c, hc, rfl⟩) p List.mem_cons_self ee
        rw [XA hne]
        exact w3.tr c (by simpa using hin)
    obtain ⟨w4, h4⟩:=IT (C':=(p, .lst (xs ++ [y])) :: (Cs' ++ [D']).flatten) w' hk' List.mem_cons_self (by simp [Zj, c4]) hcell (fun c hc=>by
      rcases List.mem_cons.mp hc with rfl | hc
      . rfl
      . rw [Zj, List.mem_append, ← c4] at hc
        rcases hc with hc | hc
        . exact w'.mu c (by rw [List.flatten_cons]; exact List.mem_append_right _ (List.mem_flatten.mpr ⟨_, List.mem_of_getElem? hk', List.mem_cons_of_mem _ hc⟩))
        . exact w'.mu c (by rw [List.flatten_cons]; exact List.mem_append_left _ hc))
    refine ⟨p, xs, y, e, rfl, hH', by rw [(P3.len q).1]; exact hlt', ?_⟩
    refine hr a _ _ D w4 ?_ (by rw [h4]; exact P')
    rw [h4]
    exact ⟨s', ⟨p, xs ++ [y], Cs' ++ [D'], e, q2.snoc ho, rfl⟩⟩
end
end L2
namespace L2
open PySem PySem.Spec PyProof.Rows
section
variable {K : PySem.W.Frag} {Er : Exc -> Hp -> Prop} {S : SC} {OO OO' OO2 : List (List Xt)} {σ : St} {α β γ ρ ι δ ε : Type}
variable {Fd : Ends -> β -> Hp -> Prop} [fd : FdOk Fd] {u : TS}
noncomputable def forN : List α -> γ -> (γ -> α -> Res γ) -> Res γ
  | [], g, _=>.ok g
  | a :: as, g, f=>(f g a).bind fun g'=>forN as g' f
noncomputable def forC : List α -> γ -> (γ -> α -> Res (Ctl ρ γ)) -> Res (Ctl ρ γ)
  | [], g, _=>.ok (.nx g)
  | a :: as, g, f=>(f g a).bind fun c=>match c with
    | .ret r=>.ok (.ret r)
    | .nx g'=>forC as g' f
theorem Yo {m : Res α} {f : α -> Res β} {g : β -> Res γ} : (m.bind f).bind g = m.bind fun a=>(f a).bind g:=by cases m <;> rfl
structure Tgt (K : PySem.W.Frag) (OO : List (List Xt)) (g : TG) (r : Enc α) (κ : Type) where
  set : κ -> St -> St
  sc : α -> κ -> SC -> SC
  ok : ∀ {H : Hp} {v : V} {a : α} {σ : St} {S : SC} {Q : St -> Hp -> Prop}, r K (hid H OO) v a -> S.p (hid H OO) -> (∀ x, (sc a x S).p (hid H OO) -> Q (set x σ) H) -> g v σ H Q
noncomputable def tg1 {r : Enc α} [MonoE r] (i : Nat) : Tgt K OO (YX i) r V where
  set:=fun v σ=>σ.set i (some v)
  sc:=fun a v S=>S.add K r v a
  ok:=fun {H v a σ S Q} hr hs hq=>hq v ⟨hs, hr⟩
noncomputable def tg2 {r : Enc α} {q : Enc β} [MonoE r] [MonoE q] (i j : Nat) : Tgt K OO (B0 K 2 (ZN (YX i) (ZN (YX j) Ek))) (rP2 r q) (V × V) where
  set:=fun v σ=>(σ.set i (some v.1)).set j (some v.2)
  sc:=fun a v S=>(S.add K r v.1 a.1).add K q v.2 a.2
  ok:=fun {H v a σ S Q} ⟨p, x, y, e, h, h1, h2⟩ hs hq=>⟨p, _, e, SqT.of (Xq _ _ h), rfl, x, [y], rfl, y, [], rfl, rfl, hq (x, y) ⟨⟨hs, h1⟩, h2⟩⟩
noncomputable def tg3 {r : Enc α} {q : Enc β} {t : Enc γ} [MonoE r] [MonoE q] [MonoE t] (i j k : Nat) : Tgt K OO (B0 K 3 (ZN (YX i) (ZN (YX j) (ZN (YX k) Ek)))) (rP3 r q t) (V × V × V) where
  set:=fun v σ=>((σ.set i (some v.1)).set j (some v.2.1)).set k (some v.2.2)
  sc:=fun a v S=>((S.add K r v.1 a.1).add K q v.2.1 a.2.1).add K t v.2.2 a.2.2
  ok:=fun {H v a σ S Q} ⟨p, x, y, z, e, h, h1, h2, h3⟩ hs hq=>⟨p, _, e, SqT.of (Xq _ _ h), rfl, x, [y, z], rfl, y, [z], rfl, z, [], rfl, rfl, hq (x, y, z) ⟨⟨⟨hs, h1⟩, h2⟩, h3⟩⟩
structure Walk (K : PySem.W.Frag) (Er : Exc -> Hp -> Prop) (S : SC) (OO : List (List Xt)) (σ : St) (wi : TI) (r : Enc α) (m : Res (List α)) : Prop where
  ok : ∀ {H : Hp} {R : It -> Hp -> Prop}, W OO H -> S.p (hid H OO) -> PZ Er (fun as H=>∀ J H', Xm H H' ->
      (∀ (i : Nat) a, as[i]? = some a -> ∀ OO2 H2, W OO2 H2 -> Xm (hid H' OO) (hid H2 OO2) -> J.go i H2 /\ ∀ x H3, J.yld i H2 x H3 -> Xm H2 H3 /\ r K (hid H3 OO2) x a) ->
      (∀ OO2 H2, W OO2 H2 -> Xm (hid H' OO) (hid H2 OO2) -> J.stop as.length H2) -> R J H') H m -> wi σ H R
theorem XH {te : TE} {r : Enc α} [z : MonoE r] {m : Res (List α)} (he : EvS K Er S OO σ te (rV r) m) : Walk K Er S OO σ (BA K te) r m:=⟨fun {H R} w s P=>by
  refine he H _ w s (P.imp fun as _ h v H' s' ⟨p, xs, e, hp, pr⟩=>⟨p, e, ⟨xs, SqL.of (Xq _ _ hp)⟩, h _ H' s' ?_ ?_⟩)
  . intro i a ha OO2 H2 w2 m2
    obtain ⟨x, hx, rx⟩:=Paired.getR pr ha
    have hq : SqL K H2 p xs:=SqL.of (Xq _ _ (m2 _ _ hp))
    refine ⟨⟨xs, x, hq, hx⟩, fun y H3 ⟨e3, hy⟩=>?_⟩
    subst e3
    refine ⟨Xm.refl _, ?_⟩
    have:=hy xs hq
    rw [hx] at this
    cases this
    exact z.mono m2 rx
  . intro OO2 H2 w2 m2
    exact ⟨xs, SqL.of (Xq _ _ (m2 _ _ hp)), by rw [Paired.len pr]; exact Nat.le_refl _⟩⟩
noncomputable def Uk (as : List α) : List (Int × α):=(List.range as.length).map (fun (i : Nat)=>(i : Int)) |>.zip as
theorem V1 {as : List α} {i : Nat} {p : Int × α} (h : (Uk as)[i]? = some p) : p.1 = (i : Int) /\ as[i]? = some p.2:=by
  unfold Uk at h
  rw [List.getElem?_zip_eq_some] at h
  obtain ⟨h1, h2⟩:=h
  rw [List.getElem?_map] at h1
  have hlt : i < as.length:=by
    rcases Nat.lt_or_ge i as.length with q | q
    . exact q
    . rw [List.getElem?_eq_none q] at h2; cases h2
  rw [List.getElem?_range hlt] at h1
  exact ⟨(Option.some.inj h1).symm, h2⟩
theorem Fb {as : List α} : (Uk as).length = as.length:=by simp [Uk]
theorem G9 {te : TE} {r : Enc α} [z : MonoE r] {m : Res (List α)} (he : EvS K Er S OO σ te (rV r) m) : Walk K Er S OO σ (EB K te) (rP2 Xa r) (m.bind fun as=>.ok (Uk as)):=⟨fun {H R} w s P=>by
  refine he H _ w s ?_
  cases em : m with
  | bad=>rw [em] at P; exact P
  | err x=>rw [em] at P; exact P
  | ok as=>
    rw [em] at P
    intro v H' s' ⟨p, xs, e, hp, pr⟩
    refine ⟨p, e, ⟨xs, SqL.of (Xq _ _ hp)⟩, P _ H' s' ?_ ?_⟩
    . intro i a ha OO2 H2 w2 m2
      obtain ⟨ha1, ha2⟩:=V1 ha
      obtain ⟨x, hx, rx⟩:=Paired.getR pr ha2
      have hq : SqL K H2 p xs:=SqL.of (Xq _ _ (m2 _ _ hp))
      refine ⟨⟨xs, x, hq, hx⟩, fun y H3 h3=>?_⟩
      obtain ⟨b, x', rfl, hb, rfl, hy⟩:=h3
      have:=hy xs hq
      rw [hx] at this
      cases this
      refine ⟨XE hb _, ⟨b, .int i, x, rfl, Z7 w2 hb, by show V.int _ = V.int _; rw [ha1], z.mono (m2.trans (Xi (XE hb _))) rx⟩⟩
    . intro OO2 H2 w2 m2
      exact ⟨xs, SqL.of (Xq _ _ (m2 _ _ hp)), by rw [Fb, Paired.len pr]; exact Nat.le_refl _⟩⟩
theorem JX {lo hi : Int} {i : Nat} {a : Int} (h : (Zi lo hi)[i]? = some a) : a = lo + i /\ i < (hi - lo).toNat:=by
  unfold Zi at h
  rw [List.getElem?_map] at h
  rcases Nat.lt_or_ge i (hi - lo).toNat with q | q
  . rw [List.getElem?_range q] at h; exact ⟨(Option.some.inj h).symm, q⟩
  . rw [List.getElem?_eq_none (by simpa using q)] at h; cases h
theorem J1 {lo hi : Int} : (Zi lo hi).length = (hi - lo).toNat:=by simp [Zi]
noncomputable def VM (lo hi : Int) : Res (List Int):=chk (-(2 ^ 62) <= lo /\ lo < 2 ^ 62 /\ -(2 ^ 62) <= hi /\ hi < 2 ^ 62) (.ok (Zi lo hi))
theorem XL {te : TE} {m : Res Int} (he : EvB K Er S OO σ te Xa m) : Walk K Er S OO σ (E8 (XG te ZM)) Xa (m.bind fun n=>VM 0 n):=⟨fun {H R} w s P=>
  he.run w s (fun as H H' s' h J H2 s2=>h J H2 (s'.trans s2)) P fun n v H1 s1 w1 q1 r1 P1=>by
    obtain ⟨c, hc, P2⟩:=P1.okOf fun x=>ZA
    obtain ⟨⟨_, _, h1, h2⟩, h3⟩:=YR hc
    cases h3
    refine ⟨n, by rw [show v = .int n from r1], h1, h2, P2 _ H1 (Xm.refl _) (fun i a ha OO2 H2 w2 m2=>?_) fun OO2 H2 w2 m2=>?_⟩
    . obtain ⟨e1, e2⟩ := JX ha
      rw [Int.sub_zero] at e2
      refine ⟨e2, fun x H3 ⟨e3, e4⟩=>?_⟩
      subst e3
      exact ⟨Xm.refl _, by rw [e4, e1]; rfl⟩
    . show n.toNat <= _
      rw [J1, Int.sub_zero]; exact Nat.le_refl _⟩
theorem UC {ta tb : TE} {ma mb : Res Int} (ha : EvB K Er S OO σ ta Xa ma) (hb : EvB K Er S OO σ tb Xa mb) : Walk K Er S OO σ (HG (XG ta (XG tb ZM))) Xa (ma.bind fun lo=>mb.bind fun n=>VM lo n):=⟨fun {H R} w s P=>
  ha.run w s (fun as H H' s' h J H2 s2=>h J H2 (s'.trans s2)) P fun lo v H1 s1 w1 q1 r1 P1=>hb.run w1 q1 (fun as H H' s' h J H2 s2=>h J H2 (s'.trans s2)) P1 fun n v2 H2 s2 w2 q2 r2 P2'=>by
    obtain ⟨c, hc, P2⟩:=P2'.okOf fun x=>ZA
    obtain ⟨h1, h3⟩:=YR hc
    cases h3
    refine ⟨lo, n, by rw [show v = .int lo from r1, show v2 = .int n from r2], h1, P2 _ H2 (Xm.refl _) (fun i a ha OO2 H3 w3 m3=>?_) fun OO2 H3 w3 m3=>?_⟩
    . obtain ⟨e1, e2⟩ := JX ha
      refine ⟨e2, fun x H4 ⟨e3, e4⟩=>?_⟩
      subst e3
      exact ⟨Xm.refl _, by rw [e4, e1]; rfl⟩
    . show (n - lo).toNat <= _
      rw [J1]; exact Nat.le_refl _⟩
theorem YN {wi : TI} {g : TG} {tb : TS} {r : Enc α} {κ : Type} {m : Res (List α)} {body : γ -> α -> Res γ} {f : γ -> Res β} (J : Jn γ ι) (T : ∀ OO, Tgt K OO g r κ) (x0 : ι) (g0 : γ) (he : Walk K Er S OO σ wi r m) (h1 : OO = J.oo x0) (h2 : σ = J.ss x0) (h3 : ∀ h, S.p h -> (J.sc g0 x0).p h)
    (hb : ∀ g x a v, Sv Er ((T (J.oo x)).sc a v (J.sc g x)) (J.oo x) ((T (J.oo x)).set v (J.ss x)) tb (FNd J) (body g a))
    (hr : ∀ g x, Sv Er (J.sc g x) (J.oo x) (J.ss x) u Fd (f g)) : Sv Er S OO σ (Jf (HJ wi g tb) u) Fd (m.bind fun as=>(forN as g0 body).bind f):=fun H D w s P=>by
  refine he.ok w s ?_
  cases em : m with
  | bad=>rw [em] at P; exact P
  | err x=>rw [em] at P; exact fun H' s'=>P H' (Xq.trans s')
  | ok as=>
    rw [em] at P
    have P : PZ Er (Fd D) (hid H OO) ((forN as g0 body).bind f):=P
    intro It H' s' hgo hstop
    refine ⟨fun i mm σ' H2=>mm = as.length - i /\ i <= as.length /\ ∃ x gg, σ' = J.ss x /\ W (J.oo x) H2 /\ Xm (hid H' OO) (hid H2 (J.oo x)) /\ (J.sc gg x).p (hid H2 (J.oo x)) /\ PZ Er (Fd D) (hid H2 (J.oo x)) ((forN (as.drop i) gg body).bind f), ⟨as.length, rfl, Nat.zero_le _, x0, g0, h2, ?_, ?_, ?_, ?_⟩, ?_⟩
    . rw [← h1]; exact w.keep s'
    . rw [← h1]; exact Xm.refl _
    . rw [← h1]; exact h3 _ (S.mono _ _ (Xi s') s)
    . rw [← h1, List.drop_zero]; exact PZ.tr (fd.tr D) (Xi s') P
    . rintro i mm σ' H2 ⟨rfl, hi, x, gg, rfl, w2, m2, sc2, P2⟩
      by_cases hlt : i < as.length
      . right
        have ha : as[i]? = some as[i]:=by simp [hlt]
        obtain ⟨h4, h5⟩:=hgo i _ ha (J.oo x) H2 w2 m2
        refine ⟨h4, fun σ3 H3=>∃ x gg, σ3 = J.ss x /\ W (J.oo x) H3 /\ Xm (hid H' OO) (hid H3 (J.oo x)) /\ (J.sc gg x).p (hid H3 (J.oo x)) /\ PZ Er (Fd D) (hid H3 (J.oo x)) ((forN (as.drop (i + 1)) gg body).bind f), fun σ3 H3 q=>⟨as.length - (i + 1), Nat.sub_lt_sub_left hlt (Nat.lt_succ_self i), rfl, hlt, q⟩, fun y H3 hy=>?_⟩
        obtain ⟨s3, r3⟩:=h5 y H3 hy
        have w3:=w2.keep s3
        have m3:=Xi (OO:=J.oo x) s3
        refine (T (J.oo x)).ok r3 ((J.sc gg x).mono _ _ m3 sc2) fun v hv=>hb gg x as[i] v H3 _ w3 hv ?_
        rw [List.drop_eq_getElem_cons hlt] at P2
        have P3 : PZ Er (Fd D) (hid H2 (J.oo x)) ((body gg as[i]).bind fun g'=>(forN (as.drop (i + 1)) g' body).bind f):=by rw [← Yo]; exact P2
        cases eb : body gg as[i] with
        | bad=>rw [eb] at P3; exact P3
        | err x=>rw [eb] at P3; exact fun H4 s4=>P3 H4 (m3.trans s4)
        | ok g'=>
          rw [eb] at P3
          exact fun x' H4 w4 m4 sc4=>⟨x', g', rfl, w4, m2.trans (m3.trans m4), sc4, PZ.tr (fd.tr D) (m3.trans m4) P3⟩
      . left
        have e : i = as.length:=Nat.le_antisymm hi (Nat.not_lt.mp hlt)
        subst e
        refine ⟨hstop (J.oo x) H2 w2 m2, hr gg x H2 D w2 sc2 ?_⟩
        rw [List.drop_length] at P2
        exact P2
theorem Vw {o : OE ρ} {wi : TI} {g : TG} {tb : TS} {r : Enc α} {κ : Type} {m : Res (List α)} {body : γ -> α -> Res (Ctl ρ γ)} {f : γ -> Res ρ} (J : Jn γ ι) (T : ∀ OO, Tgt K OO g r κ) (x0 : ι) (g0 : γ) (he : Walk K Er S OO σ wi r m) (h1 : OO = J.oo x0) (h2 : σ = J.ss x0) (h3 : ∀ h, S.p h -> (J.sc g0 x0).p h)
    (hb : ∀ g x a v, Sv Er ((T (J.oo x)).sc a v (J.sc g x)) (J.oo x) ((T (J.oo x)).set v (J.ss x)) tb (FCd K o J) (body g a))
    (hr : ∀ g x, Sv Er (J.sc g x) (J.oo x) (J.ss x) u (FTd K o) (f g)) : Sv Er S OO σ (Jf (HJ wi g tb) u) (FTd K o) (m.bind fun as=>(forC as g0 body).bind (Z3 f)):=fun H D w s P=>by
  refine he.ok w s ?_
  cases em : m with
  | bad=>rw [em] at P; exact P
  | err x=>rw [em] at P; exact fun H' s'=>P H' (Xq.trans s')
  | ok as=>
    rw [em] at P
    have P : PZ Er (FTd K o D) (hid H OO) ((forC as g0 body).bind (Z3 f)):=P
    intro It H' s' hgo hstop
    refine ⟨fun i mm σ' H2=>mm = as.length - i /\ i <= as.length /\ ∃ x gg, σ' = J.ss x /\ W (J.oo x) H2 /\ Xm (hid H' OO) (hid H2 (J.oo x)) /\ (J.sc gg x).p (hid H2 (J.oo x)) /\ PZ Er (FTd K o D) (hid H2 (J.oo x)) ((forC (as.drop i) gg body).bind (Z3 f)), ⟨as.length, rfl, Nat.zero_le _, x0, g0, h2, ?_, ?_, ?_, ?_⟩, ?_⟩
    . rw [← h1]; exact w.keep s'
    . rw [← h1]; exact Xm.refl _
    . rw [← h1]; exact h3 _ (S.mono _ _ (Xi s') s)
    . rw [← h1, List.drop_zero]; exact PZ.tr (FdOk.tr D) (Xi s') P
    . rintro i mm σ' H2 ⟨rfl, hi, x, gg, rfl, w2, m2, sc2, P2⟩
      by_cases hlt : i < as.length
      . right
        have ha : as[i]? = some as[i]:=by simp [hlt]
        obtain ⟨h4, h5⟩:=hgo i _ ha (J.oo x) H2 w2 m2
        refine ⟨h4, fun σ3 H3=>∃ x gg, σ3 = J.ss x /\ W (J.oo x) H3 /\ Xm (hid H' OO) (hid H3 (J.oo x)) /\ (J.sc gg x).p (hid H3 (J.oo x)) /\ PZ Er (FTd K o D) (hid H3 (J.oo x)) ((forC (as.drop (i + 1)) gg body).bind (Z3 f)), fun σ3 H3 q=>⟨as.length - (i + 1), Nat.sub_lt_sub_left hlt (Nat.lt_succ_self i), rfl, hlt, q⟩, fun y H3 hy=>?_⟩
        obtain ⟨s3, r3⟩:=h5 y H3 hy
        have w3:=w2.keep s3
        have m3:=Xi (OO:=J.oo x) s3
        refine (T (J.oo x)).ok r3 ((J.sc gg x).mono _ _ m3 sc2) fun v hv=>hb gg x as[i] v H3 _ w3 hv ?_
        rw [List.drop_eq_getElem_cons hlt] at P2
        have P3 : PZ Er (FTd K o D) (hid H2 (J.oo x)) ((body gg as[i]).bind fun c=>(match c with
          | .ret r=>Res.ok (Ctl.ret r)
          | .nx g'=>forC (as.drop (i + 1)) g' body).bind (Z3 f)):=by rw [← Yo]; exact P2
        cases eb : body gg as[i] with
        | bad=>rw [eb] at P3; exact P3
        | err x=>rw [eb] at P3; exact fun H4 s4=>P3 H4 (m3.trans s4)
        | ok c=>
          rw [eb] at P3
          cases c with
          | ret r=>exact FdOk.tr (Fd:=FTd K o) D r _ _ m3 P3
          | nx g'=>exact fun x' H4 w4 m4 sc4=>⟨x', g', rfl, w4, m2.trans (m3.trans m4), sc4, PZ.tr (FdOk.tr D) (m3.trans m4) P3⟩
      . left
        have e : i = as.length:=Nat.le_antisymm hi (Nat.not_lt.mp hlt)
        subst e
        refine ⟨hstop (J.oo x) H2 w2 m2, hr gg x H2 D w2 sc2 ?_⟩
        rw [List.drop_length] at P2
        exact P2
theorem U9 {κ2 : Type} {o : OE ρ} {J2 : Jn δ κ2} {wi : TI} {g : TG} {tb : TS} {r : Enc α} {κ : Type} {m : Res (List α)} {body : γ -> α -> Res (Ctl ρ γ)} {f : γ -> Res (Ctl ρ δ)} (J : Jn γ ι) (T : ∀ OO, Tgt K OO g r κ) (x0 : ι) (g0 : γ) (he : Walk K Er S OO σ wi r m) (h1 : OO = J.oo x0) (h2 : σ = J.ss x0) (h3 : ∀ h, S.p h -> (J.sc g0 x0).p h)
    (hb : ∀ g x a v, Sv Er ((T (J.oo x)).sc a v (J.sc g x)) (J.oo x) ((T (J.oo x)).set v (J.ss x)) tb (FCd K o J) (body g a))
    (hr : ∀ g x, Sv Er (J.sc g x) (J.oo x) (J.ss x) u (FCd K o J2) (f g)) : Sv Er S OO σ (Jf (HJ wi g tb) u) (FCd K o J2) (m.bind fun as=>(forC as g0 body).bind (QK f)):=fun H D w s P=>by
  refine he.ok w s ?_
  cases em : m with
  | bad=>rw [em] at P; exact P
  | err x=>rw [em] at P; exact fun H' s'=>P H' (Xq.trans s')
  | ok as=>
    rw [em] at P
    have P : PZ Er (FCd K o J2 D) (hid H OO) ((forC as g0 body).bind (QK f)):=P
    intro It H' s' hgo hstop
    refine ⟨fun i mm σ' H2=>mm = as.length - i /\ i <= as.length /\ ∃ x gg, σ' = J.ss x /\ W (J.oo x) H2 /\ Xm (hid H' OO) (hid H2 (J.oo x)) /\ (J.sc gg x).p (hid H2 (J.oo x)) /\ PZ Er (FCd K o J2 D) (hid H2 (J.oo x)) ((forC (as.drop i) gg body).bind (QK f)), ⟨as.length, rfl, Nat.zero_le _, x0, g0, h2, ?_, ?_, ?_, ?_⟩, ?_⟩
    . rw [← h1]; exact w.keep s'
    . rw [← h1]; exact Xm.refl _
    . rw [← h1]; exact h3 _ (S.mono _ _ (Xi s') s)
    . rw [← h1, List.drop_zero]; exact PZ.tr (FdOk.tr D) (Xi s') P
    . rintro i mm σ' H2 ⟨rfl, hi, x, gg, rfl, w2, m2, sc2, P2⟩
      by_cases hlt : i < as.length
      . right
        have ha : as[i]? = some as[i]:=by simp [hlt]
        obtain ⟨h4, h5⟩:=hgo i _ ha (J.oo x) H2 w2 m2
        refine ⟨h4, fun σ3 H3=>∃ x gg, σ3 = J.ss x /\ W (J.oo x) H3 /\ Xm (hid H' OO) (hid H3 (J.oo x)) /\ (J.sc gg x).p (hid H3 (J.oo x)) /\ PZ Er (FCd K o J2 D) (hid H3 (J.oo x)) ((forC (as.drop (i + 1)) gg body).bind (QK f)), fun σ3 H3 q=>⟨as.length - (i + 1), Nat.sub_lt_sub_left hlt (Nat.lt_succ_self i), rfl, hlt, q⟩, fun y H3 hy=>?_⟩
        obtain ⟨s3, r3⟩:=h5 y H3 hy
        have w3:=w2.keep s3
        have m3:=Xi (OO:=J.oo x) s3
        refine (T (J.oo x)).ok r3 ((J.sc gg x).mono _ _ m3 sc2) fun v hv=>hb gg x as[i] v H3 _ w3 hv ?_
        rw [List.drop_eq_getElem_cons hlt] at P2
        have P3 : PZ Er (FCd K o J2 D) (hid H2 (J.oo x)) ((body gg as[i]).bind fun c=>(match c with
          | .ret r=>Res.ok (Ctl.ret r)
          | .nx g'=>forC (as.drop (i + 1)) g' body).bind (QK f)):=by rw [← Yo]; exact P2
        cases eb : body gg as[i] with
        | bad=>rw [eb] at P3; exact P3
        | err x=>rw [eb] at P3; exact fun H4 s4=>P3 H4 (m3.trans s4)
        | ok c=>
          rw [eb] at P3
          cases c with
          | ret r=>exact FdOk.tr (Fd:=FTd K o) D r _ _ m3 P3
          | nx g'=>exact fun x' H4 w4 m4 sc4=>⟨x', g', rfl, w4, m2.trans (m3.trans m4), sc4, PZ.tr (FdOk.tr D) (m3.trans m4) P3⟩
      . left
        have e : i = as.length:=Nat.le_antisymm hi (Nat.not_lt.mp hlt)
        subst e
        refine ⟨hstop (J.oo x) H2 w2 m2, hr gg x H2 D w2 sc2 ?_⟩
        rw [List.drop_length] at P2
        exact P2
noncomputable def Gc (as : List α) (f : α -> Res β) : Res (List β):=match as with
  | []=>.ok []
  | a :: as=>(f a).bind fun b=>(Gc as f).bind fun bs=>.ok (b :: bs)
noncomputable def F6 (as : List α) (f : α -> Res β) : Res (List β):=chk (as.length <= sizeLine) (Gc as f)
noncomputable def Kc (as : List α) (c : α -> Res Bool) (f : α -> Res β) : Res (List β):=match as with
  | []=>.ok []
  | a :: as=>(c a).bind fun b=>if b = true then (f a).bind fun b=>(Kc as c f).bind fun bs=>.ok (b :: bs) else Kc as c f
noncomputable def E6 (as : List α) (c : α -> Res Bool) (f : α -> Res β) : Res (List β):=chk (as.length <= sizeLine) (Kc as c f)
theorem PZ.chk {F : β -> Hp -> Prop} {H : Hp} {c : Prop} [Decidable c] {m : Res β} (P : PZ Er F H (chk c m)) : c /\ PZ Er F H m:=by
  unfold L2.chk at P; split at P
  . exact ⟨by assumption, P⟩
  . exact P.elim
theorem Bq {o : OE α} [z : MonoO o] {xs : List V} {as : List α} {Cs : List (List Xt)} {H H0 : Hp} {Q : VK} (w : W (Cs.flatten :: OO) H) (m0 : Xm (hid H0 OO) (hid H (Cs.flatten :: OO))) (s0 : Xm H0 H) (pr : P3 (o K (hid H (Cs.flatten :: OO))) xs as Cs) (P : FO K OO OO (oL o) Q as H0) : ∀ p, H p = none -> Q (.ref p) (upd H p (.lst xs)):=fun p hp=>by
  have hn:=Vl (OO:=Cs.flatten :: OO) hp (o:=.lst xs)
  have wn:=w.new hp (o:=.lst xs) rfl
  have pe : (((p, HO.lst xs) :: Cs.flatten) :: OO).flatten.Perm ([(p, HO.lst xs)] :: Cs.flatten :: OO).flatten:=by simp
  refine P (.ref p) ((p, .lst xs) :: Cs.flatten) _ (s0.trans (XE hp _)) (wn.of pe) ?_ ?_
  . rw [X3 pe]; exact m0.trans hn
  . rw [X3 pe]
    exact ⟨p, xs, Cs, rfl, pr.imp fun _ _ _ h=>z.mono hn h, rfl⟩
theorem Qt {o : OE β} [z : MonoO o] {wi : TI} {g : TG} {te : TE} {r : Enc α} {κ : Type} {m : Res (List α)} {f : α -> Res β} {n : Nat} {caps : List (Nat × Str)} (T : ∀ OO, Tgt K OO g r κ) (he : Walk K Er S OO σ wi r m)
    (hb : ∀ C a v, Ev K Er ((T (C :: OO)).sc a v S) (C :: OO) (C :: OO) ((T (C :: OO)).set v (Z4 n caps σ)) te o (f a)) : Ev K Er S OO OO σ (GA n caps wi g Vm te) (oL o) (m.bind fun as=>F6 as f):=fun H Q w s P=>by
  refine he.ok w s ?_
  cases em : m with
  | bad=>rw [em] at P; exact P
  | err x=>rw [em] at P; exact P
  | ok as=>
    rw [em] at P
    obtain ⟨hsz, P⟩:=PZ.chk (show PZ Er _ H (chk (as.length <= sizeLine) (Gc as f)) from P)
    intro It H' s' hgo hstop
    -- what is left: the Zn of the items, then all
    refine ⟨fun i mm ys H2=>mm = as.length - i /\ i <= as.length /\ ∃ bs Cs, Xm H H2 /\ W (Cs.flatten :: OO) H2 /\ Xm (hid H' OO) (hid H2 (Cs.flatten :: OO)) /\ P3 (o K (hid H2 (Cs.flatten :: OO))) ys bs Cs /\ bs.length = i /\ PZ Er (FO K OO OO (oL o) Q) H ((Gc (as.drop i) f).bind fun Zn=>.ok (bs ++ Zn)),
      ⟨as.length, rfl, Nat.zero_le _, [], [], s', (w.keep s').nil, by show Xm _ (hid H' ([] :: OO)); rw [Y3]; exact Xm.refl _, .nil, rfl, ?_⟩, ?_⟩
    . rw [List.drop_zero]
      revert P
      cases Gc as f <;> exact fun z=>z
    . rintro i mm ys H2 ⟨rfl, hi, bs, Cs, s2, w2, m2, pr, hlen, P2⟩
      refine ⟨by rw [pr.len.1, hlen]; omega, ?_⟩
      by_cases hlt : i < as.length
      . right
        have ha : as[i]? = some as[i]:=by simp [hlt]
        obtain ⟨h4, h5⟩:=hgo i _ ha (Cs.flatten :: OO) H2 w2 m2
        refine ⟨h4, fun ys' H3=>∃ bs Cs, Xm H H3 /\ W (Cs.flatten :: OO) H3 /\ Xm (hid H' OO) (hid H3 (Cs.flatten :: OO)) /\ P3 (o K (hid H3 (Cs.flatten :: OO))) ys' bs Cs /\ bs.length = i + 1 /\ PZ Er (FO K OO OO (oL o) Q) H ((Gc (as.drop (i + 1)) f).bind fun Zn=>.ok (bs ++ Zn)), fun ys' H3 q=>⟨as.length - (i + 1), Nat.sub_lt_sub_left hlt (Nat.lt_succ_self i), rfl, hlt, q⟩, fun y H3 hy=>?_⟩
        obtain ⟨s3, r3⟩:=h5 y H3 hy
        have w3:=w2.keep s3
        have m3:=Xi (OO:=Cs.flatten :: OO) s3
        have sS : S.p (hid H3 (Cs.flatten :: OO)):=S.mono _ _ ((Xi s').trans (m2.trans m3)) s
        refine (T (Cs.flatten :: OO)).ok r3 sS fun v hv=>?_
        show Vm _ _ _
        refine Hy ?_
        rw [List.drop_eq_getElem_cons hlt] at P2
        have P3' : PZ Er (FO K OO OO (oL o) Q) H ((f as[i]).bind fun b=>(Gc (as.drop (i + 1)) f).bind fun Zn=>.ok (bs ++ b :: Zn)):=by
          have : ((f as[i]).bind fun b=>(Gc (as.drop (i + 1)) f).bind fun Zn=>Res.ok (bs ++ b :: Zn)) = (Gc (as[i] :: as.drop (i + 1)) f).bind fun Zn=>.ok (bs ++ Zn):=by
            show _ = ((f as[i]).bind fun b=>(Gc (as.drop (i + 1)) f).bind fun bs=>Res.ok (b :: bs)).bind _
            rw [Yo]; congr 1; funext b; rw [Yo]; rfl
          rw [this]; exact P2
        refine hb Cs.flatten as[i] v H3 _ w3 hv ?_
        cases eb : f as[i] with
        | bad=>rw [eb] at P3'; exact P3'
        | err x=>rw [eb] at P3'; exact fun H4 s4=>P3' H4 (s2.trans (s3.trans s4))
        | ok b=>
          rw [eb] at P3'
          intro v' C' H4 s4 w4 m4 ho
          have pe : ((Cs ++ [C']).flatten :: OO).flatten.Perm (C' :: Cs.flatten :: OO).flatten:=by
            simp only [Zj, List.flatten_cons]
            rw [List.append_assoc, ← List.append_assoc, ← List.append_assoc]
            exact List.perm_append_comm.append_right _
          refine ⟨bs ++ [b], Cs ++ [C'], s2.trans (s3.trans s4), w4.of pe, ?_, ?_, by simp [hlen], ?_⟩
          . rw [X3 pe]; exact m2.trans (m3.trans m4)
          . rw [X3 pe]; exact P3.snoc (pr.imp fun _ _ _ h=>z.mono (m3.trans m4) h) ho
          . have P4 : PZ Er (FO K OO OO (oL o) Q) H ((Gc (as.drop (i + 1)) f).bind fun Zn => .ok (bs ++ b :: Zn)) := P3'
            simpa using P4
      . left
        have e : i = as.length:=Nat.le_antisymm hi (Nat.not_lt.mp hlt)
        subst e
        refine ⟨hstop (Cs.flatten :: OO) H2 w2 m2, ?_⟩
        rw [List.drop_length] at P2
        have P3' : FO K OO OO (oL o) Q (bs ++ []) H:=P2
        rw [List.append_nil] at P3'
        exact Bq (H0:=H) w2 ((Xi s').trans m2) s2 pr P3'
theorem KL {o : OE β} [z : MonoO o] {wi : TI} {g : TG} {tt : TT} {te : TE} {r : Enc α} {κ : Type} {m : Res (List α)} {c : α -> Res Bool} {f : α -> Res β} {n : Nat} {caps : List (Nat × Str)} (T : ∀ OO, Tgt K OO g r κ) (he : Walk K Er S OO σ wi r m)
    (hc : ∀ C a v, EvT Er ((T (C :: OO)).sc a v S) (C :: OO) ((T (C :: OO)).set v (Z4 n caps σ)) tt (c a))
    (hb : ∀ C a v, Ev K Er ((T (C :: OO)).sc a v S) (C :: OO) (C :: OO) ((T (C :: OO)).set v (Z4 n caps σ)) te o (f a)) : Ev K Er S OO OO σ (GA n caps wi g tt te) (oL o) (m.bind fun as=>E6 as c f):=fun H Q w s P=>by
  refine he.ok w s ?_
  cases em : m with
  | bad=>rw [em] at P; exact P
  | err x=>rw [em] at P; exact P
  | ok as=>
    rw [em] at P
    obtain ⟨hsz, P⟩:=PZ.chk (show PZ Er _ H (chk (as.length <= sizeLine) (Kc as c f)) from P)
    intro It H' s' hgo hstop
    refine ⟨fun i mm ys H2=>mm = as.length - i /\ i <= as.length /\ ∃ bs Cs, Xm H H2 /\ W (Cs.flatten :: OO) H2 /\ Xm (hid H' OO) (hid H2 (Cs.flatten :: OO)) /\ P3 (o K (hid H2 (Cs.flatten :: OO))) ys bs Cs /\ bs.length <= i /\ PZ Er (FO K OO OO (oL o) Q) H ((Kc (as.drop i) c f).bind fun Zn=>.ok (bs ++ Zn)),
      ⟨as.length, rfl, Nat.zero_le _, [], [], s', (w.keep s').nil, by show Xm _ (hid H' ([] :: OO)); rw [Y3]; exact Xm.refl _, .nil, Nat.zero_le _, ?_⟩, ?_⟩
    . rw [List.drop_zero]
      revert P
      cases Kc as c f <;> exact fun z=>z
    . rintro i mm ys H2 ⟨rfl, hi, bs, Cs, s2, w2, m2, pr, hlen, P2⟩
      refine ⟨by rw [pr.len.1]; omega, ?_⟩
      by_cases hlt : i < as.length
      . right
        have ha : as[i]? = some as[i]:=by simp [hlt]
        obtain ⟨h4, h5⟩:=hgo i _ ha (Cs.flatten :: OO) H2 w2 m2
        refine ⟨h4, fun ys' H3=>∃ bs Cs, Xm H H3 /\ W (Cs.flatten :: OO) H3 /\ Xm (hid H' OO) (hid H3 (Cs.flatten :: OO)) /\ P3 (o K (hid H3 (Cs.flatten :: OO))) ys' bs Cs /\ bs.length <= i + 1 /\ PZ Er (FO K OO OO (oL o) Q) H ((Kc (as.drop (i + 1)) c f).bind fun Zn=>.ok (bs ++ Zn)), fun ys' H3 q=>⟨as.length - (i + 1), Nat.sub_lt_sub_left hlt (Nat.lt_succ_self i), rfl, hlt, q⟩, fun y H3 hy=>?_⟩
        obtain ⟨s3, r3⟩:=h5 y H3 hy
        have w3:=w2.keep s3
        have m3:=Xi (OO:=Cs.flatten :: OO) s3
        have sS : S.p (hid H3 (Cs.flatten :: OO)):=S.mono _ _ ((Xi s').trans (m2.trans m3)) s
        refine (T (Cs.flatten :: OO)).ok r3 sS fun v hv=>?_
        rw [List.drop_eq_getElem_cons hlt] at P2
        have P3' : PZ Er (FO K OO OO (oL o) Q) H ((c as[i]).bind fun b=>(if b = true then (f as[i]).bind fun b=>(Kc (as.drop (i + 1)) c f).bind fun bs=>.ok (b :: bs) else Kc (as.drop (i + 1)) c f).bind fun Zn=>.ok (bs ++ Zn)):=by
          rw [← Yo]; exact P2
        refine hc Cs.flatten as[i] v H3 _ w3 hv ?_
        cases ec : c as[i] with
        | bad=>rw [ec] at P3'; exact P3'
        | err x=>rw [ec] at P3'; exact fun H4 s4=>P3' H4 (s2.trans (s3.trans s4))
        | ok b=>
          rw [ec] at P3'
          intro H4 s4
          have w4:=w3.keep s4
          have m4:=Xi (OO:=Cs.flatten :: OO) s4
          cases b with
          | false=>exact ⟨bs, Cs, s2.trans (s3.trans s4), w4, m2.trans (m3.trans m4), pr.imp fun _ _ _ h=>z.mono (m3.trans m4) h, Nat.le_succ_of_le hlen, P3'⟩
          | true=>
            rw [if_pos rfl]
            have P4 : PZ Er (FO K OO OO (oL o) Q) H ((f as[i]).bind fun b=>(Kc (as.drop (i + 1)) c f).bind fun Zn=>.ok (bs ++ b :: Zn)):=by
              have : ((f as[i]).bind fun b=>(Kc (as.drop (i + 1)) c f).bind fun Zn=>Res.ok (bs ++ b :: Zn)) = ((f as[i]).bind fun b=>(Kc (as.drop (i + 1)) c f).bind fun bs=>Res.ok (b :: bs)).bind fun Zn=>.ok (bs ++ Zn):=by
                rw [Yo]; congr 1; funext b; rw [Yo]; rfl
              rw [this]; exact P3'
            refine hb Cs.flatten as[i] v H4 _ w4 (((T (Cs.flatten :: OO)).sc as[i] v S).mono _ _ m4 hv) ?_
            cases eb : f as[i] with
            | bad=>rw [eb] at P4; exact P4
            | err x=>rw [eb] at P4; exact fun H5 s5=>P4 H5 (s2.trans (s3.trans (s4.trans s5)))
            | ok b=>
              rw [eb] at P4
              intro v' C' H5 s5 w5 m5 ho
              have pe : ((Cs ++ [C']).flatten :: OO).flatten.Perm (C' :: Cs.flatten :: OO).flatten:=by
                simp only [Zj, List.flatten_cons]
                rw [List.append_assoc, ← List.append_assoc, ← List.append_assoc]
                exact List.perm_append_comm.append_right _
              refine ⟨bs ++ [b], Cs ++ [C'], s2.trans (s3.trans (s4.trans s5)), w5.of pe, ?_, ?_, by simpa using hlen, ?_⟩
              . rw [X3 pe]; exact m2.trans (m3.trans (m4.trans m5))
              . rw [X3 pe]; exact P3.snoc (pr.imp fun _ _ _ h=>z.mono (m3.trans (m4.trans m5)) h) ho
              . have P5 : PZ Er (FO K OO OO (oL o) Q) H ((Kc (as.drop (i + 1)) c f).bind fun Zn => .ok (bs ++ b :: Zn)) := P4
                simpa using P5
      . left
        have e : i = as.length:=Nat.le_antisymm hi (Nat.not_lt.mp hlt)
        subst e
        refine ⟨hstop (Cs.flatten :: OO) H2 w2 m2, ?_⟩
        rw [List.drop_length] at P2
        have P3' : FO K OO OO (oL o) Q (bs ++ []) H:=P2
        rw [List.append_nil] at P3'
        exact Bq (H0:=H) w2 ((Xi s').trans m2) s2 pr P3'
noncomputable def Ux (as : List α) (i : Int) (a : α) : Res (List α):=match ixN as.length i with
  | some j=>.ok (as.set j a)
  | none=>.bad
end
end L2
namespace L2
open PySem PySem.Spec PyProof.Rows
section
variable {K : PySem.W.Frag} {Er : Exc -> Hp -> Prop} {S : SC} {OO OO' OO2 : List (List Xt)} {σ : St} {α β γ ρ ι δ ε : Type}
variable {Fd : Ends -> β -> Hp -> Prop} [fd : FdOk Fd] {u : TS}
theorem EQ {C D C' : List Xt} {H : Hp} {k : Nat} {p : Addr} {o : HO} (w : W (D :: OO) H) (hk : OO[k]? = some C) (hp : p ∈ C.map (·.1)) (hp' : p ∈ C'.map (·.1)) (hnd : (C'.map (·.1)).Nodup) (hin : ∀ b ∈ C'.map (·.1), b ∈ (C ++ D).map (·.1)) (ht : ∀ c ∈ C', upd H p o c.1 = some c.2) (hm : ∀ c ∈ C', Eg c.2 = true) :
    W (OO.set k C') (upd H p o) /\ Xm (hid H (D :: OO)) (hid (upd H p o) (OO.set k C')):=by
  have hlt : k < OO.length:=by
    rcases Nat.lt_or_ge k OO.length with h | h
    . exact h
    . rw [List.getElem?_eq_none h] at hk; cases hk
  have h1:=X2 hk
  have h2:=X2 (OO:=OO.set k C') (k:=k) (C:=C') (by simp [hlt])
  rw [Vy] at h2
  have h3 : (OO.set k C').flatten.Perm (C' ++ (OO.set k []).flatten):=by simpa using h2.symm
  have h4 : (D :: OO).flatten.Perm ((C ++ D) ++ (OO.set k []).flatten):=by
    rw [List.flatten_cons]
    refine ((by simpa using h1.symm : OO.flatten.Perm (C ++ (OO.set k []).flatten)).append_left D).trans ?_
    rw [← List.append_assoc]
    exact List.perm_append_comm.append_right _
  have nd2 : (((C ++ D) ++ (OO.set k []).flatten).map (·.1)).Nodup:=(h4.map _).nodup_iff.mp w.nd
  rw [List.map_append] at nd2
  obtain ⟨n1, n2, n3⟩:=List.nodup_append.mp nd2
  refine ⟨⟨fun c hc=>?_, ?_, fun c hc=>?_⟩, fun b v q=>?_⟩
  . rcases List.mem_append.mp (h3.mem_iff.mp hc) with hc | hc
    . exact ht c hc
    . have hne : c.1 ≠ p := fun e => n3 p (hin p hp') c.1 (List.mem_map.mpr ⟨c, hc, rfl⟩) e.symm
      rw [XA hne]
      exact w.tr c (h4.mem_iff.mpr (by simp [hc]))
  . refine ((h3.map _).nodup_iff).mpr ?_
    rw [List.map_append]
    exact List.nodup_append.mpr ⟨hnd, n2, fun a ha b hb=>n3 a (hin a ha) b hb⟩
  . rcases List.mem_append.mp (h3.mem_iff.mp hc) with hc | hc
    . exact hm c hc
    . exact w.mu c (h4.mem_iff.mpr (by simp [hc]))
  . obtain ⟨q1, q2⟩ := Yx q
    have hbp : b ≠ p:=fun e=>q2 (by
      rw [e]
      obtain ⟨c, hc, rfl⟩:=List.mem_map.mp hp
      exact JT (h4.mem_iff.mpr (by simp [hc])))
    refine QI (by rw [XA hbp]; exact q1) fun z=>q2 ?_
    obtain ⟨o', ho'⟩:=FE z
    rcases List.mem_append.mp (h3.mem_iff.mp ho') with hc | hc
    . obtain ⟨c, hc2, e⟩ := List.mem_map.mp (hin b (List.mem_map.mpr ⟨_, hc, rfl⟩))
      rw [← e]
      exact JT (h4.mem_iff.mpr (List.mem_append_left _ hc2))
    . exact JT (c:=(b, o')) (h4.mem_iff.mpr (by simp [hc]))
theorem Ib {D : List Xt} {Cs Cs' : List (List Xt)} {H : Hp} {k : Nat} {p : Addr} {xs xs' : List V} (w : W (D :: OO) H) (hk : OO[k]? = some ((p, .lst xs) :: Cs.flatten)) (hin : ∀ c ∈ Cs'.flatten, c ∈ Cs.flatten ++ D) (hnd : (Cs'.flatten.map (·.1)).Nodup) :
    W (OO.set k ((p, .lst xs') :: Cs'.flatten)) (upd H p (.lst xs')) /\ Xm (hid H (D :: OO)) (hid (upd H p (.lst xs')) (OO.set k ((p, .lst xs') :: Cs'.flatten))):=by
  have h1:=X2 hk
  have w3 : W [((p, HO.lst xs) :: (Cs.flatten ++ D)) ++ (OO.set k []).flatten] H:=w.of (by
    simp only [List.flatten_cons, List.flatten_nil, List.append_nil]
    refine List.Perm.trans ?_ ((by simpa using h1 : (((p, HO.lst xs) :: Cs.flatten) ++ (OO.set k []).flatten).Perm OO.flatten).append_left D)
    rw [← List.append_assoc]
    refine List.Perm.append_right _ ?_
    exact (List.perm_append_comm (l₁:=(p, HO.lst xs) :: Cs.flatten) (l₂:=D)))
  have nd:=w3.nd
  simp only [fl, List.flatten_cons, List.flatten_nil, List.append_nil, List.map_append, List.cons_append, List.map_cons] at nd
  have hne : ∀ c ∈ Cs'.flatten, c.1 ≠ p:=fun c hc e=>by
    refine (List.nodup_cons.mp nd).1 ?_
    rw [← e]
    refine List.mem_append_left _ ?_
    rw [← List.map_append]
    exact List.mem_map.mpr ⟨c, hin c hc, rfl⟩
  refine EQ w hk List.mem_cons_self List.mem_cons_self ?_ ?_ ?_ ?_
  . rw [List.map_cons, List.nodup_cons]
    refine ⟨fun z=>?_, hnd⟩
    obtain ⟨c, hc, e⟩:=List.mem_map.mp z
    exact hne c hc e
  . intro b hb
    rcases List.mem_cons.mp hb with rfl | hb
    . exact List.mem_cons_self
    . obtain ⟨c, hc, rfl⟩ := List.mem_map.mp hb
      rw [List.cons_append, List.map_cons]
      exact List.mem_cons_of_mem _ (List.mem_map.mpr ⟨c, hin c hc, rfl⟩)
  . intro c hc
    rcases List.mem_cons.mp hc with rfl | hc
    . exact Yu
    . rw [XA (hne c hc)]
      exact w3.tr c (by
        rw [List.flatten_cons, List.flatten_nil, List.append_nil]
        exact List.mem_append_left _ (List.mem_cons_of_mem _ (hin c hc)))
  . intro c hc
    rcases List.mem_cons.mp hc with rfl | hc
    . rfl
    . exact w3.mu c (by
        rw [List.flatten_cons, List.flatten_nil, List.append_nil]
        exact List.mem_append_left _ (List.mem_cons_of_mem _ (hin c hc)))
theorem UB {o : OE α} {h : Hp} {p : Addr} {xs : List V} {as : List α} {R : List Xt} (q : oL o K h (.ref p) as ((p, .lst xs) :: R)) : ∃ Cs, P3 (o K h) xs as Cs /\ R = Cs.flatten:=by
  obtain ⟨p', xs', Cs, e, q, c⟩:=q
  injection c with c1 c2
  injection c1 with c3 c4
  injection c4 with c5
  subst c5
  exact ⟨Cs, q, c2⟩
theorem BO {as : List α} {i : Int} {a : α} {bs : List α} (h : Ux as i a = .ok bs) : ∃ j, ixN as.length i = some j /\ bs = as.set j a:=by
  unfold Ux at h; split at h
  . cases h; exact ⟨_, by assumption, rfl⟩
  . cases h
theorem BR {as : List α} {i : Int} {a : α} {x : Exc} : Ux as i a ≠ .err x:=by unfold Ux; split <;> exact fun z=>nomatch z
theorem Dh {Cs : List (List Xt)} {j : Nat} {D : List Xt} (hj : j < Cs.length) : ((Cs.set j D).flatten ++ Cs[j]).Perm (Cs.flatten ++ D):=by
  have h1:=X2 (OO:=Cs) (k:=j) (C:=Cs[j]) (by simp [hj])
  have h2:=X2 (OO:=Cs.set j D) (k:=j) (C:=D) (by simp [hj])
  rw [Vy] at h2
  have h3 : (Cs.set j D).flatten.Perm (D ++ (Cs.set j []).flatten):=by simpa using h2.symm
  have h4 : Cs.flatten.Perm (Cs[j] ++ (Cs.set j []).flatten):=by simpa using h1.symm
  refine (h3.append_right _).trans (List.Perm.trans ?_ (h4.append_right _).symm)
  refine List.perm_append_comm.trans ((List.perm_append_comm.append_left _).trans ?_)
  rw [List.append_assoc]
theorem Jl {D : List Xt} {Cs : List (List Xt)} {H : Hp} {k : Nat} {p : Addr} {xs : List V} (w : W (D :: OO) H) (hk : OO[k]? = some ((p, .lst xs) :: Cs.flatten)) : ((Cs.flatten ++ D).map (·.1)).Nodup:=by
  have h1:=X2 hk
  have w3 : W [((p, HO.lst xs) :: (Cs.flatten ++ D)) ++ (OO.set k []).flatten] H:=w.of (by
    simp only [List.flatten_cons, List.flatten_nil, List.append_nil]
    refine List.Perm.trans ?_ ((by simpa using h1 : (((p, HO.lst xs) :: Cs.flatten) ++ (OO.set k []).flatten).Perm OO.flatten).append_left D)
    rw [← List.append_assoc]
    refine List.Perm.append_right _ ?_
    exact (List.perm_append_comm (l₁:=(p, HO.lst xs) :: Cs.flatten) (l₂:=D)))
  have nd:=w3.nd
  simp only [fl, List.flatten_cons, List.flatten_nil, List.append_nil, List.cons_append, List.map_cons] at nd
  have n2:=(List.nodup_cons.mp nd).2
  rw [List.map_append] at n2
  exact (List.nodup_append.mp n2).1
theorem CD {ta : TE} {o : OE α} [MonoO o] {m : Res (List α)} {f : List α -> Res β} {v : V} {as : List α} {C : List Xt} (i k : Nat) (hσ : σ[i]? = some (some v)) (hk : OO[k]? = some C) (hk' : OO'[k]? = some C) (h : ∀ x, S.p x -> oL o K x v as C) (he : Ev K Er S OO OO' σ ta (oL o) m)
    (hr : ∀ bs C', Sv Er (S.addO K (oL o) v (as ++ bs) C') (OO'.set k C') σ u Fd (f (as ++ bs))) : Sv Er S OO σ (Jf (FZ (tBM K "list" Fo (KM i) (XG ta ZM))) u) Fd (m.bind fun bs=>chk (as.length + bs.length <= sizeLine) (f (as ++ bs))):=fun H D w s P=>by
  obtain ⟨p, xs, Cs, e, q, c⟩:=h _ s
  subst c
  have hH : H p = some (.lst xs):=w.tr (p, .lst xs) (List.mem_flatten.mpr ⟨_, List.mem_of_getElem? hk, List.mem_cons_self⟩)
  refine ⟨v, hσ, by rw [e]; exact .inl ⟨rfl, _, SqL.of hH⟩, he.st w s P fun bs y D' H' w' s' ho P'=>?_⟩
  obtain ⟨hsz, P'⟩:=PZ.chk P'
  subst e
  obtain ⟨Cs2, q2, c2⟩:=UB (h _ s')
  obtain ⟨p', zs, Ds, e3, q3, c3⟩:=ho
  subst c3
  have hH' : H' p = some (.lst xs):=w'.tr (p, .lst xs) (by rw [List.flatten_cons]; exact List.mem_append_right _ (List.mem_flatten.mpr ⟨_, List.mem_of_getElem? hk', List.mem_cons_self⟩))
  have hH2 : H' p' = some (.lst zs):=w'.tr (p', .lst zs) (by rw [List.flatten_cons]; exact List.mem_append_left _ List.mem_cons_self)
  have cn:=Jl w' hk'
  obtain ⟨w3, m3⟩:=Ib (xs':=xs ++ zs) (Cs':=Cs2 ++ Ds) w' hk' (fun c hc=>by
      rw [List.flatten_append, List.mem_append] at hc
      rcases hc with hc | hc
      . rw [c2]; exact List.mem_append_left _ hc
      . exact List.mem_append_right _ (List.mem_cons_of_mem _ hc)) (by
      rw [List.flatten_append, ← c2]
      refine List.Nodup.sublist (List.Sublist.map _ ?_) cn
      exact List.Sublist.append (List.Sublist.refl _) (List.sublist_cons_self _ _))
  refine ⟨p, p', xs, zs, rfl, by rw [e3], hH', hH2, by rw [q2.len.1, q3.len.1]; exact hsz, ?_⟩
  exact hr bs _ _ D w3 ⟨S.mono _ _ m3 s', ⟨p, _, _, rfl, P3.imp (fun _ _ _ z=>MonoO.mono m3 z) (q2.app q3), rfl⟩⟩ (PZ.tr (fd.tr D) m3 P')
noncomputable def DU (as : List α) (i : Int) : Res (α × List α):=chk (-(2 ^ 63) <= i /\ i < 2 ^ 63) (match seqIndex? i as.length with
  | none=>.bad
  | some k=>match as[k]? with
    | none=>.bad
    | some a=>.ok (a, as.eraseIdx k))
theorem BC {as : List α} {i : Int} {p : α × List α} (h : DU as i = .ok p) : (-(2 ^ 63) <= i /\ i < 2 ^ 63) /\ ∃ k, seqIndex? i as.length = some k /\ as[k]? = some p.1 /\ p.2 = as.eraseIdx k:=by
  obtain ⟨h1, h2⟩:=YR h
  refine ⟨h1, ?_⟩
  split at h2
  . cases h2
  . split at h2
    . cases h2
    . cases h2; exact ⟨_, by assumption, by assumption, rfl⟩
theorem Bk {as : List α} {i : Int} {x : Exc} : DU as i ≠ .err x:=by
  unfold DU chk; split
  . split
    . exact fun z=>nomatch z
    . split <;> exact fun z=>nomatch z
  . exact fun z=>nomatch z
theorem Paired.erase' {F : α -> γ -> Prop} : ∀ {l : List α} {m : List γ} (n : Nat), Paired F l m -> Paired F (l.eraseIdx n) (m.eraseIdx n)
  | _, _, _, .nil=>.nil
  | _, _, 0, .cons _ t=>t
  | _, _, n + 1, .cons r t=>.cons r (Paired.erase' n t)
theorem BY {te ti : TE} {r : Enc α} [MonoE r] {mi : Res Int} {f : α × List α -> Res β} {v : V} {as : List α} {C : List Xt} {D : Ends} {H : Hp} {Q : VK} (i k : Nat) (hσ : σ[i]? = some (some v)) (hk : OO[k]? = some C) (h : ∀ x, S.p x -> oL (oF r) K x v as C) (hi : EvB K Er S OO σ ti Xa mi)
    (w : W OO H) (s : S.p (hid H OO)) (P : PZ Er (Fd D) (hid H OO) (mi.bind fun j=>(DU as j).bind f))
    (hr : ∀ a bs y C' H', W (OO.set k C') H' -> ((S.add K r y a).addO K (oL (oF r)) v bs C').p (hid H' (OO.set k C')) -> PZ Er (Fd D) (hid H' (OO.set k C')) (f (a, bs)) -> Q y H') : tBM K "list" Gh (KM i) (XG ti ZM) σ H Q:=by
  obtain ⟨p, xs, Cs, e, q, c⟩:=h _ s
  subst c
  have hH : H p = some (.lst xs):=w.tr (p, .lst xs) (List.mem_flatten.mpr ⟨_, List.mem_of_getElem? hk, List.mem_cons_self⟩)
  refine ⟨v, hσ, by rw [e]; exact .inl ⟨rfl, _, SqL.of hH⟩, hi.st w s P fun j z H' s1 w' s' ho P'=>?_⟩
  subst e
  obtain ⟨Cs2, q2, c2⟩:=UB (h _ s')
  obtain ⟨pr, hfl⟩:=P3.flat q2
  cases es : DU as j with
  | bad=>rw [es] at P'; exact P'.elim
  | err x=>exact absurd es Bk
  | ok pp=>
    rw [es] at P'
    obtain ⟨a, bs⟩:=pp
    obtain ⟨h1, kk, h2, h3, h4⟩:=BC es
    obtain ⟨y, hy, ry⟩:=Paired.getR pr h3
    have w0 : W ([] :: OO) H':=w'.nil
    have hk0 : OO[k]? = some ((p, .lst xs) :: ([] : List (List Xt)).flatten):=by rw [hk, c2, hfl]; rfl
    obtain ⟨w3, m3⟩:=Ib (D:=[]) (Cs:=[]) (xs':=xs.eraseIdx kk) (Cs':=List.replicate bs.length []) w0 hk0 (fun c hc=>by rw [Yd] at hc; cases hc) (by rw [Yd]; exact List.nodup_nil)
    rw [Y3] at m3
    refine ⟨p, xs, j, kk, y, rfl, by rw [show z = .int j from ho], s1 _ _ hH, h1.1, h1.2, by rw [Paired.len pr]; exact h2, hy, ?_⟩
    have pr2 : Paired (r K (hid H' OO)) (xs.eraseIdx kk) bs:=by rw [show bs = as.eraseIdx kk from h4]; exact Paired.erase' kk pr
    exact hr a bs y _ _ w3 ⟨⟨S.mono _ _ m3 s', MonoE.mono m3 ry⟩, ⟨p, _, _, rfl, (P3.of (Paired.imp2 (fun _ _ z=>MonoE.mono m3 z) pr2)).imp fun _ _ _ z=>z, rfl⟩⟩ (PZ.tr (fd.tr D) m3 P')
theorem Dt {ti : TE} {r : Enc α} [MonoE r] {mi : Res Int} {f : List α -> List α -> Res β} {v v2 : V} {as zs : List α} {C C2 : List Xt} (i k i2 k2 : Nat) (hne : k2 ≠ k) (hσ : σ[i]? = some (some v)) (hk : OO[k]? = some C) (h : ∀ x, S.p x -> oL (oF r) K x v as C)
    (hσ2 : σ[i2]? = some (some v2)) (hk2 : OO[k2]? = some C2) (h2 : ∀ x, S.p x -> oL (oF r) K x v2 zs C2) (hi : EvB K Er S OO σ ti Xa mi)
    (hr : ∀ a bs C' C2', Sv Er ((S.addO K (oL (oF r)) v bs C').addO K (oL (oF r)) v2 (zs ++ [a]) C2') ((OO.set k C').set k2 C2') σ u Fd (f bs (zs ++ [a]))) :
    Sv Er S OO σ (Jf (FZ (tBM K "list" UR (KM i2) (XG (tBM K "list" Gh (KM i) (XG ti ZM)) ZM))) u) Fd (mi.bind fun j=>(DU as j).bind fun p=>chk (zs.length < sizeLine) (f p.2 (zs ++ [p.1]))):=fun H D w s P=>by
  obtain ⟨p2, xs2, Cs2, e2, q2, c2⟩:=h2 _ s
  subst c2
  have hH2 : H p2 = some (.lst xs2):=w.tr (p2, .lst xs2) (List.mem_flatten.mpr ⟨_, List.mem_of_getElem? hk2, List.mem_cons_self⟩)
  refine ⟨v2, hσ2, by rw [e2]; exact .inl ⟨rfl, _, SqL.of hH2⟩, BY (te:=ti) i k hσ hk h hi w s P fun a bs y C' H' w' s' P'=>?_⟩
  obtain ⟨hsz, P'⟩:=PZ.chk P'
  subst e2
  obtain ⟨Cs3, q3, c3⟩:=UB (h2 _ s'.1.1)
  obtain ⟨pr, hfl⟩:=P3.flat q3
  have hkk : (OO.set k C')[k2]? = some ((p2, HO.lst xs2) :: ([] : List (List Xt)).flatten):=by
    rw [List.getElem?_set_ne (fun e=>hne e.symm), hk2, c3, hfl]; rfl
  have hH3 : H' p2 = some (.lst xs2):=w'.tr (p2, .lst xs2) (List.mem_flatten.mpr ⟨_, List.mem_of_getElem? hkk, List.mem_cons_self⟩)
  obtain ⟨w3, m3⟩:=Ib (D:=[]) (Cs:=[]) (xs':=xs2 ++ [y]) (Cs':=List.replicate (zs ++ [a]).length []) w'.nil hkk (fun c hc=>by rw [Yd] at hc; cases hc) (by rw [Yd]; exact List.nodup_nil)
  rw [Y3] at m3
  refine ⟨p2, xs2, y, rfl, rfl, hH3, by rw [Paired.len pr]; exact hsz, ?_⟩
  refine hr a bs C' _ _ D w3 ⟨⟨S.mono _ _ m3 s'.1.1, (SC.oneO K (oL (oF r)) v bs C').mono _ _ m3 s'.2⟩, ⟨p2, _, _, rfl, (P3.of (Paired.app (Paired.imp2 (fun _ _ z=>MonoE.mono m3 z) pr) (.cons (MonoE.mono m3 (show r K _ y a from s'.1.2)) .nil))).imp fun _ _ _ z=>z, rfl⟩⟩ (PZ.tr (fd.tr D) m3 P')
theorem E9 {ta tb : TE} {r : Enc α} {q : Enc γ} [z : MonoE r] [MonoE q] {ma : Res α} {mb : Res γ} {f : α -> γ -> Res β} (i j : Nat) (ha : EvS K Er S OO σ ta r ma) (hb : EvS K Er S OO σ tb q mb)
    (hr : ∀ a b v w, Sv Er ((S.add K r v a).add K q w b) OO ((σ.set i (some v)).set j (some w)) u Fd (f a b)) : Sv Er S OO σ (Jf (IE i j (XG ta (XG tb ZM))) u) Fd (ma.bind fun a=>mb.bind fun b=>f a b):=fun H D w s P=>
  ha.st w s P fun a x H1 s1 w1 q1 r1 P1=>hb.st w1 q1 P1 fun b y H2 s2 w2 q2 r2 P2=>⟨x, y, rfl, hr a b x y H2 D w2 ⟨⟨q2, z.mono (Xi s2) r1⟩, r2⟩ P2⟩
theorem EG {te : TE} {r : Enc α} {q : Enc γ} [MonoE r] [MonoE q] {m : Res (α × γ)} {f : α × γ -> Res β} (i j : Nat) (he : EvS K Er S OO σ te (rP2 r q) m)
    (hr : ∀ a v w, Sv Er ((S.add K r v a.1).add K q w a.2) OO ((σ.set i (some v)).set j (some w)) u Fd (f a)) : Sv Er S OO σ (Jf (By te (B0 K 2 (ZN (YX i) (ZN (YX j) Ek)))) u) Fd (m.bind f):=fun H D w s P=>
  he.st w s P fun a v H1 s1 w1 q1 ⟨p, x, y, e, h, h1, h2⟩ P1=>⟨p, _, e, SqT.of (Xq _ _ h), rfl, x, [y], rfl, y, [], rfl, rfl, hr a x y H1 D w1 ⟨⟨q1, h1⟩, h2⟩ P1⟩
theorem CC {te : TE} {g : Int -> Int -> Int} {m : Res Int} {f : Int -> Res β} {v : V} {a : Int} (i : Nat) (hσ : σ[i]? = some (some v)) (h : ∀ x, S.p x -> Xa K x v a) (he : EvB K Er S OO σ te Xa m)
    (hr : ∀ b v, Sv Er (S.add K Xa v b) OO (σ.set i (some v)) u Fd (f b)) : Sv Er S OO σ (Jf (Ii i te (ipI g)) u) Fd (m.bind fun b=>f (g a b)):=fun H D w s P=>
  ⟨v, hσ, he.st w s P fun b y H1 s1 w1 q1 r1 P1=>⟨a, b, h _ s, r1, hr _ _ H1 D w1 ⟨q1, rfl⟩ P1⟩⟩
theorem VJ {ta tb : TE} {ma mb : Res Int} (ha : EvB K Er S OO σ ta Xa ma) (hb : EvB K Er S OO σ tb Xa mb) : EvB K Er S OO σ (tCB (fun xs H Q=>∃ i j : Int, xs = [.int i, .int j] /\ Q (.int (if j > i then j else i)) H) (XG ta (XG tb ZM))) Xa (ma.bind fun a=>mb.bind fun b=>.ok (max a b)):=fun H Q w s P=>
  ha.run w s FB.tr P fun a x H1 s1 w1 q1 r1 P1=>hb.run w1 q1 FB.tr P1 fun b y H2 s2 w2 q2 r2 P2=>⟨a, b, by rw [show x = .int a from r1, show y = .int b from r2], P2 _ H2 (Xm.refl _) (by show V.int _ = V.int _; congr 1; omega)⟩
theorem BZ {ta : TE} {ma : Res (List Int)} (ha : EvB K Er S OO σ ta (rV Xa) ma) : EvB K Er S OO σ (tCB (IB K) (XG ta ZM)) Xa (ma.bind fun a=>.ok a.sum):=fun H Q w s P=>
  ha.run w s FB.tr P fun a x H1 s1 w1 q1 ⟨p, xs, e, q, pr⟩ P1=>⟨p, a, by rw [e], by rw [← ZV pr]; exact SqL.of q, P1 _ H1 (Xm.refl _) rfl⟩
theorem QJ : ∀ {xs : List V} {bs : List Bool} {H : Hp}, Paired (XY K H) xs bs -> xs = bs.map V.bl
  | _, _, _, .nil=>rfl
  | _, _, _, .cons r t=>by rw [show _ = V.bl _ from r, QJ t]; rfl
theorem Bd {ta : TE} {ma : Res (List Bool)} (ha : EvB K Er S OO σ ta (rV XY) ma) : EvB K Er S OO σ (tCB (IA K) (XG ta ZM)) XY (ma.bind fun a=>.ok (a.all id)):=fun H Q w s P=>
  ha.run w s FB.tr P fun a x H1 s1 w1 q1 ⟨p, xs, e, q, pr⟩ P1=>⟨p, a, by rw [e], by rw [← QJ pr]; exact SqL.of q, P1 _ H1 (Xm.refl _) rfl⟩
class TyE {α : Type} (r : Enc α) (n : outParam String) : Prop where
  ty : ∀ {K : PySem.W.Frag} {H : Hp} {v : V} {a : α}, r K H v a -> TyOf K H v (.type n)
instance : TyE Xa "int":=⟨fun {K H v a} h=>by cases (show v = .int a from h); exact .int a⟩
instance : TyE XY "bool":=⟨fun {K H v a} h=>by cases (show v = .bl a from h); exact .bl a⟩
instance : TyE JO "str":=⟨fun {K H v a} h=>by cases (show v = .str a from h); exact .str a⟩
instance {r : Enc α} : TyE (rV r) "list":=⟨fun ⟨p, xs, e, q, _⟩=>by subst e; exact .lst q⟩
instance {r : Enc α} : TyE (rPL r) "tuple":=⟨fun h9=>(by obtain ⟨p, xs, e, q, _⟩:=h9; subst e; exact .tup q)⟩
instance {r : Enc α} {q : Enc γ} : TyE (rP2 r q) "tuple":=⟨fun h9=>(by obtain ⟨p, x, y, e, q, _⟩:=h9; subst e; exact .tup q)⟩
instance {r : Enc α} {q : Enc γ} {t : Enc δ} : TyE (rP3 r q t) "tuple":=⟨fun h9=>(by obtain ⟨p, x, y, z, e, q, _⟩:=h9; subst e; exact .tup q)⟩
theorem ZI {te : TE} {r : Enc α} {n : String} [z : TyE r n] {m : Res α} (t : String) (b : Bool) (hk : PySem.W.kitOne K (.type n) (.type t) = some b) (he : EvB K Er S OO σ te r m) :
    EvB K Er S OO σ (tCB (fun xs H Q=>∃ x n t b, xs = [x, .ty n] /\ TyOf K H x t /\ PySem.W.kitOne K t (.type n) = some b /\ Q (.bl b) H) (XG te (XG (tC (.ty t)) ZM))) XY (m.bind fun _=>.ok b):=fun H Q w s P=>
  he.run w s FB.tr P fun a x H1 s1 w1 q1 r1 P1=>⟨x, t, .type n, b, rfl, z.ty r1, hk, P1 _ H1 (Xm.refl _) rfl⟩
end
end L2
namespace L2
open PySem PySem.Spec PyProof.Rows
section
variable {K : PySem.W.Frag} {Er : Exc -> Hp -> Prop} {S : SC} {OO OO' OO1 OO2 : List (List Xt)} {σ : St} {α β γ ρ ι δ ε : Type}
variable {Fd : Ends -> β -> Hp -> Prop} [fd : FdOk Fd] {u : TS}
theorem Bj (n : Nat) (H : Hp) : W (List.replicate n []) H:=⟨fun c hc=>(by rw [Yd] at hc; cases hc), (by unfold fl; rw [Yd]; exact List.nodup_nil), fun c hc=>(by rw [Yd] at hc; cases hc)⟩
theorem K8 (n : Nat) (H : Hp) : hid H (List.replicate n []) = H:=by funext b; unfold hid fl; rw [Yd]; simp
theorem CP {o : OE ρ} [z : MonoO o] {Q : VK} {b : ρ} {H : Hp} (q : FF K o Q b H) : ∀ v C OO' H', W (C :: OO') H' -> Xm H (hid H' (C :: OO')) -> o K (hid H' (C :: OO')) v b C -> Q v H':=fun v C OO' H' w m ho=>by
  have hs : Xm (hid H' (C :: OO')) (hid H' [C]):=Jw (Xm.refl _) fun b hb=>by
    rw [Zq]
    refine List.mem_append_left _ ?_
    simpa [fl] using hb
  exact q v C H' (w.sub (by simp)) (m.trans hs) (z.mono hs ho)
theorem Ze {o : OE ρ} [MonoO o] {t : TS} {m : Res ρ} {Q : VK} {b : ρ} {H : Hp} {D : Ends} (n : Nat) (h : Sv (fun _ _=>False) S (List.replicate n []) σ t (FTd K o) m) (hs : S.p H) (hm : m = .ok b) (q : FF K o Q b H) (hD : D.rt = Q) : t D σ H:=by
  refine h H D (Bj n H) (by rw [K8]; exact hs) ?_
  subst hm
  rw [K8]
  intro v C OO' H' w mm ho
  rw [hD]
  exact CP q v C OO' H' w mm ho
noncomputable def oU : OE Unit:=fun _ _ v _ C=>v = .non /\ C = []
instance : MonoO oU:=⟨fun _ h=>h⟩
instance : FlatO oU:=⟨fun _ h=>h⟩
noncomputable def rU0 : Enc Unit:=fun _ _ v _=>v = .non
instance : FlatE rU0:=⟨fun _ h=>h⟩
instance : FrzC oU rU0:=⟨fun h _ _=>h.1⟩
theorem BS {t : TS} {m : Res β} (k : Nat) (hr : Sv Er S (OO.set k []) σ t Fd m) : Sv Er S OO σ t Fd m:=fun H D w s P=>by
  cases hk : OO[k]? with
  | none=>
    rw [List.set_eq_of_length_le (List.getElem?_eq_none_iff.mp hk)] at hr
    exact hr H D w s P
  | some C=>
    have hp:=X2 hk
    have w1 : W (C :: OO.set k []) H:=w.of hp
    have hs : Xm (hid H OO) (hid H (OO.set k [])):=by
      rw [← X3 hp]
      exact Jw (Xm.refl _) fun b hb=>by rw [Zq]; simp [hb]
    exact hr H D w1.tail (S.mono _ _ hs s) (PZ.tr (fd.tr D) hs P)
theorem CZ {te : TE} {r : Enc α} {m : Res α} {f : Res β} (he : EvB K Er S OO σ te r m) (hr : Sv Er S OO σ u Fd f) : Sv Er S OO σ (Jf (FZ te) u) Fd (m.bind fun _=>f):=fun H D w s P=>
  he.st w s P fun a v H' s1 w' s' ho P'=>hr H' D w' s' P'
noncomputable def FAO {α : Type} (K : PySem.W.Frag) (OO OO' : List (List Xt)) (o : OE α) (Q : List V -> Hp -> Prop) (as : List α) (H : Hp) : Prop:=∀ vs Cs H', Xm H H' -> W (Cs.flatten :: OO') H' -> Xm (hid H OO) (hid H' (Cs.flatten :: OO')) -> P3 (o K (hid H' (Cs.flatten :: OO'))) vs as Cs -> Q vs H'
noncomputable def EZ {α : Type} (K : PySem.W.Frag) (Er : Exc -> Hp -> Prop) (S : SC) (OO OO' : List (List Xt)) (σ : St) (t : TA) (o : OE α) (m : Res (List α)) : Prop:=∀ H Q, W OO H -> S.p (hid H OO) -> PZ Er (FAO K OO OO' o Q) H m -> t σ H Q
theorem Kk {o : OE α} : EZ K Er S OO OO σ ZM o (.ok []):=fun H Q w s P=>P [] [] H (Xm.refl _) w.nil (by show Xm _ (hid H ([] :: OO)); rw [Y3]; exact Xm.refl _) .nil
theorem VS {te : TE} {t : TA} {o : OE α} [z : MonoO o] {m : Res α} {n : Res (List α)} (he : Ev K Er S OO OO1 σ te o m) (ht : ∀ C, EZ K Er S (C :: OO1) (C :: OO2) σ t o n) : EZ K Er S OO OO2 σ (XG te t) o (m.bind fun a=>n.bind fun as=>.ok (a :: as)):=fun H Q w s P=>by
  refine he H _ w s ?_
  cases em : m with
  | bad=>rw [em] at P; exact P
  | err x=>rw [em] at P; exact P
  | ok a=>
    rw [em] at P
    intro v C H1 s1 w1 m1 ho
    refine ht C H1 _ w1 (S.mono _ _ m1 s) ?_
    have P1 : PZ Er (FAO K OO OO2 o Q) H (n.bind fun as=>.ok (a :: as)):=P
    cases en : n with
    | bad=>rw [en] at P1; exact P1
    | err x=>rw [en] at P1; exact fun H2 s2=>P1 H2 (s1.trans s2)
    | ok as=>
      rw [en] at P1
      have P1 : FAO K OO OO2 o Q (a :: as) H:=P1
      intro vs Cs H2 s2 w2 m2 pr
      have pe : ((C :: Cs).flatten :: OO2).flatten.Perm (Cs.flatten :: C :: OO2).flatten:=by
        simp only [List.flatten_cons]
        rw [← List.append_assoc]
        exact List.perm_append_comm.append_right _
      refine P1 (v :: vs) (C :: Cs) H2 (s1.trans s2) (w2.of pe) ?_ ?_
      . rw [X3 pe]; exact m1.trans m2
      . rw [X3 pe]; exact .cons (z.mono m2 ho) pr
theorem Be {t : TA} {o : OE α} [z : MonoO o] {m : Res (List α)} (h : EZ K Er S OO OO σ t o m) : Ev K Er S OO OO σ (ED t) (oL o) (m.bind fun as=>chk (as.length <= sizeLine) (.ok as)):=fun H Q w s P=>by
  refine h H _ w s ?_
  cases e : m with
  | bad=>rw [e] at P; exact P
  | err x=>rw [e] at P; exact P
  | ok as=>
    rw [e] at P
    obtain ⟨hsz, P⟩:=PZ.chk (show PZ Er _ H (chk (as.length <= sizeLine) (.ok as)) from P)
    intro vs Cs H1 s1 w1 m1 p
    exact ⟨by rw [p.len.1]; exact hsz, Bq w1 m1 s1 p P⟩
class InE {α : Type} [DecidableEq α] (r : Enc α) : Prop where
  fl : ∀ {K : PySem.W.Frag} {H : Hp} {x : V} {a : α}, r K H x a -> QL x = true
  eq : ∀ {K : PySem.W.Frag} {H H' : Hp} {x y : V} {a b : α}, r K H x a -> r K H' y b -> eqV x y = decide (a = b)
instance : InE Xa:=⟨fun {K H x a} h=>by cases (show x = .int a from h); rfl, fun {K H H' x y a b} h h'=>by
  cases (show x = .int a from h); cases (show y = .int b from h'); show (a == b) = _; rw [Ca]⟩
instance : InE JO:=⟨fun {K H x a} h=>by cases (show x = .str a from h); rfl, fun {K H H' x y a b} h h'=>by
  cases (show x = .str a from h); cases (show y = .str b from h'); show (a == b) = _
  rw [Bool.eq_iff_iff]; simp⟩
theorem Q4 [DecidableEq α] {r : Enc α} [z : InE r] {H H' : Hp} {x : V} {a : α} (hx : r K H x a) : ∀ {xs : List V} {as : List α}, Paired (r K H') xs as -> xs.all QL = true /\ inV x xs = decide (a ∈ as)
  | _, _, .nil=>⟨rfl, by simp [inV]⟩
  | _, _, .cons h t=>by
    obtain ⟨h1, h2⟩:=Q4 hx t
    refine ⟨by rw [List.all_cons, h1, z.fl h]; rfl, ?_⟩
    unfold inV at h2 ⊢
    rw [List.any_cons, h2, z.eq h hx, Bool.eq_iff_iff, Bool.or_eq_true, decide_eq_true_eq, decide_eq_true_eq, decide_eq_true_eq, List.mem_cons]
    exact or_congr ⟨Eq.symm, Eq.symm⟩ Iff.rfl
theorem Et [DecidableEq α] {ta tb : TE} {r : Enc α} [z : InE r] {ma : Res α} {mb : Res (List α)} (ha : EvB K Er S OO σ ta r ma) (hb : EvB K Er S OO σ tb (rV r) mb) : EvB K Er S OO σ (tOp (rIn K false) ta tb) XY (ma.bind fun a=>mb.bind fun as=>.ok (decide (a ∈ as))):=fun H Q w s P=>
  ha.run w s FB.tr P fun a x H1 s1 w1 q1 r1 P1=>hb.run w1 q1 FB.tr P1 fun b y H2 s2 w2 q2 ⟨p, xs, e, q, pr⟩ P2=>by
    obtain ⟨h1, h2⟩:=Q4 r1 pr
    exact ⟨p, xs, e, .inl (SqL.of q), z.fl r1, h1, P2 _ H2 (Xm.refl _) (by rw [h2]; rfl)⟩
noncomputable def Cz [DecidableEq α] (as : List α) (a : α) : Res Int:=match as.findIdx? (fun b=>decide (b = a)) with
  | some j=>.ok (j : Int)
  | none=>.bad
theorem KS [DecidableEq α] {r : Enc α} [z : InE r] {H H' : Hp} {x : V} {a : α} (hx : r K H x a) {xs : List V} {as : List α} (p : Paired (r K H') xs as) {j : Nat} (hj : as.findIdx? (fun b=>decide (b = a)) = some j) :
    (∃ y, xs[j]? = some y /\ eqV y x = true) /\ ∀ (m : Nat) y, m < j -> xs[m]? = some y -> eqV y x = false:=by
  rw [List.findIdx?_eq_some_iff_getElem] at hj
  obtain ⟨h1, h2, h3⟩:=hj
  constructor
  . obtain ⟨y, hy, ry⟩ := Paired.getR p (i := j) (b := as[j]) (by simp [h1])
    exact ⟨y, hy, by rw [z.eq ry hx]; exact h2⟩
  . intro m y hm hy
    obtain ⟨b, hb, rb⟩:=Paired.getL p hy
    have hml : m < as.length:=by omega
    have e : b = as[m]:=by rw [List.getElem?_eq_getElem hml] at hb; exact (Option.some.inj hb).symm
    rw [z.eq rb hx, e]
    have:=h3 m hm
    simpa using this
theorem B5 [DecidableEq α] {as : List α} {a : α} {x : Exc} : Cz as a ≠ .err x:=by unfold Cz; split <;> exact fun z=>nomatch z
theorem CU [DecidableEq α] {as : List α} {a : α} {n : Int} (h : Cz as a = .ok n) : ∃ j : Nat, as.findIdx? (fun b=>decide (b = a)) = some j /\ n = j:=by
  unfold Cz at h; split at h
  . cases h; exact ⟨_, by assumption, rfl⟩
  . cases h
theorem GJ [DecidableEq α] {ta tb : TE} {r : Enc α} [z : InE r] [y : MonoE r] {ma : Res (List α)} {mb : Res α} (ha : EvB K Er S OO σ ta (rV r) ma) (hb : EvB K Er S OO σ tb r mb) : EvB K Er S OO σ (tBM K "list" (G3 K) ta (XG tb ZM)) Xa (ma.bind fun as=>mb.bind fun a=>Cz as a):=fun H Q w s P=>
  ha.run w s FB.tr P fun as x H1 s1 w1 q1 ⟨p, xs, e, q, pr⟩ P1=>⟨by rw [e]; exact .inl ⟨rfl, _, SqL.of q⟩, hb.run w1 q1 FB.tr P1 fun b v H2 s2 w2 q2 r2 P2=>by
    obtain ⟨c, hc, P3⟩:=P2.okOf fun x=>B5
    obtain ⟨j, hj, rfl⟩:=CU hc
    have pr2:=Paired.imp2 (G:=r K H2) (fun _ _ h=>y.mono s2 h) pr
    obtain ⟨h1, h2⟩:=KS r2 pr2 hj
    exact ⟨p, xs, v, j, e, rfl, SqL.of (s2 _ _ q), z.fl r2, (Q4 r2 pr2).1, h1, h2, P3 _ H2 (Xm.refl _) rfl⟩⟩
theorem Gi {ta tb tc : TE} {p q : Int -> Int -> Bool} {ma mb mc : Res Int} (ha : EvB K Er S OO σ ta Xa ma) (hb : EvB K Er S OO σ tb Xa mb) (hc : EvB K Er S OO σ tc Xa mc) :
    EvB K Er S OO σ (CK (rI0 fun i j=>.bl (p i j)) (rI0 fun i j=>.bl (q i j)) ta tb tc) XY (ma.bind fun a=>mb.bind fun b=>if p a b = true then mc.bind fun c=>.ok (q b c) else .ok false):=fun H Q w s P=>
  ha.run w s FB.tr P fun a x H1 s1 w1 q1 r1 P1=>hb.run w1 q1 FB.tr P1 fun b y H2 s2 w2 q2 r2 P2=>⟨a, b, r1, r2, p a b, rfl, by
    cases h : p a b with
    | false=>rw [h] at P2; exact P2 _ H2 (Xm.refl _) rfl
    | true=>
      rw [h, if_pos rfl] at P2
      rw [if_pos rfl]
      exact hc.run w2 q2 FB.tr P2 fun c z H3 s3 w3 q3 r3 P3=>⟨b, c, r2, r3, P3 _ H3 (Xm.refl _) rfl⟩⟩
theorem GQ {α : Type} [DecidableEq α] {r r' : Enc α} {d : Nat} (E : EqOk r d) (h : ∀ {K : PySem.W.Frag} {H : Hp} {v : V} {a : α}, r' K H v a -> r K H v a) (m : MonoE r') : EqOk r' d where
  uniq:=fun I h1 h2=>E.uniq I (h h1) (h h2)
  eq:=fun I rx ry h1 h2 hu=>E.eq I rx ry (h h1) (h h2) hu
  rc:=fun I rx ry h1 h2 hu=>E.rc I rx ry (h h1) (h h2) hu
  ne:=fun I rx ry h1 h2 hu=>E.ne I rx ry (h h1) (h h2) hu
  keep:=fun s q=>m.mono s q
theorem Bw {α : Type} [DecidableEq α] {r : Enc α} {d : Nat} [m : MonoE r] (E : EqOk r d) : EqOk (rV r) (d + 1):=GQ (BU E) (fun ⟨a, xs, e, q, p⟩=>⟨a, xs, e, SqL.of q, p⟩) inferInstance
theorem Hr {α β : Type} [DecidableEq α] [DecidableEq β] {r : Enc α} {q : Enc β} {d : Nat} [m : MonoE r] [n : MonoE q] (E : EqOk r d) (F : EqOk q d) : EqOk (rP2 r q) (d + 1):=GQ (BJ E F) (fun ⟨a, x, y, e, q, p⟩=>⟨a, x, y, e, SqT.of q, p⟩) inferInstance
end
end L2
namespace L2
open PySem PySem.Spec PyProof.Rows
section
variable {K : PySem.W.Frag} {Er : Exc -> Hp -> Prop} {S : SC} {OO OO' OO1 OO2 : List (List Xt)} {σ : St} {α β γ ρ ι δ ε : Type}
variable {Fd : Ends -> β -> Hp -> Prop} [fd : FdOk Fd] {u : TS}
theorem U7 {ta tb : TE} {o : OE α} {q : OE β} [z : MonoO o] [y : MonoO q] {ma : Res α} {mb : Res β} (ha : Ev K Er S OO OO1 σ ta o ma) (hb : ∀ C, Ev K Er S (C :: OO1) (C :: OO2) σ tb q mb) : Ev K Er S OO OO2 σ (EN (XG ta (XG tb ZM))) (oT2 o q) (ma.bind fun a=>mb.bind fun b=>.ok (a, b)):=fun H Q w s P=>by
  refine ha H _ w s ?_
  cases em : ma with
  | bad=>rw [em] at P; exact P
  | err x=>rw [em] at P; exact P
  | ok a=>
    rw [em] at P
    intro v C H1 s1 w1 m1 ho
    refine hb C H1 _ w1 (S.mono _ _ m1 s) ?_
    have P1 : PZ Er (FO K OO OO2 (oT2 o q) Q) H (mb.bind fun b=>.ok (a, b)):=P
    cases en : mb with
    | bad=>rw [en] at P1; exact P1
    | err x=>rw [en] at P1; exact fun H2 s2=>P1 H2 (s1.trans s2)
    | ok b=>
      rw [en] at P1
      have P1 : FO K OO OO2 (oT2 o q) Q (a, b) H:=P1
      intro v2 C2 H2 s2 w2 m2 ho2
      refine ⟨by show 2 <= sizeLine; decide, fun p hp=>?_⟩
      have pe : ((C ++ C2) :: OO2).flatten.Perm (C2 :: C :: OO2).flatten:=by
        simp only [List.flatten_cons]
        rw [← List.append_assoc]
        exact List.perm_append_comm.append_right _
      have s3 : Xm H2 (upd H2 p (.tup [v, v2])):=XE hp _
      have w3:=(w2.keep s3).of pe
      have m3 : Xm (hid H2 (C2 :: C :: OO2)) (hid (upd H2 p (.tup [v, v2])) ((C ++ C2) :: OO2)):=by rw [X3 pe]; exact Xi s3
      refine P1 (.ref p) (C ++ C2) _ (s1.trans (s2.trans s3)) w3 (m1.trans (m2.trans m3)) ⟨p, v, v2, C, C2, rfl, ?_, z.mono (m2.trans m3) ho, y.mono m3 ho2, rfl⟩
      rw [X3 pe]
      exact Z7 w2 hp
theorem Uu : ∀ {l : List Xt} {a b : Xt}, (l.map (·.1)).Nodup -> a ∈ l -> b ∈ l -> a.1 = b.1 -> a = b
  | [], _, _, _, h, _, _=>by cases h
  | c :: l, a, b, n, ha, hb, e=>by
    rw [List.map_cons, List.nodup_cons] at n
    cases ha with
    | head=>cases hb with
      | head=>rfl
      | tail _ hb=>exact absurd (List.mem_map.mpr ⟨b, hb, e.symm⟩) n.1
    | tail _ ha=>cases hb with
      | head=>exact absurd (List.mem_map.mpr ⟨a, ha, e⟩) n.1
      | tail _ hb=>exact Uu n.2 ha hb e
theorem U6 {Cs : List (List Xt)} {k : Nat} {C : List Xt} (h : Cs[k]? = some C) : ∀ c ∈ C, c ∈ Cs.flatten:=fun c hc=>List.mem_flatten.mpr ⟨C, List.mem_of_getElem? h, hc⟩
theorem Eu {as : List α} {i : Int} {a : α} (h : atR as i = .ok a) : ∃ k, ixN as.length i = some k /\ as[k]? = some a:=by
  have:=Ks h
  unfold atI at this
  cases e : ixN as.length i with
  | none=>rw [e] at this; cases this
  | some k=>rw [e] at this; exact ⟨k, rfl, this⟩
theorem BB {r : Enc α} [z : MonoE r] {v : V} {as : List (List α)} {row row' : List α} {H : Hp} {p q : Addr} {xs ys ys' : List V} {Cs : List (List Xt)} {k kk : Nat} (w : W OO H) (hk : OO[k]? = some ((p, .lst xs) :: Cs.flatten)) (hP : P3 (oL (oF r) K (hid H OO)) xs as Cs) (hrow : as[kk]? = some row)
    (hx : xs[kk]? = some (.ref q)) (hq : H q = some (.lst ys)) (hcs : Cs[kk]? = some [(q, .lst ys)]) (pr : Paired (r K (hid H OO)) ys' row') :
    ∃ C', W (OO.set k C') (upd H q (.lst ys')) /\ Xm (hid H OO) (hid (upd H q (.lst ys')) (OO.set k C')) /\ oL (oL (oF r)) K (hid (upd H q (.lst ys')) (OO.set k C')) (.ref p) (as.set kk row') C':=by
  have hkl : kk < Cs.length:=by
    rcases Nat.lt_or_ge kk Cs.length with h | h
    . exact h
    . rw [List.getElem?_eq_none h] at hcs; cases hcs
  have hin : ∀ c ∈ (p, HO.lst xs) :: Cs.flatten, c ∈ OO.flatten:=fun c hc=>List.mem_flatten.mpr ⟨_, List.mem_of_getElem? hk, hc⟩
  have w0 : W ([] :: OO) H:=w.nil
  have cn0:=Jl w0 hk
  rw [List.append_nil] at cn0
  have e0 : Cs[kk] = [(q, .lst ys)]:=by
    rw [List.getElem?_eq_getElem hkl] at hcs; exact Option.some.inj hcs
  have hp:=Dh (Cs:=Cs) (j:=kk) (D:=[(q, HO.lst ys')]) hkl
  rw [e0] at hp
  have hpm : ((Cs.set kk [(q, HO.lst ys')]).flatten.map (·.1)).Perm (Cs.flatten.map (·.1)):=by
    have:=hp.map (·.1)
    simp only [List.map_append, List.map_cons, List.map_nil] at this
    exact (List.perm_append_right_iff _).mp this
  have hpne : p ∉ Cs.flatten.map (·.1):=by
    have h1:=X2 hk
    have:=(w.of (OO':=((p, HO.lst xs) :: Cs.flatten) :: OO.set k []) h1).nd
    rw [Zq, List.map_cons, List.cons_append, List.nodup_cons] at this
    exact fun z=>this.1 (List.mem_append_left _ z)
  have hqC : q ∈ Cs.flatten.map (·.1):=List.mem_map.mpr ⟨(q, .lst ys), U6 hcs _ (by simp), rfl⟩
  have hpq : p ≠ q:=fun e=>hpne (e ▸ hqC)
  have hcells : ∀ c ∈ (p, HO.lst xs) :: (Cs.set kk [(q, HO.lst ys')]).flatten, upd H q (.lst ys') c.1 = some c.2 /\ Eg c.2 = true:=fun c hc=>by
    rcases List.mem_cons.mp hc with rfl | hc
    . rw [XA hpq]; exact ⟨w.tr _ (hin _ List.mem_cons_self), rfl⟩
    . obtain ⟨D, hD, hcD⟩ := List.mem_flatten.mp hc
      rcases List.mem_or_eq_of_mem_set hD with hD | hD
      . by_cases hcq : c.1 = q
        . -- a cell at q in another place: then it is this one
          have hc2 : c ∈ (Cs.set kk [(q, HO.lst ys')]).flatten:=hc
          have n1 : ((Cs.set kk [(q, HO.lst ys')]).flatten.map (·.1)).Nodup:=hpm.nodup_iff.mpr cn0
          have hm : (q, HO.lst ys') ∈ (Cs.set kk [(q, HO.lst ys')]).flatten:=List.mem_flatten.mpr ⟨[(q, .lst ys')], List.mem_set (by simpa using hkl) _, by simp⟩
          have e1 : c = (q, HO.lst ys'):=by
            have:=Uu n1 hc2 hm hcq
            exact this
          rw [e1]; exact ⟨Yu, rfl⟩
        . rw [XA hcq]
          have : c ∈ OO.flatten:=hin c (List.mem_cons_of_mem _ (List.mem_flatten.mpr ⟨D, hD, hcD⟩))
          exact ⟨w.tr c this, w.mu c this⟩
      . rw [hD] at hcD
        have e1 : c = (q, HO.lst ys'):=by simpa using hcD
        rw [e1]; exact ⟨Yu, rfl⟩
  have hq' : q ∈ (Cs.set kk [(q, HO.lst ys')]).flatten.map (·.1):=hpm.mem_iff.mpr hqC
  obtain ⟨w2, m2⟩:=EQ (C':=(p, .lst xs) :: (Cs.set kk [(q, HO.lst ys')]).flatten) (p:=q) (o:=.lst ys') w0 hk (List.mem_cons_of_mem _ hqC) (List.mem_cons_of_mem _ hq') (by
      rw [List.map_cons, List.nodup_cons]
      exact ⟨fun z=>hpne (hpm.mem_iff.mp z), hpm.nodup_iff.mpr cn0⟩) (fun b hb=>by
      rw [List.append_nil]
      rcases List.mem_cons.mp hb with rfl | hb
      . exact List.mem_cons_self
      . exact List.mem_cons_of_mem _ (hpm.mem_iff.mp hb)) (fun c hc=>(hcells c hc).1) fun c hc=>(hcells c hc).2
  rw [Y3] at m2
  have e3 : xs.set kk (.ref q) = xs:=by
    apply List.ext_getElem?
    intro n
    by_cases hn : n = kk
    . subst hn
      rw [hx, List.getElem?_set_self (by
        rcases Nat.lt_or_ge n xs.length with h | h
        . exact h
        . rw [List.getElem?_eq_none h] at hx; cases hx)]
    . rw [List.getElem?_set_ne (fun e=>hn e.symm)]
  refine ⟨_, w2, m2, ⟨p, xs, Cs.set kk [(q, HO.lst ys')], rfl, ?_, rfl⟩⟩
  have:=P3.set (F:=oL (oF r) K (hid (upd H q (.lst ys')) (OO.set k ((p, .lst xs) :: (Cs.set kk [(q, HO.lst ys')]).flatten)))) (a:=V.ref q) (b:=row') (c:=[(q, HO.lst ys')])
    ⟨q, ys', List.replicate row'.length [], rfl, (P3.of (Paired.imp2 (fun _ _ h=>z.mono m2 h) pr)).imp fun _ _ _ h=>h, by rw [Yd]⟩ kk (P3.imp (fun _ _ _ h=>MonoO.mono m2 h) hP)
  rw [e3] at this
  exact this
theorem CV {r : Enc α} {h : Hp} {as : List (List α)} {xs : List V} {Cs : List (List Xt)} {kk : Nat} {row : List α} (q : P3 (oL (oF r) K h) xs as Cs) (hrow : as[kk]? = some row) : ∃ q0 ys, xs[kk]? = some (.ref q0) /\ Cs[kk]? = some [(q0, .lst ys)] /\ Paired (r K h) ys row:=by
  obtain ⟨x, c, h1, h2, p, ys, Ds, e, h3, h4⟩:=q.get hrow
  obtain ⟨h5, h6⟩:=P3.flat h3
  rw [h6] at h4
  exact ⟨p, ys, by rw [h1, e], by rw [h2, h4], h5⟩
theorem JY {F : V -> α -> Prop} {y : V} {a : α} (r : F y a) : ∀ {l : List V} {m : List α} (i : Nat), Paired F l m -> Paired F (l.set i y) (m.set i a)
  | _, _, _, .nil=>.nil
  | _, _, 0, .cons _ t=>.cons r t
  | _, _, i + 1, .cons q t=>.cons q (JY r i t)
theorem FG {ta ti tj : TE} {r : Enc α} [z : MonoE r] {m : Res α} {mi mj : Res Int} {f : List (List α) -> Res β} {v : V} {as : List (List α)} {C : List Xt} (i k : Nat) (hσ : σ[i]? = some (some v)) (hk : OO[k]? = some C) (h : ∀ x, S.p x -> oL (oL (oF r)) K x v as C) (he : EvS K Er S OO σ ta r m)
    (hi : EvB K Er S OO σ ti Xa mi) (hj : EvB K Er S OO σ tj Xa mj)
    (hr : ∀ bs C', Sv Er (S.addO K (oL (oL (oF r))) v bs C') (OO.set k C') σ u Fd (f bs)) :
    Sv Er S OO σ (Jf (By ta (Is (tOp (Ej K) (KM i) ti) tj EW)) u) Fd (m.bind fun a=>mi.bind fun x=>(atR as x).bind fun row=>mj.bind fun y=>(Ux row y a).bind fun row'=>(Ux as x row').bind f):=fun H D w s P=>
  he.st w s P fun a va H1 s1 w1 q1 r1 P1=>⟨v, hσ, hi.st w1 q1 P1 fun x vx H2 s2 w2 q2 r2 P2=>by
    cases ea : atR as x with
    | bad=>rw [ea] at P2; exact P2.elim
    | err ex=>exact absurd ea Kr
    | ok row=>
      rw [ea] at P2
      obtain ⟨kk, hkk, hrow⟩:=Eu ea
      obtain ⟨p, xs, Cs, e, q, c⟩:=h _ q2
      subst c e
      obtain ⟨q0, ys, g1, g2, g3⟩:=CV q hrow
      have hin : ∀ c ∈ (p, HO.lst xs) :: Cs.flatten, c ∈ OO.flatten:=fun c hc=>List.mem_flatten.mpr ⟨_, List.mem_of_getElem? hk, hc⟩
      have hH : H2 p = some (.lst xs):=w2.tr (p, .lst xs) (hin _ List.mem_cons_self)
      have hq0 : H2 q0 = some (.lst ys):=w2.tr (q0, .lst ys) (hin _ (List.mem_cons_of_mem _ (U6 g2 _ (by simp))))
      refine ⟨p, xs, x, .ref q0, rfl, r2, SqL.of hH, by unfold atI; rw [q.len.1, hkk]; exact g1, hj.st w2 q2 (f:=fun y=>(Ux row y a).bind fun row'=>(Ux as x row').bind f) P2 fun y vy H3 s3 w3 q3 r3 P3'=>?_⟩
      cases eb : Ux row y a with
      | bad=>rw [eb] at P3'; exact P3'.elim
      | err ex=>exact absurd eb BR
      | ok row'=>
        rw [eb] at P3'
        obtain ⟨jj, hjj, rfl⟩:=BO eb
        have P4 : PZ Er (Fd D) (hid H3 OO) (f (as.set kk (row.set jj a))):=by
          have e5 : Ux as x (row.set jj a) = .ok (as.set kk (row.set jj a)):=by unfold Ux; rw [hkk]
          have : PZ Er (Fd D) (hid H3 OO) ((Ux as x (row.set jj a)).bind f):=P3'
          rw [e5] at this
          exact this
        have m3:=Xi (OO:=OO) s3
        obtain ⟨C', w4, m4, o4⟩:=BB (ys':=ys.set jj va) (row':=row.set jj a) (v:=.ref p) w3 hk (P3.imp (fun _ _ _ h=>MonoO.mono m3 h) q) hrow g1 (s3 _ _ hq0) g2 (JY (z.mono ((Xi s2).trans m3) r1) jj (Paired.imp2 (fun _ _ h=>z.mono m3 h) g3))
        exact ⟨q0, ys, y, jj, rfl, r3, s3 _ _ hq0, by rw [Paired.len g3]; exact hjj, hr _ C' _ D w4 ⟨S.mono _ _ m4 q3, o4⟩ (PZ.tr (fd.tr D) m4 P4)⟩⟩
theorem Vp (K : PySem.W.Frag) (T : String) : PySem.W.kitOne K (.type T) (.type T) = some true:=by
  unfold PySem.W.kitOne
  rw [if_pos (beq_self_eq_true _)]
theorem V4 (K : PySem.W.Frag) : PySem.W.kitOne K (.type "int") (.type "bool") = some false:=by
  first
    | rfl
    | decide +kernel
    | (unfold PySem.W.kitOne PySem.W.kitCls; rfl)
end
end L2
namespace L2
open PySem PySem.Spec PyProof.Rows
section
variable {K : PySem.W.Frag} {Er : Exc -> Hp -> Prop} {S : SC} {OO OO' OO1 OO2 : List (List Xt)} {σ : St} {α β γ ρ ι δ ε : Type}
variable {Fd : Ends -> β -> Hp -> Prop} [fd : FdOk Fd] {u : TS}
end
end L2
namespace L2
open PySem PySem.Spec PyProof.Rows
section
variable {K : PySem.W.Frag} {Er : Exc -> Hp -> Prop} {S : SC} {OO OO' OO1 OO2 : List (List Xt)} {σ : St} {α β γ ρ ι δ ε : Type}
variable {α1 α2 α3 α4 α5 : Type}
noncomputable def rP4 (r1 : Enc α1) (r2 : Enc α2) (r3 : Enc α3) (r4 : Enc α4) : Enc (α1 × α2 × α3 × α4):=fun K H v p=>∃ a x1 x2 x3 x4, v = .ref a /\ H a = some (.tup [x1, x2, x3, x4]) /\ r1 K H x1 p.1 /\ r2 K H x2 p.2.1 /\ r3 K H x3 p.2.2.1 /\ r4 K H x4 p.2.2.2
instance {r1 : Enc α1} {r2 : Enc α2} {r3 : Enc α3} {r4 : Enc α4} [m1 : MonoE r1] [m2 : MonoE r2] [m3 : MonoE r3] [m4 : MonoE r4] : MonoE (rP4 r1 r2 r3 r4):=⟨fun s h9=>(by obtain ⟨a, x1, x2, x3, x4, e, h, p1, p2, p3, p4⟩:=h9; exact ⟨a, x1, x2, x3, x4, e, s _ _ h, m1.mono s p1, m2.mono s p2, m3.mono s p3, m4.mono s p4⟩)⟩
instance {r1 : Enc α1} {r2 : Enc α2} {r3 : Enc α3} {r4 : Enc α4} [m1 : FlatE r1] [m2 : FlatE r2] [m3 : FlatE r3] [m4 : FlatE r4] : FlatE (rP4 r1 r2 r3 r4):=⟨fun s h9=>(by obtain ⟨a, x1, x2, x3, x4, e, h, p1, p2, p3, p4⟩:=h9; exact ⟨a, x1, x2, x3, x4, e, s _ _ h rfl, m1.flat s p1, m2.flat s p2, m3.flat s p3, m4.flat s p4⟩)⟩
instance {r1 : Enc α1} {r2 : Enc α2} {r3 : Enc α3} {r4 : Enc α4} : TyE (rP4 r1 r2 r3 r4) "tuple":=⟨fun h9=>(by obtain ⟨p, x1, x2, x3, x4, e, q, _⟩:=h9; subst e; exact .tup q)⟩
noncomputable def rP5 (r1 : Enc α1) (r2 : Enc α2) (r3 : Enc α3) (r4 : Enc α4) (r5 : Enc α5) : Enc (α1 × α2 × α3 × α4 × α5):=fun K H v p=>∃ a x1 x2 x3 x4 x5, v = .ref a /\ H a = some (.tup [x1, x2, x3, x4, x5]) /\ r1 K H x1 p.1 /\ r2 K H x2 p.2.1 /\ r3 K H x3 p.2.2.1 /\ r4 K H x4 p.2.2.2.1 /\ r5 K H x5 p.2.2.2.2
instance {r1 : Enc α1} {r2 : Enc α2} {r3 : Enc α3} {r4 : Enc α4} {r5 : Enc α5} [m1 : MonoE r1] [m2 : MonoE r2] [m3 : MonoE r3] [m4 : MonoE r4] [m5 : MonoE r5] : MonoE (rP5 r1 r2 r3 r4 r5):=⟨fun s h9=>(by obtain ⟨a, x1, x2, x3, x4, x5, e, h, p1, p2, p3, p4, p5⟩:=h9; exact ⟨a, x1, x2, x3, x4, x5, e, s _ _ h, m1.mono s p1, m2.mono s p2, m3.mono s p3, m4.mono s p4, m5.mono s p5⟩)⟩
instance {r1 : Enc α1} {r2 : Enc α2} {r3 : Enc α3} {r4 : Enc α4} {r5 : Enc α5} [m1 : FlatE r1] [m2 : FlatE r2] [m3 : FlatE r3] [m4 : FlatE r4] [m5 : FlatE r5] : FlatE (rP5 r1 r2 r3 r4 r5):=⟨fun s h9=>(by obtain ⟨a, x1, x2, x3, x4, x5, e, h, p1, p2, p3, p4, p5⟩:=h9; exact ⟨a, x1, x2, x3, x4, x5, e, s _ _ h rfl, m1.flat s p1, m2.flat s p2, m3.flat s p3, m4.flat s p4, m5.flat s p5⟩)⟩
instance {r1 : Enc α1} {r2 : Enc α2} {r3 : Enc α3} {r4 : Enc α4} {r5 : Enc α5} : TyE (rP5 r1 r2 r3 r4 r5) "tuple":=⟨fun h9=>(by obtain ⟨p, x1, x2, x3, x4, x5, e, q, _⟩:=h9; subst e; exact .tup q)⟩
theorem Dj {t1 : TE} {t2 : TE} {t3 : TE} {t4 : TE} {t5 : TE} {r1 : Enc α1} {r2 : Enc α2} {r3 : Enc α3} {r4 : Enc α4} {r5 : Enc α5} [z1 : MonoE r1] [z2 : MonoE r2] [z3 : MonoE r3] [z4 : MonoE r4] [z5 : MonoE r5] {m1 : Res α1} {m2 : Res α2} {m3 : Res α3} {m4 : Res α4} {m5 : Res α5} (h1 : EvS K Er S OO σ t1 r1 m1) (h2 : EvS K Er S OO σ t2 r2 m2) (h3 : EvS K Er S OO σ t3 r3 m3) (h4 : EvS K Er S OO σ t4 r4 m4) (h5 : EvS K Er S OO σ t5 r5 m5) : EvS K Er S OO σ (EN (XG t1 (XG t2 (XG t3 (XG t4 (XG t5 ZM)))))) (rP5 r1 r2 r3 r4 r5) (m1.bind fun a1=>m2.bind fun a2=>m3.bind fun a3=>m4.bind fun a4=>m5.bind fun a5=>.ok (a1, a2, a3, a4, a5)):=fun H Q w s P=>
  h1.run w s FS.tr P fun a1 y1 H1 s1 w1 u1 q1 P1=>h2.run w1 u1 FS.tr P1 fun a2 y2 H2 s2 w2 u2 q2 P2=>h3.run w2 u2 FS.tr P2 fun a3 y3 H3 s3 w3 u3 q3 P3=>h4.run w3 u3 FS.tr P3 fun a4 y4 H4 s4 w4 u4 q4 P4=>h5.run w4 u4 FS.tr P4 fun a5 y5 H5 s5 w5 u5 q5 P5=>⟨by show 5 <= sizeLine; decide, fun p hp=>P5 _ _ (XE hp _) ⟨p, y1, y2, y3, y4, y5, rfl, Z7 w5 hp, z1.mono ((Xi s2).trans ((Xi s3).trans ((Xi s4).trans ((Xi s5).trans (Xi (XE hp _)))))) q1, z2.mono ((Xi s3).trans ((Xi s4).trans ((Xi s5).trans (Xi (XE hp _))))) q2, z3.mono ((Xi s4).trans ((Xi s5).trans (Xi (XE hp _)))) q3, z4.mono ((Xi s5).trans (Xi (XE hp _))) q4, z5.mono (Xi (XE hp _)) q5⟩⟩
noncomputable def tg5 {r1 : Enc α1} {r2 : Enc α2} {r3 : Enc α3} {r4 : Enc α4} {r5 : Enc α5} [MonoE r1] [MonoE r2] [MonoE r3] [MonoE r4] [MonoE r5] (i1 i2 i3 i4 i5 : Nat) : Tgt K OO (B0 K 5 (ZN (YX i1) (ZN (YX i2) (ZN (YX i3) (ZN (YX i4) (ZN (YX i5) Ek)))))) (rP5 r1 r2 r3 r4 r5) (V × V × V × V × V) where
  set:=fun v σ=>(((((σ.set i1 (some v.1)).set i2 (some v.2.1)).set i3 (some v.2.2.1)).set i4 (some v.2.2.2.1)).set i5 (some v.2.2.2.2))
  sc:=fun a v S=>(((((S.add K r1 v.1 a.1).add K r2 v.2.1 a.2.1).add K r3 v.2.2.1 a.2.2.1).add K r4 v.2.2.2.1 a.2.2.2.1).add K r5 v.2.2.2.2 a.2.2.2.2)
  ok:=fun {H v a σ S Q} ⟨p, x1, x2, x3, x4, x5, e, h, h1, h2, h3, h4, h5⟩ hs hq=>⟨p, _, e, SqT.of (Xq _ _ h), rfl, x1, [x2, x3, x4, x5], rfl, x2, [x3, x4, x5], rfl, x3, [x4, x5], rfl, x4, [x5], rfl, x5, [], rfl, rfl, hq (x1, x2, x3, x4, x5) ⟨⟨⟨⟨⟨hs, h1⟩, h2⟩, h3⟩, h4⟩, h5⟩⟩
theorem Br {K : PySem.W.Frag} {n i1 i2 i3 : Nat} (h1 : i1 < n) (h2 : i2 < n) (h3 : i3 < n) : Vd n (B0 K 3 (ZN (YX i1) (ZN (YX i2) (ZN (YX i3) Ek)))):=fun x σ H Q q=>by
  obtain ⟨a, xs, e1, hq, hl, v1, r1, f1, v2, r2, f2, v3, r3, f3, e9, q⟩:=q
  exact ⟨a, xs, e1, hq, hl, v1, r1, f1, v2, r2, f2, v3, r3, f3, e9, q, by simp, fun k hk=>by rw [List.getElem?_set_ne (by omega), List.getElem?_set_ne (by omega), List.getElem?_set_ne (by omega)]⟩
noncomputable def Ia (as : List Int) : Res Int:=chk (0 < as.length) (.ok (UV as))
theorem DW {ta : TE} {ma : Res (List Int)} (ha : EvB K Er S OO σ ta (rPL Xa) ma) : EvB K Er S OO σ (tCB (EE K UV) (XG ta ZM)) Xa (ma.bind Ia):=fun H Q w s P=>
  ha.run w s FB.tr P fun a x H1 s1 w1 q1 ⟨p, xs, e, q, pr⟩ P1=>by
    obtain ⟨h1, P1⟩:=PZ.chk P1
    exact ⟨p, a, by rw [e], by rw [← ZV pr]; exact SqT.of q, h1, P1 _ H1 (Xm.refl _) rfl⟩
theorem Ed {ta : TE} {m : Res (Int × Int × Int)} (ha : EvB K Er S OO σ ta (rP3 Xa Xa Xa) m) : EvB K Er S OO σ ta (rPL Xa) (m.bind fun p=>.ok [p.1, p.2.1, p.2.2]):=fun H Q w s P=>
  ha.run w s FB.tr P fun a x H1 s1 w1 q1 ⟨p, x1, x2, x3, e, q, h1, h2, h3⟩ P1=>P1 _ H1 (Xm.refl _) ⟨p, _, e, q, .cons h1 (.cons h2 (.cons h3 .nil))⟩
variable {Fd : Ends -> β -> Hp -> Prop} [fd : FdOk Fd] {u : TS}
end
end L2
namespace L2
open PySem PySem.Spec PyProof.Rows
theorem Y2.ex {P : Program} {w : World} {H : Hp} {h : Heap} {a : Addr} {o : HO} (x : Y2 P w H h a o) : ∃ u, h.get? a = some u:=by
  cases o with
  | lst xs=>obtain ⟨_, _, _, _, e⟩:=x; exact ⟨_, e⟩
  | tup xs=>obtain ⟨_, _, _, p⟩:=x; obtain ⟨o, e, _⟩:=p; exact ⟨_, e⟩
  | dK kvs=>obtain ⟨_, _, _, _, o, _, _, e, _⟩:=x; exact ⟨_, e⟩
  | dT kvs=>obtain ⟨_, _, _, _, o, _, _, e, _⟩:=x; exact ⟨_, e⟩
  | set S n=>obtain ⟨o, _, _, _, e, _⟩:=x; exact ⟨_, e⟩
  | ins C dx fs=>obtain ⟨_, _, _, e, _⟩:=x; exact ⟨_, e⟩
  | own y=>exact x
  | xd fs=>obtain ⟨_, ⟨_, _, _, e, _⟩, _⟩:=x; exact ⟨_, e⟩
  | rng lo hi=>obtain ⟨_, _, _, e⟩:=x; exact ⟨_, e⟩
  | frz ob u=>exact ⟨_, x.1⟩
  | tbl ps=>exact ⟨_, x⟩
  | met f y=>exact ⟨_, x⟩
  | ext φ=>exact x.2.1
theorem HOk.un0 {P : Program} {w : World} {H : Hp} {h : Heap} {a : Addr} (x : HOk P w H h) (e : h.get? a = none) : H a = none:=by
  cases q : H a with
  | none=>rfl
  | some u=>obtain ⟨v, hv⟩:=(x a u q).ex; rw [e] at hv; cases hv
structure Fl (h0 h : Heap) (H : Hp) (a T : Addr) (cls : Value) : Prop where
  na : h0.get? a = none
  nT : h0.get? T = none
  fa : H a = none
  fT : H T = none
  ne : T ≠ a
  obj : ∃ oe vs oT ts a0, h.get? a = some oe /\ oe.cls = cls /\ vs[0]? = some a0 /\ oe.data = .fields vs /\ vs[1]? = some (.ref T) /\ h.get? T = some oT /\ oT.data = .fields ts /\ ts[3]? = some Value.none
noncomputable def Cf (h : Heap) (fs : List Addr) (a T : Addr) : Heap:=F5 h (fun b=>if b ∈ fs ∨ b = a ∨ b = T then some (.own 0) else none)
theorem QZ {h : Heap} {fs : List Addr} {a T b : Addr} {o : Obj} (e : h.get? b = some o) (n1 : b ∉ fs) (n2 : b ≠ a) (n3 : b ≠ T) : (Cf h fs a T).get? b = some o:=
  KJ e (if_neg fun z=>z.elim n1 fun z=>z.elim n2 n3)
theorem UI {h : Heap} {fs : List Addr} {a T b : Addr} {o : Obj} (e : (Cf h fs a T).get? b = some o) : h.get? b = some o /\ b ∉ fs /\ b ≠ a /\ b ≠ T:=by
  obtain ⟨h1, h2⟩:=GF e
  have h3 : ¬ (b ∈ fs ∨ b = a ∨ b = T):=fun z=>by
    have:=(if_pos z).symm.trans h2
    cases this
  exact ⟨h1, fun q=>h3 (.inl q), fun q=>h3 (.inr (.inl q)), fun q=>h3 (.inr (.inr q))⟩
theorem Ql {h : Heap} {fs : List Addr} {a T b : Addr} (n : b ∈ fs ∨ b = a ∨ b = T) : (Cf h fs a T).get? b = none:=by
  cases q : (Cf h fs a T).get? b with
  | none=>rfl
  | some o=>
    obtain ⟨_, h1, h2, h3⟩:=UI q
    exact (n.elim h1 fun z=>z.elim h2 h3).elim
theorem UN {h base B : Heap} : ∀ {l : List Env}, h.FunFrames base l -> (∀ b ∈ frs l, B.get? b = none) -> h.FunFrames B l
  | [], _, _=>trivial
  | env :: r, ⟨hk, ⟨L, o, hf, hn, ho, hd⟩, hr⟩, n=>
    ⟨hk, ⟨L, o, hf, n L (by unfold frs; rw [List.filterMap_cons, hf]; exact List.mem_cons_self), ho, hd⟩, UN hr fun b hb=>n b (by unfold frs; rw [List.filterMap_cons, hf]; exact List.mem_cons_of_mem _ hb)⟩
section
variable {P : Program} {w : World} {h0 h h' base : Heap} {H : Hp} {a T : Addr} {cls a0 : Value} {l : List Env}
theorem Fl.fly (x : Fl h0 h H a T cls) (hl : h.FunFrames base l) : ∃ a0, Heap.FlyingW (Cf h (frs l) a T) l a cls a0 h:=by
  obtain ⟨oe, vs, oT, ts, a0, ha, hc, h0', hd, h1, hT, hdT, h3⟩:=x.obj
  exact ⟨a0, fun b o e=>(UI e).1, Ql (.inr (.inl rfl)), UN hl fun b hb=>Ql (.inl hb), oe, vs, T, oT, ts, ha, ⟨hc, h0'⟩, hd, h1, Ql (.inr (.inr rfl)), x.ne, hT, hdT, h3⟩
theorem Un.traced (hl : h.FunFrames base l) (keep : ∀ b o, b ∉ frs l -> b ≠ a -> b ≠ T -> h.get? b = some o -> h'.get? b = some o) (up : h.UpToSlots h') : Un (frs l) [a, T] H H h h' where
  keep:=fun b o e _ hb hx=>keep b o hb (fun z=>hx (by simp [z])) (fun z=>hx (by simp [z])) e
  slot:=fun b o e _ hb _=>by
    obtain ⟨_, o2, ho2, hd2⟩:=hl.mem hb
    rw [e] at ho2; cases ho2
    exact up b o e hd2
  free:=fun b o e n _=>n
  there:=fun b o e hx=>by
    by_cases hb : b ∈ frs l
    . obtain ⟨_, o2, ho2, hd2⟩ := hl.mem hb
      obtain ⟨sl, q⟩:=up b o2 ho2 hd2
      exact ⟨_, q⟩
    . exact ⟨o, keep b o hb (fun z=>hx (by simp [z])) (fun z=>hx (by simp [z])) e⟩
  tups:=fun _ _ q=>q
  frzs:=fun _ _ _ q=>q
  tbls:=fun _ ps q=>⟨#[], by simpa using q⟩
theorem HOk.traced (hok : HOk P w H h) (hfn : ∀ b ∈ frs l, H b = none) (fa : H a = none) (fT : H T = none) (keep : ∀ b o, b ∉ frs l -> b ≠ a -> b ≠ T -> h.get? b = some o -> h'.get? b = some o) : HOk P w H h':=fun b o e=>by
  refine (hok b o e).stay (fun c u hc q=>?_) (fun _ q=>q) fun _ _ q=>q
  have hn : H c ≠ none:=by
    rcases hc with z | z
    . rw [z, e]; exact fun y=>nomatch y
    . rw [z]; exact fun y=>nomatch y
  exact keep c u (fun z=>hn (hfn c z)) (fun z=>hn (z ▸ fa)) (fun z=>hn (z ▸ fT)) q
theorem Fl.after (x : Fl h0 h H a T cls) (hl : h.FunFrames base l) (hfn : ∀ b ∈ frs l, H b = none) (hok : HOk P w H h) (th : ∀ b o, h0.get? b = some o -> ∃ o', h.get? b = some o')
    (st : (Cf h (frs l) a T).StaysIn h') (tr : h'.TracedW (Cf h (frs l) a T) a cls a0) (up : h.UpToSlots h') : ∃ T', Fl h0 h' H a T' cls /\ HOk P w H h' /\ Un (frs l) [a, T] H H h h':=by
  obtain ⟨oe, vs, T', oT, ts, ha, ⟨hc, h0'⟩, hd, h1, hnT, hne, hT, hdT, h3⟩:=tr
  have key : T' = T ∨ h.get? T' = none:=by
    cases q : h.get? T' with
    | none=>exact .inr rfl
    | some o=>
      by_cases hf : T' ∈ frs l
      . obtain ⟨_, o2, ho2, hd2⟩ := hl.mem hf
        obtain ⟨sl, e2⟩:=up T' o2 ho2 hd2
        rw [hT] at e2; cases e2
        exact absurd hdT (hd2 ts)
      . by_cases hz : T' = T
        . exact .inl hz
        . rw [QZ q hf hne hz] at hnT; cases hnT
  have keep : ∀ b o, b ∉ frs l -> b ≠ a -> b ≠ T -> h.get? b = some o -> h'.get? b = some o:=fun b o n1 n2 n3 e=>st b o (QZ e n1 n2 n3)
  refine ⟨T', ⟨x.na, ?_, x.fa, ?_, hne, oe, vs, oT, ts, a0, ha, hc, h0', hd, h1, hT, hdT, h3⟩, hok.traced hfn x.fa x.fT keep, Un.traced hl keep up⟩
  . rcases key with e | e
    . rw [e]; exact x.nT
    . cases q : h0.get? T' with
      | none=>rfl
      | some o=>obtain ⟨o', e'⟩:=th _ _ q; rw [e] at e'; cases e'
  . rcases key with e | e
    . rw [e]; exact x.fT
    . exact hok.un0 e
end
section
variable {fs fs2 ex ex2 : List Addr} {H0 H H' : Hp} {h0 h h' : Heap}
theorem Un.past (u : Un fs ex H0 H h0 h) (v : Un fs2 ex2 H H' h h') (n : ∀ b, b ∈ ex2 -> h0.get? b = none) (f : ∀ b, b ∈ fs2 -> b ∈ fs ∨ h0.get? b = none) : Un fs ex H0 H' h0 h' where
  keep:=fun b o e m hb hx=>v.keep b o (u.keep b o e m hb hx) (u.free b o e m hx) (fun z=>(f b z).elim hb fun y=>by rw [e] at y; cases y) fun z=>by rw [n b z] at e; cases e
  slot:=fun b o e m hb hx=>by
    obtain ⟨sl, q⟩:=u.slot b o e m hb hx
    obtain ⟨sl2, q2⟩:=v.any q (u.free b o e m hx) (fun z=>by rw [n b z] at e; cases e)
    exact ⟨sl2, q2⟩
  free:=fun b o e m hx=>by
    obtain ⟨o', q⟩:=u.there b o e hx
    exact v.free b o' q (u.free b o e m hx) (fun z=>by rw [n b z] at e; cases e)
  there:=fun b o e hx=>by
    obtain ⟨o', q⟩:=u.there b o e hx
    exact v.there b o' q (fun z=>by rw [n b z] at e; cases e)
  tups:=fun b xs q=>v.tups b xs (u.tups b xs q)
  frzs:=fun b o x q=>v.frzs b o x (u.frzs b o x q)
  tbls:=fun b ps q=>by
    obtain ⟨m1, e1⟩:=u.tbls b ps q
    obtain ⟨m2, e2⟩:=v.tbls b _ e1
    exact ⟨m1 ++ m2, by rw [e2, Array.append_assoc]⟩
end
theorem Inv.past {X : Cx} {pins : List (Addr × Obj)} {σ : St} {H H' : Hp} {s : Shared} {h' : Heap} {ch : List Addr} (I : Inv X pins σ H s) (u : Un (frs X.stack) ch H H' s.heap h') (hok : HOk X.prog X.w H' h')
    (hch : ∀ b ∈ ch, X.s₀.heap.get? b = none /\ b ≠ X.env.locals /\ (∀ x c, X.env.cells.lookup x = some c -> c ≠ b) /\ ∀ p ∈ X.pn ++ pins, p.1 ≠ b) : Inv X pins σ H' { s with heap:=h' }:=by
  have nL : X.s₀.heap.get? X.env.locals = none:=Heap.get?_none_of_le I.ok.above
  obtain ⟨m, ⟨o, es, ep, ho, hd, hr⟩, hl⟩:=id I.loc
  have lch : X.env.locals ∉ ch:=fun z=>(hch _ z).2.1 rfl
  obtain ⟨sl, hL⟩:=u.any ho I.free lch
  have cl : ∀ x c v, X.env.cells.lookup x = some c -> s.heap.IsCell c v -> h'.IsCell c v:=fun x c v e ⟨oc, e1, e2⟩=>by
    obtain ⟨sl, q⟩:=u.any e1 (I.freeC x c e) fun z=>(hch c z).2.2.1 x c e rfl
    exact ⟨_, q, e2⟩
  refine ⟨I.ok, I.os, I.bare, I.base.past u (fun b hb=>(hch b hb).1) fun b hb=>?_, ⟨m, ⟨_, es, ep, hL, hd, hr⟩, fun i x v e1 e2 e3=>?_⟩, fun x c e=>?_, u.free _ o ho I.free lch, fun x c e=>?_, fun p hp=>?_, hok, I.len⟩
  . rcases List.mem_cons.mp (I.stkSub b hb) with z | z
    . exact .inr (z ▸ nL)
    . exact .inl z
  . obtain ⟨u', r, q⟩ := hl i x v e1 e2 e3
    refine ⟨u', r, ?_⟩
    rcases q with q | ⟨k, c, e, z⟩
    . exact .inl q
    . exact .inr ⟨k, c, e, cl x c _ e z⟩
  . obtain ⟨v, z⟩ := I.cell x c e
    exact ⟨v, cl x c v e z⟩
  . obtain ⟨v, oc, e1, _⟩ := I.cell x c e
    exact u.free c oc e1 (I.freeC x c e) fun z=>(hch c z).2.2.1 x c e rfl
  . obtain ⟨e, n, ne, nf, d⟩ := I.pin p hp
    have nch : p.1 ∉ ch:=fun z=>(hch p.1 z).2.2.2 p hp rfl
    exact ⟨u.keep p.1 p.2 e n (fun z=>(List.mem_cons.mp (I.stkSub _ z)).elim ne nf) nch, u.free p.1 p.2 e n nch, ne, nf, d⟩
noncomputable def CXE (P : Program) (w : World) : CXT:=fun outer H s E e s'=>∃ a T C H', e = .ref a /\ Fl s.heap s'.heap H' a T (.ref C) /\ s'.os = s.os /\ AllBare s'.gens /\ Un (frs outer) [] H H' s.heap s'.heap /\ HOk P w H' s'.heap /\ E (.ref C) none H'
section
variable {P : Program} {w : World} {K : PySem.W.Frag} {mg : Str -> Option Value} {base : Heap} {N : List Str} {qual : Str} {scope : Scope} {f : Addr} {cd : Value} {A : Around} {outer : List Env} {s0 : Shared} {H0 : Hp} {E : XK}
theorem KO : Va (CXE P w) (K4 (CXE P w) P w K mg base N qual scope f cd A outer s0 H0 E) E:=by
  intro pins σ H s e s' I ⟨a, T, C, H', he, x, os, bare, un, hok, q⟩
  subst he
  have I2:=I.call' os un hok bare (fun b z=>nomatch z)
  have th : ∀ b o, s0.heap.get? b = some o -> ∃ o', s.heap.get? b = some o':=fun b o e=>I.base.there b o e (fun z=>nomatch z)
  have nn : ∀ b, s.heap.get? b = none -> s0.heap.get? b = none:=fun b n=>by
    cases q : s0.heap.get? b with
    | none=>rfl
    | some o=>obtain ⟨o', e⟩:=th b o q; rw [n] at e; cases e
  have x0 : Fl s0.heap s'.heap H' a T (.ref C):=⟨nn _ x.na, nn _ x.nT, x.fa, x.fT, x.ne, x.obj⟩
  obtain ⟨a0, fl⟩:=x0.fly I2.stack
  refine wpAny_leaves_onW I.ok.frames rfl fl fun h' fl' up=>?_
  obtain ⟨T', y1, y2, y3⟩:=x0.after I2.stack I2.stkFree hok (fun b o e=>I2.base.there b o e (fun z=>nomatch z)) fl'.1 fl'.2.2.2 up
  refine ⟨a, T', C, H', rfl, y1, I2.os, bare, I2.base.past y3 (fun b hb=>?_) fun b hb=>?_, y2, q⟩
  . rcases List.mem_cons.mp hb with z | z
    . rw [z]; exact x0.na
    . rw [List.mem_singleton.mp z]; exact x0.nT
  . rcases List.mem_cons.mp (I2.stkSub b hb) with z | z
    . exact .inr (z ▸ Heap.get?_none_of_le I.ok.above)
    . exact .inl z
noncomputable def Cb (X : Cx) (E : XK) : Prop:=∀ (pins : List (Addr × Obj)) (σ : St) (H : Hp) (s : Shared) (C e : Addr) (vs : List Value) (h' : Heap), Inv X pins σ H s -> Heap.MadeExcOf s.heap h' e (.ref C) vs -> E (.ref C) none H -> X.xe (.ref e) { s with heap:=h' }
theorem Co : Cb (K4 (CXE P w) P w K mg base N qual scope f cd A outer s0 H0 E) E:=by
  intro pins σ H s C e vs h' I hx q
  have nn : ∀ b, s.heap.get? b = none -> s0.heap.get? b = none:=fun b n=>by
    cases q : s0.heap.get? b with
    | none=>rfl
    | some o=>obtain ⟨o', e⟩:=I.base.there b o q (fun z=>nomatch z); rw [n] at e; cases e
  refine wpAny_leaves_madeW (base:=Cf s.heap (frs (K4 (CXE P w) P w K mg base N qual scope f cd A outer s0 H0 E).stack) e e) (h:=s.heap) I.ok.frames rfl (fun b o z=>(UI z).1) (UN I.stack fun b hb=>Ql (.inl hb)) hx fun h2 t fl _ _ up=>?_
  obtain ⟨st, _, _, oe, us, T, oT, ts, ha, ⟨hc, h0'⟩, hd, h1, hnT, hne, hT, hdT, h3⟩:=fl
  have up2 : s.heap.UpToSlots h2:=fun b o z n=>up b o (hx.keeps b o z) n
  have hT0 : s.heap.get? T = none:=by
    cases q : s.heap.get? T with
    | none=>rfl
    | some o=>
      by_cases hf : T ∈ frs (K4 (CXE P w) P w K mg base N qual scope f cd A outer s0 H0 E).stack
      . obtain ⟨_, o2, ho2, hd2⟩ := I.stack.mem hf
        obtain ⟨sl, e2⟩:=up2 T o2 ho2 hd2
        rw [hT] at e2; cases e2
        exact absurd hdT (hd2 ts)
      . rw [QZ q hf hne hne] at hnT; cases hnT
  have keep : ∀ b o, b ∉ frs (K4 (CXE P w) P w K mg base N qual scope f cd A outer s0 H0 E).stack -> b ≠ e -> b ≠ T -> s.heap.get? b = some o -> h2.get? b = some o:=fun b o n1 n2 _ z=>st b o (QZ z n1 n2 n2)
  have fe:=I.hok.un0 hx.new
  have fT:=I.hok.un0 hT0
  refine ⟨e, T, C, H, rfl, ⟨nn _ hx.new, nn _ hT0, fe, fT, hne, oe, us, oT, ts, _, ha, hc, h0', hd, h1, hT, hdT, h3⟩, I.os, I.bare, I.base.past (Un.traced I.stack keep up2) (fun b hb=>?_) fun b hb=>?_, I.hok.traced I.stkFree fe fT keep, q⟩
  . rcases List.mem_cons.mp hb with z | z
    . rw [z]; exact nn _ hx.new
    . rw [List.mem_singleton.mp z]; exact nn _ hT0
  . rcases List.mem_cons.mp (I.stkSub b hb) with z | z
    . exact .inr (z ▸ Heap.get?_none_of_le I.ok.above)
    . exact .inl z
end
structure FnX (P : Program) (w : World) (K : PySem.W.Frag) (mg : Str -> Option Value) (base : Heap) (k : Nat) (x : Str) (ps : List Str) (sp : Sp) : Prop where
  ex : ∃ f fd, FnOk P w K mg base (CXE P w) k f fd ps sp /\ V5 K fd ps [] /\ PySem.W.keepIn K (.ref f) = true /\ mg x = some (.ref f)
section
variable {X : Cx} {k j : Nat} {x : Str} {ps : List Str} {sp : Sp} {e : Expr} {es : List Expr} {t : TA} {p pos : Pos} {E : XK}
theorem QE (G : FnX X.prog X.w X.K X.mg X.base k x ps sp) (hr : Room j X.A) (hj : k <= j) (hx : Va (CXE X.prog X.w) X E) (ha : PA X (e :: es) t) (hg : Gl X x:=by rfl) (hdb : (x == ("__debug__" : Str)) = false:=by decide)
    (he : starEach (e :: es) X.env = (false, eval e X.env) :: starEach es X.env:=by rfl) (hpl : (backTo pos (starEach es X.env)).any (·.1) = false:=by rfl) :
    PE X (.Call (.Name x p) (e :: es) [] pos) (VA sp [] E t):=by
  obtain ⟨f, fd, F, b, kp, m⟩:=G.ex
  exact GN F (hr.mono hj) hg m kp b .nil hx ha hdb he hpl
end
theorem J9 {P : Program} {w : World} {K : PySem.W.Frag} {mg : Str -> Option Value} {base : Heap} {x : Str} {st : Stmt} {N ps : List Str} {k : Nat} {sp : Sp} (D : Def K mg x st ps) (S : FnScope N ps (Xj st)) (len : ∀ vs H Q E, sp vs H Q E -> vs.length = ps.length)
    (hbody : ∀ (f : Addr) (cdv : Value) (A : Around) (outer : List Env) (s : Shared) (H : Hp) (vs : List V) (Q : VK) (E : XK), Room k (A.deeper (envOfC x (Xj st) s.heap.objs.size f cdv)) -> sp vs H Q E ->
      ∃ t, PSs (K4 (CXE P w) P w K mg base N x (Xj st) f cdv A outer s H E) (Ye st) t /\ t { nx:=fun _ H'=>Q .non H', rt:=Q } (JC N vs) H) : FnX P w K mg base (k + 1) x ps sp:=by
  obtain ⟨f, fd, F, b, m⟩:=D
  obtain ⟨oc, od, kV, doc, pm, an, cdv, ct, osl, rfl, lk, hcd⟩:=F.ex
  exact ⟨f, _, EO lk hcd S len fun A outer s H vs Q E hr hsp=>hbody f cdv A outer s H vs Q E hr hsp, b, F.kp, m⟩
theorem BP {K : PySem.W.Frag} {h : Heap} {C : Addr} {bmB : List Value} {newId : String} (X : K.In h) (q : PySem.W.excIn K C bmB newId = true) :
    ∃ bm N nm q bs hdct sn sub ab col dd k0 k1 k2 k3 k5 mN, h.get? C = some (excClassObj nm q C N bs bm hdct sn sub ab col dd k0 k1 k2 k3 k5 newId) /\ h.Ns N mN /\ mN "__init__" = none /\ OwnTail h bmB bm:=by
  unfold PySem.W.excIn at q
  split at q
  . rename_i dd cd sl ho
    split at q
    . rename_i C' bm k0 k1 k2 k3 n k5 hm hs
      simp only [Bool.and_eq_true, beq_iff_eq, Bool.not_eq_true'] at q
      obtain ⟨⟨⟨⟨⟨q1, q2⟩, q3⟩, q4⟩, q5⟩, q6⟩:=q
      subst q1 q2
      obtain ⟨nm, bs, mro, ns, qn, hd, sn, sub, ab, col, del⟩:=cd
      have e1 : mro = _:=hm
      have e2 : del = false:=q3
      subst e1 e2
      obtain ⟨l⟩:=sl
      have e3 : l = _:=hs
      subst e3
      exact ⟨bm, ns, nm, qn, bs, hd, sn, sub, ab, col, dd, k0, k1, k2, k3, k5, _, X _ _ ho, .of_isNs (PySem.W.isNs_of_in X q5), PySem.W.nsMap_none_of_in X q5 q6, PySem.W.tail_of_in X q4⟩
    . cases q
  . cases q
abbrev vEr : List Value:=[.type "ValueError", .type "Exception", .type "BaseException", .type "object"]
noncomputable def CF (C : Addr) (E : XK) (t : TA) : TS:=fun _ σ H=>t σ H fun vs H1=>vs.length <= 9 /\ E (.ref C) none H1
section
variable {X : Cx} {E : XK} {C : Addr} {x : Str} {e : Expr} {es : List Expr} {t : TA} {np cpos pos : Pos}
theorem Kh (hR : Cb X E) (hc : X.calm = true) (hq : PySem.W.excIn X.K C vEr "ValueError.__new__" = true) (hg : Gl X x) (hm : X.mg x = some (.ref C)) (ha : PA X (e :: es) t) (hdb : (x == ("__debug__" : Str)) = false:=by decide)
    (he : starEach (e :: es) X.env = (false, eval e X.env) :: starEach es X.env:=by rfl) (hpl : (backTo cpos (starEach es X.env)).any (·.1) = false:=by rfl) :
    PS X (.Raise (some (.Call (.Name x np) (e :: es) [] cpos)) none pos) (CF C E t):=by
  intro pins s σ H D I h
  obtain ⟨bm, N, nm, q, bs, hdct, sn, sub, ab, col, dd, k0, k1, k2, k3, k5, mN, hC, hN, hni, T⟩:=BP I.ok.mod.kin hq
  refine wpAny_Raise_call_subU (C:=C) (nm:=nm) (q:=q) (N:=N) (bs:=bs) (bm:=bm) (hdct:=hdct) (sn:=sn) (sub:=sub) (ab:=ab) (col:=col) (dd:=dd) (k0:=k0) (k1:=k1) (k2:=k2) (k3:=k3) (k5:=k5) (bmB:=vEr)
    PySem.F.excBase_ValueError rfl PySem.F.excBase_ValueError (mN:=mN) (T.hasType rfl) (I.ok.hd hc) (by rw [he]; show (false || (backTo cpos (starEach es X.env)).any (·.1)) = false; rw [hpl]; rfl) hni (Vz I hg hm ⟨rfl, ?_⟩ hdb)
  have h2:=ha cpos pins s σ H _ I h
  rw [he] at h2 ⊢
  refine Calls.evalArgs_plain (wpAny_mono h2 (fun us s2 ⟨vs, H1, I1, r, hl, hE⟩=>⟨rfl, ?_, I1.bk _ _ hC, hN.keeps I1.bk, T.keeps I1.bk, fun h' a hx=>hR pins σ H1 s2 C a us h' I1 hx hE⟩) fun _ _ y=>y)
  have : us.length <= 9:=by rw [← r.length]; exact hl
  exact Nat.le_trans this (by decide)
end
end L2
namespace L2
open PySem PySem.Spec PyProof.Rows
noncomputable abbrev TJ:=St -> Hp -> (Hp -> Prop) -> Prop
noncomputable def PJ (X : Cx) (es : List Expr) (n : Nat) (t : TJ) : Prop:=
  ∀ (pins : List (Addr × Obj)) (s : Shared) (σ : St) (H : Hp) (Q : Hp -> Prop) (out : Str), Inv X pins σ H s -> out.length <= n -> t σ H Q ->
    wpAny (model X.prog X.w) X.A (joinParts out (evalEach es X.env)) (fun u s'=>∃ x tk H', u = Value.str x tk /\ Inv X pins σ H' s' /\ Q H') X.xe s
noncomputable def tJn : TJ:=fun _ H Q=>Q H
noncomputable def tJs (te : TE) (t : TJ) : TJ:=fun σ H Q=>te σ H fun v H1=>∃ x : Str, v = .str x /\ x.length <= 1000 /\ t σ H1 Q
noncomputable def tJi (te : TE) (t : TJ) : TJ:=fun σ H Q=>te σ H fun v H1=>∃ i : Int, v = .int i /\ i.natAbs.log2 < 1920 /\ t σ H1 Q
noncomputable def tF (t : TJ) : TE:=fun σ H Q=>t σ H fun H1=>∀ x, Q (.str x) H1
section
variable {X : Cx} {e : Expr} {es : List Expr} {te : TE} {t : TJ} {n : Nat} {pos p : Pos}
theorem CM (h : n <= sizeLine:=by exact Nat.le_of_ble_eq_true rfl) : PJ X [] n tJn:=fun pins s σ H Q out I hl q=>
  joinParts_nil ⟨_, _, H, rfl, I.tok _, q⟩ (Nat.le_trans hl h)
theorem Ft (he : PE X e te) (hr : PJ X es (n + 1000) t) (hz : n + 1000 <= sizeLine:=by exact Nat.le_of_ble_eq_true rfl) : PJ X (e :: es) n (tJs te t):=fun pins s σ H Q out I hl q=>by
  refine joinParts_cons (wpAny_mono (he pins s σ H _ I q) (fun u s1 ⟨v, H1, I1, r, x, hv, hx, q1⟩=>?_) fun _ _ z=>z)
  subst hv
  obtain ⟨tk, hu⟩ : ∃ tk, u = Value.str x tk:=r
  subst hu
  have hle : (out ++ x).length <= n + 1000:=by rw [strLen_append]; omega
  exact ⟨Nat.le_trans hle hz, hr pins s1 σ H1 Q _ I1 hle q1⟩
theorem CB (he : PE X e te) (hr : PJ X es (n + 2000) t) (hz : n + 2000 <= sizeLine:=by exact Nat.le_of_ble_eq_true rfl) : PJ X (.FormattedValue e (-1) none p :: es) n (tJi te t):=fun pins s σ H Q out I hl q=>by
  refine joinParts_cons (FormattedValue_plain (wpAny_mono (he pins s σ H _ I q) (fun u s1 ⟨v, H1, I1, r, i, hv, hx, q1⟩=>?_) fun _ _ z=>z))
  subst hv
  obtain ⟨tk, hu⟩ : ∃ tk, u = Value.int i tk:=r
  subst hu
  refine formatField_int_small hx ?_
  have h1 : (Str.ofString (toString i)).length <= 1921:=by
    have:=int_text_length_le (k:=1920) (by decide) hx
    rw [PySem.ofString_length]
    exact this
  have hle : (out ++ (toString i : Str)).length <= n + 2000:=by
    rw [strLen_append]
    show out.length + (Str.ofString (toString i)).length <= _
    omega
  exact ⟨Nat.le_trans hle hz, hr pins _ σ H1 Q _ (I1.tok _) hle q1⟩
theorem Ix {e₁ : Expr} (h : PJ X (e :: e₁ :: es) 0 t) : PE X (.JoinedStr (e :: e₁ :: es) pos) (tF t):=fun pins s σ H Q I q=>
  JoinedStr_many (wpAny_mono (h pins s σ H _ Str.empty I (Nat.le_refl _) q) (fun u s' ⟨x, tk, H', hu, I', q'⟩=>⟨.str x, H', I', ⟨tk, hu⟩, q' x⟩) fun _ _ z=>z)
end
noncomputable abbrev Cx.alt (X : Cx) (pn : List (Addr × Obj)) (xe : Value -> Shared -> Prop) : Cx:={ X with pn:=pn, xe:=xe }
noncomputable abbrev Cx.held (X : Cx) (a : Addr) (pn : List (Addr × Obj)) : Cx:={ X with A:=X.A.mark (some (.ref a)), calm:=false, pn:=pn, xe:=fun _ _=>False }
noncomputable def blank (n : Nat) : St:=List.replicate n none
noncomputable def IJ (K : PySem.W.Frag) (n : Nat) (cc : Value) (i : Nat) (tb : XK -> TS) (ts : Addr -> Addr -> TS) : TS:=fun D σ H=>
  tb (fun c _ H'=>PySem.W.exmOne K c cc = some true /\ ∀ a C, c = .ref C -> H' a = none -> ts a C { nx:=fun _=>D.nx (blank n), rt:=D.rt, bk:=fun _=>D.bk (blank n), ct:=fun _=>D.ct (blank n) } ((blank n).set i (some (.ref a))) H') D σ H
theorem Cx.Ok.alt {X : Cx} (ok : X.Ok) (pn : List (Addr × Obj)) (xe : Value -> Shared -> Prop) : (X.alt pn xe).Ok:=
  ⟨ok.mod, ok.kind, ok.glob, ok.blt, ok.above, ok.inj, ok.has, ok.cab, ok.hd, ok.frames, ok.stk, ok.exf, ok.bs, ok.bsz, ok.noex, ok.exfs, ok.funs, ok.frf⟩
theorem Cx.Ok.held {X : Cx} (ok : X.Ok) (a : Addr) (pn : List (Addr × Obj)) : (X.held a pn).Ok:=
  ⟨ok.mod, ok.kind, ok.glob, ok.blt, ok.above, ok.inj, ok.has, ok.cab, (fun z=>nomatch z), ok.frames, ok.stk, ok.exf, ok.bs, ok.bsz, ok.noex, ok.exfs, ok.funs, ok.frf⟩
section
variable {X : Cx} {pins : List (Addr × Obj)} {σ : St} {H : Hp} {s : Shared} {h' : Heap}
theorem KA {n i : Nat} {v : V} (h : (blank n)[i]? = some (some v)) : False:=by
  unfold blank at h
  rw [List.getElem?_replicate] at h
  split at h <;> cases h
theorem Uf {n : Nat} : (blank n).length = n:=by simp [blank]
theorem Inv.blank (I : Inv X pins σ H s) : Inv X pins (blank X.N.length) H s:=I.weak (by rw [Uf, I.len]) fun i v h=>(KA h).elim
theorem Inv.forget {m' : Str -> Option Value} {t' : Nat} (I : Inv X pins σ H s) (hn : h'.Ns X.env.locals m') (sb : Heap.SameBut X.env.locals s.heap h') : Inv X pins (L2.blank X.N.length) H { s with heap:=h', toks:=t' }:=by
  have v : Un [] [X.env.locals] H H s.heap h':=⟨fun b o e n _ hx=>(sb.2 b fun z=>hx (by simp [z])).trans e, (fun b o e n hb _=>nomatch hb), fun b o e n _=>n, fun b o e hx=>⟨o, (sb.2 b fun z=>hx (by simp [z])).trans e⟩, fun _ _ q=>q, fun _ _ _ q=>q, fun _ ps q=>⟨#[], by simpa using q⟩⟩
  refine ⟨I.ok, I.os, I.bare, I.base.past v (fun b hb=>?_) (fun b hb=>nomatch hb), ⟨m', hn, fun i x v _ e2=>(KA e2).elim⟩, fun x c e=>?_, I.free, I.freeC, fun p hp=>?_, fun b o e=>?_, Uf⟩
  . rw [List.mem_singleton.mp hb]; exact Heap.get?_none_of_le I.ok.above
  . obtain ⟨v, o, e1, e2⟩ := I.cell x c e
    exact ⟨v, o, (sb.2 c (I.cne x c e)).trans e1, e2⟩
  . obtain ⟨e, n, ne, nf, d⟩ := I.pin p hp
    exact ⟨(sb.2 p.1 ne).trans e, n, ne, nf, d⟩
  . refine (I.hok b o e).stay (fun c u hc q => (sb.2 c fun z => ?_).trans q) (fun _ q => q) fun _ _ q => q
    have hf:=I.free
    rw [← z] at hf
    rcases hc with y | y
    . rw [y, e] at hf; cases hf
    . rw [y] at hf; cases hf
end
section
variable {X : Cx} {body suite : List Stmt} {b₀ : Stmt} {cn n : Str} {Ch : Addr} {i : Nat} {tb : XK -> TS} {ts : Addr -> Addr -> TS} {np hpos pos : Pos}
theorem CG (hst : X.stack = X.env :: X.outer) (hex : X.ex = []) (hfr : X.env.frame = some X.env.locals) (hg : Gl X cn) (hm : X.mg cn = some (.ref Ch)) (hN : X.N.Nodup) (hi : X.N[i]? = some n) (hlo : X.env.kindOf n = some .local) (hlo2 : X.env.scope.names.lookup n = some .local)
    (hb : ∀ pn xe E, Va (CXE X.prog X.w) (X.alt pn xe) E -> PSs (X.alt pn xe) body (tb E))
    (hs : ∀ pn a o C, (a, o) ∈ pn -> o.cls = .ref C -> PSs (X.held a pn) (b₀ :: suite) (ts a C))
    (hdb : (cn == ("__debug__" : Str)) = false:=by decide) :
    PS X (.Try body [.ExceptHandler (some (.Name cn np)) (some n) (b₀ :: suite) hpos] [] [] pos) (IJ X.K X.N.length (.ref Ch) i tb ts):=by
  intro pins s σ H D I h
  refine wpAny_Try_except ?_
  have I0 : ∀ xe, Inv (X.alt (X.pn ++ pins) xe) [] σ H s:=fun xe=>⟨I.ok.alt _ _, I.os, I.bare, I.base, I.loc, I.cell, I.free, I.freeC, fun p hp=>I.pin p (by simpa using hp), I.hok, I.len⟩
  have back : ∀ {xe pins1 σ' H' s'}, Inv (X.alt (X.pn ++ pins) xe) pins1 σ' H' s' -> Inv X pins σ' H' s':=fun {xe pins1 σ' H' s'} J=>⟨I.ok, J.os, J.bare, J.base, J.loc, J.cell, J.free, J.freeC, fun p hp=>J.pin p (List.mem_append_left _ hp), J.hok, J.len⟩
  refine wpAny_mono (hb (X.pn ++ pins) _ _ ?pp [] s σ H D (I0 _) h) (fun f s1 hq=>?fin) fun e s1 hq=>hq
  case fin=>
    cases f with
    | next=>obtain ⟨σ', H', J, q⟩:=hq; exact wpAny_execs_nil ⟨σ', H', back J, q⟩
    | brk=>obtain ⟨σ', H', J, q⟩:=hq; exact ⟨σ', H', back J, q⟩
    | cont=>obtain ⟨σ', H', J, q⟩:=hq; exact ⟨σ', H', back J, q⟩
    | ret u=>obtain ⟨v, σ', H', J, r, q⟩:=hq; exact ⟨v, σ', H', back J, r, q⟩
  case pp=>
    intro pins1 σ1 H1 s1 e s' I1 ⟨a, T, C, H', he, x, os, bare, un, hok, hexm, hts⟩
    subst he
    have I2:=I1.call' os un hok bare (fun b z=>nomatch z)
    have J : Inv X pins (blank X.N.length) H' s':=(back I2).blank
    have q1 : ∀ b, s1.heap.get? b = none -> X.s₀.heap.get? b = none /\ b ≠ X.env.locals /\ (∀ y c, X.env.cells.lookup y = some c -> c ≠ b) /\ ∀ p ∈ X.pn ++ pins, p.1 ≠ b:=fun b nb=>by
      refine ⟨?_, fun z=>?_, fun y c hy z=>?_, fun p hp z=>?_⟩
      . cases q : X.s₀.heap.get? b with
        | none=>rfl
        | some o=>obtain ⟨o', e⟩:=I1.base.there b o q (by show b ∉ X.ex; rw [hex]; simp); rw [nb] at e; cases e
      . obtain ⟨m, ⟨o, es, ep, ho, _⟩, _⟩ := I1.loc
        have ho' : s1.heap.get? X.env.locals = some o:=ho
        rw [← z, nb] at ho'; cases ho'
      . obtain ⟨v, o, ho, _⟩ := I1.cell y c hy
        rw [z, nb] at ho; cases ho
      . obtain ⟨e, _⟩ := I1.pin p (List.mem_append_left _ hp)
        rw [z, nb] at e; cases e
    have hl : s'.heap.FunFrames X.base (X.env :: X.outer):=hst ▸ J.stack
    have hfn : ∀ b ∈ frs (X.env :: X.outer), H' b = none:=hst ▸ J.stkFree
    have hA : X.A.frames = some (X.env :: X.outer):=hst ▸ I.ok.frames
    obtain ⟨a0, fl⟩:=x.fly hl
    refine wpAny_looks_onW hA hfr fl fun h2 hd2 up2=>?_
    refine wpAny_landsW hd2 fun h3 fl3 up3=>?_
    obtain ⟨T3, x3, hok3, un3⟩:=x.after hl hfn hok (fun b o e=>un.there b o e (fun z=>nomatch z)) fl3.1 fl3.2.2.2 (up2.trans up3)
    have ch : ∀ {U : Addr}, s1.heap.get? U = none -> ∀ b ∈ [a, U], X.s₀.heap.get? b = none /\ b ≠ X.env.locals /\ (∀ y c, X.env.cells.lookup y = some c -> c ≠ b) /\ ∀ p ∈ X.pn ++ pins, p.1 ≠ b:=fun {U} nU b hb=>by
      rcases List.mem_cons.mp hb with z | z
      . rw [z]; exact q1 a x.na
      . rw [List.mem_singleton.mp z]; exact q1 U nU
    have J3 : Inv X pins (blank X.N.length) H' { s' with heap:=h3 }:=J.past (by rw [hst]; exact un3) hok3 (ch x.nT)
    have hh : ∀ {pn : List (Addr × Obj)} {s4 : Shared}, Inv X pins (blank X.N.length) H' s4 -> (∀ p ∈ pn, p ∈ X.pn ++ pins ∨ (p.1 = a /\ s4.heap.get? a = some p.2 /\ ∀ v, p.2.data ≠ .cell v)) -> Inv (X.held a pn) [] (blank X.N.length) H' s4:=fun {pn s4} J4 hp4=>by
      refine ⟨I.ok.held _ _, J4.os, J4.bare, J4.base, J4.loc, J4.cell, J4.free, J4.freeC, fun p hp=>?_, J4.hok, J4.len⟩
      rcases hp4 p (by simpa using hp) with z | ⟨z1, z2, z3⟩
      . exact J4.pin p z
      . refine ⟨by rw [z1]; exact z2, by rw [z1]; exact x.fa, by rw [z1]; exact (q1 a x.na).2.1, ?_, z3⟩
        rw [z1]
        intro y
        obtain ⟨_, o2, ho2, _⟩:=I.ok.funs.mem y
        rw [(q1 a x.na).1] at ho2
        cases ho2
    have hl3 : h3.FunFrames X.base (X.env :: X.outer):=hst ▸ J3.stack
    obtain ⟨oe, vs, oT, tts, a1, ha3, hc3, _⟩:=id x3.obj
    have J3h:=hh (pn:=X.pn ++ pins) J3 fun p hp=>.inl hp
    refine wpAny_handleBy_cons (codeAny_handlers_test (Vz J3h hg hm ?_ hdb)) (by intro q; cases q)
    have LT : PySem.W.Looks (model X.prog X.w) h3 (typeOf (.ref a)) (.ref C):=hc3 ▸ (PySem.W.Looks.ld ha3).andThen .now
    refine PySem.W.exm_one J3.kIn LT hexm _ _ _ _ (fun _ _ e=>e) ?_
    refine codeAny_handlers_suite_as ?_
    obtain ⟨a2, fl4⟩:=x3.fly hl3
    refine lands_againW fl4 fun h5 fl5 up5=>?_
    obtain ⟨T5, x5, hok5, un5⟩:=x3.after hl3 hfn hok3 (fun b o e=>by
      obtain ⟨o', e'⟩:=un.there b o e (fun z=>nomatch z)
      by_cases z : b ∈ [a, T]
      . rcases List.mem_cons.mp z with z | z
        . rw [z, x.na] at e; cases e
        . rw [List.mem_singleton.mp z, x.nT] at e; cases e
      . exact un3.there b o' e' z) fl5.1 fl5.2.2.2 up5
    have J5 : Inv X pins (blank X.N.length) H' { s' with heap:=h5 }:=J3.past (by rw [hst]; exact un5) hok5 (ch x3.nT)
    obtain ⟨oe5, vs5, oT5, ts5, a5, ha5, hc5, _, hd5, _⟩:=id x5.obj
    have J5h:=hh (pn:=(a, oe5) :: (X.pn ++ pins)) J5 fun p hp=>by
      rcases List.mem_cons.mp hp with z | z
      . rw [z]; exact .inr ⟨rfl, ha5, fun v q=>by rw [hd5] at q; cases q⟩
      . exact .inl z
    refine ZF (X:=X.held a ((a, oe5) :: (X.pn ++ pins))) (v:=.ref a) J5h hN hi (.inl hlo2) rfl (fun s6 J6=>?_) (.inr hlo2)
    refine wpAny_mono (hs _ a oe5 C List.mem_cons_self hc5 [] s6 _ H' _ J6 (hts a C rfl x.fa)) (fun f s7 hq=>?_) fun _ _ z=>z.elim
    have fin : ∀ {σ7 H7} {Q : Unit -> Shared -> Prop}, Inv (X.held a ((a, oe5) :: (X.pn ++ pins))) [] σ7 H7 s7 -> (∀ s8, Inv X pins (blank X.N.length) H7 s8 -> Q () s8) -> wpAny (model X.prog X.w) X.A (do bindName X.env n .none; unbindBehindTheSuite X.env n hpos) Q X.xe s7:=fun {σ7 H7 Q} J7 q=>by
      obtain ⟨m, hn, _⟩:=id J7.loc
      refine wpAny_nameGoes hlo hn (by rw [I.ok.kind]; rfl) fun h8 m8 hn8 sb8=>q _ ?_
      have J8:=J7.forget (t':=s7.toks + 1) hn8 sb8
      exact ⟨I.ok, J8.os, J8.bare, J8.base, J8.loc, J8.cell, J8.free, J8.freeC, fun p hp=>J8.pin p (by simpa using .inr (by simpa using hp)), J8.hok, J8.len⟩
    cases f with
    | next=>obtain ⟨σ7, H7, J7, q⟩:=hq; exact fin J7 fun s8 J8=>⟨_, H7, J8, q⟩
    | brk=>obtain ⟨σ7, H7, J7, q⟩:=hq; exact fin J7 fun s8 J8=>⟨_, H7, J8, q⟩
    | cont=>obtain ⟨σ7, H7, J7, q⟩:=hq; exact fin J7 fun s8 J8=>⟨_, H7, J8, q⟩
    | ret u=>obtain ⟨v, σ7, H7, J7, r, q⟩:=hq; exact fin J7 fun s8 J8=>⟨v, _, H7, J8, r, q⟩
end
end L2
namespace L2
open PySem PySem.Spec PyProof.Rows
section
variable {K : PySem.W.Frag} {Er : Exc -> Hp -> Prop} {S : SC} {OO OO' OO2 : List (List Xt)} {σ : St} {α β γ ρ ι : Type} {α1 α2 α3 α4 α5 α6 : Type} {mg : Str -> Option Value} {E : XK}
noncomputable def ErE (mg : Str -> Option Value) (E : XK) : Exc -> Hp -> Prop:=fun x H=>∀ C, mg x.cls = some (.ref C) -> E (.ref C) none H
structure PX {β : Type} (Er : Exc -> Hp -> Prop) (F : β -> Hp -> Prop) (H : Hp) (m : Res β) : Prop where
  z : PZ Er F H m
noncomputable def Hi (mg : Str -> Option Value) (r1 : Enc α1) (o : OE ρ) (f : α1 -> Res ρ) (K : PySem.W.Frag) : Sp:=fun vs H Q E=>∃ v1 a1, vs = [v1] /\ r1 K H v1 a1 /\ PX (ErE mg E) (FF K o Q) H (f a1)
noncomputable def F7 (mg : Str -> Option Value) (r1 : Enc α1) (r2 : Enc α2) (o : OE ρ) (f : α1 -> α2 -> Res ρ) (K : PySem.W.Frag) : Sp:=fun vs H Q E=>∃ v1 v2 a1 a2, vs = [v1, v2] /\ r1 K H v1 a1 /\ r2 K H v2 a2 /\ PX (ErE mg E) (FF K o Q) H (f a1 a2)
theorem Cy {o : OE ρ} [FlatO o] {Q : VK} {H : Hp} {m : Res ρ} (w : W OO H) (P : PZ Er (FO K OO OO o Q) H m) : PZ Er (FF K o Q) H m:=by
  cases m with
  | bad=>exact P
  | err x=>exact P
  | ok b=>exact Q5 w P
theorem VX {ta : TE} {r1 : Enc α1} {o : OE ρ} [FlatO o] {f : α1 -> Res ρ} {ma : Res α1} (ha : EvB K (ErE mg E) S OO σ ta r1 ma) : Ev K (ErE mg E) S OO OO σ (VA (Hi mg r1 o f K) [] E (XG ta ZM)) o (ma.bind fun a=>f a):=fun H Q w s P=>
  ha.run w s FO.tr P fun a x H1 s1 w1 q1 r1 P1=>⟨x, a, rfl, r1, ⟨Cy w1 P1⟩⟩
theorem Zh {ta tb : TE} {r1 : Enc α1} {r2 : Enc α2} [z1 : MonoE r1] {o : OE ρ} [FlatO o] {f : α1 -> α2 -> Res ρ} {ma : Res α1} {mb : Res α2} (ha : EvB K (ErE mg E) S OO σ ta r1 ma) (hb : EvB K (ErE mg E) S OO σ tb r2 mb) :
    Ev K (ErE mg E) S OO OO σ (VA (F7 mg r1 r2 o f K) [] E (XG ta (XG tb ZM))) o (ma.bind fun a=>mb.bind fun b=>f a b):=fun H Q w s P=>
  ha.run w s FO.tr P fun a x H1 s1 w1 q1 r1 P1=>hb.run w1 q1 FO.tr P1 fun b y H2 s2 w2 q2 r2 P2=>⟨x, y, a, b, rfl, z1.mono s2 r1, r2, ⟨Cy w2 P2⟩⟩
theorem VP {o : OE ρ} [MonoO o] {t : TS} {m : Res ρ} {Q : VK} {H : Hp} {D : Ends} (n : Nat) (h : Sv (ErE mg E) S (List.replicate n []) σ t (FTd K o) m) (hs : S.p H) (PP : PX (ErE mg E) (FF K o Q) H m) (hD : D.rt = Q) : t D σ H:=by
  have P:=PP.z
  refine h H D (Bj n H) (by rw [K8]; exact hs) ?_
  rw [K8]
  cases m with
  | bad=>exact P
  | err x=>exact P
  | ok b=>
    intro v C OO' H' w mm ho
    rw [hD]
    exact CP P v C OO' H' w mm ho
theorem Hl {J : Jn Unit ι} {t : TS} {m : Res Unit} {Q : VK} {H : Hp} {D : Ends} (n : Nat) (h : Sv (ErE mg E) S (List.replicate n []) σ t (FNd J) m) (hs : S.p H) (PP : PX (ErE mg E) (FF K oU Q) H m) (hD : ∀ σ H, D.nx σ H = Q .non H) : t D σ H:=by
  have P:=PP.z
  refine h H D (Bj n H) (by rw [K8]; exact hs) ?_
  rw [K8]
  cases m with
  | bad=>exact P
  | err x=>exact P
  | ok b=>
    intro x H' w mm ho
    rw [hD]
    have hs : Xm (hid H' (J.oo x)) (hid H' [[]]):=Jw (Xm.refl _) fun b hb=>by simp [fl] at hb
    exact P .non [] H' ⟨fun c hc=>by simp at hc, by simp [fl], fun c hc=>by simp at hc⟩ (mm.trans hs) ⟨rfl, rfl⟩
noncomputable def FJ (Q : Hp -> Prop) (_ : Unit) (H : Hp) : Prop:=∀ H', Xm H H' -> Q H'
theorem FJ.tr {Q : Hp -> Prop} : ∀ (b : Unit) (H H' : Hp), Xm H H' -> FJ Q b H -> FJ Q b H':=fun _ _ _ s h H2 s2=>h H2 (s.trans s2)
noncomputable def EvJ (Er : Exc -> Hp -> Prop) (S : SC) (OO : List (List Xt)) (σ : St) (t : TJ) (m : Res Unit) : Prop:=∀ H Q, W OO H -> S.p (hid H OO) -> PZ Er (FJ Q) H m -> t σ H Q
theorem FV : EvJ Er S OO σ tJn (.ok ()):=fun H Q _ _ P=>P H (Xm.refl _)
theorem UE {x : Str} {t : TJ} {m : Res Unit} (h : EvJ Er S OO σ t m) (hx : x.length <= 1000:=by first | decide | decide +kernel) : EvJ Er S OO σ (tJs (tC (.str x)) t) m:=fun H Q w s P=>⟨x, rfl, hx, h H Q w s P⟩
theorem Fr {te : TE} {t : TJ} {ma : Res Int} {m : Res Unit} (ha : EvB K Er S OO σ te Xa ma) (h : EvJ Er S OO σ t m) : EvJ Er S OO σ (tJi te t) (ma.bind fun i=>chk (i.natAbs.log2 < 1920) m):=fun H Q w s P=>
  ha.run w s FJ.tr P fun i v H' s1 w1 q1 r1 P1=>by
    by_cases hc : i.natAbs.log2 < 1920
    . rw [Xv hc] at P1
      exact ⟨i, r1, hc, h H' Q w1 q1 P1⟩
    . unfold chk at P1
      rw [if_neg hc] at P1
      exact P1.elim
noncomputable def EvX (Er : Exc -> Hp -> Prop) (S : SC) (OO : List (List Xt)) (σ : St) (t : TE) (m : Res Unit) : Prop:=∀ H (Q : VK), W OO H -> S.p (hid H OO) -> PZ Er (FJ fun H=>∀ v, Q v H) H m -> t σ H Q
theorem Hh {t : TJ} {m : Res Unit} (h : EvJ Er S OO σ t m) : EvX Er S OO σ (tF t) m:=fun H Q w s P=>h H _ w s (by
  cases m with
  | bad=>exact P
  | err x=>exact P
  | ok b=>exact fun H' s' x=>P H' s' _)
variable {Fd : Ends -> β -> Hp -> Prop} [fd : FdOk Fd] {u : TS}
theorem Ka {te : TE} {m : Res Unit} {C : Addr} {n : Str} (hm : mg n = some (.ref C)) (h : EvX (ErE mg E) S OO σ te m) : Sv (ErE mg E) S OO σ (Jf (CF C E (XG te ZM)) u) Fd (m.bind fun _=>.err ⟨n, .non⟩):=fun H D w s P=>
  h H _ w s (by
    cases m with
    | bad=>exact P
    | err x=>exact fun H' s'=>P H' (Xq.trans s')
    | ok b=>exact fun H' s' v=>⟨Nat.le_of_ble_eq_true rfl, P H' (Xq.trans s') C hm⟩)
noncomputable def YO (n d : Str) : Bool:=n == d || d == ("PlaitError" : Str)
noncomputable def erA (K : PySem.W.Frag) (C : Addr) : Bool:=PySem.W.findIn K (.ref C) "__getattribute__" == some (some (.builtin "BaseException.__getattribute__")) && PySem.W.findIn K (.ref C) "__getattr__" == some none && PySem.W.findIn K (.ref C) "__class__" == some (some (.builtin "object.__class__")) &&
  PySem.W.specialIn K (.builtin "object.__class__") "__get__" == some (some (.builtin "getset_descriptor.__get__")) && PySem.W.takesIn K (.builtin "object.__class__") == some true && PySem.W.mroIn K C (.type "object") == some true && (PySem.W.clsIn K C).isSome && PySem.W.mroIn K C (.type "BaseException") == some true
noncomputable def Qs (n : Str) : Bool:=!(n == ("NotADrawing" : Str)) && !(n == ("NoChain" : Str))
noncomputable def Bb (K : PySem.W.Frag) (cs : List (Str × Addr)) : Bool:=cs.all fun p=>(!(Qs p.1) || PySem.W.excIn K p.2 vEr "ValueError.__new__") && erA K p.2 && PySem.W.kitOne K (.ref p.2) (.type "ValueError") == some true &&
  cs.all fun q=>PySem.W.kitOne K (.ref p.2) (.ref q.2) == some (YO p.1 q.1) && PySem.W.exmOne K (.ref p.2) (.ref q.2) == some (YO p.1 q.1)
structure Ecs (ns : List Str) (K : PySem.W.Frag) (mg : Str -> Option Value) : Prop where
  adr : ∀ n ∈ ns, ∃ C, mg n = some (.ref C) /\ (Qs n = true -> PySem.W.excIn K C vEr "ValueError.__new__" = true)
  att : ∀ n ∈ ns, ∀ C, mg n = some (.ref C) -> erA K C = true
  val : ∀ n ∈ ns, ∀ C, mg n = some (.ref C) -> PySem.W.kitOne K (.ref C) (.type "ValueError") = some true
  kit : ∀ n ∈ ns, ∀ d ∈ ns, ∀ C D, mg n = some (.ref C) -> mg d = some (.ref D) -> PySem.W.kitOne K (.ref C) (.ref D) = some (YO n d)
  exm : ∀ n ∈ ns, ∀ d ∈ ns, ∀ C D, mg n = some (.ref C) -> mg d = some (.ref D) -> PySem.W.exmOne K (.ref C) (.ref D) = some (YO n d)
theorem Em {cs : List (Str × Addr)} (h : Bb K cs = true) (hn : ∀ p ∈ cs, mg p.1 = some (.ref p.2)) : Ecs (cs.map (·.1)) K mg:=by
  have key : ∀ n ∈ cs.map (·.1), ∀ C, mg n = some (.ref C) -> (n, C) ∈ cs:=fun n hm C hC=>by
    obtain ⟨⟨n', C'⟩, hp, rfl⟩:=List.mem_map.mp hm
    have:=hn _ hp
    rw [hC] at this
    cases this
    exact hp
  have hp : ∀ p ∈ cs, _:=List.all_eq_true.mp h
  simp only [Bool.and_eq_true, List.all_eq_true, beq_iff_eq, Bool.or_eq_true] at hp
  refine ⟨fun n hm=>?_, fun n hm C hC=>(hp _ (key n hm C hC)).1.1.2, fun n hm C hC=>(hp _ (key n hm C hC)).1.2, fun n hm d hd C D hC hD=>((hp _ (key n hm C hC)).2 _ (key d hd D hD)).1, fun n hm d hd C D hC hD=>((hp _ (key n hm C hC)).2 _ (key d hd D hD)).2⟩
  obtain ⟨⟨n', C'⟩, hq, rfl⟩:=List.mem_map.mp hm
  exact ⟨C', hn _ hq, fun e=>(hp _ hq).1.1.1.resolve_left (by rw [e]; exact Bool.false_ne_true)⟩
noncomputable def cau (ns : List Str) (n d : Str) : Bool:=decide (n ∈ ns) && YO n d
noncomputable def Res.tryC (m : Res α) (f : α -> Res β) (g : Exc -> Res β) : Res β:=match m with
  | .bad=>.bad
  | .err x=>g x
  | .ok a=>f a
theorem Bg {c : Prop} [Decidable c] {m : Res β} {F : β -> Hp -> Prop} {H : Hp} (P : PZ Er F H (chk c m)) : c /\ PZ Er F H m:=by
  by_cases hc : c
  . rw [Xv hc] at P; exact ⟨hc, P⟩
  . unfold chk at P
    rw [if_neg hc] at P
    exact P.elim
section
variable {te : XK -> TE} {m : Res α} {ts : Addr -> Addr -> TS} {N i : Nat} {Ch : Addr} {o : OE ρ} {g : Exc -> Res ρ} {ns : List Str} {d : Str}
end
noncomputable def vOf : V -> Value
  | .ref a=>.ref a
  | .ty n=>.type n
  | _=>.none
noncomputable def ID (K : PySem.W.Frag) (c : Value) (a : Addr) (xs : List V) (H : Hp) (Q : VK) : Prop:=∃ d b C, c = .ref C /\ erA K C = true /\ xs = [.ref a, d] /\ ((∃ D, d = .ref D) ∨ ∃ n, d = .ty n) /\ PySem.W.kitOne K c (vOf d) = some b /\ Q (.bl b) H
theorem Vi {a C D : Addr} {b : Bool} (i : Nat) (hσ : σ[i]? = some (some (.ref a))) (hA : erA K C = true) (hk : PySem.W.kitOne K (.ref C) (.ref D) = some b) : EvB K Er S OO σ (tCB (ID K (.ref C) a) (XG (KM i) (XG (tC (.ref D)) ZM))) XY (.ok b):=fun H Q w s P=>
  ⟨_, hσ, _, b, C, rfl, hA, rfl, .inl ⟨D, rfl⟩, hk, P _ H (Xm.refl _) rfl⟩
theorem Ey {o : OE ρ} {c : TT} {t1 : TS} {mc : Res Bool} {m1 : Res ρ} {m2 : Res β} (hc : EvT Er S OO σ c mc) (h1 : Sv Er S OO σ t1 (FTd K o) m1) (h2 : Sv Er S OO σ u Fd m2) : Sv Er S OO σ (Jf (ES c t1 UQ) u) Fd (mc.bind fun b=>if b = true then m1.bind (fun _=>.bad) else m2):=fun H D w s P=>
  hc.st (Fd:=Fd) w s P fun b H' w' s' P'=>by
    cases b with
    | true=>
      rw [if_pos rfl] at P' ⊢
      refine h1 H' _ w' s' ?_
      cases m1 with
      | bad=>exact P'
      | err x=>exact P'
      | ok a=>exact P'.elim
    | false=>exact h2 H' D w' s' P'
end
end L2
namespace L2
open PySem PySem.Spec PyProof.Rows PySem.W PySem.Builtin PySem.Builtin.ObjectAttr PySem.Builtin.Getset_descriptor
section
variable {prog : Program} {w : World} {A : Around} {E : Value -> Shared -> Prop} {K : Frag} {x D : Addr} {s : Shared}
theorem DA {M : Model} {h : Heap} (X : K.In h) (cl : findIn K (.ref D) "__class__" = some (some (.builtin "object.__class__"))) (sg : specialIn K (.builtin "object.__class__") "__get__" = some (some (.builtin "getset_descriptor.__get__"))) (tk : takesIn K (.builtin "object.__class__") = some true) :
    Looks M h (Builtin.ObjectAttr.find (.ref x) (.ref D) "__class__") (.bind (.builtin "getset_descriptor.__get__") (.builtin "object.__class__")):=by
  have L3:=looks_takesIn (M:=M) X tk
  exact (looks_findIn (M:=M) X cl).andThen ((looks_specialIn X sg).andThen ((show Looks M h (Builtin.ObjectAttr.dataDescriptor? (some (.builtin "object.__class__")) (some (.builtin "getset_descriptor.__get__"))) (some (.builtin "getset_descriptor.__get__", .builtin "object.__class__")) from L3.andThen .now).andThen (Looks.tag .now)))
theorem BD {R : Result -> Shared -> Prop} {tp : Value} (X : K.In s.heap) (L0 : Looks (model prog w) s.heap (typeOf (.ref x)) (.ref D)) (hm : mroIn K D (.type "object") = some true)
    (h : R (.ok (.ret (.ref D))) s) : codeAny (model prog w) A (.call (.builtin "getset_descriptor.__get__") ⟨[.builtin "object.__class__", .ref x, tp], []⟩) R s:=by
  obtain ⟨hh, g, dr, t, os⟩:=s
  have L1:=looks_mroIn (M:=model prog w) X hm
  refine codeAny_call_builtin KF.slot_gs.plain KF.entry_gs (KF.slot_gs.check _ _ _ _ _ _ _ _ KF.type_class (KF.args_gs _ _ _) ?_)
  unfold Builtin.«getset_descriptor.__get__» descrGet
  rw [dga_obj]
  refine wpAny_bind (wpAny_pure ?_)
  unfold descrGetter descrCheckInstance descrNameAndClass isInstance
  simp only [KF.owner_class]
  repeat lk
  refine ⟨Code.quiet_builtin _ (by decide +kernel), codeAny_builtin KF.entry_class ?_⟩
  unfold Builtin.«object.__class__» shownTypeOf
  repeat lk
  exact h
theorem GP {Q : Option Value -> Shared -> Prop} (X : K.In s.heap) (hx : ∃ o, s.heap.get? x = some o /\ o.cls = .ref D) (hA : erA K D = true) (h : Q (some (.ref D)) { s with toks:=s.toks + 1 }) : wpAny (model prog w) A (getAttr? (.ref x) "__class__") Q E s:=by
  obtain ⟨hh, g, d, t, os⟩:=s
  obtain ⟨o, ho, hc⟩:=hx
  unfold erA at hA
  simp only [Bool.and_eq_true, beq_iff_eq] at hA
  obtain ⟨⟨⟨⟨⟨⟨⟨ga, gh⟩, cl⟩, sg⟩, tk⟩, mo⟩, ci⟩, mb⟩:=hA
  have L0 : Looks (model prog w) hh (typeOf (.ref x)) (.ref D):=hc ▸ (Looks.ld ho).andThen .now
  have L1:=looks_findIn (M:=model prog w) X ga
  have L2:=looks_findIn (M:=model prog w) X gh
  have LB:=looks_mroIn (M:=model prog w) X mb
  have LF:=DA (M:=model prog w) (x:=x) X cl sg tk
  have f3:=PySem.F.attr_ValueError.ga.bind (.ref x)
  have hx2 : (Value.builtin "BaseException.__getattribute__" == Value.builtin "object.__getattribute__") = false:=by decide +kernel
  unfold getAttr? getAttrBy? getAttrBy
  refine wpAny_bind (wpAny_mkText (wpAny_bind (wpAny_attempt (wpAny_holding (wpAny_bind (L0.at (wpAny_bind (L1.at ?_))))))))
  dsimp only
  rw [hx2, Bool.and_false, if_neg Bool.false_ne_true]
  unfold getAttrByItsOwn hookBefore callGetattribute boundAndCalled
  refine wpAny_bind (L2.at ?_)
  refine wpAny_bind (wpAny_attempt (wpAny_holding ?_))
  rw [Bool.false_and, if_neg Bool.false_ne_true, f3]
  refine wpAny_bind (wpAny_pure ?_)
  refine wpAny_call (codeAny_call_builtin PySem.F.attr_ValueError.ga.plain PySem.F.entry_bexc_ga ?_)
  have hk : builtinKind "BaseException.__getattribute__" = some .slot:=by decide +kernel
  have hsplit : splitId "BaseException.__getattribute__" = some ("BaseException", "__getattribute__"):=by decide +kernel
  have ha:=PySem.F.args_bexc_ga (.ref x) (Value.str (Str.ofString "__class__") t)
  simp only [checkBuiltinCall, hk, hsplit]
  unfold isInstance
  refine wpAny_bind (wpAny_bind (L0.at ?_))
  refine LB.at ?_
  rw [if_neg (by decide)]
  have fin : ∀ s1 : Shared, s1 = ⟨hh, g, d, t + 1, os⟩ -> wpAny (model prog w) A.in1 («object.__getattribute__» { pos:=[Value.ref x] ++ [Value.str (Str.ofString "__class__") t] }) (fun fin s'=>match fin with | .done (.ret v)=>v = .ref D /\ s' = s1 | _=>False) (fun _ _=>False) s1:=by
    intro s1 hs1
    subst hs1
    unfold «object.__getattribute__» bindTo
    repeat (any_goals (first | with_reducible refine wpAny_call (BD X L0 mo ?_) | lk))
    exact ⟨rfl, rfl⟩
  unfold argsOk at ha
  have sg2 : ∀ sig, Manifest.signature? "BaseException.__getattribute__" = some sig -> Bind.checkArgs "BaseException.__getattribute__" sig { pos:=[Value.ref x, Value.str (Str.ofString "__class__") t] } = pure ():=fun sig e=>by
    rw [e] at ha
    exact ha
  have Zn : ∀ {P : Unit -> Shared -> Prop} {E' : Value -> Shared -> Prop} {s1 : Shared}, P () s1 -> wpAny (model prog w) A.in1 (match Manifest.signature? "BaseException.__getattribute__" with | some sig=>Bind.checkArgs "BaseException.__getattribute__" sig { pos:=[Value.ref x] ++ [Value.str (Str.ofString "__class__") t] } | _=>pure ()) P E' s1:=fun {P E' s1} p=>by
    split
    . rename_i sig e
      rw [show [Value.ref x] ++ [Value.str (Str.ofString "__class__") t] = [Value.ref x, Value.str (Str.ofString "__class__") t] from rfl, sg2 sig e]
      exact wpAny_pure p
    . exact wpAny_pure p
  refine Zn ?_
  refine wpAny_mono (fin _ rfl) (fun fi s' z=>?_) fun _ _ z=>z.elim
  rcases fi with (_ | _ | _ | v) | _
  all_goals first | exact z.elim | skip
  obtain ⟨rfl, rfl⟩:=z
  exact handed_on rfl (wpAny_pure h)
theorem Dn (hA : erA K D = true) : KitX K (.ref x) (.ref D) (fun h=>∃ o, h.get? x = some o /\ o.cls = .ref D) where
  ty:=fun _ _ _ ⟨o, ho, hc⟩=>hc ▸ (Looks.ld ho).andThen .now
  it:=fun _ _ X _=>by
    unfold erA at hA
    simp only [Bool.and_eq_true] at hA
    have z0:=hA.1.2
    unfold clsIn at z0
    split at z0
    . rename_i ho
      intro A' Q' E' s' k q
      unfold isType loadHead
      exact wpAny_bind (wpAny_loadPart (k _ _ (X _ _ ho)) (wpAny_pure q))
    . cases z0
  ne:=fun h tp dd its n sl X htp=>by
    unfold erA at hA
    simp only [Bool.and_eq_true] at hA
    have z0:=hA.1.2
    refine Bool.eq_false_iff.mpr fun q=>?_
    have e : D = tp:=Value.ref.inj (beq_iff_eq.mp q)
    subst e
    unfold clsIn at z0
    split at z0
    . rename_i ho
      cases (X _ _ ho).symm.trans htp
    . cases z0
  ca:=fun X I k=>GP X I hA k
end
theorem Cu {X : Cx} {x : Str} {v : V} {pos : Pos} (h : ∃ u, X.mg x = some u /\ XV v u) (hg : Gl X x) (hd : (x == ("__debug__" : Str)) = false:=by decide) : PE X (.Name x pos) (tC v):=by
  obtain ⟨u, hm, r⟩:=h
  exact Q7 hg hm r hd
theorem PS.nox {X : Cx} {st : Stmt} {t : TS} (h : PS X.nox st t) : PS X st t:=fun pins s σ H D I hw=>
  wpAny_mono (h pins s σ H D (I.wish _) hw) (fun _ _ q=>q.unwish) fun _ _ z=>False.elim z
theorem QT {X : Cx} {a C : Addr} {o : Obj} {pn : List (Addr × Obj)} (hpn : X.pn = pn) (hp : (a, o) ∈ pn) (hc : o.cls = .ref C) {K : Frag} (hK : X.K = K) : ZQ X (.builtin "isinstance") (ID K (.ref C) a):=by
  subst hpn hK
  intro pins s σ H xs us Q I r ⟨d, b, C', hC', hA, hxs, hd, hk, q⟩
  cases hC'
  subst hxs
  obtain ⟨e, _⟩:=I.pin (a, o) (List.mem_append_left _ hp)
  cases r with
  | cons r1 r2=>
    cases r2 with
    | cons r3 r4=>
      cases r4
      rename_i u1 u2
      obtain rfl : u1 = Value.ref a:=r1
      have e2 : u2 = vOf d:=by
        rcases hd with ⟨D, rfl⟩ | ⟨n, rfl⟩
        . exact r3
        . exact r3
      subst e2
      exact kia_one (Dn hA) I.kIn ⟨o, e, hc⟩ hk (fun z=>nomatch z) fun tk=>⟨.bl b, H, I.tok tk, rfl, q⟩
section
variable {K : PySem.W.Frag} {C D : Addr} {b : Bool}
theorem Kq (h1 : PySem.W.findIn K (.ref C) "__getattribute__" = some (some (.builtin "BaseException.__getattribute__"))) (h2 : PySem.W.findIn K (.ref C) "__getattr__" = some none) (h3 : PySem.W.findIn K (.ref C) "__class__" = some (some (.builtin "object.__class__")))
    (h6 : PySem.W.mroIn K C (.type "object") = some true) (h7 : PySem.W.isClsIn K C = true) (h8 : PySem.W.mroIn K C (.type "BaseException") = some true) (h4 : PySem.W.specialIn K (.builtin "object.__class__") "__get__" = some (some (.builtin "getset_descriptor.__get__"))) (h5 : PySem.W.takesIn K (.builtin "object.__class__") = some true) : erA K C = true:=by
  unfold erA
  unfold PySem.W.isClsIn at h7
  rw [h1, h2, h3, h4, h5, h6, h7, h8]
  rfl
theorem Vj (h : PySem.W.subIn K (.ref C) (.type "ValueError") = some true) : PySem.W.kitOne K (.ref C) (.type "ValueError") = some true:=by
  have e : PySem.W.kitOne K (.ref C) (.type "ValueError") = PySem.W.subIn K (.ref C) (.type "ValueError"):=rfl
  rw [e, h]
theorem ZR (s : PySem.W.subIn K (.ref C) (.ref C) = some true) (h : PySem.W.subIn K (.ref C) (.ref D) = some b) (h7 : PySem.W.isClsIn K D = true) (ht : PySem.W.typeIn K (.ref D) = some (.type "type")) (hb : PySem.W.subIn K (.ref D) (.type "BaseException") = some true) :
    PySem.W.kitOne K (.ref C) (.ref D) = some b /\ PySem.W.exmOne K (.ref C) (.ref D) = some b:=by
  have e : PySem.W.kitCls K (.ref C) (.ref D) = some b:=by
    unfold PySem.W.kitCls
    unfold PySem.W.isClsIn at h7
    dsimp only
    rw [h7, ht, h]
    rfl
  constructor
  . unfold PySem.W.kitOne
    rw [e]
    split
    . rename_i q
      have q:=eq_of_beq q
      rw [← q, s] at h
      exact h
    . rfl
  . unfold PySem.W.exmOne
    rw [hb, e]
    rfl
end
end L2
namespace L2
open PySem PySem.Spec PyProof.Rows
section
variable {α β : Type} {K : PySem.W.Frag} {Er : Exc -> Hp -> Prop} {S : SC} {OO : List (List Xt)} {σ : St} {Fd : Ends -> β -> Hp -> Prop} [fd : FdOk Fd] {u : TS}
end
end L2
namespace L2
open PySem PySem.Spec PyProof.Rows
section
variable {α β γ δ ε : Type}
noncomputable def rEi (r : Enc α) (q : Enc β) : Enc (α ⊕ β):=fun K H v a=>match a with
  | .inl a=>r K H v a
  | .inr b=>q K H v b
noncomputable def oEi (o : OE α) (p : OE β) : OE (α ⊕ β):=fun K H v a C=>match a with
  | .inl a=>o K H v a C
  | .inr b=>p K H v b C
instance {r : Enc α} {q : Enc β} [m : MonoE r] [n : MonoE q] : MonoE (rEi r q):=⟨fun {K H H' v a} s h=>by cases a with
  | inl a=>exact m.mono s h
  | inr a=>exact n.mono s h⟩
instance {r : Enc α} {q : Enc β} [m : FlatE r] [n : FlatE q] : FlatE (rEi r q):=⟨fun {K H H' v a} s h=>by cases a with
  | inl a=>exact m.flat s h
  | inr a=>exact n.flat s h⟩
instance {r : OE α} {q : OE β} [m : MonoO r] [n : MonoO q] : MonoO (oEi r q):=⟨fun {K H H' v a C} s h=>by cases a with
  | inl a=>exact m.mono s h
  | inr a=>exact n.mono s h⟩
instance {r : OE α} {q : OE β} [m : FlatO r] [n : FlatO q] : FlatO (oEi r q):=⟨fun {K H H' v a C} s h=>by cases a with
  | inl a=>exact m.flat s h
  | inr a=>exact n.flat s h⟩
instance {r : OE α} {q : OE β} {t : Enc α} {u : Enc β} [m : FrzC r t] [n : FrzC q u] : FrzC (oEi r q) (rEi t u):=⟨fun {K H H' v a C} h s hc=>by cases a with
  | inl a=>exact m.frz h s hc
  | inr a=>exact n.frz h s hc⟩
inductive Kd where
  | non | bl | int | str | lst | tup
noncomputable def KdV (s : Shared) (v : Value) : Kd -> Prop
  | .non=>v = .none
  | .bl=>∃ b, v = .bool b
  | .int=>∃ i t, v = .int i t
  | .str=>∃ x t, v = .str x t
  | .lst=>∃ l items, v = .ref l /\ s.heap.IsList l items
  | .tup=>∃ l items, v = .ref l /\ s.heap.IsTuple l items
noncomputable def KdX (K : PySem.W.Frag) (H : Hp) (x : V) : Kd -> Prop
  | .non=>x = .non
  | .bl=>∃ b, x = .bl b
  | .int=>∃ i, x = .int i
  | .str=>∃ i, x = .str i
  | .lst=>∃ a xs, x = .ref a /\ SqL K H a xs
  | .tup=>∃ a xs, x = .ref a /\ SqT K H a xs
noncomputable def Kd.dis : Kd -> Kd -> Bool
  | .non, .bl=>true
  | .non, .int=>true
  | .non, .str=>true
  | .non, .lst=>true
  | .non, .tup=>true
  | .bl, .non=>true
  | .bl, .str=>true
  | .bl, .lst=>true
  | .bl, .tup=>true
  | .int, .non=>true
  | .int, .str=>true
  | .int, .lst=>true
  | .int, .tup=>true
  | .str, .non=>true
  | .str, .bl=>true
  | .str, .int=>true
  | .str, .lst=>true
  | .str, .tup=>true
  | .lst, .non=>true
  | .lst, .bl=>true
  | .lst, .int=>true
  | .lst, .str=>true
  | .lst, .tup=>true
  | .tup, .non=>true
  | .tup, .bl=>true
  | .tup, .int=>true
  | .tup, .str=>true
  | .tup, .lst=>true
  | _, _=>false
theorem kdV {X : Cx} {pins : List (Addr × Obj)} {σ : St} {H : Hp} {s : Shared} {x : V} {v : Value} (I : Inv X pins σ H s) (rx : XV x v) : ∀ {k : Kd}, KdX X.K H x k -> KdV s v k
  | .non, h=>by cases (show x = .non from h); cases rx; rfl
  | .bl, ⟨b, h⟩=>by subst h; cases rx; exact ⟨b, rfl⟩
  | .int, ⟨b, h⟩=>by subst h; obtain ⟨t, rfl⟩:=rx; exact ⟨b, t, rfl⟩
  | .str, ⟨b, h⟩=>by subst h; obtain ⟨t, rfl⟩:=rx; exact ⟨b, t, rfl⟩
  | .lst, ⟨a, xs, h, q⟩=>by
    subst h; cases rx
    obtain ⟨its, r1, l1, _⟩:=I.list q
    exact ⟨a, _, rfl, l1.isList⟩
  | .tup, ⟨a, xs, h, q⟩=>by
    subst h; cases rx
    obtain ⟨its, r1, l1, _⟩:=I.tuple q
    exact ⟨a, _, rfl, l1⟩
theorem HZ {X : Cx} {pins : List (Addr × Obj)} {σ : St} {H : Hp} {s : Shared} {x : V} (I : Inv X pins σ H s) : ∀ {j k : Kd}, j.dis k = true -> KdX X.K H x j -> KdX X.K H x k -> False
  | .non, .bl, _, h1, h2=>by
    have e1 : x = .non:=h1
    obtain ⟨b2, e2⟩:=h2
    rw [e1] at e2; cases e2
  | .non, .int, _, h1, h2=>by
    have e1 : x = .non:=h1
    obtain ⟨b2, e2⟩:=h2
    rw [e1] at e2; cases e2
  | .non, .str, _, h1, h2=>by
    have e1 : x = .non:=h1
    obtain ⟨b2, e2⟩:=h2
    rw [e1] at e2; cases e2
  | .non, .lst, _, h1, h2=>by
    have e1 : x = .non:=h1
    obtain ⟨a2, xs2, e2, q2⟩:=h2
    rw [e1] at e2; cases e2
  | .non, .tup, _, h1, h2=>by
    have e1 : x = .non:=h1
    obtain ⟨a2, xs2, e2, q2⟩:=h2
    rw [e1] at e2; cases e2
  | .bl, .non, _, h1, h2=>by
    obtain ⟨b1, e1⟩:=h1
    have e2 : x = .non:=h2
    rw [e1] at e2; cases e2
  | .bl, .str, _, h1, h2=>by
    obtain ⟨b1, e1⟩:=h1
    obtain ⟨b2, e2⟩:=h2
    rw [e1] at e2; cases e2
  | .bl, .lst, _, h1, h2=>by
    obtain ⟨b1, e1⟩:=h1
    obtain ⟨a2, xs2, e2, q2⟩:=h2
    rw [e1] at e2; cases e2
  | .bl, .tup, _, h1, h2=>by
    obtain ⟨b1, e1⟩:=h1
    obtain ⟨a2, xs2, e2, q2⟩:=h2
    rw [e1] at e2; cases e2
  | .int, .non, _, h1, h2=>by
    obtain ⟨b1, e1⟩:=h1
    have e2 : x = .non:=h2
    rw [e1] at e2; cases e2
  | .int, .str, _, h1, h2=>by
    obtain ⟨b1, e1⟩:=h1
    obtain ⟨b2, e2⟩:=h2
    rw [e1] at e2; cases e2
  | .int, .lst, _, h1, h2=>by
    obtain ⟨b1, e1⟩:=h1
    obtain ⟨a2, xs2, e2, q2⟩:=h2
    rw [e1] at e2; cases e2
  | .int, .tup, _, h1, h2=>by
    obtain ⟨b1, e1⟩:=h1
    obtain ⟨a2, xs2, e2, q2⟩:=h2
    rw [e1] at e2; cases e2
  | .str, .non, _, h1, h2=>by
    obtain ⟨b1, e1⟩:=h1
    have e2 : x = .non:=h2
    rw [e1] at e2; cases e2
  | .str, .bl, _, h1, h2=>by
    obtain ⟨b1, e1⟩:=h1
    obtain ⟨b2, e2⟩:=h2
    rw [e1] at e2; cases e2
  | .str, .int, _, h1, h2=>by
    obtain ⟨b1, e1⟩:=h1
    obtain ⟨b2, e2⟩:=h2
    rw [e1] at e2; cases e2
  | .str, .lst, _, h1, h2=>by
    obtain ⟨b1, e1⟩:=h1
    obtain ⟨a2, xs2, e2, q2⟩:=h2
    rw [e1] at e2; cases e2
  | .str, .tup, _, h1, h2=>by
    obtain ⟨b1, e1⟩:=h1
    obtain ⟨a2, xs2, e2, q2⟩:=h2
    rw [e1] at e2; cases e2
  | .lst, .non, _, h1, h2=>by
    obtain ⟨a1, xs1, e1, q1⟩:=h1
    have e2 : x = .non:=h2
    rw [e1] at e2; cases e2
  | .lst, .bl, _, h1, h2=>by
    obtain ⟨a1, xs1, e1, q1⟩:=h1
    obtain ⟨b2, e2⟩:=h2
    rw [e1] at e2; cases e2
  | .lst, .int, _, h1, h2=>by
    obtain ⟨a1, xs1, e1, q1⟩:=h1
    obtain ⟨b2, e2⟩:=h2
    rw [e1] at e2; cases e2
  | .lst, .str, _, h1, h2=>by
    obtain ⟨a1, xs1, e1, q1⟩:=h1
    obtain ⟨b2, e2⟩:=h2
    rw [e1] at e2; cases e2
  | .lst, .tup, _, h1, h2=>by
    obtain ⟨a1, xs1, e1, q1⟩:=h1
    obtain ⟨a2, xs2, e2, q2⟩:=h2
    rw [e1] at e2; cases e2
    obtain ⟨i1, _, l1, _⟩:=I.list q1
    obtain ⟨i2, _, l2, _⟩:=I.tuple q2
    exact SeqAt.ne_of_list_tuple l1.isList l2 rfl
  | .tup, .non, _, h1, h2=>by
    obtain ⟨a1, xs1, e1, q1⟩:=h1
    have e2 : x = .non:=h2
    rw [e1] at e2; cases e2
  | .tup, .bl, _, h1, h2=>by
    obtain ⟨a1, xs1, e1, q1⟩:=h1
    obtain ⟨b2, e2⟩:=h2
    rw [e1] at e2; cases e2
  | .tup, .int, _, h1, h2=>by
    obtain ⟨a1, xs1, e1, q1⟩:=h1
    obtain ⟨b2, e2⟩:=h2
    rw [e1] at e2; cases e2
  | .tup, .str, _, h1, h2=>by
    obtain ⟨a1, xs1, e1, q1⟩:=h1
    obtain ⟨b2, e2⟩:=h2
    rw [e1] at e2; cases e2
  | .tup, .lst, _, h1, h2=>by
    obtain ⟨a1, xs1, e1, q1⟩:=h1
    obtain ⟨a2, xs2, e2, q2⟩:=h2
    rw [e1] at e2; cases e2
    obtain ⟨i1, _, l1, _⟩:=I.list q2
    obtain ⟨i2, _, l2, _⟩:=I.tuple q1
    exact SeqAt.ne_of_list_tuple l1.isList l2 rfl
  | .non, .non, h, _, _=>absurd h Bool.false_ne_true
  | .bl, .bl, h, _, _=>absurd h Bool.false_ne_true
  | .bl, .int, h, _, _=>absurd h Bool.false_ne_true
  | .int, .bl, h, _, _=>absurd h Bool.false_ne_true
  | .int, .int, h, _, _=>absurd h Bool.false_ne_true
  | .str, .str, h, _, _=>absurd h Bool.false_ne_true
  | .lst, .lst, h, _, _=>absurd h Bool.false_ne_true
  | .tup, .tup, h, _, _=>absurd h Bool.false_ne_true
theorem HD {s : Shared} {A : Around} {v u : Value} (hu : A.units < cLine) : ∀ {j k : Kd}, j.dis k = true -> KdV s v j -> KdV s u k -> SeqAt.EqAt A s v u false /\ SeqAt.RcAt A s v u false /\ SeqAt.RcNeAt A s v u true
  | .non, .non, h, _, _=>absurd h Bool.false_ne_true
  | .non, .bl, _, h1, h2=>by
    cases (show _ = Value.none from h1)
    obtain ⟨b2, rfl⟩:=h2
    exact ⟨SeqAt.EqAt.none_bool b2, SeqAt.RcAt.none_bool b2, SeqAt.RcNeAt.none_bool b2⟩
  | .non, .int, _, h1, h2=>by
    cases (show _ = Value.none from h1)
    obtain ⟨i2, t2, rfl⟩:=h2
    exact ⟨SeqAt.EqAt.none_int i2 t2, SeqAt.RcAt.none_int i2 t2, SeqAt.RcNeAt.none_int i2 t2⟩
  | .non, .str, _, h1, h2=>by
    cases (show _ = Value.none from h1)
    obtain ⟨i2, t2, rfl⟩:=h2
    exact ⟨SeqAt.EqAt.none_str i2 t2, SeqAt.RcAt.none_str i2 t2, SeqAt.RcNeAt.none_str i2 t2⟩
  | .non, .lst, _, h1, h2=>by
    cases (show _ = Value.none from h1)
    obtain ⟨l2, is2, rfl, q2⟩:=h2
    exact ⟨SeqAt.EqAt.none_list q2 hu, SeqAt.RcAt.none_list q2 hu, SeqAt.RcNeAt.none_list q2 hu⟩
  | .non, .tup, _, h1, h2=>by
    cases (show _ = Value.none from h1)
    obtain ⟨l2, is2, rfl, q2⟩:=h2
    exact ⟨SeqAt.EqAt.none_tuple q2 hu, SeqAt.RcAt.none_tuple q2 hu, SeqAt.RcNeAt.none_tuple q2 hu⟩
  | .bl, .non, _, h1, h2=>by
    obtain ⟨b1, rfl⟩:=h1
    cases (show _ = Value.none from h2)
    exact ⟨SeqAt.EqAt.bool_none b1, SeqAt.RcAt.bool_none b1, SeqAt.RcNeAt.bool_none b1⟩
  | .bl, .bl, h, _, _=>absurd h Bool.false_ne_true
  | .bl, .int, h, _, _=>absurd h Bool.false_ne_true
  | .bl, .str, _, h1, h2=>by
    obtain ⟨b1, rfl⟩:=h1
    obtain ⟨i2, t2, rfl⟩:=h2
    exact ⟨SeqAt.EqAt.bool_str b1 i2 t2, SeqAt.RcAt.bool_str b1 i2 t2, SeqAt.RcNeAt.bool_str b1 i2 t2⟩
  | .bl, .lst, _, h1, h2=>by
    obtain ⟨b1, rfl⟩:=h1
    obtain ⟨l2, is2, rfl, q2⟩:=h2
    exact ⟨SeqAt.EqAt.bool_list b1 q2 hu, SeqAt.RcAt.bool_list b1 q2 hu, SeqAt.RcNeAt.bool_list b1 q2 hu⟩
  | .bl, .tup, _, h1, h2=>by
    obtain ⟨b1, rfl⟩:=h1
    obtain ⟨l2, is2, rfl, q2⟩:=h2
    exact ⟨SeqAt.EqAt.bool_tuple b1 q2 hu, SeqAt.RcAt.bool_tuple b1 q2 hu, SeqAt.RcNeAt.bool_tuple b1 q2 hu⟩
  | .int, .non, _, h1, h2=>by
    obtain ⟨i1, t1, rfl⟩:=h1
    cases (show _ = Value.none from h2)
    exact ⟨SeqAt.EqAt.int_none i1 t1, SeqAt.RcAt.int_none i1 t1, SeqAt.RcNeAt.int_none i1 t1⟩
  | .int, .bl, h, _, _=>absurd h Bool.false_ne_true
  | .int, .int, h, _, _=>absurd h Bool.false_ne_true
  | .int, .str, _, h1, h2=>by
    obtain ⟨i1, t1, rfl⟩:=h1
    obtain ⟨i2, t2, rfl⟩:=h2
    exact ⟨SeqAt.EqAt.int_str i1 t1 i2 t2, SeqAt.RcAt.int_str i1 t1 i2 t2, SeqAt.RcNeAt.int_str i1 t1 i2 t2⟩
  | .int, .lst, _, h1, h2=>by
    obtain ⟨i1, t1, rfl⟩:=h1
    obtain ⟨l2, is2, rfl, q2⟩:=h2
    exact ⟨SeqAt.EqAt.int_list i1 t1 q2 hu, SeqAt.RcAt.int_list i1 t1 q2 hu, SeqAt.RcNeAt.int_list i1 t1 q2 hu⟩
  | .int, .tup, _, h1, h2=>by
    obtain ⟨i1, t1, rfl⟩:=h1
    obtain ⟨l2, is2, rfl, q2⟩:=h2
    exact ⟨SeqAt.EqAt.int_tuple i1 t1 q2 hu, SeqAt.RcAt.int_tuple i1 t1 q2 hu, SeqAt.RcNeAt.int_tuple i1 t1 q2 hu⟩
  | .str, .non, _, h1, h2=>by
    obtain ⟨i1, t1, rfl⟩:=h1
    cases (show _ = Value.none from h2)
    exact ⟨SeqAt.EqAt.str_none i1 t1, SeqAt.RcAt.str_none i1 t1, SeqAt.RcNeAt.str_none i1 t1⟩
  | .str, .bl, _, h1, h2=>by
    obtain ⟨i1, t1, rfl⟩:=h1
    obtain ⟨b2, rfl⟩:=h2
    exact ⟨SeqAt.EqAt.str_bool i1 t1 b2, SeqAt.RcAt.str_bool i1 t1 b2, SeqAt.RcNeAt.str_bool i1 t1 b2⟩
  | .str, .int, _, h1, h2=>by
    obtain ⟨i1, t1, rfl⟩:=h1
    obtain ⟨i2, t2, rfl⟩:=h2
    exact ⟨SeqAt.EqAt.str_int i1 t1 i2 t2, SeqAt.RcAt.str_int i1 t1 i2 t2, SeqAt.RcNeAt.str_int i1 t1 i2 t2⟩
  | .str, .str, h, _, _=>absurd h Bool.false_ne_true
  | .str, .lst, _, h1, h2=>by
    obtain ⟨i1, t1, rfl⟩:=h1
    obtain ⟨l2, is2, rfl, q2⟩:=h2
    exact ⟨SeqAt.EqAt.str_list i1 t1 q2 hu, SeqAt.RcAt.str_list i1 t1 q2 hu, SeqAt.RcNeAt.str_list i1 t1 q2 hu⟩
  | .str, .tup, _, h1, h2=>by
    obtain ⟨i1, t1, rfl⟩:=h1
    obtain ⟨l2, is2, rfl, q2⟩:=h2
    exact ⟨SeqAt.EqAt.str_tuple i1 t1 q2 hu, SeqAt.RcAt.str_tuple i1 t1 q2 hu, SeqAt.RcNeAt.str_tuple i1 t1 q2 hu⟩
  | .lst, .non, _, h1, h2=>by
    obtain ⟨l1, is1, rfl, q1⟩:=h1
    cases (show _ = Value.none from h2)
    exact ⟨SeqAt.EqAt.list_none q1 hu, SeqAt.RcAt.list_none q1 hu, SeqAt.RcNeAt.list_none q1 hu⟩
  | .lst, .bl, _, h1, h2=>by
    obtain ⟨l1, is1, rfl, q1⟩:=h1
    obtain ⟨b2, rfl⟩:=h2
    exact ⟨SeqAt.EqAt.list_bool b2 q1 hu, SeqAt.RcAt.list_bool b2 q1 hu, SeqAt.RcNeAt.list_bool b2 q1 hu⟩
  | .lst, .int, _, h1, h2=>by
    obtain ⟨l1, is1, rfl, q1⟩:=h1
    obtain ⟨i2, t2, rfl⟩:=h2
    exact ⟨SeqAt.EqAt.list_int i2 t2 q1 hu, SeqAt.RcAt.list_int i2 t2 q1 hu, SeqAt.RcNeAt.list_int i2 t2 q1 hu⟩
  | .lst, .str, _, h1, h2=>by
    obtain ⟨l1, is1, rfl, q1⟩:=h1
    obtain ⟨i2, t2, rfl⟩:=h2
    exact ⟨SeqAt.EqAt.list_str i2 t2 q1 hu, SeqAt.RcAt.list_str i2 t2 q1 hu, SeqAt.RcNeAt.list_str i2 t2 q1 hu⟩
  | .lst, .lst, h, _, _=>absurd h Bool.false_ne_true
  | .lst, .tup, _, h1, h2=>by
    obtain ⟨l1, is1, rfl, q1⟩:=h1
    obtain ⟨l2, is2, rfl, q2⟩:=h2
    exact ⟨SeqAt.EqAt.of_refs (SeqAt.ne_of_list_tuple q1 q2) (SeqAt.RcAt.list_tuple q1 q2 hu), SeqAt.RcAt.list_tuple q1 q2 hu, SeqAt.RcNeAt.list_tuple q1 q2 hu⟩
  | .tup, .non, _, h1, h2=>by
    obtain ⟨l1, is1, rfl, q1⟩:=h1
    cases (show _ = Value.none from h2)
    exact ⟨SeqAt.EqAt.tuple_none q1 hu, SeqAt.RcAt.tuple_none q1 hu, SeqAt.RcNeAt.tuple_none q1 hu⟩
  | .tup, .bl, _, h1, h2=>by
    obtain ⟨l1, is1, rfl, q1⟩:=h1
    obtain ⟨b2, rfl⟩:=h2
    exact ⟨SeqAt.EqAt.tuple_bool b2 q1 hu, SeqAt.RcAt.tuple_bool b2 q1 hu, SeqAt.RcNeAt.tuple_bool b2 q1 hu⟩
  | .tup, .int, _, h1, h2=>by
    obtain ⟨l1, is1, rfl, q1⟩:=h1
    obtain ⟨i2, t2, rfl⟩:=h2
    exact ⟨SeqAt.EqAt.tuple_int i2 t2 q1 hu, SeqAt.RcAt.tuple_int i2 t2 q1 hu, SeqAt.RcNeAt.tuple_int i2 t2 q1 hu⟩
  | .tup, .str, _, h1, h2=>by
    obtain ⟨l1, is1, rfl, q1⟩:=h1
    obtain ⟨i2, t2, rfl⟩:=h2
    exact ⟨SeqAt.EqAt.tuple_str i2 t2 q1 hu, SeqAt.RcAt.tuple_str i2 t2 q1 hu, SeqAt.RcNeAt.tuple_str i2 t2 q1 hu⟩
  | .tup, .lst, _, h1, h2=>by
    obtain ⟨l1, is1, rfl, q1⟩:=h1
    obtain ⟨l2, is2, rfl, q2⟩:=h2
    exact ⟨SeqAt.EqAt.of_refs (fun e=>SeqAt.ne_of_list_tuple q2 q1 e.symm) (SeqAt.RcAt.tuple_list q1 q2 hu), SeqAt.RcAt.tuple_list q1 q2 hu, SeqAt.RcNeAt.tuple_list q1 q2 hu⟩
  | .tup, .tup, h, _, _=>absurd h Bool.false_ne_true
class KdE (r : Enc α) (k : outParam Kd) : Prop where
  to : ∀ {K : PySem.W.Frag} {H : Hp} {x : V} {a : α}, r K H x a -> KdX K H x k
instance : KdE Xa .int:=⟨fun h=>⟨_, h⟩⟩
instance : KdE XY .bl:=⟨fun h=>⟨_, h⟩⟩
instance : KdE JO .str:=⟨fun h=>⟨_, h⟩⟩
instance {r : Enc α} : KdE (rV r) .lst:=⟨fun ⟨a, xs, e, q, _⟩=>⟨a, xs, e, SqL.of q⟩⟩
instance {r : Enc α} : KdE (rPL r) .tup:=⟨fun ⟨a, xs, e, q, _⟩=>⟨a, xs, e, SqT.of q⟩⟩
instance {r : Enc α} {q : Enc β} : KdE (rP2 r q) .tup:=⟨fun ⟨a, x, y, e, q, _⟩=>⟨a, _, e, SqT.of q⟩⟩
instance {r : Enc α} {q : Enc β} {t : Enc γ} : KdE (rP3 r q t) .tup:=⟨fun ⟨a, x, y, z, e, q, _⟩=>⟨a, _, e, SqT.of q⟩⟩
structure Crs (r : Enc α) (q : Enc β) (d : Nat) : Prop where
  no : ∀ {X : Cx} {pins : List (Addr × Obj)} {σ : St} {H : Hp} {s : Shared} {x : V} {a : α} {b : β}, Inv X pins σ H s -> r X.K H x a -> q X.K H x b -> False
  lr : ∀ {X : Cx} {pins : List (Addr × Obj)} {σ : St} {H : Hp} {s : Shared} {x y : V} {v u : Value} {a : α} {b : β} {A : Around}, Inv X pins σ H s -> XV x v -> XV y u -> r X.K H x a -> q X.K H y b -> A.units + d < cLine -> SeqAt.EqAt A s v u false /\ SeqAt.RcAt A s v u false /\ SeqAt.RcNeAt A s v u true
  rl : ∀ {X : Cx} {pins : List (Addr × Obj)} {σ : St} {H : Hp} {s : Shared} {x y : V} {v u : Value} {a : α} {b : β} {A : Around}, Inv X pins σ H s -> XV x v -> XV y u -> q X.K H x b -> r X.K H y a -> A.units + d < cLine -> SeqAt.EqAt A s v u false /\ SeqAt.RcAt A s v u false /\ SeqAt.RcNeAt A s v u true
theorem Crs.up {r : Enc α} {q : Enc β} {d e : Nat} (c : Crs r q d) (h : d <= e) : Crs r q e:=⟨c.no, fun I rx ry h1 h2 hu=>c.lr I rx ry h1 h2 (by omega), fun I rx ry h1 h2 hu=>c.rl I rx ry h1 h2 (by omega)⟩
theorem FU {r : Enc α} {q : Enc β} {j k : Kd} [m : KdE r j] [n : KdE q k] (h : j.dis k = true) (h' : k.dis j = true) : Crs r q 0:=
  ⟨fun I h1 h2=>HZ I h (m.to h1) (n.to h2), fun I rx ry h1 h2 hu=>HD (by omega) h (kdV I rx (m.to h1)) (kdV I ry (n.to h2)), fun I rx ry h1 h2 hu=>HD (by omega) h' (kdV I rx (n.to h1)) (kdV I ry (m.to h2))⟩
theorem Gf [DecidableEq α] [DecidableEq β] {r : Enc α} {q : Enc β} {d : Nat} [m : MonoE r] [n : MonoE q] (E : EqOk r d) (F : EqOk q d) (c : Crs r q d) : EqOk (rEi r q) d where
  uniq:=fun {X pins σ H s x a b} I h1 h2=>by
    cases a with
    | inl a=>cases b with
      | inl b=>rw [E.uniq I h1 h2]
      | inr b=>exact (c.no I h1 h2).elim
    | inr a=>cases b with
      | inl b=>exact (c.no I h2 h1).elim
      | inr b=>rw [F.uniq I h1 h2]
  eq:=fun {X pins σ H s x y v u a b A} I rx ry h1 h2 hu=>by
    cases a with
    | inl a=>cases b with
      | inl b=>have:=E.eq I rx ry h1 h2 hu; simpa using this
      | inr b=>have:=(c.lr I rx ry h1 h2 hu).1; simpa using this
    | inr a=>cases b with
      | inl b=>have:=(c.rl I rx ry h1 h2 hu).1; simpa using this
      | inr b=>have:=F.eq I rx ry h1 h2 hu; simpa using this
  rc:=fun {X pins σ H s x y v u a b A} I rx ry h1 h2 hu=>by
    cases a with
    | inl a=>cases b with
      | inl b=>have:=E.rc I rx ry h1 h2 hu; simpa using this
      | inr b=>have:=(c.lr I rx ry h1 h2 hu).2.1; simpa using this
    | inr a=>cases b with
      | inl b=>have:=(c.rl I rx ry h1 h2 hu).2.1; simpa using this
      | inr b=>have:=F.rc I rx ry h1 h2 hu; simpa using this
  ne:=fun {X pins σ H s x y v u a b A} I rx ry h1 h2 hu=>by
    cases a with
    | inl a=>cases b with
      | inl b=>have:=E.ne I rx ry h1 h2 hu; simpa using this
      | inr b=>have:=(c.lr I rx ry h1 h2 hu).2.2; simpa using this
    | inr a=>cases b with
      | inl b=>have:=(c.rl I rx ry h1 h2 hu).2.2; simpa using this
      | inr b=>have:=F.ne I rx ry h1 h2 hu; simpa using this
  keep:=fun s q=>MonoE.mono s q
theorem C0 {a b : Str} : (a == b) = decide (a = b):=by rw [Bool.eq_iff_iff]; simp
theorem Bv : EqOk JO 0 where
  uniq:=fun _ h1 h2=>by
    have h1' : _ = V.str _:=h1
    have h2' : _ = V.str _:=h2
    rw [h1'] at h2'; injection h2'
  eq:=fun {X pins σ H s x y v u a b A} I rx ry h1 h2 _=>by
    have h1' : x = V.str a:=h1
    have h2' : y = V.str b:=h2
    subst h1' h2'
    obtain ⟨t, rfl⟩:=rx
    obtain ⟨t', rfl⟩:=ry
    rw [← C0]; exact SeqAt.EqAt.str_str a t b t'
  rc:=fun {X pins σ H s x y v u a b A} I rx ry h1 h2 _=>by
    have h1' : x = V.str a:=h1
    have h2' : y = V.str b:=h2
    subst h1' h2'
    obtain ⟨t, rfl⟩:=rx
    obtain ⟨t', rfl⟩:=ry
    rw [← C0]; exact SeqAt.RcAt.str_str a t b t'
  ne:=fun {X pins σ H s x y v u a b A} I rx ry h1 h2 _=>by
    have h1' : x = V.str a:=h1
    have h2' : y = V.str b:=h2
    subst h1' h2'
    obtain ⟨t, rfl⟩:=rx
    obtain ⟨t', rfl⟩:=ry
    rw [← C0]; exact SeqAt.RcNeAt.str_str a t b t'
  keep:=fun _ h=>h
end
end L2
namespace L2
open PySem PySem.Spec PyProof.Rows
section
variable {K : PySem.W.Frag} {Er : Exc -> Hp -> Prop} {S : SC} {OO OO' OO1 OO2 : List (List Xt)} {σ : St} {α β γ ρ ι δ ε ζ : Type}
variable {Fd : Ends -> β -> Hp -> Prop} [fd : FdOk Fd] {u : TS}
theorem Cr {te : TE} {o : OE α} {p : OE γ} {m : Res α} (he : Ev K Er S OO OO' σ te o m) : Ev K Er S OO OO' σ te (oEi o p) (m.bind fun a=>.ok (.inl a)):=fun H Q w s P=>by
  refine he H Q w s ?_
  cases m with
  | bad=>exact P
  | err x=>exact P
  | ok a=>exact fun v C H' s' w' m' ho=>P v C H' s' w' m' ho
theorem Hz {te : TE} {o : OE α} {p : OE γ} {m : Res γ} (he : Ev K Er S OO OO' σ te p m) : Ev K Er S OO OO' σ te (oEi o p) (m.bind fun a=>.ok (.inr a)):=fun H Q w s P=>by
  refine he H Q w s ?_
  cases m with
  | bad=>exact P
  | err x=>exact P
  | ok a=>exact fun v C H' s' w' m' ho=>P v C H' s' w' m' ho
theorem Fy {te : TE} {o : Enc α} {p : Enc γ} {m : Res α} (he : Ev K Er S OO OO' σ te (oF o) m) : Ev K Er S OO OO' σ te (oF (rEi o p)) (m.bind fun a=>.ok (.inl a)):=fun H Q w s P=>by
  refine he H Q w s ?_
  cases m with
  | bad=>exact P
  | err x=>exact P
  | ok a=>exact fun v C H' s' w' m' ho=>P v C H' s' w' m' ho
theorem BI {te : TE} {o : Enc α} {p : Enc γ} {m : Res γ} (he : Ev K Er S OO OO' σ te (oF p) m) : Ev K Er S OO OO' σ te (oF (rEi o p)) (m.bind fun a=>.ok (.inr a)):=fun H Q w s P=>by
  refine he H Q w s ?_
  cases m with
  | bad=>exact P
  | err x=>exact P
  | ok a=>exact fun v C H' s' w' m' ho=>P v C H' s' w' m' ho
theorem FM {te : TE} {o : Enc α} {p : Enc γ} {m : Res α} (he : EvB K Er S OO σ te o m) : EvB K Er S OO σ te (rEi o p) (m.bind fun a=>.ok (.inl a)):=fun H Q w s P=>by
  refine he H Q w s ?_
  cases m with
  | bad=>exact P
  | err x=>exact P
  | ok a=>exact fun v H' s' ho=>P v H' s' ho
theorem F3 {te : TE} {o : Enc α} {p : Enc γ} {m : Res γ} (he : EvB K Er S OO σ te p m) : EvB K Er S OO σ te (rEi o p) (m.bind fun a=>.ok (.inr a)):=fun H Q w s P=>by
  refine he H Q w s ?_
  cases m with
  | bad=>exact P
  | err x=>exact P
  | ok a=>exact fun v H' s' ho=>P v H' s' ho
noncomputable def getL : α ⊕ γ -> Res α
  | .inl a=>.ok a
  | .inr _=>.bad
noncomputable def getR : α ⊕ γ -> Res γ
  | .inl _=>.bad
  | .inr b=>.ok b
end
end L2
namespace L2
theorem HE {α : Type} {us : List α} (h : us.length = 1) : ∃ a, us = [a]:=List.length_eq_one_iff.mp h
theorem Eo {α : Type} {us : List α} (h : us.length = 2) : ∃ a0 a1, us = [a0, a1]:=by
  cases us with
  | nil=>cases h
  | cons a0 t=>
    obtain ⟨a1, rfl⟩:=HE (Nat.succ.inj h)
    exact ⟨a0, a1, rfl⟩
theorem EK {α : Type} {us : List α} (h : us.length = 3) : ∃ a0 a1 a2, us = [a0, a1, a2]:=by
  cases us with
  | nil=>cases h
  | cons a0 t=>
    obtain ⟨a1, a2, rfl⟩:=Eo (Nat.succ.inj h)
    exact ⟨a0, a1, a2, rfl⟩
theorem HX {α : Type} {us : List α} (h : us.length = 4) : ∃ a0 a1 a2 a3, us = [a0, a1, a2, a3]:=by
  cases us with
  | nil=>cases h
  | cons a0 t=>
    obtain ⟨a1, a2, a3, rfl⟩:=EK (Nat.succ.inj h)
    exact ⟨a0, a1, a2, a3, rfl⟩
end L2
namespace L2
open PySem PySem.Spec PyProof.Rows
section
variable {prog : Program} {w : World} {A : Around} {E : Value -> Shared -> Prop}
end
section
variable {X : Cx} {pos : Pos}
end
section
variable {K : PySem.W.Frag} {Er : Exc -> Hp -> Prop} {S : SC} {OO OO' OO1 OO2 : List (List Xt)} {σ : St} {α β γ ρ ι δ ε ζ : Type}
variable {Fd : Ends -> β -> Hp -> Prop} [fd : FdOk Fd] {u : TS}
end
end L2
namespace L2
open PySem PySem.Spec PyProof.Rows
section
variable {X : Cx}
noncomputable def ipM : TIp:=fun x y H Q=>∃ i j, x = .int i /\ y = .int j /\ EX i j /\ Q (.int (i * j)) H
theorem Ep : PIp X .Mult ipM:=by
  intro pins s σ H x y v u Q I r1 r2 h
  obtain ⟨i, j, e1, e2, hc, q⟩:=h
  subst e1; subst e2
  obtain ⟨t, rfl⟩:=r1
  obtain ⟨t', rfl⟩:=r2
  exact PySem.AutoIntOps.imul_0 ⟨.int _, H, I.tok _, ⟨_, rfl⟩, q⟩ hc.ok
end
section
variable {K : PySem.W.Frag} {Er : Exc -> Hp -> Prop} {S : SC} {OO OO' OO1 OO2 : List (List Xt)} {σ : St} {α β γ ρ ι δ ε ζ : Type}
variable {Fd : Ends -> β -> Hp -> Prop} [fd : FdOk Fd] {u : TS}
theorem B9 {te : TE} {m : Res Int} {f : Int -> Res β} {v : V} {a : Int} (i : Nat) (hσ : σ[i]? = some (some v)) (h : ∀ x, S.p x -> Xa K x v a) (he : EvB K Er S OO σ te Xa m)
    (hr : ∀ b v, Sv Er (S.add K Xa v b) OO (σ.set i (some v)) u Fd (f b)) : Sv Er S OO σ (Jf (Ii i te ipM) u) Fd (m.bind fun b=>(QW a b).bind f):=fun H D w s P=>
  ⟨v, hσ, he.st w s P fun b y H1 s1 w1 q1 r1 P1=>by
    cases e : QW a b with
    | bad=>rw [e] at P1; exact P1.elim
    | err x=>exact absurd e ZA
    | ok c=>
      rw [e] at P1
      obtain ⟨h1, h2⟩:=YR e
      cases h2
      exact ⟨a, b, h _ s, r1, h1, hr _ _ H1 D w1 ⟨q1, rfl⟩ P1⟩⟩
end
end L2
namespace L2
open PySem PySem.Spec PyProof.Rows
set_option maxRecDepth 100000
section
variable {prog : Program} {w : World} {A : Around} {E : Value -> Shared -> Prop} {s : Shared}
end
section
variable {prog : Program} {w : World} {A : Around} {R : Result -> Shared -> Prop} {K : Type} [DecidableEq K] {knd : KeyKind prog w K}
noncomputable def DL (acc kv : List (K × Value)) : List (K × Value):=kv.foldl (fun a p=>stored a p.1 p.2) acc
end
end L2
namespace L2
open PySem PySem.Spec PyProof.Rows
section
variable {X : Cx}
noncomputable def Hq (acc kvs : List (Key × V)) : List (Key × V):=kvs.foldl (fun a p=>DO a p.1 p.2) acc
theorem KV.all {kvs : List (Key × V)} {vs : List (Key × Value)} (t : KV kvs vs) : ∀ {acc : List (Key × V)} {acc' : List (Key × Value)}, KV acc acc' -> KV (Hq acc kvs) (DL acc' vs):=by
  induction t with
  | nil=>intro acc acc' h; exact h
  | @cons p q kvs vs r _ ih=>
    intro acc acc' h
    have h2:=h.put p.1 r.2
    have e : stored acc' p.1 q.2 = stored acc' q.1 q.2:=by rw [r.1]
    rw [e] at h2
    exact ih h2
end
end L2
namespace L2
open PySem PySem.Spec PyProof.Rows
section
variable {X : Cx} {pins : List (Addr × Obj)} {σ : St} {H : Hp} {s : Shared} {d : Addr} {o : Obj} {kvs : List (Key × V)}
theorem KV.key {kvs : List (Key × V)} {vs : List (Key × Value)} (h : KV kvs vs) : ∀ {i : Nat} (h1 : i < kvs.length) (h2 : i < vs.length), (kvs[i]).1 = (vs[i]).1:=by
  induction h with
  | nil=>intro i h1; exact absurd h1 (Nat.not_lt_zero _)
  | cons r _ ih=>
    intro i h1 h2
    cases i with
    | zero=>exact r.1
    | succ i=>exact ih (Nat.lt_of_succ_lt_succ h1) (Nat.lt_of_succ_lt_succ h2)
end
section
variable {X : Cx}
end
end L2
namespace L2
open PySem PySem.Spec PyProof.Rows
section
variable {K : PySem.W.Frag} {Er : Exc -> Hp -> Prop} {S : SC} {OO OO' OO2 : List (List Xt)} {σ : St} {α β γ ρ ι δ ε : Type}
variable {Fd : Ends -> β -> Hp -> Prop} [fd : FdOk Fd] {u : TS}
theorem U8 {H : Hp} {xs : List V} {ns : List Int} (h : Paired (Xa K H) xs ns) : xs = ns.map V.int:=by
  induction h with
  | nil=>rfl
  | cons r _ ih=>rw [List.map_cons, ih, show _ = V.int _ from r]
end
end L2
namespace L2
open PySem PySem.Spec PyProof.Rows
section
variable {prog : Program} {w : World} {A : Around}
end
section
variable {X : Cx}
end
end L2
namespace L2
open PySem PySem.Spec PyProof.Rows
section
variable {K : PySem.W.Frag} {Er : Exc -> Hp -> Prop} {S : SC} {OO OO' OO1 OO2 : List (List Xt)} {σ : St} {α β γ ρ ι δ ε : Type}
variable {Fd : Ends -> β -> Hp -> Prop} [fd : FdOk Fd] {u : TS}
end
end L2
namespace L2
open PySem PySem.Spec PyProof.Rows
theorem C8 {prog : Program} {w : World} {A : Around} {E : Value -> Shared -> Prop} {s : Shared} {l b : Addr} {o1 o2 : Obj} {Q : Value -> Shared -> Prop} (h1 : s.heap.get? l = some o1) (c1 : o1.cls = .type "list") (h2 : s.heap.get? b = some o2) (c2 : o2.cls = .type "list") (hu : A.units < cLine)
    (h : wpAny (model prog w) A (call (.builtin "list.__lt__") [.ref l, .ref b]) (fun v s'=>(∃ k, v = .bool k) /\ Q v s') E s) : wpAny (model prog w) A (compareOp .Lt (.ref l) (.ref b)) Q E s:=by
  have t1 : s.TypeIs (.ref l) "list":=⟨_, h1, c1⟩
  have t2 : s.TypeIs (.ref b) "list":=⟨_, h2, c2⟩
  show wpAny _ _ (richCompare .Lt (.ref l) (.ref b)) _ _ _
  unfold richCompare
  refine wpAny_holding ?_
  refine wpAny_bind (wpAny_cRoomFor hu ?_)
  have hone : oneThing? .Lt (.ref l) (.ref b) = none:=rfl
  rw [hone]
  dsimp only
  refine wpAny_bind (wpAny_typeOf t1 ?_)
  refine wpAny_bind (wpAny_typeOf t2 ?_)
  rw [if_neg (by decide)]
  refine wpAny_bind (wpAny_pure ?_)
  rw [if_neg (by decide)]
  unfold tryCompare
  refine wpAny_bind (wpAny_bind (wpAny_callSpecialIfBound?_slot t1 F.slot_list_lt (thn h fun v s' ⟨⟨k, e⟩, q⟩=>?_)))
  subst e
  exact wpAny_pure (wpAny_pure q)
theorem Je : entryFor table "list.__eq__.loop" = some Builtin.«list.__eq__.loop»:=entryFor_of_fast (by kernel_rfl)
theorem Zr : plainId "list.__eq__.loop" = true:=by decide +kernel
noncomputable def ltL : List Int -> List Int -> Bool
  | _, []=>false
  | [], _ :: _=>true
  | a :: as, b :: bs=>if a = b then ltL as bs else decide (a < b)
theorem Cw {ns : List Int} {xs : Array Value} (hx : XR (ns.map V.int) xs.toList) (i : Nat) : (ns[i]? = none /\ xs[i]? = none) ∨ ∃ a t, ns[i]? = some a /\ xs[i]? = some (.int a t):=by
  have hl : ns.length = xs.size:=by have:=hx.length; simpa using this
  rcases Nat.lt_or_ge i ns.length with h | h
  . obtain ⟨u, hu, ru⟩ := hx.get (i := i) (x := .int ns[i]) (by simp [h])
    obtain ⟨t, rfl⟩:=ru
    exact .inr ⟨ns[i], t, by simp [h], by simpa using hu⟩
  . exact .inl ⟨List.getElem?_eq_none h, by simp; omega⟩
theorem GW {as : List Int} : ltL as [] = false:=by cases as <;> rfl
theorem Hn {prog : Program} {w : World} {A : Around} {R : Result -> Shared -> Prop} {l b : Addr} {xs ys : Array Value} {n m : Nat} {o1 o2 : Obj} (d1 : o1.data = .seq xs n) (d2 : o2.data = .seq ys m) {ns ms : List Int} (hx : XR (ns.map V.int) xs.toList) (hy : XR (ms.map V.int) ys.toList) :
    ∀ (k i : Nat) (s : Shared), ns.length - i = k -> i <= ns.length -> i <= ms.length -> s.heap.get? l = some o1 -> s.heap.get? b = some o2 ->
    (∀ tk, R (.ok (.ret (.bool (ltL (ns.drop i) (ms.drop i))))) { s with toks:=tk }) -> codeAny (model prog w) A (.builtin "list.__eq__.loop" ⟨[.ref l, .ref b, rawInt i, rawInt 0], []⟩) R s:=by
  have hlx : ns.length = xs.size:=by have:=hx.length; simpa using this
  have hly : ms.length = ys.size:=by have:=hy.length; simpa using this
  intro k
  induction k with
  | zero=>
    intro i s hk hi1 hi2 h1 h2 r
    refine codeAny_builtin Je ?_
    rw [Around.under_plainId Zr _]
    show wpAny _ A.in1 (Builtin.List.listItems (.ref l) >>= _) _ _ s
    refine wpAny_bind (wpAny_listItems h1 d1 ?_)
    refine wpAny_bind (wpAny_listItems h2 d2 ?_)
    rw [show ((i : Nat) : Int).toNat = i from rfl, show xs[i]? = none by simp; omega]
    refine wpAny_bind (wpAny_listItems h1 d1 ?_)
    refine wpAny_bind (wpAny_listItems h2 d2 ?_)
    refine wpAny_pure ?_
    have e : ltL (ns.drop i) (ms.drop i) = decide (xs.size < ys.size):=by
      rw [List.drop_eq_nil_of_le (show ns.length <= i by omega)]
      cases hd : ms.drop i with
      | nil=>
        have:=congrArg List.length hd
        simp at this
        rw [GW, decide_eq_false (by omega)]
      | cons x t=>
        have:=congrArg List.length hd
        simp at this
        exact (decide_eq_true (show xs.size < ys.size by omega)).symm
    have:=r s.toks
    rw [e] at this
    exact this
  | succ k ih=>
    intro i s hk hi1 hi2 h1 h2 r
    have lt : i < ns.length:=by omega
    refine codeAny_builtin Je ?_
    rw [Around.under_plainId Zr _]
    show wpAny _ A.in1 (Builtin.List.listItems (.ref l) >>= _) _ _ s
    refine wpAny_bind (wpAny_listItems h1 d1 ?_)
    refine wpAny_bind (wpAny_listItems h2 d2 ?_)
    rw [show ((i : Nat) : Int).toNat = i from rfl]
    rcases Cw hx i with ⟨e1, _⟩ | ⟨a, ta, e1, f1⟩
    . rw [List.getElem?_eq_none_iff] at e1; omega
    have dx : ns.drop i = a :: ns.drop (i + 1):=by
      rw [List.drop_eq_getElem_cons lt, ← (List.getElem?_eq_some_iff.mp e1).2]
    rcases Cw hy i with ⟨e2, f2⟩ | ⟨c, tc, e2, f2⟩
    . rw [f1, f2]
      refine wpAny_bind (wpAny_listItems h1 d1 ?_)
      refine wpAny_bind (wpAny_listItems h2 d2 ?_)
      refine wpAny_pure ?_
      rw [List.getElem?_eq_none_iff] at e2
      have:=r s.toks
      rw [List.drop_eq_nil_of_le e2, GW, ← decide_eq_false (show ¬ xs.size < ys.size by omega)] at this
      exact this
    . rw [f1, f2]
      have lt2 : i < ms.length:=(List.getElem?_eq_some_iff.mp e2).1
      have dy : ms.drop i = c :: ms.drop (i + 1):=by
        rw [List.drop_eq_getElem_cons lt2, ← (List.getElem?_eq_some_iff.mp e2).2]
      rw [dx, dy] at r
      show wpAny _ _ (eqBool (.int a ta) (.int c tc) >>= _) _ _ _
      refine wpAny_bind (wpAny_eqBool_int ?_)
      by_cases hac : a = c
      . rw [if_pos (by simpa using hac)]
        refine wpAny_pure ⟨plainId_quiet Zr _, ?_⟩
        refine ih (i + 1) _ (by omega) (by omega) (by omega) h1 h2 fun tk=>?_
        have:=r tk
        rw [ltL, if_pos hac] at this
        exact this
      . rw [if_neg (by simpa using hac)]
        refine wpAny_bind (wpAny_listItems h1 d1 ?_)
        refine wpAny_bind (wpAny_listItems h2 d2 ?_)
        rw [f1, f2]
        show wpAny _ _ (richCompare .Lt (.int a ta) (.int c tc) >>= _) _ _ _
        refine wpAny_bind (CmpOf.ints_lt (P:=fun j v=>∃ t, v = .int (if j = 0 then a else c) t) (fun j=>if j = 0 then a else c) (fun _ _ h=>h) 0 1 _ _ _ _ _ ⟨ta, rfl⟩ ⟨tc, rfl⟩ ?_)
        refine wpAny_pure ?_
        have:=r s.toks
        rw [ltL, if_neg hac] at this
        exact this
theorem Dq {l b : Addr} {xs ys : Array Value} {n m : Nat} {o1 o2 : Obj} (d1 : o1.data = .seq xs n) (d2 : o2.data = .seq ys m) (c2 : o2.cls = .type "list") {ns ms : List Int} (hx : XR (ns.map V.int) xs.toList) (hy : XR (ms.map V.int) ys.toList) :
    Meets (Builtin.«list.__lt__» ⟨[.ref l, .ref b], []⟩) fun _ R s=>s.heap.get? l = some o1 /\ s.heap.get? b = some o2 /\ ∀ tk, R (.ok (.ret (.bool (ltL ns ms)))) { s with toks:=tk }:=by
  rintro prog w A R s ⟨h1, h2, r⟩
  show wpAny _ _ (slotArgs "__lt__" 1 ⟨[.ref l, .ref b], []⟩ >>= _) _ _ _
  refine wpAny_bind (wpAny_pure ?_)
  refine wpAny_bind (wpAny_isInstance ⟨_, h2, c2⟩ (by first | rfl | kernel_rfl) ?_)
  rw [if_neg (by decide)]
  show wpAny _ _ (if (CmpOp.Lt == CmpOp.Eq || CmpOp.Lt == CmpOp.NotEq) = true then _ else _) _ _ _
  rw [if_neg (by decide)]
  refine wpAny_pure ⟨plainId_quiet Zr _, ?_⟩
  exact Hn d1 d2 hx hy ns.length 0 s rfl (Nat.zero_le _) (Nat.zero_le _) h1 h2 fun tk=>by simpa using r tk
section
variable {X : Cx}
noncomputable def Ir (K : PySem.W.Frag) : R2:=fun x y H Q=>∃ a b ns ms, x = .ref a /\ y = .ref b /\ SqL K H a (ns.map V.int) /\ SqL K H b (ms.map V.int) /\ Q (.bl (ltL ns ms)) H
theorem HF (K : PySem.W.Frag) (hK : X.K = K) (hu : X.A.units < cLine) : OpR X (compareOp .Lt) (Ir K):=by
  subst hK
  intro pins s σ H x y v u Q I rx ry h
  obtain ⟨a, b, ns, ms, rfl, rfl, ha, hb, q⟩:=h
  cases rx
  cases ry
  obtain ⟨i1, v1, ⟨o1, n1, g1, c1, _, d1⟩, _⟩:=I.list ha
  obtain ⟨i2, v2, ⟨o2, n2, g2, c2, _, d2⟩, _⟩:=I.list hb
  refine C8 g1 c1 g2 c2 hu (call_meets F.slot_list_lt ⟨_, g1, c1⟩ F.entry_list_lt (F.args_list_lt_2 _ _) (Dq d1 d2 c2 (by simpa using v1) (by simpa using v2)) ⟨g1, g2, fun tk=>?_⟩)
  exact ⟨⟨_, rfl⟩, .bl (ltL ns ms), H, I.tok tk, rfl, q⟩
end
end L2
namespace L2
open PySem PySem.Spec PyProof.Rows
section
variable {K : PySem.W.Frag} {Er : Exc -> Hp -> Prop} {S : SC} {OO OO' OO1 OO2 : List (List Xt)} {σ : St} {α β γ ρ ι δ ε : Type}
theorem Bl {ta tb : TE} {ma mb : Res (List Int)} (ha : EvB K Er S OO σ ta (rV Xa) ma) (hb : EvB K Er S OO σ tb (rV Xa) mb) : EvB K Er S OO σ (tOp (Ir K) ta tb) XY (ma.bind fun a=>mb.bind fun b=>.ok (ltL a b)):=fun H Q w s P=>
  ha.run w s FB.tr P fun a x H1 s1 w1 q1 ⟨p, xs, e, q, pr⟩ P1=>hb.run w1 q1 FB.tr P1 fun b y H2 s2 w2 q2 ⟨p', ys, e', q', pr'⟩ P2=>
    ⟨p, p', a, b, e, e', SqL.of (by rw [← U8 pr]; exact s2 _ _ q), SqL.of (by rw [← U8 pr']; exact q'), P2 _ H2 (Xm.refl _) rfl⟩
end
end L2
namespace L2
open PySem PySem.Spec PyProof.Rows
section
variable {K : PySem.W.Frag} {Er : Exc -> Hp -> Prop} {S : SC} {OO OO' OO1 OO2 : List (List Xt)} {σ : St} {α β γ ρ ι δ ε : Type}
noncomputable def tk (k : List Int) : List Key:=k.map Sum.inl
variable {Fd : Ends -> β -> Hp -> Prop} [fd : FdOk Fd] {u : TS}
end
end L2
namespace L2
open PySem PySem.Spec PyProof.Rows
section
variable {X : Cx} {α : Type} [DecidableEq α] {r : Enc α} {d : Nat}
end
section
variable {K : PySem.W.Frag} {Er : Exc -> Hp -> Prop} {S : SC} {OO OO' OO1 OO2 : List (List Xt)} {σ : St} {α β γ ρ ι δ ε : Type}
end
end L2
namespace L2
open PySem PySem.Spec PyProof.Rows
section
variable {X : Cx} {pins : List (Addr × Obj)} {σ : St} {H : Hp} {s : Shared} {h' : Heap}
theorem Inv.turns {t' : Nat} {ch : List Addr} (I : Inv X pins σ H s) (k : ∀ b o, b ∉ ch -> s.heap.get? b = some o -> h'.get? b = some o) (hf : ∀ b ∈ ch, U5 X pins H b) : Inv X pins σ H { s with heap:=h', toks:=t' }:=by
  have nit : ∀ b o, H b = some o -> b ∉ ch:=fun b o e z=>by rw [(hf b z).1] at e; cases e
  refine I.step (g':=s.gens) (d':=s.drawn) (ch:=ch) (fun b hb=>?_) (fun b o _ _ hc e _=>k b o hc e) (fun b o _ _ hc e _=>⟨o.slots, k b o hc e⟩)
    (fun b o _ e n=>n) (fun b o hc e=>⟨o, k b o hc e⟩) (fun b xs e=>e) (fun b o xs e=>e) (fun b ps e=>⟨#[], by rw [e]; simp⟩) (fun m hm=>?_) (fun b v e=>?_) I.bare
  . obtain ⟨f0, f1, f2, f3, f4, f5⟩ := hf b hb
    exact ⟨f3, f1, f4, f5⟩
  . obtain ⟨o, es, ep, ho, r⟩ := hm
    exact ⟨o, es, ep, k _ o (fun z=>(hf _ z).2.1 rfl) ho, r⟩
  . refine (I.hok b v e).stay (fun c o hc q => k c o ?_ q) (fun c q => q) fun c xs q => q
    rcases hc with z | z
    . rw [z]; exact nit b v e
    . exact nit c _ z
end
section
variable {X : Cx} {elts : List Expr} {k : Nat} {pos0 : Pos}
end
end L2
namespace L2
open PySem PySem.Spec PyProof.Rows
section
variable {K : PySem.W.Frag} {Er : Exc -> Hp -> Prop} {S : SC} {OO OO' OO1 OO2 : List (List Xt)} {σ : St} {α β γ ρ ι δ ε : Type}
end
end L2
namespace L2
open PySem PySem.Spec PyProof.Rows
section
variable {X : Cx}
end
section
variable {K : PySem.W.Frag} {Er : Exc -> Hp -> Prop} {S : SC} {OO OO' OO1 OO2 : List (List Xt)} {σ : St} {α β γ ρ ι δ ε : Type}
variable {Fd : Ends -> β -> Hp -> Prop} [fd : FdOk Fd] {u : TS}
end
end L2
namespace L2
open PySem PySem.Spec PyProof.Rows
section
variable {K : PySem.W.Frag} {Er : Exc -> Hp -> Prop} {S : SC} {OO OO' OO1 OO2 : List (List Xt)} {σ : St} {α β γ ρ ι δ ε : Type} {u : TS}
end
end L2
namespace L2
open PySem PySem.Spec PyProof.Rows
section
variable {X : Cx}
end
section
variable {K : PySem.W.Frag} {Er : Exc -> Hp -> Prop} {S : SC} {OO : List (List Xt)} {σ : St}
end
end L2
namespace L2
open PySem PySem.Spec PyProof.Rows
section
variable {X : Cx} {pins : List (Addr × Obj)} {σ : St} {H : Hp} {s : Shared} {d : Addr} {o : Obj} {kvs : List (Key × V)}
end
end L2
namespace L2
open PySem PySem.Spec PyProof.Rows
section
variable {X : Cx}
end
section
variable {K : PySem.W.Frag} {Er : Exc -> Hp -> Prop} {S : SC} {OO OO' OO1 OO2 OO3 : List (List Xt)} {σ : St} {α β γ ρ ι δ ε ζ : Type}
variable {Fd : Ends -> β -> Hp -> Prop} [fd : FdOk Fd] {u : TS}
theorem Ik {o : OE α} [z : MonoO o] {xs : List V} {as : List α} {Cs : List (List Xt)} {H H0 : Hp} {Q : VK} {OO0 : List (List Xt)} (w : W (Cs.flatten :: OO) H) (m0 : Xm (hid H0 OO0) (hid H (Cs.flatten :: OO))) (s0 : Xm H0 H) (pr : P3 (o K (hid H (Cs.flatten :: OO))) xs as Cs) (P : FO K OO0 OO (oL o) Q as H0) : ∀ p, H p = none -> Q (.ref p) (upd H p (.lst xs)):=fun p hp=>by
  have hn:=Vl (OO:=Cs.flatten :: OO) hp (o:=.lst xs)
  have wn:=w.new hp (o:=.lst xs) rfl
  have pe : (((p, HO.lst xs) :: Cs.flatten) :: OO).flatten.Perm ([(p, HO.lst xs)] :: Cs.flatten :: OO).flatten:=by simp
  refine P (.ref p) ((p, .lst xs) :: Cs.flatten) _ (s0.trans (XE hp _)) (wn.of pe) ?_ ?_
  . rw [X3 pe]; exact m0.trans hn
  . rw [X3 pe]
    exact ⟨p, xs, Cs, rfl, pr.imp fun _ _ _ h=>z.mono hn h, rfl⟩
theorem Bx {t : TA} {o : OE α} [z : MonoO o] {m : Res (List α)} (h : EZ K Er S OO OO' σ t o m) : Ev K Er S OO OO' σ (ED t) (oL o) (m.bind fun as=>chk (as.length <= sizeLine) (.ok as)):=fun H Q w s P=>by
  refine h H _ w s ?_
  cases e : m with
  | bad=>rw [e] at P; exact P
  | err x=>rw [e] at P; exact P
  | ok as=>
    rw [e] at P
    obtain ⟨hsz, P⟩:=PZ.chk (show PZ Er _ H (chk (as.length <= sizeLine) (.ok as)) from P)
    intro vs Cs H1 s1 w1 m1 p
    exact ⟨by rw [p.len.1]; exact hsz, Ik w1 m1 s1 p P⟩
noncomputable def oT3 (o : OE α) (q : OE β) (t : OE γ) : OE (α × β × γ):=fun K h v a C=>∃ p x y z C1 C2 C3, v = .ref p /\ h p = some (.tup [x, y, z]) /\ o K h x a.1 C1 /\ q K h y a.2.1 C2 /\ t K h z a.2.2 C3 /\ C = C1 ++ (C2 ++ C3)
instance {o : OE α} {q : OE β} {t : OE γ} [m : MonoO o] [n : MonoO q] [k : MonoO t] : MonoO (oT3 o q t):=⟨fun s h9=>(by obtain ⟨p, x, y, z, C1, C2, C3, e, h, h1, h2, h3, c⟩:=h9; exact ⟨p, x, y, z, C1, C2, C3, e, s _ _ h, m.mono s h1, n.mono s h2, k.mono s h3, c⟩)⟩
instance {o : OE α} {q : OE β} {t : OE γ} [m : FlatO o] [n : FlatO q] [k : FlatO t] : FlatO (oT3 o q t):=⟨fun s h9=>(by obtain ⟨p, x, y, z, C1, C2, C3, e, h, h1, h2, h3, c⟩:=h9; exact ⟨p, x, y, z, C1, C2, C3, e, s _ _ h rfl, m.flat s h1, n.flat s h2, k.flat s h3, c⟩)⟩
instance {o : OE α} {q : OE β} {t : OE γ} {ro : Enc α} {rq : Enc β} {rt : Enc γ} [m : FrzC o ro] [n : FrzC q rq] [k : FrzC t rt] : FrzC (oT3 o q t) (rP3 ro rq rt):=⟨fun ⟨p, x, y, z, C1, C2, C3, e, h, h1, h2, h3, c⟩ s hc=>by
  subst c
  exact ⟨p, x, y, z, e, s _ _ h, m.frz h1 s fun c hm=>hc c (by simp [hm]), n.frz h2 s fun c hm=>hc c (by simp [hm]), k.frz h3 s fun c hm=>hc c (by simp [hm])⟩⟩
end
end L2
namespace L2
open PySem PySem.Spec PyProof.Rows
section
variable {K : PySem.W.Frag} {Er : Exc -> Hp -> Prop} {S : SC} {OO OO' OO1 OO2 : List (List Xt)} {σ : St} {α β γ ρ ι δ ε ζ : Type}
variable {Fd : Ends -> β -> Hp -> Prop} [fd : FdOk Fd] {u : TS}
end
end L2
namespace L2
open PySem PySem.Spec PyProof.Rows
section
variable {K : PySem.W.Frag} {Er : Exc -> Hp -> Prop} {S : SC} {OO OO' OO1 OO2 : List (List Xt)} {σ : St} {α β γ ρ ι δ ε ζ : Type}
variable {Fd : Ends -> β -> Hp -> Prop} [fd : FdOk Fd] {u : TS}
end
end L2
namespace L2
open PySem PySem.Spec PyProof.Rows
section
variable {K : PySem.W.Frag} {Er : Exc -> Hp -> Prop} {S : SC} {OO OO' OO1 OO2 : List (List Xt)} {σ : St} {α β γ ρ ι δ ε ζ α1 α3 α4 : Type}
variable {Fd : Ends -> β -> Hp -> Prop} [fd : FdOk Fd] {u : TS}
end
end L2
namespace L2
open PySem
noncomputable def Inc (xs : Array Nat) : Prop:=xs.toList.Pairwise (· < ·)
theorem Inc.lt {xs : Array Nat} (h : Inc xs) {i j v u : Nat} (hij : i < j) (hi : xs[i]? = some v) (hj : xs[j]? = some u) : v < u:=by
  rw [← Array.getElem?_toList] at hi hj
  obtain ⟨a, rfl⟩:=List.getElem?_eq_some_iff.mp hi
  obtain ⟨b, rfl⟩:=List.getElem?_eq_some_iff.mp hj
  exact List.pairwise_iff_getElem.mp h i j a b hij
structure TOk (t : SetTable) (led : Bool) : Prop where
  inc : Inc t.place
  dum : t.dummies = #[]
  led : t.led = led
theorem TOk.fresh (f m : Nat) (led : Bool) : TOk (.fresh f m led) led:=⟨List.Pairwise.nil, rfl, rfl⟩
end L2
namespace L2
open PySem PySem.Spec PyProof.Rows
theorem Dw {vs : List Value} {ms : List Int} (h : IntsAre vs ms) (k : Int) : (∃ v ∈ vs, Value.isInt k v = true) ↔ k ∈ ms:=by
  induction h with
  | nil=>simp
  | cons n t _ ih=>
    rw [List.mem_cons, ← ih]
    constructor
    . rintro ⟨v, hv, e⟩
      rcases List.mem_cons.mp hv with z | z
      . subst z; obtain ⟨t', e'⟩:=Value.isInt_shape e; cases e'; exact .inl rfl
      . exact .inr ⟨v, z, e⟩
    . rintro (z | ⟨v, hv, e⟩)
      . subst z; exact ⟨_, .head _, beq_self_eq_true _⟩
      . exact ⟨v, .tail _ hv, e⟩
noncomputable def dd (l : List Int) : List Int:=l.foldl step_dedup []
structure SCore (prog : Program) (w : World) (es : Array (Int × Value)) (t : SetTable) (ns : List Int) : Prop where
  el : ElemsOf (intKind prog w) es.toList
  pm : ∃ ms, IntsAre (es.toList.map (·.2)) ms /\ ms.Perm ns
  sz : es.size < scanBound
  fit : t.fits es.size = true
  tok : TOk t (!w.params.followText "set-order")
noncomputable def EJ (prog : Program) (w : World) (h : Heap) (a : Addr) (ns : List Int) : Prop:=
  ∃ o es ep t, h.get? a = some o /\ o.ExactSet /\ o.data = .set es ep t /\ SCore prog w es t ns
section
variable {prog : Program} {w : World} {A : Around} {E : Value -> Shared -> Prop} {s : Shared} {a : Addr} {ns : List Int}
theorem SCore.len {es : Array (Int × Value)} {t : SetTable} (c : SCore prog w es t ns) : es.size = ns.length:=by
  obtain ⟨ms, a, b⟩:=c.pm
  rw [← b.length_eq, ← IntsAre.length a, List.length_map, Array.length_toList]
theorem SCore.mem {es : Array (Int × Value)} {t : SetTable} (c : SCore prog w es t ns) (k : Int) : (∃ e ∈ es.toList, Value.isInt k e.2 = true) ↔ k ∈ ns:=by
  obtain ⟨ms, a, b⟩:=c.pm
  rw [← b.mem_iff, ← Dw a k]
  constructor
  . rintro ⟨e, h, z⟩; exact ⟨e.2, List.mem_map_of_mem h, z⟩
  . rintro ⟨v, h, z⟩
    obtain ⟨e, h1, rfl⟩:=List.mem_map.mp h
    exact ⟨e, h1, z⟩
theorem EJ.put {h : Heap} {o : Obj} {es es' : Array (Int × Value)} {ep : Nat} {t t' : SetTable} (ho : h.get? a = some o) (hx : o.ExactSet) (hd : o.data = .set es ep t) :
    (h.update a (Obj.putSet es' t')).get? a = some { o with data:=.set es' (ep + 1) t' } /\ (SCore prog w es' t' ns -> EJ prog w (h.update a (Obj.putSet es' t')) a ns):=by
  have g:=Heap.get?_update_self (Obj.putSet es' t') ho (by rw [putSet_of es' t' hd]; rfl)
  rw [putSet_of es' t' hd] at g
  exact ⟨g, fun c=>⟨_, _, _, _, g, hx, rfl, c⟩⟩
end
end L2
namespace L2
open PySem PySem.Spec PyProof.Rows
section
variable {prog : Program} {w : World} {A : Around} {E : Value -> Shared -> Prop} {s : Shared}
theorem EJ.at {h h' : Heap} {a : Addr} {ns : List Int} (x : EJ prog w h a ns) (k : ∀ o, h.get? a = some o -> h'.get? a = some o) : EJ prog w h' a ns:=
  let ⟨o, es, ep, t, ho, r⟩:=x; ⟨o, es, ep, t, k o ho, r⟩
end
end L2
namespace L2
open PySem PySem.Spec PyProof.Rows
section
variable {M : Model} {A : Around} {E : Value -> Shared -> Prop} {s : Shared}
end
section
variable {prog : Program} {w : World} {A : Around} {E : Value -> Shared -> Prop} {s : Shared} {a : Addr} {o : Obj} {es : Array (Int × Value)} {ep : Nat} {t : SetTable}
end
end L2
namespace L2
open PySem PySem.Spec PyProof.Rows
section
variable {prog : Program} {w : World} {A : Around} {E : Value -> Shared -> Prop} {s : Shared} {a I tp : Addr} {o : Obj} {es : Array (Int × Value)} {ep : Nat} {t : SetTable} {L : List (Int × Value)}
inductive SMode (w : World) (a : Addr) (es : Array (Int × Value)) (ep : Nat) (t : SetTable) (tp : Addr) (L : List (Int × Value)) (h : Heap) (i : Nat) : Value -> Prop
  | text (sl : Nat) (hT : w.params.followText "set-order" = true) (hL : L = (pickOrder (w.params.setOrder a ep) es).toList) : SMode w a es ep t tp L h i (.int sl 0)
  | plain (sl : Nat) (hT : w.params.followText "set-order" = false) (hp : (!t.plain && decide (es.size > 1)) = false) (hL : L = es.toList) (hb : SetTable.below t.place sl = i) : SMode w a es ep t tp L h i (.int sl 0)
  | drawn (ps : List Nat) (hg : h.get? tp = some { cls:=.type "tuple", data:=.seq (ps.map fun i=>Value.int (i : Nat) 0).toArray }) (hn : ps.length = L.length) (hL : ∀ (i : Nat) pl, ps[i]? = some pl -> L[i]? = es[pl]?) : SMode w a es ep t tp L h i (.ref tp)
structure SIt (w : World) (I a : Addr) (es : Array (Int × Value)) (ep : Nat) (t : SetTable) (tp : Addr) (L : List (Int × Value)) (o : Obj) (i : Nat) (h : Heap) : Prop where
  it : ∃ ob first, h.get? I = some ob /\ ob.cls = .type "set_iterator" /\ ob.data = .fields #[first, .int i 0, .ref a, .int es.size 0, .int ep 0] /\ SMode w a es ep t tp L h i first
  st : h.get? a = some o
theorem SMode.at {h h' : Heap} {i : Nat} {v : Value} (m : SMode w a es ep t tp L h i v) (k : ∀ o, h.get? tp = some o -> h'.get? tp = some o) : SMode w a es ep t tp L h' i v:=by
  cases m with
  | text sl hT hL=>exact .text sl hT hL
  | plain sl hT hp hL hb=>exact .plain sl hT hp hL hb
  | drawn ps hg hn hL=>exact .drawn ps (k _ hg) hn hL
end
end L2
namespace L2
open PySem PySem.Spec PyProof.Rows
section
variable {prog : Program} {w : World} {A : Around} {E : Value -> Shared -> Prop} {s : Shared} {a I tp : Addr} {o : Obj} {es : Array (Int × Value)} {ep : Nat} {t : SetTable} {L : List (Int × Value)} {ns : List Int}
theorem SIt.frame {i : Nat} {h h' : Heap} (x : SIt w I a es ep t tp L o i h) (k : ∀ b ∈ [I, a, tp], ∀ o, h.get? b = some o -> h'.get? b = some o) : SIt w I a es ep t tp L o i h':=by
  obtain ⟨⟨ob, f, h1, h2, h3, m⟩, h4⟩:=x
  exact ⟨⟨ob, f, k I (by simp) _ h1, h2, h3, m.at fun o e=>k tp (by simp) o e⟩, k a (by simp) _ h4⟩
end
section
variable {X : Cx}
end
end L2
namespace L2
open PySem PySem.Spec PyProof.Rows
section
variable {K : PySem.W.Frag} {Er : Exc -> Hp -> Prop} {S : SC} {OO : List (List Xt)} {σ : St}
variable {u : TS} {α γ ρ ι : Type}
variable {β : Type} {Fd : Ends -> β -> Hp -> Prop} [fd : FdOk Fd]
end
section
variable {α β γ : Type}
end
section
variable {K : PySem.W.Frag} {Er : Exc -> Hp -> Prop} {S : SC} {OO : List (List Xt)} {σ : St} {α1 α2 α3 α4 ρ : Type} {mg : Str -> Option Value} {E : XK}
end
end L2
namespace L2
open PySem PySem.Spec PyProof.Rows
section
variable {X : Cx} {tg : Expr}
end
end L2
namespace L2
open PySem PySem.Spec PyProof.Rows
section
variable {K : PySem.W.Frag} {Er : Exc -> Hp -> Prop} {S : SC} {OO OO' : List (List Xt)} {σ : St} {α β γ : Type}
theorem P3.reverse {δ : Type} {F : α -> γ -> δ -> Prop} : ∀ {l m n}, P3 F l m n -> P3 F l.reverse m.reverse n.reverse:=fun p=>by
  induction p with
  | nil=>exact .nil
  | cons r _ ih=>rw [List.reverse_cons, List.reverse_cons, List.reverse_cons]; exact ih.snoc r
variable {u : TS} {Fd : Ends -> β -> Hp -> Prop} [fd : FdOk Fd]
end
end L2
namespace L2
open PySem PySem.Spec PyProof.Rows
section
variable {K : PySem.W.Frag} {Er : Exc -> Hp -> Prop} {S : SC} {OO : List (List Xt)} {σ : St} {α β γ ι : Type} {u : TS} {Fd : Ends -> β -> Hp -> Prop} [fd : FdOk Fd]
end
end L2
namespace L2
open PySem PySem.Spec PyProof.Rows
section
variable {K : PySem.W.Frag} {Er : Exc -> Hp -> Prop} {S : SC} {OO : List (List Xt)} {σ : St} {α β : Type}
end
end L2
namespace L2
open PySem PySem.Spec PyProof.Rows
noncomputable def IM (A : Around) (s : Shared) (v u : Value) (b : Bool) : Prop:=
  ∀ (prog : Program) (w : World) (E : Value -> Shared -> Prop) (Q : Value -> Shared -> Prop), Q (.bool b) s -> wpAny (model prog w) A (richCompare .Lt v u) Q E s
structure LtOk {α : Type} (r : Enc α) (lt : α -> α -> Bool) (d : Nat) : Prop where
  at' : ∀ {X : Cx} {pins : List (Addr × Obj)} {σ : St} {H : Hp} {s : Shared} {x y : V} {v u : Value} {a b : α} {A : Around}, Inv X pins σ H s -> XV x v -> XV y u -> r X.K H x a -> r X.K H y b -> A.units + d < cLine -> IM A s v u (lt a b)
noncomputable def ltI (a b : Int) : Bool:=decide (a < b)
theorem lt_int : LtOk Xa ltI 0:=⟨fun {X pins σ H s x y v u a b A} I rx ry h1 h2 _ prog w E Q q=>by
  have e1 : x = V.int a:=h1
  have e2 : y = V.int b:=h2
  subst e1 e2
  obtain ⟨t, rfl⟩:=rx
  obtain ⟨t', rfl⟩:=ry
  exact CmpOf.ints_lt (P:=fun j v=>∃ t, v = .int (if j = 0 then a else b) t) (fun j=>if j = 0 then a else b) (fun _ _ h=>h) 0 1 _ _ _ _ _ ⟨t, rfl⟩ ⟨t', rfl⟩ q⟩
section
variable {α : Type} [DecidableEq α] {r : Enc α} {lt : α -> α -> Bool} {d : Nat}
theorem LtOk.imp {q : Enc α} (L : LtOk r lt d) (h : ∀ {K : PySem.W.Frag} {H : Hp} {v : V} {a : α}, q K H v a -> r K H v a) : LtOk q lt d:=⟨fun I rx ry h1 h2 hu=>L.at' I rx ry (h h1) (h h2) hu⟩
end
end L2
namespace L2
open PySem PySem.Spec PyProof.Rows
section
variable {α : Type}
noncomputable def kp (kf : Value -> α) (d : α) (xs : Array Keyed) (i : Nat) : α:=(xs[i]?.map fun p=>kf p.1).getD d
structure Ord (lt : α -> α -> Bool) : Prop where
  irr : ∀ a, lt a a = false
  tr : ∀ {a b c}, lt a b = true -> lt b c = true -> lt a c = true
structure Asks (prog : Program) (w : World) (A : Around) (E : Value -> Shared -> Prop) (s : Shared) (lt : α -> α -> Bool) (kf : Value -> α) (d : α) (a0 : Array Keyed) : Prop extends Ord lt where
  ask : ∀ {st : SortSt} {i j : Nat} {Q : Option Bool -> SortSt -> Prop}, SBase a0 st -> i < a0.size -> j < a0.size -> Q (some (lt (kp kf d (arrOf st) i) (kp kf d (arrOf st) j))) st -> wpS (model prog w) A E s (ltAt' i j) Q st
  two : ∀ {st : SortSt} {i j : Nat}, SBase a0 st -> i < a0.size -> j < a0.size -> i ≠ j -> lt (kp kf d (arrOf st) i) (kp kf d (arrOf st) j) = true ∨ lt (kp kf d (arrOf st) j) (kp kf d (arrOf st) i) = true
variable {prog : Program} {w : World} {A : Around} {E : Value -> Shared -> Prop} {s : Shared} {lt : α -> α -> Bool} {kf : Value -> α} {d : α} {a0 : Array Keyed}
noncomputable def Ris (lt : α -> α -> Bool) (k : Nat -> α) (n : Nat) : Prop:=∀ i j, i < j -> j < n -> lt (k i) (k j) = true
noncomputable def Fal (lt : α -> α -> Bool) (k : Nat -> α) (n : Nat) : Prop:=∀ i j, i < j -> j < n -> lt (k j) (k i) = true
theorem Ris.more (O : Ord lt) {k : Nat -> α} {n : Nat} (h : Ris lt k n) (q : 0 < n -> lt (k (n - 1)) (k n) = true) : Ris lt k (n + 1):=fun i j hij hj=>by
  rcases Nat.lt_or_ge j n with z | z
  . exact h i j hij z
  . have e : j = n := by omega
    subst e
    rcases Nat.lt_or_ge i (j - 1) with y | y
    . exact O.tr (h i (j - 1) y (by omega)) (q (by omega))
    . rw [show i = j - 1 by omega]; exact q (by omega)
theorem Fal.more (O : Ord lt) {k : Nat -> α} {n : Nat} (h : Fal lt k n) (q : 0 < n -> lt (k n) (k (n - 1)) = true) : Fal lt k (n + 1):=fun i j hij hj=>by
  rcases Nat.lt_or_ge j n with z | z
  . exact h i j hij z
  . have e : j = n := by omega
    subst e
    rcases Nat.lt_or_ge i (j - 1) with y | y
    . exact O.tr (q (by omega)) (h i (j - 1) y (by omega))
    . rw [show i = j - 1 by omega]; exact q (by omega)
theorem Asks.other (L : Asks prog w A E s lt kf d a0) {st : SortSt} {i j : Nat} (B : SBase a0 st) (hi : i < a0.size) (hj : j < a0.size) (n : i ≠ j) (h : lt (kp kf d (arrOf st) i) (kp kf d (arrOf st) j) = false) : lt (kp kf d (arrOf st) j) (kp kf d (arrOf st) i) = true:=(L.two B hi hj n).resolve_left (by rw [h]; decide)
end
end L2
namespace L2
open PySem PySem.Spec PyProof.Rows
section
variable {α β γ : Type}
section
variable [DecidableEq α] {lt : α -> α -> Bool}
end
end
section
variable {prog : Program} {w : World} {A : Around} {E : Value -> Shared -> Prop} {s : Shared} {α : Type}
end
section
variable {X : Cx} {β : Type} [DecidableEq β] {r : Enc β} {lt : β -> β -> Bool} {d : Nat}
end
end L2
namespace L2
open PySem PySem.Spec PyProof.Rows
section
variable {X : Cx} {α : Type}
end
section
variable {K : PySem.W.Frag} {Er : Exc -> Hp -> Prop} {S : SC} {OO OO' : List (List Xt)} {σ : St} {α β γ δ : Type}
end
section
variable {K : PySem.W.Frag} {Er : Exc -> Hp -> Prop} {S : SC} {OO OO' : List (List Xt)} {σ : St} {α β : Type} {u : TS} {Fd : Ends -> β -> Hp -> Prop} [fd : FdOk Fd]
end
end L2
namespace L2
open PySem PySem.Spec PyProof.Rows
section
variable {K : PySem.W.Frag} {Er : Exc -> Hp -> Prop} {S : SC} {OO OO' : List (List Xt)} {σ : St} {α1 α2 β ρ : Type} {u : TS}
theorem W.one {H : Hp} (w : W OO H) : W [OO.flatten] H:=w.of (by simp)
end
end L2
namespace L2
open PySem PySem.Spec PyProof.Rows
section
variable {K : PySem.W.Frag} {Er : Exc -> Hp -> Prop} {S : SC} {OO OO' : List (List Xt)} {σ : St} {α α2 β γ ρ : Type}
variable {Fd : Ends -> β -> Hp -> Prop} [fd : FdOk Fd] {u : TS}
end
end L2
namespace L2
open PySem PySem.Spec PyProof.Rows
section
variable {prog : Program} {w : World} {A : Around} {E : Value -> Shared -> Prop} {s : Shared}
end
section
variable {X : Cx}
end
end L2
namespace L2
open PySem PySem.Spec PyProof.Rows
section
variable {K : PySem.W.Frag} {Er : Exc -> Hp -> Prop} {S : SC} {OO OO' : List (List Xt)} {σ : St} {α β γ : Type}
end
end L2
namespace L2
open PySem PySem.Spec PyProof.Rows
section
variable {X : Cx} {α : Type} {r : Enc α} {lt : α -> α -> Bool} {d : Nat}
end
section
variable {K : PySem.W.Frag} {Er : Exc -> Hp -> Prop} {S : SC} {OO OO' : List (List Xt)} {σ : St} {α : Type}
end
end L2
namespace L2
open PySem PySem.Spec PyProof.Rows
section
variable {X : Cx} {pins : List (Addr × Obj)} {σ : St} {H : Hp} {s0 : Shared}
noncomputable def Bs (X : Cx) (g : Heap) (d : Addr) (xs : List (List Key × Addr × Value)) : Prop:=∃ o es ep, g.get? d = some o /\ o.ExactDict /\ o.data = .dict es ep /\ es.toList = xs.map (entryOfKey (tupleKind (YY X.prog X.w))) /\ (xs.map (·.1)).Nodup
theorem Bs.h {g : Heap} {tk : Nat} {d : Addr} {acc : List (List Key × V)} {xs : List (List Key × Addr × Value)} (D : Bs X g d xs) (I : Inv X pins σ H { s0 with heap:=g, toks:=tk }) (r : KT H acc xs) : g.DictOfH (tupleKind (YY X.prog X.w)) d xs:=by
  obtain ⟨o, es, ep, h1, h2, h3, h4, h5⟩:=D
  refine ⟨o, es, ep, h1, h2, h3, h4, fun x hx=>?_, h5⟩
  have all : ∀ {l : List (List Key × V)} {m : List (List Key × Addr × Value)}, KT H l m -> ∀ x ∈ m, (tupleKind (YY X.prog X.w)).is g x.1 x.2.1:=by
    intro l m q
    induction q with
    | nil=>intro x hx; exact nomatch hx
    | @cons p q ps qs hq t ih=>
      intro x hx
      rcases List.mem_cons.mp hx with e | hx
      . subst e
        exact Ho I.hok (by rw [← hq.1]; exact hq.2.1)
      . exact ih x hx
  exact all r x hx
theorem Bs.of {g : Heap} {d : Addr} {xs : List (List Key × Addr × Value)} (D : g.DictOfH (tupleKind (YY X.prog X.w)) d xs) : Bs X g d xs:=by
  obtain ⟨o, es, ep, h1, h2, h3, h4, _, h5⟩:=D
  exact ⟨o, es, ep, h1, h2, h3, h4, h5⟩
theorem Bs.at {g g' : Heap} {d : Addr} {xs : List (List Key × Addr × Value)} (D : Bs X g d xs) (k : ∀ o, g.get? d = some o -> g'.get? d = some o) : Bs X g' d xs:=by
  obtain ⟨o, es, ep, h1, r⟩:=D
  exact ⟨o, es, ep, k o h1, r⟩
end
end L2
namespace L2
open PySem PySem.Spec PyProof.Rows
section
variable {K : PySem.W.Frag} {Er : Exc -> Hp -> Prop} {S : SC} {OO OO' : List (List Xt)} {σ : St} {α β γ : Type}
end
end L2
namespace L2
open PySem PySem.Spec PyProof.Rows
section
variable {K : PySem.W.Frag} {Er : Exc -> Hp -> Prop} {S : SC} {OO : List (List Xt)} {σ : St} {α1 α2 α3 α4 α5 ρ : Type} {mg : Str -> Option Value} {E : XK}
end
end L2
namespace L2
open PySem PySem.Spec PyProof.Rows
section
variable {X : Cx} {o e : Expr} {es : List Expr} {to : TE} {t : TA} {name : Str} {apos cpos : Pos} {id : String} {r : V -> List V -> Hp -> VK -> Prop}
end
section
variable {K : PySem.W.Frag} {Er : Exc -> Hp -> Prop} {S : SC} {OO : List (List Xt)} {σ : St}
end
end L2
namespace L2
open PySem PySem.Spec PyProof.Rows
section
variable {α β γ δ : Type} {K : PySem.W.Frag} {Er : Exc -> Hp -> Prop} {S : SC} {OO : List (List Xt)} {σ : St} {Fd : Ends -> β -> Hp -> Prop} [fd : FdOk Fd] {u : TS}
end
end L2
namespace HT
open PySem PySem.Spec PyProof PyProof.Rows
section
variable {prog : Program} {w : World} {A : Around} {E : Value -> Shared -> Prop} {s : Shared}
end
end HT
namespace L2
open PySem PySem.Spec PyProof.Rows
section
variable {X : Cx} {e : Expr} {te : TE}
end
end L2
namespace L2
open PySem PySem.Spec PyProof.Rows
section
variable {α β : Type} {K : PySem.W.Frag} {Er : Exc -> Hp -> Prop} {S : SC} {OO : List (List Xt)} {σ : St}
end
end L2
namespace L2
open PySem PySem.Spec PyProof.Rows
section
variable {α β : Type} {K : PySem.W.Frag} {Er : Exc -> Hp -> Prop} {S : SC} {OO : List (List Xt)} {σ : St} {Fd : Ends -> β -> Hp -> Prop} [fd : FdOk Fd] {u : TS}
end
end L2
namespace L2
open PySem PySem.Spec PyProof.Rows
section
variable {K : PySem.W.Frag} {Er : Exc -> Hp -> Prop} {S : SC} {OO OO' OO2 : List (List Xt)} {σ : St} {α β γ ρ ι : Type} {mg : Str -> Option Value} {E : XK} {u : TS}
noncomputable def jB (OO : List (List Xt)) (S : SC) : Jn Unit St:=⟨fun _=>OO, fun x=>x, fun _ _=>S⟩
theorem GU {o : OE ρ} : Sv Er S OO σ UQ (FCd K o (jB OO S)) (.ok (.nx ())):=fun H _ w s P=>P σ H w (Xm.refl _) s
theorem Fu {te : XK -> TE} {ts : Addr -> Addr -> TS} {N i : Nat} {Ch : Addr} {o : OE ρ} {m : Res ρ} {g : Exc -> Res (Ctl ρ Unit)} {f : Res ρ} {ns : List Str} {d : Str} (Y : Ecs ns K mg) (hd : d ∈ ns) (hm : mg d = some (.ref Ch)) (he : ∀ E, Ev K (ErE mg E) S OO OO' σ (te E) o m)
    (hr : Sv Er S OO (blank N) u (FTd K o) f)
    (hs : ∀ x, x.cls ∈ ns -> ∀ C a, mg x.cls = some (.ref C) -> Sv Er S OO ((blank N).set i (some (.ref a))) (ts a C) (FCd K o (jB OO S)) (g x)) :
    Sv Er S OO σ (Jf (IJ K N (.ref Ch) i (fun E=>Jf (Il (te E)) UQ) ts) u) (FTd K o) (m.tryC .ok (fun x=>chk (cau ns x.cls d = true) ((g x).bind (Z3 fun _=>f)))):=fun H D w s P=>
  he _ H _ w s (by
    cases m with
    | bad=>exact P
    | ok a=>exact fun v C H' s' w' m' ho=>P v C OO' H' w' m' ho
    | err x=>
      intro H' s' C hC
      obtain ⟨hc, P2⟩:=Bg (c:=cau ns x.cls d = true) (m:=(g x).bind (Z3 fun _=>f)) P
      unfold cau at hc
      rw [Bool.and_eq_true, decide_eq_true_eq] at hc
      refine ⟨by rw [Y.exm _ hc.1 d hd C Ch hC hm, hc.2], fun a C' hC' _=>hs x hc.1 C' a (hC'.symm ▸ hC) H' _ (w.keep s') (S.mono _ _ (Xi s') s) ?_⟩
      have P3:=PZ.tr (FdOk.tr (Fd:=FTd K o) D) (Xi s') P2
      generalize g x = gx at P3 ⊢
      cases gx with
      | bad=>exact P3
      | err y=>exact P3
      | ok c=>cases c with
        | ret r=>exact P3
        | nx z=>exact fun x1 H1 w1 m1 q1=>hr H1 D w1 q1 (PZ.tr (FdOk.tr (Fd:=FTd K o) D) m1 P3))
theorem Kb {Fd : Ends -> β -> Hp -> Prop} {r : Enc α} {q : Enc γ} [MonoE q] {f : γ -> Res β} {v : V} {a : α ⊕ γ} (h : ∀ x, S.p x -> rEi r q K x v a) (hr : ∀ b, Sv Er (S.add K q v b) OO σ u Fd (f b)) : Sv Er S OO σ u Fd ((getR a).bind f):=fun H D w s P=>by
  cases a with
  | inl a=>exact P.elim
  | inr b=>exact hr b H D w ⟨s, h _ s⟩ P
end
end L2
namespace My
open PySem L2
noncomputable abbrev Xy : List Str:=["PlaitError", "NoCrossing", "TooBig", "TooMuch"]
noncomputable def Ja (a_0 : ((List (List Int)) × (List (Int × Int)))) (a_1 : Int) : Res (Int × Int):=(Res.bind (Res.bind (Res.bind (Res.ok a_0) fun x1=>(Res.ok x1.1)) fun x2=>(Res.ok (Uk x2))) fun x22=>(Res.bind (forC x22 () (fun g5 a7=>(Res.bind (Res.bind (Res.ok a_1) fun x9=>(Res.bind (Res.ok a7.2) fun x10=>(Res.ok (decide (x9 ∈ x10))))) fun x11=>(if x11 = true then (Res.bind (Res.bind (Res.ok a7.1) fun x14=>(Res.bind (Res.bind (Res.ok a7.2) fun x12=>(Res.bind (Res.ok a_1) fun x13=>(Cz x12 x13))) fun x15=>(Res.ok (x14, x15)))) fun x17=>(Res.ok (Ctl.ret x17))) else (Res.bind (Res.ok ()) fun x16=>(Res.ok (Ctl.nx x16))))))) (Z3 fun g18=>(Res.bind (Res.bind (Res.ok a_1) fun x20=>(chk (x20.natAbs.log2 < 1920) (Res.ok ()))) fun _=>(Res.err ⟨"NoCrossing", Pay.non⟩)))))
noncomputable def Xu (a_0 : (List Int)) : Res Int:=(Res.bind (Res.bind (Res.ok a_0) fun x6=>(E6 x6 (fun a4=>(Res.bind (Res.ok a4) fun x7=>(Res.bind (Res.ok (0 : Int)) fun x8=>(Res.ok (decide (x7 < x8)))))) (fun a4=>(Res.ok a4)))) fun a1=>(Res.bind (Res.bind (Res.ok a1) fun x10=>(Res.ok (x10.length : Int))) fun x11=>(Res.bind (Res.ok (1 : Int)) fun x12=>(Res.ok (max x11 x12)))))
noncomputable def X7 (a_0 : (List Int)) (a_1 : Int) : Res (List Int):=(Res.bind (Res.bind (Res.ok a_0) fun x4=>(noE (Xu x4))) fun a1=>(Res.bind (Res.ok (0 : Int)) fun a5=>(Res.bind (Res.bind (Res.bind (Res.ok a_1) fun x11=>(Res.bind (Res.ok []) fun x12=>(Res.ok (x11 :: x12)))) fun x10=>(chk (x10.length <= sizeLine) (Res.ok x10))) fun a7=>(Res.bind (Res.bind (Res.ok a_0) fun x15=>(Res.bind (Res.ok none) fun x16=>(Res.bind (Res.bind (Res.bind (Res.ok (1 : Int)) fun x13=>(Res.ok (-x13))) fun x14=>(Res.ok (some x14))) fun x17=>(Res.ok (Uz x15 x16 x17))))) fun x43=>(Res.bind (forN x43 (a5, a7) (fun g20 a22=>(Res.bind (Res.bind (Res.bind (Res.ok a22) fun x24=>(Res.bind (Res.ok (0 : Int)) fun x25=>(Res.ok (decide (x24 < x25))))) fun x26=>(if x26 = true then (Res.bind (Res.ok (1 : Int)) fun x29=>((fun (a31 : Int)=>(Res.ok (a31))) (g20.1 + x29))) else (Res.ok (g20.1)))) fun g33=>(Res.bind (Res.bind (Res.ok a_1) fun x36=>(Res.bind (Res.bind (Res.ok g33) fun x34=>(Res.bind (Res.ok a1) fun x35=>(VB x34 x35))) fun x37=>(Res.ok (x36 + x37)))) fun a38=>(chk (g20.2.length < sizeLine) ((fun a40=>(Res.ok (g33, a40))) (g20.2 ++ [a38]))))))) fun g41=>(Res.ok g41.2))))))
noncomputable def JM (a_0 : ((List (List Int)) × (List (Int × Int)))) : Res (List (List Int)):=(Res.bind (Res.ok []) fun a1=>(Res.bind (Res.ok (0 : Int)) fun a4=>(Res.bind (Res.bind (Res.ok a_0) fun x6=>(Res.ok x6.1)) fun x26=>(Res.bind (forN x26 (a4, a1) (fun g9 a11=>(Res.bind (Res.bind (Res.ok a11) fun x14=>(Res.bind (Res.ok g9.1) fun x15=>(noE (X7 x14 x15)))) fun a16=>(chk (g9.2.length < sizeLine) ((fun a18=>(Res.bind (Res.bind (Res.ok a11) fun x20=>(noE (Xu x20))) fun x21=>((fun (a23 : Int)=>(Res.ok (a23, a18))) (g9.1 + x21)))) (g9.2 ++ [a16])))))) fun g24=>(Res.ok g24.2)))))
noncomputable def YD (a_0 : ((List (List Int)) × (List (Int × Int)))) : Res Int:=(Res.bind (Res.bind (Res.bind (Res.ok a_0) fun x2=>(Res.ok x2.1)) fun x6=>(F6 x6 (fun a4=>(Res.bind (Res.ok a4) fun x8=>(noE (Xu x8)))))) fun x9=>(Res.ok (x9.sum)))
noncomputable def Zw (a_0 : ((List (List Int)) × (List (Int × Int)))) : Res (List (Int × Int × Int × Int × Int)):=(Res.bind (Res.bind (Res.ok a_0) fun x4=>(noE (JM x4))) fun a1=>(Res.bind (Res.ok []) fun a5=>(Res.bind (Res.bind (Res.ok a_0) fun x8=>(Res.ok x8.2)) fun x62=>(Res.bind (forN x62 (a5) (fun g11 a13=>(Res.bind (Res.bind (Res.ok a_0) fun x17=>(Res.bind (Res.ok a13.1) fun x18=>(Ja x17 x18))) fun a15=>(Res.bind (Res.bind (Res.ok a_0) fun x22=>(Res.bind (Res.bind (Res.ok a13.1) fun x21=>(Res.ok (-x21))) fun x23=>(Ja x22 x23))) fun a19=>(Res.bind (Res.bind (Res.bind (Res.ok a1) fun x27=>(Res.bind (Res.bind (Res.ok a15) fun x26=>(Res.ok x26.1)) fun x28=>(atR x27 x28))) fun x30=>(Res.bind (Res.bind (Res.ok a15) fun x29=>(Res.ok x29.2)) fun x31=>(atR x30 x31))) fun a24=>(Res.bind (Res.bind (Res.ok a1) fun x35=>(Res.bind (Res.bind (Res.ok a19) fun x34=>(Res.ok x34.1)) fun x36=>(atR x35 x36))) fun a32=>(Res.bind (Res.bind (Res.ok a32) fun x40=>(Res.bind (Res.bind (Res.ok a19) fun x39=>(Res.ok x39.2)) fun x41=>(atR x40 x41))) fun a37=>(Res.bind (Res.bind (Res.ok a32) fun x50=>(Res.bind (Res.bind (Res.bind (Res.bind (Res.ok a19) fun x44=>(Res.ok x44.2)) fun x45=>(Res.bind (Res.ok (1 : Int)) fun x46=>(Res.ok (x45 + x46)))) fun x48=>(Res.bind (Res.bind (Res.ok a32) fun x47=>(Res.ok (x47.length : Int))) fun x49=>(VB x48 x49))) fun x51=>(atR x50 x51))) fun a42=>(Res.bind (Res.bind (Res.ok a13.1) fun x52=>(Res.bind (Res.ok a13.2) fun x53=>(Res.bind (Res.ok a24) fun x54=>(Res.bind (Res.ok a37) fun x55=>(Res.bind (Res.ok a42) fun x56=>(Res.ok (x52, x53, x54, x55, x56))))))) fun a57=>(chk (g11.length < sizeLine) ((fun a59=>(Res.ok (a59))) (g11 ++ [a57])))))))))))) fun g60=>(Res.ok g60)))))
noncomputable def JK (a_0 : ((List (List Int)) × (List (Int × Int)))) : Res (List (Int × Int × Int)):=(Res.bind (Res.ok []) fun a1=>(Res.bind (Res.bind (Res.ok a_0) fun x4=>(Zw x4)) fun x25=>(Res.bind (forN x25 (a1) (fun g7 a9=>(Res.bind (Res.bind (Res.bind (Res.ok a9.2.1) fun x11=>(Res.bind (Res.ok (1 : Int)) fun x12=>(Res.ok (decide (x11 = x12))))) fun x19=>(if x19 = true then (Res.bind (Res.ok a9.2.2.2.1) fun x13=>(Res.bind (Res.ok a9.2.2.1) fun x14=>(Res.bind (Res.ok a9.2.2.2.2) fun x15=>(Res.ok (x13, x14, x15))))) else (Res.bind (Res.ok a9.2.2.2.2) fun x16=>(Res.bind (Res.ok a9.2.2.1) fun x17=>(Res.bind (Res.ok a9.2.2.2.1) fun x18=>(Res.ok (x16, x17, x18))))))) fun a20=>(chk (g7.length < sizeLine) ((fun a22=>(Res.ok (a22))) (g7 ++ [a20])))))) fun g23=>(Res.ok g23))))
noncomputable def YV (a_0 : (List (List Int))) (a_1 : (List Int)) (a_2 : (List (Int × Int × Int))) : Res Bool:=(Res.bind (Res.bind (Res.ok a_2) fun x5=>(F6 x5 (fun a3=>(Res.bind (Res.bind (Res.bind (Res.ok a_0) fun x8=>(Res.bind (Res.bind (Res.ok a_1) fun x6=>(Res.bind (Res.ok a3.1) fun x7=>(atR x6 x7))) fun x9=>(atR x8 x9))) fun x12=>(Res.bind (Res.bind (Res.ok a_1) fun x10=>(Res.bind (Res.ok a3.2.1) fun x11=>(atR x10 x11))) fun x13=>(atR x12 x13))) fun x16=>(Res.bind (Res.bind (Res.ok a_1) fun x14=>(Res.bind (Res.ok a3.2.2) fun x15=>(atR x14 x15))) fun x17=>(Res.ok (decide (x16 = x17)))))))) fun x18=>(Res.ok (x18.all id)))
noncomputable def XQ (a_0 : Int) (a_1 : Int) : Res Unit:=(Res.bind (Res.ok (1 : Int)) fun a5=>(Res.bind (Res.bind (Res.ok a_1) fun x7=>(VM 0 x7)) fun x24=>(Res.bind (forN x24 (a5) (fun g10 a12=>(Res.bind (Res.ok a_0) fun x14=>(Res.bind (QW g10 x14) fun a16=>(Res.ok (a16)))))) fun g17=>(Res.bind (Res.bind (Res.ok g17) fun x19=>(Res.bind (Res.ok (65536 : Int)) fun x20=>(Res.ok (decide (x20 < x19))))) fun x21=>(if x21 = true then (Res.bind ((Res.bind (Res.bind (Res.ok (65536 : Int)) fun x22=>(chk (x22.natAbs.log2 < 1920) (Res.ok ()))) fun _=>(Res.err ⟨"TooMuch", Pay.non⟩)) : Res Unit) fun _=>Res.bad) else (Res.ok ()))))))
noncomputable def XW (a_0 : (List (List Int))) (a_1 : (List (List Int))) (a_2 : (List (Int × Int × Int))) : Res (List (List Int)):=(Res.bind (Res.ok []) fun a1=>(Res.bind (Res.ok a_0) fun x43=>(Res.bind (forN x43 (a1) (fun g6 a8=>(Res.bind (Res.bind (Res.bind (Res.ok a_1) fun x10=>(Res.ok (x10.length : Int))) fun x11=>(VM 0 x11)) fun x40=>(Res.bind (forN x40 (g6) (fun g14 a16=>(Res.bind (Res.bind (Res.ok a8) fun x21=>(Res.bind (Res.bind (Res.bind (Res.ok a16) fun x24=>(Res.bind (Res.ok []) fun x25=>(Res.ok (x24 :: x25)))) fun x23=>(chk (x23.length <= sizeLine) (Res.ok x23))) fun x22=>(ET x21 x22))) fun a18=>(Res.bind (Res.bind (Res.bind (Res.ok a_1) fun x27=>(Res.bind (Res.ok a18) fun x28=>(Res.bind (Res.ok a_2) fun x29=>(noE (YV x27 x28 x29))))) fun x30=>(if x30 = true then (Res.bind (Res.ok a18) fun a33=>(chk (g14.length < sizeLine) ((fun a35=>(Res.ok (a35))) (g14 ++ [a33])))) else (Res.ok (g14)))) fun g37=>(Res.ok (g37)))))) fun g38=>(Res.ok (g38)))))) fun g41=>(Res.ok g41))))
noncomputable def XF (a_0 : ((List (List Int)) × (List (Int × Int)))) (a_1 : (List (List Int))) : Res (List (List Int)):=(Res.bind (Res.bind (Res.ok a_0) fun x4=>(noE (YD x4))) fun a1=>(Res.bind (Res.bind (Res.bind (Res.ok a_1) fun x5=>(Res.ok (x5.length : Int))) fun x6=>(Res.bind (Res.ok a1) fun x7=>(XQ x6 x7))) fun x8=>(Res.bind (Res.bind (Res.ok a_0) fun x11=>(JK x11)) fun a9=>(Res.bind (Res.bind (Res.bind (Res.ok []) fun x16=>(Res.bind (Res.ok []) fun x17=>(Res.ok (x16 :: x17)))) fun x15=>(chk (x15.length <= sizeLine) (Res.ok x15))) fun a12=>(Res.bind (Res.bind (Res.ok a1) fun x18=>(VM 0 x18)) fun x41=>(Res.bind (forN x41 (a12) (fun g21 a23=>(Res.bind (Res.bind (Res.ok g21) fun x36=>(Res.bind (Res.ok a_1) fun x37=>(Res.bind (Res.bind (Res.ok a9) fun x32=>(E6 x32 (fun a30=>(Res.bind (Res.bind (Res.bind (Res.ok a30) fun x33=>(Res.ok [x33.1, x33.2.1, x33.2.2])) Ia) fun x34=>(Res.bind (Res.ok a23) fun x35=>(Res.ok (decide (x34 = x35)))))) (fun a30=>(Res.ok a30)))) fun x38=>(noE (XW x36 x37 x38))))) fun a25=>(Res.ok (a25))))) fun g39=>(Res.ok g39)))))))
noncomputable def JN (a_0 : ((List (List Int)) × (List (Int × Int)))) (a_1 : (List (List Int))) : Res Int:=(Res.bind (Res.bind (Res.ok a_0) fun x2=>(Res.bind (Res.ok a_1) fun x3=>(XF x2 x3))) fun x4=>(Res.ok (x4.length : Int)))
noncomputable def Jk (a_0 : (List Int)) (a_1 : Int) : Res Int:=(Res.bind (Res.bind (Res.ok a_1) fun x2=>(Res.bind (Res.bind (Res.ok a_0) fun x1=>(Res.ok (x1.length : Int))) fun x3=>(Res.ok (decide (x2 < x3))))) fun x4=>(if x4 = true then (Res.bind (Res.ok a_0) fun x5=>(Res.bind (Res.ok a_1) fun x6=>(atR x5 x6))) else (Res.bind (Res.ok (5 : Int)) fun a7=>(Res.bind (Res.bind (Res.ok a_0) fun x10=>(Res.bind (Res.ok none) fun x11=>(Res.bind (Res.bind (Res.ok (63 : Int)) fun x9=>(Res.ok (some x9))) fun x12=>(Res.ok (Uz x10 x11 x12))))) fun x39=>(Res.bind (forN x39 (a7) (fun g15 a17=>(Res.bind (Res.bind (Res.bind (Res.bind (Res.bind (Res.ok g15) fun x21=>(Res.bind (Res.ok (48271 : Int)) fun x22=>(QW x21 x22))) fun x25=>(Res.bind (Res.bind (Res.ok a17) fun x23=>(Res.bind (Res.ok (1000003 : Int)) fun x24=>(VB x23 x24))) fun x26=>(Res.ok (x25 + x26)))) fun x27=>(Res.bind (Res.ok (1 : Int)) fun x28=>(Res.ok (x27 + x28)))) fun x29=>(Res.bind (Res.ok (2147483647 : Int)) fun x30=>(VB x29 x30))) fun a19=>(Res.ok (a19))))) fun g31=>(Res.bind (Res.bind (Res.ok g31) fun x35=>(Res.bind (Res.bind (Res.ok (7919 : Int)) fun x33=>(Res.bind (Res.ok a_1) fun x34=>(QW x33 x34))) fun x36=>(Res.ok (x35 + x36)))) fun x37=>(Res.bind (Res.ok (1000003 : Int)) fun x38=>(VB x37 x38))))))))
noncomputable def UA (a_0 : Int) (a_1 : Int) : Res Int:=(Res.bind (Res.bind (Res.bind (Res.bind (Res.bind (Res.bind (Res.ok a_0) fun x3=>(Res.bind (Res.ok (2147483629 : Int)) fun x4=>(VB x3 x4))) fun x7=>(Res.bind (Res.bind (Res.ok (1013 : Int)) fun x5=>(Res.bind (Res.ok a_1) fun x6=>(QW x5 x6))) fun x8=>(Res.ok (x7 + x8)))) fun x9=>(Res.bind (Res.ok (7919 : Int)) fun x10=>(Res.ok (x9 + x10)))) fun x11=>(Res.bind (Res.ok (3 : Int)) fun x12=>(HP x11 x12))) fun x13=>(Res.bind (Res.ok (2147483647 : Int)) fun x14=>(VB x13 x14))) fun a1=>(Res.bind (Res.bind (Res.bind (Res.bind (Res.bind (Res.ok a1) fun x17=>(Res.bind (Res.ok (40699 : Int)) fun x18=>(QW x17 x18))) fun x23=>(Res.bind (Res.bind (Res.bind (Res.ok (3793 : Int)) fun x19=>(Res.bind (Res.ok a_1) fun x20=>(QW x19 x20))) fun x21=>(Res.bind (Res.ok a_1) fun x22=>(QW x21 x22))) fun x24=>(Res.ok (x23 + x24)))) fun x25=>(Res.bind (Res.ok (11 : Int)) fun x26=>(Res.ok (x25 + x26)))) fun x27=>(Res.bind (Res.ok (2147483399 : Int)) fun x28=>(VB x27 x28))) fun a15=>(Res.bind (Res.ok a15) fun x29=>(Res.bind (Res.ok (101 : Int)) fun x30=>(Hc x29 x30)))))
noncomputable def UG (a_0 : (List Int)) (a_1 : Int) (a_2 : (List Int)) : Res (List Int):=(Res.bind (Res.bind (Res.ok a_0) fun x4=>(Res.bind (Res.ok a_1) fun x5=>(noE (Jk x4 x5)))) fun a1=>(Res.bind (Res.ok a1) fun a6=>(Res.bind (Res.ok []) fun a8=>(Res.bind (Res.bind (Res.bind (Res.ok a_2) fun x11=>(Res.ok (x11.length : Int))) fun x12=>(VM 0 x12)) fun x81=>(Res.bind (forN x81 (a8, a6) (fun g15 a17=>(Res.bind (Res.bind (Res.bind (Res.ok a1) fun x21=>(Res.bind (Res.bind (Res.ok (10 : Int)) fun x19=>(Res.bind (Res.ok (18 : Int)) fun x20=>(HP x19 x20))) fun x22=>(Res.ok (decide (x21 < x22))))) fun x23=>(if x23 = true then (Res.bind (Res.bind (Res.bind (Res.ok a1) fun x27=>(Res.bind (Res.ok a17) fun x28=>(noE (UA x27 x28)))) fun x31=>(Res.bind (Res.bind (Res.ok a_2) fun x29=>(Res.bind (Res.ok a17) fun x30=>(atR x29 x30))) fun x32=>(VB x31 x32))) fun a33=>(chk (g15.1.length < sizeLine) ((fun a35=>(Res.ok (a35, g15.2))) (g15.1 ++ [a33])))) else (Res.bind (Res.bind (Res.bind (Res.ok g15.2) fun x36=>(Res.bind (Res.ok (0 : Int)) fun x37=>(Res.ok (decide (x37 < x36))))) fun x38=>(if x38 = true then (Res.bind (Res.bind (Res.ok g15.2) fun x43=>(Res.bind (Res.bind (Res.ok a_2) fun x41=>(Res.bind (Res.ok a17) fun x42=>(atR x41 x42))) fun x44=>(VB x43 x44))) fun a45=>(chk (g15.1.length < sizeLine) ((fun a47=>(Res.bind (Res.bind (Res.ok g15.2) fun x52=>(Res.bind (Res.bind (Res.ok a_2) fun x50=>(Res.bind (Res.ok a17) fun x51=>(atR x50 x51))) fun x53=>(Hc x52 x53))) fun a48=>(Res.ok (a48, a47)))) (g15.1 ++ [a45])))) else (Res.bind (Res.bind (Res.ok a_0) fun x63=>(Res.bind (Res.bind (Res.bind (Res.bind (Res.ok a_1) fun x57=>(Res.bind (Res.ok (1 : Int)) fun x58=>(Res.ok (x57 + x58)))) fun x59=>(Res.bind (Res.ok a17) fun x60=>(Res.ok (x59 + x60)))) fun x61=>(Res.bind (Res.ok (63 : Int)) fun x62=>(VB x61 x62))) fun x64=>(noE (Jk x63 x64)))) fun a54=>(Res.bind (Res.bind (Res.bind (Res.ok a54) fun x66=>(Res.bind (Res.ok a17) fun x67=>(noE (UA x66 x67)))) fun x70=>(Res.bind (Res.bind (Res.ok a_2) fun x68=>(Res.bind (Res.ok a17) fun x69=>(atR x68 x69))) fun x71=>(VB x70 x71))) fun a72=>(chk (g15.1.length < sizeLine) ((fun a74=>(Res.ok (g15.2, a74))) (g15.1 ++ [a72]))))))) fun g76=>(Res.ok (g76.2, g76.1))))) fun g78=>(Res.ok (g78.1, g78.2))))) fun g79=>(Res.ok g79.1))))))
noncomputable def YF (a_0 : Int) : Res Bool:=(Gd (Res.bind (Res.ok a_0) fun x1=>(Res.ok true)) (Res.bind (Res.bind (Res.ok a_0) fun x2=>(Res.ok false)) fun x3=>(Res.ok (!x3))))
noncomputable def YH (a_0 : (List Int)) : Res Bool:=(Res.bind (Res.bind (Res.bind (Res.ok a_0) fun x1=>(Res.ok true)) fun x2=>(Res.ok (!x2))) fun x3=>(if x3 = true then (Res.ok false) else (Res.bind (Res.ok a_0) fun x18=>(Res.bind (forC x18 () (fun g6 a8=>(Res.bind (Res.bind (Res.bind (Res.ok a8) fun x11=>(noE (YF x11))) fun x12=>(Res.ok (!x12))) fun x13=>(if x13 = true then (Res.bind (Res.ok false) fun x15=>(Res.ok (Ctl.ret x15))) else (Res.bind (Res.ok ()) fun x14=>(Res.ok (Ctl.nx x14))))))) (Z3 fun g16=>(Res.ok true))))))
noncomputable def Zf (a_0 : (List Int)) (a_1 : Int) : Res (List Int):=(Res.bind (Res.bind (Res.ok a_1) fun x4=>(chk (0 <= x4 /\ x4 <= 1000) (Res.ok (Zi 0 x4)))) fun a1=>(Res.bind (Res.ok []) fun a5=>(Res.bind (Res.bind (Res.ok a_1) fun x8=>(VM 0 x8)) fun x29=>(Res.bind (forN x29 (a5, a1) (fun g11 a13=>(Res.bind (Res.bind (Res.bind (Res.ok a_0) fun x15=>(Res.bind (Res.ok a13) fun x16=>(atR x15 x16))) fun x18=>(Res.bind (Res.bind (Res.ok g11.2) fun x17=>(Res.ok (x17.length : Int))) fun x19=>(VB x18 x19))) fun x25=>(Res.bind (DU g11.2 x25) fun p26=>(chk (g11.1.length < sizeLine) ((fun a21 a22=>(Res.ok (a22, a21))) p26.2 (g11.1 ++ [p26.1]))))))) fun g27=>(Res.ok g27.1)))))
noncomputable def ZK (a_0 : (List (List Int))) (a_1 : (List Int)) : Res (List (List Int)):=(Res.bind (Res.bind (Res.ok a_0) fun x7=>(F6 x7 (fun a5=>(Res.bind (Res.ok a5) fun x8=>(Res.ok x8))))) fun a1=>(Res.bind (Res.bind (Res.bind (Res.ok a_0) fun x9=>(Res.ok (x9.length : Int))) fun x10=>(VM 0 x10)) fun x47=>(Res.bind (forN x47 (a1) (fun g13 a15=>(Res.bind (Res.bind (Res.bind (Res.ok a_0) fun x17=>(Res.ok (x17.length : Int))) fun x18=>(VM 0 x18)) fun x44=>(Res.bind (forN x44 (g13) (fun g21 a23=>(Res.bind (Res.bind (Res.ok a_1) fun x29=>(Res.bind (Res.bind (Res.bind (Res.ok a_0) fun x25=>(Res.bind (Res.ok a15) fun x26=>(atR x25 x26))) fun x27=>(Res.bind (Res.ok a23) fun x28=>(atR x27 x28))) fun x30=>(atR x29 x30))) fun x35=>(Res.bind (Res.bind (Res.ok a_1) fun x31=>(Res.bind (Res.ok a15) fun x32=>(atR x31 x32))) fun x36=>(Res.bind (atR g21 x36) fun x40=>(Res.bind (Res.bind (Res.ok a_1) fun x33=>(Res.bind (Res.ok a23) fun x34=>(atR x33 x34))) fun x37=>(Res.bind (Ux x40 x37 x35) fun x41=>(Res.bind (Ux g21 x36 x41) fun a38=>(Res.ok (a38)))))))))) fun g42=>(Res.ok (g42)))))) fun g45=>(Res.ok g45))))
noncomputable def JH (a_0 : ((List (List Int)) × (List (Int × Int)))) : Res ((List (List Int)) × (List (Int × Int))):=(Res.bind (Res.bind (Res.bind (Res.ok a_0) fun x1=>(Res.ok x1.1)) fun x5=>(F6 x5 (fun a3=>(Res.bind (Res.ok a3) fun x6=>(Res.ok x6))))) fun x9=>(Res.bind (Res.bind (Res.bind (Res.ok a_0) fun x8=>(Res.ok x8.2)) fun x7=>(Res.ok x7)) fun x10=>(Res.ok (x9, x10))))
noncomputable def J0 (a_0 : Int) (a_1 : Int) (a_2 : (List Int)) : Res ((List (List Int)) × (List (Int × Int))):=(Res.bind (Res.ok []) fun a1=>(Res.bind (Res.ok []) fun a4=>(Res.bind (Res.bind (Res.ok a_0) fun x7=>(VM 0 x7)) fun x85=>(Res.bind (forN x85 (a4, a1) (fun g10 a12=>(Res.bind (Res.bind (Res.ok a12) fun x16=>(Res.bind (Res.ok (1 : Int)) fun x17=>(Res.ok (x16 + x17)))) fun a14=>(Res.bind (Res.bind (Res.ok a14) fun x26=>(Res.bind (Res.bind (Res.bind (Res.ok (2 : Int)) fun x22=>(Res.bind (Res.bind (Res.ok a_2) fun x20=>(Res.bind (Res.bind (Res.ok (2 : Int)) fun x18=>(Res.bind (Res.ok a12) fun x19=>(QW x18 x19))) fun x21=>(atR x20 x21))) fun x23=>(QW x22 x23))) fun x24=>(Res.bind (Res.ok (1 : Int)) fun x25=>(Res.ok (x24 - x25)))) fun x27=>(Res.ok (x26, x27)))) fun a28=>(chk (g10.1.length < sizeLine) ((fun a30=>(Res.bind (Res.bind (Res.bind (Res.bind (Res.ok a_2) fun x35=>(Res.bind (Res.bind (Res.bind (Res.ok (2 : Int)) fun x31=>(Res.bind (Res.ok a12) fun x32=>(QW x31 x32))) fun x33=>(Res.bind (Res.ok (1 : Int)) fun x34=>(Res.ok (x33 + x34)))) fun x36=>(atR x35 x36))) fun x37=>(Res.bind (Res.ok (0 : Int)) fun x38=>(Res.ok (decide (x37 = x38))))) fun x39=>(if x39 = true then (Res.bind (Res.bind (Res.bind (Res.ok a14) fun x46=>(Res.bind (Res.bind (Res.bind (Res.ok a14) fun x43=>(Res.ok (-x43))) fun x44=>(Res.bind (Res.ok []) fun x45=>(Res.ok (x44 :: x45)))) fun x47=>(Res.ok (x46 :: x47)))) fun x42=>(chk (x42.length <= sizeLine) (Res.ok x42))) fun a48=>(chk (g10.2.length + a48.length <= sizeLine) ((fun a50=>(Res.ok (a50))) (g10.2 ++ a48)))) else (Res.bind (Res.bind (Res.bind (Res.bind (Res.ok a14) fun x52=>(Res.ok (-x52))) fun x55=>(Res.bind (Res.bind (Res.ok a14) fun x53=>(Res.bind (Res.ok []) fun x54=>(Res.ok (x53 :: x54)))) fun x56=>(Res.ok (x55 :: x56)))) fun x51=>(chk (x51.length <= sizeLine) (Res.ok x51))) fun a57=>(chk (g10.2.length + a57.length <= sizeLine) ((fun a59=>(Res.ok (a59))) (g10.2 ++ a57)))))) fun g61=>(Res.ok (a30, g61)))) (g10.1 ++ [a28]))))))) fun g62=>(Res.bind (Res.bind (Res.bind (Res.ok g62.2) fun x68=>(Res.bind (Res.ok []) fun x69=>(Res.ok (x68 :: x69)))) fun x67=>(chk (x67.length <= sizeLine) (Res.ok x67))) fun a64=>(Res.bind (Res.bind (Res.ok a_1) fun x70=>(VM 0 x70)) fun x84=>(Res.bind (forN x84 (a64) (fun g73 a75=>(Res.bind (Res.ok []) fun a77=>(chk (g73.length < sizeLine) ((fun a79=>(Res.ok (a79))) (g73 ++ [a77])))))) fun g80=>(Res.bind (Res.ok g80) fun x82=>(Res.bind (Res.ok g62.1) fun x83=>(Res.ok (x82, x83)))))))))))
noncomputable def Yi (a_0 : Int) (a_1 : Int) (a_2 : (List Int)) : Res (List (List Int)):=(Res.bind (Res.bind (Res.ok (1 : Int)) fun x5=>(Res.bind (Res.bind (Res.ok (2 : Int)) fun x3=>(Res.bind (Res.ok a_1) fun x4=>(QW x3 x4))) fun x6=>(Res.ok (x5 - x6)))) fun a1=>(Res.bind (Res.ok []) fun a7=>(Res.bind (Res.bind (Res.ok a_0) fun x10=>(VM 0 x10)) fun x43=>(Res.bind (forN x43 (a7) (fun g13 a15=>(Res.bind (Res.bind (Res.bind (Res.ok a_0) fun x17=>(VM 0 x17)) fun x21=>(F6 x21 (fun a19=>(Res.bind (Res.bind (Res.bind (Res.ok a1) fun x22=>(Res.bind (Res.ok a15) fun x23=>(QW x22 x23))) fun x28=>(Res.bind (Res.bind (Res.bind (Res.ok (1 : Int)) fun x24=>(Res.bind (Res.ok a1) fun x25=>(Res.ok (x24 - x25)))) fun x26=>(Res.bind (Res.ok a19) fun x27=>(QW x26 x27))) fun x29=>(Res.ok (x28 + x29)))) fun x30=>(Res.bind (Res.ok a_0) fun x31=>(VB x30 x31)))))) fun a32=>(chk (g13.length < sizeLine) ((fun a34=>(Res.ok (a34))) (g13 ++ [a32])))))) fun g35=>(Res.bind (Res.ok g35) fun x41=>(Res.bind (Res.bind (Res.ok a_2) fun x39=>(Res.bind (Res.ok a_0) fun x40=>(noE (Zf x39 x40)))) fun x42=>(noE (ZK x41 x42))))))))
noncomputable def Zt (a_0 : Int) (a_1 : Int) : Res Int:=(Res.bind (Res.ok (1 : Int)) fun a1=>(Res.bind (Res.bind (Res.ok a_1) fun x3=>(VM 0 x3)) fun x16=>(Res.bind (forN x16 (a1) (fun g6 a8=>(Res.bind (Res.bind (Res.ok g6) fun x12=>(Res.bind (Res.ok a_0) fun x13=>(QW x12 x13))) fun a10=>(Res.ok (a10))))) fun g14=>(Res.ok g14))))
noncomputable def X0 (a_0 : ((List (List Int)) × (List (Int × Int)))) (a_1 : (List (List Int))) : Res (Str ⊕ Int):=(Res.tryC (Res.bind (Res.bind (Res.ok a_0) fun x7=>(Res.bind (Res.ok a_1) fun x8=>(JN x7 x8))) fun x9=>(Res.ok (Sum.inr x9))) Res.ok (fun x1=>(chk (cau Xy x1.cls "TooMuch" = true) (Res.bind (Res.bind (Gd (Res.ok (YO x1.cls "PlaitError")) (Res.bind (Res.ok (YO x1.cls "TooBig")) fun x2=>(Res.ok (!x2)))) fun x3=>(if x3 = true then (Res.bind (Res.bind (Res.ok ("refused" : Str)) fun x4=>(Res.ok (Sum.inl x4))) fun x5=>(Res.ok (Ctl.ret x5))) else (Res.ok (Ctl.nx ())))) (Z3 fun _=>(Res.bind (Res.ok ("strange" : Str)) fun x6=>(Res.ok (Sum.inl x6))))))))
noncomputable def Yf (a_0 : ((List (List Int)) × (List (Int × Int)))) (a_1 : (List (List Int))) : Res (Str ⊕ (List (List Int))):=(Res.tryC (Res.bind (Res.bind (Res.ok a_0) fun x7=>(Res.bind (Res.ok a_1) fun x8=>(XF x7 x8))) fun x9=>(Res.ok (Sum.inr x9))) Res.ok (fun x1=>(chk (cau Xy x1.cls "TooMuch" = true) (Res.bind (Res.bind (Gd (Res.ok (YO x1.cls "PlaitError")) (Res.bind (Res.ok (YO x1.cls "TooBig")) fun x2=>(Res.ok (!x2)))) fun x3=>(if x3 = true then (Res.bind (Res.bind (Res.ok ("refused" : Str)) fun x4=>(Res.ok (Sum.inl x4))) fun x5=>(Res.ok (Ctl.ret x5))) else (Res.ok (Ctl.nx ())))) (Z3 fun _=>(Res.bind (Res.ok ("strange" : Str)) fun x6=>(Res.ok (Sum.inl x6))))))))
noncomputable def Qo (a_0 : (List (List Int))) (a_1 : Int) (a_2 : Int) (a_3 : Int) : Res Bool:=(Res.bind (orR (Res.bind (Res.bind (Res.ok a_0) fun x1=>(Res.ok true)) fun x2=>(Res.ok (!x2))) (Res.bind (Res.bind (Res.ok a_0) fun x3=>(Res.ok (x3.length : Int))) fun x9=>(Res.bind (Res.bind (Res.ok a_1) fun x7=>(Res.bind (Res.bind (Res.ok a_3) fun x5=>(Res.bind (Res.ok (1 : Int)) fun x6=>(Res.ok (x5 + x6)))) fun x8=>(noE (Zt x7 x8)))) fun x10=>(Res.ok (!(decide (x9 = x10))))))) fun x11=>(if x11 = true then (Res.ok false) else (Res.bind (Res.ok a_0) fun x91=>(Res.bind (forC x91 () (fun g14 a16=>(Res.bind (orR (Res.bind (Res.bind (Res.ok a16) fun x19=>(noE (YH x19))) fun x20=>(Res.ok (!x20))) (Res.bind (Res.bind (Res.ok a16) fun x21=>(Res.ok (x21.length : Int))) fun x24=>(Res.bind (Res.bind (Res.ok a_2) fun x22=>(Res.bind (Res.ok a_3) fun x23=>(Res.ok (x22 + x23)))) fun x25=>(Res.ok (!(decide (x24 = x25))))))) fun x26=>(if x26 = true then (Res.bind (Res.ok false) fun x64=>(Res.ok (Ctl.ret x64))) else (Res.bind (Res.bind (Res.ok a16) fun x28=>(Res.bind (Res.ok none) fun x29=>(Res.bind (Res.bind (Res.ok a_2) fun x27=>(Res.ok (some x27))) fun x30=>(Res.ok (Uz x28 x29 x30))))) fun x63=>(Res.bind (forC x63 () (fun g33 a35=>(Res.bind (Res.bind (Res.ok a35) fun x39=>(Res.bind (Res.bind (Res.ok a16) fun x37=>(Res.bind (Res.ok (0 : Int)) fun x38=>(atR x37 x38))) fun x40=>(Res.ok (!(decide (x39 = x40)))))) fun x41=>(if x41 = true then (Res.bind (Res.ok false) fun x43=>(Res.ok (Ctl.ret x43))) else (Res.bind (Res.ok ()) fun x42=>(Res.ok (Ctl.nx x42))))))) (QK fun g44=>(Res.bind (Res.ok a16) fun x62=>(Res.bind (forC x62 () (fun g48 a50=>(Res.bind (orR (Res.bind (Res.ok a50) fun x52=>(Res.bind (Res.ok (0 : Int)) fun x53=>(Res.ok (decide (x52 < x53))))) (Res.bind (Res.ok a50) fun x54=>(Res.bind (Res.ok a_1) fun x55=>(Res.ok (decide (x55 <= x54)))))) fun x56=>(if x56 = true then (Res.bind (Res.ok false) fun x58=>(Res.ok (Ctl.ret x58))) else (Res.bind (Res.ok ()) fun x57=>(Res.ok (Ctl.nx x57))))))) (QK fun g59=>(Res.bind (Res.ok ()) fun x61=>(Res.ok (Ctl.nx x61))))))))))))) (Z3 fun g65=>(Res.bind (Res.bind (Res.ok (1 : Int)) fun x68=>(Res.bind (Res.bind (Res.ok a_0) fun x67=>(Res.ok (x67.length : Int))) fun x69=>(VM x68 x69))) fun x90=>(Res.bind (forC x90 () (fun g72 a74=>(Res.bind (Res.bind (Res.bind (Res.bind (Res.ok a_0) fun x78=>(Res.bind (Res.bind (Res.ok a74) fun x76=>(Res.bind (Res.ok (1 : Int)) fun x77=>(Res.ok (x76 - x77)))) fun x79=>(atR x78 x79))) fun x82=>(Res.bind (Res.bind (Res.ok a_0) fun x80=>(Res.bind (Res.ok a74) fun x81=>(atR x80 x81))) fun x83=>(Res.ok (ltL x82 x83)))) fun x84=>(Res.ok (!x84))) fun x85=>(if x85 = true then (Res.bind (Res.ok false) fun x87=>(Res.ok (Ctl.ret x87))) else (Res.bind (Res.ok ()) fun x86=>(Res.ok (Ctl.nx x86))))))) (Z3 fun g88=>(Res.ok true)))))))))
noncomputable def UH (a_0 : (List Int)) : Res Bool:=(Res.bind (Res.bind (Res.ok a_0) fun x28=>(Res.bind (Res.ok (0 : Int)) fun x29=>(Res.bind (Res.bind (Res.bind (Res.bind (Res.ok (41 : Int)) fun x19=>(Res.bind (Res.bind (Res.ok (20 : Int)) fun x17=>(Res.bind (Res.bind (Res.ok (12 : Int)) fun x15=>(Res.bind (Res.bind (Res.ok (2 : Int)) fun x13=>(Res.bind (Res.bind (Res.ok (4 : Int)) fun x11=>(Res.bind (Res.bind (Res.ok (6 : Int)) fun x9=>(Res.bind (Res.bind (Res.ok (8 : Int)) fun x7=>(Res.bind (Res.ok []) fun x8=>(Res.ok (x7 :: x8)))) fun x10=>(Res.ok (x9 :: x10)))) fun x12=>(Res.ok (x11 :: x12)))) fun x14=>(Res.ok (x13 :: x14)))) fun x16=>(Res.ok (x15 :: x16)))) fun x18=>(Res.ok (x17 :: x18)))) fun x20=>(Res.ok (x19 :: x20)))) fun x6=>(chk (x6.length <= sizeLine) (Res.ok x6))) fun x4=>(Res.bind (Res.bind (Res.bind (Res.bind (Res.ok (2 : Int)) fun x26=>(Res.bind (Res.bind (Res.ok (2 : Int)) fun x24=>(Res.bind (Res.ok []) fun x25=>(Res.ok (x24 :: x25)))) fun x27=>(Res.ok (x26 :: x27)))) fun x23=>(chk (x23.length <= sizeLine) (Res.ok x23))) fun x21=>(Res.bind (Res.ok (40 : Int)) fun x22=>(Hs x21 x22))) fun x5=>(ET x4 x5))) fun x30=>(noE (UG x28 x29 x30))))) fun a1=>(Res.bind (Res.bind (Res.ok a_0) fun x39=>(Res.bind (Res.ok (1 : Int)) fun x40=>(Res.bind (Res.bind (Res.bind (Res.bind (Res.ok (24 : Int)) fun x37=>(Res.bind (Res.ok []) fun x38=>(Res.ok (x37 :: x38)))) fun x36=>(chk (x36.length <= sizeLine) (Res.ok x36))) fun x34=>(Res.bind (Res.ok (24 : Int)) fun x35=>(Hs x34 x35))) fun x41=>(noE (UG x39 x40 x41))))) fun a31=>(Res.bind (Res.bind (Res.ok (0 : Int)) fun x48=>(Res.bind (Res.bind (Res.bind (Res.ok a1) fun x44=>(Res.bind (Res.ok (1 : Int)) fun x45=>(atR x44 x45))) fun x46=>(Res.bind (Res.ok (8 : Int)) fun x47=>(Res.ok (x46 - x47)))) fun x49=>(Res.ok (max x48 x49)))) fun a42=>(Res.bind (Res.bind (Res.ok a1) fun x52=>(Res.bind (Res.ok (0 : Int)) fun x53=>(atR x52 x53))) fun a50=>(Res.bind (Res.bind (Res.bind (Res.bind (Res.ok (1 : Int)) fun x79=>(Res.bind (Res.bind (Res.ok (2 : Int)) fun x77=>(Res.bind (Res.bind (Res.ok (3 : Int)) fun x75=>(Res.bind (Res.bind (Res.ok (4 : Int)) fun x73=>(Res.bind (Res.bind (Res.ok (5 : Int)) fun x71=>(Res.bind (Res.bind (Res.ok (7 : Int)) fun x69=>(Res.bind (Res.bind (Res.ok (9 : Int)) fun x67=>(Res.bind (Res.bind (Res.ok (11 : Int)) fun x65=>(Res.bind (Res.bind (Res.ok (15 : Int)) fun x63=>(Res.bind (Res.bind (Res.ok (16 : Int)) fun x61=>(Res.bind (Res.bind (Res.ok (21 : Int)) fun x59=>(Res.bind (Res.bind (Res.ok (24 : Int)) fun x57=>(Res.bind (Res.ok []) fun x58=>(Res.ok (x57 :: x58)))) fun x60=>(Res.ok (x59 :: x60)))) fun x62=>(Res.ok (x61 :: x62)))) fun x64=>(Res.ok (x63 :: x64)))) fun x66=>(Res.ok (x65 :: x66)))) fun x68=>(Res.ok (x67 :: x68)))) fun x70=>(Res.ok (x69 :: x70)))) fun x72=>(Res.ok (x71 :: x72)))) fun x74=>(Res.ok (x73 :: x74)))) fun x76=>(Res.ok (x75 :: x76)))) fun x78=>(Res.ok (x77 :: x78)))) fun x80=>(Res.ok (x79 :: x80)))) fun x56=>(chk (x56.length <= sizeLine) (Res.ok x56))) fun x83=>(Res.bind (Res.bind (Res.ok a1) fun x81=>(Res.bind (Res.ok (2 : Int)) fun x82=>(atR x81 x82))) fun x84=>(atR x83 x84))) fun a54=>(Res.bind (Res.bind (Res.bind (Res.bind (Res.ok a1) fun x85=>(Res.bind (Res.ok (5 : Int)) fun x86=>(atR x85 x86))) fun x87=>(Res.bind (Res.ok (0 : Int)) fun x88=>(Res.ok (decide (x87 = x88))))) fun x89=>(if x89 = true then (Res.bind (Res.ok (0 : Int)) fun a92=>(Res.bind (Res.bind (Res.bind (Res.bind (Res.ok (16 : Int)) fun x97=>(Res.bind (Res.ok (2 : Int)) fun x98=>(Res.ok (x97, x98)))) fun x127=>(Res.bind (Res.bind (Res.bind (Res.ok (8 : Int)) fun x99=>(Res.bind (Res.ok (4 : Int)) fun x100=>(Res.ok (x99, x100)))) fun x125=>(Res.bind (Res.bind (Res.bind (Res.ok (4 : Int)) fun x101=>(Res.bind (Res.ok (16 : Int)) fun x102=>(Res.ok (x101, x102)))) fun x123=>(Res.bind (Res.bind (Res.bind (Res.ok (17 : Int)) fun x103=>(Res.bind (Res.ok (2 : Int)) fun x104=>(Res.ok (x103, x104)))) fun x121=>(Res.bind (Res.bind (Res.bind (Res.ok (9 : Int)) fun x105=>(Res.bind (Res.ok (4 : Int)) fun x106=>(Res.ok (x105, x106)))) fun x119=>(Res.bind (Res.bind (Res.bind (Res.ok (5 : Int)) fun x107=>(Res.bind (Res.ok (16 : Int)) fun x108=>(Res.ok (x107, x108)))) fun x117=>(Res.bind (Res.bind (Res.bind (Res.ok (10 : Int)) fun x109=>(Res.bind (Res.ok (3 : Int)) fun x110=>(Res.ok (x109, x110)))) fun x115=>(Res.bind (Res.bind (Res.bind (Res.ok (11 : Int)) fun x111=>(Res.bind (Res.ok (3 : Int)) fun x112=>(Res.ok (x111, x112)))) fun x113=>(Res.bind (Res.ok []) fun x114=>(Res.ok (x113 :: x114)))) fun x116=>(Res.ok (x115 :: x116)))) fun x118=>(Res.ok (x117 :: x118)))) fun x120=>(Res.ok (x119 :: x120)))) fun x122=>(Res.ok (x121 :: x122)))) fun x124=>(Res.ok (x123 :: x124)))) fun x126=>(Res.ok (x125 :: x126)))) fun x128=>(Res.ok (x127 :: x128)))) fun x96=>(chk (x96.length <= sizeLine) (Res.ok x96))) fun a94=>(Res.bind (Res.bind (Res.ok a94) fun x131=>(Res.bind (Res.bind (Res.ok a1) fun x129=>(Res.bind (Res.ok (6 : Int)) fun x130=>(atR x129 x130))) fun x132=>(atR x131 x132))) fun a133=>(Res.ok (a92, a133.1, a133.2))))) else (Res.ok (a42, a50, a54)))) fun g137=>(Res.bind (Res.bind (Res.ok g137.2.1) fun x145=>(Res.bind (Res.ok g137.1) fun x146=>(Res.bind (Res.bind (Res.ok a1) fun x142=>(Res.bind (Res.bind (Res.ok (7 : Int)) fun x141=>(Res.ok (some x141))) fun x143=>(Res.bind (Res.ok none) fun x144=>(Res.ok (Uz x142 x143 x144))))) fun x147=>(noE (J0 x145 x146 x147))))) fun a138=>(Res.bind (Res.bind (Res.ok g137.2.2) fun x153=>(Res.bind (Res.bind (Res.ok a1) fun x151=>(Res.bind (Res.ok (3 : Int)) fun x152=>(atR x151 x152))) fun x154=>(Res.bind (Res.ok a31) fun x155=>(noE (Yi x153 x154 x155))))) fun a148=>(Res.bind (Res.bind (Res.bind (Res.ok (1 : Int)) fun x158=>(Res.bind (Res.ok g137.2.1) fun x159=>(Res.ok (max x158 x159)))) fun x160=>(Res.bind (Res.ok g137.1) fun x161=>(Res.ok (x160 + x161)))) fun a156=>(Res.bind (Res.bind (Res.ok g137.2.2) fun x165=>(Res.bind (Res.ok a156) fun x166=>(noE (Zt x165 x166)))) fun a162=>(Res.bind (Gd (Res.bind (Res.bind (Res.ok a1) fun x167=>(Res.bind (Res.ok (5 : Int)) fun x168=>(atR x167 x168))) fun x169=>(Res.bind (Res.ok (0 : Int)) fun x170=>(Res.ok (decide (x170 < x169))))) (Gd (Res.bind (Res.ok (5000 : Int)) fun x171=>(Res.bind (Res.ok a162) fun x172=>(if (decide (x171 < x172)) = true then (Res.bind (Res.ok (65536 : Int)) fun x173=>(Res.ok (decide (x172 <= x173)))) else Res.ok false))) (orR (Res.bind (Res.ok g137.1) fun x174=>(Res.bind (Res.ok (0 : Int)) fun x175=>(Res.ok (decide (x175 < x174))))) (Res.bind (Res.bind (Res.ok a1) fun x176=>(Res.bind (Res.ok (4 : Int)) fun x177=>(atR x176 x177))) fun x178=>(Res.bind (Res.ok (0 : Int)) fun x179=>(Res.ok (decide (x179 < x178)))))))) fun x180=>(if x180 = true then (Res.ok true) else (Res.bind (Res.bind (Res.ok a138) fun x182=>(noE (JH x182))) fun a188=>(Res.bind (Res.bind (Res.ok a148) fun x186=>(F6 x186 (fun a184=>(Res.bind (Res.ok a184) fun x187=>(Res.ok x187))))) fun a189=>(Res.bind (Res.bind (Res.ok a188) fun x195=>(Res.bind (Res.ok a189) fun x196=>(noE (X0 x195 x196)))) fun a192=>(Res.bind (Res.bind (Res.ok a188) fun x200=>(Res.bind (Res.ok a189) fun x201=>(noE (Yf x200 x201)))) fun a197=>(Res.bind (orR (Res.bind (Res.ok a188) fun x202=>(Res.bind (Res.ok a138) fun x203=>(Res.ok (!(decide (x202 = x203)))))) (Res.bind (Res.ok a189) fun x204=>(Res.bind (Res.ok a148) fun x205=>(Res.ok (!(decide (x204 = x205))))))) fun x206=>(if x206 = true then (Res.ok false) else (Res.bind (Res.bind (Res.ok a162) fun x207=>(Res.bind (Res.ok (65536 : Int)) fun x208=>(Res.ok (decide (x208 < x207))))) fun x209=>(if x209 = true then (Gd (Res.bind (Res.ok a192) fun x210=>(Res.bind (Res.bind (Res.ok ("refused" : Str)) fun x212=>(Res.ok (Sum.inl x212 : (Str ⊕ Int)))) fun x211=>(Res.ok (decide (x210 = x211))))) (Res.bind (Res.ok a197) fun x213=>(Res.bind (Res.bind (Res.ok ("refused" : Str)) fun x215=>(Res.ok (Sum.inl x215 : (Str ⊕ (List (List Int)))))) fun x214=>(Res.ok (decide (x213 = x214)))))) else (Res.bind (getR a192) fun a216=>(Res.bind (orR (Res.bind (Res.bind (Res.ok a216) fun x218=>(noE (YF x218))) fun x219=>(Res.ok (!x219))) (Res.bind (Res.bind (Res.ok a216) fun x227=>(Res.ok (Sum.inr x227 : (Str ⊕ Int)))) fun x225=>(Res.bind (Res.bind (Res.bind (Res.ok g137.2.2) fun x223=>(Res.bind (Res.bind (Res.ok g137.1) fun x221=>(Res.bind (Res.ok (1 : Int)) fun x222=>(Res.ok (x221 + x222)))) fun x224=>(noE (Zt x223 x224)))) fun x228=>(Res.ok (Sum.inr x228 : (Str ⊕ Int)))) fun x226=>(Res.ok (!(decide (x225 = x226))))))) fun x229=>(if x229 = true then (Res.ok false) else (Res.bind (getR a197) fun a230=>(Res.bind (Res.ok a230) fun x234=>(Res.bind (Res.ok g137.2.2) fun x235=>(Res.bind (Res.bind (Res.ok (1 : Int)) fun x232=>(Res.bind (Res.ok g137.2.1) fun x233=>(Res.ok (max x232 x233)))) fun x236=>(Res.bind (Res.ok g137.1) fun x237=>(noE (Qo x234 x235 x236 x237))))))))))))))))))))))))))))))
end My
namespace L2
open PySem
section
variable {α β γ ρ : Type}
theorem Res.okb (a : α) (f : α -> Res β) : (Res.ok a).bind f = f a:=(Eq.refl (f a)).symm.symm
theorem G1 {f : α -> Res β} {h : α -> β} : ∀ {as : List α}, (∀ a ∈ as, f a = .ok (h a)) -> Gc as f = .ok (as.map h)
  | [], _=>rfl
  | a :: as, hf=>by
    show (f a).bind _ = _
    rw [hf a (by simp), Res.ok_bind, G1 fun b hb=>hf b (by simp [hb])]; rfl
theorem Qr {f : α -> Res β} {h : α -> β} {as : List α} (hl : as.length <= sizeLine) (hf : ∀ a ∈ as, f a = .ok (h a)) : F6 as f = .ok (as.map h):=by
  unfold F6; rw [Xv hl]; exact G1 hf
theorem Gu {c : α -> Res Bool} {f : α -> Res β} {p : α -> Bool} {h : α -> β} : ∀ {as : List α}, (∀ a ∈ as, c a = .ok (p a)) -> (∀ a ∈ as, p a = true -> f a = .ok (h a)) -> Kc as c f = .ok ((as.filter p).map h)
  | [], _, _=>rfl
  | a :: as, hc, hf=>by
    show (c a).bind _ = _
    rw [hc a (by simp), Res.ok_bind]
    have ih:=Gu (as:=as) (fun b hb=>hc b (by simp [hb])) fun b hb=>hf b (by simp [hb])
    cases hp : p a with
    | false=>rw [if_neg (by simp), ih, List.filter_cons, hp]; rfl
    | true=>rw [if_pos rfl, hf a (by simp) hp, Res.ok_bind, ih, List.filter_cons, hp]; rfl
theorem GB {c : α -> Res Bool} {f : α -> Res β} {p : α -> Bool} {h : α -> β} {as : List α} (hl : as.length <= sizeLine) (hc : ∀ a ∈ as, c a = .ok (p a)) (hf : ∀ a ∈ as, p a = true -> f a = .ok (h a)) : E6 as c f = .ok ((as.filter p).map h):=by
  unfold E6; rw [Xv hl]; exact Gu hc hf
theorem VZ {f : γ -> α -> Res γ} (P : Nat -> γ -> Prop) : ∀ (as : List α) (k : Nat) (g : γ), P k g -> (∀ i a g, as[i]? = some a -> P (k + i) g -> ∃ g', f g a = .ok g' /\ P (k + i + 1) g') -> ∃ g', forN as g f = .ok g' /\ P (k + as.length) g'
  | [], k, g, h0, _=>⟨g, rfl, h0⟩
  | a :: as, k, g, h0, hs=>by
    obtain ⟨g1, e1, p1⟩:=hs 0 a g rfl h0
    obtain ⟨g2, e2, p2⟩:=VZ P as (k + 1) g1 p1 fun i b g hb hp=>by
      obtain ⟨g', e', p'⟩:=hs (i + 1) b g (by simpa using hb) (by rw [show k + (i + 1) = k + 1 + i by omega]; exact hp)
      exact ⟨g', e', by rw [show k + 1 + i + 1 = k + (i + 1) + 1 by omega]; exact p'⟩
    refine ⟨g2, ?_, by rw [List.length_cons, show k + (as.length + 1) = k + 1 + as.length by omega]; exact p2⟩
    show (f g a).bind _ = _
    rw [e1, Res.ok_bind]; exact e2
theorem Vf {f : γ -> α -> Res γ} (P : Nat -> γ -> Prop) {as : List α} {g : γ} (h0 : P 0 g) (hs : ∀ i a g, as[i]? = some a -> P i g -> ∃ g', f g a = .ok g' /\ P (i + 1) g') : ∃ g', forN as g f = .ok g' /\ P as.length g':=by
  have:=VZ P as 0 g h0 (by simpa using hs)
  simpa using this
theorem Qj {f : List β -> α -> Res (List β)} {h : α -> β} : ∀ {as : List α} {g : List β}, g.length + as.length <= sizeLine -> (∀ g : List β, g.length < sizeLine -> ∀ a ∈ as, f g a = .ok (g ++ [h a])) -> forN as g f = .ok (g ++ as.map h)
  | [], g, _, _=>by simp [forN]
  | a :: as, g, hl, hf=>by
    show (f g a).bind _ = _
    rw [List.length_cons] at hl
    rw [hf g (by omega) a (by simp), Res.ok_bind, Qj (by simp; omega) fun g hg b hb=>hf g hg b (by simp [hb])]
    simp
theorem ZE {f : γ -> α -> Res (Ctl ρ γ)} : ∀ {as : List α} {g : γ}, (∀ a ∈ as, f g a = .ok (.nx g)) -> forC as g f = .ok (.nx g)
  | [], _, _=>rfl
  | a :: as, g, hf=>by
    show (f g a).bind _ = _
    rw [hf a (by simp), Res.ok_bind]
    exact ZE fun b hb=>hf b (by simp [hb])
theorem Ur {f : γ -> α -> Res (Ctl ρ γ)} (P : Nat -> γ -> Prop) : ∀ (as : List α) (k : Nat) (g : γ), P k g -> (∀ i a g, as[i]? = some a -> P (k + i) g -> ∃ g', f g a = .ok (.nx g') /\ P (k + i + 1) g') -> ∃ g', forC as g f = .ok (.nx g') /\ P (k + as.length) g'
  | [], k, g, h0, _=>⟨g, rfl, h0⟩
  | a :: as, k, g, h0, hs=>by
    obtain ⟨g1, e1, p1⟩:=hs 0 a g rfl h0
    obtain ⟨g2, e2, p2⟩:=Ur P as (k + 1) g1 p1 fun i b g hb hp=>by
      obtain ⟨g', e', p'⟩:=hs (i + 1) b g (by simpa using hb) (by rw [show k + (i + 1) = k + 1 + i by omega]; exact hp)
      exact ⟨g', e', by rw [show k + 1 + i + 1 = k + (i + 1) + 1 by omega]; exact p'⟩
    refine ⟨g2, ?_, by rw [List.length_cons, show k + (as.length + 1) = k + 1 + as.length by omega]; exact p2⟩
    show (f g a).bind _ = _
    rw [e1, Res.ok_bind]; exact e2
theorem DR {f : γ -> α -> Res (Ctl ρ γ)} (P : Nat -> γ -> Prop) {as : List α} {g : γ} (h0 : P 0 g) (hs : ∀ i a g, as[i]? = some a -> P i g -> ∃ g', f g a = .ok (.nx g') /\ P (i + 1) g') : ∃ g', forC as g f = .ok (.nx g') /\ P as.length g':=by
  have:=Ur P as 0 g h0 (by simpa using hs)
  simpa using this
theorem Y0 {a b : Int} (h : 0 < b) : VB a b = .ok (a % b):=Xv h
theorem Zx {a b : Int} (h1 : -(2 ^ 64) < a) (h2 : a < 2 ^ 64) : QW a b = .ok (a * b):=Xv (.inl ⟨h1, h2⟩)
theorem Jb {a b : Int} (h1 : -(2 ^ 64) < b) (h2 : b < 2 ^ 64) : QW a b = .ok (a * b):=Xv (.inr ⟨h1, h2⟩)
theorem Cj {a b : Int} (h : 0 < b) (h2 : b < 2 ^ 250) : Hc a b = .ok (a / b):=Xv ⟨h, by
  have h3 : b.natAbs < 2 ^ 250:=by omega
  rcases Nat.eq_zero_or_pos b.natAbs with h0 | h0
  . omega
  . have := (Nat.log2_lt (by omega)).mpr h3
    omega⟩
theorem Ct {a b : Int} (h0 : 0 <= b) (h1 : b <= 1000000) (h2 : -(2 ^ 64) < a) (h3 : a < 2 ^ 64) : HP a b = .ok (a ^ b.toNat):=Xv ⟨h0, h1, by omega⟩
theorem Yc {as : List α} {i : Nat} {a : α} (h : as[i]? = some a) : atR as (i : Int) = .ok a:=by
  have hlt:=(List.getElem?_eq_some_iff.mp h).1
  unfold atR atI ixN
  rw [if_pos (by omega), if_pos (by omega)]
  simp [h]
theorem EL {as : List α} {i : Int} {a : α} (h0 : 0 <= i) (h : as[i.toNat]? = some a) : atR as i = .ok a:=by
  have : i = (i.toNat : Int):=by omega
  rw [this]; exact Yc h
theorem ZU {n : Nat} (h : n < 2 ^ 62) : VM 0 (n : Int) = .ok ((List.range n).map fun (i : Nat)=>(i : Int)):=by
  unfold VM
  rw [Xv (by omega)]
  unfold Zi
  congr 1
  rw [Int.sub_zero, Int.toNat_natCast]
  exact List.map_congr_left fun i _=>by omega
theorem Y1 {n i : Nat} {a : Int} (h : ((List.range n).map fun (i : Nat)=>(i : Int))[i]? = some a) : a = (i : Int) /\ i < n:=by
  have hlt:=(List.getElem?_eq_some_iff.mp h).1
  simp only [List.length_map, List.length_range] at hlt
  rw [List.getElem?_map, List.getElem?_range hlt] at h
  exact ⟨(Option.some.inj h).symm, hlt⟩
theorem Zk {n : Nat} {a : Int} (h : a ∈ (List.range n).map fun (i : Nat)=>(i : Int)) : ∃ i : Nat, i < n /\ a = (i : Int):=by
  obtain ⟨i, hi, rfl⟩:=List.mem_map.mp h
  exact ⟨i, List.mem_range.mp hi, rfl⟩
theorem Yr {n : Nat} : ((List.range n).map fun (i : Nat)=>(i : Int)).length = n:=by simp
theorem EU {a : Bool} {b : Res Bool} {c : Bool} (h : a = true -> b = .ok c) : Gd (.ok a) b = .ok (a && c):=by
  cases a with
  | false=>rfl
  | true=>
    show (if true = true then b else Res.ok false) = _
    rw [if_pos rfl, h rfl]; rfl
theorem Io {a : Bool} {b : Res Bool} {c : Bool} (h : a = false -> b = .ok c) : orR (.ok a) b = .ok (a || c):=by
  cases a with
  | true=>rfl
  | false=>
    show (if false = true then Res.ok true else b) = _
    rw [if_neg Bool.false_ne_true, h rfl]; rfl
theorem sz {n : Nat} (h : n <= 100000) : n <= sizeLine:=Nat.le_trans h (by decide)
theorem Bn {n : Nat} (h : n <= 100000) : n < sizeLine:=Nat.lt_of_le_of_lt h (by decide)
noncomputable def Ok (m : Res β) (R : β -> Prop) : Prop:=∃ r, m = .ok r /\ R r
theorem Ok.pure {R : β -> Prop} {a : β} (h : R a) : Ok (.ok a) R:=⟨a, rfl, h⟩
theorem Ok.bind {m : Res α} {f : α -> Res β} {R : α -> Prop} {T : β -> Prop} (h : Ok m R) (hf : ∀ a, R a -> Ok (f a) T) : Ok (m.bind f) T:=by
  obtain ⟨a, e, ha⟩:=h
  rw [e]; exact hf a ha
theorem Ok.imp {m : Res α} {R T : α -> Prop} (h : Ok m R) (hf : ∀ a, R a -> T a) : Ok m T:=by
  obtain ⟨a, e, ha⟩:=h
  exact ⟨a, e, hf a ha⟩
theorem Ok.noE {m : Res α} {R : α -> Prop} (h : Ok m R) : Ok (noE m) R:=by
  obtain ⟨a, e, ha⟩:=h
  rw [e]; exact ⟨a, rfl, ha⟩
theorem Ok.chk {c : Prop} [Decidable c] {m : Res α} {R : α -> Prop} (hc : c) (h : Ok m R) : Ok (chk c m) R:=by rw [Xv hc]; exact h
theorem Ok.ite {b : Bool} {m n : Res α} {R : α -> Prop} (h1 : b = true -> Ok m R) (h2 : b = false -> Ok n R) : Ok (if b = true then m else n) R:=by
  cases b with
  | true=>rw [if_pos rfl]; exact h1 rfl
  | false=>rw [if_neg Bool.false_ne_true]; exact h2 rfl
theorem Ok.forN {f : γ -> α -> Res γ} (P : Nat -> γ -> Prop) {as : List α} {g : γ} (h0 : P 0 g) (hs : ∀ i a g, as[i]? = some a -> P i g -> Ok (f g a) (P (i + 1))) : Ok (forN as g f) (P as.length):=Vf P h0 hs
theorem Ok.forC {f : γ -> α -> Res (Ctl ρ γ)} (P : Nat -> γ -> Prop) {as : List α} {g : γ} (h0 : P 0 g) (hs : ∀ i a g, as[i]? = some a -> P i g -> ∃ g', f g a = .ok (.nx g') /\ P (i + 1) g') : Ok (forC as g f) (fun c=>∃ g', c = .nx g' /\ P as.length g'):=by
  obtain ⟨g', e, h⟩:=DR P h0 hs
  exact ⟨_, e, g', rfl, h⟩
theorem Ko {f : γ -> Res ρ} (g : γ) : Z3 f (.nx g) = f g:=(Eq.refl (f g)).symm.symm
theorem Gq {f : γ -> Res ρ} (r : ρ) : Z3 f (.ret r) = .ok r:=(Eq.refl (Res.ok r)).symm.symm
theorem VV {δ : Type} {f : γ -> Res (Ctl ρ δ)} (g : γ) : QK f (.nx g) = f g:=(Eq.refl (f g)).symm.symm
theorem XM (a : α) : noE (Res.ok a) = .ok a:=(Eq.refl (Res.ok a)).symm.symm
theorem Ok.of {m : Res α} {a : α} (h : m = .ok a) : Ok m (fun b=>b = a):=⟨a, h, rfl⟩
theorem Ok.eq {m : Res α} {a : α} (h : Ok m (fun b=>b = a)) : m = .ok a:=by
  obtain ⟨b, e, rfl⟩:=h
  exact e
end
end L2
namespace My
noncomputable def ZO (n : Nat) (f : Nat -> Nat -> Nat) (a : Nat) : List Int:=(List.range n).map fun b=>(f a b : Int)
noncomputable def YE (n : Nat) (f : Nat -> Nat -> Nat) : List (List Int):=(List.range n).map (ZO n f)
theorem Y9 (n : Nat) (f : Nat -> Nat -> Nat) (a : Nat) : (ZO n f a).length = n:=by simp [ZO]
theorem XU (n : Nat) (f : Nat -> Nat -> Nat) : (YE n f).length = n:=by simp [YE]
theorem Q1 {n : Nat} {f : Nat -> Nat -> Nat} {a b : Nat} (h : b < n) : (ZO n f a)[b]? = some (f a b : Int):=by
  unfold ZO; rw [List.getElem?_map, List.getElem?_range h]; rfl
theorem Jp {n : Nat} {f : Nat -> Nat -> Nat} {a : Nat} (h : a < n) : (YE n f)[a]? = some (ZO n f a):=by
  unfold YE; rw [List.getElem?_map, List.getElem?_range h]; rfl
theorem Jt {n : Nat} {f g : Nat -> Nat -> Nat} {a : Nat} (h : ∀ b, b < n -> f a b = g a b) : ZO n f a = ZO n g a:=by
  unfold ZO
  exact List.map_congr_left fun b hb=>by rw [h b (List.mem_range.mp hb)]
theorem Y5 {n : Nat} {f g : Nat -> Nat -> Nat} (h : ∀ a b, a < n -> b < n -> f a b = g a b) : YE n f = YE n g:=by
  unfold YE
  exact List.map_congr_left fun a ha=>Jt fun b hb=>h a b (List.mem_range.mp ha) hb
structure Col (n : Nat) (f : Nat -> Nat -> Nat) : Prop where
  lt : ∀ a b, a < n -> b < n -> f a b < n
  r2 : ∀ x y b, x < n -> y < n -> b < n -> f x b = f y b -> x = y
structure GoodF (n : Nat) (f : Nat -> Nat -> Nat) : Prop extends Col n f where
  r1 : ∀ a, a < n -> f a a = a
  r3 : ∀ a b c, a < n -> b < n -> c < n -> f (f a b) c = f (f a c) (f b c)
theorem GoodF.congr {n : Nat} {f g : Nat -> Nat -> Nat} (h : GoodF n f) (e : ∀ a b, a < n -> b < n -> g a b = f a b) : GoodF n g where
  lt a b ha hb:=by rw [e a b ha hb]; exact h.lt a b ha hb
  r2 x y b hx hy hb q:=by rw [e x b hx hb, e y b hy hb] at q; exact h.r2 x y b hx hy hb q
  r1 a ha:=by rw [e a a ha ha]; exact h.r1 a ha
  r3 a b c ha hb hc:=by
    rw [e a b ha hb, e a c ha hc, e b c hb hc, e _ c (h.lt a b ha hb) hc, e _ _ (h.lt a c ha hc) (h.lt b c hb hc)]
    exact h.r3 a b c ha hb hc
theorem Jd : ∀ (n : Nat) (p : Nat -> Nat), (∀ a, a < n -> p a < n) -> (∀ a b, a < n -> b < n -> p a = p b -> a = b) -> ∀ y, y < n -> ∃ x, x < n /\ p x = y
  | 0, _, _, _, y, hy=>absurd hy (Nat.not_lt_zero _)
  | n + 1, p, hl, hi, y, hy=>by
    by_cases hh : ∃ x, x < n + 1 /\ p x = y
    . exact hh
    . exfalso
      -- send n to y, and y's place away
      have hne : ∀ x, x < n + 1 -> p x ≠ y:=fun x hx e=>hh ⟨x, hx, e⟩
      -- among the first n: p', which skips y
      let s : Nat -> Nat:=fun v=>if v < y then v else v - 1
      have hs : ∀ a, a < n + 1 -> s (p a) < n:=fun a ha=>by
        have h1:=hl a ha; have h2:=hne a ha
        show (if p a < y then p a else p a - 1) < n
        split <;> omega
      have hsi : ∀ a b, a < n + 1 -> b < n + 1 -> s (p a) = s (p b) -> a = b:=fun a b ha hb e=>by
        have h1:=hne a ha; have h2:=hne b hb
        refine hi a b ha hb ?_
        have e' : (if p a < y then p a else p a - 1) = (if p b < y then p b else p b - 1):=e
        split at e' <;> split at e' <;> omega
      obtain ⟨x, hx, ex⟩:=Jd n (fun a=>s (p a)) (fun a ha=>hs a (by omega)) (fun a b ha hb e=>hsi a b (by omega) (by omega) e) (s (p n)) (hs n (by omega))
      have:=hsi x n (by omega) (by omega) ex
      omega
structure PermN (n : Nat) (p q : Nat -> Nat) : Prop where
  lt : ∀ a, a < n -> p a < n
  qlt : ∀ a, a < n -> q a < n
  pq : ∀ a, a < n -> p (q a) = a
  qp : ∀ a, a < n -> q (p a) = a
theorem PermN.good {n : Nat} {p q : Nat -> Nat} {f : Nat -> Nat -> Nat} (h : PermN n p q) (g : GoodF n f) : GoodF n (fun x y=>p (f (q x) (q y))) where
  lt a b ha hb:=h.lt _ (g.lt _ _ (h.qlt a ha) (h.qlt b hb))
  r2 x y b hx hy hb e:=by
    have e1 : q (p (f (q x) (q b))) = q (p (f (q y) (q b))):=congrArg q e
    rw [h.qp _ (g.lt _ _ (h.qlt x hx) (h.qlt b hb)), h.qp _ (g.lt _ _ (h.qlt y hy) (h.qlt b hb))] at e1
    have:=g.r2 _ _ _ (h.qlt x hx) (h.qlt y hy) (h.qlt b hb) e1
    rw [← h.pq x hx, ← h.pq y hy, this]
  r1 a ha:=by
    show p (f (q a) (q a)) = a
    rw [g.r1 _ (h.qlt a ha), h.pq a ha]
  r3 a b c ha hb hc:=by
    have l1:=g.lt _ _ (h.qlt a ha) (h.qlt b hb)
    have l2:=g.lt _ _ (h.qlt a ha) (h.qlt c hc)
    have l3:=g.lt _ _ (h.qlt b hb) (h.qlt c hc)
    show p (f (q (p (f (q a) (q b)))) (q c)) = p (f (q (p (f (q a) (q c)))) (q (p (f (q b) (q c)))))
    rw [h.qp _ l1, h.qp _ l2, h.qp _ l3, g.r3 _ _ _ (h.qlt a ha) (h.qlt b hb) (h.qlt c hc)]
theorem Ef {n : Nat} {p : Nat -> Nat} (hl : ∀ a, a < n -> p a < n) (hi : ∀ a b, a < n -> b < n -> p a = p b -> a = b) : ∃ q, PermN n p q:=by
  have ho:=Jd n p hl hi
  refine ⟨fun y=>if h : y < n then Classical.choose (ho y h) else 0, hl, fun a ha=>?_, fun a ha=>?_, fun a ha=>?_⟩
  . simp only [dif_pos ha]; exact (Classical.choose_spec (ho a ha)).1
  . simp only [dif_pos ha]; exact (Classical.choose_spec (ho a ha)).2
  . simp only [dif_pos (hl a ha)]
    have:=Classical.choose_spec (ho (p a) (hl a ha))
    exact hi _ _ this.1 ha this.2
theorem UT {A B n z : Int} (h : A - B = n * z) : A % n = B % n:=by
  have : A = B + n * z:=by omega
  rw [this, Int.add_mul_emod_self_left]
noncomputable def F8 (k n a b : Int) : Int:=(k * a + (1 - k) * b) % n
noncomputable def FR (k : Int) (n : Nat) (a b : Nat) : Nat:=(F8 k n a b).toNat
theorem Yl {k : Int} {n : Nat} (hn : 0 < n) (a b : Nat) : ((FR k n a b : Nat) : Int) = F8 k n a b:=by
  unfold FR
  have:=Int.emod_nonneg (k * a + (1 - k) * b) (show (n : Int) ≠ 0 by omega)
  unfold F8
  omega
theorem DK {k : Int} {n : Nat} (hn : 0 < n) (hk : ∀ x : Int, (n : Int) ∣ k * x -> (n : Int) ∣ x) : GoodF n (FR k n) where
  lt a b _ _:=by
    have h:=Yl (k:=k) hn a b
    have:=Int.emod_lt_of_pos (k * a + (1 - k) * b) (show 0 < (n : Int) by omega)
    unfold F8 at h
    omega
  r1 a ha:=by
    have h:=Yl (k:=k) hn a a
    have e : k * (a : Int) + (1 - k) * a = a:=by grind
    unfold F8 at h
    rw [e, Int.emod_eq_of_lt (by omega) (by omega)] at h
    omega
  r2 x y b hx hy hb e:=by
    have h1:=Yl (k:=k) hn x b
    have h2:=Yl (k:=k) hn y b
    rw [e, h2] at h1
    unfold F8 at h1
    have:=Int.emod_eq_emod_iff_emod_sub_eq_zero.mp h1
    have hd : (n : Int) ∣ k * ((y : Int) - x):=by
      have:=Int.dvd_of_emod_eq_zero this
      have e2 : (k * (y : Int) + (1 - k) * b) - (k * x + (1 - k) * b) = k * ((y : Int) - x):=by grind
      rwa [e2] at this
    obtain ⟨z, hz⟩:=hk _ hd
    have hz1 : z < 1:=by
      apply Int.lt_of_mul_lt_mul_left (a:=(n : Int)) _ (by omega)
      omega
    have hz2 : -1 < z:=by
      apply Int.lt_of_mul_lt_mul_left (a:=(n : Int)) _ (by omega)
      omega
    have : z = 0:=by omega
    subst this
    omega
  r3 a b c _ _ _:=by
    have e1:=Yl (k:=k) hn a b
    have e2:=Yl (k:=k) hn a c
    have e3:=Yl (k:=k) hn b c
    have e4:=Yl (k:=k) hn (FR k n a b) c
    have e5:=Yl (k:=k) hn (FR k n a c) (FR k n b c)
    have hh : F8 k n (FR k n a b : Nat) c = F8 k n (FR k n a c : Nat) (FR k n b c : Nat):=by
      rw [e1, e2, e3]
      unfold F8
      have q1:=Int.emod_add_mul_ediv (k * (a : Int) + (1 - k) * b) n
      have q2:=Int.emod_add_mul_ediv (k * (a : Int) + (1 - k) * c) n
      have q3:=Int.emod_add_mul_ediv (k * (b : Int) + (1 - k) * c) n
      generalize (k * (a : Int) + (1 - k) * b) / n = d1 at q1
      generalize (k * (a : Int) + (1 - k) * c) / n = d2 at q2
      generalize (k * (b : Int) + (1 - k) * c) / n = d3 at q3
      generalize (k * (a : Int) + (1 - k) * b) % n = m1 at *
      generalize (k * (a : Int) + (1 - k) * c) % n = m2 at *
      generalize (k * (b : Int) + (1 - k) * c) % n = m3 at *
      refine UT (z:=-k * d1 + k * d2 + (1 - k) * d3) ?_
      grind
    omega
end My
namespace My
open PySem L2
theorem GX {n : Nat} {f : Nat -> Nat -> Nat} {a : Nat} (h : a < n) : atR (YE n f) (a : Int) = .ok (ZO n f a):=Yc (Jp h)
theorem Cm {n : Nat} {f : Nat -> Nat -> Nat} {a b : Nat} (h : b < n) : atR (ZO n f a) (b : Int) = .ok (f a b : Int):=Yc (Q1 h)
theorem GD {α : Type} {as : List α} {i : Nat} {a : α} (h : i < as.length) : Ux as (i : Int) a = .ok (as.set i a):=by
  unfold Ux ixN
  rw [if_pos (by omega), if_pos (by omega)]
  simp
theorem Bh {n : Nat} {f : Nat -> Nat -> Nat} {a b v : Nat} : (ZO n f a).set b (v : Int) = ZO n (fun x y=>if x = a /\ y = b then v else f x y) a:=by
  apply List.ext_getElem?
  intro j
  by_cases hj : j < n
  . rw [Q1 hj]
    by_cases e : j = b
    . subst e; rw [List.getElem?_set_self (by rw [Y9]; exact hj)]; simp
    . rw [List.getElem?_set_ne (fun z=>e z.symm), Q1 hj]; simp [e]
  . rw [List.getElem?_eq_none (by rw [List.length_set, Y9]; omega), List.getElem?_eq_none (by rw [Y9]; omega)]
theorem Bz {n : Nat} {f : Nat -> Nat -> Nat} {a b v : Nat} (ha : a < n) : (YE n f).set a ((ZO n f a).set b (v : Int)) = YE n (fun x y=>if x = a /\ y = b then v else f x y):=by
  apply List.ext_getElem?
  intro j
  by_cases hj : j < n
  . rw [Jp hj]
    by_cases e : j = a
    . subst e; rw [List.getElem?_set_self (by rw [XU]; exact hj), Bh]
    . rw [List.getElem?_set_ne (fun z => e z.symm), Jp hj]
      congr 1
      exact Jt fun y _=>by simp [e]
  . rw [List.getElem?_eq_none (by rw [List.length_set, XU]; omega), List.getElem?_eq_none (by rw [XU]; omega)]
noncomputable def Ug (n : Nat) (sp : List Int) (p q : Nat -> Nat) : Prop:=PermN n p q /\ sp = (List.range n).map fun i=>((p i : Nat) : Int)
theorem Ug.get {n : Nat} {sp : List Int} {p q : Nat -> Nat} (h : Ug n sp p q) {i : Nat} (hi : i < n) : atR sp (i : Int) = .ok ((p i : Nat) : Int):=Yc (by rw [h.2, List.getElem?_map, List.getElem?_range hi]; rfl)
theorem Hf {as : List Int} {i : Nat} (h : i < as.length) (hl : as.length <= 100000) : DU as (i : Int) = .ok (as[i], as.eraseIdx i):=by
  unfold DU
  rw [Xv (by omega)]
  have e : seqIndex? (i : Int) as.length = some i:=by
    unfold seqIndex?
    have h0 : ¬ ((i : Int) < 0):=by omega
    simp [h0, h]
  rw [e]
  simp [h]
theorem DE {n : Nat} {sp : List Int} (h : sp.Perm ((List.range n).map fun (i : Nat)=>(i : Int))) : ∃ p q, Ug n sp p q:=by
  have hl : sp.length = n:=by have:=h.length_eq; simpa using this
  have hlt : ∀ i, i < n -> ∃ k : Nat, k < n /\ sp[i]? = some (k : Int):=fun i hi=>by
    have hm : sp[i]'(by omega) ∈ (List.range n).map fun (i : Nat)=>(i : Int):=h.mem_iff.mp (List.getElem_mem _)
    obtain ⟨k, hk, e⟩:=Zk hm
    exact ⟨k, hk, by rw [List.getElem?_eq_getElem (by omega), e]⟩
  let p : Nat -> Nat:=fun i=>(sp[i]?.getD 0).toNat
  have hp : ∀ i, i < n -> p i < n /\ sp[i]? = some (p i : Int):=fun i hi=>by
    obtain ⟨k, hk, e⟩:=hlt i hi
    have : p i = k:=by simp [p, e]
    rw [this]; exact ⟨hk, e⟩
  have nd : sp.Nodup:=h.nodup_iff.mpr (by
    rw [List.nodup_iff_pairwise_ne, List.pairwise_map]
    exact List.nodup_range.imp fun {a b} h e=>h (by omega))
  obtain ⟨q, hq⟩:=Ef (n:=n) (p:=p) (fun a ha=>(hp a ha).1) fun a b ha hb e=>by
    have h1:=(hp a ha).2
    have h2:=(hp b hb).2
    rw [← e] at h2
    exact (List.getElem?_inj (by omega) nd).mp (h1.trans h2.symm)
  refine ⟨p, q, hq, ?_⟩
  apply List.ext_getElem?
  intro i
  by_cases hi : i < n
  . rw [(hp i hi).2, List.getElem?_map, List.getElem?_range hi]; rfl
  . rw [List.getElem?_eq_none (by omega), List.getElem?_eq_none (by simp; omega)]
theorem JZ : ∀ {as : List Int} {i : Nat} (h : i < as.length), (as[i] :: as.eraseIdx i).Perm as
  | a :: as, 0, _=>by simp
  | a :: as, i + 1, h=>by
    have:=JZ (as:=as) (i:=i) (by simpa using h)
    simp only [List.getElem_cons_succ, List.eraseIdx_cons_succ]
    exact (List.Perm.swap _ _ _).trans (this.cons a)
theorem DX {α : Type} (as : List α) {k : Nat} (h : k <= as.length) : Uz as (some (k : Int)) none = as.drop k:=by
  unfold Uz
  rw [HT.sIx_nat, HT.sIx_none, Nat.min_eq_left h, List.take_of_length_le (by rw [List.length_drop]; omega)]
end My
namespace My
theorem mem_set {α : Type} : ∀ {l : List α} {j : Nat} {v x : α}, x ∈ l.set j v -> x ∈ l ∨ x = v
  | [], _, _, _, h=>by simp at h
  | a :: r, 0, v, x, h=>by
    rw [List.set_cons_zero] at h
    rcases List.mem_cons.mp h with h | h
    . exact .inr h
    . exact .inl (List.mem_cons_of_mem _ h)
  | a :: r, j + 1, v, x, h=>by
    rw [List.set_cons_succ] at h
    rcases List.mem_cons.mp h with h | h
    . exact .inl (by rw [h]; exact List.mem_cons_self)
    . rcases mem_set h with h | h
      . exact .inl (List.mem_cons_of_mem _ h)
      . exact .inr h
end My
namespace My
noncomputable def HK (S : Nat) : List Int:=(List.range S).map fun (k : Nat)=>(k : Int)
theorem DF {S : Nat} {x : Int} : x ∈ HK S ↔ 0 <= x /\ x < (S : Int):=by
  unfold HK
  rw [List.mem_map]
  constructor
  . rintro ⟨k, hk, rfl⟩
    have:=List.mem_range.mp hk
    omega
  . rintro ⟨h0, h1⟩
    exact ⟨x.toNat, List.mem_range.mpr (by omega), by omega⟩
theorem Qc {α β : Type} {f : α -> β} : ∀ {l : List α}, (∀ a b, a ∈ l -> b ∈ l -> f a = f b -> a = b) -> l.Nodup -> (l.map f).Nodup
  | [], _, _=>List.nodup_nil
  | a :: r, h, nd=>by
    rw [List.map_cons, List.nodup_cons]
    refine ⟨fun m=>?_, Qc (fun x y hx hy=>h x y (List.mem_cons_of_mem _ hx) (List.mem_cons_of_mem _ hy)) (List.nodup_cons.mp nd).2⟩
    obtain ⟨b, hb, e⟩:=List.mem_map.mp m
    have:=h b a (List.mem_cons_of_mem _ hb) List.mem_cons_self e
    exact (List.nodup_cons.mp nd).1 (by rw [← this]; exact hb)
theorem KZ (S : Nat) : (HK S).Nodup:=Qc (fun a b _ _ e=>by omega) List.nodup_range
theorem JQ {α : Type} [DecidableEq α] : ∀ {l m : List α}, l.Nodup -> m.Nodup -> (∀ x, x ∈ l ↔ x ∈ m) -> l.Perm m
  | [], m, _, _, h=>by
    cases m with
    | nil=>exact List.Perm.refl _
    | cons a r=>exact absurd ((h a).mpr List.mem_cons_self) (by simp)
  | a :: r, m, nl, nm, h=>by
    have ha : a ∈ m:=(h a).mp List.mem_cons_self
    have hp : m.Perm (a :: m.erase a):=List.perm_cons_erase ha
    refine List.Perm.trans (List.Perm.cons a ?_) hp.symm
    have nd2 : (a :: m.erase a).Nodup:=hp.nodup_iff.mp nm
    refine JQ (List.nodup_cons.mp nl).2 (List.nodup_cons.mp nd2).2 fun x=>?_
    constructor
    . intro hx
      have hxa : x ≠ a:=fun e=>(List.nodup_cons.mp nl).1 (by rw [← e]; exact hx)
      have : x ∈ a :: m.erase a:=hp.mem_iff.mp ((h x).mp (List.mem_cons_of_mem _ hx))
      exact (List.mem_cons.mp this).resolve_left hxa
    . intro hx
      have hxa : x ≠ a:=fun e=>(List.nodup_cons.mp nd2).1 (e ▸ hx)
      have : x ∈ a :: r:=(h x).mpr (hp.mem_iff.mpr (List.mem_cons_of_mem _ hx))
      exact (List.mem_cons.mp this).resolve_left hxa
theorem flatMap_nil {α β : Type} (f : α -> List β) : ∀ {l : List α}, (∀ x ∈ l, f x = []) -> l.flatMap f = []
  | [], _=>rfl
  | a :: r, h=>by rw [List.flatMap_cons, h a List.mem_cons_self, flatMap_nil f fun x hx=>h x (List.mem_cons_of_mem _ hx)]; rfl
theorem flatMap_map {α β γ : Type} (f : α -> β) (g : β -> List γ) (l : List α) : (l.map f).flatMap g = l.flatMap fun x=>g (f x):=by
  induction l with
  | nil=>rfl
  | cons a r ih=>rw [List.map_cons, List.flatMap_cons, List.flatMap_cons, ih]
end My
namespace My
structure Done (S : Int) (seen : List Bool) (ps : List Int) : Prop where
  nd : ps.Nodup
  at' : ∀ p ∈ ps, 0 <= p /\ p < S /\ seen[p.toNat]? = some true
  of : ∀ q : Nat, seen[q]? = some true -> (q : Int) ∈ ps
theorem Done.none (S : Int) (n : Nat) : Done S (List.replicate n false) []:=
  ⟨List.nodup_nil, fun p h=>by simp at h, fun q h=>by
    rw [List.getElem?_replicate] at h
    split at h <;> cases h⟩
theorem Df {l : List Bool} {j q : Nat} (h : l[q]? = some true) : (l.set j true)[q]? = some true:=by
  by_cases e : j = q
  . subst e
    rw [List.getElem?_set_self (List.getElem?_eq_some_iff.mp h).1]
  . rw [List.getElem?_set_ne e]; exact h
theorem Done.snoc {S : Int} {seen : List Bool} {ps : List Int} {a : Int} (h : Done S seen ps) (a0 : 0 <= a) (a1 : a < S) (e : seen[a.toNat]? = some false) : Done S (seen.set a.toNat true) (ps ++ [a]):=by
  have hl : a.toNat < seen.length:=(List.getElem?_eq_some_iff.mp e).1
  have hn : a ∉ ps:=fun m=>by
    have:=(h.at' a m).2.2
    rw [e] at this; cases this
  refine ⟨?_, fun p hp=>?_, fun q hq=>?_⟩
  . rw [List.nodup_append]
    refine ⟨h.nd, by simp, fun x hx y hy=>?_⟩
    rw [List.mem_singleton.mp hy]
    exact fun e=>hn (e ▸ hx)
  . rcases List.mem_append.mp hp with hp | hp
    . obtain ⟨h1, h2, h3⟩ := h.at' p hp
      exact ⟨h1, h2, Df h3⟩
    . rw [List.mem_singleton.mp hp]
      exact ⟨a0, a1, by rw [List.getElem?_set_self hl]⟩
  . by_cases hqa : a.toNat = q
    . exact List.mem_append_right _ (List.mem_singleton.mpr (by omega))
    . rw [List.getElem?_set_ne hqa] at hq
      exact List.mem_append_left _ (h.of q hq)
theorem Done.all {S : Int} {seen : List Bool} {ps : List Int} (h : Done S seen ps) (hl : seen.length = S.toNat) (h0 : 0 <= S) (ha : ∀ q : Nat, q < S.toNat -> seen[q]? = some true) : ps.Perm (HK S.toNat):=by
  refine JQ h.nd (KZ _) fun x=>?_
  rw [DF]
  constructor
  . intro hx
    obtain ⟨h1, h2, _⟩:=h.at' x hx
    omega
  . rintro ⟨x0, x1⟩
    have:=h.of x.toNat (ha x.toNat (by omega))
    rw [show ((x.toNat : Nat) : Int) = x by omega] at this
    exact this
end My
namespace My
open PySem L2
theorem Fm (ns : List Int) {p : Int} (hp : 0 <= p) : ∃ c, Jk ns p = .ok c:=by
  unfold Jk
  simp only [Res.okb]
  by_cases h : p < (ns.length : Int)
  . rw [decide_eq_true h, if_pos rfl]
    have hl : p.toNat < ns.length:=by omega
    exact ⟨ns[p.toNat], EL hp (by simp [hl])⟩
  . rw [decide_eq_false h, if_neg Bool.false_ne_true]
    obtain ⟨g, e, _⟩:=Vf (as:=Uz ns none (some 63)) (g:=(5 : Int)) (f:=fun g15 a17=>(Res.bind (Res.bind (Res.bind (Res.bind (QW g15 48271) fun x25=>(Res.bind (VB a17 1000003) fun x26=>(Res.ok (x25 + x26)))) fun x27=>Res.ok (x27 + 1)) fun x29=>VB x29 2147483647) fun a19=>(Res.ok (a19)))) (fun _ _=>True) True.intro fun i a g _ _=>by
      rw [Jb (by decide) (by decide), Res.ok_bind, Y0 (by decide), Res.ok_bind, Res.ok_bind, Res.ok_bind, Y0 (by decide), Res.ok_bind]
      exact ⟨_, rfl, True.intro⟩
    rw [e, Res.ok_bind, Zx (by decide) (by decide), Res.ok_bind, Res.ok_bind, Y0 (by decide)]
    exact ⟨_, rfl⟩
theorem Cl (c : Int) {k : Int} (h0 : 0 <= k) (h1 : k <= 100000) : ∃ y, UA c k = .ok y /\ 0 <= y:=by
  unfold UA
  simp only [Res.okb]
  have hm : 0 <= c % 2147483629 /\ c % 2147483629 < 2147483629:=⟨Int.emod_nonneg _ (by decide), Int.emod_lt_of_pos _ (by decide)⟩
  rw [Y0 (by decide), Res.ok_bind, Zx (by decide) (by decide), Res.ok_bind, Res.ok_bind, Res.ok_bind, Ct (by decide) (by decide) (by omega) (by omega), Res.ok_bind, Y0 (by decide), Res.ok_bind]
  rw [Jb (by decide) (by decide), Res.ok_bind, Zx (by decide) (by decide), Res.ok_bind, Jb (by omega) (by omega), Res.ok_bind, Res.ok_bind, Res.ok_bind, Y0 (by decide), Res.ok_bind, Cj (by decide) (by decide)]
  exact ⟨_, rfl, Int.ediv_nonneg (Int.emod_nonneg _ (by decide)) (by decide)⟩
theorem Cg (ns : List Int) {p : Int} (hp : 0 <= p) (sizes : List Int) (hl : sizes.length <= 100000) (hs : ∀ x ∈ sizes, 0 < x /\ x < 2 ^ 250) :
    Ok (UG ns p sizes) fun r=>r.length = sizes.length /\ ∀ (i : Nat) x s, r[i]? = some x -> sizes[i]? = some s -> 0 <= x /\ x < s:=by
  obtain ⟨c, ec⟩:=Fm ns hp
  unfold UG
  simp only [Res.okb]
  rw [ec, show noE (Res.ok c) = .ok c from rfl, Res.ok_bind, ZU (by omega), Res.ok_bind, Ct (by decide) (by decide) (by decide) (by decide)]
  simp only [Res.okb]
  have key : ∀ (i : Nat) (a : Int) (g : List Int × Int), ((List.range sizes.length).map fun (i : Nat)=>(i : Int))[i]? = some a -> (g.1.length = i /\ ∀ (j : Nat) x s, g.1[j]? = some x -> sizes[j]? = some s -> 0 <= x /\ x < s) -> ∀ y z : Int, ∀ s, sizes[i]? = some s -> 0 <= y /\ y < s -> ((g.1 ++ [y], z).1.length = i + 1 /\ ∀ (j : Nat) x s, (g.1 ++ [y], z).1[j]? = some x -> sizes[j]? = some s -> 0 <= x /\ x < s):=by
    intro i a g ha ⟨hg, hq⟩ y z s hs1 hy
    refine ⟨by simp [hg], fun j x s' hx hs'=>?_⟩
    have hx : (g.1 ++ [y])[j]? = some x:=hx
    rcases Nat.lt_trichotomy j i with hj | hj | hj
    . rw [List.getElem?_append_left (by omega)] at hx; exact hq j x s' hx hs'
    . subst hj
      rw [List.getElem?_append_right (by omega), hg, Nat.sub_self] at hx
      have : y = x:=by simpa using hx
      rw [hs1] at hs'
      cases hs'
      rw [← this]; exact hy
    . rw [List.getElem?_eq_none (by simp; omega)] at hx; cases hx
  refine Ok.bind (Ok.forN (fun i (g : List Int × Int)=>g.1.length = i /\ ∀ (j : Nat) x s, g.1[j]? = some x -> sizes[j]? = some s -> 0 <= x /\ x < s) ⟨rfl, fun j x s h _=>by simp at h⟩ fun i a g ha hg=>?_) (T:=fun (r : List Int)=>r.length = sizes.length /\ ∀ (i : Nat) x s, r[i]? = some x -> sizes[i]? = some s -> 0 <= x /\ x < s) fun g ⟨hg, hq⟩=>?_
  . obtain ⟨rfl, hi⟩ := Y1 ha
    have hsz : sizes[i]? = some sizes[i]:=by simp [hi]
    have hsp:=hs _ (List.getElem_mem hi)
    have hgl : g.1.length < sizeLine:=Bn (by have:=hg.1; omega)
    by_cases hc : c < 10 ^ (18 : Int).toNat
    . rw [decide_eq_true hc, if_pos rfl]
      obtain ⟨y, ey, hy⟩:=Cl c (k:=(i : Int)) (by omega) (by omega)
      rw [ey, show noE (Res.ok y) = .ok y from rfl, Res.ok_bind, Yc hsz, Res.ok_bind, Y0 hsp.1, Res.ok_bind, Xv hgl]
      exact ⟨_, rfl, key i _ g ha hg _ _ _ hsz ⟨Int.emod_nonneg _ (by omega), Int.emod_lt_of_pos _ hsp.1⟩⟩
    . rw [decide_eq_false hc, if_neg Bool.false_ne_true]
      by_cases hq : 0 < g.2
      . rw [decide_eq_true hq, if_pos rfl, Yc hsz, Res.ok_bind, Y0 hsp.1, Res.ok_bind, Xv hgl]
        simp only [Res.okb]
        rw [Cj hsp.1 hsp.2]
        exact ⟨_, rfl, key i _ g ha hg _ _ _ hsz ⟨Int.emod_nonneg _ (by omega), Int.emod_lt_of_pos _ hsp.1⟩⟩
      . rw [decide_eq_false hq, if_neg Bool.false_ne_true, Y0 (by decide), Res.ok_bind]
        obtain ⟨c2, ec2⟩:=Fm ns (p:=(p + 1 + (i : Int)) % 63) (Int.emod_nonneg _ (by decide))
        obtain ⟨y, ey, hy⟩:=Cl c2 (k:=(i : Int)) (by omega) (by omega)
        rw [ec2, show noE (Res.ok c2) = .ok c2 from rfl, Res.ok_bind, ey, show noE (Res.ok y) = .ok y from rfl, Res.ok_bind, Yc hsz, Res.ok_bind, Y0 hsp.1, Res.ok_bind, Xv hgl]
        exact ⟨_, rfl, key i _ g ha hg _ _ _ hsz ⟨Int.emod_nonneg _ (by omega), Int.emod_lt_of_pos _ hsp.1⟩⟩
  . rw [Yr] at hg
    exact ⟨g.1, rfl, hg, hq⟩
end My
namespace My
open PySem L2
theorem QB {α : Type} {r : List α} {k : Int} {n : Nat} (e : k = (n : Int)) (h : n < r.length) : atR r k = .ok r[n]:=by
  subst e; exact Yc (by simp [h])
end My
namespace My
open PySem L2
theorem KN {r : List Int} {n : Nat} (hn : n <= 1000) (hr : n <= r.length) : Ok (Zf r (n : Int)) fun sp=>∃ p q, Ug n sp p q:=by
  unfold Zf
  simp only [Res.okb]
  rw [Xv (by omega)]
  simp only [Res.okb]
  rw [ZU (by omega)]
  simp only [Res.okb]
  have e0 : Zi 0 (n : Int) = (List.range n).map fun (i : Nat)=>(i : Int):=by
    unfold Zi
    rw [Int.sub_zero, Int.toNat_natCast]
    exact List.map_congr_left fun i _=>by omega
  refine Ok.bind (Ok.forN (fun i (g : List Int × List Int)=>g.1.length = i /\ (g.1 ++ g.2).Perm ((List.range n).map fun (i : Nat)=>(i : Int))) ⟨rfl, by rw [e0]; exact List.Perm.refl _⟩ fun i a g ha hg=>?_) fun g hg=>?_
  . obtain ⟨rfl, hi⟩ := Y1 ha
    obtain ⟨h1, h2⟩:=hg
    have hl:=h2.length_eq
    simp only [List.length_append, List.length_map, List.length_range] at hl
    have hri : r[i]? = some r[i]:=by simp [show i < r.length by omega]
    have hpos : (0 : Int) < (g.2.length : Int):=by omega
    have hm1:=Int.emod_nonneg r[i] (show (g.2.length : Int) ≠ 0 by omega)
    have hm2:=Int.emod_lt_of_pos r[i] hpos
    rw [Yc hri, Res.okb, Y0 hpos, Res.okb]
    generalize hk : r[i] % (g.2.length : Int) = k at hm1 hm2
    obtain ⟨j, rfl⟩ : ∃ j : Nat, k = j:=⟨k.toNat, by omega⟩
    have hj : j < g.2.length:=by omega
    rw [Hf hj (by omega), Res.okb, Xv (Bn (by omega))]
    refine ⟨_, rfl, by simp [h1], ?_⟩
    refine List.Perm.trans ?_ h2
    show ((g.1 ++ [g.2[j]]) ++ g.2.eraseIdx j).Perm (g.1 ++ g.2)
    rw [List.append_assoc]
    exact (JZ hj).append_left _
  . obtain ⟨h1, h2⟩ := hg
    rw [Yr] at h1
    have hl:=h2.length_eq
    simp only [List.length_append, List.length_map, List.length_range] at hl
    have : g.2 = []:=List.length_eq_zero_iff.mp (by omega)
    rw [this, List.append_nil] at h2
    exact ⟨_, rfl, DE h2⟩
theorem Fg {n : Nat} {f : Nat -> Nat -> Nat} {sp : List Int} {p q : Nat -> Nat} (hn : n <= 1000) (hf : ∀ a b, a < n -> b < n -> f a b < n) (hp : Ug n sp p q) : ZK (YE n f) sp = .ok (YE n fun x y=>p (f (q x) (q y))):=by
  have P:=hp.1
  unfold ZK
  simp only [Res.okb]
  rw [Qr (h:=fun a=>a) (sz (by rw [XU]; omega)) fun a _=>rfl, Res.okb]
  simp only [List.map_id', XU]
  rw [ZU (by omega), Res.okb]
  apply Ok.eq
  refine Ok.bind (Ok.forN (fun i g=>g = YE n fun x y=>if q x < i then p (f (q x) (q y)) else f x y) (Y5 fun x y _ _=>by simp) fun i a g ha hg=>?_) fun g hg=>⟨g, rfl, ?_⟩
  . obtain ⟨rfl, hi⟩ := Y1 ha
    subst hg
    simp only [Res.okb]
    refine Ok.bind (Ok.forN (fun j g=>g = YE n fun x y=>if q x < i ∨ (q x = i /\ q y < j) then p (f (q x) (q y)) else f x y) (Y5 fun x y _ _=>by simp) fun j b g hb hg=>?_) fun g hg=>⟨g, rfl, ?_⟩
    . obtain ⟨rfl, hj⟩ := Y1 hb
      subst hg
      have hv:=hf i j hi hj
      rw [GX hi, Res.okb, Cm hj, Res.okb, hp.get hv, Res.okb, hp.get hi, Res.okb, GX (P.lt i hi), Res.okb, hp.get hj, Res.okb, GD (by rw [Y9]; exact P.lt j hj), Res.okb, GD (by rw [XU]; exact P.lt i hi), Res.okb]
      refine ⟨_, rfl, ?_⟩
      rw [Bz (P.lt i hi)]
      refine Y5 fun x y hx hy=>?_
      by_cases e : x = p i /\ y = p j
      . rw [if_pos e, e.1, e.2, P.qp i hi, P.qp j hj, if_pos (by omega)]
      . rw [if_neg e]
        have : ¬ (q x = i /\ q y = j):=fun ⟨e1, e2⟩=>e ⟨by rw [← e1, P.pq x hx], by rw [← e2, P.pq y hy]⟩
        by_cases c : q x < i ∨ (q x = i /\ q y < j)
        . rw [if_pos c, if_pos (by omega)]
        . rw [if_neg c, if_neg (by omega)]
    . subst hg
      rw [Yr]
      refine Y5 fun x y hx hy=>?_
      have:=P.qlt y hy
      by_cases c : q x < i + 1
      . rw [if_pos c, if_pos (by omega)]
      . rw [if_neg c, if_neg (by omega)]
  . subst hg
    rw [Yr]
    exact Y5 fun x y hx hy=>by rw [if_pos (P.qlt x hx)]
end My
namespace My
noncomputable def Qn (w : List Int) : Nat:=(w.filter fun x=>decide (x < 0)).length
noncomputable def Uq (w : List Int) : Nat:=max (Qn w) 1
noncomputable def Za (w : List Int) (first : Int) : List Int:=(List.range (max w.length 1)).map fun k=>first + (Qn (w.take k) : Int) % (Uq w : Int)
noncomputable def Yt : List (List Int) -> Int -> List (List Int)
  | [], _=>[]
  | w :: ws, f=>Za w f :: Yt ws (f + Uq w)
noncomputable def Ya (ws : List (List Int)) : Int:=(ws.map fun w=>(Uq w : Int)).sum
theorem DQ : Qn [] = 0:=rfl
theorem Db (a b : List Int) : Qn (a ++ b) = Qn a + Qn b:=by unfold Qn; rw [List.filter_append, List.length_append]
theorem QV {x : Int} (h : x < 0) : Qn [x] = 1:=by simp [Qn, h]
theorem QS {x : Int} (h : ¬ x < 0) : Qn [x] = 0:=by simp [Qn, h]
theorem YI {w : List Int} {i : Nat} {x : Int} (h : w[i]? = some x) : Qn (w.take (i + 1)) = Qn (w.take i) + Qn [x]:=by
  rw [List.take_add_one, h, Db]; rfl
theorem DH (w : List Int) : 0 < Uq w:=by unfold Uq; omega
theorem Z9 (w : List Int) (f : Int) : (Za w f).length = max w.length 1:=by simp [Za]
theorem KP (w : List Int) (f : Int) {k : Nat} (h : k < max w.length 1) : (Za w f)[k]? = some (f + (Qn (w.take k) : Int) % (Uq w : Int)):=by
  unfold Za
  rw [List.getElem?_map, List.getElem?_range h]; rfl
theorem Ys : ∀ (ws : List (List Int)) (f : Int), (Yt ws f).length = ws.length
  | [], _=>rfl
  | _ :: ws, f=>by show (Yt ws _).length + 1 = _; rw [Ys ws]; rfl
theorem ZY (w : List Int) (ws : List (List Int)) : Ya (w :: ws) = Uq w + Ya ws:=by simp [Ya]
theorem KQ (a b : List (List Int)) : Ya (a ++ b) = Ya a + Ya b:=by simp [Ya, List.sum_append]
theorem KU (w : List Int) : Ya [w] = Uq w:=by simp [Ya]
theorem Qu : ∀ (a b : List (List Int)) (f : Int), Yt (a ++ b) f = Yt a f ++ Yt b (f + Ya a)
  | [], b, f=>by simp [Yt, Ya]
  | w :: a, b, f=>by
    show Za w f :: Yt (a ++ b) (f + Uq w) = Za w f :: (Yt a (f + Uq w) ++ Yt b (f + Ya (w :: a)))
    rw [Qu a b, ZY, Int.add_assoc]
theorem Ju {ws : List (List Int)} {i : Nat} {w : List Int} (h : ws[i]? = some w) (f : Int) : Yt (ws.take (i + 1)) f = Yt (ws.take i) f ++ [Za w (f + Ya (ws.take i))]:=by
  rw [List.take_add_one, h, Qu]; rfl
theorem U3 {ws : List (List Int)} {i : Nat} {w : List Int} (h : ws[i]? = some w) : Ya (ws.take (i + 1)) = Ya (ws.take i) + Uq w:=by
  rw [List.take_add_one, h, KQ]
  show _ + Ya [w] = _
  rw [KU]
theorem K3 {ws : List (List Int)} {i : Nat} {w : List Int} (h : ws[i]? = some w) (f : Int) : (Yt ws f)[i]? = some (Za w (f + Ya (ws.take i))):=by
  have hl : i < ws.length:=(List.getElem?_eq_some_iff.mp h).1
  have e : ws = ws.take (i + 1) ++ ws.drop (i + 1):=(List.take_append_drop _ _).symm
  rw [e, Qu, Ju h, List.getElem?_append_left (by rw [List.length_append, Ys, List.length_take]; simp; omega),
    List.getElem?_append_right (by rw [Ys, List.length_take]; omega), Ys, List.length_take, Nat.min_eq_left (by omega), Nat.sub_self, List.take_append_of_le_length (by rw [List.length_take]; omega), List.take_take, Nat.min_eq_left (by omega)]
  rfl
structure LastIs (w : List Int) (i : Nat) (last : Int) : Prop where
  lo : -1 <= last
  hi : last < (i : Int)
  none : ∀ j : Nat, last < (j : Int) -> j < i -> ∀ x, w[j]? = some x -> ¬ x < 0
  at' : 0 <= last -> ∃ x, w[last.toNat]? = some x /\ x < 0
theorem LastIs.zero (w : List Int) : LastIs w 0 (-1):=⟨by omega, by omega, fun j _ h=>by omega, fun h=>by omega⟩
theorem LastIs.neg {w : List Int} {i : Nat} {x : Int} (e : w[i]? = some x) (hx : x < 0) : LastIs w (i + 1) (i : Int):=
  ⟨by omega, by omega, fun j h1 h2=>by omega, fun _=>⟨x, by simpa using e, hx⟩⟩
theorem LastIs.pos {w : List Int} {i : Nat} {x last : Int} (h : LastIs w i last) (e : w[i]? = some x) (hx : ¬ x < 0) : LastIs w (i + 1) last:=by
  have:=h.hi
  refine ⟨h.lo, by omega, fun j h1 h2 y hy=>?_, h.at'⟩
  by_cases hj : j = i
  . subst hj; rw [e] at hy; cases hy; exact hx
  . exact h.none j h1 (by omega) y hy
end My
namespace My
structure Spot (ws : List (List Int)) (x : Int) (i j : Nat) (w : List Int) : Prop where
  wi : ws[i]? = some w
  xj : w[j]? = some x
  first : ∀ m : Nat, m < j -> w[m]? ≠ some x
  none : ∀ (i' : Nat) (w' : List Int), i' < i -> ws[i']? = some w' -> x ∉ w'
theorem Spot.uniq {ws : List (List Int)} {x : Int} {i j i' j' : Nat} {w w' : List Int} (h : Spot ws x i j w) (h' : Spot ws x i' j' w') : i = i' /\ j = j' /\ w = w':=by
  have hi : i = i':=by
    rcases Nat.lt_trichotomy i i' with c | c | c
    . exact absurd (List.mem_of_getElem? h.xj) (h'.none i w c h.wi)
    . exact c
    . exact absurd (List.mem_of_getElem? h'.xj) (h.none i' w' c h'.wi)
  subst hi
  have hw : w = w':=Option.some.inj (h.wi.symm.trans h'.wi)
  subst hw
  refine ⟨rfl, ?_, rfl⟩
  rcases Nat.lt_trichotomy j j' with c | c | c
  . exact absurd h.xj (h'.first j c)
  . exact c
  . exact absurd h'.xj (h.first j' c)
theorem Spot.row {ws : List (List Int)} {x : Int} {i j : Nat} {w : List Int} (h : Spot ws x i j w) : ∃ r, (Yt ws 0)[i]? = some r /\ r.length = w.length /\ j < w.length:=by
  have hj:=(List.getElem?_eq_some_iff.mp h.xj).1
  exact ⟨_, K3 h.wi 0, by rw [Z9]; omega, hj⟩
noncomputable def Gk (ws : List (List Int)) (e : Int × Int) (v : List Int) : Prop:=∃ (i j k l : Nat) (w w' r r' : List Int) (o a b : Int), Spot ws e.1 i j w /\ Spot ws (-e.1) k l w' /\ (Yt ws 0)[i]? = some r /\ r[j]? = some o /\ (Yt ws 0)[k]? = some r' /\ r'[l]? = some a /\ r'[(l + 1) % w'.length]? = some b /\ v = [e.1, e.2, o, a, b]
theorem Gk.uniq {ws : List (List Int)} {e : Int × Int} {v v' : List Int} (h : Gk ws e v) (h' : Gk ws e v') : v = v':=by
  obtain ⟨i, j, k, l, w, w', r, r', o, a, b, s1, s2, h1, h2, h3, h4, h5, rfl⟩:=h
  obtain ⟨i2, j2, k2, l2, x, x', q, q', o2, a2, b2, t1, t2, g1, g2, g3, g4, g5, rfl⟩:=h'
  obtain ⟨rfl, rfl, rfl⟩:=s1.uniq t1
  obtain ⟨rfl, rfl, rfl⟩:=s2.uniq t2
  rw [h1] at g1; cases g1
  rw [h3] at g3; cases g3
  rw [h2] at g2; cases g2
  rw [h4] at g4; cases g4
  rw [h5] at g5; cases g5
  rfl
end My
namespace My
open PySem L2
section
variable {α β γ ρ : Type}
theorem Uc {f : γ -> α -> Res (Ctl ρ γ)} {g : γ} {v : ρ} : ∀ {as : List α} {i : Nat} {a : α}, as[i]? = some a -> (∀ (k : Nat) b, k < i -> as[k]? = some b -> f g b = .ok (.nx g)) -> f g a = .ok (.ret v) -> forC as g f = .ok (.ret v)
  | [], i, a, h, _, _=>by simp at h
  | b :: as, 0, a, h, _, hf=>by
    have : b = a:=by simpa using h
    subst this
    show (f g b).bind _ = _
    rw [hf, Res.okb]
  | b :: as, i + 1, a, h, hb, hf=>by
    show (f g b).bind _ = _
    rw [hb 0 b (by omega) rfl, Res.okb]
    exact Uc (i:=i) (by simpa using h) (fun k c hk hc=>hb (k + 1) c (by omega) (by simpa using hc)) hf
theorem Di {as : List α} {i : Nat} {a : α} (h : as[i]? = some a) : (Uk as)[i]? = some ((i : Int), a):=by
  have hi:=(List.getElem?_eq_some_iff.mp h).1
  unfold Uk
  rw [List.getElem?_zip_eq_some]
  exact ⟨by rw [List.getElem?_map, List.getElem?_range hi]; rfl, h⟩
theorem GH {w : List Int} {x : Int} {j : Nat} (h : w[j]? = some x) (hf : ∀ m : Nat, m < j -> w[m]? ≠ some x) : Cz w x = .ok (j : Int):=by
  obtain ⟨hj, e⟩:=List.getElem?_eq_some_iff.mp h
  have : w.findIdx? (fun b=>decide (b = x)) = some j:=by
    rw [List.findIdx?_eq_some_iff_getElem]
    refine ⟨hj, by simp [e], fun m hm=>?_⟩
    have hml : m < w.length:=by omega
    have:=hf m hm
    rw [List.getElem?_eq_getElem hml] at this
    simpa using this
  unfold Cz
  rw [this]
theorem Dp (w : List α) : Uz w none (some (-1)) = w.take (w.length - 1):=by
  unfold Uz
  rw [HT.sIx_none]
  have : HT.sIx w.length w.length (some (-1)) = w.length - 1:=by
    unfold HT.sIx
    simp
    omega
  rw [this]; simp
end
theorem YW {w : List Int} (hl : w.length <= 1000) : Xu w = .ok (Uq w : Int):=by
  unfold Xu
  simp only [Res.okb]
  rw [GB (p:=fun x=>decide (x < 0)) (h:=fun x=>x) (sz (by omega)) (fun _ _=>rfl) fun _ _ _=>rfl, Res.okb, List.map_id']
  congr 1
  show max ((Qn w : Nat) : Int) 1 = ((max (Qn w) 1 : Nat) : Int)
  omega
theorem Jm {w : List Int} {f : Int} (hl : w.length <= 1000) : X7 w f = .ok (Za w f):=by
  unfold X7
  simp only [Res.okb]
  rw [YW hl, XM]
  simp only [Res.okb]
  rw [Xv (sz (by simp)), Dp]
  simp only [Res.okb]
  apply Ok.eq
  refine Ok.bind (Ok.forN (fun i (g : Int × List Int)=>g = ((Qn (w.take i) : Int), (List.range (i + 1)).map fun k=>f + (Qn (w.take k) : Int) % (Uq w : Int))) ?_ fun i a g ha hg=>?_) fun g hg=>?_
  . simp [Qn]
  . have hi := (List.getElem?_eq_some_iff.mp ha).1
    rw [List.length_take] at hi
    have ha' : w[i]? = some a:=by
      rw [List.getElem?_take_of_lt (by omega)] at ha
      exact ha
    subst hg
    have hn:=YI ha'
    have hp:=DH w
    have hlen : ((List.range (i + 1)).map fun k=>f + (Qn (w.take k) : Int) % (Uq w : Int)).length < sizeLine:=Bn (by simp; omega)
    refine Ok.bind (R:=fun u=>u = (Qn (w.take (i + 1)) : Int)) (Ok.ite (fun c=>⟨_, rfl, ?_⟩) fun c=>⟨_, rfl, ?_⟩) fun u hu=>?_
    . rw [hn, QV (of_decide_eq_true c)]
      show (Qn (w.take i) : Int) + 1 = _
      omega
    . rw [hn, QS (of_decide_eq_false c)]
      show (Qn (w.take i) : Int) = _
      omega
    . subst hu
      rw [Y0 (by omega), Res.okb, Res.okb, Xv hlen]
      refine ⟨_, rfl, ?_⟩
      rw [List.range_succ (n:=i + 1), List.map_append]; rfl
  . subst hg
    refine ⟨_, rfl, ?_⟩
    rw [List.length_take, show min (w.length - 1) w.length + 1 = max w.length 1 by omega]
    rfl
theorem CW {D : List (List Int) × List (Int × Int)} (hd : D.1.length <= 1000) (hw : ∀ w ∈ D.1, w.length <= 1000) : JM D = .ok (Yt D.1 0):=by
  unfold JM
  simp only [Res.okb]
  apply Ok.eq
  refine Ok.bind (Ok.forN (fun i (g : Int × List (List Int))=>g = (Ya (D.1.take i), Yt (D.1.take i) 0)) rfl fun i a g ha hg=>?_) fun g hg=>?_
  . have hi := (List.getElem?_eq_some_iff.mp ha).1
    subst hg
    have hal:=hw a (List.mem_of_getElem? ha)
    rw [Jm hal, XM, Res.okb, YW hal, XM]
    rw [Xv (Bn (by rw [Ys, List.length_take]; omega))]
    simp only [Res.okb]
    refine ⟨_, rfl, ?_⟩
    rw [Ju ha, U3 ha, Int.zero_add]
  . subst hg
    rw [List.take_length]
    exact ⟨_, rfl, rfl⟩
theorem Ut {D : List (List Int) × List (Int × Int)} (hd : D.1.length <= 1000) (hw : ∀ w ∈ D.1, w.length <= 1000) : YD D = .ok (Ya D.1):=by
  unfold YD
  simp only [Res.okb]
  rw [Qr (h:=fun w=>(Uq w : Int)) (sz (by omega)) fun w h=>by rw [YW (hw w h), XM], Res.okb]
  rfl
theorem VE {D : List (List Int) × List (Int × Int)} {x : Int} {i j : Nat} {w : List Int} (h : Spot D.1 x i j w) : Ja D x = .ok ((i : Int), (j : Int)):=by
  unfold Ja
  simp only [Res.okb]
  rw [Uc (v:=((i : Int), (j : Int))) (Di h.wi) (fun k b hk hb=>?_) ?_]
  . rw [Res.okb, Gq]
  . rw [if_pos (decide_eq_true (List.mem_of_getElem? h.xj)), GH h.xj h.first]
    simp only [Res.okb]
  . obtain ⟨_, h2⟩ := V1 hb
    rw [if_neg]
    rw [decide_eq_true_eq]
    exact h.none k b.2 hk h2
end My
namespace My
open PySem L2
noncomputable def MG (N : Int) (m : Int × Int × Int × Int × Int) : Prop:=(m.2.1 = 1 ∨ m.2.1 = -1) /\ (0 <= m.2.2.1 /\ m.2.2.1 < N) /\ (0 <= m.2.2.2.1 /\ m.2.2.2.1 < N) /\ (0 <= m.2.2.2.2 /\ m.2.2.2.2 < N)
noncomputable def held (f : Nat -> Nat -> Nat) (cn : Int -> Nat) (m : Int × Int × Int × Int × Int) : Bool:=if m.2.1 = 1 then decide ((f (cn m.2.2.2.1) (cn m.2.2.1) : Int) = cn m.2.2.2.2) else decide ((f (cn m.2.2.2.2) (cn m.2.2.1) : Int) = cn m.2.2.2.1)
section
variable {n : Nat} {f : Nat -> Nat -> Nat} {c : List Int} {cn : Int -> Nat} {N : Int}
noncomputable def Qh (m : Int × Int × Int × Int × Int) : Int × Int × Int:=if m.2.1 = 1 then (m.2.2.2.1, m.2.2.1, m.2.2.2.2) else (m.2.2.2.2, m.2.2.1, m.2.2.2.1)
theorem B6 {D : List (List Int) × List (Int × Int)} {ms : List (Int × Int × Int × Int × Int)} (h : Zw D = .ok ms) (hl : ms.length <= 1000) : JK D = .ok (ms.map Qh):=by
  unfold JK
  simp only [Res.okb]
  rw [h]
  simp only [Res.okb]
  rw [Qj (h:=Qh) (sz (by simp; omega)) fun g hg e he=>?_]
  . rw [Res.okb, List.nil_append]
  . unfold Qh
    by_cases s : e.2.1 = 1
    . rw [if_pos (decide_eq_true s), if_pos s]
      simp only [Res.okb]
      exact Xv hg
    . rw [if_neg (by rw [decide_eq_true_eq]; exact s), if_neg s]
      simp only [Res.okb]
      exact Xv hg
theorem U0 {ms : List (Int × Int × Int × Int × Int)} (hl : ms.length <= 1000) (hc : ∀ k, 0 <= k -> k < N -> atR c k = .ok (cn k : Int) /\ cn k < n) (hm : ∀ m ∈ ms, MG N m) : YV (YE n f) c (ms.map Qh) = .ok (ms.all (held f cn)):=by
  unfold YV
  simp only [Res.okb]
  rw [Qr (h:=fun t : Int × Int × Int=>decide ((f (cn t.1) (cn t.2.1) : Int) = cn t.2.2)) (sz (by simp; omega)) fun t ht=>?_]
  . rw [Res.okb, List.map_map]
    congr 1
    rw [List.all_map]
    refine congrArg (fun F=>ms.all F) (funext fun m=>?_)
    show decide _ = held f cn m
    unfold held Qh
    by_cases s : m.2.1 = 1
    . simp only [if_pos s]
    . simp only [if_neg s]
  . obtain ⟨m, h, rfl⟩ := List.mem_map.mp ht
    obtain ⟨s, ⟨o0, o1⟩, ⟨a0, a1⟩, b0, b1⟩:=hm m h
    have key : ∀ x y z : Int, 0 <= x -> x < N -> 0 <= y -> y < N -> 0 <= z -> z < N -> ((((atR c x).bind fun x9=>atR (YE n f) x9).bind fun x12=>(atR c y).bind fun x13=>atR x12 x13).bind fun x16=>(atR c z).bind fun x17=>(Res.ok (decide (x16 = x17)) : Res Bool)) = .ok (decide ((f (cn x) (cn y) : Int) = cn z)):=fun x y z x0 x1 y0 y1 z0 z1=>by
      rw [(hc x x0 x1).1, (hc y y0 y1).1, (hc z z0 z1).1]
      simp only [Res.okb]
      rw [GX (hc x x0 x1).2]
      simp only [Res.okb]
      rw [Cm (hc y y0 y1).2]
      simp only [Res.okb]
    unfold Qh
    by_cases s : m.2.1 = 1
    . rw [if_pos s]; exact key _ _ _ a0 a1 o0 o1 b0 b1
    . rw [if_neg s]; exact key _ _ _ b0 b1 o0 o1 a0 a1
end
theorem Bu {c : List Int} {n : Nat} {N : Int} (hN : (c.length : Int) = N) (hc : ∀ x ∈ c, 0 <= x /\ x < (n : Int)) : ∀ k, 0 <= k -> k < N -> atR c k = .ok (((c.getD k.toNat 0).toNat : Nat) : Int) /\ (c.getD k.toNat 0).toNat < n:=fun k k0 k1=>by
  have hk : k.toNat < c.length:=by omega
  have hx:=hc c[k.toNat] (List.getElem_mem hk)
  have e : c.getD k.toNat 0 = c[k.toNat]:=by simp [hk]
  rw [e]
  refine ⟨?_, by omega⟩
  rw [QB (n:=k.toNat) (by omega) hk]
  congr 1
  omega
theorem HH (o a b : Int) : UV [o, a, b] = max (max o a) b:=rfl
theorem Bo {n i j : Nat} (hn : 0 < n) (h : i <= j) : n ^ i <= n ^ j:=Nat.pow_le_pow_right hn h
theorem BV {c : List Int} {n k : Nat} (hl : c.length = k) (hc : ∀ x ∈ c, 0 <= x /\ x < (n : Int)) : ∀ j, 0 <= j -> j < (k : Int) -> atR c j = .ok (((c.getD j.toNat 0).toNat : Nat) : Int) /\ (c.getD j.toNat 0).toNat < n:=Bu (by omega) hc
theorem FY (a b : Bool) : Gd (.ok a) (.ok b) = .ok (a && b):=EU fun _=>rfl
theorem Es (a b : Bool) : orR (.ok a) (.ok b) = .ok (a || b):=Io fun _=>rfl
end My
namespace My
open PySem L2
theorem Ji {α β : Type} {F : List β -> α -> Res (List β)} {p : α -> Bool} {h : α -> β} : ∀ {as : List α} {g : List β}, g.length + as.length <= 100000 -> (∀ (g : List β) a, a ∈ as -> g.length < 100000 -> F g a = .ok (if p a = true then g ++ [h a] else g)) -> forN as g F = .ok (g ++ (as.filter p).map h)
  | [], g, _, _=>by rw [List.filter_nil, List.map_nil, List.append_nil]; rfl
  | a :: as, g, hl, hf=>by
    show (F g a).bind _ = _
    rw [List.length_cons] at hl
    rw [hf g a List.mem_cons_self (by omega), Res.okb]
    cases hp : p a with
    | true=>
      rw [if_pos rfl, List.filter_cons_of_pos hp, List.map_cons]
      refine (Ji (by simp; omega) fun g b hb=>hf g b (List.mem_cons_of_mem _ hb)).trans ?_
      rw [List.append_assoc]; rfl
    | false=>
      rw [if_neg Bool.false_ne_true, List.filter_cons_of_neg (by rw [hp]; exact Bool.false_ne_true)]
      exact Ji (by omega) fun g b hb=>hf g b (List.mem_cons_of_mem _ hb)
noncomputable abbrev M5:=Int × Int × Int × Int × Int
noncomputable def Uy (c : List Int) (i : Int) : Nat:=(c.getD i.toNat 0).toNat
noncomputable def ZP (n : Nat) (f : Nat -> Nat -> Nat) (ms : List M5) (c : List Int) : List (List Int):=((((List.range n).map fun (i : Nat)=>(i : Int))).filter fun j=>ms.all (held f (Uy (c ++ [j])))).map fun j=>c ++ [j]
noncomputable def Qv (n : Nat) (f : Nat -> Nat -> Nat) (ms : List M5) (T : List (List Int)) : List (List Int):=T.flatMap (ZP n f ms)
noncomputable def JS (k : Nat) (m : M5) : Bool:=decide (UV [m.2.2.1, m.2.2.2.1, m.2.2.2.2] = (k : Int))
noncomputable def TT (n : Nat) (f : Nat -> Nat -> Nat) (ms : List M5) : Nat -> List (List Int)
  | 0=>[[]]
  | k + 1=>Qv n f (ms.filter (JS k)) (TT n f ms k)
noncomputable def HL (n k : Nat) (T : List (List Int)) : Prop:=T.length <= n ^ k /\ ∀ c ∈ T, c.length = k /\ ∀ x ∈ c, 0 <= x /\ x < (n : Int)
section
variable {n : Nat} {f : Nat -> Nat -> Nat} {ms : List M5}
theorem Kv (c : List Int) : (ZP n f ms c).length <= n:=by
  unfold ZP
  rw [List.length_map]
  exact Nat.le_trans (List.length_filter_le ..) (by simp)
theorem Ky : ∀ T : List (List Int), (Qv n f ms T).length <= T.length * n
  | []=>by simp [Qv]
  | c :: T=>by
    have h:=Ky T
    have h2:=Kv (n:=n) (f:=f) (ms:=ms) c
    unfold Qv at h ⊢
    rw [List.flatMap_cons, List.length_append, List.length_cons, Nat.succ_mul]
    omega
theorem Fv {k : Nat} {T : List (List Int)} (h : HL n k T) : HL n (k + 1) (Qv n f ms T):=by
  refine ⟨Nat.le_trans (Ky T) (by rw [Nat.pow_succ]; exact Nat.mul_le_mul_right n h.1), fun d hd=>?_⟩
  obtain ⟨c, hc, hd⟩:=List.mem_flatMap.mp hd
  unfold ZP at hd
  obtain ⟨j, hj, rfl⟩:=List.mem_map.mp hd
  obtain ⟨i, hi, rfl⟩:=Zk (List.mem_filter.mp hj).1
  obtain ⟨h1, h2⟩:=h.2 c hc
  refine ⟨by simp [h1], fun x hx=>?_⟩
  rcases List.mem_append.mp hx with z | z
  . exact h2 x z
  . rw [List.mem_singleton] at z; omega
theorem Jh : ∀ k, HL n k (TT n f ms k)
  | 0=>⟨by simp [TT], fun c hc=>by
    have : c = []:=by simpa [TT] using hc
    subst this
    exact ⟨rfl, fun x hx=>by cases hx⟩⟩
  | k + 1=>Fv (Jh k)
theorem outer {F : List (List Int) -> List Int -> Res (List (List Int))} {T : List (List Int)} (hT : T.length * n <= 90000) (hF : ∀ (g : List (List Int)) c, c ∈ T -> g.length + n <= 90000 -> F g c = .ok (g ++ ZP n f ms c)) : forN T [] F = .ok (Qv n f ms T):=by
  obtain ⟨r, e, h⟩:=Vf (f:=F) (fun i (g : List (List Int))=>g = (T.take i).flatMap (ZP n f ms) /\ g.length <= i * n) (as:=T) (g:=[]) ⟨by simp, by simp⟩ fun i c g hc hg=>by
    have hi:=(List.getElem?_eq_some_iff.mp hc).1
    obtain ⟨h1, h2⟩:=hg
    have h3 : (i + 1) * n <= T.length * n:=Nat.mul_le_mul_right n (by omega)
    rw [Nat.succ_mul] at h3
    refine ⟨_, hF g c (List.mem_of_getElem? hc) (by omega), ?_, ?_⟩
    . rw [List.take_add_one, hc, List.flatMap_append, ← h1]
      simp
    . rw [List.length_append, Nat.succ_mul]
      have:=Kv (n:=n) (f:=f) (ms:=ms) c
      omega
  rw [e, h.1, List.take_length]
  rfl
theorem Hx {N : Int} (hm : ∀ m ∈ ms, MG N m) (k : Nat) : ∀ m ∈ ms.filter (JS k), MG ((k + 1 : Nat) : Int) m:=fun m h=>by
  obtain ⟨h1, h2⟩:=List.mem_filter.mp h
  unfold JS at h2
  rw [decide_eq_true_eq, HH] at h2
  obtain ⟨s, o, a, b⟩:=hm m h1
  exact ⟨s, ⟨o.1, by omega⟩, ⟨a.1, by omega⟩, b.1, by omega⟩
theorem Ic {c : List Int} {k : Nat} (h1 : c.length = k) (h2 : ∀ x ∈ c, 0 <= x /\ x < (n : Int)) {j : Nat} (hj : j < n) : ∀ i, 0 <= i -> i < ((k + 1 : Nat) : Int) -> atR (c ++ [(j : Int)]) i = .ok (Uy (c ++ [(j : Int)]) i : Int) /\ Uy (c ++ [(j : Int)]) i < n:=
  BV (k:=k + 1) (by simp [h1]) fun x hx=>by
    rcases List.mem_append.mp hx with z | z
    . exact h2 x z
    . rw [List.mem_singleton] at z; omega
theorem IS {c : List Int} {j : Int} (h : c.length <= 1000) : ((chk ([j].length <= sizeLine) (Res.ok [j])).bind fun x=>ET c x) = .ok (c ++ [j]):=by
  rw [Xv (sz (by simp)), Res.okb]
  exact Xv (sz (by simp; omega))
theorem GK {N : Int} {k : Nat} {T : List (List Int)} (hk : k <= 900) (hl : ms.length <= 1000) (hm : ∀ m ∈ ms, MG N m) (hT : HL n k T) (hb : T.length * n <= 90000) (hn : n <= 1000) : XW T (YE n f) ((ms.filter (JS k)).map Qh) = .ok (Qv n f (ms.filter (JS k)) T):=by
  unfold XW
  simp only [Res.okb, XU]
  rw [outer (n:=n) (f:=f) (ms:=ms.filter (JS k)) hb, Res.okb]
  intro g c hc hg
  obtain ⟨h1, h2⟩:=hT.2 c hc
  rw [ZU (by omega), Res.okb, Ji (p:=fun j=>(ms.filter (JS k)).all (held f (Uy (c ++ [j])))) (h:=fun j=>c ++ [j]) (by simp; omega), Res.okb]
  . rfl
  intro g' a ha hg'
  obtain ⟨j, hj, rfl⟩:=Zk ha
  rw [IS (by omega), Res.okb, U0 (cn:=Uy (c ++ [(j : Int)])) (Nat.le_trans (List.length_filter_le ..) hl) (Ic h1 h2 hj) (Hx hm k), XM, Res.okb]
  cases (ms.filter (JS k)).all (held f (Uy (c ++ [(j : Int)]))) with
  | true=>rw [if_pos rfl, Xv (Bn (by omega))]; rfl
  | false=>rw [if_neg Bool.false_ne_true]; rfl
theorem BG (k : Nat) : (ms.map Qh).filter (fun t=>decide (UV [t.1, t.2.1, t.2.2] = (k : Int))) = (ms.filter (JS k)).map Qh:=by
  induction ms with
  | nil=>rfl
  | cons m t ih=>
    have e : decide (UV [(Qh m).1, (Qh m).2.1, (Qh m).2.2] = (k : Int)) = JS k m:=by
      unfold Qh JS
      rw [HH]
      by_cases s : m.2.1 = 1
      . rw [if_pos s, HH]
        congr 1
        rw [Int.max_comm m.2.2.2.1 m.2.2.1]
      . rw [if_neg s, HH]
        congr 1
        rw [Int.max_comm m.2.2.2.2 m.2.2.1, Int.max_assoc, Int.max_comm m.2.2.2.2, ← Int.max_assoc]
    rw [List.map_cons, List.filter_cons, List.filter_cons, e, ih]
    cases JS k m <;> rfl
end
end My
namespace My
open PySem L2
section
variable {n : Nat} {f : Nat -> Nat -> Nat} {ms : List M5}
theorem Kp {c d : List Int} : d ∈ ZP n f ms c ↔ ∃ j : Nat, j < n /\ (∀ m ∈ ms, held f (Uy (c ++ [(j : Int)])) m = true) /\ d = c ++ [(j : Int)]:=by
  unfold ZP
  rw [List.mem_map]
  constructor
  . rintro ⟨j, hj, rfl⟩
    obtain ⟨h1, h2⟩:=List.mem_filter.mp hj
    obtain ⟨i, hi, rfl⟩:=Zk h1
    exact ⟨i, hi, List.all_eq_true.mp h2, rfl⟩
  . rintro ⟨j, hj, h, rfl⟩
    exact ⟨(j : Int), List.mem_filter.mpr ⟨List.mem_map.mpr ⟨j, List.mem_range.mpr hj, rfl⟩, List.all_eq_true.mpr h⟩, rfl⟩
theorem Hk : ∀ {c c' : List Int} {j j' : Int}, c.length = c'.length -> ltL c c' = true -> ltL (c ++ [j]) (c' ++ [j']) = true:=by
  intro c
  induction c with
  | nil=>
    intro c' j j' h hl
    cases c' with
    | nil=>cases hl
    | cons=>cases h
  | cons a c ih=>
    intro c' j j' h hl
    cases c' with
    | nil=>cases h
    | cons b c'=>
      show (if a = b then ltL (c ++ [j]) (c' ++ [j']) else decide (a < b)) = true
      have hl : (if a = b then ltL c c' else decide (a < b)) = true:=hl
      by_cases e : a = b
      . rw [if_pos e] at hl ⊢
        exact ih (Nat.succ.inj h) hl
      . rw [if_neg e] at hl ⊢
        exact hl
theorem BL {c : List Int} {j j' : Int} (h : j < j') : ltL (c ++ [j]) (c ++ [j']) = true:=by
  induction c with
  | nil=>
    show (if j = j' then _ else decide (j < j')) = true
    rw [if_neg (by omega)]
    exact decide_eq_true h
  | cons a c ih=>
    show (if a = a then ltL (c ++ [j]) (c ++ [j']) else _) = true
    rw [if_pos rfl]
    exact ih
theorem UO (c : List Int) : (ZP n f ms c).Pairwise fun a b=>ltL a b = true:=by
  unfold ZP
  rw [List.pairwise_map]
  refine List.Pairwise.filter _ ?_
  rw [List.pairwise_map]
  exact List.pairwise_lt_range.imp fun h=>BL (by omega)
theorem F4 : ∀ k, (TT n f ms k).Pairwise fun a b=>ltL a b = true:=by
  intro k
  induction k with
  | zero=>exact List.pairwise_singleton ..
  | succ k ih=>
    show ((TT n f ms k).flatMap (ZP n f (ms.filter (JS k)))).Pairwise _
    rw [List.pairwise_flatMap]
    refine ⟨fun c _=>UO c, ih.imp_of_mem fun {a b} ha hb hab x hx y hy=>?_⟩
    obtain ⟨j, _, _, rfl⟩:=Kp.mp hx
    obtain ⟨j', _, _, rfl⟩:=Kp.mp hy
    exact Hk ((((Jh (n:=n) (f:=f) (ms:=ms) k).2 a ha).1).trans ((Jh (n:=n) (f:=f) (ms:=ms) k).2 b hb).1.symm) hab
end
end My
namespace My
open PySem L2
noncomputable def Yp (b : Nat -> Bool) : Nat -> List Int
  | 0=>[]
  | k + 1=>Yp b k ++ (if b k = true then [(k : Int) + 1, -((k : Int) + 1)] else [-((k : Int) + 1), (k : Int) + 1])
section
variable {b : Nat -> Bool}
theorem Qd : ∀ c, (Yp b c).length = 2 * c
  | 0=>rfl
  | c + 1=>by
    show (Yp b c ++ _).length = _
    rw [List.length_append, Qd c]
    split <;> simp <;> omega
theorem JP : ∀ (c k : Nat), k < c -> (Yp b c)[2 * k]? = some (if b k = true then (k : Int) + 1 else -((k : Int) + 1)) /\ (Yp b c)[2 * k + 1]? = some (if b k = true then -((k : Int) + 1) else (k : Int) + 1)
  | 0, k, h=>by omega
  | c + 1, k, h=>by
    have hl:=Qd (b:=b) c
    show (Yp b c ++ _)[2 * k]? = _ /\ (Yp b c ++ _)[2 * k + 1]? = _
    rcases Nat.lt_or_ge k c with q | q
    . obtain ⟨h1, h2⟩ := JP c k q
      rw [List.getElem?_append_left (by omega), List.getElem?_append_left (by omega)]
      exact ⟨h1, h2⟩
    . have e : k = c := by omega
      subst e
      rw [List.getElem?_append_right (by omega), List.getElem?_append_right (by omega), hl, Nat.sub_self, show 2 * k + 1 - 2 * k = 1 by omega]
      cases b k <;> exact ⟨rfl, rfl⟩
theorem Dr {c m k : Nat} {x : Int} (h : (Yp b c)[m]? = some x) (hm : m < 2 * k) : x.natAbs <= k:=by
  have hl:=(List.getElem?_eq_some_iff.mp h).1
  rw [Qd] at hl
  obtain ⟨h1, h2⟩:=JP (b:=b) c (m / 2) (by omega)
  rcases Nat.mod_two_eq_zero_or_one m with e | e
  . rw [show m = 2 * (m / 2) by omega, h1] at h
    have:=Option.some.inj h
    split at this <;> omega
  . rw [show m = 2 * (m / 2) + 1 by omega, h2] at h
    have:=Option.some.inj h
    split at this <;> omega
theorem Jz (c : Nat) : ∀ k, k <= c -> Qn ((Yp b c).take (2 * k)) = k
  | 0, _=>rfl
  | k + 1, h=>by
    obtain ⟨h1, h2⟩:=JP (b:=b) c k (by omega)
    have e1:=YI h1
    have e2:=YI h2
    rw [Jz c k (by omega)] at e1
    rw [show 2 * (k + 1) = 2 * k + 1 + 1 by omega, e2, e1]
    cases b k with
    | true=>rw [if_pos rfl, if_pos rfl, QS (by omega), QV (by omega)]
    | false=>rw [if_neg Bool.false_ne_true, if_neg Bool.false_ne_true, QV (by omega), QS (by omega)]
theorem Do {c k : Nat} (h : k < c) : Qn ((Yp b c).take (2 * k + 1)) = if b k = true then k else k + 1:=by
  obtain ⟨h1, h2⟩:=JP (b:=b) c k h
  rw [YI h1, Jz c k (by omega)]
  cases b k with
  | true=>rw [if_pos rfl, if_pos rfl, QS (by omega)]; rfl
  | false=>rw [if_neg Bool.false_ne_true, if_neg Bool.false_ne_true, QV (by omega)]
theorem Hu (c : Nat) : Qn (Yp b c) = c:=by
  have h:=Jz (b:=b) c c (Nat.le_refl _)
  rwa [← Qd (b:=b), List.take_length] at h
theorem G4 (c : Nat) : Uq (Yp b c) = max c 1:=by unfold Uq; rw [Hu]
end
noncomputable def Zv (b : Nat -> Bool) (s : Nat -> Int) (c e : Nat) : List (List Int) × List (Int × Int):=(Yp b c :: List.replicate e [], (List.range c).map fun (k : Nat)=>((k : Int) + 1, s k))
noncomputable def Ig (b : Nat -> Bool) (c : Nat) (e : Int × Int) : M5:=(e.1, e.2, if b (e.1 - 1).toNat = true then (((e.1 - 1).toNat : Nat) : Int) else ((((e.1 - 1).toNat + 1) % c : Nat) : Int), (((e.1 - 1).toNat : Nat) : Int), ((((e.1 - 1).toNat + 1) % c : Nat) : Int))
noncomputable def mkM (b : Nat -> Bool) (s : Nat -> Int) (c k : Nat) : M5:=((k : Int) + 1, s k, if b k = true then (k : Int) else (((k + 1) % c : Nat) : Int), (k : Int), (((k + 1) % c : Nat) : Int))
noncomputable def Y8 (b : Nat -> Bool) (s : Nat -> Int) (c : Nat) : List M5:=(List.range c).map (mkM b s c)
theorem CN (b : Nat -> Bool) (s : Nat -> Int) (c k : Nat) : Ig b c ((k : Int) + 1, s k) = mkM b s c k:=by
  unfold Ig mkM
  have e : ((k : Int) + 1 - 1).toNat = k:=by omega
  simp only [e]
section
variable {b : Nat -> Bool} {s : Nat -> Int} {c e : Nat}
theorem Qe {k j : Nat} {x : Int} (hx : x.natAbs = k + 1) (hj : (Yp b c)[j]? = some x) (hjk : j <= 2 * k + 1) : Spot (Zv b s c e).1 x 0 j (Yp b c):=by
  refine ⟨rfl, hj, fun m hm h=>?_, fun i w hi=>by omega⟩
  by_cases q : m < 2 * k
  . have:=Dr h q; omega
  . have hl := (List.getElem?_eq_some_iff.mp hj).1
    rw [Qd] at hl
    have e1 : m = 2 * k:=by omega
    have e2 : j = 2 * k + 1:=by omega
    subst e1 e2
    obtain ⟨h1, h2⟩:=JP (b:=b) c k (by omega)
    rw [h1] at h
    rw [h2] at hj
    have a1:=Option.some.inj h
    have a2:=Option.some.inj hj
    cases hb : b k <;> rw [hb] at a1 a2 <;> simp at a1 a2 <;> omega
theorem Ve (h : e <= 100) : (Zv b s c e).1.length <= 1000:=by
  show (Yp b c :: List.replicate e []).length <= 1000
  simp; omega
theorem JI (h : c <= 100) : ∀ w ∈ (Zv b s c e).1, w.length <= 1000:=fun w hw=>by
  rcases List.mem_cons.mp hw with rfl | hw
  . rw [Qd]; omega
  . rw [(List.mem_replicate.mp hw).2]; simp
theorem Kg : Ya (Zv b s c e).1 = ((max c 1 + e : Nat) : Int):=by
  show Ya (Yp b c :: List.replicate e []) = _
  rw [ZY, G4]
  have : ∀ e : Nat, Ya (List.replicate e []) = (e : Int):=fun e=>by
    induction e with
    | zero=>rfl
    | succ e ih=>rw [List.replicate_succ, ZY, ih]; show ((max 0 1 : Nat) : Int) + _ = _; omega
  rw [this]; omega
theorem Zl {j : Nat} (hj : j < 2 * c) : (Za (Yp b c) 0)[j]? = some (((Qn ((Yp b c).take j) % c : Nat)) : Int):=by
  rw [KP _ _ (by rw [Qd]; omega), G4, Nat.max_eq_left (by omega), Int.zero_add, Int.natCast_emod]
theorem K0 (hc : c <= 100) (he : e <= 100) : Zw (Zv b s c e) = .ok (Y8 b s c):=by
  unfold Zw
  simp only [Res.okb]
  rw [CW (Ve he) (JI hc), XM]
  simp only [Res.okb]
  rw [Qj (h:=Ig b c) (sz (by show _ + ((List.range c).map _).length <= _; simp; omega)) fun g hg a ha=>?_]
  . rw [Res.okb, List.nil_append]
    show Res.ok (((List.range c).map _).map _) = _
    rw [List.map_map]
    refine congrArg Res.ok (List.map_congr_left fun k _=>CN b s c k)
  . obtain ⟨k, hk, rfl⟩ := List.mem_map.mp (show a ∈ (List.range c).map _ from ha)
    have hk : k < c:=List.mem_range.mp hk
    rw [CN]
    obtain ⟨h1, h2⟩:=JP (b:=b) c k hk
    have hrow : (Yt (Zv b s c e).1 0)[0]? = some (Za (Yp b c) 0):=rfl
    have hn0:=Jz (b:=b) c k (by omega)
    have hn1:=Do (b:=b) hk
    have hn2:=Jz (b:=b) c (k + 1) (by omega)
    have hwl : (Za (Yp b c) 0).length = 2 * c:=by rw [Z9, Qd]; omega
    have hmod : k % c = k:=Nat.mod_eq_of_lt hk
    cases hb : b k with
    | true=>
      rw [hb, if_pos rfl] at h1 h2 hn1
      have s1 : Spot (Zv b s c e).1 ((k : Int) + 1) 0 (2 * k) (Yp b c):=Qe (k:=k) (by omega) h1 (by omega)
      have s2 : Spot (Zv b s c e).1 (-((k : Int) + 1)) 0 (2 * k + 1) (Yp b c):=Qe (k:=k) (by omega) h2 (by omega)
      rw [VE s1, VE s2]
      simp only [Res.okb]
      have w1:=Zl (b:=b) (c:=c) (j:=2 * k) (by omega)
      have w2:=Zl (b:=b) (c:=c) (j:=2 * k + 1) (by omega)
      rw [hn0, hmod] at w1
      rw [hn1, hmod] at w2
      have w3 : (Za (Yp b c) 0)[(2 * k + 1 + 1) % (2 * c)]? = some (((k + 1) % c : Nat) : Int):=by
        rcases Nat.lt_or_ge (k + 1) c with q | q
        . rw [Nat.mod_eq_of_lt (by omega), Zl (by omega), show 2 * k + 1 + 1 = 2 * (k + 1) by omega, hn2]
        . rw [show 2 * k + 1 + 1 = 2 * c by omega, Nat.mod_self, show k + 1 = c by omega, Nat.mod_self, Zl (by omega), List.take_zero, DQ, Nat.zero_mod]
      rw [Yc hrow]
      simp only [Res.okb]
      rw [Yc w1, Yc w2, hwl]
      simp only [Res.okb]
      rw [Y0 (by omega), show (((2 * k + 1 : Nat) : Int) + 1) % ((2 * c : Nat) : Int) = (((2 * k + 1 + 1) % (2 * c) : Nat) : Int) by rw [Int.natCast_emod]; rfl, Res.okb, Yc w3]
      simp only [Res.okb]
      rw [Xv hg]
      unfold mkM
      rw [hb, if_pos rfl]
    | false=>
      rw [hb, if_neg Bool.false_ne_true] at h1 h2 hn1
      have s1 : Spot (Zv b s c e).1 ((k : Int) + 1) 0 (2 * k + 1) (Yp b c):=Qe (k:=k) (by omega) h2 (by omega)
      have s2 : Spot (Zv b s c e).1 (-((k : Int) + 1)) 0 (2 * k) (Yp b c):=Qe (k:=k) (by omega) h1 (by omega)
      rw [VE s1, VE s2]
      simp only [Res.okb]
      have w1:=Zl (b:=b) (c:=c) (j:=2 * k) (by omega)
      have w2:=Zl (b:=b) (c:=c) (j:=2 * k + 1) (by omega)
      rw [hn0, hmod] at w1
      rw [hn1] at w2
      rw [Yc hrow]
      simp only [Res.okb]
      rw [Yc w1, Yc w2, hwl]
      simp only [Res.okb]
      rw [Y0 (by omega), show (((2 * k : Nat) : Int) + 1) % ((2 * c : Nat) : Int) = (((2 * k + 1) % (2 * c) : Nat) : Int) by rw [Int.natCast_emod]; rfl, Nat.mod_eq_of_lt (by omega), Res.okb, Yc w2]
      simp only [Res.okb]
      rw [Xv hg]
      unfold mkM
      rw [hb, if_neg Bool.false_ne_true]
theorem De (hs : ∀ k, k < c -> s k = 1 ∨ s k = -1) {N : Int} (hN : (c : Int) <= N) : ∀ m ∈ Y8 b s c, MG N m:=fun m hm=>by
  obtain ⟨k, hk, rfl⟩:=List.mem_map.mp hm
  have hk:=List.mem_range.mp hk
  have hq : (k + 1) % c < c:=Nat.mod_lt _ (by omega)
  unfold mkM MG
  refine ⟨hs k hk, ?_, ?_, ?_⟩
  . show 0 <= (if b k = true then _ else _) /\ (if b k = true then _ else _) < N
    split <;> omega
  . show 0 <= (k : Int) /\ (k : Int) < N
    omega
  . show 0 <= (((k + 1) % c : Nat) : Int) /\ (((k + 1) % c : Nat) : Int) < N
    omega
end
end My
namespace My
open PySem L2
theorem Vo {n K : Nat} (h24 : n <= 100) (hK : K <= 3000) : Zt (n : Int) (K : Int) = .ok ((n ^ K : Nat) : Int):=by
  unfold Zt
  simp only [Res.okb]
  rw [ZU (by omega)]
  simp only [Res.okb]
  apply Ok.eq
  refine Ok.bind (Ok.forN (fun i (g : Int)=>g = ((n ^ i : Nat) : Int)) rfl fun i a g ha hg=>?_) fun g hg=>?_
  . subst hg
    rw [Jb (by omega) (by omega), Res.okb]
    refine ⟨_, rfl, ?_⟩
    rw [Nat.pow_succ]
    exact (Int.natCast_mul _ _).symm
  . rw [Yr] at hg
    exact ⟨_, rfl, hg⟩
theorem GZ {n K : Nat} (h24 : n <= 100) (hK : K <= 3000) : XQ (n : Int) (K : Int) = if 65536 < n ^ K then .err ⟨"TooMuch", Pay.non⟩ else .ok ():=by
  unfold XQ
  simp only [Res.okb]
  rw [ZU (by omega), Res.okb]
  have hf : Ok (forN ((List.range K).map fun (i : Nat)=>(i : Int)) (1 : Int) fun g10 a12=>Res.bind (QW g10 (n : Int)) fun a16=>Res.ok a16) fun g=>g = ((n ^ K : Nat) : Int):=by
    refine Ok.imp (Ok.forN (fun i (g : Int)=>g = ((n ^ i : Nat) : Int)) rfl fun i a g ha hg=>?_) fun g hg=>?_
    . subst hg
      rw [Jb (by omega) (by omega), Res.okb]
      refine ⟨_, rfl, ?_⟩
      rw [Nat.pow_succ]
      exact (Int.natCast_mul _ _).symm
    . rw [Yr] at hg
      exact hg
  rw [hf.eq, Res.okb]
  by_cases c : 65536 < n ^ K
  . rw [if_pos c, if_pos (decide_eq_true (by omega))]; rfl
  . rw [if_neg c, if_neg (by rw [decide_eq_true_eq]; omega)]
section
variable {D : List (List Int) × List (Int × Int)} {n K : Nat} {f : Nat -> Nat -> Nat}
theorem E4 (few : D.1.length <= 1000) (short : ∀ w ∈ D.1, w.length <= 1000) (hn : 0 < n) (h24 : n <= 100) (hK : Ya D.1 = (K : Int)) (hK2 : K <= 900) {ms : List M5} (e1 : Zw D = .ok ms) (hl : ms.length <= 1000) (hm : ∀ m ∈ ms, MG (Ya D.1) m) : XF D (YE n f) = if 65536 < n ^ K then .err ⟨"TooMuch", Pay.non⟩ else .ok (TT n f ms K):=by
  unfold XF
  simp only [Res.okb, XU]
  rw [Ut few short, XM, Res.okb, hK, GZ h24 (by omega)]
  by_cases c : 65536 < n ^ K
  . rw [if_pos c, if_pos c]; rfl
  rw [if_neg c, if_neg c, Res.okb, B6 e1 hl, Res.okb, Xv (sz (by simp)), Res.okb, ZU (by omega), Res.okb]
  apply Ok.eq
  refine Ok.bind (Ok.forN (fun k (T : List (List Int))=>T = TT n f ms k) rfl fun k a T ha hT=>?_) fun T hT=>?_
  . obtain ⟨rfl, hk⟩ := Y1 ha
    subst hT
    have hc:=Jh (n:=n) (f:=f) (ms:=ms) k
    have hpk : n ^ (k + 1) <= 65536:=Nat.le_trans (Bo hn (by omega)) (Nat.le_of_not_lt c)
    have hb : (TT n f ms k).length * n <= 90000:=by
      have:=Nat.mul_le_mul_right n hc.1
      have e : n ^ (k + 1) = n ^ k * n:=Nat.pow_succ ..
      omega
    rw [GB (as:=ms.map Qh) (f:=fun t=>Res.ok t) (p:=fun t : Int × Int × Int=>decide (UV [t.1, t.2.1, t.2.2] = (k : Int))) (h:=fun t=>t) (sz (by rw [List.length_map]; omega)) (fun t _=>(by rw [show Ia [t.1, t.2.1, t.2.2] = .ok (UV [t.1, t.2.1, t.2.2]) from rfl]; rfl)) fun _ _ _=>rfl, List.map_id', Res.okb, BG, GK (by omega) hl hm hc hb (by omega), XM]
    exact ⟨_, rfl, rfl⟩
  . rw [Yr] at hT
    exact ⟨_, rfl, hT⟩
end
theorem Q6 {α β : Type} {g : α -> List β} {h : α -> β} : ∀ {l : List α}, (∀ a ∈ l, g a = [h a]) -> l.flatMap g = l.map h
  | [], _=>rfl
  | a :: l, q=>by rw [List.flatMap_cons, q a List.mem_cons_self, Q6 fun b hb=>q b (List.mem_cons_of_mem _ hb)]; rfl
theorem QC (a : Nat) : ∀ n, a < n -> (List.range n).filter (fun j=>decide (j = a)) = [a]
  | 0, h=>by omega
  | n + 1, h=>by
    rw [List.range_succ, List.filter_append]
    rcases Nat.lt_or_ge a n with q | q
    . rw [QC a n q, List.filter_cons_of_neg (by simp; omega)]; rfl
    . have e : a = n := by omega
      subst e
      rw [List.filter_cons_of_pos (by simp), List.filter_eq_nil_iff.mpr fun j hj=>by have:=List.mem_range.mp hj; simp; omega]; rfl
section
variable {n : Nat} {f : Nat -> Nat -> Nat} {ms : List M5}
theorem VO {c : List Int} (h : ∀ j : Nat, j < n -> ms.all (held f (Uy (c ++ [(j : Int)]))) = true) : ZP n f ms c = (List.range n).map fun (j : Nat)=>c ++ [(j : Int)]:=by
  unfold ZP
  rw [List.filter_eq_self.mpr fun j hj=>by obtain ⟨i, hi, rfl⟩:=Zk hj; exact h i hi, List.map_map]
  rfl
theorem DM {c : List Int} (h : ms = []) : ZP n f ms c = (List.range n).map fun (j : Nat)=>c ++ [(j : Int)]:=VO fun j _=>by rw [h]; rfl
theorem DG {c : List Int} {a : Nat} (ha : a < n) (h : ∀ j : Nat, j < n -> (ms.all (held f (Uy (c ++ [(j : Int)]))) = true ↔ j = a)) : ZP n f ms c = [c ++ [(a : Int)]]:=by
  unfold ZP
  rw [List.filter_map, show (List.range n).filter ((fun j=>ms.all (held f (Uy (c ++ [j])))) ∘ fun (i : Nat)=>(i : Int)) = (List.range n).filter (fun j=>decide (j = a)) from List.filter_congr fun j hj=>?_, QC a n ha]
  . rfl
  . have := h j (List.mem_range.mp hj)
    show ms.all (held f (Uy (c ++ [(j : Int)]))) = decide (j = a)
    rw [Bool.eq_iff_iff, decide_eq_true_eq]
    exact this
end
section
variable {n : Nat} {f : Nat -> Nat -> Nat} {b : Nat -> Bool} {s : Nat -> Int} {c : Nat}
theorem Jq (F : GoodF n f) {cn : Int -> Nat} {k : Nat} (h1 : cn (k : Int) < n) (h2 : cn (((k + 1) % c : Nat) : Int) < n) : held f cn (mkM b s c k) = true ↔ cn (((k + 1) % c : Nat) : Int) = cn (k : Int):=by
  unfold held mkM
  show (if s k = 1 then decide ((f (cn (k : Int)) (cn (if b k = true then (k : Int) else (((k + 1) % c : Nat) : Int))) : Int) = (cn (((k + 1) % c : Nat) : Int) : Int)) else decide ((f (cn (((k + 1) % c : Nat) : Int)) (cn (if b k = true then (k : Int) else (((k + 1) % c : Nat) : Int))) : Int) = (cn (k : Int) : Int))) = true ↔ _
  generalize hx : cn (k : Int) = x at h1
  generalize hy : cn (((k + 1) % c : Nat) : Int) = y at h2
  cases b k with
  | true=>
    rw [if_pos rfl, hx]
    by_cases q : s k = 1
    . rw [if_pos q, decide_eq_true_eq, F.r1 x h1]; omega
    . rw [if_neg q, decide_eq_true_eq]
      constructor
      . intro h
        have h : f y x = x:=by omega
        exact F.r2 y x x h2 h1 h1 (h.trans (F.r1 x h1).symm)
      . rintro rfl
        rw [F.r1 _ h1]
  | false=>
    rw [if_neg Bool.false_ne_true, hy]
    by_cases q : s k = 1
    . rw [if_pos q, decide_eq_true_eq]
      constructor
      . intro h
        have h : f x y = y:=by omega
        exact (F.r2 x y y h1 h2 h2 (h.trans (F.r1 y h2).symm)).symm
      . rintro rfl
        rw [F.r1 _ h1]
    . rw [if_neg q, decide_eq_true_eq, F.r1 y h2]; omega
theorem Q0 (k j : Nat) : JS j (mkM b s c k) = true ↔ max k ((k + 1) % c) = j:=by
  unfold JS mkM
  rw [decide_eq_true_eq, HH]
  show max (max (if b k = true then (k : Int) else (((k + 1) % c : Nat) : Int)) (k : Int)) (((k + 1) % c : Nat) : Int) = (j : Int) ↔ _
  generalize (k + 1) % c = q
  split <;> omega
theorem Hm {k a j : Nat} {i : Nat} (h : i < k + 1) : Uy (List.replicate k (a : Int) ++ [(j : Int)]) (i : Int) = if i < k then a else j:=by
  unfold Uy
  rw [Int.toNat_natCast, List.getD_eq_getElem?_getD]
  by_cases q : i < k
  . rw [if_pos q, List.getElem?_append_left (by simp; omega), List.getElem?_replicate, if_pos q]; rfl
  . rw [if_neg q, List.getElem?_append_right (by simp; omega), List.length_replicate, show i - k = 0 by omega]; rfl
theorem G0 (F : GoodF n f) : ∀ k, 1 <= k -> k <= max c 1 -> TT n f (Y8 b s c) k = (List.range n).map fun (a : Nat)=>List.replicate k (a : Int)
  | 0, h, _=>by omega
  | 1, _, _=>by
    show Qv n f ((Y8 b s c).filter (JS 0)) [[]] = _
    unfold Qv
    rw [List.flatMap_cons, List.flatMap_nil, List.append_nil, VO fun j hj=>List.all_eq_true.mpr fun m hm=>?_]
    . rfl
    . obtain ⟨h1, h2⟩ := List.mem_filter.mp hm
      obtain ⟨k, hk, rfl⟩:=List.mem_map.mp h1
      have hk:=List.mem_range.mp hk
      rw [Q0] at h2
      have e : k = 0:=by omega
      subst e
      have e2 : (0 + 1) % c = 0:=by omega
      have hz : Uy ([] ++ [(j : Int)]) ((0 : Nat) : Int) = j:=rfl
      rw [Jq F (by rw [hz]; exact hj) (by rw [e2, hz]; exact hj), e2]
  | k + 2, _, h=>by
    have ih:=G0 F (k + 1) (by omega) (by omega)
    have hc : k + 2 <= c:=by omega
    show Qv n f ((Y8 b s c).filter (JS (k + 1))) (TT n f (Y8 b s c) (k + 1)) = _
    rw [ih]
    unfold Qv
    rw [List.flatMap_map, Q6 (h:=fun (a : Nat)=>List.replicate (k + 2) (a : Int)) fun a ha=>?_]
    have ha:=List.mem_range.mp ha
    rw [DG ha fun j hj=>?_]
    . congr 1
      show List.replicate (k + 1) (a : Int) ++ [(a : Int)] = _
      rw [← List.replicate_succ']
    . rw [List.all_eq_true]
      have hcn : ∀ i : Nat, i < k + 2 -> Uy (List.replicate (k + 1) (a : Int) ++ [(j : Int)]) (i : Int) = if i < k + 1 then a else j:=fun i hi=>Hm (by omega)
      have hlt : ∀ i : Nat, i < k + 2 -> Uy (List.replicate (k + 1) (a : Int) ++ [(j : Int)]) (i : Int) < n:=fun i hi=>by rw [hcn i hi]; split <;> assumption
      constructor
      . intro hh
        have hm : mkM b s c k ∈ (Y8 b s c).filter (JS (k + 1)):=List.mem_filter.mpr ⟨List.mem_map.mpr ⟨k, List.mem_range.mpr (by omega), rfl⟩, (Q0 k (k + 1)).mpr (by rw [Nat.mod_eq_of_lt (by omega)]; omega)⟩
        have e : (k + 1) % c = k + 1:=Nat.mod_eq_of_lt (by omega)
        have q:=(Jq F (hlt k (by omega)) (by rw [e]; exact hlt (k + 1) (by omega))).mp (hh _ hm)
        rw [e, hcn _ (by omega), hcn _ (by omega), if_neg (by omega), if_pos (by omega)] at q
        exact q
      . intro e m hm
        subst e
        obtain ⟨h1, h2⟩:=List.mem_filter.mp hm
        obtain ⟨i, hi, rfl⟩:=List.mem_map.mp h1
        rw [Q0] at h2
        have b1 : i < k + 2:=by omega
        have b2 : (i + 1) % c < k + 2:=by omega
        rw [Jq F (hlt i b1) (hlt _ b2), hcn _ b1, hcn _ b2]
        split <;> split <;> rfl
theorem Ge (F : GoodF n f) : ∀ e, (TT n f (Y8 b s c) (max c 1 + e)).length = n ^ (e + 1) /\ ∀ l ∈ TT n f (Y8 b s c) (max c 1 + e), ∃ (a : Nat) (t : List Int), l = List.replicate (max c 1) (a : Int) ++ t
  | 0=>by
    rw [Nat.add_zero, G0 F (max c 1) (by omega) (by omega)]
    refine ⟨by simp, fun l hl=>?_⟩
    obtain ⟨a, _, rfl⟩:=List.mem_map.mp hl
    exact ⟨a, [], by simp⟩
  | e + 1=>by
    obtain ⟨h1, h2⟩:=Ge F e
    have hno : (Y8 b s c).filter (JS (max c 1 + e)) = []:=List.filter_eq_nil_iff.mpr fun m hm h=>by
      obtain ⟨i, hi, rfl⟩:=List.mem_map.mp hm
      have hi:=List.mem_range.mp hi
      rw [Q0] at h
      have:=Nat.mod_lt (i + 1) (show c > 0 by omega)
      omega
    have hs : TT n f (Y8 b s c) (max c 1 + (e + 1)) = (TT n f (Y8 b s c) (max c 1 + e)).flatMap fun l=>(List.range n).map fun (j : Nat)=>l ++ [(j : Int)]:=by
      show Qv n f ((Y8 b s c).filter (JS (max c 1 + e))) (TT n f (Y8 b s c) (max c 1 + e)) = _
      unfold Qv
      exact congrArg (List.flatMap · _) (funext fun l=>DM hno)
    rw [hs]
    refine ⟨?_, fun l hl=>?_⟩
    . rw [List.length_flatMap]
      simp only [List.length_map, List.length_range]
      rw [List.map_const', List.sum_replicate_nat, h1]
      exact (Nat.pow_succ ..).symm
    . obtain ⟨l0, h0, hl⟩ := List.mem_flatMap.mp hl
      obtain ⟨j, _, rfl⟩:=List.mem_map.mp hl
      obtain ⟨a, t, rfl⟩:=h2 l0 h0
      exact ⟨a, t ++ [(j : Int)], List.append_assoc ..⟩
end
end My
namespace My
open PySem L2
theorem FI (l : List Int) : YH l = .ok true:=by
  unfold YH
  simp only [Res.okb]
  rw [if_neg (by decide), ZE]
  . rfl
  intro a _
  rfl
theorem B1 {D : List (List Int) × List (Int × Int)} (h : D.1.length <= 1000) : JH D = .ok D:=by
  unfold JH
  simp only [Res.okb]
  rw [Qr (h:=fun a=>a) (sz (by omega)) fun _ _=>rfl, List.map_id', Res.okb]
theorem Dy {α : Type} (as : List α) {k : Nat} (h : k <= as.length) : Uz as none (some (k : Int)) = as.take k:=by
  unfold Uz
  rw [HT.sIx_nat, HT.sIx_none, Nat.min_eq_left h, List.drop_zero, Nat.sub_zero]
theorem Dc {n c e : Nat} {f : Nat -> Nat -> Nat} {T : List (List Int)} (hn : n <= 100) (hc : 1 <= c) (hcb : c <= 100) (he : e <= 100) (hp : T.length <= 90000) (h1 : T.length = n ^ (e + 1)) (h2 : ∀ l ∈ T, l.length = c + e /\ ∀ x ∈ l, 0 <= x /\ x < (n : Int)) (h3 : ∀ l ∈ T, ∃ (a : Nat) (t : List Int), l = List.replicate c (a : Int) ++ t) (h4 : T.Pairwise fun a b=>ltL a b = true) : Qo T (n : Int) (c : Int) (e : Int) = .ok true:=by
  unfold Qo
  simp only [Res.okb]
  rw [show (e : Int) + 1 = ((e + 1 : Nat) : Int) by omega, Vo hn (by omega), XM]
  simp only [Res.okb]
  rw [h1, decide_eq_true rfl, show orR (Res.ok (!true)) (Res.ok (!true)) = .ok false from rfl, Res.okb, if_neg (by decide)]
  rw [ZE, Res.okb, Ko]
  . rw [← h1]
    have hr : VM (1 : Int) (T.length : Int) = .ok (Zi 1 (T.length : Int)):=Xv (by omega)
    rw [hr, Res.okb, ZE, Res.okb, Ko]
    intro a ha
    have ha : 1 <= a /\ a < (T.length : Int):=by
      unfold Zi at ha
      obtain ⟨i, hi, rfl⟩:=List.mem_map.mp ha
      have:=List.mem_range.mp hi
      omega
    obtain ⟨i, rfl⟩ : ∃ i : Nat, a = ((i + 1 : Nat) : Int):=⟨(a - 1).toNat, by omega⟩
    have hi : i + 1 < T.length:=by omega
    rw [show ((i + 1 : Nat) : Int) - 1 = (i : Int) by omega, Yc (List.getElem?_eq_getElem (show i < T.length by omega)), Yc (List.getElem?_eq_getElem hi)]
    simp only [Res.okb]
    rw [List.pairwise_iff_getElem.mp h4 i (i + 1) (by omega) hi (by omega)]
    rfl
  . intro l hl
    obtain ⟨l1, l2⟩:=h2 l hl
    obtain ⟨a, t, el⟩:=h3 l hl
    rw [FI, XM]
    simp only [Res.okb]
    rw [l1, decide_eq_true (show ((c + e : Nat) : Int) = (c : Int) + (e : Int) by omega), show orR (Res.ok (!true)) (Res.ok (!true)) = .ok false from rfl, Res.okb, if_neg (by decide)]
    rw [Dy l (by omega), ZE, Res.okb, VV, ZE, Res.okb, VV]
    . intro x hx
      have:=l2 x hx
      rw [decide_eq_false (show ¬ x < 0 by omega), decide_eq_false (show ¬ (n : Int) <= x by omega)]
      rfl
    . intro x hx
      subst el
      rw [List.take_append_of_le_length (by simp)] at hx
      have hx:=List.eq_of_mem_replicate (List.mem_of_mem_take hx)
      subst hx
      have h0 : (List.replicate c (a : Int) ++ t)[0]? = some (a : Int):=by rw [List.getElem?_append_left (by simp; omega), List.getElem?_replicate, if_pos (by omega)]
      rw [show (0 : Int) = ((0 : Nat) : Int) from rfl, Yc h0]
      simp only [Res.okb, decide_true]
      rfl
theorem BQ {r : List Int} {c e : Nat} (hc : c <= 100) (he : e <= 100) (hr : 2 * c <= r.length) : J0 (c : Int) (e : Int) r = .ok (Zv (fun k=>decide (r.getD (2 * k + 1) 0 = 0)) (fun k=>2 * r.getD (2 * k) 0 - 1) c e):=by
  unfold J0
  simp only [Res.okb]
  rw [ZU (by omega), Res.okb]
  apply Ok.eq
  refine Ok.bind (Ok.forN (fun i (g : List (Int × Int) × List Int)=>g = ((List.range i).map fun (k : Nat)=>((k : Int) + 1, 2 * r.getD (2 * k) 0 - 1), Yp (fun k=>decide (r.getD (2 * k + 1) 0 = 0)) i)) rfl fun i a g ha hg=>?_) fun g hg=>?_
  . obtain ⟨rfl, hi⟩ := Y1 ha
    subst hg
    have e1 : r[2 * i]? = some (r.getD (2 * i) 0):=by simp [List.getD_eq_getElem?_getD, show 2 * i < r.length by omega]
    have e2 : r[2 * i + 1]? = some (r.getD (2 * i + 1) 0):=by simp [List.getD_eq_getElem?_getD, show 2 * i + 1 < r.length by omega]
    rw [Zx (by decide) (by decide), Res.okb, show (2 : Int) * (i : Int) = ((2 * i : Nat) : Int) by omega, Yc e1, Res.okb, Zx (by decide) (by decide)]
    simp only [Res.okb]
    rw [Xv (Bn (by simp; omega)), show ((2 * i : Nat) : Int) + 1 = ((2 * i + 1 : Nat) : Int) by omega, Yc e2]
    simp only [Res.okb]
    have hl:=Qd (b:=fun k=>decide (r.getD (2 * k + 1) 0 = 0)) i
    have hs : ((List.range i).map fun (k : Nat)=>((k : Int) + 1, 2 * r.getD (2 * k) 0 - 1)) ++ [((i : Int) + 1, 2 * r.getD (2 * i) 0 - 1)] = (List.range (i + 1)).map fun (k : Nat)=>((k : Int) + 1, 2 * r.getD (2 * k) 0 - 1):=by rw [List.range_succ, List.map_append]; rfl
    by_cases q : r.getD (2 * i + 1) 0 = 0
    . rw [if_pos (decide_eq_true q), Xv (sz (by simp)), Res.okb, Xv (by rw [hl]; exact sz (by simp; omega)), Res.okb, hs]
      refine ⟨_, rfl, ?_⟩
      congr 1
      show _ = Yp _ i ++ _
      rw [if_pos (decide_eq_true q)]
    . rw [if_neg (by rw [decide_eq_true_eq]; exact q), Xv (sz (by simp)), Res.okb, Xv (by rw [hl]; exact sz (by simp; omega)), Res.okb, hs]
      refine ⟨_, rfl, ?_⟩
      congr 1
      show _ = Yp _ i ++ _
      rw [if_neg (by rw [decide_eq_true_eq]; exact q)]
  . rw [Yr] at hg
    subst hg
    rw [Xv (sz (by simp)), Res.okb, ZU (by omega), Res.okb]
    refine Ok.bind (Ok.forN (fun i (g : List (List Int))=>g = Yp (fun k=>decide (r.getD (2 * k + 1) 0 = 0)) c :: List.replicate i []) rfl fun i a g ha hg=>?_) fun g hg=>?_
    . have hi := (Y1 ha).2
      subst hg
      rw [Xv (Bn (by simp; omega))]
      refine ⟨_, rfl, ?_⟩
      rw [List.replicate_succ']
      rfl
    . rw [Yr] at hg
      subst hg
      exact ⟨_, rfl, rfl⟩
theorem F9 {n k : Int} (h : k = 1 ∨ k = -1) : ∀ x : Int, n ∣ k * x -> n ∣ x:=fun x hx=>by
  rcases h with rfl | rfl
  . rwa [Int.one_mul] at hx
  . rw [Int.neg_one_mul] at hx
    exact Int.dvd_neg.mp hx
theorem DS {n : Nat} {way : Int} {sp : List Int} (hn : 0 < n) (h1 : n <= 100) (hw : way = 0 ∨ way = 1) (hsp : n <= sp.length) : Ok (Yi (n : Int) way sp) fun t=>∃ f, GoodF n f /\ t = YE n f:=by
  unfold Yi
  simp only [Res.okb]
  rw [Zx (by decide) (by decide)]
  simp only [Res.okb]
  generalize hk : (1 : Int) - 2 * way = k
  have hk : k = 1 ∨ k = -1:=by omega
  rw [ZU (by omega)]
  simp only [Res.okb]
  have ht : forN ((List.range n).map fun (i : Nat)=>(i : Int)) [] (fun g13 a15=>Res.bind (F6 ((List.range n).map fun (i : Nat)=>(i : Int)) fun a19=>Res.bind (Res.bind (QW k a15) fun x28=>Res.bind (QW (1 - k) a19) fun x29=>Res.ok (x28 + x29)) fun x30=>VB x30 (n : Int)) fun a32=>chk (g13.length < sizeLine) (Res.ok (g13 ++ [a32]))) = .ok (YE n (FR k n)):=by
    rw [Qj (h:=fun a=>ZO n (FR k n) a.toNat) (sz (by simp; omega)) fun g hg a ha=>?_]
    . rw [List.nil_append, List.map_map]
      rfl
    . obtain ⟨i, hi, rfl⟩ := Zk ha
      rw [Qr (h:=fun b=>F8 k n i b) (sz (by simp; omega)) fun b hb=>?_, Res.okb, Xv hg]
      . congr 3
        rw [List.map_map]
        unfold ZO
        refine List.map_congr_left fun j _=>?_
        rw [Int.toNat_natCast, Yl hn]
        rfl
      . rw [Zx (by omega) (by omega), Zx (by omega) (by omega)]
        simp only [Res.okb]
        exact Y0 (by omega)
  rw [ht, Res.okb]
  refine Ok.bind (Ok.noE (KN (by omega) hsp)) fun spl hq=>?_
  obtain ⟨p, q, hq⟩:=hq
  have gd:=DK (k:=k) hn (F9 hk)
  rw [Fg (by omega) gd.lt hq, XM]
  exact ⟨_, rfl, _, hq.1.good gd, rfl⟩
end My
namespace My
open PySem L2
section
variable {n c e : Nat} {f : Nat -> Nat -> Nat} {b : Nat -> Bool} {s : Nat -> Int}
theorem Dk (hc : c <= 40) (he : e <= 11) (hn : 0 < n) (h24 : n <= 24) (hs : ∀ k, k < c -> s k = 1 ∨ s k = -1) : XF (Zv b s c e) (YE n f) = if 65536 < n ^ (max c 1 + e) then .err ⟨"TooMuch", Pay.non⟩ else .ok (TT n f (Y8 b s c) (max c 1 + e)):=
  E4 (Ve (by omega)) (JI (by omega)) hn (by omega) Kg (by omega) (K0 (by omega) (by omega)) (by simp [Y8]; omega) (De hs (by rw [Kg]; omega))
theorem Vq (h : XF (Zv b s c e) (YE n f) = .err ⟨"TooMuch", Pay.non⟩) : X0 (Zv b s c e) (YE n f) = .ok (.inl "refused") /\ Yf (Zv b s c e) (YE n f) = .ok (.inl "refused"):=by
  unfold X0 Yf JN
  simp only [Res.okb]
  rw [h]
  exact ⟨rfl, rfl⟩
theorem JE {T : List (List Int)} (h : XF (Zv b s c e) (YE n f) = .ok T) : X0 (Zv b s c e) (YE n f) = .ok (.inr (T.length : Int)) /\ Yf (Zv b s c e) (YE n f) = .ok (.inr T):=by
  unfold X0 Yf JN
  simp only [Res.okb]
  rw [h]
  exact ⟨rfl, rfl⟩
end
noncomputable abbrev Ij : List Int:=[41, 20, 12, 2, 4, 6, 8] ++ (List.replicate 40 [(2 : Int), 2]).flatten
theorem Dm : ∀ j : Nat, j < 80 -> Ij[7 + j]? = some 2:=by decide
theorem Dx {x : Int} (h0 : 0 <= x) (h1 : x < 12) : ∃ n : Nat, atR [(1 : Int), 2, 3, 4, 5, 7, 9, 11, 15, 16, 21, 24] x = .ok (n : Int) /\ 0 < n /\ n <= 24:=by
  obtain ⟨i, rfl⟩ : ∃ i : Nat, x = i:=⟨x.toNat, by omega⟩
  have hi : i < 12:=by omega
  have hl : i < ([(1 : Int), 2, 3, 4, 5, 7, 9, 11, 15, 16, 21, 24] : List Int).length:=by simpa using hi
  have hm:=List.getElem_mem hl
  have hb : ∀ v ∈ ([(1 : Int), 2, 3, 4, 5, 7, 9, 11, 15, 16, 21, 24] : List Int), 1 <= v /\ v <= 24:=by decide
  have:=hb _ hm
  rw [Yc (List.getElem?_eq_getElem hl)]
  exact ⟨([(1 : Int), 2, 3, 4, 5, 7, 9, 11, 15, 16, 21, 24] : List Int)[i].toNat, by congr 1; omega, by omega, by omega⟩
theorem GR {x : Int} (h0 : 0 <= x) (h1 : x < 8) : ∃ c n : Nat, atR [((16 : Int), (2 : Int)), (8, 4), (4, 16), (17, 2), (9, 4), (5, 16), (10, 3), (11, 3)] x = .ok ((c : Int), (n : Int)) /\ c <= 40 /\ 0 < n /\ n <= 24:=by
  obtain ⟨i, rfl⟩ : ∃ i : Nat, x = i:=⟨x.toNat, by omega⟩
  have hi : i < 8:=by omega
  have hl : i < ([((16 : Int), (2 : Int)), (8, 4), (4, 16), (17, 2), (9, 4), (5, 16), (10, 3), (11, 3)] : List (Int × Int)).length:=by simpa using hi
  have hm:=List.getElem_mem hl
  have hb : ∀ v ∈ ([((16 : Int), (2 : Int)), (8, 4), (4, 16), (17, 2), (9, 4), (5, 16), (10, 3), (11, 3)] : List (Int × Int)), (0 <= v.1 /\ v.1 <= 40) /\ 1 <= v.2 /\ v.2 <= 24:=by decide
  have:=hb _ hm
  rw [Yc (List.getElem?_eq_getElem hl)]
  generalize ([((16 : Int), (2 : Int)), (8, 4), (4, 16), (17, 2), (9, 4), (5, 16), (10, 3), (11, 3)] : List (Int × Int))[i] = v at this
  exact ⟨v.1.toNat, v.2.toNat, by congr 1; exact Prod.ext (by show v.1 = _; omega) (by show v.2 = _; omega), by omega, by omega, by omega⟩
theorem Dv (ns : List Int) (_ : ns.length <= 63) : UH ns = .ok true:=by
  unfold UH
  simp only [Res.okb]
  rw [Xv (sz (by simp)), Res.okb, Xv (sz (by simp)), Res.okb, show Hs [(2 : Int), 2] 40 = .ok (List.replicate 40 [(2 : Int), 2]).flatten from rfl, Res.okb, show ET [(41 : Int), 20, 12, 2, 4, 6, 8] (List.replicate 40 [(2 : Int), 2]).flatten = .ok Ij from rfl, Res.okb]
  obtain ⟨r, er, hl, hb⟩:=Cg ns (p:=0) (by decide) Ij (by decide) (by decide)
  have hl : r.length = 87:=hl
  rw [er, XM, Res.okb, Xv (sz (by simp)), Res.okb, show Hs [(24 : Int)] 24 = .ok (List.replicate 24 24) from rfl, Res.okb]
  obtain ⟨q, eq, hql, _⟩:=Cg ns (p:=1) (by decide) (List.replicate 24 24) (by decide) (by decide)
  have hql : q.length = 24:=hql
  rw [eq, XM, Res.okb]
  have b0:=hb 0 r[0] 41 (by simp) rfl
  have b1:=hb 1 r[1] 20 (by simp) rfl
  have b2:=hb 2 r[2] 12 (by simp) rfl
  have b3:=hb 3 r[3] 2 (by simp) rfl
  have b6:=hb 6 r[6] 8 (by simp) rfl
  have btw : ∀ j : Nat, j < 80 -> (r.drop 7).getD j 0 = 0 ∨ (r.drop 7).getD j 0 = 1:=fun j hj=>by
    have h : r[7 + j]? = some ((r.drop 7).getD j 0):=by simp [List.getD_eq_getElem?_getD, show 7 + j < r.length by omega]
    have:=hb (7 + j) _ 2 h (Dm j hj)
    omega
  rw [QB (r:=r) (k:=0) (n:=0) rfl (by omega), QB (r:=r) (k:=1) (n:=1) rfl (by omega), QB (r:=r) (k:=2) (n:=2) rfl (by omega), QB (r:=r) (k:=3) (n:=3) rfl (by omega), QB (r:=r) (k:=4) (n:=4) rfl (by omega), QB (r:=r) (k:=5) (n:=5) rfl (by omega), QB (r:=r) (k:=6) (n:=6) rfl (by omega)]
  simp only [Res.okb]
  obtain ⟨n0, en0, hn0⟩:=Dx b2.1 b2.2
  obtain ⟨c1, n1, en1, hn1⟩:=GR b6.1 b6.2
  rw [Xv (sz (by simp)), Res.okb, en0, Res.okb, Xv (sz (by simp)), Res.okb, en1]
  simp only [Res.okb]
  obtain ⟨g, eg, e, c, n, rfl, he, hc, hn, h24⟩ : Ok (if decide (r[5] = 0) = true then (Res.ok ((0 : Int), (c1 : Int), (n1 : Int))) else (Res.ok (max 0 (r[1] - 8), r[0], (n0 : Int)))) fun g=>∃ e c n : Nat, g = ((e : Int), (c : Int), (n : Int)) /\ e <= 11 /\ c <= 40 /\ 0 < n /\ n <= 24:=
    Ok.ite (fun _=>⟨_, rfl, 0, c1, n1, rfl, by omega, hn1.1, hn1.2.1, hn1.2.2⟩) fun _=>⟨_, rfl, (max (0 : Int) (r[1] - 8)).toNat, r[0].toNat, n0, Prod.ext (by show max (0 : Int) (r[1] - 8) = ((max (0 : Int) (r[1] - 8)).toNat : Int); omega) (Prod.ext (by show r[0] = (r[0].toNat : Int); omega) rfl), by omega, by omega, hn0.1, hn0.2⟩
  rw [eg, Res.okb]
  simp only []
  rw [show Uz r (some 7) none = r.drop 7 from DX r (k:=7) (by omega), BQ (by omega) (by omega) (by rw [List.length_drop]; omega), XM, Res.okb]
  have hs : ∀ k, k < c -> 2 * (r.drop 7).getD (2 * k) 0 - 1 = 1 ∨ 2 * (r.drop 7).getD (2 * k) 0 - 1 = -1:=fun k hk=>by
    have:=btw (2 * k) (by omega)
    omega
  obtain ⟨t, et, f, gd, rfl⟩:=DS (n:=n) (way:=r[3]) (sp:=q) hn (by omega) (by omega) (by omega)
  rw [et, XM, Res.okb, show max (1 : Int) (c : Int) + (e : Int) = ((max c 1 + e : Nat) : Int) by omega, Vo (by omega) (by omega), XM, Res.okb]
  generalize hbb : (fun k=>decide ((r.drop 7).getD (2 * k + 1) 0 = 0)) = bb
  generalize hss : (fun k=>2 * (r.drop 7).getD (2 * k) 0 - 1) = ss
  have hs' : ∀ k, k < c -> ss k = 1 ∨ ss k = -1:=fun k hk=>by rw [← hss]; exact hs k hk
  have hcol:=Dk (f:=f) (b:=bb) hc he hn h24 hs'
  obtain ⟨z, hz⟩ : ∃ z, Gd (Res.ok (decide ((0 : Int) < r[5]))) (Gd (if decide ((5000 : Int) < ((n ^ (max c 1 + e) : Nat) : Int)) = true then Res.ok (decide (((n ^ (max c 1 + e) : Nat) : Int) <= 65536)) else Res.ok false) (orR (Res.ok (decide (0 < (e : Int)))) (Res.ok (decide ((0 : Int) < r[4]))))) = .ok z:=by
    rw [Es]
    split <;> rw [FY, FY] <;> exact ⟨_, rfl⟩
  rw [hz, Res.okb]
  cases z with
  | true=>rfl
  | false=>
  rw [if_neg Bool.false_ne_true, B1 (Ve (by omega)), XM, Res.okb, Qr (h:=fun a=>a) (by rw [XU]; exact sz (by omega)) (fun _ _=>rfl), List.map_id', Res.okb]
  by_cases q65 : 65536 < n ^ (max c 1 + e)
  . rw [if_pos q65] at hcol
    obtain ⟨k1, k2⟩:=Vq hcol
    rw [k1, k2, XM, Res.okb, XM, Res.okb]
    simp only [decide_true]
    rw [show orR (Res.ok (!true)) (Res.ok (!true)) = .ok false from rfl, Res.okb, if_neg (by decide), if_pos (decide_eq_true (by omega))]
    rfl
  . rw [if_neg q65] at hcol
    obtain ⟨k1, k2⟩:=JE hcol
    obtain ⟨m1, m2⟩:=Ge (b:=bb) (s:=ss) (c:=c) gd e
    have hcols:=Jh (n:=n) (f:=f) (ms:=Y8 bb ss c) (max c 1 + e)
    rw [k1, k2, XM, Res.okb, XM, Res.okb]
    simp only [decide_true]
    rw [show orR (Res.ok (!true)) (Res.ok (!true)) = .ok false from rfl, Res.okb, if_neg (by decide), if_neg (by rw [decide_eq_true_eq]; omega), show getR (Sum.inr ((TT n f (Y8 bb ss c) (max c 1 + e)).length : Int) : Str ⊕ Int) = .ok ((TT n f (Y8 bb ss c) (max c 1 + e)).length : Int) from rfl, Res.okb, show YF ((TT n f (Y8 bb ss c) (max c 1 + e)).length : Int) = .ok true from rfl, XM, Res.okb, show (e : Int) + 1 = ((e + 1 : Nat) : Int) by omega, Vo (by omega) (by omega), XM]
    simp only [Res.okb]
    rw [m1, decide_eq_true rfl, show orR (Res.ok (!true)) (Res.ok (!true)) = .ok false from rfl, Res.okb, if_neg (by decide), show getR (Sum.inr (TT n f (Y8 bb ss c) (max c 1 + e)) : Str ⊕ List (List Int)) = .ok (TT n f (Y8 bb ss c) (max c 1 + e)) from rfl, Res.okb, show max (1 : Int) (c : Int) = ((max c 1 : Nat) : Int) by omega]
    rw [Dc (f:=f) (by omega) (by omega) (by omega) (by omega) (by have:=hcols.1; omega) m1 hcols.2 m2 (F4 _), XM]
end My
namespace My
open PySem L2
noncomputable def top (i : Nat) : Stmt:=PySem.Challenge.pw_plait_k53_how_many.main.body.getD i (.Pass ⟨0, 0, 0, 0⟩)
noncomputable abbrev Fx : Stmt:=top 6
noncomputable abbrev Gg : Stmt:=top 8
noncomputable abbrev Zs : Stmt:=top 9
noncomputable abbrev YK : Stmt:=top 10
noncomputable abbrev Zd : Stmt:=top 11
noncomputable abbrev U2 : Stmt:=top 12
noncomputable abbrev GG : Stmt:=top 15
noncomputable abbrev ZJ : Stmt:=top 16
noncomputable abbrev Zb : Stmt:=top 17
noncomputable abbrev YB : Stmt:=top 18
noncomputable abbrev YZ : Stmt:=top 19
noncomputable abbrev Go : Stmt:=top 20
noncomputable abbrev Fw : Stmt:=top 22
noncomputable abbrev Ee : Stmt:=top 23
noncomputable abbrev CS : Stmt:=top 24
noncomputable abbrev Qz : Stmt:=top 25
noncomputable abbrev Z1 : Stmt:=top 26
noncomputable abbrev Jr : Stmt:=top 27
noncomputable abbrev QY : Stmt:=top 28
noncomputable abbrev Kz : Stmt:=top 29
noncomputable abbrev F1 : Stmt:=top 30
noncomputable abbrev YU : Stmt:=top 31
noncomputable abbrev UF : Stmt:=top 32
noncomputable abbrev Zy : Stmt:=top 33
noncomputable abbrev ZW : Stmt:=top 34
noncomputable abbrev UY : Stmt:=top 35
noncomputable abbrev JD : Stmt:=top 36
structure Blt (mg : Str -> Option Value) : Prop where
  b_all : mg "all" = none
  b_bool : mg "bool" = none
  b_enumerate : mg "enumerate" = none
  b_int : mg "int" = none
  b_isinstance : mg "isinstance" = none
  b_len : mg "len" = none
  b_list : mg "list" = none
  b_max : mg "max" = none
  b_range : mg "range" = none
  b_sum : mg "sum" = none
  c_MOST_LISTS : ∃ u, mg "MOST_LISTS" = some u /\ XV (.int 65536) u
section
variable {P : Program} {w : World} {K : PySem.W.Frag} {mg : Str -> Option Value} {base : Heap}
theorem UP : FnScope ["drawing", "passage", "at", "walk"] ["drawing", "passage"] (Xj Fx):=⟨rfl, rfl, rfl, by decide +kernel, rfl, by decide +kernel, by decide +kernel⟩
set_option maxHeartbeats 4000000 in
theorem B7 (D : Def K mg "spot" Fx ["drawing", "passage"])  (Y : Ecs Xy K mg) (Z : Blt mg) : FnX P w K mg base 1 "spot" ["drawing", "passage"] (F7 mg (rP2 (rV (rV Xa)) (rV (rP2 Xa Xa))) Xa (oF (rP2 Xa Xa)) Ja K):=by
  refine J9 D UP (fun vs H Q E h=>?_) (fun f cdv A outer s H vs Q E hr h=>?_)
  . obtain ⟨v_0, v_1, a_0, a_1, rfl, _⟩:=h; rfl
  obtain ⟨v_0, v_1, a_0, a_1, rfl, h_0, h_1, hz⟩:=h
  obtain ⟨C_NoCrossing, h_NoCrossing, q_NoCrossing⟩:=Y.adr "NoCrossing" (.tail _ (.head _))
  replace q_NoCrossing:=q_NoCrossing (by decide)
  have hu:=hu8 hr
  have hu1:=YA hr
  refine ⟨_, (Xc (PS.nox (Yg PassesOwn.never rfl (BK rfl Z.b_enumerate (XO (Y4 K rfl) (pv 0) Xh (fun _ _=>rfl))) (V3 rfl (Yb (Xo (i:=2) UP.nd rfl (Or.inl rfl)) (Yb (Xo (i:=3) UP.nd rfl (Or.inl rfl)) Q3)))
      (Xc (Y7 (XN G7 (pv 1) (pv 3) rfl)
        (Xc (Xx (Y6 (Xb (pv 2) (Xb (En (K:=K) rfl PySem.F.plainAttrs_list PySem.F.slot_list_index PySem.F.type_list_index (Fk K rfl) (pv 3) (Xb (pv 1) Xf)) Xf))))
        Xg)
        Xg)
      Xg)))
    (Xc (Kh Co rfl q_NoCrossing rfl h_NoCrossing (Xb (Ix (Ft Qm (CB (pv 1) CM))) Xf))
    Xg)), ?_⟩
  refine VP (S:=(SC.add (SC.add SC.nil K (rP2 (rV (rV Xa)) (rV (rP2 Xa Xa))) v_0 a_0) K Xa v_1 a_1)) (σ:=[some v_0, some v_1, none, none]) 0 ?_ (SC.i (SC.i SC.t h_0) h_1) hz rfl
  unfold Ja
  exact (Vw (K:=K) (J:=({ oo:=fun x3=>[], ss:=fun x3=>[some v_0, some v_1, x3.1, x3.2], sc:=fun g4 x3=>(SC.add (SC.add SC.nil K (rP2 (rV (rV Xa)) (rV (rP2 Xa Xa))) v_0 a_0) K Xa v_1 a_1) } : Jn (Unit) (Option V × Option V))) (fun _=>tg2 2 3) ((none), (none)) () (G9 (Vt (Xn (r:=(rP2 (rV (rV Xa)) (rV (rP2 Xa Xa)))) 0 rfl (fun _ s=>(SC.r (SC.l s)))))) rfl rfl (fun _ s=>(SC.i (SC.i SC.t (SC.r (SC.l s))) (SC.r s))) (fun g5 x6 a7 v8=>(ZD (Xw (K:=K) (Et (Xd (r:=Xa) 1 rfl (fun _ s=>(SC.r (SC.l (SC.l s))))) (Xd (r:=(rV Xa)) 3 rfl (fun _ s=>(SC.r s))))) (Xz (EvS.ev (YL (Xn (r:=Xa) 2 rfl (fun _ s=>(SC.r (SC.l s)))) (EvB.sh (GJ (Xd (r:=(rV Xa)) 3 rfl (fun _ s=>(SC.r s))) (Xd (r:=Xa) 1 rfl (fun _ s=>(SC.r (SC.l (SC.l s)))))))))) (JJ (XD (J:=_) ((some v8.1), (some v8.2)) () rfl rfl (fun _ s=>(SC.i (SC.i SC.t (SC.r (SC.l (SC.l (SC.l s))))) (SC.r (SC.l (SC.l s))))))))) fun g18 x19=>(Ka h_NoCrossing (Hh (UE (Fr (K:=K) (Xd (r:=Xa) 1 rfl (fun _ s=>(SC.r s))) FV)))))
theorem ZB : FnScope ["walk", "unders"] ["walk"] (Xj YK):=⟨rfl, rfl, rfl, by decide +kernel, rfl, by decide +kernel, by decide +kernel⟩
set_option maxHeartbeats 4000000 in
theorem Jo (D : Def K mg "arcs_of_walk" YK ["walk"])  (Y : Ecs Xy K mg) (Z : Blt mg) : Fn P w K mg base 1 "arcs_of_walk" ["walk"] (sp1 (rV Xa) (oF Xa) Xu K):=by
  refine Zg D ZB (fun vs H Q E h=>?_) (fun f cdv A outer s H vs Q E hr h=>?_)
  . obtain ⟨v_0, a_0, b, rfl, _⟩:=h; rfl
  obtain ⟨v_0, a_0, b, rfl, h_0, hm, q⟩:=h
  have hu:=hu8 hr
  have hu1:=YA hr
  refine ⟨_, (Xc (Fj 1 (Xj YK) ["walk", "unders"] ["passage"] [] rfl ZB.nd rfl rfl (XT (K:=K) rfl (pv 0)) (Z0 (by decide)) (fun cl C s H ex E=>⟨Xo (i:=0) (show List.Nodup (["passage"] : List Str) by decide +kernel) rfl (Or.inl rfl), (GT (XN KR (pv 0) Xh (XZ _))), (pv 0)⟩))
    (Xc (Xx (Xr (Qb rfl) rfl Z.b_max PyProof.Rows.boot_max (Xb (Xr (Xs K rfl) rfl Z.b_len PySem.boot_len (Xb (pv 1) Xf)) (Xb Xh Xf))))
    Xg)), ?_⟩
  refine Ze (S:=(SC.add SC.nil K (rV Xa) v_0 a_0)) (σ:=[some v_0, none]) 0 ?_ (SC.i SC.t h_0) hm q rfl
  unfold Xu
  exact (XB (K:=K) (r:=(rV Xa)) 1 (Ev.sh (KL (fun _=>tg1 0) (XH (Xn (r:=(rV Xa)) 0 rfl (fun _ s=>(SC.r s)))) (fun C3 a4 v5=>(Xw (K:=K) (VN (Xd (r:=Xa) 0 rfl (fun _ s=>(SC.r s))) (Xe 0)))) (fun C3 a4 v5=>(EvS.ev (Xn (r:=Xa) 0 rfl (fun _ s=>(SC.r s))))))) fun a1 v2=>(Xz (EvS.ev (EvB.sh (VJ (YQ (Xd (r:=(rV Xa)) 1 rfl (fun _ s=>(SC.r s)))) (Xe 1))))))
theorem XX : FnScope ["walk", "first", "number", "unders", "ways", "passage"] ["walk", "first"] (Xj Zd):=⟨rfl, rfl, rfl, by decide +kernel, rfl, by decide +kernel, by decide +kernel⟩
set_option maxHeartbeats 4000000 in
theorem Q2 (D : Def K mg "arcs_of_ways" Zd ["walk", "first"]) (g_arcs_of_walk : Fn P w K mg base 1 "arcs_of_walk" ["walk"] (sp1 (rV Xa) (oF Xa) Xu K)) (Y : Ecs Xy K mg) (Z : Blt mg) : Fn P w K mg base 2 "arcs_of_ways" ["walk", "first"] (sp2 (rV Xa) Xa (oL (oF Xa)) X7 K):=by
  refine Zg D XX (fun vs H Q E h=>?_) (fun f cdv A outer s H vs Q E hr h=>?_)
  . obtain ⟨v_0, v_1, a_0, a_1, b, rfl, _⟩:=h; rfl
  obtain ⟨v_0, v_1, a_0, a_1, b, rfl, h_0, h_1, hm, q⟩:=h
  have hu:=hu8 hr
  have hu1:=YA hr
  refine ⟨_, (Xc (Xp (i:=2) XX.nd rfl (Or.inl rfl) (Yy g_arcs_of_walk hr (by decide) (Xb (pv 0) Xf)))
    (Xc (Xp (i:=3) XX.nd rfl (Or.inl rfl) Xh)
    (Xc (Xp (i:=4) XX.nd rfl (Or.inl rfl) (Yj (Xb (pv 1) Xf)))
    (Xc (Yg PassesOwn.never rfl (XT (K:=K) rfl (QX (QP K rfl) (pv 0) Vh (Vu (DP Ke Xh)))) (Xo (i:=5) XX.nd rfl (Or.inl rfl))
      (Xc (Y7 (XN KR (pv 5) Xh (XZ _))
        (Xc (Fc (i:=3) XX.nd rfl (Or.inl rfl) Xh CJ)
        Xg)
        Xg)
      (Xc (Yn (ZS PySem.F.plainAttrs_list PySem.F.slot_list_append PySem.F.type_list_append X6 (pv 4) (Xb (XC Yz (pv 1) (XC Zc (pv 3) (pv 2))) Xf)))
      Xg)))
    (Xc (Xx (pv 4))
    Xg))))), ?_⟩
  refine Ze (S:=(SC.add (SC.add SC.nil K (rV Xa) v_0 a_0) K Xa v_1 a_1)) (σ:=[some v_0, some v_1, none, none, none, none]) 1 ?_ (SC.i (SC.i SC.t h_0) h_1) hm q rfl
  unfold X7
  exact (XB (K:=K) (r:=Xa) 2 (EvB.sh (Ev.toB (YS (Xd (r:=(rV Xa)) 0 rfl (fun _ s=>(SC.r (SC.l s))))))) fun a1 v2=>(XB (K:=K) (r:=Xa) 3 (EvB.sh (Xe 0)) fun a5 v6=>(Yk (K:=K) (o:=(oL (oF Xa))) 4 0 (Z5 (Xl (Xn (r:=Xa) 1 rfl (fun _ s=>(SC.r (SC.l (SC.l s))))) Zo)) (Nat.le_of_ble_eq_true rfl) fun a7 v8 C9=>(YN (K:=K) (J:=({ oo:=fun x18=>[x18.2.2.2], ss:=fun x18=>[some v_0, some v_1, some v2, some x18.2.1, some x18.2.2.1, x18.1], sc:=fun g19 x18=>(SC.addO (SC.add (SC.add (SC.add (SC.add SC.nil K (rV Xa) v_0 a_0) K Xa v_1 a_1) K Xa v2 a1) K Xa x18.2.1 g19.1) K (oL (oF Xa)) x18.2.2.1 g19.2 x18.2.2.2) } : Jn (Int × (List Int)) (Option V × V × V × List Xt))) (fun _=>tg1 5) ((none), v6, v8, C9) (a5, a7) (XH (Ev.sh (Vs (EvS.ls (Xn (r:=(rV Xa)) 0 rfl (fun _ s=>(SC.r (SC.l (SC.l (SC.l (SC.l s)))))))) QQ (QR (K:=K) (VG (Xe 1)))))) rfl rfl (fun _ s=>(SC.i (SC.i (SC.i (SC.i (SC.i SC.t (SC.r (SC.l (SC.l (SC.l (SC.l s)))))) (SC.r (SC.l (SC.l (SC.l s))))) (SC.r (SC.l (SC.l s)))) (SC.r (SC.l s))) (SC.r s))) (fun g20 x21 a22 v23=>(Qp (J:=({ oo:=fun x27=>[x21.2.2.2], ss:=fun x27=>[some v_0, some v_1, some v2, some x27, some x21.2.2.1, some v23], sc:=fun g28 x27=>(SC.add (SC.add (SC.addO (SC.add (SC.add (SC.add SC.nil K (rV Xa) v_0 a_0) K Xa v_1 a_1) K Xa v2 a1) K (oL (oF Xa)) x21.2.2.1 g20.2 x21.2.2.2) K Xa v23 a22) K Xa x27 g28) } : Jn (Int) (V))) (JV (Fd:=FNd ({ oo:=fun x27=>[x21.2.2.2], ss:=fun x27=>[some v_0, some v_1, some v2, some x27, some x21.2.2.1, some v23], sc:=fun g28 x27=>(SC.add (SC.add (SC.addO (SC.add (SC.add (SC.add SC.nil K (rV Xa) v_0 a_0) K Xa v_1 a_1) K Xa v2 a1) K (oL (oF Xa)) x21.2.2.1 g20.2 x21.2.2.2) K Xa v23 a22) K Xa x27 g28) } : Jn (Int) (V))) (Xw (K:=K) (VN (Xd (r:=Xa) 5 rfl (fun _ s=>(SC.r s))) (Xe 0))) (CC (K:=K) (f:=fun a31=>(Res.ok (a31))) 3 rfl (fun _ s=>(SC.r (SC.l (SC.l s)))) (Xe 1) fun a31 v30=>(XD (J:=_) (v30) (a31) rfl rfl (fun _ s=>(SC.i (SC.i (SC.i (SC.i (SC.i (SC.i SC.t (SC.r (SC.l (SC.l (SC.l (SC.l (SC.l (SC.l s)))))))) (SC.r (SC.l (SC.l (SC.l (SC.l (SC.l s))))))) (SC.r (SC.l (SC.l (SC.l (SC.l s)))))) (SC.r (SC.l (SC.l s)))) (SC.r (SC.l s))) (SC.r s))))) (XD (J:=_) (x21.2.1) (g20.1) rfl rfl (fun _ s=>(SC.i (SC.i (SC.i (SC.i (SC.i (SC.i SC.t (SC.r (SC.l (SC.l (SC.l (SC.l (SC.l s))))))) (SC.r (SC.l (SC.l (SC.l (SC.l s)))))) (SC.r (SC.l (SC.l (SC.l s))))) (SC.r (SC.l s))) (SC.r s)) (SC.r (SC.l (SC.l s))))))) fun g33 x32=>(ZC (K:=K) (o:=(oF Xa)) (f:=fun a40=>(Res.ok (g33, a40))) 4 0 rfl rfl rfl (fun _ s=>(SC.r (SC.l (SC.l s)))) (EvS.ev (EvB.sh (X8 (Xd (r:=Xa) 1 rfl (fun _ s=>(SC.r (SC.l (SC.l (SC.l (SC.l s))))))) (Yv (Xd (r:=Xa) 3 rfl (fun _ s=>(SC.r s))) (Xd (r:=Xa) 2 rfl (fun _ s=>(SC.r (SC.l (SC.l (SC.l s)))))))))) fun a38 C39=>(XD (J:=_) ((some v23), x32, x21.2.2.1, C39) (g33, (g20.2 ++ [a38])) rfl rfl (fun _ s=>(SC.i (SC.i (SC.i (SC.i (SC.i SC.t (SC.r (SC.l (SC.l (SC.l (SC.l (SC.l (SC.l s)))))))) (SC.r (SC.l (SC.l (SC.l (SC.l (SC.l s))))))) (SC.r (SC.l (SC.l (SC.l (SC.l s)))))) (SC.r (SC.l s))) (SC.r s))))))) fun g41 x42=>(Xz (YG (o:=(oL (oF Xa))) 4 0 rfl rfl (fun _ s=>(SC.r s))))))))
theorem Jg : FnScope ["drawing", "told", "first", "walk"] ["drawing"] (Xj Gg):=⟨rfl, rfl, rfl, by decide +kernel, rfl, by decide +kernel, by decide +kernel⟩
set_option maxHeartbeats 4000000 in
theorem Eb (D : Def K mg "arcs" Gg ["drawing"]) (g_arcs_of_walk : Fn P w K mg base 1 "arcs_of_walk" ["walk"] (sp1 (rV Xa) (oF Xa) Xu K)) (g_arcs_of_ways : Fn P w K mg base 2 "arcs_of_ways" ["walk", "first"] (sp2 (rV Xa) Xa (oL (oF Xa)) X7 K)) (Y : Ecs Xy K mg) (Z : Blt mg) : Fn P w K mg base 3 "arcs" ["drawing"] (sp1 (rP2 (rV (rV Xa)) (rV (rP2 Xa Xa))) (oL (oL (oF Xa))) JM K):=by
  refine Zg D Jg (fun vs H Q E h=>?_) (fun f cdv A outer s H vs Q E hr h=>?_)
  . obtain ⟨v_0, a_0, b, rfl, _⟩:=h; rfl
  obtain ⟨v_0, a_0, b, rfl, h_0, hm, q⟩:=h
  have hu:=hu8 hr
  have hu1:=YA hr
  refine ⟨_, (Xc (Xp (i:=1) Jg.nd rfl (Or.inl rfl) (Yj Xf))
    (Xc (Xp (i:=2) Jg.nd rfl (Or.inl rfl) Xh)
    (Xc (Yg PassesOwn.never rfl (XT (K:=K) rfl (XO (Y4 K rfl) (pv 0) Xh (fun _ _=>rfl))) (Xo (i:=3) Jg.nd rfl (Or.inl rfl))
      (Xc (Yn (ZS PySem.F.plainAttrs_list PySem.F.slot_list_append PySem.F.type_list_append X6 (pv 1) (Xb (Yy g_arcs_of_ways hr (by decide) (Xb (pv 3) (Xb (pv 2) Xf))) Xf)))
      (Xc (Fc (i:=2) Jg.nd rfl (Or.inl rfl) (Yy g_arcs_of_walk hr (by decide) (Xb (pv 3) Xf)) CJ)
      Xg)))
    (Xc (Xx (pv 1))
    Xg)))), ?_⟩
  refine Ze (S:=(SC.add SC.nil K (rP2 (rV (rV Xa)) (rV (rP2 Xa Xa))) v_0 a_0)) (σ:=[some v_0, none, none, none]) 1 ?_ (SC.i SC.t h_0) hm q rfl
  unfold JM
  exact (Yk (K:=K) (o:=(oL (oL (oF Xa)))) 1 0 (Jj (o:=(oL (oF Xa)))) (Nat.le_of_ble_eq_true rfl) fun a1 v2 C3=>(XB (K:=K) (r:=Xa) 2 (EvB.sh (Xe 0)) fun a4 v5=>(YN (K:=K) (J:=({ oo:=fun x7=>[x7.2.2.2], ss:=fun x7=>[some v_0, some x7.2.2.1, some x7.2.1, x7.1], sc:=fun g8 x7=>(SC.addO (SC.add (SC.add SC.nil K (rP2 (rV (rV Xa)) (rV (rP2 Xa Xa))) v_0 a_0) K Xa x7.2.1 g8.1) K (oL (oL (oF Xa))) x7.2.2.1 g8.2 x7.2.2.2) } : Jn (Int × (List (List Int))) (Option V × V × V × List Xt))) (fun _=>tg1 3) ((none), v5, v2, C3) (a4, a1) (XH (Vt (Xn (r:=(rP2 (rV (rV Xa)) (rV (rP2 Xa Xa)))) 0 rfl (fun _ s=>(SC.r (SC.l (SC.l s))))))) rfl rfl (fun _ s=>(SC.i (SC.i (SC.i SC.t (SC.r (SC.l (SC.l s)))) (SC.r s)) (SC.r (SC.l s)))) (fun g9 x10 a11 v12=>(ZC (K:=K) (o:=(oL (oF Xa))) (f:=fun a18=>(Res.bind (Res.bind (Res.ok a11) fun x20=>(noE (Xu x20))) fun x21=>((fun (a23 : Int)=>(Res.ok (a23, a18))) (g9.1 + x21)))) 1 0 rfl rfl rfl (fun _ s=>(SC.r (SC.l s))) (Ym (Xd (r:=(rV Xa)) 3 rfl (fun _ s=>(SC.r s))) (Xd (r:=Xa) 2 rfl (fun _ s=>(SC.r (SC.l (SC.l s)))))) fun a16 C17=>(CC (K:=K) (f:=fun a23=>(Res.ok (a23, (g9.2 ++ [a16])))) 2 rfl (fun _ s=>(SC.r (SC.l (SC.l (SC.l s))))) (Ev.toB (YS (Xd (r:=(rV Xa)) 3 rfl (fun _ s=>(SC.r (SC.l s)))))) fun a23 v22=>(XD (J:=_) ((some v12), v22, x10.2.2.1, C17) (a23, (g9.2 ++ [a16])) rfl rfl (fun _ s=>(SC.i (SC.i (SC.i SC.t (SC.r (SC.l (SC.l (SC.l (SC.l (SC.l s))))))) (SC.r s)) (SC.r (SC.l s)))))))) fun g24 x25=>(Xz (YG (o:=(oL (oL (oF Xa)))) 1 0 rfl rfl (fun _ s=>(SC.r s)))))))
theorem VY : FnScope ["drawing"] ["drawing"] (Xj Zs):=⟨rfl, rfl, rfl, by decide +kernel, rfl, by decide +kernel, by decide +kernel⟩
set_option maxHeartbeats 4000000 in
theorem Ui (D : Def K mg "arc_count" Zs ["drawing"]) (g_arcs_of_walk : Fn P w K mg base 1 "arcs_of_walk" ["walk"] (sp1 (rV Xa) (oF Xa) Xu K)) (Y : Ecs Xy K mg) (Z : Blt mg) : Fn P w K mg base 2 "arc_count" ["drawing"] (sp1 (rP2 (rV (rV Xa)) (rV (rP2 Xa Xa))) (oF Xa) YD K):=by
  refine Zg D VY (fun vs H Q E h=>?_) (fun f cdv A outer s H vs Q E hr h=>?_)
  . obtain ⟨v_0, a_0, b, rfl, _⟩:=h; rfl
  obtain ⟨v_0, a_0, b, rfl, h_0, hm, q⟩:=h
  have hu:=hu8 hr
  have hu1:=YA hr
  refine ⟨_, (Xc (Xx (Xr (Gs rfl) rfl Z.b_sum PyProof.Rows.boot_sum (Xb (ZH (sc:=(Xj Zs)) (N0:=["drawing"]) (tns:=["walk"]) (caps:=[]) rfl (XT (K:=K) rfl (XO (Y4 K rfl) (pv 0) Xh (fun _ _=>rfl))) (Z0 (by decide)) (fun cl C s H ex E=>⟨Xo (i:=0) (show List.Nodup (["walk"] : List Str) by decide +kernel) rfl (Or.inl rfl), Qy, (Yy g_arcs_of_walk hr (by decide) (Xb (pv 0) Xf))⟩)) Xf)))
    Xg), ?_⟩
  refine Ze (S:=(SC.add SC.nil K (rP2 (rV (rV Xa)) (rV (rP2 Xa Xa))) v_0 a_0)) (σ:=[some v_0]) 0 ?_ (SC.i SC.t h_0) hm q rfl
  unfold YD
  exact (Xz (EvS.ev (EvB.sh (BZ (Ev.toB (Qt (fun _=>tg1 0) (XH (Vt (Xn (r:=(rP2 (rV (rV Xa)) (rV (rP2 Xa Xa)))) 0 rfl (fun _ s=>(SC.r s))))) (fun C3 a4 v5=>(YS (Xd (r:=(rV Xa)) 0 rfl (fun _ s=>(SC.r s)))))))))))
theorem Yw : FnScope ["drawing", "numbers", "told", "crossing", "sign", "above", "below", "over", "ways", "inward", "outward"] ["drawing"] (Xj U2):=⟨rfl, rfl, rfl, by decide +kernel, rfl, by decide +kernel, by decide +kernel⟩
set_option maxHeartbeats 4000000 in
theorem Da (D : Def K mg "meets" U2 ["drawing"]) (g_arcs : Fn P w K mg base 3 "arcs" ["drawing"] (sp1 (rP2 (rV (rV Xa)) (rV (rP2 Xa Xa))) (oL (oL (oF Xa))) JM K)) (g_spot : FnX P w K mg base 1 "spot" ["drawing", "passage"] (F7 mg (rP2 (rV (rV Xa)) (rV (rP2 Xa Xa))) Xa (oF (rP2 Xa Xa)) Ja K)) (Y : Ecs Xy K mg) (Z : Blt mg) : FnX P w K mg base 4 "meets" ["drawing"] (Hi mg (rP2 (rV (rV Xa)) (rV (rP2 Xa Xa))) (oL (oF (rP5 Xa Xa Xa Xa Xa))) Zw K):=by
  refine J9 D Yw (fun vs H Q E h=>?_) (fun f cdv A outer s H vs Q E hr h=>?_)
  . obtain ⟨v_0, a_0, rfl, _⟩:=h; rfl
  obtain ⟨v_0, a_0, rfl, h_0, hz⟩:=h
  have hu:=hu8 hr
  have hu1:=YA hr
  refine ⟨_, (Xc (PS.nox (Xp (i:=1) Yw.nd rfl (Or.inl rfl) (Yy g_arcs hr (by decide) (Xb (pv 0) Xf))))
    (Xc (PS.nox (Xp (i:=2) Yw.nd rfl (Or.inl rfl) (Yj Xf)))
    (Xc (Yg PassesOwn.leaving rfl (XT (K:=K) rfl (XO (Y4 K rfl) (pv 0) Xh (fun _ _=>rfl))) (V3 rfl (Yb (Xo (i:=3) Yw.nd rfl (Or.inl rfl)) (Yb (Xo (i:=4) Yw.nd rfl (Or.inl rfl)) Q3)))
      (Xc (Xp (i:=5) Yw.nd rfl (Or.inl rfl) (QE g_spot hr (by decide) KO (Xb (pv 0) (Xb (pv 3) Xf))))
      (Xc (Xp (i:=6) Yw.nd rfl (Or.inl rfl) (QE g_spot hr (by decide) KO (Xb (pv 0) (Xb (DP Ke (pv 3)) Xf))))
      (Xc (PS.nox (Xp (i:=7) Yw.nd rfl (Or.inl rfl) (XO (Xk K rfl) (XO (Xk K rfl) (pv 1) (XO (Y4 K rfl) (pv 5) Xh (fun _ _=>rfl)) (fun _ _=>rfl)) (XO (Y4 K rfl) (pv 5) Xh (fun _ _=>rfl)) (fun _ _=>rfl))))
      (Xc (PS.nox (Xp (i:=8) Yw.nd rfl (Or.inl rfl) (XO (Xk K rfl) (pv 1) (XO (Y4 K rfl) (pv 6) Xh (fun _ _=>rfl)) (fun _ _=>rfl))))
      (Xc (PS.nox (Xp (i:=9) Yw.nd rfl (Or.inl rfl) (XO (Xk K rfl) (pv 8) (XO (Y4 K rfl) (pv 6) Xh (fun _ _=>rfl)) (fun _ _=>rfl))))
      (Xc (PS.nox (Xp (i:=10) Yw.nd rfl (Or.inl rfl) (XO (Xk K rfl) (pv 8) (XC Zc (XC Yz (XO (Y4 K rfl) (pv 6) Xh (fun _ _=>rfl)) Xh) (Xr (Xs K rfl) rfl Z.b_len PySem.boot_len (Xb (pv 8) Xf))) (fun _ _=>rfl))))
      (Xc (PS.nox (Yn (ZS PySem.F.plainAttrs_list PySem.F.slot_list_append PySem.F.type_list_append X6 (pv 2) (Xb (Y6 (Xb (pv 3) (Xb (pv 4) (Xb (pv 7) (Xb (pv 9) (Xb (pv 10) Xf)))))) Xf))))
      Xg))))))))
    (Xc (PS.nox (Xx (pv 2)))
    Xg)))), ?_⟩
  refine VP (S:=(SC.add SC.nil K (rP2 (rV (rV Xa)) (rV (rP2 Xa Xa))) v_0 a_0)) (σ:=[some v_0, none, none, none, none, none, none, none, none, none, none]) 1 ?_ (SC.i SC.t h_0) hz rfl
  unfold Zw
  exact (XB (K:=K) (r:=(rV (rV Xa))) 1 (Ev.sh (YS (Xd (r:=(rP2 (rV (rV Xa)) (rV (rP2 Xa Xa)))) 0 rfl (fun _ s=>(SC.r s))))) fun a1 v2=>(Yk (K:=K) (o:=(oL (oF (rP5 Xa Xa Xa Xa Xa)))) 2 0 (Jj (o:=(oF (rP5 Xa Xa Xa Xa Xa)))) (Nat.le_of_ble_eq_true rfl) fun a5 v6 C7=>(YN (K:=K) (J:=({ oo:=fun x9=>[x9.2.2.2.2.2.2.2.2.2], ss:=fun x9=>[some v_0, some v2, some x9.2.2.2.2.2.2.2.2.1, x9.1, x9.2.1, x9.2.2.1, x9.2.2.2.1, x9.2.2.2.2.1, x9.2.2.2.2.2.1, x9.2.2.2.2.2.2.1, x9.2.2.2.2.2.2.2.1], sc:=fun g10 x9=>(SC.addO (SC.add (SC.add SC.nil K (rP2 (rV (rV Xa)) (rV (rP2 Xa Xa))) v_0 a_0) K (rV (rV Xa)) v2 a1) K (oL (oF (rP5 Xa Xa Xa Xa Xa))) x9.2.2.2.2.2.2.2.2.1 g10 x9.2.2.2.2.2.2.2.2.2) } : Jn ((List (Int × Int × Int × Int × Int))) (Option V × Option V × Option V × Option V × Option V × Option V × Option V × Option V × V × List Xt))) (fun _=>tg2 3 4) ((none), (none), (none), (none), (none), (none), (none), (none), v6, C7) (a5) (XH (B8 (Xn (r:=(rP2 (rV (rV Xa)) (rV (rP2 Xa Xa)))) 0 rfl (fun _ s=>(SC.r (SC.l (SC.l s))))))) rfl rfl (fun _ s=>(SC.i (SC.i (SC.i SC.t (SC.r (SC.l (SC.l s)))) (SC.r (SC.l s))) (SC.r s))) (fun g11 x12 a13 v14=>(XB (K:=K) (r:=(rP2 Xa Xa)) 5 (EvB.sh (Ev.toB (Zh (Xd (r:=(rP2 (rV (rV Xa)) (rV (rP2 Xa Xa)))) 0 rfl (fun _ s=>(SC.r (SC.l (SC.l (SC.l (SC.l s))))))) (Xd (r:=Xa) 3 rfl (fun _ s=>(SC.r (SC.l s))))))) fun a15 v16=>(XB (K:=K) (r:=(rP2 Xa Xa)) 6 (EvB.sh (Ev.toB (Zh (Xd (r:=(rP2 (rV (rV Xa)) (rV (rP2 Xa Xa)))) 0 rfl (fun _ s=>(SC.r (SC.l (SC.l (SC.l (SC.l (SC.l s)))))))) (VG (Xd (r:=Xa) 3 rfl (fun _ s=>(SC.r (SC.l (SC.l s))))))))) fun a19 v20=>(XB (K:=K) (r:=Xa) 7 (EvB.sh (XI (XI (Xd (r:=(rV (rV Xa))) 1 rfl (fun _ s=>(SC.r (SC.l (SC.l (SC.l (SC.l (SC.l s)))))))) (GL (Xd (r:=(rP2 Xa Xa)) 5 rfl (fun _ s=>(SC.r (SC.l s)))))) (Vn (Xd (r:=(rP2 Xa Xa)) 5 rfl (fun _ s=>(SC.r (SC.l s))))))) fun a24 v25=>(XB (K:=K) (r:=(rV Xa)) 8 (Hb (EvS.ls (Xn (r:=(rV (rV Xa))) 1 rfl (fun _ s=>(SC.r (SC.l (SC.l (SC.l (SC.l (SC.l (SC.l s)))))))))) (GL (Xd (r:=(rP2 Xa Xa)) 6 rfl (fun _ s=>(SC.r (SC.l s)))))) fun a32 v33=>(XB (K:=K) (r:=Xa) 9 (EvB.sh (XI (Xd (r:=(rV Xa)) 8 rfl (fun _ s=>(SC.r s))) (Vn (Xd (r:=(rP2 Xa Xa)) 6 rfl (fun _ s=>(SC.r (SC.l (SC.l s)))))))) fun a37 v38=>(XB (K:=K) (r:=Xa) 10 (EvB.sh (XI (Xd (r:=(rV Xa)) 8 rfl (fun _ s=>(SC.r (SC.l s)))) (Yv (X8 (Vn (Xd (r:=(rP2 Xa Xa)) 6 rfl (fun _ s=>(SC.r (SC.l (SC.l (SC.l s))))))) (Xe 1)) (YQ (Xd (r:=(rV Xa)) 8 rfl (fun _ s=>(SC.r (SC.l s)))))))) fun a42 v43=>(ZC (K:=K) (o:=(oF (rP5 Xa Xa Xa Xa Xa))) (f:=fun a59=>(Res.ok (a59))) 2 0 rfl rfl rfl (fun _ s=>(SC.r (SC.l (SC.l (SC.l (SC.l (SC.l (SC.l (SC.l (SC.l s)))))))))) (EvS.ev (Dj (Xn (r:=Xa) 3 rfl (fun _ s=>(SC.r (SC.l (SC.l (SC.l (SC.l (SC.l (SC.l (SC.l s)))))))))) (Xn (r:=Xa) 4 rfl (fun _ s=>(SC.r (SC.l (SC.l (SC.l (SC.l (SC.l (SC.l s))))))))) (Xn (r:=Xa) 7 rfl (fun _ s=>(SC.r (SC.l (SC.l (SC.l s)))))) (Xn (r:=Xa) 9 rfl (fun _ s=>(SC.r (SC.l s)))) (Xn (r:=Xa) 10 rfl (fun _ s=>(SC.r s))))) fun a57 C58=>(XD (J:=_) ((some v14.1), (some v14.2), (some v16), (some v20), (some v25), (some v33), (some v38), (some v43), x12.2.2.2.2.2.2.2.2.1, C58) ((g11 ++ [a57])) rfl rfl (fun _ s=>(SC.i (SC.i (SC.i SC.t (SC.r (SC.l (SC.l (SC.l (SC.l (SC.l (SC.l (SC.l (SC.l (SC.l (SC.l (SC.l s))))))))))))) (SC.r (SC.l (SC.l (SC.l (SC.l (SC.l (SC.l (SC.l (SC.l (SC.l (SC.l s)))))))))))) (SC.r s)))))))))))) fun g60 x61=>(Xz (YG (o:=(oL (oF (rP5 Xa Xa Xa Xa Xa)))) 2 0 rfl rfl (fun _ s=>(SC.r s)))))))
theorem ZZ : FnScope ["drawing", "told", "crossing", "sign", "over", "inward", "outward"] ["drawing"] (Xj GG):=⟨rfl, rfl, rfl, by decide +kernel, rfl, by decide +kernel, by decide +kernel⟩
set_option maxHeartbeats 4000000 in
theorem B4 (D : Def K mg "ties" GG ["drawing"]) (g_meets : FnX P w K mg base 4 "meets" ["drawing"] (Hi mg (rP2 (rV (rV Xa)) (rV (rP2 Xa Xa))) (oL (oF (rP5 Xa Xa Xa Xa Xa))) Zw K)) (Y : Ecs Xy K mg) (Z : Blt mg) : FnX P w K mg base 5 "ties" ["drawing"] (Hi mg (rP2 (rV (rV Xa)) (rV (rP2 Xa Xa))) (oL (oF (rP3 Xa Xa Xa))) JK K):=by
  refine J9 D ZZ (fun vs H Q E h=>?_) (fun f cdv A outer s H vs Q E hr h=>?_)
  . obtain ⟨v_0, a_0, rfl, _⟩:=h; rfl
  obtain ⟨v_0, a_0, rfl, h_0, hz⟩:=h
  have hu:=hu8 hr
  have hu1:=YA hr
  refine ⟨_, (Xc (PS.nox (Xp (i:=1) ZZ.nd rfl (Or.inl rfl) (Yj Xf)))
    (Xc (Yg PassesOwn.leaving rfl (XT (K:=K) rfl (QE g_meets hr (by decide) KO (Xb (pv 0) Xf))) (V3 rfl (Yb (Xo (i:=2) ZZ.nd rfl (Or.inl rfl)) (Yb (Xo (i:=3) ZZ.nd rfl (Or.inl rfl)) (Yb (Xo (i:=4) ZZ.nd rfl (Or.inl rfl)) (Yb (Xo (i:=5) ZZ.nd rfl (Or.inl rfl)) (Yb (Xo (i:=6) ZZ.nd rfl (Or.inl rfl)) Q3))))))
      (Xc (PS.nox (Yn (ZS PySem.F.plainAttrs_list PySem.F.slot_list_append PySem.F.type_list_append X6 (pv 1) (Xb (DJ (XN Gz (pv 3) Xh (XZ _)) (Y6 (Xb (pv 5) (Xb (pv 4) (Xb (pv 6) Xf)))) (Y6 (Xb (pv 6) (Xb (pv 4) (Xb (pv 5) Xf))))) Xf))))
      Xg))
    (Xc (PS.nox (Xx (pv 1)))
    Xg))), ?_⟩
  refine VP (S:=(SC.add SC.nil K (rP2 (rV (rV Xa)) (rV (rP2 Xa Xa))) v_0 a_0)) (σ:=[some v_0, none, none, none, none, none, none]) 1 ?_ (SC.i SC.t h_0) hz rfl
  unfold JK
  exact (Yk (K:=K) (o:=(oL (oF (rP3 Xa Xa Xa)))) 1 0 (Jj (o:=(oF (rP3 Xa Xa Xa)))) (Nat.le_of_ble_eq_true rfl) fun a1 v2 C3=>(YN (K:=K) (J:=({ oo:=fun x5=>[x5.2.2.2.2.2.2], ss:=fun x5=>[some v_0, some x5.2.2.2.2.2.1, x5.1, x5.2.1, x5.2.2.1, x5.2.2.2.1, x5.2.2.2.2.1], sc:=fun g6 x5=>(SC.addO (SC.add SC.nil K (rP2 (rV (rV Xa)) (rV (rP2 Xa Xa))) v_0 a_0) K (oL (oF (rP3 Xa Xa Xa))) x5.2.2.2.2.2.1 g6 x5.2.2.2.2.2.2) } : Jn ((List (Int × Int × Int))) (Option V × Option V × Option V × Option V × Option V × V × List Xt))) (fun _=>tg5 2 3 4 5 6) ((none), (none), (none), (none), (none), v2, C3) (a1) (XH (Ev.sh (VX (Xd (r:=(rP2 (rV (rV Xa)) (rV (rP2 Xa Xa)))) 0 rfl (fun _ s=>(SC.r (SC.l s))))))) rfl rfl (fun _ s=>(SC.i (SC.i SC.t (SC.r (SC.l s))) (SC.r s))) (fun g7 x8 a9 v10=>(ZC (K:=K) (o:=(oF (rP3 Xa Xa Xa))) (f:=fun a22=>(Res.ok (a22))) 1 0 rfl rfl rfl (fun _ s=>(SC.r (SC.l (SC.l (SC.l (SC.l (SC.l s))))))) (HR (Xw (K:=K) (Up (Xd (r:=Xa) 3 rfl (fun _ s=>(SC.r (SC.l (SC.l (SC.l s)))))) (Xe 1))) (EvS.ev (KH (Xn (r:=Xa) 5 rfl (fun _ s=>(SC.r (SC.l s)))) (Xn (r:=Xa) 4 rfl (fun _ s=>(SC.r (SC.l (SC.l s))))) (Xn (r:=Xa) 6 rfl (fun _ s=>(SC.r s))))) (EvS.ev (KH (Xn (r:=Xa) 6 rfl (fun _ s=>(SC.r s))) (Xn (r:=Xa) 4 rfl (fun _ s=>(SC.r (SC.l (SC.l s))))) (Xn (r:=Xa) 5 rfl (fun _ s=>(SC.r (SC.l s))))))) fun a20 C21=>(XD (J:=_) ((some v10.1), (some v10.2.1), (some v10.2.2.1), (some v10.2.2.2.1), (some v10.2.2.2.2), x8.2.2.2.2.2.1, C21) ((g7 ++ [a20])) rfl rfl (fun _ s=>(SC.i (SC.i SC.t (SC.r (SC.l (SC.l (SC.l (SC.l (SC.l (SC.l (SC.l s))))))))) (SC.r s)))))) fun g23 x24=>(Xz (YG (o:=(oL (oF (rP3 Xa Xa Xa)))) 1 0 rfl rfl (fun _ s=>(SC.r s))))))
theorem UD : FnScope ["table", "colours", "asked"] ["table", "colours", "asked"] (Xj ZJ):=⟨rfl, rfl, rfl, by decide +kernel, rfl, by decide +kernel, by decide +kernel⟩
set_option maxHeartbeats 4000000 in
theorem UM (D : Def K mg "all_held" ZJ ["table", "colours", "asked"])  (Y : Ecs Xy K mg) (Z : Blt mg) : Fn P w K mg base 1 "all_held" ["table", "colours", "asked"] (sp3 (rV (rV Xa)) (rV Xa) (rV (rP3 Xa Xa Xa)) (oF XY) YV K):=by
  refine Zg D UD (fun vs H Q E h=>?_) (fun f cdv A outer s H vs Q E hr h=>?_)
  . obtain ⟨v_0, v_1, v_2, a_0, a_1, a_2, b, rfl, _⟩:=h; rfl
  obtain ⟨v_0, v_1, v_2, a_0, a_1, a_2, b, rfl, h_0, h_1, h_2, hm, q⟩:=h
  have hu:=hu8 hr
  have hu1:=YA hr
  refine ⟨_, (Xc (Xx (Xr (G6 rfl) rfl Z.b_all PyProof.Rows.boot_all (Xb (ZH (sc:=(Xj ZJ)) (N0:=["table", "colours", "asked"]) (tns:=["start", "over", "end"]) (caps:=[(0, "table"), (1, "colours")]) rfl (XT (K:=K) rfl (pv 2)) (Br (by decide) (by decide) (by decide)) (fun cl C s H ex E=>⟨Bf K rfl rfl (Yb (Xo (i:=0) (show List.Nodup (["start", "over", "end", "table", "colours"] : List Str) by decide +kernel) rfl (Or.inl rfl)) (Yb (Xo (i:=1) (show List.Nodup (["start", "over", "end", "table", "colours"] : List Str) by decide +kernel) rfl (Or.inl rfl)) (Yb (Xo (i:=2) (show List.Nodup (["start", "over", "end", "table", "colours"] : List Str) by decide +kernel) rfl (Or.inl rfl)) Q3))), Qy, (U4 Gz (XO (Xk K rfl) (XO (Xk K rfl) (pv 3) (XO (Xk K rfl) (pv 4) (pv 0) (fun _ _=>rfl)) (fun _ _=>rfl)) (XO (Xk K rfl) (pv 4) (pv 1) (fun _ _=>rfl)) (fun _ _=>rfl)) (XO (Xk K rfl) (pv 4) (pv 2) (fun _ _=>rfl)) (XZ _))⟩)) Xf)))
    Xg), ?_⟩
  refine Ze (S:=(SC.add (SC.add (SC.add SC.nil K (rV (rV Xa)) v_0 a_0) K (rV Xa) v_1 a_1) K (rV (rP3 Xa Xa Xa)) v_2 a_2)) (σ:=[some v_0, some v_1, some v_2]) 0 ?_ (SC.i (SC.i (SC.i SC.t h_0) h_1) h_2) hm q rfl
  unfold YV
  exact (Xz (EvS.ev (EvB.sh (Bd (Ev.toB (Qt (fun _=>tg3 0 1 2) (XH (Xn (r:=(rV (rP3 Xa Xa Xa))) 2 rfl (fun _ s=>(SC.r s)))) (fun C2 a3 v4=>(EvS.ev (EvB.sh (Up (XI (XI (Xd (r:=(rV (rV Xa))) 3 rfl (fun _ s=>(SC.r (SC.l (SC.l (SC.l (SC.l (SC.l s)))))))) (XI (Xd (r:=(rV Xa)) 4 rfl (fun _ s=>(SC.r (SC.l (SC.l (SC.l (SC.l s))))))) (Xd (r:=Xa) 0 rfl (fun _ s=>(SC.r (SC.l (SC.l s))))))) (XI (Xd (r:=(rV Xa)) 4 rfl (fun _ s=>(SC.r (SC.l (SC.l (SC.l (SC.l s))))))) (Xd (r:=Xa) 1 rfl (fun _ s=>(SC.r (SC.l s)))))) (XI (Xd (r:=(rV Xa)) 4 rfl (fun _ s=>(SC.r (SC.l (SC.l (SC.l (SC.l s))))))) (Xd (r:=Xa) 2 rfl (fun _ s=>(SC.r s))))))))))))))
theorem X9 : FnScope ["size", "count", "lists", "arc"] ["size", "count"] (Xj YB):=⟨rfl, rfl, rfl, by decide +kernel, rfl, by decide +kernel, by decide +kernel⟩
set_option maxHeartbeats 4000000 in
theorem Z8 (D : Def K mg "refuse_too_much" YB ["size", "count"])  (Y : Ecs Xy K mg) (Z : Blt mg) : FnX P w K mg base 1 "refuse_too_much" ["size", "count"] (F7 mg Xa Xa oU XQ K):=by
  refine J9 D X9 (fun vs H Q E h=>?_) (fun f cdv A outer s H vs Q E hr h=>?_)
  . obtain ⟨v_0, v_1, a_0, a_1, rfl, _⟩:=h; rfl
  obtain ⟨v_0, v_1, a_0, a_1, rfl, h_0, h_1, hz⟩:=h
  obtain ⟨C_TooMuch, h_TooMuch, q_TooMuch⟩:=Y.adr "TooMuch" (.tail _ (.tail _ (.tail _ (.head _))))
  replace q_TooMuch:=q_TooMuch (by decide)
  have hu:=hu8 hr
  have hu1:=YA hr
  refine ⟨_, (Xc (PS.nox (Xp (i:=2) X9.nd rfl (Or.inl rfl) Xh))
    (Xc (PS.nox (Yg PassesOwn.never rfl (X4 rfl Z.b_range (Xb (pv 1) Xf)) (Xo (i:=3) X9.nd rfl (Or.inl rfl))
      (Xc (Fc (i:=2) X9.nd rfl (Or.inl rfl) (pv 0) Ep)
      Xg)))
    (Xc (Y7 (XN K7 (pv 2) (Cu Z.c_MOST_LISTS rfl) (XZ _))
      (Xc (Kh Co rfl q_TooMuch rfl h_TooMuch (Xb (Ix (Ft Qm (CB (Cu Z.c_MOST_LISTS rfl) (Ft Qm CM)))) Xf))
      Xg)
      Xg)
    Xg))), ?_⟩
  refine Hl (J:=({ oo:=fun x3=>[], ss:=fun x3=>[some v_0, some v_1, x3.1, x3.2], sc:=fun g4 x3=>(SC.add (SC.add SC.nil K Xa v_0 a_0) K Xa v_1 a_1) } : Jn (Unit) (Option V × Option V))) (K:=K) (S:=(SC.add (SC.add SC.nil K Xa v_0 a_0) K Xa v_1 a_1)) (σ:=[some v_0, some v_1, none, none]) 0 ?_ (SC.i (SC.i SC.t h_0) h_1) hz (fun _ _=>rfl)
  unfold XQ
  exact (XB (K:=K) (r:=Xa) 2 (EvB.sh (Xe 1)) fun a5 v6=>(YN (K:=K) (J:=({ oo:=fun x8=>[], ss:=fun x8=>[some v_0, some v_1, some x8.2, x8.1], sc:=fun g9 x8=>(SC.add (SC.add (SC.add SC.nil K Xa v_0 a_0) K Xa v_1 a_1) K Xa x8.2 g9) } : Jn (Int) (Option V × V))) (fun _=>tg1 3) ((none), v6) (a5) (XL (Xd (r:=Xa) 1 rfl (fun _ s=>(SC.r (SC.l s))))) rfl rfl (fun _ s=>(SC.i (SC.i (SC.i SC.t (SC.r (SC.l (SC.l s)))) (SC.r (SC.l s))) (SC.r s))) (fun g10 x11 a12 v13=>(B9 (K:=K) 2 rfl (fun _ s=>(SC.r (SC.l s))) (Xd (r:=Xa) 0 rfl (fun _ s=>(SC.r (SC.l (SC.l (SC.l s)))))) fun a16 v15=>(XD (J:=_) ((some v13), v15) (a16) rfl rfl (fun _ s=>(SC.i (SC.i (SC.i SC.t (SC.r (SC.l (SC.l (SC.l (SC.l s)))))) (SC.r (SC.l (SC.l (SC.l s))))) (SC.r s)))))) fun g17 x18=>(Ey (K:=K) (o:=oU) (Xw (K:=K) (JU (Xd (r:=Xa) 2 rfl (fun _ s=>(SC.r s))) (Xe 65536))) (Ka h_TooMuch (Hh (UE (Fr (K:=K) (Xe 65536) (UE FV))))) (XD (J:=_) ((some x18.2), (x18.1)) () rfl rfl (fun _ s=>(SC.i (SC.i SC.t (SC.r (SC.l (SC.l s)))) (SC.r (SC.l s))))))))
theorem X5 : FnScope ["lists", "table", "asked", "longer", "ahead", "colour", "tried"] ["lists", "table", "asked"] (Xj YZ):=⟨rfl, rfl, rfl, by decide +kernel, rfl, by decide +kernel, by decide +kernel⟩
set_option maxHeartbeats 4000000 in
theorem QM (D : Def K mg "longer_by_arc" YZ ["lists", "table", "asked"]) (g_all_held : Fn P w K mg base 1 "all_held" ["table", "colours", "asked"] (sp3 (rV (rV Xa)) (rV Xa) (rV (rP3 Xa Xa Xa)) (oF XY) YV K)) (Y : Ecs Xy K mg) (Z : Blt mg) : Fn P w K mg base 2 "longer_by_arc" ["lists", "table", "asked"] (sp3 (rV (rV Xa)) (rV (rV Xa)) (rV (rP3 Xa Xa Xa)) (oL (oL (oF Xa))) XW K):=by
  refine Zg D X5 (fun vs H Q E h=>?_) (fun f cdv A outer s H vs Q E hr h=>?_)
  . obtain ⟨v_0, v_1, v_2, a_0, a_1, a_2, b, rfl, _⟩:=h; rfl
  obtain ⟨v_0, v_1, v_2, a_0, a_1, a_2, b, rfl, h_0, h_1, h_2, hm, q⟩:=h
  have hu:=hu8 hr
  have hu1:=YA hr
  refine ⟨_, (Xc (Xp (i:=3) X5.nd rfl (Or.inl rfl) (Yj Xf))
    (Xc (Yg PassesOwn.never rfl (XT (K:=K) rfl (pv 0)) (Xo (i:=4) X5.nd rfl (Or.inl rfl))
      (Xc (Yg PassesOwn.never rfl (X4 rfl Z.b_range (Xb (Xr (Xs K rfl) rfl Z.b_len PySem.boot_len (Xb (pv 1) Xf)) Xf)) (Xo (i:=5) X5.nd rfl (Or.inl rfl))
        (Xc (Xp (i:=6) X5.nd rfl (Or.inl rfl) (XC CH (pv 4) (Yj (Xb (pv 5) Xf))))
        (Xc (Y7 (ZT (Yy g_all_held hr (by decide) (Xb (pv 1) (Xb (pv 6) (Xb (pv 2) Xf)))))
          (Xc (Yn (ZS PySem.F.plainAttrs_list PySem.F.slot_list_append PySem.F.type_list_append X6 (pv 3) (Xb (pv 6) Xf)))
          Xg)
          Xg)
        Xg)))
      Xg))
    (Xc (Xx (pv 3))
    Xg))), ?_⟩
  refine Ze (S:=(SC.add (SC.add (SC.add SC.nil K (rV (rV Xa)) v_0 a_0) K (rV (rV Xa)) v_1 a_1) K (rV (rP3 Xa Xa Xa)) v_2 a_2)) (σ:=[some v_0, some v_1, some v_2, none, none, none, none]) 2 ?_ (SC.i (SC.i (SC.i SC.t h_0) h_1) h_2) hm q rfl
  unfold XW
  exact (Yk (K:=K) (o:=(oL (oL (oF Xa)))) 3 0 (Jj (o:=(oL (oF Xa)))) (Nat.le_of_ble_eq_true rfl) fun a1 v2 C3=>(YN (K:=K) (J:=({ oo:=fun x4=>[x4.2.2.2.2, []], ss:=fun x4=>[some v_0, some v_1, some v_2, some x4.2.2.2.1, x4.1, x4.2.1, x4.2.2.1], sc:=fun g5 x4=>(SC.addO (SC.add (SC.add (SC.add SC.nil K (rV (rV Xa)) v_0 a_0) K (rV (rV Xa)) v_1 a_1) K (rV (rP3 Xa Xa Xa)) v_2 a_2) K (oL (oL (oF Xa))) x4.2.2.2.1 g5 x4.2.2.2.2) } : Jn ((List (List Int))) (Option V × Option V × Option V × V × List Xt))) (fun _=>tg1 4) ((none), (none), (none), v2, C3) (a1) (XH (Xn (r:=(rV (rV Xa))) 0 rfl (fun _ s=>(SC.r (SC.l (SC.l (SC.l s))))))) rfl rfl (fun _ s=>(SC.i (SC.i (SC.i (SC.i SC.t (SC.r (SC.l (SC.l (SC.l s))))) (SC.r (SC.l (SC.l s)))) (SC.r (SC.l s))) (SC.r s))) (fun g6 x7 a8 v9=>(YN (K:=K) (J:=({ oo:=fun x12=>[x12.2.2.2, []], ss:=fun x12=>[some v_0, some v_1, some v_2, some x12.2.2.1, some v9, x12.1, x12.2.1], sc:=fun g13 x12=>(SC.addO (SC.add (SC.add (SC.add (SC.add SC.nil K (rV (rV Xa)) v_0 a_0) K (rV (rV Xa)) v_1 a_1) K (rV (rP3 Xa Xa Xa)) v_2 a_2) K (rV Xa) v9 a8) K (oL (oL (oF Xa))) x12.2.2.1 g13 x12.2.2.2) } : Jn ((List (List Int))) (Option V × Option V × V × List Xt))) (fun _=>tg1 5) ((x7.2.1), (x7.2.2.1), x7.2.2.2.1, x7.2.2.2.2) (g6) (XL (YQ (Xd (r:=(rV (rV Xa))) 1 rfl (fun _ s=>(SC.r (SC.l (SC.l (SC.l s)))))))) rfl rfl (fun _ s=>(SC.i (SC.i (SC.i (SC.i (SC.i SC.t (SC.r (SC.l (SC.l (SC.l (SC.l s)))))) (SC.r (SC.l (SC.l (SC.l s))))) (SC.r (SC.l (SC.l s)))) (SC.r s)) (SC.r (SC.l s)))) (fun g14 x15 a16 v17=>(Yk (K:=K) (o:=(oL (oF Xa))) 6 1 (Ci (EvS.ls (Xn (r:=(rV Xa)) 4 rfl (fun _ s=>(SC.r (SC.l (SC.l s)))))) (Ev.ls (Z5 (Xl (Xn (r:=Xa) 5 rfl (fun _ s=>(SC.r s))) Zo)))) (Nat.le_of_ble_eq_true rfl) fun a18 v19 C20=>(Qp (J:=({ oo:=fun x31=>[x31.2.2, []], ss:=fun x31=>[some v_0, some v_1, some v_2, some x31.1, some v9, some v17, x31.2.1], sc:=fun g32 x31=>(SC.addO (SC.add (SC.add (SC.add (SC.add (SC.add SC.nil K (rV (rV Xa)) v_0 a_0) K (rV (rV Xa)) v_1 a_1) K (rV (rP3 Xa Xa Xa)) v_2 a_2) K (rV Xa) v9 a8) K Xa v17 a16) K (oL (oL (oF Xa))) x31.1 g32 x31.2.2) } : Jn ((List (List Int))) (V × Option V × List Xt))) (JV (Fd:=FNd ({ oo:=fun x31=>[x31.2.2, []], ss:=fun x31=>[some v_0, some v_1, some v_2, some x31.1, some v9, some v17, x31.2.1], sc:=fun g32 x31=>(SC.addO (SC.add (SC.add (SC.add (SC.add (SC.add SC.nil K (rV (rV Xa)) v_0 a_0) K (rV (rV Xa)) v_1 a_1) K (rV (rP3 Xa Xa Xa)) v_2 a_2) K (rV Xa) v9 a8) K Xa v17 a16) K (oL (oL (oF Xa))) x31.1 g32 x31.2.2) } : Jn ((List (List Int))) (V × Option V × List Xt))) (Jv (K:=K) (Ev.toB (ZL (Xd (r:=(rV (rV Xa))) 1 rfl (fun _ s=>(SC.r (SC.l (SC.l (SC.l (SC.l (SC.l s)))))))) (VL (o:=(oL (oF Xa))) 6 1 rfl rfl (fun _ s=>(SC.r s))) (Xd (r:=(rV (rP3 Xa Xa Xa))) 2 rfl (fun _ s=>(SC.r (SC.l (SC.l (SC.l (SC.l s)))))))))) (ZC (K:=K) (o:=(oL (oF Xa))) (f:=fun a35=>(Res.ok (a35))) 3 0 rfl rfl rfl (fun _ s=>(SC.r (SC.l (SC.l s)))) (YG (o:=(oL (oF Xa))) 6 1 rfl rfl (fun _ s=>(SC.r s))) fun a33 C34=>(XD (J:=_) (x15.2.2.1, (some v19), C34) ((g14 ++ [a33])) rfl rfl (fun _ s=>(SC.i (SC.i (SC.i (SC.i (SC.i (SC.i SC.t (SC.r (SC.l (SC.l (SC.l (SC.l (SC.l (SC.l (SC.l s))))))))) (SC.r (SC.l (SC.l (SC.l (SC.l (SC.l (SC.l s)))))))) (SC.r (SC.l (SC.l (SC.l (SC.l (SC.l s))))))) (SC.r (SC.l (SC.l (SC.l (SC.l s)))))) (SC.r (SC.l (SC.l s)))) (SC.r s))))) (BS 1 (XD (J:=_) (x15.2.2.1, (some v19), x15.2.2.2) (g14) rfl rfl (fun _ s=>(SC.i (SC.i (SC.i (SC.i (SC.i (SC.i SC.t (SC.r (SC.l (SC.l (SC.l (SC.l (SC.l (SC.l s)))))))) (SC.r (SC.l (SC.l (SC.l (SC.l (SC.l s))))))) (SC.r (SC.l (SC.l (SC.l (SC.l s)))))) (SC.r (SC.l (SC.l (SC.l s))))) (SC.r (SC.l s))) (SC.r (SC.l (SC.l s)))))))) fun g37 x36=>(XD (J:=_) ((some v17), (x36.2.1), x36.1, x36.2.2) (g37) rfl rfl (fun _ s=>(SC.i (SC.i (SC.i (SC.i (SC.i SC.t (SC.r (SC.l (SC.l (SC.l (SC.l (SC.l s))))))) (SC.r (SC.l (SC.l (SC.l (SC.l s)))))) (SC.r (SC.l (SC.l (SC.l s))))) (SC.r (SC.l (SC.l s)))) (SC.r s))))))) fun g38 x39=>(XD (J:=_) ((some v9), (x39.1), (x39.2.1), x39.2.2.1, x39.2.2.2) (g38) rfl rfl (fun _ s=>(SC.i (SC.i (SC.i (SC.i SC.t (SC.r (SC.l (SC.l (SC.l (SC.l s)))))) (SC.r (SC.l (SC.l (SC.l s))))) (SC.r (SC.l (SC.l s)))) (SC.r s)))))) fun g41 x42=>(Xz (YG (o:=(oL (oL (oF Xa)))) 3 0 rfl rfl (fun _ s=>(SC.r s))))))
theorem Yh : FnScope ["drawing", "table", "count", "asked", "told", "arc"] ["drawing", "table"] (Xj Zb):=⟨rfl, rfl, rfl, by decide +kernel, rfl, by decide +kernel, by decide +kernel⟩
set_option maxHeartbeats 4000000 in
theorem Vx (D : Def K mg "colourings" Zb ["drawing", "table"]) (g_arc_count : Fn P w K mg base 2 "arc_count" ["drawing"] (sp1 (rP2 (rV (rV Xa)) (rV (rP2 Xa Xa))) (oF Xa) YD K)) (g_refuse_too_much : FnX P w K mg base 1 "refuse_too_much" ["size", "count"] (F7 mg Xa Xa oU XQ K)) (g_ties : FnX P w K mg base 5 "ties" ["drawing"] (Hi mg (rP2 (rV (rV Xa)) (rV (rP2 Xa Xa))) (oL (oF (rP3 Xa Xa Xa))) JK K)) (g_longer_by_arc : Fn P w K mg base 2 "longer_by_arc" ["lists", "table", "asked"] (sp3 (rV (rV Xa)) (rV (rV Xa)) (rV (rP3 Xa Xa Xa)) (oL (oL (oF Xa))) XW K)) (Y : Ecs Xy K mg) (Z : Blt mg) : FnX P w K mg base 6 "colourings" ["drawing", "table"] (F7 mg (rP2 (rV (rV Xa)) (rV (rP2 Xa Xa))) (rV (rV Xa)) (oL (oL (oF Xa))) XF K):=by
  refine J9 D Yh (fun vs H Q E h=>?_) (fun f cdv A outer s H vs Q E hr h=>?_)
  . obtain ⟨v_0, v_1, a_0, a_1, rfl, _⟩:=h; rfl
  obtain ⟨v_0, v_1, a_0, a_1, rfl, h_0, h_1, hz⟩:=h
  have hu:=hu8 hr
  have hu1:=YA hr
  refine ⟨_, (Xc (PS.nox (Xp (i:=2) Yh.nd rfl (Or.inl rfl) (Yy g_arc_count hr (by decide) (Xb (pv 0) Xf))))
    (Xc (Yn (QE g_refuse_too_much hr (by decide) KO (Xb (Xr (Xs K rfl) rfl Z.b_len PySem.boot_len (Xb (pv 1) Xf)) (Xb (pv 2) Xf))))
    (Xc (Xp (i:=3) Yh.nd rfl (Or.inl rfl) (QE g_ties hr (by decide) KO (Xb (pv 0) Xf)))
    (Xc (PS.nox (Xp (i:=4) Yh.nd rfl (Or.inl rfl) (Yj (Xb (Yj Xf) Xf Qi))))
    (Xc (PS.nox (Yg PassesOwn.never rfl (X4 rfl Z.b_range (Xb (pv 2) Xf)) (Xo (i:=5) Yh.nd rfl (Or.inr rfl))
      (Xc (Xp (i:=4) Yh.nd rfl (Or.inl rfl) (Yy g_longer_by_arc hr (by decide) (Xb (pv 4) (Xb (pv 1) (Xb (ZH (sc:=(Xj Zb)) (N0:=["drawing", "table", "count", "asked", "told", "arc"]) (tns:=["tie"]) (caps:=[(5, "arc")]) rfl (XT (K:=K) rfl (pv 3)) (Z0 (by decide)) (fun cl C s H ex E=>⟨Xo (i:=0) (show List.Nodup (["tie", "arc"] : List Str) by decide +kernel) rfl (Or.inl rfl), (GT (XN Gz (Xr (Gw K rfl rfl) rfl Z.b_max PyProof.Rows.boot_max (Xb (pv 0) Xf)) (pv 1) (XZ _))), (pv 0)⟩)) Xf)))))
      Xg)))
    (Xc (PS.nox (Xx (pv 4)))
    Xg)))))), ?_⟩
  refine VP (S:=(SC.add (SC.add SC.nil K (rP2 (rV (rV Xa)) (rV (rP2 Xa Xa))) v_0 a_0) K (rV (rV Xa)) v_1 a_1)) (σ:=[some v_0, some v_1, none, none, none, none]) 1 ?_ (SC.i (SC.i SC.t h_0) h_1) hz rfl
  unfold XF
  exact (XB (K:=K) (r:=Xa) 2 (EvB.sh (Ev.toB (YS (Xd (r:=(rP2 (rV (rV Xa)) (rV (rP2 Xa Xa)))) 0 rfl (fun _ s=>(SC.r (SC.l s))))))) fun a1 v2=>(CZ (Ev.toB (Zh (YQ (Xd (r:=(rV (rV Xa))) 1 rfl (fun _ s=>(SC.r (SC.l s))))) (Xd (r:=Xa) 2 rfl (fun _ s=>(SC.r s))))) (XB (K:=K) (r:=(rV (rP3 Xa Xa Xa))) 3 (Ev.sh (VX (Xd (r:=(rP2 (rV (rV Xa)) (rV (rP2 Xa Xa)))) 0 rfl (fun _ s=>(SC.r (SC.l (SC.l s))))))) fun a9 v10=>(Yk (K:=K) (o:=(oL (oL (oF Xa)))) 4 0 (Be (VS (Jj (o:=(oF Xa))) fun _=>Kk)) (Nat.le_of_ble_eq_true rfl) fun a12 v13 C14=>(YN (K:=K) (J:=({ oo:=fun x19=>[x19.2.2], ss:=fun x19=>[some v_0, some v_1, some v2, some v10, some x19.2.1, x19.1], sc:=fun g20 x19=>(SC.addO (SC.add (SC.add (SC.add (SC.add SC.nil K (rP2 (rV (rV Xa)) (rV (rP2 Xa Xa))) v_0 a_0) K (rV (rV Xa)) v_1 a_1) K Xa v2 a1) K (rV (rP3 Xa Xa Xa)) v10 a9) K (oL (oL (oF Xa))) x19.2.1 g20 x19.2.2) } : Jn ((List (List Int))) (Option V × V × List Xt))) (fun _=>tg1 5) ((none), v13, C14) (a12) (XL (Xd (r:=Xa) 2 rfl (fun _ s=>(SC.r (SC.l (SC.l s)))))) rfl rfl (fun _ s=>(SC.i (SC.i (SC.i (SC.i (SC.i SC.t (SC.r (SC.l (SC.l (SC.l (SC.l s)))))) (SC.r (SC.l (SC.l (SC.l s))))) (SC.r (SC.l (SC.l s)))) (SC.r (SC.l s))) (SC.r s))) (fun g21 x22 a23 v24=>(Yk (K:=K) (o:=(oL (oL (oF Xa)))) 4 0 (ZL (VL (o:=(oL (oL (oF Xa)))) 4 0 rfl rfl (fun _ s=>(SC.r (SC.l s)))) (Xd (r:=(rV (rV Xa))) 1 rfl (fun _ s=>(SC.r (SC.l (SC.l (SC.l (SC.l s))))))) (Ev.toB (KL (fun _=>tg1 0) (XH (Xn (r:=(rV (rP3 Xa Xa Xa))) 3 rfl (fun _ s=>(SC.r (SC.l (SC.l s)))))) (fun C29 a30 v31=>(Xw (K:=K) (Up (DW (Ed (Xd (r:=(rP3 Xa Xa Xa)) 0 rfl (fun _ s=>(SC.r s))))) (Xd (r:=Xa) 1 rfl (fun _ s=>(SC.r (SC.l s))))))) (fun C29 a30 v31=>(EvS.ev (Xn (r:=(rP3 Xa Xa Xa)) 0 rfl (fun _ s=>(SC.r s)))))))) (Nat.le_of_ble_eq_true rfl) fun a25 v26 C27=>(XD (J:=_) ((some v24), v26, C27) (a25) rfl rfl (fun _ s=>(SC.i (SC.i (SC.i (SC.i (SC.i SC.t (SC.r (SC.l (SC.l (SC.l (SC.l (SC.l (SC.l s)))))))) (SC.r (SC.l (SC.l (SC.l (SC.l (SC.l s))))))) (SC.r (SC.l (SC.l (SC.l (SC.l s)))))) (SC.r (SC.l (SC.l (SC.l s))))) (SC.r s)))))) fun g39 x40=>(Xz (YG (o:=(oL (oL (oF Xa)))) 4 0 rfl rfl (fun _ s=>(SC.r s)))))))))
theorem Bm : FnScope ["drawing", "table"] ["drawing", "table"] (Xj Go):=⟨rfl, rfl, rfl, by decide +kernel, rfl, by decide +kernel, by decide +kernel⟩
set_option maxHeartbeats 4000000 in
theorem Ec (D : Def K mg "many" Go ["drawing", "table"]) (g_colourings : FnX P w K mg base 6 "colourings" ["drawing", "table"] (F7 mg (rP2 (rV (rV Xa)) (rV (rP2 Xa Xa))) (rV (rV Xa)) (oL (oL (oF Xa))) XF K)) (Y : Ecs Xy K mg) (Z : Blt mg) : FnX P w K mg base 7 "many" ["drawing", "table"] (F7 mg (rP2 (rV (rV Xa)) (rV (rP2 Xa Xa))) (rV (rV Xa)) (oF Xa) JN K):=by
  refine J9 D Bm (fun vs H Q E h=>?_) (fun f cdv A outer s H vs Q E hr h=>?_)
  . obtain ⟨v_0, v_1, a_0, a_1, rfl, _⟩:=h; rfl
  obtain ⟨v_0, v_1, a_0, a_1, rfl, h_0, h_1, hz⟩:=h
  have hu:=hu8 hr
  have hu1:=YA hr
  refine ⟨_, (Xc (Xx (Xr (Xs K rfl) rfl Z.b_len PySem.boot_len (Xb (QE g_colourings hr (by decide) KO (Xb (pv 0) (Xb (pv 1) Xf))) Xf)))
    Xg), ?_⟩
  refine VP (S:=(SC.add (SC.add SC.nil K (rP2 (rV (rV Xa)) (rV (rP2 Xa Xa))) v_0 a_0) K (rV (rV Xa)) v_1 a_1)) (σ:=[some v_0, some v_1]) 0 ?_ (SC.i (SC.i SC.t h_0) h_1) hz rfl
  unfold JN
  exact (Xz (EvS.ev (EvB.sh (YQ (Ev.toB (Zh (Xd (r:=(rP2 (rV (rV Xa)) (rV (rP2 Xa Xa)))) 0 rfl (fun _ s=>(SC.r (SC.l s)))) (Xd (r:=(rV (rV Xa))) 1 rfl (fun _ s=>(SC.r s)))))))))
theorem Vg : FnScope ["_law_script", "_law_place", "_law_seed", "_law_cell_here"] ["_law_script", "_law_place"] (Xj Fw):=⟨rfl, rfl, rfl, by decide +kernel, rfl, by decide +kernel, by decide +kernel⟩
set_option maxHeartbeats 4000000 in
theorem Bc (D : Def K mg "_law_cell" Fw ["_law_script", "_law_place"])  (Y : Ecs Xy K mg) (Z : Blt mg) : Fn P w K mg base 1 "_law_cell" ["_law_script", "_law_place"] (sp2 (rL Xa) Xa (oF Xa) Jk K):=by
  refine Zg D Vg (fun vs H Q E h=>?_) (fun f cdv A outer s H vs Q E hr h=>?_)
  . obtain ⟨v_0, v_1, a_0, a_1, b, rfl, _⟩:=h; rfl
  obtain ⟨v_0, v_1, a_0, a_1, b, rfl, h_0, h_1, hm, q⟩:=h
  have hu:=hu8 hr
  have hu1:=YA hr
  refine ⟨_, (Xc (Y7 (XN KR (pv 1) (Xr (Xs K rfl) rfl Z.b_len PySem.boot_len (Xb (pv 0) Xf)) (XZ _))
      (Xc (Xx (XO (Xk K rfl) (pv 0) (pv 1) (fun _ _=>rfl)))
      Xg)
      Xg)
    (Xc (Xp (i:=2) Vg.nd rfl (Or.inl rfl) Xh)
    (Xc (Yg PassesOwn.never rfl (XT (K:=K) rfl (QX (QP K rfl) (pv 0) Vh (Vu Xh))) (Xo (i:=3) Vg.nd rfl (Or.inl rfl))
      (Xc (Xp (i:=2) Vg.nd rfl (Or.inl rfl) (XC Zc (XC Yz (XC Yz (XC Zm (pv 2) Xh) (XC Zc (pv 3) Xh)) Xh) Xh))
      Xg))
    (Xc (Xx (XC Zc (XC Yz (pv 2) (XC Zm Xh (pv 1))) Xh))
    Xg)))), ?_⟩
  refine Ze (S:=(SC.add (SC.add SC.nil K (rL Xa) v_0 a_0) K Xa v_1 a_1)) (σ:=[some v_0, some v_1, none, none]) 0 ?_ (SC.i (SC.i SC.t h_0) h_1) hm q rfl
  unfold Jk
  exact (JA (Xw (K:=K) (VN (Xd (r:=Xa) 1 rfl (fun _ s=>(SC.r s))) (DV (Xd (r:=(rL Xa)) 0 rfl (fun _ s=>(SC.r (SC.l s))))))) (Xz (EvS.ev (EvB.sh (Ea (Xd (r:=(rL Xa)) 0 rfl (fun _ s=>(SC.r (SC.l s)))) (Xd (r:=Xa) 1 rfl (fun _ s=>(SC.r s))))))) (XB (K:=K) (r:=Xa) 2 (EvB.sh (Xe 5)) fun a7 v8=>(YN (K:=K) (J:=({ oo:=fun x13=>[], ss:=fun x13=>[some v_0, some v_1, some x13.2, x13.1], sc:=fun g14 x13=>(SC.add (SC.add (SC.add SC.nil K (rL Xa) v_0 a_0) K Xa v_1 a_1) K Xa x13.2 g14) } : Jn (Int) (Option V × V))) (fun _=>tg1 3) ((none), v8) (a7) (XH (Ev.sh (FC (Xd (r:=(rL Xa)) 0 rfl (fun _ s=>(SC.r (SC.l (SC.l s))))) QQ (QR (K:=K) (Xe 63))))) rfl rfl (fun _ s=>(SC.i (SC.i (SC.i SC.t (SC.r (SC.l (SC.l s)))) (SC.r (SC.l s))) (SC.r s))) (fun g15 x16 a17 v18=>(XB (K:=K) (r:=Xa) 2 (EvB.sh (Yv (X8 (X8 (YC (Xd (r:=Xa) 2 rfl (fun _ s=>(SC.r (SC.l s)))) (Xe 48271)) (Yv (Xd (r:=Xa) 3 rfl (fun _ s=>(SC.r s))) (Xe 1000003))) (Xe 1)) (Xe 2147483647))) fun a19 v20=>(XD (J:=_) ((some v18), v20) (a19) rfl rfl (fun _ s=>(SC.i (SC.i (SC.i SC.t (SC.r (SC.l (SC.l (SC.l (SC.l s)))))) (SC.r (SC.l (SC.l (SC.l s))))) (SC.r s)))))) fun g31 x32=>(Xz (EvS.ev (EvB.sh (Yv (X8 (Xd (r:=Xa) 2 rfl (fun _ s=>(SC.r s))) (YC (Xe 7919) (Xd (r:=Xa) 1 rfl (fun _ s=>(SC.r (SC.l s)))))) (Xe 1000003))))))))
theorem FW : FnScope ["_law_cell_here", "_law_k", "_law_one", "_law_two"] ["_law_cell_here", "_law_k"] (Xj Ee):=⟨rfl, rfl, rfl, by decide +kernel, rfl, by decide +kernel, by decide +kernel⟩
set_option maxHeartbeats 4000000 in
theorem EY (D : Def K mg "_law_mix" Ee ["_law_cell_here", "_law_k"])  (Y : Ecs Xy K mg) (Z : Blt mg) : Fn P w K mg base 1 "_law_mix" ["_law_cell_here", "_law_k"] (sp2 Xa Xa (oF Xa) UA K):=by
  refine Zg D FW (fun vs H Q E h=>?_) (fun f cdv A outer s H vs Q E hr h=>?_)
  . obtain ⟨v_0, v_1, a_0, a_1, b, rfl, _⟩:=h; rfl
  obtain ⟨v_0, v_1, a_0, a_1, b, rfl, h_0, h_1, hm, q⟩:=h
  have hu:=hu8 hr
  have hu1:=YA hr
  refine ⟨_, (Xc (Xp (i:=2) FW.nd rfl (Or.inl rfl) (XC Zc (XC Ce (XC Yz (XC Yz (XC Zc (pv 0) Xh) (XC Zm Xh (pv 1))) Xh) Xh) Xh))
    (Xc (Xp (i:=3) FW.nd rfl (Or.inl rfl) (XC Zc (XC Yz (XC Yz (XC Zm (pv 2) Xh) (XC Zm (XC Zm Xh (pv 1)) (pv 1))) Xh) Xh))
    (Xc (Xx (XC Kl (pv 3) Xh))
    Xg))), ?_⟩
  refine Ze (S:=(SC.add (SC.add SC.nil K Xa v_0 a_0) K Xa v_1 a_1)) (σ:=[some v_0, some v_1, none, none]) 0 ?_ (SC.i (SC.i SC.t h_0) h_1) hm q rfl
  unfold UA
  exact (XB (K:=K) (r:=Xa) 2 (EvB.sh (Yv (Fz (X8 (X8 (Yv (Xd (r:=Xa) 0 rfl (fun _ s=>(SC.r (SC.l s)))) (Xe 2147483629)) (YC (Xe 1013) (Xd (r:=Xa) 1 rfl (fun _ s=>(SC.r s))))) (Xe 7919)) (Xe 3)) (Xe 2147483647))) fun a1 v2=>(XB (K:=K) (r:=Xa) 3 (EvB.sh (Yv (X8 (X8 (YC (Xd (r:=Xa) 2 rfl (fun _ s=>(SC.r s))) (Xe 40699)) (YC (YC (Xe 3793) (Xd (r:=Xa) 1 rfl (fun _ s=>(SC.r (SC.l s))))) (Xd (r:=Xa) 1 rfl (fun _ s=>(SC.r (SC.l s)))))) (Xe 11)) (Xe 2147483399))) fun a15 v16=>(Xz (EvS.ev (EvB.sh (Gp (Xd (r:=Xa) 3 rfl (fun _ s=>(SC.r s))) (Xe 101)))))))
theorem Q9 : FnScope ["_law_script", "_law_place", "_law_sizes", "_law_cell_here", "_law_left", "_law_some", "_law_k", "_law_other"] ["_law_script", "_law_place", "_law_sizes"] (Xj CS):=⟨rfl, rfl, rfl, by decide +kernel, rfl, by decide +kernel, by decide +kernel⟩
set_option maxHeartbeats 4000000 in
theorem Ha (D : Def K mg "_law_row" CS ["_law_script", "_law_place", "_law_sizes"]) (g_cell : Fn P w K mg base 1 "_law_cell" ["_law_script", "_law_place"] (sp2 (rL Xa) Xa (oF Xa) Jk K)) (g_mix : Fn P w K mg base 1 "_law_mix" ["_law_cell_here", "_law_k"] (sp2 Xa Xa (oF Xa) UA K)) (Y : Ecs Xy K mg) (Z : Blt mg) : Fn P w K mg base 2 "_law_row" ["_law_script", "_law_place", "_law_sizes"] (sp3 (rL Xa) Xa (rV Xa) (oL (oF Xa)) UG K):=by
  refine Zg D Q9 (fun vs H Q E h=>?_) (fun f cdv A outer s H vs Q E hr h=>?_)
  . obtain ⟨v_0, v_1, v_2, a_0, a_1, a_2, b, rfl, _⟩:=h; rfl
  obtain ⟨v_0, v_1, v_2, a_0, a_1, a_2, b, rfl, h_0, h_1, h_2, hm, q⟩:=h
  have hu:=hu8 hr
  have hu1:=YA hr
  refine ⟨_, (Xc (Xp (i:=3) Q9.nd rfl (Or.inl rfl) (Yy g_cell hr (by decide) (Xb (pv 0) (Xb (pv 1) Xf))))
    (Xc (Xp (i:=4) Q9.nd rfl (Or.inl rfl) (pv 3))
    (Xc (Xp (i:=5) Q9.nd rfl (Or.inl rfl) (Yj Xf))
    (Xc (Yg PassesOwn.never rfl (X4 rfl Z.b_range (Xb (Xr (Xs K rfl) rfl Z.b_len PySem.boot_len (Xb (pv 2) Xf)) Xf)) (Xo (i:=6) Q9.nd rfl (Or.inl rfl))
      (Xc (Y7 (XN KR (pv 3) (XC Ce Xh Xh) (XZ _))
        (Xc (Yn (ZS PySem.F.plainAttrs_list PySem.F.slot_list_append PySem.F.type_list_append X6 (pv 5) (Xb (XC Zc (Yy g_mix hr (by decide) (Xb (pv 3) (Xb (pv 6) Xf))) (XO (Xk K rfl) (pv 2) (pv 6) (fun _ _=>rfl))) Xf)))
        Xg)
        (Xc (Y7 (XN K7 (pv 4) Xh (XZ _))
          (Xc (Yn (ZS PySem.F.plainAttrs_list PySem.F.slot_list_append PySem.F.type_list_append X6 (pv 5) (Xb (XC Zc (pv 4) (XO (Xk K rfl) (pv 2) (pv 6) (fun _ _=>rfl))) Xf)))
          (Xc (Xp (i:=4) Q9.nd rfl (Or.inl rfl) (XC Kl (pv 4) (XO (Xk K rfl) (pv 2) (pv 6) (fun _ _=>rfl))))
          Xg))
          (Xc (Xp (i:=7) Q9.nd rfl (Or.inl rfl) (Yy g_cell hr (by decide) (Xb (pv 0) (Xb (XC Zc (XC Yz (XC Yz (pv 1) Xh) (pv 6)) Xh) Xf))))
          (Xc (Yn (ZS PySem.F.plainAttrs_list PySem.F.slot_list_append PySem.F.type_list_append X6 (pv 5) (Xb (XC Zc (Yy g_mix hr (by decide) (Xb (pv 7) (Xb (pv 6) Xf))) (XO (Xk K rfl) (pv 2) (pv 6) (fun _ _=>rfl))) Xf)))
          Xg)))
        Xg))
      Xg))
    (Xc (Xx (pv 5))
    Xg))))), ?_⟩
  refine Ze (S:=(SC.add (SC.add (SC.add SC.nil K (rL Xa) v_0 a_0) K Xa v_1 a_1) K (rV Xa) v_2 a_2)) (σ:=[some v_0, some v_1, some v_2, none, none, none, none, none]) 1 ?_ (SC.i (SC.i (SC.i SC.t h_0) h_1) h_2) hm q rfl
  unfold UG
  exact (XB (K:=K) (r:=Xa) 3 (EvB.sh (Ev.toB (Ym (Xd (r:=(rL Xa)) 0 rfl (fun _ s=>(SC.r (SC.l (SC.l s))))) (Xd (r:=Xa) 1 rfl (fun _ s=>(SC.r (SC.l s))))))) fun a1 v2=>(XB (K:=K) (r:=Xa) 4 (Xn (r:=Xa) 3 rfl (fun _ s=>(SC.r s))) fun a6 v7=>(Yk (K:=K) (o:=(oL (oF Xa))) 5 0 (Jj (o:=(oF Xa))) (Nat.le_of_ble_eq_true rfl) fun a8 v9 C10=>(YN (K:=K) (J:=({ oo:=fun x13=>[x13.2.2.2.2], ss:=fun x13=>[some v_0, some v_1, some v_2, some v2, some x13.2.2.1, some x13.2.1, x13.1, x13.2.2.2.1], sc:=fun g14 x13=>(SC.add (SC.addO (SC.add (SC.add (SC.add (SC.add SC.nil K (rL Xa) v_0 a_0) K Xa v_1 a_1) K (rV Xa) v_2 a_2) K Xa v2 a1) K (oL (oF Xa)) x13.2.1 g14.1 x13.2.2.2.2) K Xa x13.2.2.1 g14.2) } : Jn ((List Int) × Int) (Option V × V × V × Option V × List Xt))) (fun _=>tg1 6) ((none), v9, v7, (none), C10) (a8, a6) (XL (YQ (Xd (r:=(rV Xa)) 2 rfl (fun _ s=>(SC.r (SC.l (SC.l (SC.l s)))))))) rfl rfl (fun _ s=>(SC.i (SC.i (SC.i (SC.i (SC.i (SC.i SC.t (SC.r (SC.l (SC.l (SC.l (SC.l (SC.l s))))))) (SC.r (SC.l (SC.l (SC.l (SC.l s)))))) (SC.r (SC.l (SC.l (SC.l s))))) (SC.r (SC.l (SC.l s)))) (SC.r s)) (SC.r (SC.l s)))) (fun g15 x16 a17 v18=>(Qp (J:=({ oo:=fun x24=>[x24.2.2.2], ss:=fun x24=>[some v_0, some v_1, some v_2, some v2, some x24.2.1, some x24.1, some v18, x24.2.2.1], sc:=fun g25 x24=>(SC.add (SC.addO (SC.add (SC.add (SC.add (SC.add (SC.add SC.nil K (rL Xa) v_0 a_0) K Xa v_1 a_1) K (rV Xa) v_2 a_2) K Xa v2 a1) K Xa v18 a17) K (oL (oF Xa)) x24.1 g25.1 x24.2.2.2) K Xa x24.2.1 g25.2) } : Jn ((List Int) × Int) (V × V × Option V × List Xt))) (JV (Fd:=FNd ({ oo:=fun x24=>[x24.2.2.2], ss:=fun x24=>[some v_0, some v_1, some v_2, some v2, some x24.2.1, some x24.1, some v18, x24.2.2.1], sc:=fun g25 x24=>(SC.add (SC.addO (SC.add (SC.add (SC.add (SC.add (SC.add SC.nil K (rL Xa) v_0 a_0) K Xa v_1 a_1) K (rV Xa) v_2 a_2) K Xa v2 a1) K Xa v18 a17) K (oL (oF Xa)) x24.1 g25.1 x24.2.2.2) K Xa x24.2.1 g25.2) } : Jn ((List Int) × Int) (V × V × Option V × List Xt))) (Xw (K:=K) (VN (Xd (r:=Xa) 3 rfl (fun _ s=>(SC.r (SC.l (SC.l (SC.l s)))))) (Fz (Xe 10) (Xe 18)))) (ZC (K:=K) (o:=(oF Xa)) (f:=fun a35=>(Res.ok (a35, g15.2))) 5 0 rfl rfl rfl (fun _ s=>(SC.r (SC.l (SC.l s)))) (EvS.ev (EvB.sh (Yv (Ev.toB (Ym (Xd (r:=Xa) 3 rfl (fun _ s=>(SC.r (SC.l (SC.l (SC.l s)))))) (Xd (r:=Xa) 6 rfl (fun _ s=>(SC.r s))))) (XI (Xd (r:=(rV Xa)) 2 rfl (fun _ s=>(SC.r (SC.l (SC.l (SC.l (SC.l s))))))) (Xd (r:=Xa) 6 rfl (fun _ s=>(SC.r s))))))) fun a33 C34=>(XD (J:=_) (x16.2.1, x16.2.2.1, (x16.2.2.2.1), C34) ((g15.1 ++ [a33]), g15.2) rfl rfl (fun _ s=>(SC.i (SC.i (SC.i (SC.i (SC.i (SC.i (SC.i SC.t (SC.r (SC.l (SC.l (SC.l (SC.l (SC.l (SC.l (SC.l s))))))))) (SC.r (SC.l (SC.l (SC.l (SC.l (SC.l (SC.l s)))))))) (SC.r (SC.l (SC.l (SC.l (SC.l (SC.l s))))))) (SC.r (SC.l (SC.l (SC.l (SC.l s)))))) (SC.r (SC.l s))) (SC.r s)) (SC.r (SC.l (SC.l s))))))) (Qp (J:=({ oo:=fun x39=>[x39.2.2.2], ss:=fun x39=>[some v_0, some v_1, some v_2, some v2, some x39.1, some x39.2.2.1, some v18, x39.2.1], sc:=fun g40 x39=>(SC.addO (SC.add (SC.add (SC.add (SC.add (SC.add (SC.add SC.nil K (rL Xa) v_0 a_0) K Xa v_1 a_1) K (rV Xa) v_2 a_2) K Xa v2 a1) K Xa v18 a17) K Xa x39.1 g40.1) K (oL (oF Xa)) x39.2.2.1 g40.2 x39.2.2.2) } : Jn (Int × (List Int)) (V × Option V × V × List Xt))) (JV (Fd:=FNd ({ oo:=fun x39=>[x39.2.2.2], ss:=fun x39=>[some v_0, some v_1, some v_2, some v2, some x39.1, some x39.2.2.1, some v18, x39.2.1], sc:=fun g40 x39=>(SC.addO (SC.add (SC.add (SC.add (SC.add (SC.add (SC.add SC.nil K (rL Xa) v_0 a_0) K Xa v_1 a_1) K (rV Xa) v_2 a_2) K Xa v2 a1) K Xa v18 a17) K Xa x39.1 g40.1) K (oL (oF Xa)) x39.2.2.1 g40.2 x39.2.2.2) } : Jn (Int × (List Int)) (V × Option V × V × List Xt))) (Xw (K:=K) (JU (Xd (r:=Xa) 4 rfl (fun _ s=>(SC.r (SC.l s)))) (Xe 0))) (ZC (K:=K) (o:=(oF Xa)) (f:=fun a47=>(Res.bind (Res.bind (Res.ok g15.2) fun x52=>(Res.bind (Res.bind (Res.ok a_2) fun x50=>(Res.bind (Res.ok a17) fun x51=>(atR x50 x51))) fun x53=>(Hc x52 x53))) fun a48=>(Res.ok (a48, a47)))) 5 0 rfl rfl rfl (fun _ s=>(SC.r (SC.l (SC.l s)))) (EvS.ev (EvB.sh (Yv (Xd (r:=Xa) 4 rfl (fun _ s=>(SC.r (SC.l s)))) (XI (Xd (r:=(rV Xa)) 2 rfl (fun _ s=>(SC.r (SC.l (SC.l (SC.l (SC.l s))))))) (Xd (r:=Xa) 6 rfl (fun _ s=>(SC.r s))))))) fun a45 C46=>(XB (K:=K) (r:=Xa) 4 (EvB.sh (Gp (Xd (r:=Xa) 4 rfl (fun _ s=>(SC.r (SC.l (SC.l s))))) (XI (Xd (r:=(rV Xa)) 2 rfl (fun _ s=>(SC.r (SC.l (SC.l (SC.l (SC.l (SC.l s)))))))) (Xd (r:=Xa) 6 rfl (fun _ s=>(SC.r (SC.l s))))))) fun a48 v49=>(XD (J:=_) (v49, (x16.2.2.2.1), x16.2.1, C46) (a48, (g15.1 ++ [a45])) rfl rfl (fun _ s=>(SC.i (SC.i (SC.i (SC.i (SC.i (SC.i (SC.i SC.t (SC.r (SC.l (SC.l (SC.l (SC.l (SC.l (SC.l (SC.l (SC.l s)))))))))) (SC.r (SC.l (SC.l (SC.l (SC.l (SC.l (SC.l (SC.l s))))))))) (SC.r (SC.l (SC.l (SC.l (SC.l (SC.l (SC.l s)))))))) (SC.r (SC.l (SC.l (SC.l (SC.l (SC.l s))))))) (SC.r (SC.l (SC.l s)))) (SC.r s)) (SC.r (SC.l s))))))) (XB (K:=K) (r:=Xa) 7 (EvB.sh (Ev.toB (Ym (Xd (r:=(rL Xa)) 0 rfl (fun _ s=>(SC.r (SC.l (SC.l (SC.l (SC.l (SC.l (SC.l s))))))))) (Yv (X8 (X8 (Xd (r:=Xa) 1 rfl (fun _ s=>(SC.r (SC.l (SC.l (SC.l (SC.l (SC.l s)))))))) (Xe 1)) (Xd (r:=Xa) 6 rfl (fun _ s=>(SC.r s)))) (Xe 63))))) fun a54 v55=>(ZC (K:=K) (o:=(oF Xa)) (f:=fun a74=>(Res.ok (g15.2, a74))) 5 0 rfl rfl rfl (fun _ s=>(SC.r (SC.l (SC.l (SC.l s))))) (EvS.ev (EvB.sh (Yv (Ev.toB (Ym (Xd (r:=Xa) 7 rfl (fun _ s=>(SC.r s))) (Xd (r:=Xa) 6 rfl (fun _ s=>(SC.r (SC.l s)))))) (XI (Xd (r:=(rV Xa)) 2 rfl (fun _ s=>(SC.r (SC.l (SC.l (SC.l (SC.l (SC.l s)))))))) (Xd (r:=Xa) 6 rfl (fun _ s=>(SC.r (SC.l s)))))))) fun a72 C73=>(XD (J:=_) (x16.2.2.1, (some v55), x16.2.1, C73) (g15.2, (g15.1 ++ [a72])) rfl rfl (fun _ s=>(SC.i (SC.i (SC.i (SC.i (SC.i (SC.i (SC.i SC.t (SC.r (SC.l (SC.l (SC.l (SC.l (SC.l (SC.l (SC.l (SC.l s)))))))))) (SC.r (SC.l (SC.l (SC.l (SC.l (SC.l (SC.l (SC.l s))))))))) (SC.r (SC.l (SC.l (SC.l (SC.l (SC.l (SC.l s)))))))) (SC.r (SC.l (SC.l (SC.l (SC.l (SC.l s))))))) (SC.r (SC.l (SC.l s)))) (SC.r (SC.l (SC.l (SC.l s))))) (SC.r s))))))) fun g76 x75=>(XD (J:=_) (x75.2.2.1, x75.1, (x75.2.1), x75.2.2.2) (g76.2, g76.1) rfl rfl (fun _ s=>(SC.i (SC.i (SC.i (SC.i (SC.i (SC.i (SC.i SC.t (SC.r (SC.l (SC.l (SC.l (SC.l (SC.l (SC.l s)))))))) (SC.r (SC.l (SC.l (SC.l (SC.l (SC.l s))))))) (SC.r (SC.l (SC.l (SC.l (SC.l s)))))) (SC.r (SC.l (SC.l (SC.l s))))) (SC.r (SC.l (SC.l s)))) (SC.r s)) (SC.r (SC.l s))))))) fun g78 x77=>(XD (J:=_) ((some v18), x77.1, x77.2.1, (x77.2.2.1), x77.2.2.2) (g78.1, g78.2) rfl rfl (fun _ s=>(SC.i (SC.i (SC.i (SC.i (SC.i (SC.i SC.t (SC.r (SC.l (SC.l (SC.l (SC.l (SC.l (SC.l s)))))))) (SC.r (SC.l (SC.l (SC.l (SC.l (SC.l s))))))) (SC.r (SC.l (SC.l (SC.l (SC.l s)))))) (SC.r (SC.l (SC.l (SC.l s))))) (SC.r (SC.l s))) (SC.r s)))))) fun g79 x80=>(Xz (YG (o:=(oL (oF Xa))) 5 0 rfl rfl (fun _ s=>(SC.r (SC.l s)))))))))
theorem U1 : FnScope ["_law_one"] ["_law_one"] (Xj Qz):=⟨rfl, rfl, rfl, by decide +kernel, rfl, by decide +kernel, by decide +kernel⟩
set_option maxHeartbeats 4000000 in
theorem UL (D : Def K mg "_law_is_whole" Qz ["_law_one"])  (Y : Ecs Xy K mg) (Z : Blt mg) : Fn P w K mg base 1 "_law_is_whole" ["_law_one"] (sp1 Xa (oF XY) YF K):=by
  refine Zg D U1 (fun vs H Q E h=>?_) (fun f cdv A outer s H vs Q E hr h=>?_)
  . obtain ⟨v_0, a_0, b, rfl, _⟩:=h; rfl
  obtain ⟨v_0, a_0, b, rfl, h_0, hm, q⟩:=h
  have hu:=hu8 hr
  have hu1:=YA hr
  refine ⟨_, (Xc (Xx (Cq (Xr Zp rfl Z.b_isinstance PyProof.Rows.boot_isinstance (Xb (pv 0) (Xb (VI (v:=V.ty "int") rfl Z.b_int PyProof.Rows.boot_int rfl) Xf))) (Cv (El (Xr Zp rfl Z.b_isinstance PyProof.Rows.boot_isinstance (Xb (pv 0) (Xb (VI (v:=V.ty "bool") rfl Z.b_bool PyProof.Rows.boot_bool rfl) Xf)))))))
    Xg), ?_⟩
  refine Ze (S:=(SC.add SC.nil K Xa v_0 a_0)) (σ:=[some v_0]) 0 ?_ (SC.i SC.t h_0) hm q rfl
  unfold YF
  exact (Xz (EvS.ev (EvB.sh (Kw (ZI "int" true (Vp K "int") (Xd (r:=Xa) 0 rfl (fun _ s=>(SC.r s)))) (Du (ZI "bool" false (V4 K) (Xd (r:=Xa) 0 rfl (fun _ s=>(SC.r s)))))))))
theorem QD : FnScope ["_law_found", "_law_one"] ["_law_found"] (Xj Z1):=⟨rfl, rfl, rfl, by decide +kernel, rfl, by decide +kernel, by decide +kernel⟩
set_option maxHeartbeats 4000000 in
theorem Uw (D : Def K mg "_law_is_wholes" Z1 ["_law_found"]) (g_is_whole : Fn P w K mg base 1 "_law_is_whole" ["_law_one"] (sp1 Xa (oF XY) YF K)) (Y : Ecs Xy K mg) (Z : Blt mg) : Fn P w K mg base 2 "_law_is_wholes" ["_law_found"] (sp1 (rV Xa) (oF XY) YH K):=by
  refine Zg D QD (fun vs H Q E h=>?_) (fun f cdv A outer s H vs Q E hr h=>?_)
  . obtain ⟨v_0, a_0, b, rfl, _⟩:=h; rfl
  obtain ⟨v_0, a_0, b, rfl, h_0, hm, q⟩:=h
  have hu:=hu8 hr
  have hu1:=YA hr
  refine ⟨_, (Xc (Y7 (QG (ZT (Xr Zp rfl Z.b_isinstance PyProof.Rows.boot_isinstance (Xb (pv 0) (Xb (VI (v:=V.ty "list") rfl Z.b_list PyProof.Rows.boot_list rfl) Xf)))))
      (Xc (Xx QN)
      Xg)
      Xg)
    (Xc (Yg PassesOwn.never rfl (XT (K:=K) rfl (pv 0)) (Xo (i:=1) QD.nd rfl (Or.inl rfl))
      (Xc (Y7 (QG (ZT (Yy g_is_whole hr (by decide) (Xb (pv 1) Xf))))
        (Xc (Xx QN)
        Xg)
        Xg)
      Xg))
    (Xc (Xx QN)
    Xg))), ?_⟩
  refine Ze (S:=(SC.add SC.nil K (rV Xa) v_0 a_0)) (σ:=[some v_0, none]) 0 ?_ (SC.i SC.t h_0) hm q rfl
  unfold YH
  exact (JA (Zz (Jv (K:=K) (ZI "list" true (Vp K "list") (Xd (r:=(rV Xa)) 0 rfl (fun _ s=>(SC.r s)))))) (Xz (EvS.ev (EvB.sh (Zu false)))) (Vw (K:=K) (J:=({ oo:=fun x4=>[], ss:=fun x4=>[some v_0, x4], sc:=fun g5 x4=>(SC.add SC.nil K (rV Xa) v_0 a_0) } : Jn (Unit) (Option V))) (fun _=>tg1 1) ((none)) () (XH (Xn (r:=(rV Xa)) 0 rfl (fun _ s=>(SC.r s)))) rfl rfl (fun _ s=>(SC.i SC.t (SC.r s))) (fun g6 x7 a8 v9=>(ZD (Zz (Jv (K:=K) (Ev.toB (YS (Xd (r:=Xa) 1 rfl (fun _ s=>(SC.r s))))))) (Xz (EvS.ev (EvB.sh (Zu false)))) (JJ (XD (J:=_) ((some v9)) () rfl rfl (fun _ s=>(SC.i SC.t (SC.r (SC.l s)))))))) fun g16 x17=>(Xz (EvS.ev (EvB.sh (Zu true))))))
theorem ZG : FnScope ["_law_some", "_law_count", "_law_left", "_law_found", "_law_k"] ["_law_some", "_law_count"] (Xj Jr):=⟨rfl, rfl, rfl, by decide +kernel, rfl, by decide +kernel, by decide +kernel⟩
set_option maxHeartbeats 4000000 in
theorem K1 (D : Def K mg "_law_ordered" Jr ["_law_some", "_law_count"])  (Y : Ecs Xy K mg) (Z : Blt mg) : Fn P w K mg base 1 "_law_ordered" ["_law_some", "_law_count"] (sp2 (rV Xa) Xa (oL (oF Xa)) Zf K):=by
  refine Zg D ZG (fun vs H Q E h=>?_) (fun f cdv A outer s H vs Q E hr h=>?_)
  . obtain ⟨v_0, v_1, a_0, a_1, b, rfl, _⟩:=h; rfl
  obtain ⟨v_0, v_1, a_0, a_1, b, rfl, h_0, h_1, hm, q⟩:=h
  have hu:=hu8 hr
  have hu1:=YA hr
  refine ⟨_, (Xc (Xp (i:=2) ZG.nd rfl (Or.inl rfl) (Uo rfl rfl rfl Z.b_list Z.b_range (Xb (pv 1) Xf)))
    (Xc (Xp (i:=3) ZG.nd rfl (Or.inl rfl) (Yj Xf))
    (Xc (Yg PassesOwn.never rfl (X4 rfl Z.b_range (Xb (pv 1) Xf)) (Xo (i:=4) ZG.nd rfl (Or.inl rfl))
      (Xc (Yn (ZS PySem.F.plainAttrs_list PySem.F.slot_list_append PySem.F.type_list_append X6 (pv 3) (Xb (ZS PySem.F.plainAttrs_list PySem.F.slot_list_pop PySem.F.type_list_pop DC (pv 2) (Xb (XC Zc (XO (Xk K rfl) (pv 0) (pv 4) (fun _ _=>rfl)) (Xr (Xs K rfl) rfl Z.b_len PySem.boot_len (Xb (pv 2) Xf))) Xf)) Xf)))
      Xg))
    (Xc (Xx (pv 3))
    Xg)))), ?_⟩
  refine Ze (S:=(SC.add (SC.add SC.nil K (rV Xa) v_0 a_0) K Xa v_1 a_1)) (σ:=[some v_0, some v_1, none, none, none]) 2 ?_ (SC.i (SC.i SC.t h_0) h_1) hm q rfl
  unfold Zf
  exact (Yk (K:=K) (o:=(oL (oF Xa))) 2 1 (Um (Xd (r:=Xa) 1 rfl (fun _ s=>(SC.r s)))) (Nat.le_of_ble_eq_true rfl) fun a1 v2 C3=>(Yk (K:=K) (o:=(oL (oF Xa))) 3 0 (Jj (o:=(oF Xa))) (Nat.le_of_ble_eq_true rfl) fun a5 v6 C7=>(YN (K:=K) (J:=({ oo:=fun x9=>[x9.2.2.2.1, x9.2.2.2.2], ss:=fun x9=>[some v_0, some v_1, some x9.2.2.1, some x9.2.1, x9.1], sc:=fun g10 x9=>(SC.addO (SC.addO (SC.add (SC.add SC.nil K (rV Xa) v_0 a_0) K Xa v_1 a_1) K (oL (oF Xa)) x9.2.1 g10.1 x9.2.2.2.1) K (oL (oF Xa)) x9.2.2.1 g10.2 x9.2.2.2.2) } : Jn ((List Int) × (List Int)) (Option V × V × V × List Xt × List Xt))) (fun _=>tg1 4) ((none), v6, v2, C7, C3) (a5, a1) (XL (Xd (r:=Xa) 1 rfl (fun _ s=>(SC.r (SC.l (SC.l s)))))) rfl rfl (fun _ s=>(SC.i (SC.i (SC.i (SC.i SC.t (SC.r (SC.l (SC.l (SC.l s))))) (SC.r (SC.l (SC.l s)))) (SC.r s)) (SC.r (SC.l s)))) (fun g11 x12 a13 v14=>(Dt (K:=K) (r:=Xa) (f:=fun a21 a22=>(Res.ok (a22, a21))) 2 1 3 0 (by decide) rfl rfl (fun _ s=>(SC.r (SC.l s))) rfl rfl (fun _ s=>(SC.r (SC.l (SC.l s)))) (Yv (XI (Xd (r:=(rV Xa)) 0 rfl (fun _ s=>(SC.r (SC.l (SC.l (SC.l (SC.l s))))))) (Xd (r:=Xa) 4 rfl (fun _ s=>(SC.r s)))) (YQ (VL (o:=(oL (oF Xa))) 2 1 rfl rfl (fun _ s=>(SC.r (SC.l s)))))) fun a20 a21 C23 C24=>(XD (J:=_) ((some v14), x12.2.1, x12.2.2.1, C24, C23) ((g11.1 ++ [a20]), a21) rfl rfl (fun _ s=>(SC.i (SC.i (SC.i (SC.i SC.t (SC.r (SC.l (SC.l (SC.l (SC.l (SC.l (SC.l s)))))))) (SC.r (SC.l (SC.l (SC.l (SC.l (SC.l s))))))) (SC.r s)) (SC.r (SC.l s))))))) fun g27 x28=>(Xz (YG (o:=(oL (oF Xa))) 3 0 rfl rfl (fun _ s=>(SC.r (SC.l s))))))))
theorem Qg : FnScope ["_law_some", "_law_spots", "_law_found", "_law_a", "_law_b"] ["_law_some", "_law_spots"] (Xj QY):=⟨rfl, rfl, rfl, by decide +kernel, rfl, by decide +kernel, by decide +kernel⟩
set_option maxHeartbeats 4000000 in
theorem FH (D : Def K mg "_law_relaid" QY ["_law_some", "_law_spots"])  (Y : Ecs Xy K mg) (Z : Blt mg) : Fn P w K mg base 1 "_law_relaid" ["_law_some", "_law_spots"] (sp2 (rV (rV Xa)) (rV Xa) (oL (oL (oF Xa))) ZK K):=by
  refine Zg D Qg (fun vs H Q E h=>?_) (fun f cdv A outer s H vs Q E hr h=>?_)
  . obtain ⟨v_0, v_1, a_0, a_1, b, rfl, _⟩:=h; rfl
  obtain ⟨v_0, v_1, a_0, a_1, b, rfl, h_0, h_1, hm, q⟩:=h
  have hu:=hu8 hr
  have hu1:=YA hr
  refine ⟨_, (Xc (Fj 2 (Xj QY) ["_law_some", "_law_spots", "_law_found", "_law_a", "_law_b"] ["_law_line"] [] rfl Qg.nd rfl rfl (XT (K:=K) rfl (pv 0)) (Z0 (by decide)) (fun cl C s H ex E=>⟨Xo (i:=0) (show List.Nodup (["_law_line"] : List Str) by decide +kernel) rfl (Or.inl rfl), Qy, (Qf (YT K rfl) rfl Z.b_list PyProof.Rows.boot_list (Xb (pv 0) Xf))⟩))
    (Xc (Yg PassesOwn.never rfl (X4 rfl Z.b_range (Xb (Xr (Xs K rfl) rfl Z.b_len PySem.boot_len (Xb (pv 0) Xf)) Xf)) (Xo (i:=3) Qg.nd rfl (Or.inl rfl))
      (Xc (Yg PassesOwn.never rfl (X4 rfl Z.b_range (Xb (Xr (Xs K rfl) rfl Z.b_len PySem.boot_len (Xb (pv 0) Xf)) Xf)) (Xo (i:=4) Qg.nd rfl (Or.inl rfl))
        (Xc (CA (XO (Xk K rfl) (pv 1) (XO (Xk K rfl) (XO (Xk K rfl) (pv 0) (pv 3) (fun _ _=>rfl)) (pv 4) (fun _ _=>rfl)) (fun _ _=>rfl)) (Hd (XO (Xk K rfl) (pv 2) (XO (Xk K rfl) (pv 1) (pv 3) (fun _ _=>rfl)) (fun _ _=>rfl)) (XO (Xk K rfl) (pv 1) (pv 4) (fun _ _=>rfl)) DN))
        Xg))
      Xg))
    (Xc (Xx (pv 2))
    Xg))), ?_⟩
  refine Ze (S:=(SC.add (SC.add SC.nil K (rV (rV Xa)) v_0 a_0) K (rV Xa) v_1 a_1)) (σ:=[some v_0, some v_1, none, none, none]) 1 ?_ (SC.i (SC.i SC.t h_0) h_1) hm q rfl
  unfold ZK
  exact (Yk (K:=K) (o:=(oL (oL (oF Xa)))) 2 0 (Qt (fun _=>tg1 0) (XH (Xn (r:=(rV (rV Xa))) 0 rfl (fun _ s=>(SC.r (SC.l s))))) (fun C4 a5 v6=>(Vv (EvS.ls (Xn (r:=(rV Xa)) 0 rfl (fun _ s=>(SC.r s))))))) (Nat.le_of_ble_eq_true rfl) fun a1 v2 C3=>(YN (K:=K) (J:=({ oo:=fun x11=>[x11.2.2.2], ss:=fun x11=>[some v_0, some v_1, some x11.2.2.1, x11.1, x11.2.1], sc:=fun g12 x11=>(SC.addO (SC.add (SC.add SC.nil K (rV (rV Xa)) v_0 a_0) K (rV Xa) v_1 a_1) K (oL (oL (oF Xa))) x11.2.2.1 g12 x11.2.2.2) } : Jn ((List (List Int))) (Option V × Option V × V × List Xt))) (fun _=>tg1 3) ((none), (none), v2, C3) (a1) (XL (YQ (Xd (r:=(rV (rV Xa))) 0 rfl (fun _ s=>(SC.r (SC.l (SC.l s))))))) rfl rfl (fun _ s=>(SC.i (SC.i (SC.i SC.t (SC.r (SC.l (SC.l s)))) (SC.r (SC.l s))) (SC.r s))) (fun g13 x14 a15 v16=>(YN (K:=K) (J:=({ oo:=fun x19=>[x19.2.2], ss:=fun x19=>[some v_0, some v_1, some x19.2.1, some v16, x19.1], sc:=fun g20 x19=>(SC.addO (SC.add (SC.add (SC.add SC.nil K (rV (rV Xa)) v_0 a_0) K (rV Xa) v_1 a_1) K Xa v16 a15) K (oL (oL (oF Xa))) x19.2.1 g20 x19.2.2) } : Jn ((List (List Int))) (Option V × V × List Xt))) (fun _=>tg1 4) ((x14.2.1), x14.2.2.1, x14.2.2.2) (g13) (XL (YQ (Xd (r:=(rV (rV Xa))) 0 rfl (fun _ s=>(SC.r (SC.l (SC.l (SC.l s)))))))) rfl rfl (fun _ s=>(SC.i (SC.i (SC.i (SC.i SC.t (SC.r (SC.l (SC.l (SC.l s))))) (SC.r (SC.l (SC.l s)))) (SC.r s)) (SC.r (SC.l s)))) (fun g21 x22 a23 v24=>(FG (K:=K) (r:=Xa) 2 0 rfl rfl (fun _ s=>(SC.r (SC.l s))) (EvB.sh (XI (Xd (r:=(rV Xa)) 1 rfl (fun _ s=>(SC.r (SC.l (SC.l (SC.l s)))))) (XI (XI (Xd (r:=(rV (rV Xa))) 0 rfl (fun _ s=>(SC.r (SC.l (SC.l (SC.l (SC.l s))))))) (Xd (r:=Xa) 3 rfl (fun _ s=>(SC.r (SC.l (SC.l s)))))) (Xd (r:=Xa) 4 rfl (fun _ s=>(SC.r s)))))) (XI (Xd (r:=(rV Xa)) 1 rfl (fun _ s=>(SC.r (SC.l (SC.l (SC.l s)))))) (Xd (r:=Xa) 3 rfl (fun _ s=>(SC.r (SC.l (SC.l s)))))) (XI (Xd (r:=(rV Xa)) 1 rfl (fun _ s=>(SC.r (SC.l (SC.l (SC.l s)))))) (Xd (r:=Xa) 4 rfl (fun _ s=>(SC.r s)))) fun a38 C39=>(XD (J:=_) ((some v24), x22.2.1, C39) (a38) rfl rfl (fun _ s=>(SC.i (SC.i (SC.i (SC.i SC.t (SC.r (SC.l (SC.l (SC.l (SC.l (SC.l s))))))) (SC.r (SC.l (SC.l (SC.l (SC.l s)))))) (SC.r (SC.l (SC.l (SC.l s))))) (SC.r s)))))) fun g42 x43=>(XD (J:=_) ((some v16), (x43.1), x43.2.1, x43.2.2) (g42) rfl rfl (fun _ s=>(SC.i (SC.i (SC.i SC.t (SC.r (SC.l (SC.l (SC.l s))))) (SC.r (SC.l (SC.l s)))) (SC.r s)))))) fun g45 x46=>(Xz (YG (o:=(oL (oL (oF Xa)))) 2 0 rfl rfl (fun _ s=>(SC.r s))))))
theorem BM : FnScope ["_law_drawing"] ["_law_drawing"] (Xj Kz):=⟨rfl, rfl, rfl, by decide +kernel, rfl, by decide +kernel, by decide +kernel⟩
set_option maxHeartbeats 4000000 in
theorem Bi (D : Def K mg "_law_copy" Kz ["_law_drawing"])  (Y : Ecs Xy K mg) (Z : Blt mg) : Fn P w K mg base 1 "_law_copy" ["_law_drawing"] (sp1 (rP2 (rV (rV Xa)) (rV (rP2 Xa Xa))) (oT2 (oL (oL (oF Xa))) (oL (oF (rP2 Xa Xa)))) JH K):=by
  refine Zg D BM (fun vs H Q E h=>?_) (fun f cdv A outer s H vs Q E hr h=>?_)
  . obtain ⟨v_0, a_0, b, rfl, _⟩:=h; rfl
  obtain ⟨v_0, a_0, b, rfl, h_0, hm, q⟩:=h
  have hu:=hu8 hr
  have hu1:=YA hr
  refine ⟨_, (Xc (Xx (Y6 (Xb (ZH (sc:=(Xj Kz)) (N0:=["_law_drawing"]) (tns:=["_law_walk"]) (caps:=[]) rfl (XT (K:=K) rfl (XO (Y4 K rfl) (pv 0) Xh (fun _ _=>rfl))) (Z0 (by decide)) (fun cl C s H ex E=>⟨Xo (i:=0) (show List.Nodup (["_law_walk"] : List Str) by decide +kernel) rfl (Or.inl rfl), Qy, (Qf (YT K rfl) rfl Z.b_list PyProof.Rows.boot_list (Xb (pv 0) Xf))⟩)) (Xb (Qf (YT K rfl) rfl Z.b_list PyProof.Rows.boot_list (Xb (XO (Y4 K rfl) (pv 0) Xh (fun _ _=>rfl)) Xf)) Xf))))
    Xg), ?_⟩
  refine Ze (S:=(SC.add SC.nil K (rP2 (rV (rV Xa)) (rV (rP2 Xa Xa))) v_0 a_0)) (σ:=[some v_0]) 0 ?_ (SC.i SC.t h_0) hm q rfl
  unfold JH
  exact (Xz (U7 (Qt (fun _=>tg1 0) (XH (Vt (Xn (r:=(rP2 (rV (rV Xa)) (rV (rP2 Xa Xa)))) 0 rfl (fun _ s=>(SC.r s))))) (fun C2 a3 v4=>(Vv (EvS.ls (Xn (r:=(rV Xa)) 0 rfl (fun _ s=>(SC.r s))))))) fun _=>(Vv (EvB.ls (Vn (Xd (r:=(rP2 (rV (rV Xa)) (rV (rP2 Xa Xa)))) 0 rfl (fun _ s=>(SC.r s))))))))
theorem Z2 : FnScope ["_law_count", "_law_extra", "_law_some", "_law_walk", "_law_signs", "_law_k", "_law_name", "_law_walks"] ["_law_count", "_law_extra", "_law_some"] (Xj F1):=⟨rfl, rfl, rfl, by decide +kernel, rfl, by decide +kernel, by decide +kernel⟩
set_option maxHeartbeats 4000000 in
theorem CT (D : Def K mg "_law_ring" F1 ["_law_count", "_law_extra", "_law_some"])  (Y : Ecs Xy K mg) (Z : Blt mg) : Fn P w K mg base 1 "_law_ring" ["_law_count", "_law_extra", "_law_some"] (sp3 Xa Xa (rV Xa) (oT2 (oL (oL (oF Xa))) (oL (oF (rP2 Xa Xa)))) J0 K):=by
  refine Zg D Z2 (fun vs H Q E h=>?_) (fun f cdv A outer s H vs Q E hr h=>?_)
  . obtain ⟨v_0, v_1, v_2, a_0, a_1, a_2, b, rfl, _⟩:=h; rfl
  obtain ⟨v_0, v_1, v_2, a_0, a_1, a_2, b, rfl, h_0, h_1, h_2, hm, q⟩:=h
  have hu:=hu8 hr
  have hu1:=YA hr
  refine ⟨_, (Xc (Xp (i:=3) Z2.nd rfl (Or.inl rfl) (Yj Xf))
    (Xc (Xp (i:=4) Z2.nd rfl (Or.inl rfl) (Yj Xf))
    (Xc (Yg PassesOwn.never rfl (X4 rfl Z.b_range (Xb (pv 0) Xf)) (Xo (i:=5) Z2.nd rfl (Or.inl rfl))
      (Xc (Xp (i:=6) Z2.nd rfl (Or.inl rfl) (XC Yz (pv 5) Xh))
      (Xc (Yn (ZS PySem.F.plainAttrs_list PySem.F.slot_list_append PySem.F.type_list_append X6 (pv 4) (Xb (Y6 (Xb (pv 6) (Xb (XC VW (XC Zm Xh (XO (Xk K rfl) (pv 2) (XC Zm Xh (pv 5)) (fun _ _=>rfl))) Xh) Xf))) Xf)))
      (Xc (Y7 (XN Gz (XO (Xk K rfl) (pv 2) (XC Yz (XC Zm Xh (pv 5)) Xh) (fun _ _=>rfl)) Xh (XZ _))
        (Xc (Yn (ZS PySem.F.plainAttrs_list PySem.F.slot_list_extend PySem.F.type_list_extend V8 (pv 3) (Xb (Yj (Xb (pv 6) (Xb (DP Ke (pv 6)) Xf))) Xf Qi)))
        Xg)
        (Xc (Yn (ZS PySem.F.plainAttrs_list PySem.F.slot_list_extend PySem.F.type_list_extend V8 (pv 3) (Xb (Yj (Xb (DP Ke (pv 6)) (Xb (pv 6) Xf))) Xf Qi)))
        Xg))
      Xg))))
    (Xc (Xp (i:=7) Z2.nd rfl (Or.inl rfl) (Yj (Xb (pv 3) Xf)))
    (Xc (Yg PassesOwn.never rfl (X4 rfl Z.b_range (Xb (pv 1) Xf)) (Xo (i:=5) Z2.nd rfl (Or.inl rfl))
      (Xc (Yn (ZS PySem.F.plainAttrs_list PySem.F.slot_list_append PySem.F.type_list_append X6 (pv 7) (Xb (Yj Xf) Xf Qi)))
      Xg))
    (Xc (Xx (Y6 (Xb (pv 7) (Xb (pv 4) Xf))))
    Xg)))))), ?_⟩
  refine Ze (S:=(SC.add (SC.add (SC.add SC.nil K Xa v_0 a_0) K Xa v_1 a_1) K (rV Xa) v_2 a_2)) (σ:=[some v_0, some v_1, some v_2, none, none, none, none, none]) 3 ?_ (SC.i (SC.i (SC.i SC.t h_0) h_1) h_2) hm q rfl
  unfold J0
  exact (Yk (K:=K) (o:=(oL (oF Xa))) 3 2 (Jj (o:=(oF Xa))) (Nat.le_of_ble_eq_true rfl) fun a1 v2 C3=>(Yk (K:=K) (o:=(oL (oF (rP2 Xa Xa)))) 4 1 (Jj (o:=(oF (rP2 Xa Xa)))) (Nat.le_of_ble_eq_true rfl) fun a4 v5 C6=>(YN (K:=K) (J:=({ oo:=fun x8=>[[], x8.2.2.2.2.1, x8.2.2.2.2.2], ss:=fun x8=>[some v_0, some v_1, some v_2, some x8.2.2.2.1, some x8.2.2.1, x8.1, x8.2.1, none], sc:=fun g9 x8=>(SC.addO (SC.addO (SC.add (SC.add (SC.add SC.nil K Xa v_0 a_0) K Xa v_1 a_1) K (rV Xa) v_2 a_2) K (oL (oF (rP2 Xa Xa))) x8.2.2.1 g9.1 x8.2.2.2.2.1) K (oL (oF Xa)) x8.2.2.2.1 g9.2 x8.2.2.2.2.2) } : Jn ((List (Int × Int)) × (List Int)) (Option V × Option V × V × V × List Xt × List Xt))) (fun _=>tg1 5) ((none), (none), v5, v2, C6, C3) (a4, a1) (XL (Xd (r:=Xa) 0 rfl (fun _ s=>(SC.r (SC.l (SC.l (SC.l (SC.l s)))))))) rfl rfl (fun _ s=>(SC.i (SC.i (SC.i (SC.i (SC.i SC.t (SC.r (SC.l (SC.l (SC.l (SC.l s)))))) (SC.r (SC.l (SC.l (SC.l s))))) (SC.r (SC.l (SC.l s)))) (SC.r s)) (SC.r (SC.l s)))) (fun g10 x11 a12 v13=>(XB (K:=K) (r:=Xa) 6 (EvB.sh (X8 (Xd (r:=Xa) 5 rfl (fun _ s=>(SC.r s))) (Xe 1))) fun a14 v15=>(ZC (K:=K) (o:=(oF (rP2 Xa Xa))) (f:=fun a30=>(Res.bind (Res.bind (Res.bind (Res.bind (Res.ok a_2) fun x35=>(Res.bind (Res.bind (Res.bind (Res.ok (2 : Int)) fun x31=>(Res.bind (Res.ok a12) fun x32=>(QW x31 x32))) fun x33=>(Res.bind (Res.ok (1 : Int)) fun x34=>(Res.ok (x33 + x34)))) fun x36=>(atR x35 x36))) fun x37=>(Res.bind (Res.ok (0 : Int)) fun x38=>(Res.ok (decide (x37 = x38))))) fun x39=>(if x39 = true then (Res.bind (Res.bind (Res.bind (Res.ok a14) fun x46=>(Res.bind (Res.bind (Res.bind (Res.ok a14) fun x43=>(Res.ok (-x43))) fun x44=>(Res.bind (Res.ok []) fun x45=>(Res.ok (x44 :: x45)))) fun x47=>(Res.ok (x46 :: x47)))) fun x42=>(chk (x42.length <= sizeLine) (Res.ok x42))) fun a48=>(chk (g10.2.length + a48.length <= sizeLine) ((fun a50=>(Res.ok (a50))) (g10.2 ++ a48)))) else (Res.bind (Res.bind (Res.bind (Res.bind (Res.ok a14) fun x52=>(Res.ok (-x52))) fun x55=>(Res.bind (Res.bind (Res.ok a14) fun x53=>(Res.bind (Res.ok []) fun x54=>(Res.ok (x53 :: x54)))) fun x56=>(Res.ok (x55 :: x56)))) fun x51=>(chk (x51.length <= sizeLine) (Res.ok x51))) fun a57=>(chk (g10.2.length + a57.length <= sizeLine) ((fun a59=>(Res.ok (a59))) (g10.2 ++ a57)))))) fun g61=>(Res.ok (a30, g61)))) 4 1 rfl rfl rfl (fun _ s=>(SC.r (SC.l (SC.l (SC.l s))))) (EvS.ev (YL (Xn (r:=Xa) 6 rfl (fun _ s=>(SC.r s))) (EvB.sh (JB (YC (Xe 2) (XI (Xd (r:=(rV Xa)) 2 rfl (fun _ s=>(SC.r (SC.l (SC.l (SC.l (SC.l s))))))) (YC (Xe 2) (Xd (r:=Xa) 5 rfl (fun _ s=>(SC.r (SC.l s))))))) (Xe 1))))) fun a28 C29=>(Qp (J:=({ oo:=fun x40=>[[], C29, x40.2], ss:=fun x40=>[some v_0, some v_1, some v_2, some x40.1, some x11.2.2.1, some v13, some v15, none], sc:=fun g41 x40=>(SC.addO (SC.add (SC.add (SC.addO (SC.add (SC.add (SC.add SC.nil K Xa v_0 a_0) K Xa v_1 a_1) K (rV Xa) v_2 a_2) K (oL (oF (rP2 Xa Xa))) x11.2.2.1 (g10.1 ++ [a28]) C29) K Xa v13 a12) K Xa v15 a14) K (oL (oF Xa)) x40.1 g41 x40.2) } : Jn ((List Int)) (V × List Xt))) (JV (Fd:=FNd ({ oo:=fun x40=>[[], C29, x40.2], ss:=fun x40=>[some v_0, some v_1, some v_2, some x40.1, some x11.2.2.1, some v13, some v15, none], sc:=fun g41 x40=>(SC.addO (SC.add (SC.add (SC.addO (SC.add (SC.add (SC.add SC.nil K Xa v_0 a_0) K Xa v_1 a_1) K (rV Xa) v_2 a_2) K (oL (oF (rP2 Xa Xa))) x11.2.2.1 (g10.1 ++ [a28]) C29) K Xa v13 a12) K Xa v15 a14) K (oL (oF Xa)) x40.1 g41 x40.2) } : Jn ((List Int)) (V × List Xt))) (Xw (K:=K) (Up (XI (Xd (r:=(rV Xa)) 2 rfl (fun _ s=>(SC.r (SC.l (SC.l (SC.l (SC.l (SC.l s)))))))) (X8 (YC (Xe 2) (Xd (r:=Xa) 5 rfl (fun _ s=>(SC.r (SC.l (SC.l s)))))) (Xe 1))) (Xe 0))) (CD (K:=K) (o:=(oF Xa)) (f:=fun a50=>(Res.ok (a50))) 3 2 rfl rfl rfl (fun _ s=>(SC.r (SC.l (SC.l (SC.l s))))) (Z5 (Xl (Xn (r:=Xa) 6 rfl (fun _ s=>(SC.r (SC.l s)))) (Xl (EvB.sh (VG (Xd (r:=Xa) 6 rfl (fun _ s=>(SC.r (SC.l s)))))) Zo))) fun a48 C49=>(XD (J:=_) (x11.2.2.2.1, C49) ((g10.2 ++ a48)) rfl rfl (fun _ s=>(SC.i (SC.i (SC.i (SC.i (SC.i (SC.i (SC.i SC.t (SC.r (SC.l (SC.l (SC.l (SC.l (SC.l (SC.l (SC.l (SC.l s)))))))))) (SC.r (SC.l (SC.l (SC.l (SC.l (SC.l (SC.l (SC.l s))))))))) (SC.r (SC.l (SC.l (SC.l (SC.l (SC.l (SC.l s)))))))) (SC.r (SC.l s))) (SC.r (SC.l (SC.l (SC.l s))))) (SC.r (SC.l (SC.l s)))) (SC.r s))))) (CD (K:=K) (o:=(oF Xa)) (f:=fun a59=>(Res.ok (a59))) 3 2 rfl rfl rfl (fun _ s=>(SC.r (SC.l (SC.l (SC.l s))))) (Z5 (Xl (EvB.sh (VG (Xd (r:=Xa) 6 rfl (fun _ s=>(SC.r (SC.l s)))))) (Xl (Xn (r:=Xa) 6 rfl (fun _ s=>(SC.r (SC.l s)))) Zo))) fun a57 C58=>(XD (J:=_) (x11.2.2.2.1, C58) ((g10.2 ++ a57)) rfl rfl (fun _ s=>(SC.i (SC.i (SC.i (SC.i (SC.i (SC.i (SC.i SC.t (SC.r (SC.l (SC.l (SC.l (SC.l (SC.l (SC.l (SC.l (SC.l s)))))))))) (SC.r (SC.l (SC.l (SC.l (SC.l (SC.l (SC.l (SC.l s))))))))) (SC.r (SC.l (SC.l (SC.l (SC.l (SC.l (SC.l s)))))))) (SC.r (SC.l s))) (SC.r (SC.l (SC.l (SC.l s))))) (SC.r (SC.l (SC.l s)))) (SC.r s)))))) fun g61 x60=>(XD (J:=_) ((some v13), (some v15), x11.2.2.1, x60.1, C29, x60.2) ((g10.1 ++ [a28]), g61) rfl rfl (fun _ s=>(SC.i (SC.i (SC.i (SC.i (SC.i SC.t (SC.r (SC.l (SC.l (SC.l (SC.l (SC.l (SC.l s)))))))) (SC.r (SC.l (SC.l (SC.l (SC.l (SC.l s))))))) (SC.r (SC.l (SC.l (SC.l (SC.l s)))))) (SC.r (SC.l (SC.l (SC.l s))))) (SC.r s)))))))) fun g62 x63=>(Yk (K:=K) (o:=(oL (oL (oF Xa)))) 7 0 (Bx (VS (YG (o:=(oL (oF Xa))) 3 2 rfl rfl (fun _ s=>(SC.r s))) fun _=>Kk)) (Nat.le_of_ble_eq_true rfl) fun a64 v65 C66=>(YN (K:=K) (J:=({ oo:=fun x71=>[x71.2.2, x63.2.2.2.2.1, []], ss:=fun x71=>[some v_0, some v_1, some v_2, some x63.2.2.2.1, some x63.2.2.1, x71.1, x63.2.1, some x71.2.1], sc:=fun g72 x71=>(SC.addO (SC.addO (SC.addO (SC.add (SC.add (SC.add SC.nil K Xa v_0 a_0) K Xa v_1 a_1) K (rV Xa) v_2 a_2) K (oL (oF (rP2 Xa Xa))) x63.2.2.1 g62.1 x63.2.2.2.2.1) K (oL (oF Xa)) x63.2.2.2.1 g62.2 x63.2.2.2.2.2) K (oL (oL (oF Xa))) x71.2.1 g72 x71.2.2) } : Jn ((List (List Int))) (Option V × V × List Xt))) (fun _=>tg1 5) ((x63.1), v65, C66) (a64) (XL (Xd (r:=Xa) 1 rfl (fun _ s=>(SC.r (SC.l (SC.l (SC.l (SC.l s)))))))) rfl rfl (fun _ s=>(SC.i (SC.i (SC.i (SC.i (SC.i (SC.i SC.t (SC.r (SC.l (SC.l (SC.l (SC.l (SC.l s))))))) (SC.r (SC.l (SC.l (SC.l (SC.l s)))))) (SC.r (SC.l (SC.l (SC.l s))))) (SC.r (SC.l (SC.l s)))) (SC.r (SC.l s))) (SC.r s))) (fun g73 x74 a75 v76=>(ZC (K:=K) (o:=(oL (oF Xa))) (f:=fun a79=>(Res.ok (a79))) 7 0 rfl rfl rfl (fun _ s=>(SC.r (SC.l s))) (Jj (o:=(oF Xa))) fun a77 C78=>(XD (J:=_) ((some v76), x74.2.1, C78) ((g73 ++ [a77])) rfl rfl (fun _ s=>(SC.i (SC.i (SC.i (SC.i (SC.i (SC.i SC.t (SC.r (SC.l (SC.l (SC.l (SC.l (SC.l (SC.l (SC.l s))))))))) (SC.r (SC.l (SC.l (SC.l (SC.l (SC.l (SC.l s)))))))) (SC.r (SC.l (SC.l (SC.l (SC.l (SC.l s))))))) (SC.r (SC.l (SC.l (SC.l (SC.l s)))))) (SC.r (SC.l (SC.l (SC.l s))))) (SC.r s)))))) fun g80 x81=>(Xz (U7 (YG (o:=(oL (oL (oF Xa)))) 7 0 rfl rfl (fun _ s=>(SC.r s))) fun _=>(YG (o:=(oL (oF (rP2 Xa Xa)))) 4 2 rfl rfl (fun _ s=>(SC.r (SC.l (SC.l s))))))))))))
theorem YJ : FnScope ["_law_size", "_law_way", "_law_spots", "_law_factor", "_law_found", "_law_a"] ["_law_size", "_law_way", "_law_spots"] (Xj YU):=⟨rfl, rfl, rfl, by decide +kernel, rfl, by decide +kernel, by decide +kernel⟩
set_option maxHeartbeats 4000000 in
theorem JF (D : Def K mg "_law_plain_table" YU ["_law_size", "_law_way", "_law_spots"]) (g_relaid : Fn P w K mg base 1 "_law_relaid" ["_law_some", "_law_spots"] (sp2 (rV (rV Xa)) (rV Xa) (oL (oL (oF Xa))) ZK K)) (g_ordered : Fn P w K mg base 1 "_law_ordered" ["_law_some", "_law_count"] (sp2 (rV Xa) Xa (oL (oF Xa)) Zf K)) (Y : Ecs Xy K mg) (Z : Blt mg) : Fn P w K mg base 2 "_law_plain_table" ["_law_size", "_law_way", "_law_spots"] (sp3 Xa Xa (rV Xa) (oL (oL (oF Xa))) Yi K):=by
  refine Zg D YJ (fun vs H Q E h=>?_) (fun f cdv A outer s H vs Q E hr h=>?_)
  . obtain ⟨v_0, v_1, v_2, a_0, a_1, a_2, b, rfl, _⟩:=h; rfl
  obtain ⟨v_0, v_1, v_2, a_0, a_1, a_2, b, rfl, h_0, h_1, h_2, hm, q⟩:=h
  have hu:=hu8 hr
  have hu1:=YA hr
  refine ⟨_, (Xc (Xp (i:=3) YJ.nd rfl (Or.inr rfl) (XC VW Xh (XC Zm Xh (pv 1))))
    (Xc (Xp (i:=4) YJ.nd rfl (Or.inl rfl) (Yj Xf))
    (Xc (Yg PassesOwn.never rfl (X4 rfl Z.b_range (Xb (pv 0) Xf)) (Xo (i:=5) YJ.nd rfl (Or.inr rfl))
      (Xc (Yn (ZS PySem.F.plainAttrs_list PySem.F.slot_list_append PySem.F.type_list_append X6 (pv 4) (Xb (ZH (sc:=(Xj YU)) (N0:=["_law_size", "_law_way", "_law_spots", "_law_factor", "_law_found", "_law_a"]) (tns:=["_law_b"]) (caps:=[(3, "_law_factor"), (5, "_law_a"), (0, "_law_size")]) rfl (X4 rfl Z.b_range (Xb (pv 0) Xf)) (Z0 (by decide)) (fun cl C s H ex E=>⟨Xo (i:=0) (show List.Nodup (["_law_b", "_law_factor", "_law_a", "_law_size"] : List Str) by decide +kernel) rfl (Or.inl rfl), Qy, (XC Zc (XC Yz (XC Zm (pv 1) (pv 2)) (XC Zm (XC VW Xh (pv 1)) (pv 0))) (pv 3))⟩)) Xf)))
      Xg))
    (Xc (Xx (Yy g_relaid hr (by decide) (Xb (pv 4) (Xb (Yy g_ordered hr (by decide) (Xb (pv 2) (Xb (pv 0) Xf))) Xf))))
    Xg)))), ?_⟩
  refine Ze (S:=(SC.add (SC.add (SC.add SC.nil K Xa v_0 a_0) K Xa v_1 a_1) K (rV Xa) v_2 a_2)) (σ:=[some v_0, some v_1, some v_2, none, none, none]) 1 ?_ (SC.i (SC.i (SC.i SC.t h_0) h_1) h_2) hm q rfl
  unfold Yi
  exact (XB (K:=K) (r:=Xa) 3 (EvB.sh (JB (Xe 1) (YC (Xe 2) (Xd (r:=Xa) 1 rfl (fun _ s=>(SC.r (SC.l s))))))) fun a1 v2=>(Yk (K:=K) (o:=(oL (oL (oF Xa)))) 4 0 (Jj (o:=(oL (oF Xa)))) (Nat.le_of_ble_eq_true rfl) fun a7 v8 C9=>(YN (K:=K) (J:=({ oo:=fun x11=>[x11.2.2], ss:=fun x11=>[some v_0, some v_1, some v_2, some v2, some x11.2.1, x11.1], sc:=fun g12 x11=>(SC.addO (SC.add (SC.add (SC.add (SC.add SC.nil K Xa v_0 a_0) K Xa v_1 a_1) K (rV Xa) v_2 a_2) K Xa v2 a1) K (oL (oL (oF Xa))) x11.2.1 g12 x11.2.2) } : Jn ((List (List Int))) (Option V × V × List Xt))) (fun _=>tg1 5) ((none), v8, C9) (a7) (XL (Xd (r:=Xa) 0 rfl (fun _ s=>(SC.r (SC.l (SC.l (SC.l (SC.l s)))))))) rfl rfl (fun _ s=>(SC.i (SC.i (SC.i (SC.i (SC.i SC.t (SC.r (SC.l (SC.l (SC.l (SC.l s)))))) (SC.r (SC.l (SC.l (SC.l s))))) (SC.r (SC.l (SC.l s)))) (SC.r (SC.l s))) (SC.r s))) (fun g13 x14 a15 v16=>(ZC (K:=K) (o:=(oL (oF Xa))) (f:=fun a34=>(Res.ok (a34))) 4 0 rfl rfl rfl (fun _ s=>(SC.r (SC.l s))) (Qt (fun _=>tg1 0) (XL (Xd (r:=Xa) 0 rfl (fun _ s=>(SC.r (SC.l (SC.l (SC.l (SC.l (SC.l s))))))))) (fun C18 a19 v20=>(EvS.ev (EvB.sh (Yv (X8 (YC (Xd (r:=Xa) 1 rfl (fun _ s=>(SC.r (SC.l (SC.l (SC.l s)))))) (Xd (r:=Xa) 2 rfl (fun _ s=>(SC.r (SC.l s))))) (YC (JB (Xe 1) (Xd (r:=Xa) 1 rfl (fun _ s=>(SC.r (SC.l (SC.l (SC.l s))))))) (Xd (r:=Xa) 0 rfl (fun _ s=>(SC.r s))))) (Xd (r:=Xa) 3 rfl (fun _ s=>(SC.r (SC.l (SC.l (SC.l (SC.l (SC.l (SC.l s)))))))))))))) fun a32 C33=>(XD (J:=_) ((some v16), x14.2.1, C33) ((g13 ++ [a32])) rfl rfl (fun _ s=>(SC.i (SC.i (SC.i (SC.i (SC.i SC.t (SC.r (SC.l (SC.l (SC.l (SC.l (SC.l (SC.l s)))))))) (SC.r (SC.l (SC.l (SC.l (SC.l (SC.l s))))))) (SC.r (SC.l (SC.l (SC.l (SC.l s)))))) (SC.r (SC.l (SC.l (SC.l s))))) (SC.r s)))))) fun g35 x36=>(Xz (Ym (VL (o:=(oL (oL (oF Xa)))) 4 0 rfl rfl (fun _ s=>(SC.r s))) (Ev.toB (Ym (Xd (r:=(rV Xa)) 2 rfl (fun _ s=>(SC.r (SC.l (SC.l s))))) (Xd (r:=Xa) 0 rfl (fun _ s=>(SC.r (SC.l (SC.l (SC.l (SC.l s))))))))))))))
theorem QO : FnScope ["_law_size", "_law_count", "_law_total", "_law_k"] ["_law_size", "_law_count"] (Xj UF):=⟨rfl, rfl, rfl, by decide +kernel, rfl, by decide +kernel, by decide +kernel⟩
set_option maxHeartbeats 4000000 in
theorem Dd (D : Def K mg "_law_power" UF ["_law_size", "_law_count"])  (Y : Ecs Xy K mg) (Z : Blt mg) : Fn P w K mg base 1 "_law_power" ["_law_size", "_law_count"] (sp2 Xa Xa (oF Xa) Zt K):=by
  refine Zg D QO (fun vs H Q E h=>?_) (fun f cdv A outer s H vs Q E hr h=>?_)
  . obtain ⟨v_0, v_1, a_0, a_1, b, rfl, _⟩:=h; rfl
  obtain ⟨v_0, v_1, a_0, a_1, b, rfl, h_0, h_1, hm, q⟩:=h
  have hu:=hu8 hr
  have hu1:=YA hr
  refine ⟨_, (Xc (Xp (i:=2) QO.nd rfl (Or.inl rfl) Xh)
    (Xc (Yg PassesOwn.never rfl (X4 rfl Z.b_range (Xb (pv 1) Xf)) (Xo (i:=3) QO.nd rfl (Or.inl rfl))
      (Xc (Xp (i:=2) QO.nd rfl (Or.inl rfl) (XC Zm (pv 2) (pv 0)))
      Xg))
    (Xc (Xx (pv 2))
    Xg))), ?_⟩
  refine Ze (S:=(SC.add (SC.add SC.nil K Xa v_0 a_0) K Xa v_1 a_1)) (σ:=[some v_0, some v_1, none, none]) 0 ?_ (SC.i (SC.i SC.t h_0) h_1) hm q rfl
  unfold Zt
  exact (XB (K:=K) (r:=Xa) 2 (EvB.sh (Xe 1)) fun a1 v2=>(YN (K:=K) (J:=({ oo:=fun x4=>[], ss:=fun x4=>[some v_0, some v_1, some x4.2, x4.1], sc:=fun g5 x4=>(SC.add (SC.add (SC.add SC.nil K Xa v_0 a_0) K Xa v_1 a_1) K Xa x4.2 g5) } : Jn (Int) (Option V × V))) (fun _=>tg1 3) ((none), v2) (a1) (XL (Xd (r:=Xa) 1 rfl (fun _ s=>(SC.r (SC.l s))))) rfl rfl (fun _ s=>(SC.i (SC.i (SC.i SC.t (SC.r (SC.l (SC.l s)))) (SC.r (SC.l s))) (SC.r s))) (fun g6 x7 a8 v9=>(XB (K:=K) (r:=Xa) 2 (EvB.sh (YC (Xd (r:=Xa) 2 rfl (fun _ s=>(SC.r (SC.l s)))) (Xd (r:=Xa) 0 rfl (fun _ s=>(SC.r (SC.l (SC.l (SC.l s)))))))) fun a10 v11=>(XD (J:=_) ((some v9), v11) (a10) rfl rfl (fun _ s=>(SC.i (SC.i (SC.i SC.t (SC.r (SC.l (SC.l (SC.l (SC.l s)))))) (SC.r (SC.l (SC.l (SC.l s))))) (SC.r s)))))) fun g14 x15=>(Xz (EvS.ev (Xn (r:=Xa) 2 rfl (fun _ s=>(SC.r s)))))))
theorem Qk : FnScope ["_law_drawing", "_law_table", "e"] ["_law_drawing", "_law_table"] (Xj Zy):=⟨rfl, rfl, rfl, by decide +kernel, rfl, by decide +kernel, by decide +kernel⟩
set_option maxHeartbeats 4000000 in
theorem VC (D : Def K mg "_law_count_told" Zy ["_law_drawing", "_law_table"]) (g_many : FnX P w K mg base 7 "many" ["drawing", "table"] (F7 mg (rP2 (rV (rV Xa)) (rV (rP2 Xa Xa))) (rV (rV Xa)) (oF Xa) JN K)) (Y : Ecs Xy K mg) (Z : Blt mg) : Fn P w K mg base 8 "_law_count_told" ["_law_drawing", "_law_table"] (sp2 (rP2 (rV (rV Xa)) (rV (rP2 Xa Xa))) (rV (rV Xa)) (oF (rEi JO Xa)) X0 K):=by
  refine Zg D Qk (fun vs H Q E h=>?_) (fun f cdv A outer s H vs Q E hr h=>?_)
  . obtain ⟨v_0, v_1, a_0, a_1, b, rfl, _⟩:=h; rfl
  obtain ⟨v_0, v_1, a_0, a_1, b, rfl, h_0, h_1, hm, q⟩:=h
  obtain ⟨C_PlaitError, h_PlaitError, q_PlaitError⟩:=Y.adr "PlaitError" (.head _)
  obtain ⟨C_TooBig, h_TooBig, q_TooBig⟩:=Y.adr "TooBig" (.tail _ (.tail _ (.head _)))
  obtain ⟨C_TooMuch, h_TooMuch, q_TooMuch⟩:=Y.adr "TooMuch" (.tail _ (.tail _ (.tail _ (.head _))))
  have hu:=hu8 hr
  have hu1:=YA hr
  refine ⟨_, (Xc (CG rfl rfl rfl rfl h_TooMuch Qk.nd (i:=2) rfl rfl rfl (fun pn xe E hp=>(Xc (Xx (QE g_many hr (by decide) hp (Xb (pv 0) (Xb (pv 1) Xf))))
      Xg))
     (fun pn a o C hm hc=>(Xc (Y7 (PW.pt (Kx (ZT (Xr (QT rfl hm hc rfl) rfl Z.b_isinstance PyProof.Rows.boot_isinstance (Xb (pv 2) (Xb (Q7 (v:=V.ref C_PlaitError) rfl h_PlaitError rfl) Xf)))) (UJ (QG (ZT (Xr (QT rfl hm hc rfl) rfl Z.b_isinstance PyProof.Rows.boot_isinstance (Xb (pv 2) (Xb (Q7 (v:=V.ref C_TooBig) rfl h_TooBig rfl) Xf))))))))
        (Xc (Xx Qm)
        Xg)
        Xg)
      Xg)))
    (Xc (Xx Qm)
    Xg)), ?_⟩
  refine Ze (S:=(SC.add (SC.add SC.nil K (rP2 (rV (rV Xa)) (rV (rP2 Xa Xa))) v_0 a_0) K (rV (rV Xa)) v_1 a_1)) (σ:=[some v_0, some v_1, none]) 0 ?_ (SC.i (SC.i SC.t h_0) h_1) hm q rfl
  unfold X0
  exact (Fu (K:=K) (d:="TooMuch") (N:=3) (i:=2) Y (.tail _ (.tail _ (.tail _ (.head _)))) h_TooMuch (fun _=>(BI (Zh (Xd (r:=(rP2 (rV (rV Xa)) (rV (rP2 Xa Xa)))) 0 rfl (fun _ s=>(SC.r (SC.l s)))) (Xd (r:=(rV (rV Xa))) 1 rfl (fun _ s=>(SC.r s)))))) (Xz (Fy (EvS.ev (EvB.sh (Qx _))))) (fun x1 hx C a hC=>(ZD (VH (Jv (K:=K) (Vi 2 rfl (Y.att _ hx C hC) (Y.kit _ hx "PlaitError" (.head _) C C_PlaitError hC h_PlaitError))) (Zz (Jv (K:=K) (Vi 2 rfl (Y.att _ hx C hC) (Y.kit _ hx "TooBig" (.tail _ (.tail _ (.head _))) C C_TooBig hC h_TooBig))))) (Xz (Fy (EvS.ev (EvB.sh (Qx _))))) GU)))
theorem QH : FnScope ["_law_drawing", "_law_table", "e"] ["_law_drawing", "_law_table"] (Xj ZW):=⟨rfl, rfl, rfl, by decide +kernel, rfl, by decide +kernel, by decide +kernel⟩
set_option maxHeartbeats 4000000 in
theorem V2 (D : Def K mg "_law_list_told" ZW ["_law_drawing", "_law_table"]) (g_colourings : FnX P w K mg base 6 "colourings" ["drawing", "table"] (F7 mg (rP2 (rV (rV Xa)) (rV (rP2 Xa Xa))) (rV (rV Xa)) (oL (oL (oF Xa))) XF K)) (Y : Ecs Xy K mg) (Z : Blt mg) : Fn P w K mg base 7 "_law_list_told" ["_law_drawing", "_law_table"] (sp2 (rP2 (rV (rV Xa)) (rV (rP2 Xa Xa))) (rV (rV Xa)) (oEi (oF JO) (oL (oL (oF Xa)))) Yf K):=by
  refine Zg D QH (fun vs H Q E h=>?_) (fun f cdv A outer s H vs Q E hr h=>?_)
  . obtain ⟨v_0, v_1, a_0, a_1, b, rfl, _⟩:=h; rfl
  obtain ⟨v_0, v_1, a_0, a_1, b, rfl, h_0, h_1, hm, q⟩:=h
  obtain ⟨C_PlaitError, h_PlaitError, q_PlaitError⟩:=Y.adr "PlaitError" (.head _)
  obtain ⟨C_TooBig, h_TooBig, q_TooBig⟩:=Y.adr "TooBig" (.tail _ (.tail _ (.head _)))
  obtain ⟨C_TooMuch, h_TooMuch, q_TooMuch⟩:=Y.adr "TooMuch" (.tail _ (.tail _ (.tail _ (.head _))))
  have hu:=hu8 hr
  have hu1:=YA hr
  refine ⟨_, (Xc (CG rfl rfl rfl rfl h_TooMuch QH.nd (i:=2) rfl rfl rfl (fun pn xe E hp=>(Xc (Xx (QE g_colourings hr (by decide) hp (Xb (pv 0) (Xb (pv 1) Xf))))
      Xg))
     (fun pn a o C hm hc=>(Xc (Y7 (PW.pt (Kx (ZT (Xr (QT rfl hm hc rfl) rfl Z.b_isinstance PyProof.Rows.boot_isinstance (Xb (pv 2) (Xb (Q7 (v:=V.ref C_PlaitError) rfl h_PlaitError rfl) Xf)))) (UJ (QG (ZT (Xr (QT rfl hm hc rfl) rfl Z.b_isinstance PyProof.Rows.boot_isinstance (Xb (pv 2) (Xb (Q7 (v:=V.ref C_TooBig) rfl h_TooBig rfl) Xf))))))))
        (Xc (Xx Qm)
        Xg)
        Xg)
      Xg)))
    (Xc (Xx Qm)
    Xg)), ?_⟩
  refine Ze (S:=(SC.add (SC.add SC.nil K (rP2 (rV (rV Xa)) (rV (rP2 Xa Xa))) v_0 a_0) K (rV (rV Xa)) v_1 a_1)) (σ:=[some v_0, some v_1, none]) 0 ?_ (SC.i (SC.i SC.t h_0) h_1) hm q rfl
  unfold Yf
  exact (Fu (K:=K) (d:="TooMuch") (N:=3) (i:=2) Y (.tail _ (.tail _ (.tail _ (.head _)))) h_TooMuch (fun _=>(Hz (Zh (Xd (r:=(rP2 (rV (rV Xa)) (rV (rP2 Xa Xa)))) 0 rfl (fun _ s=>(SC.r (SC.l s)))) (Xd (r:=(rV (rV Xa))) 1 rfl (fun _ s=>(SC.r s)))))) (Xz (Cr (EvS.ev (EvB.sh (Qx _))))) (fun x1 hx C a hC=>(ZD (VH (Jv (K:=K) (Vi 2 rfl (Y.att _ hx C hC) (Y.kit _ hx "PlaitError" (.head _) C C_PlaitError hC h_PlaitError))) (Zz (Jv (K:=K) (Vi 2 rfl (Y.att _ hx C hC) (Y.kit _ hx "TooBig" (.tail _ (.tail _ (.head _))) C C_TooBig hC h_TooBig))))) (Xz (Cr (EvS.ev (EvB.sh (Qx _))))) GU)))
theorem Qa : FnScope ["_law_found", "_law_size", "_law_count", "_law_extra", "_law_one", "_law_colour", "_law_k"] ["_law_found", "_law_size", "_law_count", "_law_extra"] (Xj UY):=⟨rfl, rfl, rfl, by decide +kernel, rfl, by decide +kernel, by decide +kernel⟩
set_option maxHeartbeats 4000000 in
theorem Dz (D : Def K mg "_law_lists" UY ["_law_found", "_law_size", "_law_count", "_law_extra"]) (g_power : Fn P w K mg base 1 "_law_power" ["_law_size", "_law_count"] (sp2 Xa Xa (oF Xa) Zt K)) (g_is_wholes : Fn P w K mg base 2 "_law_is_wholes" ["_law_found"] (sp1 (rV Xa) (oF XY) YH K)) (Y : Ecs Xy K mg) (Z : Blt mg) : Fn P w K mg base 3 "_law_lists" ["_law_found", "_law_size", "_law_count", "_law_extra"] (sp4 (rV (rV Xa)) Xa Xa Xa (oF XY) Qo K):=by
  refine Zg D Qa (fun vs H Q E h=>?_) (fun f cdv A outer s H vs Q E hr h=>?_)
  . obtain ⟨v_0, v_1, v_2, v_3, a_0, a_1, a_2, a_3, b, rfl, _⟩:=h; rfl
  obtain ⟨v_0, v_1, v_2, v_3, a_0, a_1, a_2, a_3, b, rfl, h_0, h_1, h_2, h_3, hm, q⟩:=h
  have hu:=hu8 hr
  have hu1:=YA hr
  refine ⟨_, (Xc (Y7 (PW.pt (K5 (QG (ZT (Xr Zp rfl Z.b_isinstance PyProof.Rows.boot_isinstance (Xb (pv 0) (Xb (VI (v:=V.ty "list") rfl Z.b_list PyProof.Rows.boot_list rfl) Xf))))) (JL (XN BT (Xr (Xs K rfl) rfl Z.b_len PySem.boot_len (Xb (pv 0) Xf)) (Yy g_power hr (by decide) (Xb (pv 1) (Xb (XC Yz (pv 3) Xh) Xf))) (XZ _)))))
      (Xc (Xx QN)
      Xg)
      Xg)
    (Xc (Yg PassesOwn.never rfl (XT (K:=K) rfl (pv 0)) (Xo (i:=4) Qa.nd rfl (Or.inl rfl))
      (Xc (Y7 (PW.pt (K5 (QG (ZT (Yy g_is_wholes hr (by decide) (Xb (pv 4) Xf)))) (JL (XN BT (Xr (Xs K rfl) rfl Z.b_len PySem.boot_len (Xb (pv 4) Xf)) (XC Yz (pv 2) (pv 3)) (XZ _)))))
        (Xc (Xx QN)
        Xg)
        Xg)
      (Xc (Yg PassesOwn.never rfl (XT (K:=K) rfl (QX (QP K rfl) (pv 4) Vh (Vu (pv 2)))) (Xo (i:=5) Qa.nd rfl (Or.inl rfl))
        (Xc (Y7 (XN BT (pv 5) (XO (Xk K rfl) (pv 4) Xh (fun _ _=>rfl)) (XZ _))
          (Xc (Xx QN)
          Xg)
          Xg)
        Xg))
      (Xc (Yg PassesOwn.never rfl (XT (K:=K) rfl (pv 4)) (Xo (i:=5) Qa.nd rfl (Or.inl rfl))
        (Xc (Y7 (PW.pt (K5 (XN KR (pv 5) Xh (XZ _)) (JL (XN Ie (pv 5) (pv 1) (XZ _)))))
          (Xc (Xx QN)
          Xg)
          Xg)
        Xg))
      Xg))))
    (Xc (Yg PassesOwn.never rfl (Fh rfl Z.b_range (Xb Xh (Xb (Xr (Xs K rfl) rfl Z.b_len PySem.boot_len (Xb (pv 0) Xf)) Xf))) (Xo (i:=6) Qa.nd rfl (Or.inl rfl))
      (Xc (Y7 (QG (XN (HF K rfl (Nat.lt_of_succ_lt hu1)) (XO (Xk K rfl) (pv 0) (XC VW (pv 6) Xh) (fun _ _=>rfl)) (XO (Xk K rfl) (pv 0) (pv 6) (fun _ _=>rfl)) (XZ _)))
        (Xc (Xx QN)
        Xg)
        Xg)
      Xg))
    (Xc (Xx QN)
    Xg)))), ?_⟩
  refine Ze (S:=(SC.add (SC.add (SC.add (SC.add SC.nil K (rV (rV Xa)) v_0 a_0) K Xa v_1 a_1) K Xa v_2 a_2) K Xa v_3 a_3)) (σ:=[some v_0, some v_1, some v_2, some v_3, none, none, none]) 0 ?_ (SC.i (SC.i (SC.i (SC.i SC.t h_0) h_1) h_2) h_3) hm q rfl
  unfold Qo
  exact (JA (Vb (Zz (Jv (K:=K) (ZI "list" true (Vp K "list") (Xd (r:=(rV (rV Xa))) 0 rfl (fun _ s=>(SC.r (SC.l (SC.l (SC.l s))))))))) (Xw (K:=K) (Gj (YQ (Xd (r:=(rV (rV Xa))) 0 rfl (fun _ s=>(SC.r (SC.l (SC.l (SC.l s))))))) (Ev.toB (Ym (Xd (r:=Xa) 1 rfl (fun _ s=>(SC.r (SC.l (SC.l s))))) (X8 (Xd (r:=Xa) 3 rfl (fun _ s=>(SC.r s))) (Xe 1))))))) (Xz (EvS.ev (EvB.sh (Zu false)))) (Vw (K:=K) (J:=({ oo:=fun x12=>[], ss:=fun x12=>[some v_0, some v_1, some v_2, some v_3, x12.1, x12.2, none], sc:=fun g13 x12=>(SC.add (SC.add (SC.add (SC.add SC.nil K (rV (rV Xa)) v_0 a_0) K Xa v_1 a_1) K Xa v_2 a_2) K Xa v_3 a_3) } : Jn (Unit) (Option V × Option V))) (fun _=>tg1 4) ((none), (none)) () (XH (Xn (r:=(rV (rV Xa))) 0 rfl (fun _ s=>(SC.r (SC.l (SC.l (SC.l s))))))) rfl rfl (fun _ s=>(SC.i (SC.i (SC.i (SC.i SC.t (SC.r (SC.l (SC.l (SC.l s))))) (SC.r (SC.l (SC.l s)))) (SC.r (SC.l s))) (SC.r s))) (fun g14 x15 a16 v17=>(ZD (Vb (Zz (Jv (K:=K) (Ev.toB (YS (Xd (r:=(rV Xa)) 4 rfl (fun _ s=>(SC.r s))))))) (Xw (K:=K) (Gj (YQ (Xd (r:=(rV Xa)) 4 rfl (fun _ s=>(SC.r s)))) (X8 (Xd (r:=Xa) 2 rfl (fun _ s=>(SC.r (SC.l (SC.l s))))) (Xd (r:=Xa) 3 rfl (fun _ s=>(SC.r (SC.l s)))))))) (Xz (EvS.ev (EvB.sh (Zu false)))) (U9 (K:=K) (J:=({ oo:=fun x31=>[], ss:=fun x31=>[some v_0, some v_1, some v_2, some v_3, some v17, x31, none], sc:=fun g32 x31=>(SC.add (SC.add (SC.add (SC.add (SC.add SC.nil K (rV (rV Xa)) v_0 a_0) K Xa v_1 a_1) K Xa v_2 a_2) K Xa v_3 a_3) K (rV Xa) v17 a16) } : Jn (Unit) (Option V))) (fun _=>tg1 5) ((x15.2)) () (XH (Ev.sh (Vs (EvS.ls (Xn (r:=(rV Xa)) 4 rfl (fun _ s=>(SC.r s)))) QQ (QR (K:=K) (Xd (r:=Xa) 2 rfl (fun _ s=>(SC.r (SC.l (SC.l s))))))))) rfl rfl (fun _ s=>(SC.i (SC.i (SC.i (SC.i (SC.i SC.t (SC.r (SC.l (SC.l (SC.l (SC.l s)))))) (SC.r (SC.l (SC.l (SC.l s))))) (SC.r (SC.l (SC.l s)))) (SC.r (SC.l s))) (SC.r s))) (fun g33 x34 a35 v36=>(ZD (Xw (K:=K) (Gj (Xd (r:=Xa) 5 rfl (fun _ s=>(SC.r s))) (XI (Xd (r:=(rV Xa)) 4 rfl (fun _ s=>(SC.r (SC.l s)))) (Xe 0)))) (Xz (EvS.ev (EvB.sh (Zu false)))) (JJ (XD (J:=_) ((some v36)) () rfl rfl (fun _ s=>(SC.i (SC.i (SC.i (SC.i (SC.i SC.t (SC.r (SC.l (SC.l (SC.l (SC.l (SC.l s))))))) (SC.r (SC.l (SC.l (SC.l (SC.l s)))))) (SC.r (SC.l (SC.l (SC.l s))))) (SC.r (SC.l (SC.l s)))) (SC.r (SC.l s)))))))) fun g44 x45=>(U9 (K:=K) (J:=({ oo:=fun x46=>[], ss:=fun x46=>[some v_0, some v_1, some v_2, some v_3, some v17, x46, none], sc:=fun g47 x46=>(SC.add (SC.add (SC.add (SC.add (SC.add SC.nil K (rV (rV Xa)) v_0 a_0) K Xa v_1 a_1) K Xa v_2 a_2) K Xa v_3 a_3) K (rV Xa) v17 a16) } : Jn (Unit) (Option V))) (fun _=>tg1 5) ((x45)) () (XH (Xn (r:=(rV Xa)) 4 rfl (fun _ s=>(SC.r s)))) rfl rfl (fun _ s=>(SC.i (SC.i (SC.i (SC.i (SC.i SC.t (SC.r (SC.l (SC.l (SC.l (SC.l s)))))) (SC.r (SC.l (SC.l (SC.l s))))) (SC.r (SC.l (SC.l s)))) (SC.r (SC.l s))) (SC.r s))) (fun g48 x49 a50 v51=>(ZD (Vb (Xw (K:=K) (VN (Xd (r:=Xa) 5 rfl (fun _ s=>(SC.r s))) (Xe 0))) (Xw (K:=K) (EA (Xd (r:=Xa) 5 rfl (fun _ s=>(SC.r s))) (Xd (r:=Xa) 1 rfl (fun _ s=>(SC.r (SC.l (SC.l (SC.l (SC.l s)))))))))) (Xz (EvS.ev (EvB.sh (Zu false)))) (JJ (XD (J:=_) ((some v51)) () rfl rfl (fun _ s=>(SC.i (SC.i (SC.i (SC.i (SC.i SC.t (SC.r (SC.l (SC.l (SC.l (SC.l (SC.l s))))))) (SC.r (SC.l (SC.l (SC.l (SC.l s)))))) (SC.r (SC.l (SC.l (SC.l s))))) (SC.r (SC.l (SC.l s)))) (SC.r (SC.l s)))))))) fun g59 x60=>(JJ (XD (J:=_) ((some v17), (x60)) () rfl rfl (fun _ s=>(SC.i (SC.i (SC.i (SC.i SC.t (SC.r (SC.l (SC.l (SC.l (SC.l s)))))) (SC.r (SC.l (SC.l (SC.l s))))) (SC.r (SC.l (SC.l s)))) (SC.r (SC.l s)))))))))) fun g65 x66=>(Vw (K:=K) (J:=({ oo:=fun x70=>[], ss:=fun x70=>[some v_0, some v_1, some v_2, some v_3, x66.1, x66.2, x70], sc:=fun g71 x70=>(SC.add (SC.add (SC.add (SC.add SC.nil K (rV (rV Xa)) v_0 a_0) K Xa v_1 a_1) K Xa v_2 a_2) K Xa v_3 a_3) } : Jn (Unit) (Option V))) (fun _=>tg1 6) ((none)) () (UC (Xe 1) (YQ (Xd (r:=(rV (rV Xa))) 0 rfl (fun _ s=>(SC.r (SC.l (SC.l (SC.l s)))))))) rfl rfl (fun _ s=>(SC.i (SC.i (SC.i (SC.i SC.t (SC.r (SC.l (SC.l (SC.l s))))) (SC.r (SC.l (SC.l s)))) (SC.r (SC.l s))) (SC.r s))) (fun g72 x73 a74 v75=>(ZD (Zz (Xw (K:=K) (Bl (XI (Xd (r:=(rV (rV Xa))) 0 rfl (fun _ s=>(SC.r (SC.l (SC.l (SC.l (SC.l s))))))) (JB (Xd (r:=Xa) 6 rfl (fun _ s=>(SC.r s))) (Xe 1))) (XI (Xd (r:=(rV (rV Xa))) 0 rfl (fun _ s=>(SC.r (SC.l (SC.l (SC.l (SC.l s))))))) (Xd (r:=Xa) 6 rfl (fun _ s=>(SC.r s))))))) (Xz (EvS.ev (EvB.sh (Zu false)))) (JJ (XD (J:=_) ((some v75)) () rfl rfl (fun _ s=>(SC.i (SC.i (SC.i (SC.i SC.t (SC.r (SC.l (SC.l (SC.l (SC.l s)))))) (SC.r (SC.l (SC.l (SC.l s))))) (SC.r (SC.l (SC.l s)))) (SC.r (SC.l s)))))))) fun g88 x89=>(Xz (EvS.ev (EvB.sh (Zu true)))))))
theorem YM : FnScope ["_law_script", "_law_some", "_law_more", "_law_extra", "_law_count_held", "_law_size", "_law_edge", "_law_drawing", "_law_table", "_law_arcs_held", "_law_total", "_law_handed", "_law_lines", "_law_count", "_law_found"] ["_law_script"] (Xj JD):=⟨rfl, rfl, rfl, by decide +kernel, rfl, by decide +kernel, by decide +kernel⟩
set_option maxHeartbeats 4000000 in
theorem EH {f : Addr} {fd : FuncData} (F : Fun K "law" "law" JD f fd) (g_row : Fn P w K mg base 2 "_law_row" ["_law_script", "_law_place", "_law_sizes"] (sp3 (rL Xa) Xa (rV Xa) (oL (oF Xa)) UG K)) (g_ring : Fn P w K mg base 1 "_law_ring" ["_law_count", "_law_extra", "_law_some"] (sp3 Xa Xa (rV Xa) (oT2 (oL (oL (oF Xa))) (oL (oF (rP2 Xa Xa)))) J0 K)) (g_plain_table : Fn P w K mg base 2 "_law_plain_table" ["_law_size", "_law_way", "_law_spots"] (sp3 Xa Xa (rV Xa) (oL (oL (oF Xa))) Yi K)) (g_power : Fn P w K mg base 1 "_law_power" ["_law_size", "_law_count"] (sp2 Xa Xa (oF Xa) Zt K)) (g_count_told : Fn P w K mg base 8 "_law_count_told" ["_law_drawing", "_law_table"] (sp2 (rP2 (rV (rV Xa)) (rV (rP2 Xa Xa))) (rV (rV Xa)) (oF (rEi JO Xa)) X0 K)) (g_list_told : Fn P w K mg base 7 "_law_list_told" ["_law_drawing", "_law_table"] (sp2 (rP2 (rV (rV Xa)) (rV (rP2 Xa Xa))) (rV (rV Xa)) (oEi (oF JO) (oL (oL (oF Xa)))) Yf K)) (g_lists : Fn P w K mg base 3 "_law_lists" ["_law_found", "_law_size", "_law_count", "_law_extra"] (sp4 (rV (rV Xa)) Xa Xa Xa (oF XY) Qo K)) (g_copy : Fn P w K mg base 1 "_law_copy" ["_law_drawing"] (sp1 (rP2 (rV (rV Xa)) (rV (rP2 Xa Xa))) (oT2 (oL (oL (oF Xa))) (oL (oF (rP2 Xa Xa)))) JH K)) (g_is_whole : Fn P w K mg base 1 "_law_is_whole" ["_law_one"] (sp1 Xa (oF XY) YF K)) (Y : Ecs Xy K mg) (Z : Blt mg) : FnOk P w K mg base CX0 9 f fd ["_law_script"] (sp1 (rL Xa) (oF XY) UH K):=by
  refine F.ok YM (fun vs H Q E h=>?_) (fun cdv A outer s H vs Q E hr h=>?_)
  . obtain ⟨v_0, a_0, b, rfl, _⟩:=h; rfl
  obtain ⟨v_0, a_0, b, rfl, h_0, hm, q⟩:=h
  have hu:=hu8 hr
  have hu1:=YA hr
  apply Exists.intro
  apply And.intro
  case left=>
   refine' Xc ?zq1 ?zq2
   case zq1=>
    refine' Xp (i:=1) ?zq3 ?zq4 ?zq5 ?zq6
    case zq3=>
     exact YM.nd
    case zq4=>
     exact rfl
    case zq5=>
     exact (Or.inl rfl)
    case zq6=>
     refine' Yy g_row hr ?zq7 ?zq8
     case zq7=>
      exact (by decide)
     case zq8=>
      refine' Xb ?zq9 ?zq10
      case zq9=>
       exact (pv 0)
      case zq10=>
       refine' Xb ?zq11 ?zq12
       case zq11=>
        exact Xh
       case zq12=>
        refine' Xb ?zq13 ?zq14
        case zq13=>
         exact (XC CH (Yj (Xb Xh (Xb Xh (Xb Xh (Xb Xh (Xb Xh (Xb Xh (Xb Xh Xf)))))))) (XC Ck (Yj (Xb Xh (Xb Xh Xf))) Xh))
        case zq14=>
         exact Xf
   case zq2=>
    refine' Xc ?zq15 ?zq16
    case zq15=>
     exact (Xp (i:=2) YM.nd rfl (Or.inl rfl) (Yy g_row hr (by decide) (Xb (pv 0) (Xb Xh (Xb (XC Ck (Yj (Xb Xh Xf)) Xh) Xf)))))
    case zq16=>
     refine' Xc ?zq17 ?zq18
     case zq17=>
      refine' Xp (i:=3) ?zq19 ?zq20 ?zq21 ?zq22
      case zq19=>
       exact YM.nd
      case zq20=>
       exact rfl
      case zq21=>
       exact (Or.inl rfl)
      case zq22=>
       exact (Xr (Qb rfl) rfl Z.b_max PyProof.Rows.boot_max (Xb Xh (Xb (XC VW (XO (Xk K rfl) (pv 1) Xh (fun _ _=>rfl)) Xh) Xf)))
     case zq18=>
      refine' Xc ?zq23 ?zq24
      case zq23=>
       exact (Xp (i:=4) YM.nd rfl (Or.inl rfl) (XO (Xk K rfl) (pv 1) Xh (fun _ _=>rfl)))
      case zq24=>
       refine' Xc ?zq25 ?zq26
       case zq25=>
        refine' Xp (i:=5) ?zq27 ?zq28 ?zq29 ?zq30
        case zq27=>
         exact YM.nd
        case zq28=>
         exact rfl
        case zq29=>
         exact (Or.inl rfl)
        case zq30=>
         refine' XO (Xk K rfl) ?zq31 ?zq32 (fun _ _=>rfl)
         case zq31=>
          refine' Yj ?zq33
          case zq33=>
           refine' Xb ?zq34 ?zq35
           case zq34=>
            exact Xh
           case zq35=>
            exact (Xb Xh (Xb Xh (Xb Xh (Xb Xh (Xb Xh (Xb Xh (Xb Xh (Xb Xh (Xb Xh (Xb Xh (Xb Xh Xf)))))))))))
         case zq32=>
          exact (XO (Xk K rfl) (pv 1) Xh (fun _ _=>rfl))
       case zq26=>
        refine' Xc ?zq36 ?zq37
        case zq36=>
         refine' Y7 ?zq38 ?zq39 ?zq40
         case zq38=>
          exact (XN Gz (XO (Xk K rfl) (pv 1) Xh (fun _ _=>rfl)) Xh (XZ _))
         case zq39=>
          refine' Xc ?zq41 ?zq42
          case zq41=>
           exact (Xp (i:=3) YM.nd rfl (Or.inl rfl) Xh)
          case zq42=>
           refine' Xc ?zq43 ?zq44
           case zq43=>
            refine' Xp (i:=6) ?zq45 ?zq46 ?zq47 ?zq48
            case zq45=>
             exact YM.nd
            case zq46=>
             exact rfl
            case zq47=>
             exact (Or.inl rfl)
            case zq48=>
             refine' Yj ?zq49
             case zq49=>
              refine' Xb ?zq50 ?zq51
              case zq50=>
               exact (Y6 (Xb Xh (Xb Xh Xf)))
              case zq51=>
               refine' Xb ?zq52 ?zq53
               case zq52=>
                exact (Y6 (Xb Xh (Xb Xh Xf)))
               case zq53=>
                refine' Xb ?zq54 ?zq55
                case zq54=>
                 exact (Y6 (Xb Xh (Xb Xh Xf)))
                case zq55=>
                 refine' Xb ?zq56 ?zq57
                 case zq56=>
                  exact (Y6 (Xb Xh (Xb Xh Xf)))
                 case zq57=>
                  refine' Xb ?zq58 ?zq59
                  case zq58=>
                   exact (Y6 (Xb Xh (Xb Xh Xf)))
                  case zq59=>
                   exact (Xb (Y6 (Xb Xh (Xb Xh Xf))) (Xb (Y6 (Xb Xh (Xb Xh Xf))) (Xb (Y6 (Xb Xh (Xb Xh Xf))) Xf)))
           case zq44=>
            refine' Xc ?zq60 ?zq61
            case zq60=>
             refine' CA ?zq62 ?zq63
             case zq62=>
              exact (XO (Xk K rfl) (pv 6) (XO (Xk K rfl) (pv 1) Xh (fun _ _=>rfl)) (fun _ _=>rfl))
             case zq63=>
              exact (V3 rfl (Yb (Xo (i:=4) YM.nd rfl (Or.inl rfl)) (Yb (Xo (i:=5) YM.nd rfl (Or.inl rfl)) Q3)))
            case zq61=>
             exact Xg
         case zq40=>
          exact Xg
        case zq37=>
         refine' Xc ?zq64 ?zq65
         case zq64=>
          exact (Xp (i:=7) YM.nd rfl (Or.inl rfl) (Yy g_ring hr (by decide) (Xb (pv 4) (Xb (pv 3) (Xb (QX (QP K rfl) (pv 1) (Vu Xh) Vh) Xf)))))
         case zq65=>
          refine' Xc ?zq66 ?zq67
          case zq66=>
           exact (Xp (i:=8) YM.nd rfl (Or.inl rfl) (Yy g_plain_table hr (by decide) (Xb (pv 5) (Xb (XO (Xk K rfl) (pv 1) Xh (fun _ _=>rfl)) (Xb (pv 2) Xf)))))
          case zq67=>
           refine' Xc ?zq68 ?zq69
           case zq68=>
            exact (Xp (i:=9) YM.nd rfl (Or.inl rfl) (XC Yz (Xr (Qb rfl) rfl Z.b_max PyProof.Rows.boot_max (Xb Xh (Xb (pv 4) Xf))) (pv 3)))
           case zq69=>
            refine' Xc ?zq70 ?zq71
            case zq70=>
             exact (Xp (i:=10) YM.nd rfl (Or.inl rfl) (Yy g_power hr (by decide) (Xb (pv 5) (Xb (pv 9) Xf))))
            case zq71=>
             refine' Xc ?zq72 ?zq73
             case zq72=>
              refine' Y7 ?zq74 ?zq75 ?zq76
              case zq74=>
               refine' PW.pt ?zq77
               case zq77=>
                refine' Kx ?zq78 ?zq79
                case zq78=>
                 exact (XN K7 (XO (Xk K rfl) (pv 1) Xh (fun _ _=>rfl)) Xh (XZ _))
                case zq79=>
                 refine' Kx ?zq80 ?zq81
                 case zq80=>
                  exact (D0 KR Ip Xh (pv 10) Xh)
                 case zq81=>
                  exact (UJ (PW.pt (K5 (XN K7 (pv 3) Xh (XZ _)) (JL (XN K7 (XO (Xk K rfl) (pv 1) Xh (fun _ _=>rfl)) Xh (XZ _))))))
              case zq75=>
               exact (Xc (Xx QN)
      Xg)
              case zq76=>
               exact Xg
             case zq73=>
              refine' Xc ?zq82 ?zq83
              case zq82=>
               exact (HC (i:=11) (j:=12) rfl YM.nd rfl rfl (by decide) rfl rfl (Xb (Yy g_copy hr (by decide) (Xb (pv 7) Xf)) (Xb (ZH (sc:=(Xj JD)) (N0:=["_law_script", "_law_some", "_law_more", "_law_extra", "_law_count_held", "_law_size", "_law_edge", "_law_drawing", "_law_table", "_law_arcs_held", "_law_total", "_law_handed", "_law_lines", "_law_count", "_law_found"]) (tns:=["_law_line"]) (caps:=[]) rfl (XT (K:=K) rfl (pv 8)) (Z0 (by decide)) (fun cl C s H ex E=>⟨Xo (i:=0) (show List.Nodup (["_law_line"] : List Str) by decide +kernel) rfl (Or.inl rfl), Qy, (Qf (YT K rfl) rfl Z.b_list PyProof.Rows.boot_list (Xb (pv 0) Xf))⟩)) Xf)) rfl)
              case zq83=>
               refine' Xc ?zq84 ?zq85
               case zq84=>
                exact (Xp (i:=13) YM.nd rfl (Or.inl rfl) (Yy g_count_told hr (by decide) (Xb (pv 11) (Xb (pv 12) Xf))))
               case zq85=>
                refine' Xc ?zq86 ?zq87
                case zq86=>
                 exact (Xp (i:=14) YM.nd rfl (Or.inl rfl) (Yy g_list_told hr (by decide) (Xb (pv 11) (Xb (pv 12) Xf))))
                case zq87=>
                 refine' Xc ?zq88 ?zq89
                 case zq88=>
                  refine' Y7 ?zq90 ?zq91 ?zq92
                  case zq90=>
                   refine' PW.pt ?zq93
                   case zq93=>
                    refine' K5 ?zq94 ?zq95
                    case zq94=>
                     exact (XN (Fa (Hr (Bw (Bw eq_int)) (Bw (Hr eq_int eq_int))) (Gx (by decide) hu)) (pv 11) (pv 7) (XZ _))
                    case zq95=>
                     exact (JL (XN (Fa (Bw (Bw eq_int)) (Gx (by decide) hu)) (pv 12) (pv 8) (XZ _)))
                  case zq91=>
                   exact (Xc (Xx QN)
      Xg)
                  case zq92=>
                   exact Xg
                 case zq89=>
                  refine' Xc ?zq96 ?zq97
                  case zq96=>
                   refine' Y7 ?zq98 ?zq99 ?zq100
                   case zq98=>
                    exact (XN K7 (pv 10) Xh (XZ _))
                   case zq99=>
                    refine' Xc ?zq101 ?zq102
                    case zq101=>
                     refine' Xx ?zq103
                     case zq103=>
                      exact (Cq (U4 (Cp (Gf Bv eq_int (FU (r:=JO) (q:=Xa) rfl rfl)) (Gx (by decide) hu)) (pv 13) Qm (XZ _)) (Cv (U4 (Cp (Gf (Bv.up (by decide)) (Bw (Bw eq_int)) ((FU (r:=JO) (q:=(rV (rV Xa))) rfl rfl).up (by decide))) (Gx (by decide) hu)) (pv 14) Qm (XZ _))))
                    case zq102=>
                     exact Xg
                   case zq100=>
                    exact Xg
                  case zq97=>
                   refine' Xc ?zq104 ?zq105
                   case zq104=>
                    refine' Y7 ?zq106 ?zq107 ?zq108
                    case zq106=>
                     refine' PW.pt ?zq109
                     case zq109=>
                      refine' K5 ?zq110 ?zq111
                      case zq110=>
                       exact (QG (ZT (Yy g_is_whole hr (by decide) (Xb (pv 13) Xf))))
                      case zq111=>
                       refine' JL ?zq112
                       case zq112=>
                        refine' XN (Fa (Gf Bv eq_int (FU (r:=JO) (q:=Xa) rfl rfl)) (Gx (by decide) hu)) ?zq113 ?zq114 (XZ _)
                        case zq113=>
                         exact (pv 13)
                        case zq114=>
                         exact (Yy g_power hr (by decide) (Xb (pv 5) (Xb (XC Yz (pv 3) Xh) Xf)))
                    case zq107=>
                     exact (Xc (Xx QN)
      Xg)
                    case zq108=>
                     exact Xg
                   case zq105=>
                    refine' Xc ?zq115 ?zq116
                    case zq115=>
                     refine' Xx ?zq117
                     case zq117=>
                      refine' Yy g_lists hr ?zq118 ?zq119
                      case zq118=>
                       exact (by decide)
                      case zq119=>
                       exact (Xb (pv 14) (Xb (pv 5) (Xb (Xr (Qb rfl) rfl Z.b_max PyProof.Rows.boot_max (Xb Xh (Xb (pv 4) Xf))) (Xb (pv 3) Xf))))
                    case zq116=>
                     exact Xg
  refine Ze (S:=(SC.add SC.nil K (rL Xa) v_0 a_0)) (σ:=[some v_0, none, none, none, none, none, none, none, none, none, none, none, none, none, none]) 0 ?_ (SC.i SC.t h_0) hm q rfl
  unfold UH
  exact (XB (K:=K) (r:=(rV Xa)) 1 (Ev.sh (ZL (Xd (r:=(rL Xa)) 0 rfl (fun _ s=>(SC.r s))) (Xe 0) (Ev.toB (Ci (Ev.ls (Z5 (Xl (EvB.sh (Xe 41)) (Xl (EvB.sh (Xe 20)) (Xl (EvB.sh (Xe 12)) (Xl (EvB.sh (Xe 2)) (Xl (EvB.sh (Xe 4)) (Xl (EvB.sh (Xe 6)) (Xl (EvB.sh (Xe 8)) Zo))))))))) (Ev.ls (CO (Ev.ls (Z5 (Xl (EvB.sh (Xe 2)) (Xl (EvB.sh (Xe 2)) Zo)))) (Xe 40))))))) fun a1 v2=>(XB (K:=K) (r:=(rV Xa)) 2 (Ev.sh (ZL (Xd (r:=(rL Xa)) 0 rfl (fun _ s=>(SC.r (SC.l s)))) (Xe 1) (Ev.toB (CO (Ev.ls (Z5 (Xl (EvB.sh (Xe 24)) Zo))) (Xe 24))))) fun a31 v32=>(XB (K:=K) (r:=Xa) 3 (EvB.sh (VJ (Xe 0) (JB (XI (Xd (r:=(rV Xa)) 1 rfl (fun _ s=>(SC.r (SC.l s)))) (Xe 1)) (Xe 8)))) fun a42 v43=>(XB (K:=K) (r:=Xa) 4 (EvB.sh (XI (Xd (r:=(rV Xa)) 1 rfl (fun _ s=>(SC.r (SC.l (SC.l s))))) (Xe 0))) fun a50 v51=>(XB (K:=K) (r:=Xa) 5 (EvB.sh (XI (Ev.toB (Z5 (Xl (EvB.sh (Xe 1)) (Xl (EvB.sh (Xe 2)) (Xl (EvB.sh (Xe 3)) (Xl (EvB.sh (Xe 4)) (Xl (EvB.sh (Xe 5)) (Xl (EvB.sh (Xe 7)) (Xl (EvB.sh (Xe 9)) (Xl (EvB.sh (Xe 11)) (Xl (EvB.sh (Xe 15)) (Xl (EvB.sh (Xe 16)) (Xl (EvB.sh (Xe 21)) (Xl (EvB.sh (Xe 24)) Zo)))))))))))))) (XI (Xd (r:=(rV Xa)) 1 rfl (fun _ s=>(SC.r (SC.l (SC.l (SC.l s)))))) (Xe 2)))) fun a54 v55=>(Qp (J:=({ oo:=fun x90=>[], ss:=fun x90=>[some v_0, some v2, some v32, some x90.1, some x90.2.2.1, some x90.2.2.2, x90.2.1, none, none, none, none, none, none, none, none], sc:=fun g91 x90=>(SC.add (SC.add (SC.add (SC.add (SC.add (SC.add SC.nil K (rL Xa) v_0 a_0) K (rV Xa) v2 a1) K (rV Xa) v32 a31) K Xa x90.1 g91.1) K Xa x90.2.2.1 g91.2.1) K Xa x90.2.2.2 g91.2.2) } : Jn (Int × Int × Int) (V × Option V × V × V))) (JV (Fd:=FNd ({ oo:=fun x90=>[], ss:=fun x90=>[some v_0, some v2, some v32, some x90.1, some x90.2.2.1, some x90.2.2.2, x90.2.1, none, none, none, none, none, none, none, none], sc:=fun g91 x90=>(SC.add (SC.add (SC.add (SC.add (SC.add (SC.add SC.nil K (rL Xa) v_0 a_0) K (rV Xa) v2 a1) K (rV Xa) v32 a31) K Xa x90.1 g91.1) K Xa x90.2.2.1 g91.2.1) K Xa x90.2.2.2 g91.2.2) } : Jn (Int × Int × Int) (V × Option V × V × V))) (Xw (K:=K) (Up (XI (Xd (r:=(rV Xa)) 1 rfl (fun _ s=>(SC.r (SC.l (SC.l (SC.l (SC.l s))))))) (Xe 5)) (Xe 0))) (XB (K:=K) (r:=Xa) 3 (EvB.sh (Xe 0)) fun a92 v93=>(XB (K:=K) (r:=(rV (rP2 Xa Xa))) 6 (Ev.sh (Z5 (Xl (YL (EvB.sh (Xe 16)) (EvB.sh (Xe 2))) (Xl (YL (EvB.sh (Xe 8)) (EvB.sh (Xe 4))) (Xl (YL (EvB.sh (Xe 4)) (EvB.sh (Xe 16))) (Xl (YL (EvB.sh (Xe 17)) (EvB.sh (Xe 2))) (Xl (YL (EvB.sh (Xe 9)) (EvB.sh (Xe 4))) (Xl (YL (EvB.sh (Xe 5)) (EvB.sh (Xe 16))) (Xl (YL (EvB.sh (Xe 10)) (EvB.sh (Xe 3))) (Xl (YL (EvB.sh (Xe 11)) (EvB.sh (Xe 3))) Zo)))))))))) fun a94 v95=>(EG 4 5 (EvB.sh (XI (Xd (r:=(rV (rP2 Xa Xa))) 6 rfl (fun _ s=>(SC.r s))) (XI (Xd (r:=(rV Xa)) 1 rfl (fun _ s=>(SC.r (SC.l (SC.l (SC.l (SC.l (SC.l (SC.l s))))))))) (Xe 6)))) fun a133 v134 v135=>(XD (J:=_) (v93, (some v95), v134, v135) (a92, a133.1, a133.2) rfl rfl (fun _ s=>(SC.i (SC.i (SC.i (SC.i (SC.i (SC.i SC.t (SC.r (SC.l (SC.l (SC.l (SC.l (SC.l (SC.l (SC.l (SC.l (SC.l s))))))))))) (SC.r (SC.l (SC.l (SC.l (SC.l (SC.l (SC.l (SC.l (SC.l s)))))))))) (SC.r (SC.l (SC.l (SC.l (SC.l (SC.l (SC.l (SC.l s))))))))) (SC.r (SC.l (SC.l (SC.l s))))) (SC.r (SC.l s))) (SC.r s))))))) (XD (J:=_) (v43, (none), v51, v55) (a42, a50, a54) rfl rfl (fun _ s=>(SC.i (SC.i (SC.i (SC.i (SC.i (SC.i SC.t (SC.r (SC.l (SC.l (SC.l (SC.l (SC.l s))))))) (SC.r (SC.l (SC.l (SC.l (SC.l s)))))) (SC.r (SC.l (SC.l (SC.l s))))) (SC.r (SC.l (SC.l s)))) (SC.r (SC.l s))) (SC.r s))))) fun g137 x136=>(XB (K:=K) (r:=(rP2 (rV (rV Xa)) (rV (rP2 Xa Xa)))) 7 (Ev.sh (ZL (Xd (r:=Xa) 4 rfl (fun _ s=>(SC.r (SC.l s)))) (Xd (r:=Xa) 3 rfl (fun _ s=>(SC.r (SC.l (SC.l s))))) (Ev.toB (Vs (EvS.ls (Xn (r:=(rV Xa)) 1 rfl (fun _ s=>(SC.r (SC.l (SC.l (SC.l (SC.l s)))))))) (QR (K:=K) (Xe 7)) QQ)))) fun a138 v139=>(XB (K:=K) (r:=(rV (rV Xa))) 8 (Ev.sh (ZL (Xd (r:=Xa) 5 rfl (fun _ s=>(SC.r (SC.l s)))) (XI (Xd (r:=(rV Xa)) 1 rfl (fun _ s=>(SC.r (SC.l (SC.l (SC.l (SC.l (SC.l s)))))))) (Xe 3)) (Xd (r:=(rV Xa)) 2 rfl (fun _ s=>(SC.r (SC.l (SC.l (SC.l (SC.l s))))))))) fun a148 v149=>(XB (K:=K) (r:=Xa) 9 (EvB.sh (X8 (VJ (Xe 1) (Xd (r:=Xa) 4 rfl (fun _ s=>(SC.r (SC.l (SC.l (SC.l s))))))) (Xd (r:=Xa) 3 rfl (fun _ s=>(SC.r (SC.l (SC.l (SC.l (SC.l s))))))))) fun a156 v157=>(XB (K:=K) (r:=Xa) 10 (EvB.sh (Ev.toB (Ym (Xd (r:=Xa) 5 rfl (fun _ s=>(SC.r (SC.l (SC.l (SC.l s)))))) (Xd (r:=Xa) 9 rfl (fun _ s=>(SC.r s)))))) fun a162 v163=>(JA (VH (Xw (K:=K) (JU (XI (Xd (r:=(rV Xa)) 1 rfl (fun _ s=>(SC.r (SC.l (SC.l (SC.l (SC.l (SC.l (SC.l (SC.l (SC.l s))))))))))) (Xe 5)) (Xe 0))) (VH (Xw (K:=K) (Gi (Xe 5000) (Xd (r:=Xa) 10 rfl (fun _ s=>(SC.r s))) (Xe 65536))) (Vb (Xw (K:=K) (JU (Xd (r:=Xa) 3 rfl (fun _ s=>(SC.r (SC.l (SC.l (SC.l (SC.l (SC.l (SC.l s))))))))) (Xe 0))) (Xw (K:=K) (JU (XI (Xd (r:=(rV Xa)) 1 rfl (fun _ s=>(SC.r (SC.l (SC.l (SC.l (SC.l (SC.l (SC.l (SC.l (SC.l s))))))))))) (Xe 4)) (Xe 0)))))) (Xz (EvS.ev (EvB.sh (Zu true)))) (E9 (K:=K) 11 12 (Ev.sh (YS (Xd (r:=(rP2 (rV (rV Xa)) (rV (rP2 Xa Xa)))) 7 rfl (fun _ s=>(SC.r (SC.l (SC.l (SC.l s)))))))) (Ev.sh (Qt (fun _=>tg1 0) (XH (Xn (r:=(rV (rV Xa))) 8 rfl (fun _ s=>(SC.r (SC.l (SC.l s)))))) (fun C183 a184 v185=>(Vv (EvS.ls (Xn (r:=(rV Xa)) 0 rfl (fun _ s=>(SC.r s)))))))) fun a188 a189 v190 v191=>(XB (K:=K) (r:=(rEi JO Xa)) 13 (EvB.sh (Ev.toB (Ym (Xd (r:=(rP2 (rV (rV Xa)) (rV (rP2 Xa Xa)))) 11 rfl (fun _ s=>(SC.r (SC.l s)))) (Xd (r:=(rV (rV Xa))) 12 rfl (fun _ s=>(SC.r s)))))) fun a192 v193=>(XB (K:=K) (r:=(rEi JO (rV (rV Xa)))) 14 (Ev.sh (Ym (Xd (r:=(rP2 (rV (rV Xa)) (rV (rP2 Xa Xa)))) 11 rfl (fun _ s=>(SC.r (SC.l (SC.l s))))) (Xd (r:=(rV (rV Xa))) 12 rfl (fun _ s=>(SC.r (SC.l s)))))) fun a197 v198=>(JA (Vb (Xw (K:=K) (UU (Xd (r:=(rP2 (rV (rV Xa)) (rV (rP2 Xa Xa)))) 11 rfl (fun _ s=>(SC.r (SC.l (SC.l (SC.l s)))))) (Xd (r:=(rP2 (rV (rV Xa)) (rV (rP2 Xa Xa)))) 7 rfl (fun _ s=>(SC.r (SC.l (SC.l (SC.l (SC.l (SC.l (SC.l (SC.l s)))))))))))) (Xw (K:=K) (UU (Xd (r:=(rV (rV Xa))) 12 rfl (fun _ s=>(SC.r (SC.l (SC.l s))))) (Xd (r:=(rV (rV Xa))) 8 rfl (fun _ s=>(SC.r (SC.l (SC.l (SC.l (SC.l (SC.l (SC.l s)))))))))))) (Xz (EvS.ev (EvB.sh (Zu false)))) (JA (Xw (K:=K) (JU (Xd (r:=Xa) 10 rfl (fun _ s=>(SC.r (SC.l (SC.l (SC.l (SC.l s))))))) (Xe 65536))) (Xz (EvS.ev (EvB.sh (Kw (F2 (Xd (r:=(rEi JO Xa)) 13 rfl (fun _ s=>(SC.r (SC.l s)))) (FM (p:=Xa) (Qx _))) (F2 (Xd (r:=(rEi JO (rV (rV Xa)))) 14 rfl (fun _ s=>(SC.r s))) (FM (p:=(rV (rV Xa))) (Qx _))))))) (Kb (K:=K) (q:=Xa) (fun _ s=>(SC.r (SC.l s))) fun a216=>(JA (Vb (Zz (Jv (K:=K) (Ev.toB (YS (Xd (r:=Xa) 13 rfl (fun _ s=>(SC.r s))))))) (Xw (K:=K) (UU (F3 (o:=JO) (Xd (r:=Xa) 13 rfl (fun _ s=>(SC.r s)))) (F3 (o:=JO) (Ev.toB (Ym (Xd (r:=Xa) 5 rfl (fun _ s=>(SC.r (SC.l (SC.l (SC.l (SC.l (SC.l (SC.l (SC.l (SC.l (SC.l s)))))))))))) (X8 (Xd (r:=Xa) 3 rfl (fun _ s=>(SC.r (SC.l (SC.l (SC.l (SC.l (SC.l (SC.l (SC.l (SC.l (SC.l (SC.l (SC.l s)))))))))))))) (Xe 1)))))))) (Xz (EvS.ev (EvB.sh (Zu false)))) (Kb (K:=K) (q:=(rV (rV Xa))) (fun _ s=>(SC.r (SC.l s))) fun a230=>(Xz (DT (Xd (r:=(rV (rV Xa))) 14 rfl (fun _ s=>(SC.r s))) (Xd (r:=Xa) 5 rfl (fun _ s=>(SC.r (SC.l (SC.l (SC.l (SC.l (SC.l (SC.l (SC.l (SC.l (SC.l (SC.l s))))))))))))) (VJ (Xe 1) (Xd (r:=Xa) 4 rfl (fun _ s=>(SC.r (SC.l (SC.l (SC.l (SC.l (SC.l (SC.l (SC.l (SC.l (SC.l (SC.l (SC.l s))))))))))))))) (Xd (r:=Xa) 3 rfl (fun _ s=>(SC.r (SC.l (SC.l (SC.l (SC.l (SC.l (SC.l (SC.l (SC.l (SC.l (SC.l (SC.l (SC.l s))))))))))))))))))))))))))))))))))))
end
set_option maxHeartbeats 4000000 in
theorem CL {K : PySem.W.Frag} {mg : Str -> Option Value} {h : Heap} (X : K.In h) (G : h.Ns mainGlobals mg) {x p0 : Str} {st : Stmt} {f : Addr} {oc : Value} {od an : Option Addr} {osl : Array (Option Value)} {kV doc pm cdv ct : Value} (hb : ∀ (kV doc pm : Value) (an : Option Addr) (cdv ct u0 : Value), bindArgs (PySem.W.fnOf x x (Yq st) (Ye st) (Xj st) .none kV doc pm an cdv ct) ⟨[u0], []⟩ = pure ([p0].zip [u0])) (a : PySem.W.nsIn K mainGlobals x = some (some (.ref f))) (l : K.lookup f = some ⟨oc, od, .func (PySem.W.fnOf x x (Yq st) (Ye st) (Xj st) .none kV doc pm an cdv ct), osl⟩) (c : PySem.W.codeIn K cdv x = true) (k : PySem.W.keepIn K (.ref f) = true) : Def K mg x st [p0]:=⟨f, _, Z6 l c k, (Z6 l c k).binds fun _ _ _ _ _ _ us hl=>(by obtain ⟨_, rfl⟩:=HE hl; exact hb ..), PySem.W.mg_of X G a⟩
theorem Ga {K : PySem.W.Frag} {mg : Str -> Option Value} {h : Heap} (X : K.In h) (G : h.Ns mainGlobals mg) {x p0 p1 : Str} {st : Stmt} {f : Addr} {oc : Value} {od an : Option Addr} {osl : Array (Option Value)} {kV doc pm cdv ct : Value} (hb : ∀ (kV doc pm : Value) (an : Option Addr) (cdv ct u0 u1 : Value), bindArgs (PySem.W.fnOf x x (Yq st) (Ye st) (Xj st) .none kV doc pm an cdv ct) ⟨[u0, u1], []⟩ = pure ([p0, p1].zip [u0, u1])) (a : PySem.W.nsIn K mainGlobals x = some (some (.ref f))) (l : K.lookup f = some ⟨oc, od, .func (PySem.W.fnOf x x (Yq st) (Ye st) (Xj st) .none kV doc pm an cdv ct), osl⟩) (c : PySem.W.codeIn K cdv x = true) (k : PySem.W.keepIn K (.ref f) = true) : Def K mg x st [p0, p1]:=⟨f, _, Z6 l c k, (Z6 l c k).binds fun _ _ _ _ _ _ us hl=>(by obtain ⟨_, _, rfl⟩:=Eo hl; exact hb ..), PySem.W.mg_of X G a⟩
theorem EI {K : PySem.W.Frag} {mg : Str -> Option Value} {h : Heap} (X : K.In h) (G : h.Ns mainGlobals mg) {x p0 p1 p2 : Str} {st : Stmt} {f : Addr} {oc : Value} {od an : Option Addr} {osl : Array (Option Value)} {kV doc pm cdv ct : Value} (hb : ∀ (kV doc pm : Value) (an : Option Addr) (cdv ct u0 u1 u2 : Value), bindArgs (PySem.W.fnOf x x (Yq st) (Ye st) (Xj st) .none kV doc pm an cdv ct) ⟨[u0, u1, u2], []⟩ = pure ([p0, p1, p2].zip [u0, u1, u2])) (a : PySem.W.nsIn K mainGlobals x = some (some (.ref f))) (l : K.lookup f = some ⟨oc, od, .func (PySem.W.fnOf x x (Yq st) (Ye st) (Xj st) .none kV doc pm an cdv ct), osl⟩) (c : PySem.W.codeIn K cdv x = true) (k : PySem.W.keepIn K (.ref f) = true) : Def K mg x st [p0, p1, p2]:=⟨f, _, Z6 l c k, (Z6 l c k).binds fun _ _ _ _ _ _ us hl=>(by obtain ⟨_, _, _, rfl⟩:=EK hl; exact hb ..), PySem.W.mg_of X G a⟩
theorem IR {K : PySem.W.Frag} {mg : Str -> Option Value} {h : Heap} (X : K.In h) (G : h.Ns mainGlobals mg) {x p0 p1 p2 p3 : Str} {st : Stmt} {f : Addr} {oc : Value} {od an : Option Addr} {osl : Array (Option Value)} {kV doc pm cdv ct : Value} (hb : ∀ (kV doc pm : Value) (an : Option Addr) (cdv ct u0 u1 u2 u3 : Value), bindArgs (PySem.W.fnOf x x (Yq st) (Ye st) (Xj st) .none kV doc pm an cdv ct) ⟨[u0, u1, u2, u3], []⟩ = pure ([p0, p1, p2, p3].zip [u0, u1, u2, u3])) (a : PySem.W.nsIn K mainGlobals x = some (some (.ref f))) (l : K.lookup f = some ⟨oc, od, .func (PySem.W.fnOf x x (Yq st) (Ye st) (Xj st) .none kV doc pm an cdv ct), osl⟩) (c : PySem.W.codeIn K cdv x = true) (k : PySem.W.keepIn K (.ref f) = true) : Def K mg x st [p0, p1, p2, p3]:=⟨f, _, Z6 l c k, (Z6 l c k).binds fun _ _ _ _ _ _ us hl=>(by obtain ⟨_, _, _, _, rfl⟩:=HX hl; exact hb ..), PySem.W.mg_of X G a⟩
theorem E7 {l : PySem.W.OpenLaw} {w : World} {K : PySem.W.Frag} {h : Heap} {mg : Str -> Option Value} {fa f E0 E1 E2 E3 : Addr} {tk0 : Tok} (X : K.In h) (G : h.Ns mainGlobals mg) (hfa : mg "law" = some (.ref fa)) {od an : Option Addr} {sl : Array (Option Value)} {oc kV dc pm cd ct : Value}
    (D1 : Def K mg "spot" Fx ["drawing", "passage"])
    (D2 : Def K mg "arcs" Gg ["drawing"])
    (D3 : Def K mg "arc_count" Zs ["drawing"])
    (D4 : Def K mg "arcs_of_walk" YK ["walk"])
    (D5 : Def K mg "arcs_of_ways" Zd ["walk", "first"])
    (D6 : Def K mg "meets" U2 ["drawing"])
    (D7 : Def K mg "ties" GG ["drawing"])
    (D8 : Def K mg "all_held" ZJ ["table", "colours", "asked"])
    (D9 : Def K mg "colourings" Zb ["drawing", "table"])
    (D10 : Def K mg "refuse_too_much" YB ["size", "count"])
    (D11 : Def K mg "longer_by_arc" YZ ["lists", "table", "asked"])
    (D12 : Def K mg "many" Go ["drawing", "table"])
    (D13 : Def K mg "_law_cell" Fw ["_law_script", "_law_place"])
    (D14 : Def K mg "_law_mix" Ee ["_law_cell_here", "_law_k"])
    (D15 : Def K mg "_law_row" CS ["_law_script", "_law_place", "_law_sizes"])
    (D16 : Def K mg "_law_is_whole" Qz ["_law_one"])
    (D17 : Def K mg "_law_is_wholes" Z1 ["_law_found"])
    (D18 : Def K mg "_law_ordered" Jr ["_law_some", "_law_count"])
    (D19 : Def K mg "_law_relaid" QY ["_law_some", "_law_spots"])
    (D20 : Def K mg "_law_copy" Kz ["_law_drawing"])
    (D21 : Def K mg "_law_ring" F1 ["_law_count", "_law_extra", "_law_some"])
    (D22 : Def K mg "_law_plain_table" YU ["_law_size", "_law_way", "_law_spots"])
    (D23 : Def K mg "_law_power" UF ["_law_size", "_law_count"])
    (D24 : Def K mg "_law_count_told" Zy ["_law_drawing", "_law_table"])
    (D25 : Def K mg "_law_list_told" ZW ["_law_drawing", "_law_table"])
    (D26 : Def K mg "_law_lists" UY ["_law_found", "_law_size", "_law_count", "_law_extra"])
    (a : PySem.W.nsIn K mainGlobals "law" = some (some (.ref f))) (l0 : K.lookup f = some ⟨oc, od, .func (PySem.W.fnOf "law" "law" (Yq JD) (Ye JD) (Xj JD) .none kV dc pm an cd ct), sl⟩) (c : PySem.W.codeIn K cd "law" = true) (k : PySem.W.keepIn K (.ref f) = true)
    (z1 : PySem.W.nsIn K mainGlobals "all" = some none)
    (z2 : PySem.W.nsIn K mainGlobals "bool" = some none)
    (z3 : PySem.W.nsIn K mainGlobals "enumerate" = some none)
    (z4 : PySem.W.nsIn K mainGlobals "int" = some none)
    (z5 : PySem.W.nsIn K mainGlobals "isinstance" = some none)
    (z6 : PySem.W.nsIn K mainGlobals "len" = some none)
    (z7 : PySem.W.nsIn K mainGlobals "list" = some none)
    (z8 : PySem.W.nsIn K mainGlobals "max" = some none)
    (z9 : PySem.W.nsIn K mainGlobals "range" = some none)
    (z10 : PySem.W.nsIn K mainGlobals "sum" = some none)
    (w0 : PySem.W.nsIn K mainGlobals "MOST_LISTS" = some (some (.int 65536 tk0)))
    (x0 : PySem.W.nsIn K mainGlobals "PlaitError" = some (some (.ref E0)))
    (x1 : PySem.W.nsIn K mainGlobals "NoCrossing" = some (some (.ref E1)))
    (x2 : PySem.W.nsIn K mainGlobals "TooBig" = some (some (.ref E2)))
    (x3 : PySem.W.nsIn K mainGlobals "TooMuch" = some (some (.ref E3)))
    (yg : PySem.W.specialIn K (.builtin "object.__class__") "__get__" = some (some (.builtin "getset_descriptor.__get__")))
    (yt : PySem.W.takesIn K (.builtin "object.__class__") = some true)
    (ya0 : PySem.W.excIn K E0 vEr "ValueError.__new__" = true)
    (yb0 : PySem.W.findIn K (.ref E0) "__getattribute__" = some (some (.builtin "BaseException.__getattribute__")))
    (yc0 : PySem.W.findIn K (.ref E0) "__getattr__" = some none)
    (yd0 : PySem.W.findIn K (.ref E0) "__class__" = some (some (.builtin "object.__class__")))
    (ye0 : PySem.W.mroIn K E0 (.type "object") = some true)
    (yf0 : PySem.W.isClsIn K E0 = true)
    (yh0 : PySem.W.mroIn K E0 (.type "BaseException") = some true)
    (yi0 : PySem.W.subIn K (.ref E0) (.type "ValueError") = some true)
    (yj0 : PySem.W.typeIn K (.ref E0) = some (.type "type"))
    (yk0 : PySem.W.subIn K (.ref E0) (.type "BaseException") = some true)
    (ya1 : PySem.W.excIn K E1 vEr "ValueError.__new__" = true)
    (yb1 : PySem.W.findIn K (.ref E1) "__getattribute__" = some (some (.builtin "BaseException.__getattribute__")))
    (yc1 : PySem.W.findIn K (.ref E1) "__getattr__" = some none)
    (yd1 : PySem.W.findIn K (.ref E1) "__class__" = some (some (.builtin "object.__class__")))
    (ye1 : PySem.W.mroIn K E1 (.type "object") = some true)
    (yf1 : PySem.W.isClsIn K E1 = true)
    (yh1 : PySem.W.mroIn K E1 (.type "BaseException") = some true)
    (yi1 : PySem.W.subIn K (.ref E1) (.type "ValueError") = some true)
    (yj1 : PySem.W.typeIn K (.ref E1) = some (.type "type"))
    (yk1 : PySem.W.subIn K (.ref E1) (.type "BaseException") = some true)
    (ya2 : PySem.W.excIn K E2 vEr "ValueError.__new__" = true)
    (yb2 : PySem.W.findIn K (.ref E2) "__getattribute__" = some (some (.builtin "BaseException.__getattribute__")))
    (yc2 : PySem.W.findIn K (.ref E2) "__getattr__" = some none)
    (yd2 : PySem.W.findIn K (.ref E2) "__class__" = some (some (.builtin "object.__class__")))
    (ye2 : PySem.W.mroIn K E2 (.type "object") = some true)
    (yf2 : PySem.W.isClsIn K E2 = true)
    (yh2 : PySem.W.mroIn K E2 (.type "BaseException") = some true)
    (yi2 : PySem.W.subIn K (.ref E2) (.type "ValueError") = some true)
    (yj2 : PySem.W.typeIn K (.ref E2) = some (.type "type"))
    (yk2 : PySem.W.subIn K (.ref E2) (.type "BaseException") = some true)
    (ya3 : PySem.W.excIn K E3 vEr "ValueError.__new__" = true)
    (yb3 : PySem.W.findIn K (.ref E3) "__getattribute__" = some (some (.builtin "BaseException.__getattribute__")))
    (yc3 : PySem.W.findIn K (.ref E3) "__getattr__" = some none)
    (yd3 : PySem.W.findIn K (.ref E3) "__class__" = some (some (.builtin "object.__class__")))
    (ye3 : PySem.W.mroIn K E3 (.type "object") = some true)
    (yf3 : PySem.W.isClsIn K E3 = true)
    (yh3 : PySem.W.mroIn K E3 (.type "BaseException") = some true)
    (yi3 : PySem.W.subIn K (.ref E3) (.type "ValueError") = some true)
    (yj3 : PySem.W.typeIn K (.ref E3) = some (.type "type"))
    (yk3 : PySem.W.subIn K (.ref E3) (.type "BaseException") = some true)
    (yl0_0 : PySem.W.subIn K (.ref E0) (.ref E0) = some true)
    (yl0_1 : PySem.W.subIn K (.ref E0) (.ref E1) = some false)
    (yl0_2 : PySem.W.subIn K (.ref E0) (.ref E2) = some false)
    (yl0_3 : PySem.W.subIn K (.ref E0) (.ref E3) = some false)
    (yl1_0 : PySem.W.subIn K (.ref E1) (.ref E0) = some true)
    (yl1_1 : PySem.W.subIn K (.ref E1) (.ref E1) = some true)
    (yl1_2 : PySem.W.subIn K (.ref E1) (.ref E2) = some false)
    (yl1_3 : PySem.W.subIn K (.ref E1) (.ref E3) = some false)
    (yl2_0 : PySem.W.subIn K (.ref E2) (.ref E0) = some true)
    (yl2_1 : PySem.W.subIn K (.ref E2) (.ref E1) = some false)
    (yl2_2 : PySem.W.subIn K (.ref E2) (.ref E2) = some true)
    (yl2_3 : PySem.W.subIn K (.ref E2) (.ref E3) = some false)
    (yl3_0 : PySem.W.subIn K (.ref E3) (.ref E0) = some true)
    (yl3_1 : PySem.W.subIn K (.ref E3) (.ref E1) = some false)
    (yl3_2 : PySem.W.subIn K (.ref E3) (.ref E2) = some false)
    (yl3_3 : PySem.W.subIn K (.ref E3) (.ref E3) = some true)
    : ∃ fd : FuncData, (∀ (s : Shared) (v : Value), BindsTo s fd ⟨[v], []⟩ [("_law_script", v)]) /\ ∀ base : Heap, K.In base -> base.Ns mainGlobals mg -> FnOk l.prog w K mg base CX0 9 fa fd ["_law_script"] (sp1 (rL Xa) (oF XY) UH K):=by
  have e:=hfa.symm.trans (PySem.W.mg_of X G a)
  cases e
  have N : ∀ {x : Str}, PySem.W.nsIn K mainGlobals x = some none -> mg x = none:=fun z=>PySem.W.mg_none_of X G z
  have pz0 : Qs "PlaitError" = true:=by decide
  have er0:=Kq yb0 yc0 yd0 ye0 yf0 yh0 yg yt
  have iz0_0 : YO "PlaitError" "PlaitError" = true:=by decide
  have kx0_0:=ZR yl0_0 yl0_0 yf0 yj0 yk0
  have iz0_1 : YO "PlaitError" "NoCrossing" = false:=by decide
  have kx0_1:=ZR yl0_0 yl0_1 yf1 yj1 yk1
  have iz0_2 : YO "PlaitError" "TooBig" = false:=by decide
  have kx0_2:=ZR yl0_0 yl0_2 yf2 yj2 yk2
  have iz0_3 : YO "PlaitError" "TooMuch" = false:=by decide
  have kx0_3:=ZR yl0_0 yl0_3 yf3 yj3 yk3
  have pz1 : Qs "NoCrossing" = true:=by decide
  have er1:=Kq yb1 yc1 yd1 ye1 yf1 yh1 yg yt
  have iz1_0 : YO "NoCrossing" "PlaitError" = true:=by decide
  have kx1_0:=ZR yl1_1 yl1_0 yf0 yj0 yk0
  have iz1_1 : YO "NoCrossing" "NoCrossing" = true:=by decide
  have kx1_1:=ZR yl1_1 yl1_1 yf1 yj1 yk1
  have iz1_2 : YO "NoCrossing" "TooBig" = false:=by decide
  have kx1_2:=ZR yl1_1 yl1_2 yf2 yj2 yk2
  have iz1_3 : YO "NoCrossing" "TooMuch" = false:=by decide
  have kx1_3:=ZR yl1_1 yl1_3 yf3 yj3 yk3
  have pz2 : Qs "TooBig" = true:=by decide
  have er2:=Kq yb2 yc2 yd2 ye2 yf2 yh2 yg yt
  have iz2_0 : YO "TooBig" "PlaitError" = true:=by decide
  have kx2_0:=ZR yl2_2 yl2_0 yf0 yj0 yk0
  have iz2_1 : YO "TooBig" "NoCrossing" = false:=by decide
  have kx2_1:=ZR yl2_2 yl2_1 yf1 yj1 yk1
  have iz2_2 : YO "TooBig" "TooBig" = true:=by decide
  have kx2_2:=ZR yl2_2 yl2_2 yf2 yj2 yk2
  have iz2_3 : YO "TooBig" "TooMuch" = false:=by decide
  have kx2_3:=ZR yl2_2 yl2_3 yf3 yj3 yk3
  have pz3 : Qs "TooMuch" = true:=by decide
  have er3:=Kq yb3 yc3 yd3 ye3 yf3 yh3 yg yt
  have iz3_0 : YO "TooMuch" "PlaitError" = true:=by decide
  have kx3_0:=ZR yl3_3 yl3_0 yf0 yj0 yk0
  have iz3_1 : YO "TooMuch" "NoCrossing" = false:=by decide
  have kx3_1:=ZR yl3_3 yl3_1 yf1 yj1 yk1
  have iz3_2 : YO "TooMuch" "TooBig" = false:=by decide
  have kx3_2:=ZR yl3_3 yl3_2 yf2 yj2 yk2
  have iz3_3 : YO "TooMuch" "TooMuch" = true:=by decide
  have kx3_3:=ZR yl3_3 yl3_3 yf3 yj3 yk3
  have y0 : Bb K [("PlaitError", E0), ("NoCrossing", E1), ("TooBig", E2), ("TooMuch", E3)] = true:=by
    unfold Bb
    simp only [List.all_cons, List.all_nil, Bool.and_true, Bool.and_self, beq_self_eq_true, Bool.not_true, Bool.not_false, Bool.false_or, Bool.true_or, pz0, ya0, er0, Vj yi0, pz1, ya1, er1, Vj yi1, pz2, ya2, er2, Vj yi2, pz3, ya3, er3, Vj yi3, iz0_0, kx0_0.1, kx0_0.2, iz0_1, kx0_1.1, kx0_1.2, iz0_2, kx0_2.1, kx0_2.2, iz0_3, kx0_3.1, kx0_3.2, iz1_0, kx1_0.1, kx1_0.2, iz1_1, kx1_1.1, kx1_1.2, iz1_2, kx1_2.1, kx1_2.2, iz1_3, kx1_3.1, kx1_3.2, iz2_0, kx2_0.1, kx2_0.2, iz2_1, kx2_1.1, kx2_1.2, iz2_2, kx2_2.1, kx2_2.2, iz2_3, kx2_3.1, kx2_3.2, iz3_0, kx3_0.1, kx3_0.2, iz3_1, kx3_1.1, kx3_1.2, iz3_2, kx3_2.1, kx3_2.2, iz3_3, kx3_3.1, kx3_3.2]
  have Y : Ecs Xy K mg:=Em (cs:=[("PlaitError", E0), ("NoCrossing", E1), ("TooBig", E2), ("TooMuch", E3)]) y0 (fun p hp=>by
    simp only [List.mem_cons, List.not_mem_nil, or_false] at hp
    rcases hp with rfl | rfl | rfl | rfl
    . exact PySem.W.mg_of X G x0
    . exact PySem.W.mg_of X G x1
    . exact PySem.W.mg_of X G x2
    . exact PySem.W.mg_of X G x3)
  have Z : Blt mg:=⟨N z1, N z2, N z3, N z4, N z5, N z6, N z7, N z8, N z9, N z10, ⟨_, PySem.W.mg_of X G w0, _, rfl⟩⟩
  refine ⟨PySem.W.fnOf "law" "law" (Yq JD) (Ye JD) (Xj JD) .none kV dc pm an cd ct, fun s v=>.of_eq rfl, fun base _ _=>?_⟩
  have g_cell:=Bc (P:=l.prog) (w:=w) (base:=base) D13  Y Z
  have g_mix:=EY (P:=l.prog) (w:=w) (base:=base) D14  Y Z
  have g_row:=Ha (P:=l.prog) (w:=w) (base:=base) D15 g_cell g_mix Y Z
  have g_ring:=CT (P:=l.prog) (w:=w) (base:=base) D21  Y Z
  have g_relaid:=FH (P:=l.prog) (w:=w) (base:=base) D19  Y Z
  have g_ordered:=K1 (P:=l.prog) (w:=w) (base:=base) D18  Y Z
  have g_plain_table:=JF (P:=l.prog) (w:=w) (base:=base) D22 g_relaid g_ordered Y Z
  have g_power:=Dd (P:=l.prog) (w:=w) (base:=base) D23  Y Z
  have g_arcs_of_walk:=Jo (P:=l.prog) (w:=w) (base:=base) D4  Y Z
  have g_arc_count:=Ui (P:=l.prog) (w:=w) (base:=base) D3 g_arcs_of_walk Y Z
  have g_refuse_too_much:=Z8 (P:=l.prog) (w:=w) (base:=base) D10  Y Z
  have g_arcs_of_ways:=Q2 (P:=l.prog) (w:=w) (base:=base) D5 g_arcs_of_walk Y Z
  have g_arcs:=Eb (P:=l.prog) (w:=w) (base:=base) D2 g_arcs_of_walk g_arcs_of_ways Y Z
  have g_spot:=B7 (P:=l.prog) (w:=w) (base:=base) D1  Y Z
  have g_meets:=Da (P:=l.prog) (w:=w) (base:=base) D6 g_arcs g_spot Y Z
  have g_ties:=B4 (P:=l.prog) (w:=w) (base:=base) D7 g_meets Y Z
  have g_all_held:=UM (P:=l.prog) (w:=w) (base:=base) D8  Y Z
  have g_longer_by_arc:=QM (P:=l.prog) (w:=w) (base:=base) D11 g_all_held Y Z
  have g_colourings:=Vx (P:=l.prog) (w:=w) (base:=base) D9 g_arc_count g_refuse_too_much g_ties g_longer_by_arc Y Z
  have g_many:=Ec (P:=l.prog) (w:=w) (base:=base) D12 g_colourings Y Z
  have g_count_told:=VC (P:=l.prog) (w:=w) (base:=base) D24 g_many Y Z
  have g_list_told:=V2 (P:=l.prog) (w:=w) (base:=base) D25 g_colourings Y Z
  have g_is_whole:=UL (P:=l.prog) (w:=w) (base:=base) D16  Y Z
  have g_is_wholes:=Uw (P:=l.prog) (w:=w) (base:=base) D17 g_is_whole Y Z
  have g_lists:=Dz (P:=l.prog) (w:=w) (base:=base) D26 g_power g_is_wholes Y Z
  have g_copy:=Bi (P:=l.prog) (w:=w) (base:=base) D20  Y Z
  exact EH (P:=l.prog) (w:=w) (base:=base) (Z6 (st:=JD) l0 c k) g_row g_ring g_plain_table g_power g_count_told g_list_told g_lists g_copy g_is_whole Y Z
theorem IW {l : PySem.W.OpenLaw} {q : Program} {loose : List Str} {XP : (Str -> Option Value) -> Heap -> Prop} {YP : World -> Heap -> Prop} {d : DefRec} {K : Params -> PySem.W.Frag} (hn : l.most = some 63) (hdf : d.params.defaults = [])
    (hY : ∀ (w : World) (h : Heap), YP w h -> (K w.params).In h)
    (F : ∀ (w : World) (mg : Str -> Option Value) (fa : Addr) (h : Heap), (K w.params).In h -> h.Ns mainGlobals mg -> mg d.name = some (.ref fa) ->
      ∃ fd : FuncData, (∀ (s : Shared) (u : Value), BindsTo s fd ⟨[u], []⟩ [("_law_script", u)]) /\ ∀ base : Heap, (K w.params).In base -> base.Ns mainGlobals mg -> FnOk l.prog w (K w.params) mg base CX0 9 fa fd ["_law_script"] (sp1 (rL Xa) (oF XY) UH (K w.params))) :
    PySem.W.WalkO q loose XP YP l.row.toRowW d [] (fun f vs=>PySem.call f vs):=
  L2.BE (n:=63) (k:=9) (x:="_law_script") (CX:=fun _=>CX0) (sp:=fun w=>sp1 (rL Xa) (oF XY) UH (K w.params)) hn (by decide) hdf ⟨rfl, by decide, by decide⟩ hY F (fun _ _ a ns hl _ hS=>⟨.ref a, ns, true, rfl, ⟨a, _, rfl, hS, US ns⟩, Dv ns hl, fun v C H' w m ho=>ho.2⟩) fun _ _ _ _ _ z=>z
end My
open PySem PySem.W PyProof.Rows
set_option maxRecDepth 100000 in
set_option maxHeartbeats 0 in
theorem PySem.Challenge.cw_plait_k53_how_many_holds : PySem.Challenge.rw_plait_k53_how_many.Holds := by
  w_on; o_law; k_head; (case hw => w_witness2)
  k_fill
  refine My.IW (l := PySem.Challenge.rw_plait_k53_how_many) rfl rfl (fun w h Y => PySem.W.kIn_of Y) ?F
  case F =>
    intro w mg fa h KX G hmg
    refine' My.E7 KX G hmg (My.Ga KX G (by intros; rfl) ?a1 ?l1 ?c1 ?k1) (My.CL KX G (by intros; rfl) ?a2 ?l2 ?c2 ?k2) (My.CL KX G (by intros; rfl) ?a3 ?l3 ?c3 ?k3) (My.CL KX G (by intros; rfl) ?a4 ?l4 ?c4 ?k4) (My.Ga KX G (by intros; rfl) ?a5 ?l5 ?c5 ?k5) (My.CL KX G (by intros; rfl) ?a6 ?l6 ?c6 ?k6) (My.CL KX G (by intros; rfl) ?a7 ?l7 ?c7 ?k7) (My.EI KX G (by intros; rfl) ?a8 ?l8 ?c8 ?k8) (My.Ga KX G (by intros; rfl) ?a9 ?l9 ?c9 ?k9) (My.Ga KX G (by intros; rfl) ?a10 ?l10 ?c10 ?k10) (My.EI KX G (by intros; rfl) ?a11 ?l11 ?c11 ?k11) (My.Ga KX G (by intros; rfl) ?a12 ?l12 ?c12 ?k12) (My.Ga KX G (by intros; rfl) ?a13 ?l13 ?c13 ?k13) (My.Ga KX G (by intros; rfl) ?a14 ?l14 ?c14 ?k14) (My.EI KX G (by intros; rfl) ?a15 ?l15 ?c15 ?k15) (My.CL KX G (by intros; rfl) ?a16 ?l16 ?c16 ?k16) (My.CL KX G (by intros; rfl) ?a17 ?l17 ?c17 ?k17) (My.Ga KX G (by intros; rfl) ?a18 ?l18 ?c18 ?k18) (My.Ga KX G (by intros; rfl) ?a19 ?l19 ?c19 ?k19) (My.CL KX G (by intros; rfl) ?a20 ?l20 ?c20 ?k20) (My.EI KX G (by intros; rfl) ?a21 ?l21 ?c21 ?k21) (My.EI KX G (by intros; rfl) ?a22 ?l22 ?c22 ?k22) (My.Ga KX G (by intros; rfl) ?a23 ?l23 ?c23 ?k23) (My.Ga KX G (by intros; rfl) ?a24 ?l24 ?c24 ?k24) (My.Ga KX G (by intros; rfl) ?a25 ?l25 ?c25 ?k25) (My.IR KX G (by intros; rfl) ?a26 ?l26 ?c26 ?k26) ?a27 ?l27 ?c27 ?k27 ?z1 ?z2 ?z3 ?z4 ?z5 ?z6 ?z7 ?z8 ?z9 ?z10 ?w0 ?x0 ?x1 ?x2 ?x3 ?yg ?yt ?ya0 ?yb0 ?yc0 ?yd0 ?ye0 ?yf0 ?yh0 ?yi0 ?yj0 ?yk0 ?ya1 ?yb1 ?yc1 ?yd1 ?ye1 ?yf1 ?yh1 ?yi1 ?yj1 ?yk1 ?ya2 ?yb2 ?yc2 ?yd2 ?ye2 ?yf2 ?yh2 ?yi2 ?yj2 ?yk2 ?ya3 ?yb3 ?yc3 ?yd3 ?ye3 ?yf3 ?yh3 ?yi3 ?yj3 ?yk3 ?yl0_0 ?yl0_1 ?yl0_2 ?yl0_3 ?yl1_0 ?yl1_1 ?yl1_2 ?yl1_3 ?yl2_0 ?yl2_1 ?yl2_2 ?yl2_3 ?yl3_0 ?yl3_1 ?yl3_2 ?yl3_3
    (case a1 => k_is); (case l1 => k_is); (case c1 => k_is); (case k1 => k_is); (case a2 => k_is); (case l2 => k_is); (case c2 => k_is); (case k2 => k_is); (case a3 => k_is); (case l3 => k_is); (case c3 => k_is); (case k3 => k_is); (case a4 => k_is); (case l4 => k_is); (case c4 => k_is); (case k4 => k_is); (case a5 => k_is); (case l5 => k_is); (case c5 => k_is); (case k5 => k_is); (case a6 => k_is); (case l6 => k_is); (case c6 => k_is); (case k6 => k_is); (case a7 => k_is); (case l7 => k_is); (case c7 => k_is); (case k7 => k_is); (case a8 => k_is); (case l8 => k_is); (case c8 => k_is); (case k8 => k_is); (case a9 => k_is); (case l9 => k_is); (case c9 => k_is); (case k9 => k_is); (case a10 => k_is); (case l10 => k_is); (case c10 => k_is); (case k10 => k_is); (case a11 => k_is); (case l11 => k_is); (case c11 => k_is); (case k11 => k_is); (case a12 => k_is); (case l12 => k_is); (case c12 => k_is); (case k12 => k_is); (case a13 => k_is); (case l13 => k_is); (case c13 => k_is); (case k13 => k_is); (case a14 => k_is); (case l14 => k_is); (case c14 => k_is); (case k14 => k_is); (case a15 => k_is); (case l15 => k_is); (case c15 => k_is); (case k15 => k_is); (case a16 => k_is); (case l16 => k_is); (case c16 => k_is); (case k16 => k_is); (case a17 => k_is); (case l17 => k_is); (case c17 => k_is); (case k17 => k_is); (case a18 => k_is); (case l18 => k_is); (case c18 => k_is); (case k18 => k_is); (case a19 => k_is); (case l19 => k_is); (case c19 => k_is); (case k19 => k_is); (case a20 => k_is); (case l20 => k_is); (case c20 => k_is); (case k20 => k_is); (case a21 => k_is); (case l21 => k_is); (case c21 => k_is); (case k21 => k_is); (case a22 => k_is); (case l22 => k_is); (case c22 => k_is); (case k22 => k_is); (case a23 => k_is); (case l23 => k_is); (case c23 => k_is); (case k23 => k_is); (case a24 => k_is); (case l24 => k_is); (case c24 => k_is); (case k24 => k_is); (case a25 => k_is); (case l25 => k_is); (case c25 => k_is); (case k25 => k_is); (case a26 => k_is); (case l26 => k_is); (case c26 => k_is); (case k26 => k_is); (case a27 => k_is); (case l27 => k_is); (case c27 => k_is); (case k27 => k_is); (case z1 => k_is); (case z2 => k_is); (case z3 => k_is); (case z4 => k_is); (case z5 => k_is); (case z6 => k_is); (case z7 => k_is); (case z8 => k_is); (case z9 => k_is); (case z10 => k_is); (case w0 => k_is); (case x0 => k_is); (case x1 => k_is); (case x2 => k_is); (case x3 => k_is); (case yg => k_is); (case yt => k_is); (case ya0 => k_exc); (case yb0 => k_is); (case yc0 => k_is); (case yd0 => k_is); (case ye0 => k_is); (case yf0 => k_is); (case yh0 => k_is); (case yi0 => k_is); (case yj0 => k_is); (case yk0 => k_is); (case ya1 => k_exc); (case yb1 => k_is); (case yc1 => k_is); (case yd1 => k_is); (case ye1 => k_is); (case yf1 => k_is); (case yh1 => k_is); (case yi1 => k_is); (case yj1 => k_is); (case yk1 => k_is); (case ya2 => k_exc); (case yb2 => k_is); (case yc2 => k_is); (case yd2 => k_is); (case ye2 => k_is); (case yf2 => k_is); (case yh2 => k_is); (case yi2 => k_is); (case yj2 => k_is); (case yk2 => k_is); (case ya3 => k_exc); (case yb3 => k_is); (case yc3 => k_is); (case yd3 => k_is); (case ye3 => k_is); (case yf3 => k_is); (case yh3 => k_is); (case yi3 => k_is); (case yj3 => k_is); (case yk3 => k_is); (case yl0_0 => k_is); (case yl0_1 => k_is); (case yl0_2 => k_is); (case yl0_3 => k_is); (case yl1_0 => k_is); (case yl1_1 => k_is); (case yl1_2 => k_is); (case yl1_3 => k_is); (case yl2_0 => k_is); (case yl2_1 => k_is); (case yl2_2 => k_is); (case yl2_3 => k_is); (case yl3_0 => k_is); (case yl3_1 => k_is); (case yl3_2 => k_is); (case yl3_3 => k_is)
