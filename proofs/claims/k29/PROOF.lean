import PyProof.Rows.All
import Wide.All
import OpenK.AllK
import Wide.FinOn
import Lean
import PyProof.EqAt
import PyProof.EqKinds
import PyProof.TupleCall
import PySem.Challenge.RW_plait_k29_whole_made_tables
set_option Elab.async false
set_option linter.all false
set_option maxRecDepth 100000
set_option maxHeartbeats 4000000
namespace L2
open PySem PySem.Spec PyProof.Rows
noncomputable abbrev Key:=Sum Int Str
noncomputable def VD : Key -> Value -> Bool
  | .inl k, v=>Value.isInt k v
  | .inr x, v=>Value.isStrOf x v
noncomputable def Mv (w : World) : Key -> Int
  | .inl k=>hashInt k
  | .inr x=>hashStr w x
theorem Yj : ∀ {k : Key} {v : Value}, VD k v = true -> (∃ i t, k = Sum.inl i /\ v = Value.int i t) ∨ (∃ x t, k = Sum.inr x /\ v = Value.str x t)
  | .inl i, v, h=>by
    obtain ⟨t, e⟩:=Value.isInt_shape (k:=i) (v:=v) h
    exact .inl ⟨i, t, rfl, e⟩
  | .inr x, v, h=>by
    obtain ⟨t, e⟩:=Value.isStrOf_shape (x:=x) (v:=v) h
    exact .inr ⟨x, t, rfl, e⟩
theorem CQ (i : Int) (t : Tok) : VD (.inl i) (.int i t) = true:=by simp [VD, Value.isInt]
theorem C9 (x : Str) (t : Tok) : VD (.inr x) (.str x t) = true:=by simp [VD, Value.isStrOf]
theorem IV (a b : Int) : decide ((Sum.inl a : Key) = Sum.inl b) = (a == b):=by
  by_cases e : a = b
  . subst e; simp
  . have h : ¬ (Sum.inl a : Key) = Sum.inl b := λq => e (Sum.inl.inj q)
    rw [decide_eq_false h]
    exact (beq_eq_false_iff_ne.mpr e).symm
theorem Lw (a b : Str) : decide ((Sum.inr a : Key) = Sum.inr b) = decide (a = b):=by
  by_cases e : a = b
  . subst e; simp
  . have h : ¬ (Sum.inr a : Key) = Sum.inr b := λq => e (Sum.inr.inj q)
    rw [decide_eq_false h, decide_eq_false e]
theorem Io (a : Int) (b : Str) : decide ((Sum.inl a : Key) = Sum.inr b) = false:=decide_eq_false (λq=>nomatch q)
theorem Iy (a : Str) (b : Int) : decide ((Sum.inr a : Key) = Sum.inl b) = false:=decide_eq_false (λq=>nomatch q)
noncomputable def Ys (prog : Program) (w : World) : PySem.KeyKind prog w Key where
  is:=VD
  hash:=Mv w
  inj:=λv a b ha hb=>by
    rcases Yj ha with ⟨i, t, rfl, rfl⟩ | ⟨x, t, rfl, rfl⟩
    . rcases Yj hb with ⟨j, u, rfl, e⟩ | ⟨y, u, rfl, e⟩
      . injection e with e1 _; rw [e1]
      . exact nomatch e
    . rcases Yj hb with ⟨j, u, rfl, e⟩ | ⟨y, u, rfl, e⟩
      . exact nomatch e
      . injection e with e1 _; rw [e1]
  byValue := λk v h => by
    rcases Yj h with ⟨i, t, rfl, rfl⟩ | ⟨x, t, rfl, rfl⟩ <;> rfl
  pyHash:=λhv h=>by
    rcases Yj hv with ⟨i, t, rfl, rfl⟩ | ⟨x, t, rfl, rfl⟩
    . exact wpAny_pyHash_int h
    . exact wpAny_pyHash_str h
  eqBool:=λhu hv h=>by
    rcases Yj hu with ⟨i, t, rfl, rfl⟩ | ⟨x, t, rfl, rfl⟩
    . rcases Yj hv with ⟨j, u, rfl, rfl⟩ | ⟨y, u, rfl, rfl⟩
      . rw [IV] at h; exact wpAny_eqBool_int h
      . rw [Io] at h; exact SeqAt.EqAt.int_str i t y u _ _ _ _ h
    . rcases Yj hv with ⟨j, u, rfl, rfl⟩ | ⟨y, u, rfl, rfl⟩
      . rw [Iy] at h; exact SeqAt.EqAt.str_int x t j u _ _ _ _ h
      . rw [Lw] at h; exact wpAny_eqBool_str h
  «strs»:=λk x t v h=>by
    rcases Yj h with ⟨i, u, rfl, e⟩ | ⟨y, u, rfl, e⟩
    . exact nomatch e
    . injection e with e1 _
      subst e1
      cases v <;> rfl
theorem K5 (prog : Program) (w : World) (i : Int) (t : Tok) : (Ys prog w).is (.inl i) (.int i t) = true:=CQ i t
theorem Gb (prog : Program) (w : World) (x : Str) (t : Tok) : (Ys prog w).is (.inr x) (.str x t) = true:=C9 x t
inductive V where
  | non | bl (b : Bool) | int (i : Int) | str (x : Str) | byt (b : Array UInt8) | flt (b : UInt64) | ref (a : Addr) | ty (n : String)
  deriving DecidableEq
noncomputable def Yk : V -> Value -> Prop
  | .non, u=>u = Value.none
  | .bl b, u=>u = Value.bool b
  | .int i, u=>∃ t, u = Value.int i t
  | .str x, u=>∃ t, u = Value.str x t
  | .byt b, u=>∃ t, u = Value.bytes b t
  | .flt b, u=>∃ t, u = Value.float b t
  | .ref a, u=>u = Value.ref a
  | .ty n, u=>u = Value.type n
noncomputable abbrev Yd : List V -> List Value -> Prop:=Paired Yk
theorem Yd.length {xs : List V} {us : List Value} (r : Yd xs us) : xs.length = us.length:=Paired.length r
theorem Yd.get : ∀ {xs : List V} {us : List Value} {i : Nat} {x : V}, Yd xs us -> xs[i]? = some x -> ∃ u, us[i]? = some u /\ Yk x u
  | _, _, _, _, .nil, e=>by simp at e
  | _, _, 0, _, .cons r _, e=>by simp at e; subst e; exact ⟨_, rfl, r⟩
  | _, _, i + 1, x, .cons _ t, e=>by
    obtain ⟨u, h1, h2⟩:=Yd.get (i:=i) (x:=x) t (by simpa using e)
    exact ⟨u, by simpa using h1, h2⟩
theorem Yd.set {x : V} {u : Value} (r : Yk x u) : ∀ {xs : List V} {us : List Value} (i : Nat), Yd xs us -> Yd (xs.set i x) (us.set i u)
  | _, _, _, .nil=>.nil
  | _, _, 0, .cons _ t=>.cons r t
  | _, _, i + 1, .cons q t=>.cons q (Yd.set r i t)
theorem Yd.append : ∀ {xs ys : List V} {us ws : List Value}, Yd xs us -> Yd ys ws -> Yd (xs ++ ys) (us ++ ws):=λp s=>by
  induction p with
  | nil=>exact s
  | cons r _ ih=>exact .cons r ih
theorem Yd.take : ∀ {xs : List V} {us : List Value} (n : Nat), Yd xs us -> Yd (xs.take n) (us.take n)
  | _, _, 0, _=>.nil
  | _, _, _ + 1, .nil=>.nil
  | _, _, n + 1, .cons r t=>.cons r (Yd.take n t)
theorem Yd.drop : ∀ {xs : List V} {us : List Value} (n : Nat), Yd xs us -> Yd (xs.drop n) (us.drop n)
  | _, _, 0, r=>r
  | _, _, _ + 1, .nil=>.nil
  | _, _, n + 1, .cons _ t=>Yd.drop n t
noncomputable def FG : Option V -> Option Value -> Prop
  | some v, some u=>Yk v u
  | none, none=>True
  | _, _=>False
noncomputable def KV {κ : Type} : List (κ × V) -> List (κ × Value) -> Prop:=Paired λ(p : κ × V) (q : κ × Value)=>p.1 = q.1 /\ Yk p.2 q.2
noncomputable def kV : Key -> V
  | .inl i=>.int i
  | .inr x=>.str x
inductive HO where
  /-- a list -/
  | lst (xs : List V)
  /-- a tuple (never changes) -/
  | tup (xs : List V)
  /-- a dict whose keys are ints and texts; one whose keys are tuples of ints and texts (the empty one is both) -/
  | dK (kvs : List (Key × V)) | dT (kvs : List (List Key × V))
  /-- a set of ints: its members, its size -/
  | set (S : Int -> Bool) (n : Nat)
  /-- an instance of the class at C, its dict at dx, its attributes -/
  | ins (C dx : Addr) (fs : List (Str × V))
  /-- the dict of the instance at x -/
  | own (x : Addr)
  /-- the dict of an exception -/
  | xd (fs : List (Str × V))
  /-- a bound method, f of x -/
  | met (f x : Addr)
  /-- a range object lo, lo + 1, .. below hi -/
  | rng (lo hi : Int)
  /-- a thing that is known to the object (the script; a dict while a loop walks it): read, never written while it is so -/
  | frz (o : Obj) (u : HO)
  /-- a code object's table -/
  | tbl (ps : Array Value)
  /-- any other thing, by what is true of its one object (a def of one's own: SetO a S n:=HO.ext λh=>..) -/
  | ext (φ : Heap -> Prop)
noncomputable abbrev Hp:=Addr -> Option HO
noncomputable def upd (H : Hp) (a : Addr) (o : HO) : Hp:=λb=>if b = a then some o else H b
theorem X8 {H : Hp} {a : Addr} {o : HO} : upd H a o a = some o:=by unfold upd; rw [if_pos rfl]
theorem Xw {H : Hp} {a b : Addr} {o : HO} (h : b ≠ a) : upd H a o b = H b:=by unfold upd; rw [if_neg h]
theorem Dk {H : Hp} {a b : Addr} {o u : HO} (h : H a = some o) (h' : H b = some u) (d : o ≠ u) : a ≠ b:=by
  intro e; subst e; rw [h] at h'; exact d (Option.some.inj h')
theorem XY {H : Hp} {a b : Addr} {o : HO} (h : H a = some o) (h' : H b = none) : a ≠ b:=by
  intro e; subst e; rw [h] at h'; cases h'
section
variable (P : Program) (w : World)
noncomputable def YC (H : Hp) (h : Heap) (a : Addr) : HO -> Prop
  | .lst xs=>xs.length <= sizeLine /\ ∃ (its : List Value) (n : Nat), Yd xs its /\ h.get? a = some { cls:=.type "list", data:=.seq its.toArray n }
  | .tup xs=>xs.length <= sizeLine /\ ∃ its : List Value, Yd xs its /\ IsTup h a its.toArray
  | .dK kvs=>kvs.length <= sizeLine /\ (a == sysModules) = false /\ ∃ vs, KV kvs vs /\ h.DictOf (Ys P w) a vs
  | .dT kvs=>kvs.length <= sizeLine /\ (a == sysModules) = false /\ ∃ xs : List (List Key × Addr × Value),
      Paired (λ(p : List Key × V) (q : List Key × Addr × Value)=>p.1 = q.1 /\ H q.2.1 = some (.tup (p.1.map kV)) /\ Yk p.2 q.2.2) kvs xs /\
      ∃ o es ep, h.get? a = some o /\ o.ExactDict /\ o.data = .dict es ep /\ es.toList = xs.map (entryOfKey (tupleKind (Ys P w))) /\ (xs.map (·.1)).Nodup
  | .set S n=>h.SetOf (intKind P w) a S n
  | .ins C dx fs=>H dx = some (.own a) /\ fs.length <= 1000 /\ dx ≠ a /\ h.get? a = some (PySem.W.instObj C dx) /\
      ∃ mA, h.Ns1 dx mA /\ (∀ f, FG (fs.lookup f) (mA f)) /\ PySem.Within mA (fs.map (·.1))
  | .own _=>∃ o, h.get? a = some o
  | .xd fs=>∃ mA, h.Ns1 a mA /\ ∀ f, FG (fs.lookup f) (mA f)
  | .rng lo hi=>∃ t u v, h.get? a = some { cls:=.type "range", data:=.fields #[.int lo t, .int hi u, .int 1 v] }
  | .frz o u=>h.get? a = some o /\ YC H h a u
  | .tbl ps=>h.get? a = some { cls:=.none, data:=.fields ps }
  | .met f x=>h.get? a = some (PySem.W.methodObj (.ref f) (.ref x))
  | .ext φ=>φ h /\ (∃ o, h.get? a = some o) /\ ∀ h1 h2 : Heap, φ h1 -> (∀ o, h1.get? a = some o -> h2.get? a = some o) -> φ h2
noncomputable def HOk (H : Hp) (h : Heap) : Prop:=∀ a o, H a = some o -> YC P w H h a o
end
section
variable {P : Program} {w : World} {H H' : Hp} {h h' : Heap} {a : Addr} {o : HO}
theorem YC.lt (x : YC P w H h a o) : a < h.objs.size:=by
  cases o with
  | lst xs=>obtain ⟨_, _, _, _, e⟩:=x; exact Heap.lt_size e
  | tup xs=>obtain ⟨_, _, _, p⟩:=x; exact p.lt
  | dK kvs=>obtain ⟨_, _, _, _, o, _, _, e, _⟩:=x; exact Heap.lt_size e
  | dT kvs=>obtain ⟨_, _, _, _, o, _, _, e, _⟩:=x; exact Heap.lt_size e
  | set S n=>obtain ⟨o, _, _, _, e, _⟩:=x; exact Heap.lt_size e
  | ins C dx fs=>obtain ⟨_, _, _, e, _⟩:=x; exact Heap.lt_size e
  | own y=>obtain ⟨_, e⟩:=x; exact Heap.lt_size e
  | xd fs=>obtain ⟨_, ⟨_, _, _, e, _⟩, _⟩:=x; exact Heap.lt_size e
  | rng lo hi=>obtain ⟨_, _, _, e⟩:=x; exact Heap.lt_size e
  | frz ob u=>obtain ⟨e, _⟩:=x; exact Heap.lt_size e
  | tbl ps=>exact Heap.lt_size (show h.get? a = some _ from x)
  | met f y=>exact Heap.lt_size (show h.get? a = some _ from x)
  | ext φ=>obtain ⟨_, ⟨_, e⟩, _⟩:=x; exact Heap.lt_size e
theorem Paired.mapP {α β : Type} {F G : α -> β -> Prop} : ∀ {l₁ : List α} {l₂ : List β}, Paired F l₁ l₂ -> (∀ a b, F a b -> G a b) -> Paired G l₁ l₂:=λp f=>by
  induction p with
  | nil=>exact .nil
  | cons r _ ih=>exact .cons (f _ _ r) ih
theorem YC.stay (x : YC P w H h a o) (k : ∀ b u, (b = a ∨ H b = some (.own a)) -> h.get? b = some u -> h'.get? b = some u)
    (ho : ∀ b, H b = some (.own a) -> H' b = some (.own a)) (ht : ∀ b xs, H b = some (.tup xs) -> H' b = some (.tup xs)) : YC P w H' h' a o:=by
  induction o with
  | lst xs=>obtain ⟨z, its, n, r, e⟩:=x; exact ⟨z, its, n, r, k _ _ (.inl rfl) e⟩
  | tup xs=>obtain ⟨z, its, r, ob, e, c⟩:=x; exact ⟨z, its, r, ob, k _ _ (.inl rfl) e, c⟩
  | dK kvs=>obtain ⟨z, y, vs, r, ob, es, ep, e, c⟩:=x; exact ⟨z, y, vs, r, ob, es, ep, k _ _ (.inl rfl) e, c⟩
  | dT kvs=>
    obtain ⟨z, y, xs, r, ob, es, ep, e, c⟩:=x
    exact ⟨z, y, xs, Paired.mapP r λp q z=>⟨z.1, ht _ _ z.2.1, z.2.2⟩, ob, es, ep, k _ _ (.inl rfl) e, c⟩
  | set S n=>obtain ⟨ob, es, ep, t, e, c⟩:=x; exact ⟨ob, es, ep, t, k _ _ (.inl rfl) e, c⟩
  | ins C dx fs=>
    obtain ⟨d, z, ne, e, mA, ⟨od, es, ep, e2, c⟩, r⟩:=x
    exact ⟨ho _ d, z, ne, k _ _ (.inl rfl) e, mA, ⟨od, es, ep, k _ _ (.inr d) e2, c⟩, r⟩
  | own y=>obtain ⟨ob, e⟩:=x; exact ⟨ob, k _ _ (.inl rfl) e⟩
  | xd fs=>obtain ⟨mA, ⟨od, es, ep, e, c⟩, r⟩:=x; exact ⟨mA, ⟨od, es, ep, k _ _ (.inl rfl) e, c⟩, r⟩
  | rng lo hi=>obtain ⟨t, u, v, e⟩:=x; exact ⟨t, u, v, k _ _ (.inl rfl) e⟩
  | frz ob u ih=>obtain ⟨e, q⟩:=x; exact ⟨k _ _ (.inl rfl) e, ih q⟩
  | tbl ps=>
    have e : h.get? a = some { cls:=.none, data:=.fields ps }:=x
    show h'.get? a = some { cls:=.none, data:=.fields ps }
    exact k a _ (.inl rfl) e
  | met f y=>
    have e : h.get? a = some (PySem.W.methodObj (.ref f) (.ref y)):=x
    show h'.get? a = some (PySem.W.methodObj (.ref f) (.ref y))
    exact k a _ (.inl rfl) e
  | ext φ=>obtain ⟨p, ⟨o, e⟩, st⟩:=x; exact ⟨st _ _ p λo q=>k _ _ (.inl rfl) q, ⟨o, k _ _ (.inl rfl) e⟩, st⟩
theorem HOk.lt (x : HOk P w H h) (e : H a = some o) : a < h.objs.size:=(x a o e).lt
theorem HOk.fresh (x : HOk P w H h) (e : h.objs.size <= a) : H a = none:=by
  cases q : H a with
  | none=>rfl
  | some u=>exact absurd (Nat.lt_of_lt_of_le (x.lt q) e) (Nat.lt_irrefl _)
theorem HOk.kept (x : HOk P w H h) (k : ∀ b u, h.get? b = some u -> h'.get? b = some u) : HOk P w H h':=λa o e=>
  (x a o e).stay (λb u _ q=>k b u q) (λ_ q=>q) λ_ _ q=>q
theorem HOk.laid (x : HOk P w H h) (k : ∀ b u, h.get? b = some u -> h'.get? b = some u) (hp : h.objs.size <= a) (new : YC P w (upd H a o) h' a o) : HOk P w (upd H a o) h':=λb u e=>by
  have hn:=x.fresh hp
  by_cases hb : b = a
  . subst hb; rw [X8] at e; cases e; exact new
  . rw [Xw hb] at e
    exact (x b u e).stay (λc v _ q=>k c v q) (λc q=>by rw [Xw (XY q hn)]; exact q) λc xs q=>by rw [Xw (XY q hn)]; exact q
end
noncomputable def Rd (H : Hp) (a : Addr) (u : HO) : Prop:=H a = some u ∨ ∃ o, H a = some (.frz o u)
theorem Rd.of {H : Hp} {a : Addr} {u : HO} (h : H a = some u) : Rd H a u:=.inl h
theorem Rd.ok {P : Program} {w : World} {H : Hp} {h : Heap} {a : Addr} {u : HO} (r : Rd H a u) (x : HOk P w H h) : YC P w H h a u:=by
  rcases r with r | ⟨o, r⟩
  . exact x a u r
  . obtain ⟨_, q⟩ := x a _ r
    exact q
noncomputable def Mut : Option HO -> Prop
  | some (.lst _)=>True
  | some (.dK _)=>True
  | some (.dT _)=>True
  | some (.set _ _)=>True
  | some (.ins _ _ _)=>True
  | some (.ext _)=>True
  | _=>False
section
variable {P : Program} {w : World} {H : Hp} {h h' : Heap} {x e : Addr} {o' : HO}
theorem HOk.write (ok : HOk P w H h) (mu : Mut (H x)) (he : e = x ∨ H e = some (.own x)) (k : ∀ b u, b ≠ e -> h.get? b = some u -> h'.get? b = some u) (heo : ∃ u, h'.get? e = some u)
    (new : YC P w (upd H x o') h' x o') : HOk P w (upd H x o') h':=λb u q=>by
  have nown : ∀ c y, H c = some (.own y) -> c ≠ x:=λc y r z=>by subst z; rw [r] at mu; exact mu
  have ntup : ∀ c xs, H c = some (.tup xs) -> c ≠ x:=λc xs r z=>by subst z; rw [r] at mu; exact mu
  by_cases hb : b = x
  . subst hb; rw [X8] at q; cases q; exact new
  . rw [Xw hb] at q
    by_cases hbe : b = e
    . have q' : H b = some (.own x):=by
        rcases he with z | z
        . exact absurd (hbe.trans z) hb
        . rw [hbe]; exact z
      rw [q] at q'; cases q'
      obtain ⟨v, hv⟩:=heo
      exact ⟨v, by rw [hbe]; exact hv⟩
    . refine (ok b u q).stay (λc v hc r => k c v ?_ r) (λc r => by rw [Xw (nown c b r)]; exact r) λc xs r => by rw [Xw (ntup c xs r)]; exact r
      rcases hc with rfl | hc
      . exact hbe
      . rintro rfl
        rcases he with z | z
        . exact nown c b hc z
        . rw [hc] at z; cases z; exact hb rfl
end
structure Un (fs ex : List Addr) (H H' : Hp) (h h' : Heap) : Prop where
  keep : ∀ b o, h.get? b = some o -> H b = none -> b ∉ fs -> b ∉ ex -> h'.get? b = some o
  slot : ∀ b o, h.get? b = some o -> H b = none -> b ∈ fs -> b ∉ ex -> ∃ sl, h'.get? b = some { o with slots:=sl }
  free : ∀ b o, h.get? b = some o -> H b = none -> b ∉ ex -> H' b = none
  there : ∀ b o, h.get? b = some o -> b ∉ ex -> ∃ o', h'.get? b = some o'
  tups : ∀ b xs, H b = some (.tup xs) -> H' b = some (.tup xs)
  frzs : ∀ b o u, H b = some (.frz o u) -> H' b = some (.frz o u)
  tbls : ∀ b ps, H b = some (.tbl ps) -> ∃ more, H' b = some (.tbl (ps ++ more))
section
variable {fs fs' ex ex' : List Addr} {H H1 H2 : Hp} {h h1 h2 h' : Heap} {a x e : Addr} {o : HO}
theorem Un.any (u : Un fs ex H H1 h h1) {b : Addr} {ob : Obj} (q : h.get? b = some ob) (n : H b = none) (hx : b ∉ ex) : ∃ sl, h1.get? b = some { ob with slots:=sl }:=by
  by_cases hb : b ∈ fs
  . exact u.slot b ob q n hb hx
  . exact ⟨ob.slots, u.keep b ob q n hb hx⟩
theorem Un.trans (a : Un fs ex H H1 h h1) (b : Un fs ex H1 H2 h1 h2) : Un fs ex H H2 h h2 where
  keep:=λc ob q n hc hx=>b.keep c ob (a.keep c ob q n hc hx) (a.free c ob q n hx) hc hx
  slot:=λc ob q n hc hx=>by
    obtain ⟨sl, e1⟩:=a.slot c ob q n hc hx
    obtain ⟨sl', e2⟩:=b.slot c _ e1 (a.free c ob q n hx) hc hx
    exact ⟨sl', e2⟩
  free:=λc ob q n hx=>by
    obtain ⟨o', e1⟩:=a.there c ob q hx
    exact b.free c o' e1 (a.free c ob q n hx) hx
  there:=λc ob q hx=>by
    obtain ⟨o', e1⟩:=a.there c ob q hx
    exact b.there c o' e1 hx
  tups:=λc xs q=>b.tups c xs (a.tups c xs q)
  frzs:=λc ob xs q=>b.frzs c ob xs (a.frzs c ob xs q)
  tbls:=λc ps q=>by
    obtain ⟨m1, e1⟩:=a.tbls c ps q
    obtain ⟨m2, e2⟩:=b.tbls c _ e1
    exact ⟨m1 ++ m2, by rw [e2, Array.append_assoc]⟩
theorem Un.kept (k : ∀ b u, h.get? b = some u -> h'.get? b = some u) : Un fs ex H H h h':=
  ⟨λb ob q _ _ _=>k b ob q, λb ob q _ _ _=>⟨ob.slots, k b ob q⟩, λ_ _ _ n _=>n, λb ob q _=>⟨ob, k b ob q⟩, λ_ _ q=>q, λ_ _ _ q=>q, λ_ ps q=>⟨#[], by rw [q]; simp⟩⟩
theorem Un.refl : Un fs ex H H h h:=Un.kept λ_ _ q=>q
theorem Un.laid (k : ∀ b u, h.get? b = some u -> h'.get? b = some u) (hp : h.objs.size <= a) (hn : H a = none) : Un fs ex H (upd H a o) h h' where
  keep:=λb u q _ _ _=>k b u q
  slot:=λb u q _ _ _=>⟨u.slots, k b u q⟩
  free:=λb u q n _=>by rw [Xw (Nat.ne_of_lt (Nat.lt_of_lt_of_le (Heap.lt_size q) hp))]; exact n
  there:=λb u q _=>⟨u, k b u q⟩
  tups:=λb xs q=>by rw [Xw (XY q hn)]; exact q
  frzs:=λb u xs q=>by rw [Xw (XY q hn)]; exact q
  tbls:=λb ps q=>⟨#[], by rw [Xw (XY q hn), q]; simp⟩
theorem Un.write (mu : Mut (H x)) (he : e = x ∨ H e = some (.own x)) (k : ∀ b u, b ≠ e -> h.get? b = some u -> h'.get? b = some u) (heo : ∃ u, h'.get? e = some u) : Un fs ex H (upd H x o) h h':=by
  have hx : ∀ b, H b = none -> b ≠ x:=λb n z=>by subst z; rw [n] at mu; exact mu
  have hb : ∀ b, H b = none -> b ≠ e:=λb n z=>by
    subst z
    rcases he with r | r
    . exact hx b n r
    . rw [n] at r; cases r
  have hm : ∀ b u, H b = some u -> ¬ Mut (some u) -> b ≠ x:=λb u q nm z=>by subst z; rw [q] at mu; exact nm mu
  refine ⟨λb u q n _ _=>k b u (hb b n) q, λb u q n _ _=>⟨u.slots, k b u (hb b n) q⟩, λb u q n _=>by rw [Xw (hx b n)]; exact n, λb u q _=>?_,
    λb xs q=>by rw [Xw (hm b _ q λz=>z)]; exact q, λb u xs q=>by rw [Xw (hm b _ q λz=>z)]; exact q, λb ps q=>⟨#[], by rw [Xw (hm b _ q λz=>z), q]; simp⟩⟩
  by_cases hbe : b = e
  . subst hbe; exact heo
  . exact ⟨u, k b u hbe q⟩
theorem Un.mono (u : Un fs ex H H1 h h1) (hs : ∀ b ∈ fs, b ∈ fs') (hx : ∀ b ∈ ex, b ∈ ex') : Un fs' ex' H H1 h h1:=
  ⟨λb ob q n hb he=>u.keep b ob q n (λz=>hb (hs b z)) λz=>he (hx b z), λ_ _ q n _ he=>u.any q n λz=>he (hx _ z), λb ob q n he=>u.free b ob q n λz=>he (hx b z), λb ob q he=>u.there b ob q λz=>he (hx b z), u.tups, u.frzs, u.tbls⟩
end
noncomputable def trk (h : Heap) (H : Hp) : List Addr:=(List.range h.objs.size).filter λa=>(H a).isSome
noncomputable def Be (h : Heap) (H : Hp) : Heap:=PySem.W.hideAll h (trk h H)
theorem FK (h : Heap) (H : Hp) : (Be h H).objs.size = h.objs.size:=PySem.W.hideAll_size _ _
theorem GW {h : Heap} {H : Hp} {b : Addr} {o : Obj} (e : h.get? b = some o) (n : H b = none) : (Be h H).get? b = some o:=
  PySem.W.hideAll_get _ e λhm=>by
    have q : (H b).isSome = true:=(List.mem_filter.mp hm).2
    rw [n] at q; simp at q
theorem EY {h : Heap} {H : Hp} {b : Addr} {o : Obj} (e : (Be h H).get? b = some o) : h.get? b = some o /\ H b = none:=by
  have e' : h.get? b = some o:=PySem.W.of_hideAll (trk h H) e
  refine ⟨e', ?_⟩
  cases q : H b with
  | none=>rfl
  | some x=>
    have hm : b ∈ trk h H:=List.mem_filter.mpr ⟨List.mem_range.mpr (Heap.lt_size e'), by simp [q]⟩
    have z : (Be h H).get? b = none:=PySem.W.hideAll_none (trk h H) hm
    rw [z] at e; cases e
noncomputable def HI (g h : Heap) (L : Addr) : List (Addr × Obj):=(List.range h.objs.size).filterMap λa=>if a = L ∨ (g.get? a).isSome = true then none else (h.get? a).map λo=>(a, o)
noncomputable def ZN (g h : Heap) (L d : Addr) : List (Addr × Obj):=(HI g h L).filter λp=>decide (p.1 ≠ d)
structure Mod (K : PySem.W.Frag) (mg : Str -> Option Value) (base : Heap) : Prop where
  kin : K.In base
  glob : base.Ns mainGlobals mg
  blt : ∃ mb, base.Ns builtinsNs mb /\ ∀ x : Str, x ≠ "__name__" -> mb x = bootBuiltins x
  nolimit : base.NoLimit
structure Cx where
  prog : Program
  w : World
  K : PySem.W.Frag
  mg : Str -> Option Value
  base : Heap
  A : Around
  N : List Str
  s₀ : Shared
  H₀ : Hp
  env : Env
  outer : List Env
  stack : List Env
  ex : List Addr
  fn : Str -> Bool
  calm : Bool
  pn : List (Addr × Obj)
  xe : Value -> Shared -> Prop
noncomputable def frs (l : List Env) : List Addr:=l.filterMap (·.frame)
noncomputable abbrev Cx.fs (X : Cx) : List Addr:=frs X.outer
noncomputable def Vis (sc : Scope) (x : Str) : Prop:=sc.names.lookup x = some .local ∨ sc.names.lookup x = some .cell ∨ sc.names.lookup x = some .free
noncomputable def Loc (sc : Scope) (x : Str) : Prop:=sc.names.lookup x = some .local ∨ sc.names.lookup x = some .cell
noncomputable def MD (env : Env) (h : Heap) (m : Str -> Option Value) (x : Str) (u : Value) : Prop:=
  (env.kindOf x = some .local /\ m x = some u) ∨ ((env.kindOf x = some .cell ∨ env.kindOf x = some .free) /\ ∃ c, env.cells.lookup x = some c /\ h.IsCell c (some u))
structure Cx.Ok (X : Cx) : Prop where
  mod : Mod X.K X.mg X.base
  kind : X.env.scope.kind = .function
  glob : X.env.globals = mainGlobals
  blt : X.env.builtins = builtinsNs
  above : X.s₀.heap.objs.size <= X.env.locals
  inj : ∀ x y c, X.env.cells.lookup x = some c -> X.env.cells.lookup y = some c -> x = y
  has : ∀ x, (X.env.kindOf x = some .cell ∨ X.env.kindOf x = some .free) -> ∃ c, X.env.cells.lookup x = some c
  cab : ∀ x c, X.fn x = true -> X.env.cells.lookup x = some c -> X.s₀.heap.objs.size <= c
  hd : X.calm = true -> X.A.handled = none
  frames : X.A.frames = some X.stack
  stk : X.stack = X.outer ∨ (X.stack = X.env :: X.outer /\ X.env.frame = some X.env.locals)
  exf : ∀ b ∈ X.ex, b ≠ X.env.locals /\ ∀ x c, X.env.cells.lookup x = some c -> c ≠ b
  bs : ∀ b o, X.base.get? b = some o -> X.s₀.heap.get? b = some o /\ X.H₀ b = none
  bsz : X.base.objs.size <= X.s₀.heap.objs.size
  noex : ∀ b o, X.base.get? b = some o -> b ∉ X.ex
  exfs : ∀ b ∈ X.ex, b ∉ X.fs
  funs : X.s₀.heap.FunFrames X.base X.outer
  frf : ∀ b ∈ X.fs, X.H₀ b = none
structure Inv (X : Cx) (pins : List (Addr × Obj)) (σ : List (Option V)) (H : Hp) (s : Shared) : Prop where
  ok : X.Ok
  os : s.os = X.s₀.os
  bare : AllBare s.gens
  base : Un X.fs X.ex X.H₀ H X.s₀.heap s.heap
  loc : ∃ m, s.heap.Ns X.env.locals m /\ ∀ (i : Nat) (x : Str) (v : V), X.N[i]? = some x -> σ[i]? = some (some v) -> Vis X.env.scope x -> ∃ u, Yk v u /\ MD X.env s.heap m x u
  cell : ∀ x c, X.env.cells.lookup x = some c -> ∃ v, s.heap.IsCell c v
  free : H X.env.locals = none
  freeC : ∀ x c, X.env.cells.lookup x = some c -> H c = none
  pin : ∀ p ∈ X.pn ++ pins, s.heap.get? p.1 = some p.2 /\ H p.1 = none /\ p.1 ≠ X.env.locals /\ p.1 ∉ X.fs /\ ∀ v, p.2.data ≠ .cell v
  hok : HOk X.prog X.w H s.heap
  len : σ.length = X.N.length
section
variable {X : Cx} {pins : List (Addr × Obj)} {σ : List (Option V)} {H H' : Hp} {s : Shared} {h' : Heap}
theorem Cx.Ok.nofr (ok : X.Ok) {b : Addr} {o : Obj} (e : X.base.get? b = some o) : b ∉ X.fs:=λhb=>by
  have:=(ok.funs.mem hb).1
  rw [e] at this; cases this
theorem Inv.bs (I : Inv X pins σ H s) : ∀ b o, X.base.get? b = some o -> s.heap.get? b = some o /\ H b = none:=λb o e=>
  ⟨I.base.keep b o (I.ok.bs b o e).1 (I.ok.bs b o e).2 (I.ok.nofr e) (I.ok.noex b o e), I.base.free b o (I.ok.bs b o e).1 (I.ok.bs b o e).2 (I.ok.noex b o e)⟩
theorem Inv.bk (I : Inv X pins σ H s) : ∀ b o, X.base.get? b = some o -> s.heap.get? b = some o:=λb o e=>(I.bs b o e).1
theorem Inv.mod (I : Inv X pins σ H s) : Mod X.K X.mg X.base:=I.ok.mod
theorem Inv.kIn (I : Inv X pins σ H s) : X.K.In s.heap:=I.ok.mod.kin.keeps I.bk
theorem Inv.nolimit (I : Inv X pins σ H s) : s.heap.NoLimit:=I.ok.mod.nolimit.keeps I.bk
theorem Inv.lt (I : Inv X pins σ H s) : X.env.locals < s.heap.objs.size:=let ⟨_, hn, _⟩:=I.loc; hn.lt
theorem Inv.sz (I : Inv X pins σ H s) : X.s₀.heap.objs.size <= s.heap.objs.size:=Nat.le_trans I.ok.above (Nat.le_of_lt I.lt)
theorem Inv.nofs (I : Inv X pins σ H s) {a : Addr} (h : s.heap.objs.size <= a) : a ∉ X.fs:=λhb=>by
  obtain ⟨_, o, ho, _⟩:=I.ok.funs.mem hb
  exact absurd (Nat.lt_of_lt_of_le (Heap.lt_size ho) (Nat.le_trans I.sz h)) (Nat.lt_irrefl _)
theorem Inv.cne (I : Inv X pins σ H s) : ∀ x c, X.env.cells.lookup x = some c -> c ≠ X.env.locals:=λx c e z=>by
  obtain ⟨v, o, ho, hd⟩:=I.cell x c e
  obtain ⟨m, ⟨o', es, ep, ho', hd', _⟩, _⟩:=I.loc
  rw [z, ho'] at ho; cases ho; rw [hd'] at hd; cases hd
theorem Inv.funs (I : Inv X pins σ H s) : s.heap.FunFrames X.base X.outer:=by
  have all : ∀ (l : List Env), (∀ b ∈ frs l, b ∈ X.fs) -> X.s₀.heap.FunFrames X.base l -> s.heap.FunFrames X.base l:=by
    intro l
    induction l with
    | nil=>intro _ _; trivial
    | cons env r ih=>
      intro hs hl
      obtain ⟨hk, ⟨L, o, hf, hn, ho, hd⟩, hr⟩:=hl
      have hL : L ∈ X.fs:=hs L (by unfold frs; rw [List.filterMap_cons, hf]; exact List.mem_cons_self)
      obtain ⟨sl, e⟩:=I.base.slot L o ho (I.ok.frf L hL) hL λz=>I.ok.exfs L z hL
      exact ⟨hk, ⟨L, _, hf, hn, e, hd⟩, ih (λb hb=>hs b (by unfold frs; rw [List.filterMap_cons, hf]; exact List.mem_cons_of_mem _ hb)) hr⟩
  exact all X.outer (λ_ hb=>hb) I.ok.funs
theorem Inv.stack (I : Inv X pins σ H s) : s.heap.FunFrames X.base X.stack:=by
  rcases I.ok.stk with e | ⟨e, hf⟩
  . rw [e]; exact I.funs
  . rw [e]
    obtain ⟨m, hn, _⟩:=I.loc
    refine .cons (by rw [I.ok.kind]; decide) hf hn ?_ I.funs
    exact Heap.get?_none_of_le (Nat.le_trans I.ok.bsz I.ok.above)
theorem Inv.stkSub (I : Inv X pins σ H s) : ∀ b ∈ frs X.stack, b ∈ X.env.locals :: X.fs:=λb hb=>by
  rcases I.ok.stk with e | ⟨e, hf⟩
  . rw [e] at hb; exact List.mem_cons_of_mem _ hb
  . rw [e] at hb
    unfold frs at hb
    rw [List.filterMap_cons, hf] at hb
    exact hb
theorem Inv.stkFree (I : Inv X pins σ H s) : ∀ b ∈ frs X.stack, H b = none:=λb hb=>by
  rcases List.mem_cons.mp (I.stkSub b hb) with e | hb
  . rw [e]; exact I.free
  . obtain ⟨_, o, ho, _⟩ := I.ok.funs.mem hb
    exact I.base.free b o ho (I.ok.frf b hb) λz=>I.ok.exfs b z hb
theorem Inv.step {g' : Array GenState} {t' : Nat} {d' : Drawn} {ch : List Addr} (I : Inv X pins σ H s)
    (hch : ∀ b ∈ ch, (b ∈ X.ex ∨ X.s₀.heap.objs.size <= b) /\ b ≠ X.env.locals /\ (∀ x c, X.env.cells.lookup x = some c -> c ≠ b) /\ ∀ p ∈ X.pn ++ pins, p.1 ≠ b)
    (keep : ∀ b o, b ≠ X.env.locals -> b ∉ X.fs -> b ∉ ch -> s.heap.get? b = some o -> H b = none -> h'.get? b = some o)
    (slot : ∀ b o, b ≠ X.env.locals -> b ∈ X.fs -> b ∉ ch -> s.heap.get? b = some o -> H b = none -> ∃ sl, h'.get? b = some { o with slots:=sl }) (free : ∀ b o, b ∉ ch -> s.heap.get? b = some o -> H b = none -> H' b = none)
    (there : ∀ b o, b ∉ ch -> s.heap.get? b = some o -> ∃ o', h'.get? b = some o')
    (tups : ∀ b xs, H b = some (.tup xs) -> H' b = some (.tup xs)) (frzs : ∀ b o u, H b = some (.frz o u) -> H' b = some (.frz o u)) (tbls : ∀ b ps, H b = some (.tbl ps) -> ∃ more, H' b = some (.tbl (ps ++ more)))
    (ns : ∀ m, s.heap.Ns X.env.locals m -> h'.Ns X.env.locals m) (hok : HOk X.prog X.w H' h') (hg : AllBare g') :
    Inv X pins σ H' { s with heap:=h', gens:=g', drawn:=d', toks:=t' }:=by
  have neL : ∀ b o, X.s₀.heap.get? b = some o -> b ≠ X.env.locals:=λb o e=>Nat.ne_of_lt (Nat.lt_of_lt_of_le (Heap.lt_size e) I.ok.above)
  have neC : ∀ b o, X.s₀.heap.get? b = some o -> b ∉ X.ex -> b ∉ ch:=λb o e hx hb=>by
    rcases (hch b hb).1 with z | z
    . exact hx z
    . exact absurd (Nat.lt_of_lt_of_le (Heap.lt_size e) z) (Nat.lt_irrefl _)
  have cellK : ∀ x c, X.env.cells.lookup x = some c -> ∀ v, s.heap.IsCell c v -> h'.IsCell c v:=λx c e v ⟨o, ho, hd⟩=>by
    have nch : c ∉ ch:=λz=>(hch c z).2.2.1 x c e rfl
    by_cases hc : c ∈ X.fs
    . obtain ⟨sl, q⟩ := slot c o (I.cne x c e) hc nch ho (I.freeC x c e)
      exact ⟨_, q, hd⟩
    . exact ⟨o, keep c o (I.cne x c e) hc nch ho (I.freeC x c e), hd⟩
  refine ⟨I.ok, I.os, hg, ⟨λb o e n hb hx=>?_, λb o e n hb hx=>?_, λb o e n hx=>?_, λb o e hx=>?_, λb xs e=>tups b xs (I.base.tups b xs e), λb o xs e=>frzs b o xs (I.base.frzs b o xs e), λb ps e=>?_⟩, ?_, λx c e=>?_, ?_, λx c e=>?_, λp hp=>?_, hok, I.len⟩
  . exact keep b o (neL b o e) hb (neC b o e hx) (I.base.keep b o e n hb hx) (I.base.free b o e n hx)
  . obtain ⟨sl, e1⟩ := I.base.slot b o e n hb hx
    obtain ⟨sl', e2⟩:=slot b _ (neL b o e) hb (neC b o e hx) e1 (I.base.free b o e n hx)
    exact ⟨sl', e2⟩
  . obtain ⟨o', e1⟩ := I.base.there b o e hx
    exact free b o' (neC b o e hx) e1 (I.base.free b o e n hx)
  . obtain ⟨o', e1⟩ := I.base.there b o e hx
    exact there b o' (neC b o e hx) e1
  . obtain ⟨m1, e1⟩ := I.base.tbls b ps e
    obtain ⟨m2, e2⟩:=tbls b _ e1
    exact ⟨m1 ++ m2, by rw [e2, Array.append_assoc]⟩
  . obtain ⟨m, hn, hl⟩ := I.loc
    refine ⟨m, ns m hn, λi x v e1 e2 e3=>?_⟩
    obtain ⟨u, r, l⟩:=hl i x v e1 e2 e3
    refine ⟨u, r, ?_⟩
    rcases l with l | ⟨k, c, e, z⟩
    . exact .inl l
    . exact .inr ⟨k, c, e, cellK x c e _ z⟩
  . obtain ⟨v, z⟩ := I.cell x c e
    exact ⟨v, cellK x c e v z⟩
  . obtain ⟨m, ⟨o, _, _, ho, _⟩, _⟩ := I.loc
    exact free _ o (λz=>(hch _ z).2.1 rfl) ho I.free
  . obtain ⟨v, o, ho, hd⟩ := I.cell x c e
    exact free c o (λz=>(hch c z).2.2.1 x c e rfl) ho (I.freeC x c e)
  . obtain ⟨e, n, ne, nf, d⟩ := I.pin p hp
    have nch : p.1 ∉ ch:=λz=>(hch p.1 z).2.2.2 p hp rfl
    exact ⟨keep p.1 p.2 ne nf nch e n, free p.1 p.2 nch e n, ne, nf, d⟩
theorem Inv.un {t' : Nat} (I : Inv X pins σ H s) (u : Un X.fs [] H H' s.heap h') (hok : HOk X.prog X.w H' h') : Inv X pins σ H' { s with heap:=h', toks:=t' }:=by
  obtain ⟨m, ⟨o, es, ep, ho, r⟩, _⟩:=id I.loc
  obtain ⟨sl, hL⟩:=u.any ho I.free (by simp)
  exact I.step (g':=s.gens) (d':=s.drawn) (ch:=[]) (λ_ z=>nomatch z) (λb o _ hb _ e n=>u.keep b o e n hb (by simp)) (λb o _ hb _ e n=>u.slot b o e n hb (by simp)) (λb o _ e n=>u.free b o e n (by simp)) (λb o _ e=>u.there b o e (by simp)) u.tups u.frzs u.tbls (λm' hm=>by
    obtain ⟨o', es', ep', ho', r'⟩:=hm
    rw [ho] at ho'; cases ho'
    exact ⟨_, es', ep', hL, r'⟩) hok I.bare
theorem Inv.call {g' : Array GenState} {t' : Nat} {d' : Drawn} {ch : List Addr} (I : Inv X pins σ H s) (u : Un (frs X.stack) ch H H' s.heap h') (hok : HOk X.prog X.w H' h') (hg : AllBare g')
    (hch : ∀ b ∈ ch, (b ∈ X.ex ∨ X.s₀.heap.objs.size <= b) /\ b ≠ X.env.locals /\ (∀ x c, X.env.cells.lookup x = some c -> c ≠ b) /\ ∀ p ∈ X.pn ++ pins, p.1 ≠ b) :
    Inv X pins σ H' { s with heap:=h', gens:=g', drawn:=d', toks:=t' }:=by
  obtain ⟨m, ⟨o, es, ep, ho, r⟩, _⟩:=id I.loc
  obtain ⟨sl, hL⟩:=u.any ho I.free λz=>(hch _ z).2.1 rfl
  exact I.step (ch:=ch) hch (λb o hL hb hc e n=>u.keep b o e n (λz=>(List.mem_cons.mp (I.stkSub b z)).elim hL hb) hc) (λb o _ _ hc e n=>u.any e n hc) (λb o hc e n=>u.free b o e n hc) (λb o hc e=>u.there b o e hc) u.tups u.frzs u.tbls (λm' hm=>by
    obtain ⟨o', es', ep', ho', r'⟩:=hm
    rw [ho] at ho'; cases ho'
    exact ⟨_, es', ep', hL, r'⟩) hok hg
theorem Inv.turned {t' : Nat} {it : Addr} (I : Inv X pins σ H s) (k : ∀ b o, b ≠ it -> s.heap.get? b = some o -> h'.get? b = some o) (hn : H it = none) (hL : it ≠ X.env.locals)
    (h1 : it ∈ X.ex ∨ X.s₀.heap.objs.size <= it) (h2 : ∀ x c, X.env.cells.lookup x = some c -> c ≠ it) (h3 : ∀ p ∈ X.pn ++ pins, p.1 ≠ it) : Inv X pins σ H { s with heap:=h', toks:=t' }:=by
  have nit : ∀ b u, H b = some u -> b ≠ it:=λb u e z=>by rw [z, hn] at e; cases e
  refine I.step (g':=s.gens) (d':=s.drawn) (ch:=[it]) (λb hb=>?_) (λb o _ _ hc e _=>k b o (λz=>hc (by simp [z])) e) (λb o _ _ hc e _=>⟨o.slots, k b o (λz=>hc (by simp [z])) e⟩) (λ_ _ _ _ n=>n)
    (λb o hc e=>⟨o, k b o (λz=>hc (by simp [z])) e⟩) (λ_ _ e=>e) (λ_ _ _ e=>e) (λb ps e=>⟨#[], by rw [e]; simp⟩) (λm hm=>?_) (λb u e=>?_) I.bare
  . have e : b = it := by simpa using hb
    subst e
    exact ⟨h1, hL, h2, h3⟩
  . obtain ⟨o, es, ep, ho, r⟩ := hm
    exact ⟨o, es, ep, k _ o (Ne.symm hL) ho, r⟩
  . refine (I.hok b u e).stay (λc v hc q => k c v ?_ q) (λ_ q => q) λ_ _ q => q
    rcases hc with z | z
    . rw [z]; exact nit b u e
    . exact nit c _ z
theorem Inv.tok (I : Inv X pins σ H s) (t : Nat) : Inv X pins σ H { s with toks:=t }:=I.un (h':=s.heap) (t':=t) Un.refl I.hok
theorem Inv.kept {t' : Nat} (I : Inv X pins σ H s) (k : ∀ b u, s.heap.get? b = some u -> h'.get? b = some u) : Inv X pins σ H { s with heap:=h', toks:=t' }:=I.un (Un.kept k) (I.hok.kept k)
theorem Inv.laid {a : Addr} {o : HO} {t' : Nat} (I : Inv X pins σ H s) (k : ∀ b u, s.heap.get? b = some u -> h'.get? b = some u) (hp : s.heap.objs.size <= a) (new : YC X.prog X.w (upd H a o) h' a o) :
    Inv X pins σ (upd H a o) { s with heap:=h', toks:=t' }:=I.un (Un.laid k hp (I.hok.fresh hp)) (I.hok.laid k hp new)
theorem Inv.write {x e : Addr} {o : HO} {t' : Nat} (I : Inv X pins σ H s) (mu : Mut (H x)) (he : e = x ∨ H e = some (.own x)) (k : ∀ b u, b ≠ e -> s.heap.get? b = some u -> h'.get? b = some u) (heo : ∃ u, h'.get? e = some u)
    (new : YC X.prog X.w (upd H x o) h' x o) : Inv X pins σ (upd H x o) { s with heap:=h', toks:=t' }:=I.un (Un.write mu he k heo) (I.hok.write mu he k heo new)
theorem Inv.weak {σ' : List (Option V)} (I : Inv X pins σ H s) (hl : σ'.length = σ.length) (w : ∀ (i : Nat) v, σ'[i]? = some (some v) -> σ[i]? = some (some v)) : Inv X pins σ' H s:=
  ⟨I.ok, I.os, I.bare, I.base, let ⟨m, hn, hl'⟩:=I.loc; ⟨m, hn, λi x v e1 e2 e3=>hl' i x v e1 (w i v e2) e3⟩, I.cell, I.free, I.freeC, I.pin, I.hok, hl.trans I.len⟩
theorem Inv.pins_of {pins' : List (Addr × Obj)} (I : Inv X pins σ H s) (h : ∀ p ∈ pins', s.heap.get? p.1 = some p.2 /\ H p.1 = none /\ p.1 ≠ X.env.locals /\ p.1 ∉ X.fs /\ ∀ v, p.2.data ≠ .cell v) : Inv X pins' σ H s:=
  ⟨I.ok, I.os, I.bare, I.base, I.loc, I.cell, I.free, I.freeC, λp hp=>(List.mem_append.mp hp).elim (λz=>I.pin p (List.mem_append_left _ z)) (h p), I.hok, I.len⟩
theorem GQ {N : List Str} (hN : N.Nodup) {i j : Nat} {x : Str} (a : N[i]? = some x) (b : N[j]? = some x) : i = j:=by
  obtain ⟨h1, e1⟩:=List.getElem?_eq_some_iff.mp a
  obtain ⟨h2, e2⟩:=List.getElem?_eq_some_iff.mp b
  exact (List.getElem_inj hN).mp (e1.trans e2.symm)
theorem UY {M : Model} {A : Around} {E : Value -> Shared -> Prop} {i : Nat} {x : Str} {v : V} {u : Value} {Q : Unit -> Shared -> Prop} (I : Inv X pins σ H s) (hN : X.N.Nodup) (hi : X.N[i]? = some x) (hx : Loc X.env.scope x) (r : Yk v u)
    (h : ∀ s', Inv X pins (σ.set i (some v)) H s' -> (∃ a, Heap.SameBut a s.heap s'.heap /\ (a = X.env.locals ∨ X.env.cells.lookup x = some a)) -> Q () s') (hf : X.fn x = true ∨ X.env.scope.names.lookup x = some .local:=by first | exact .inl rfl | exact .inr rfl | assumption) : wpAny M A (storeName X.env x u) Q E s:=by
  obtain ⟨m, hn, hl⟩:=id I.loc
  have hcls : (X.env.scope.kind == .class || (X.env.scope.kind == .module && X.env.locals != X.env.globals)) = false:=by rw [I.ok.kind]; rfl
  have hiσ : i < σ.length:=by rw [I.len]; exact (List.getElem?_eq_some_iff.mp hi).1
  have cne:=I.cne
  have tracked : ∀ {a : Addr} {h' : Heap}, (∃ o, s.heap.get? a = some o /\ H a = none) -> Heap.SameBut a s.heap h' -> HOk X.prog X.w H h':=fun {a h'} ha hs b ob e=>by
    obtain ⟨_, _, hfree⟩:=ha
    refine (I.hok b ob e).stay (λc w' hc q=>(hs.2 c ?_).trans q) (λ_ q=>q) λ_ _ q=>q
    rintro rfl
    rcases hc with rfl | hc
    . rw [hfree] at e; cases e
    . rw [hfree] at hc; cases hc
  rcases hx with hk | hk
  . refine wpAny_storeName_local hk hn (λh' hn' hs => ?_) hcls
    obtain ⟨oL, _, _, hoL, _⟩:=id hn
    refine h _ ⟨I.ok, I.os, I.bare, ⟨λb o e n hb hx=>?_, λb o e n hb hx=>?_, I.base.free, λb o e hx=>?_, I.base.tups, I.base.frzs, I.base.tbls⟩, ⟨_, hn', λj y v' e1 e2 e3=>?_⟩, λy c e=>?_, I.free, I.freeC, λp hp=>?_, tracked ⟨oL, hoL, I.free⟩ hs, by simpa using I.len⟩ ⟨_, hs, .inl rfl⟩
    . exact (hs.2 b (Nat.ne_of_lt (Nat.lt_of_lt_of_le (Heap.lt_size e) I.ok.above))).trans (I.base.keep b o e n hb hx)
    . obtain ⟨sl, e1⟩ := I.base.slot b o e n hb hx
      exact ⟨sl, (hs.2 b (Nat.ne_of_lt (Nat.lt_of_lt_of_le (Heap.lt_size e) I.ok.above))).trans e1⟩
    . obtain ⟨o', e1⟩ := I.base.there b o e hx
      exact ⟨o', (hs.2 b (Nat.ne_of_lt (Nat.lt_of_lt_of_le (Heap.lt_size e) I.ok.above))).trans e1⟩
    . by_cases hj : j = i
      . subst hj
        rw [hi] at e1; cases e1
        rw [List.getElem?_set_self hiσ] at e2
        cases e2
        exact ⟨u, r, .inl ⟨hk, by simp⟩⟩
      . rw [List.getElem?_set_ne (Ne.symm hj)] at e2
        obtain ⟨u', r', q⟩:=hl j y v' e1 e2 e3
        refine ⟨u', r', ?_⟩
        rcases q with ⟨k, e⟩ | ⟨k, c, e, z⟩
        . refine .inl ⟨k, ?_⟩
          have : y ≠ x:=λe=>hj (GQ hN e1 (e ▸ hi))
          simp [this, e]
        . exact .inr ⟨k, c, e, z.sameBut hs (cne y c e)⟩
    . obtain ⟨w', z⟩ := I.cell y c e
      exact ⟨w', z.sameBut hs (cne y c e)⟩
    . obtain ⟨e, n, ne, nf, d⟩ := I.pin p hp
      exact ⟨(hs.2 p.1 ne).trans e, n, ne, nf, d⟩
  . have hfn : X.fn x = true:=by
      rcases hf with z | z
      . exact z
      . rw [z] at hk; cases hk
    obtain ⟨c, hc⟩:=I.ok.has x (.inl hk)
    obtain ⟨w', z⟩:=I.cell x c hc
    refine wpAny_storeName_cell I.ok.kind hk hc z (λh' hc' hs=>?_)
    obtain ⟨oc, hoc, hocd⟩:=id z
    refine h { s with heap:=h' } ⟨I.ok, I.os, I.bare, ⟨λb o e n hb hx=>?_, λb o e n hb hx=>?_, I.base.free, λb o e hx=>?_, I.base.tups, I.base.frzs, I.base.tbls⟩, ⟨m, hn.sameBut hs (Ne.symm (cne x c hc)), λj y v' e1 e2 e3=>?_⟩, λy c' e=>?_, I.free, I.freeC, λp hp=>?_, tracked ⟨oc, hoc, I.freeC x c hc⟩ hs, by simpa using I.len⟩ ⟨c, hs, .inr hc⟩
    . exact (hs.2 b (Nat.ne_of_lt (Nat.lt_of_lt_of_le (Heap.lt_size e) (I.ok.cab x c hfn hc)))).trans (I.base.keep b o e n hb hx)
    . obtain ⟨sl, e1⟩ := I.base.slot b o e n hb hx
      exact ⟨sl, (hs.2 b (Nat.ne_of_lt (Nat.lt_of_lt_of_le (Heap.lt_size e) (I.ok.cab x c hfn hc)))).trans e1⟩
    . obtain ⟨o', e1⟩ := I.base.there b o e hx
      exact ⟨o', (hs.2 b (Nat.ne_of_lt (Nat.lt_of_lt_of_le (Heap.lt_size e) (I.ok.cab x c hfn hc)))).trans e1⟩
    . by_cases hj : j = i
      . subst hj
        rw [hi] at e1; cases e1
        rw [List.getElem?_set_self hiσ] at e2
        cases e2
        exact ⟨u, r, .inr ⟨.inl hk, c, hc, hc'⟩⟩
      . rw [List.getElem?_set_ne (Ne.symm hj)] at e2
        obtain ⟨u', r', q⟩:=hl j y v' e1 e2 e3
        refine ⟨u', r', ?_⟩
        rcases q with q | ⟨k, c', e, z'⟩
        . exact .inl q
        . refine .inr ⟨k, c', e, z'.sameBut hs ?_⟩
          rintro rfl
          exact hj (GQ hN e1 (I.ok.inj _ _ _ e hc ▸ hi))
    . by_cases hcc : c' = c
      . subst hcc; exact ⟨_, hc'⟩
      . obtain ⟨w2, z2⟩ := I.cell y c' e
        exact ⟨w2, z2.sameBut hs hcc⟩
    . obtain ⟨e, n, ne, nf, d⟩ := I.pin p hp
      refine ⟨(hs.2 p.1 ?_).trans e, n, ne, nf, d⟩
      intro q
      rw [q, hoc] at e
      have q' : oc = p.2:=Option.some.inj e
      exact d w' (by rw [← q']; exact hocd)
theorem JT {M : Model} {A : Around} {E : Value -> Shared -> Prop} {i : Nat} {x : Str} {v : V} {u : Value} {Q : Unit -> Shared -> Prop} (I : Inv X pins σ H s) (hN : X.N.Nodup) (hi : X.N[i]? = some x) (hx : Loc X.env.scope x) (r : Yk v u)
    (h : ∀ s', Inv X pins (σ.set i (some v)) H s' -> Q () s') (hf : X.fn x = true ∨ X.env.scope.names.lookup x = some .local:=by first | exact .inl rfl | exact .inr rfl | assumption) : wpAny M A (storeName X.env x u) Q E s:=
  UY I hN hi hx r (λs' I' _=>h s' I') hf
theorem Inv.call' {s' : Shared} {ch : List Addr} (I : Inv X pins σ H s) (ho : s'.os = s.os) (u : Un (frs X.stack) ch H H' s.heap s'.heap) (hok : HOk X.prog X.w H' s'.heap) (hg : AllBare s'.gens)
    (hch : ∀ b ∈ ch, (b ∈ X.ex ∨ X.s₀.heap.objs.size <= b) /\ b ≠ X.env.locals /\ (∀ x c, X.env.cells.lookup x = some c -> c ≠ b) /\ ∀ p ∈ X.pn ++ pins, p.1 ≠ b) : Inv X pins σ H' s':=by
  obtain ⟨h', g', d', t', o'⟩:=s'
  have e : o' = s.os:=ho
  subst e
  exact I.call (g':=g') (t':=t') (d':=d') u hok hg hch
end
noncomputable abbrev XK:=Value -> Option Addr -> Hp -> Prop
noncomputable abbrev St:=List (Option V)
noncomputable abbrev VK:=V -> Hp -> Prop
noncomputable abbrev TE:=St -> Hp -> VK -> Prop
noncomputable abbrev TT:=St -> Hp -> (Bool -> Hp -> Prop) -> Prop
noncomputable abbrev TA:=St -> Hp -> (List V -> Hp -> Prop) -> Prop
structure Ends where
  nx : St -> Hp -> Prop
  rt : VK
  bk : St -> Hp -> Prop:=λ_ _=>False
  ct : St -> Hp -> Prop:=λ_ _=>False
noncomputable abbrev TS:=Ends -> St -> Hp -> Prop
noncomputable def EP (X : Cx) (pins : List (Addr × Obj)) (σ : St) (Q : VK) (u : Value) (s' : Shared) : Prop:=∃ v H', Inv X pins σ H' s' /\ Yk v u /\ Q v H'
noncomputable def TP (X : Cx) (pins : List (Addr × Obj)) (σ : St) (Q : Bool -> Hp -> Prop) (b : Bool) (s' : Shared) : Prop:=∃ H', Inv X pins σ H' s' /\ Q b H'
noncomputable def AP (X : Cx) (pins : List (Addr × Obj)) (σ : St) (Q : List V -> Hp -> Prop) (us : List Value) (s' : Shared) : Prop:=∃ vs H', Inv X pins σ H' s' /\ Yd vs us /\ Q vs H'
noncomputable def SP (X : Cx) (pins : List (Addr × Obj)) (D : Ends) (f : Flow) (s' : Shared) : Prop:=
  match f with
  | .next=>∃ σ' H', Inv X pins σ' H' s' /\ D.nx σ' H'
  | .brk=>∃ σ' H', Inv X pins σ' H' s' /\ D.bk σ' H'
  | .cont=>∃ σ' H', Inv X pins σ' H' s' /\ D.ct σ' H'
  | .ret u=>∃ v σ' H', Inv X pins σ' H' s' /\ Yk v u /\ D.rt v H'
noncomputable def PE (X : Cx) (e : Expr) (t : TE) : Prop:=
  ∀ (pins : List (Addr × Obj)) (s : Shared) (σ : St) (H : Hp) (Q : VK), Inv X pins σ H s -> t σ H Q -> wpAny (model X.prog X.w) X.A (eval e X.env) (EP X pins σ Q) X.xe s
noncomputable def PT (X : Cx) (e : Expr) (t : TT) : Prop:=
  ∀ (pins : List (Addr × Obj)) (s : Shared) (σ : St) (H : Hp) (Q : Bool -> Hp -> Prop), Inv X pins σ H s -> t σ H Q -> wpAny (model X.prog X.w) X.A (isTrue e X.env (eval e X.env)) (TP X pins σ Q) X.xe s
noncomputable def PW (X : Cx) (e : Expr) (t : TT) : Prop:=
  ∀ (whole : Sem Value) (pins : List (Addr × Obj)) (s : Shared) (σ : St) (H : Hp) (Q : Bool -> Hp -> Prop), Inv X pins σ H s -> t σ H Q -> wpAny (model X.prog X.w) X.A (isTrue e X.env whole) (TP X pins σ Q) X.xe s
theorem PW.pt {X : Cx} {e : Expr} {t : TT} (h : PW X e t) : PT X e t:=h _
noncomputable def PA (X : Cx) (es : List Expr) (t : TA) : Prop:=
  ∀ (pos : Pos) (pins : List (Addr × Obj)) (s : Shared) (σ : St) (H : Hp) (Q : List V -> Hp -> Prop), Inv X pins σ H s -> t σ H Q -> wpAny (model X.prog X.w) X.A (spliced (backTo pos (starEach es X.env))) (AP X pins σ Q) X.xe s
noncomputable def PS (X : Cx) (st : Stmt) (t : TS) : Prop:=
  ∀ (pins : List (Addr × Obj)) (s : Shared) (σ : St) (H : Hp) (D : Ends), Inv X pins σ H s -> t D σ H -> wpAny (model X.prog X.w) X.A (exec st X.env) (SP X pins D) X.xe s
noncomputable def PSs (X : Cx) (st : List Stmt) (t : TS) : Prop:=
  ∀ (pins : List (Addr × Obj)) (s : Shared) (σ : St) (H : Hp) (D : Ends), Inv X pins σ H s -> t D σ H -> wpAny (model X.prog X.w) X.A (execs st X.env) (SP X pins D) X.xe s
theorem thn {α : Type} {t : Sem α} {Q Q' : α -> Shared -> Prop} {M : Model} {A : Around} {E : Value -> Shared -> Prop} {s : Shared} (h : wpAny M A t Q E s) (hQ : ∀ a s, Q a s -> Q' a s) : wpAny M A t Q' E s:=wpAny_mono h hQ λ_ _ x=>x
section
variable {X : Cx}
noncomputable def Gr (i : Nat) : TE:=λσ H Q=>∃ v, σ[i]? = some (some v) /\ Q v H
noncomputable def tC (v : V) : TE:=λ_ H Q=>Q v H
theorem Lb {i : Nat} {x : Str} {pos : Pos} (hN : X.N[i]? = some x) (hv : Vis X.env.scope x) (hd : (x == ("__debug__" : Str)) = false:=by decide) (hcd : (x == ("__classdict__" : Str)) = false:=by decide) : PE X (.Name x pos) (Gr i):=by
  intro pins s σ H Q I h
  obtain ⟨v, e, h⟩:=h
  obtain ⟨m, hn, hl⟩:=I.loc
  obtain ⟨u, r, l⟩:=hl i x v hN e hv
  have fin : EP X pins σ Q u s:=⟨v, H, I, r, h⟩
  rcases l with ⟨hk, hm⟩ | ⟨hk, c, hc, hcell⟩
  . exact wpAny_Name (wpAny_loadName_local I.ok.kind hk hn hm fin) hd
  . rcases hk with hk | hk
    . exact wpAny_Name (wpAny_loadName_cell I.ok.kind hk hc hcell fin) hd
    . exact wpAny_Name (wpAny_loadName_free I.ok.kind hk hc hcell fin hcd) hd
theorem Xi {i j pos} : PE X (.Constant (.int i) j pos) (tC (.int i)):=λ_ _ _ H _ I h=>wpAny_Constant_int ⟨.int i, H, I.tok _, ⟨_, rfl⟩, h⟩
theorem Jb {b j pos} : PE X (.Constant (.bool b) j pos) (tC (.bl b)):=λ_ _ _ H _ I h=>Constant_bool ⟨.bl b, H, I, rfl, h⟩
theorem Qc {j pos} : PE X (.Constant .none j pos) (tC .non):=λ_ _ _ H _ I h=>Constant_none ⟨.non, H, I, rfl, h⟩
noncomputable def Gl (X : Cx) (x : Str) : Prop:=X.env.kindOf x = some .globalImplicit
theorem Ca {E : Value -> Shared -> Prop} {pins : List (Addr × Obj)} {s : Shared} {σ : St} {H : Hp} {x : Str} {u : Value} {pos : Pos} {Q : Value -> Shared -> Prop} (I : Inv X pins σ H s) (hg : Gl X x) (hm : X.mg x = some u) (h : Q u s)
    (hd : (x == ("__debug__" : Str)) = false:=by decide) : wpAny (model X.prog X.w) X.A (eval (.Name x pos) X.env) Q E s:=
  Calls.Name_function_global I.ok.kind hg (Calls.loadGlobal_global (by rw [I.ok.glob]; exact I.mod.glob.keeps I.bk) hm h) hd
theorem VW {E : Value -> Shared -> Prop} {pins : List (Addr × Obj)} {s : Shared} {σ : St} {H : Hp} {x : Str} {u : Value} {pos : Pos} {Q : Value -> Shared -> Prop} (I : Inv X pins σ H s) (hg : Gl X x) (hm : X.mg x = none) (hv : bootBuiltins x = some u) (h : Q u s)
    (hn : x ≠ "__name__":=by decide) (hd : (x == ("__debug__" : Str)) = false:=by decide) : wpAny (model X.prog X.w) X.A (eval (.Name x pos) X.env) Q E s:=by
  obtain ⟨mb, h1, h2⟩:=I.mod.blt
  exact Calls.Name_function_global I.ok.kind hg (Calls.loadGlobal_builtin (by rw [I.ok.glob]; exact I.mod.glob.keeps I.bk) hm (by rw [I.ok.blt]; exact h1.keeps I.bk) ((h2 x hn).trans hv) h) hd
theorem EQ {x : Str} {v : V} {u : Value} {pos : Pos} (hg : Gl X x) (hm : X.mg x = some u) (r : Yk v u) (hd : (x == ("__debug__" : Str)) = false:=by decide) : PE X (.Name x pos) (tC v):=
  λ_ _ _ H _ I h=>Ca I hg hm ⟨v, H, I, r, h⟩ hd
variable {a b : Expr} {ta tb : TE} {pos : Pos}
noncomputable def PC (X : Cx) (op : CmpOp) (a b : Expr) (t : TE) : Prop:=
  ∀ (pins : List (Addr × Obj)) (s : Shared) (σ : St) (H : Hp) (Q : VK), Inv X pins σ H s -> t σ H Q ->
    wpAny (model X.prog X.w) X.A (eval a X.env) (λv s₁=>wpAny (model X.prog X.w) X.A (eval b X.env) (λu s₂=>wpAny (model X.prog X.w) X.A (compareOp op v u) (EP X pins σ Q) X.xe s₂) X.xe s₁) X.xe s
theorem BK (b : Expr) {op : CmpOp} (h : op ≠ .In) (h2 : op ≠ .NotIn) : behindInMarks op b = false:=by
  have e1 : (op == CmpOp.In) = false:=by cases op <;> first | rfl | exact absurd rfl h
  have e2 : (op == CmpOp.NotIn) = false:=by cases op <;> first | rfl | exact absurd rfl h2
  cases b <;> simp [behindInMarks, e1, e2]
noncomputable def tB (t : TE) : TT:=λσ H Q=>t σ H λx H1=>∃ c, x = .bl c /\ Q c H1
theorem Lf {op : CmpOp} {t : TE} (h : PC X op a b t) (h1 : behindInMarks op b = false:=by first | exact BK _ (by decide) (by decide) | rfl) : PT X (.Compare a [op] [b] pos) (tB t):=by
  intro pins s σ H Q I hw
  refine wpAny_isTrue_Compare1 (thn (h pins s σ H _ I hw) λv s1 h1=>thn h1 λu s2 h2=>thn h2 λc s3 r9=>?_) h1
  obtain ⟨x, H1, I1, r1, q1⟩:=r9
  obtain ⟨d, rfl, q⟩:=q1
  cases r1
  exact wpAny_truthy_bool ⟨H1, I1, q⟩
theorem F4 {e : Expr} {t : TE} (h : PE X e t) (he : ∀ whole, isTrue e X.env whole = (do let v ← whole; standAt e.pos; holding [v] (truthy v)):=by intro _; rfl) : PT X e (tB t):=by
  intro pins s σ H Q I hw
  refine isTrue_plain (thn (h pins s σ H _ I hw) λv s1 r9=>?_) (he _)
  obtain ⟨x, H1, I1, r1, q1⟩:=r9
  obtain ⟨d, rfl, q⟩:=q1
  cases r1
  exact wpAny_truthy_bool ⟨H1, I1, q⟩
variable {tA tB' : TT} {ZN : List Expr}
noncomputable def Mo (t u : TT) : TT:=λσ H Q=>t σ H λc H1=>if c = true then u σ H1 Q else Q false H1
noncomputable def tOr (t u : TT) : TT:=λσ H Q=>t σ H λc H1=>if c = true then Q true H1 else u σ H1 Q
noncomputable def Mt (t : TT) : TT:=λσ H Q=>t σ H λc H1=>Q (!c) H1
theorem Qw (ha : PT X a tA) : PW X (.BoolOp .And [a] pos) tA:=by
  intro wh pins s σ H Q I h
  refine isTrue_and (thn (ha pins s σ H Q I h) λc s1 e=>?_)
  cases c with
  | true=>exact isTrue_and_nil e
  | false=>exact e
theorem FY (ha : PT X a tA) : PW X (.BoolOp .Or [a] pos) tA:=by
  intro wh pins s σ H Q I h
  refine isTrue_or (thn (ha pins s σ H Q I h) λc s1 e=>?_)
  cases c with
  | false=>exact isTrue_or_nil e
  | true=>exact e
theorem ZY (ha : PT X a tA) (hb : PW X (.BoolOp .And (b :: ZN) pos) tB') : PW X (.BoolOp .And (a :: b :: ZN) pos) (Mo tA tB'):=by
  intro wh pins s σ H Q I h
  refine isTrue_and (thn (ha pins s σ H _ I h) λc s1 r9=>?_)
  obtain ⟨H1, I1, q1⟩:=r9
  cases c with
  | true=>exact hb wh pins s1 σ H1 Q I1 q1
  | false=>exact ⟨H1, I1, q1⟩
theorem HZ (ha : PT X a tA) (hb : PW X (.BoolOp .Or (b :: ZN) pos) tB') : PW X (.BoolOp .Or (a :: b :: ZN) pos) (tOr tA tB'):=by
  intro wh pins s σ H Q I h
  refine isTrue_or (thn (ha pins s σ H _ I h) λc s1 r9=>?_)
  obtain ⟨H1, I1, q1⟩:=r9
  cases c with
  | true=>exact ⟨H1, I1, q1⟩
  | false=>exact hb wh pins s1 σ H1 Q I1 q1
theorem Df (ha : PT X a tA) : PT X (.UnaryOp .Not a pos) (Mt tA):=by
  intro pins s σ H Q I h
  exact isTrue_not (ha pins s σ H (λc H1=>Q (!c) H1) I h)
noncomputable def tIf (t : TT) (ta tb : TE) : TE:=λσ H Q=>t σ H λc H1=>if c = true then ta σ H1 Q else tb σ H1 Q
theorem B9 {c : Expr} (hc : PT X c tA) (ha : PE X a ta) (hb : PE X b tb) : PE X (.IfExp c a b pos) (tIf tA ta tb):=by
  intro pins s σ H Q I h
  refine wpAny_IfExp (thn (hc pins s σ H _ I h) λd s1 r9=>?_)
  obtain ⟨H1, I1, q1⟩:=r9
  cases d with
  | true=>exact ha pins s1 σ H1 Q I1 q1
  | false=>exact hb pins s1 σ H1 Q I1 q1
end
noncomputable def SqL (K : PySem.W.Frag) (H : Hp) (a : Addr) (xs : List V) : Prop:=
  Rd H a (.lst xs) ∨
    ∃ (o : Obj) (its : Array Value) (n : Nat), K.lookup a = some o /\ o.cls = .type "list" /\ o.dict = none /\ o.data = .seq its n /\ its.size <= sizeLine /\ Yd xs its.toList
noncomputable def SqT (K : PySem.W.Frag) (H : Hp) (a : Addr) (xs : List V) : Prop:=
  Rd H a (.tup xs) ∨
    ∃ (o : Obj) (its : Array Value) (n : Nat), K.lookup a = some o /\ o.cls = .type "tuple" /\ o.data = .seq its n /\ its.size <= sizeLine /\ Yd xs its.toList
noncomputable def MA : Value -> Option V
  | .none=>some .non
  | .bool b=>some (.bl b)
  | .int i _=>some (.int i)
  | .str x _=>some (.str x)
  | .bytes b _=>some (.byt b)
  | .float b _=>some (.flt b)
  | .ref a=>some (.ref a)
  | .type n=>some (.ty n)
  | _=>none
theorem Yk.abs {x : V} {u : Value} (r : Yk x u) : MA u = some x:=by
  cases x with
  | non=>cases r; rfl
  | bl _=>cases r; rfl
  | int _=>obtain ⟨t, rfl⟩:=r; rfl
  | str _=>obtain ⟨t, rfl⟩:=r; rfl
  | byt _=>obtain ⟨t, rfl⟩:=r; rfl
  | flt _=>obtain ⟨t, rfl⟩:=r; rfl
  | ref _=>cases r; rfl
  | ty _=>cases r; rfl
theorem Yk.inj {x y : V} {u : Value} (r : Yk x u) (q : Yk y u) : x = y:=Option.some.inj (r.abs.symm.trans q.abs)
theorem Yd.inj : ∀ {xs ys : List V} {us : List Value}, Yd xs us -> Yd ys us -> xs = ys:=fun {xs ys us} p=>by
  induction p generalizing ys with
  | nil=>intro q; cases q; rfl
  | cons r _ ih=>intro q; cases q with | cons r' t'=>rw [r.inj r', ih t']
section
variable {X : Cx} {pins : List (Addr × Obj)} {σ : St} {H : Hp} {s : Shared} {a : Addr} {xs ys : List V}
theorem SqL.of {K : PySem.W.Frag} (h : H a = some (.lst xs)) : SqL K H a xs:=.inl (.inl h)
theorem SqT.of {K : PySem.W.Frag} (h : H a = some (.tup xs)) : SqT K H a xs:=.inl (.inl h)
theorem Inv.list (I : Inv X pins σ H s) (h : SqL X.K H a xs) : ∃ its : List Value, Yd xs its /\ PlainL s.heap a its.toArray /\ xs.length <= sizeLine:=by
  rcases h with h | ⟨o, its, n, hk, hc, hd, hs, hz, r⟩
  . obtain ⟨z, its, n, r, e⟩ := h.ok I.hok
    exact ⟨its, r, ⟨_, n, e, rfl, rfl, rfl⟩, z⟩
  . refine ⟨its.toList, r, ⟨o, n, I.kIn a o hk, hc, hd, by simpa using hs⟩, ?_⟩
    have e:=r.length
    simp only [Array.length_toList] at e
    omega
theorem Inv.tuple (I : Inv X pins σ H s) (h : SqT X.K H a xs) : ∃ its : List Value, Yd xs its /\ IsTup s.heap a its.toArray /\ xs.length <= sizeLine:=by
  rcases h with h | ⟨o, its, n, hk, hc, hs, hz, r⟩
  . obtain ⟨z, its, r, p⟩ := h.ok I.hok
    exact ⟨its, r, p, z⟩
  . refine ⟨its.toList, r, ⟨o, I.kIn a o hk, hc, n, by simpa using hs⟩, ?_⟩
    have e:=r.length
    simp only [Array.length_toList] at e
    omega
theorem Inv.list_inj (I : Inv X pins σ H s) (h : SqL X.K H a xs) (h' : SqL X.K H a ys) : xs = ys:=by
  obtain ⟨its, r, ⟨o, n, e, _, _, d⟩, _⟩:=I.list h
  obtain ⟨its', r', ⟨o', n', e', _, _, d'⟩, _⟩:=I.list h'
  rw [e] at e'; cases e'
  rw [d] at d'
  injection d' with d1 _
  have : its = its':=by simpa using congrArg Array.toList d1
  subst this
  exact r.inj r'
end
noncomputable abbrev Cx.wish (X : Cx) (E : Value -> Shared -> Prop) : Cx:={ X with xe:=E }
noncomputable abbrev Cx.nox (X : Cx) : Cx:=X.wish λ_ _=>False
theorem Cx.Ok.wish {X : Cx} (ok : X.Ok) (E : Value -> Shared -> Prop) : (X.wish E).Ok:=
  ⟨ok.mod, ok.kind, ok.glob, ok.blt, ok.above, ok.inj, ok.has, ok.cab, ok.hd, ok.frames, ok.stk, ok.exf, ok.bs, ok.bsz, ok.noex, ok.exfs, ok.funs, ok.frf⟩
theorem Cx.Ok.unwish {X : Cx} {E : Value -> Shared -> Prop} (ok : (X.wish E).Ok) : X.Ok:=
  ⟨ok.mod, ok.kind, ok.glob, ok.blt, ok.above, ok.inj, ok.has, ok.cab, ok.hd, ok.frames, ok.stk, ok.exf, ok.bs, ok.bsz, ok.noex, ok.exfs, ok.funs, ok.frf⟩
section
variable {X : Cx} {pins : List (Addr × Obj)} {σ : St} {H : Hp} {s : Shared} {E : Value -> Shared -> Prop}
theorem Inv.wish (I : Inv X pins σ H s) (E : Value -> Shared -> Prop) : Inv (X.wish E) pins σ H s:=⟨I.ok.wish E, I.os, I.bare, I.base, I.loc, I.cell, I.free, I.freeC, I.pin, I.hok, I.len⟩
theorem Inv.unwish (I : Inv (X.wish E) pins σ H s) : Inv X pins σ H s:=⟨I.ok.unwish, I.os, I.bare, I.base, I.loc, I.cell, I.free, I.freeC, I.pin, I.hok, I.len⟩
theorem SP.unwish {D : Ends} {f : Flow} {s' : Shared} (h : SP (X.wish E) pins D f s') : SP X pins D f s':=by
  cases f with
  | next=>obtain ⟨σ', H', I, q⟩:=h; exact ⟨σ', H', I.unwish, q⟩
  | brk=>obtain ⟨σ', H', I, q⟩:=h; exact ⟨σ', H', I.unwish, q⟩
  | cont=>obtain ⟨σ', H', I, q⟩:=h; exact ⟨σ', H', I.unwish, q⟩
  | ret u=>obtain ⟨v, σ', H', I, r, q⟩:=h; exact ⟨v, σ', H', I.unwish, r, q⟩
theorem PE.nox {e : Expr} {t : TE} (h : PE X.nox e t) : PE X e t:=λpins s σ H Q I hw=>
  wpAny_mono (h pins s σ H Q (I.wish _) hw) (λ_ _ r9=>by obtain ⟨v, H', I', r, q⟩:=r9; exact ⟨v, H', I'.unwish, r, q⟩) λ_ _ z=>False.elim z
theorem PT.nox {e : Expr} {t : TT} (h : PT X.nox e t) : PT X e t:=λpins s σ H Q I hw=>
  wpAny_mono (h pins s σ H Q (I.wish _) hw) (λ_ _ r9=>by obtain ⟨H', I', q⟩:=r9; exact ⟨H', I'.unwish, q⟩) λ_ _ z=>False.elim z
theorem PSs.nox {st : List Stmt} {t : TS} (h : PSs X.nox st t) : PSs X st t:=λpins s σ H D I hw=>
  wpAny_mono (h pins s σ H D (I.wish _) hw) (λ_ _ q=>q.unwish) λ_ _ z=>False.elim z
end
section
variable {X : Cx} {st : Stmt} {ZN : List Stmt} {t u : TS} {e : Expr} {te : TE} {pos : Pos}
noncomputable def Cp : TS:=λD σ H=>D.nx σ H
noncomputable def VP (t u : TS) : TS:=λD σ H=>t { D with nx:=u D } σ H
theorem Xe : PSs X [] Cp:=λ_ _ σ H _ I h=>wpAny_execs_nil ⟨σ, H, I, h⟩
theorem Xc (h1 : PS X st t) (h2 : PSs X ZN u) : PSs X (st :: ZN) (VP t u):=by
  intro pins s σ H D I h
  refine wpAny_execs_cons (thn (h1 pins s σ H { D with nx:=u D } I h) λf s1 q=>?_)
  cases f with
  | next=>
    obtain ⟨σ', H', I', q⟩:=q
    exact h2 pins s1 σ' H' D I' q
  | ret v=>exact q
  | brk=>exact q
  | cont=>exact q
theorem Inv.quiet {pins : List (Addr × Obj)} {σ : St} {H : Hp} {s : Shared} (I : Inv X pins σ H s) : interactive X.env = false:=by simp [interactive, I.ok.kind]
noncomputable def Dn (te : TE) : TS:=λD σ H=>te σ H λ_ H1=>D.nx σ H1
theorem Y2 (he : PE X e te) (hs : swapsWith e none pos.line X.env = pure false:=by rfl) : PS X (.Expr e pos) (Dn te):=by
  intro pins s σ H D I h
  exact wpAny_Expr_any (thn (he pins s σ H _ I h) λv s1 r9=>by obtain ⟨x, H1, I1, r1, q1⟩:=r9; exact ⟨σ, H1, I1, q1⟩) I.quiet hs
noncomputable def Mm (te : TE) : TS:=λD σ H=>te σ H D.rt
theorem Xs (he : PE X e te) : PS X (.Return (some e) pos) (Mm te):=by
  intro pins s σ H D I h
  exact wpAny_Return_some (thn (he pins s σ H _ I h) λv s1 r9=>by obtain ⟨x, H1, I1, r1, q1⟩:=r9; exact ⟨x, σ, H1, I1, r1, q1⟩)
noncomputable def Lj (c : TT) (t u : TS) : TS:=λD σ H=>c σ H λb H1=>if b = true then t D σ H1 else u D σ H1
theorem Yx {c : Expr} {a b : List Stmt} {tc : TT} (hc : PT X c tc) (ha : PSs X a t) (hb : PSs X b u) : PS X (.If c a b pos) (Lj tc t u):=by
  intro pins s σ H D I h
  refine wpAny_If (thn (hc pins s σ H _ I h) λd s1 r9=>?_)
  obtain ⟨H1, I1, q1⟩:=r9
  cases d with
  | true=>exact ha pins s1 σ H1 D I1 q1
  | false=>exact hb pins s1 σ H1 D I1 q1
noncomputable def Lr : TS:=λ_ _ _=>False
theorem GN : PS X st Lr:=λ_ _ _ _ _ _ h=>h.elim
end
noncomputable abbrev TG:=V -> St -> Hp -> (St -> Hp -> Prop) -> Prop
noncomputable abbrev TGs:=List V -> St -> Hp -> (St -> Hp -> Prop) -> Prop
noncomputable def PG (X : Cx) (target : Expr) (t : TG) : Prop:=
  ∀ (pins : List (Addr × Obj)) (s : Shared) (σ : St) (H : Hp) (v : V) (u : Value) (Q : St -> Hp -> Prop), Inv X pins σ H s -> Yk v u -> t v σ H Q ->
    wpAny (model X.prog X.w) X.A (assign target X.env u) (λ_ s'=>∃ σ' H', Inv X pins σ' H' s' /\ Q σ' H') X.xe s
noncomputable def PGs (X : Cx) (ts : List Expr) (t : TGs) : Prop:=
  ∀ (pins : List (Addr × Obj)) (s : Shared) (σ : St) (H : Hp) (vs : List V) (us : List Value) (Q : St -> Hp -> Prop), Inv X pins σ H s -> Yd vs us -> t vs σ H Q ->
    wpAny (model X.prog X.w) X.A (assignInOrder ((assignEach ts X.env).map (·.2)) us) (λ_ s'=>∃ σ' H', Inv X pins σ' H' s' /\ Q σ' H') X.xe s
noncomputable abbrev Mc:=V -> V -> V -> Hp -> (Hp -> Prop) -> Prop
noncomputable def Mr (X : Cx) (t : Mc) : Prop:=
  ∀ (pins : List (Addr × Obj)) (s : Shared) (σ : St) (H : Hp) (o i v : V) (ov iv u : Value) (Q : Hp -> Prop), Inv X pins σ H s -> Yk o ov -> Yk i iv -> Yk v u -> t o i v H Q ->
    wpAny (model X.prog X.w) X.A (setItem ov iv u) (λ_ s'=>∃ H', Inv X pins σ H' s' /\ Q H') X.xe s
section
variable {X : Cx} {pos : Pos}
noncomputable def Jz (i : Nat) : TG:=λv σ H Q=>Q (σ.set i (some v)) H
theorem Xo {i : Nat} {x : Str} (hN : X.N.Nodup) (hi : X.N[i]? = some x) (hx : Loc X.env.scope x) (hf : X.fn x = true ∨ X.env.scope.names.lookup x = some .local:=by first | exact .inl rfl | exact .inr rfl | assumption) : PG X (.Name x pos) (Jz i):=by
  intro pins s σ H v u Q I r h
  exact wpAny_assign_Name (JT I hN hi hx r (λs' I'=>⟨_, H, I', h⟩) hf)
noncomputable def L0 : TGs:=λvs σ H Q=>vs = [] /\ Q σ H
noncomputable def DG (t : TG) (u : TGs) : TGs:=λvs σ H Q=>∃ v r, vs = v :: r /\ t v σ H λσ' H'=>u r σ' H' Q
theorem Zp : PGs X [] L0:=by
  intro pins s σ H vs us Q I r h
  obtain ⟨e, h⟩:=h
  subst e
  cases r
  exact assignInOrder_nil ⟨σ, H, I, h⟩
theorem XS {e : Expr} {es : List Expr} {t : TG} {u : TGs} (h1 : PG X e t) (h2 : PGs X es u)
    (hs : (assignEach (e :: es) X.env).map (·.2) = assign e X.env :: (assignEach es X.env).map (·.2):=by rfl) : PGs X (e :: es) (DG t u):=by
  intro pins s σ H vs us Q I r h
  obtain ⟨v, vr, e1, h⟩:=h
  subst e1
  cases r with
  | cons r rr=>
    rw [hs]
    refine assignInOrder_cons (thn (h1 pins s σ H _ _ _ I r h) λ_ s1 r9=>?_)
    obtain ⟨σ1, H1, I1, q1⟩:=r9
    exact h2 pins s1 σ1 H1 _ _ Q I1 rr q1
noncomputable def Lx (K : PySem.W.Frag) (n : Nat) (t : TGs) : TG:=λv σ H Q=>∃ a xs, v = .ref a /\ SqT K H a xs /\ xs.length = n /\ t xs σ H Q
theorem QM {es : List Expr} {k : Nat} {t : TGs} {n : Nat} (hc : X.calm = true) (h : PGs X es t)
    (hn : (assignEach es X.env).length = n:=by rfl) (hst : (assignEach es X.env).findIdx? (·.1) = none:=by rfl) : PG X (.Tuple es k pos) (Lx X.K n t):=by
  intro pins s σ H v u Q I r hw
  obtain ⟨a, xs, e1, hq, hl, hw⟩:=hw
  subst e1
  cases r
  obtain ⟨its, rv, ht, hz⟩:=I.tuple hq
  refine assign_Tuple_tuple (I.ok.hd hc) ht (by simp [hn, ← hl, rv.length]) hst λh' hx=>?_
  have I1 : Inv X pins σ H { s with heap:=h' }:=I.kept (t':=s.toks) λb o e=>hx b o (Nat.ne_of_lt (Heap.lt_size e)) e
  exact h pins _ σ H xs _ Q I1 (by simpa using rv) hw
noncomputable def LZ (to ti : TE) (t : Mc) : TG:=λv σ H Q=>to σ H λo H1=>ti σ H1 λi H2=>t o i v H2 λH3=>Q σ H3
theorem Gk {o i : Expr} {to ti : TE} {t : Mc} (ho : PE X o to) (hi : PE X i ti) (hs : Mr X t)
    (ha : ∀ v, assign (.Subscript o i pos) X.env v = (do
      let ov ← holding [v] (eval o X.env)
      let iv ← holding [v, ov] (eval i X.env)
      standAt pos
      holding [v, ov, iv] (setItem ov iv v)
      release [v, ov, iv] []):=by intro _; rfl) : PG X (.Subscript o i pos) (LZ to ti t):=by
  intro pins s σ H v u Q I r h
  rw [ha]
  refine wpAny_bind (wpAny_holding (thn (ho pins s σ H _ I h) λov s1 r9=>?_))
  obtain ⟨x, H1, I1, r1, q1⟩:=r9
  refine wpAny_bind (wpAny_holding (thn (hi pins s1 σ H1 _ I1 q1) λiv s2 r9=>?_))
  obtain ⟨y, H2, I2, r2, q2⟩:=r9
  refine wpAny_bind (wpAny_standAt (wpAny_bind (wpAny_holding (thn (hs pins s2 σ H2 x y v ov iv u _ I2 r1 r2 r q2) λ_ s3 r9=>?_))))
  obtain ⟨H3, I3, q3⟩:=r9
  exact wpAny_release ⟨σ, H3, I3, q3⟩
noncomputable def Ho (te : TE) (g : TG) : TS:=λD σ H=>te σ H λx H1=>g x σ H1 D.nx
theorem GE {tg e : Expr} {te : TE} {g : TG} (he : PE X e te) (hg : PG X tg g) (hs : swapsWithSole [tg] e pos.line X.env = pure false:=by rfl) (hw : swappedStores [tg] e X.env = pure none:=by rfl)
    (h1 : (assignEach [tg] X.env).map (·.2) = [assign tg X.env]:=by rfl) : PS X (.Assign [tg] e pos) (Ho te g):=by
  intro pins s σ H D I h
  refine wpAny_Assign_stores (thn (he pins s σ H _ I h) λv s1 r9=>?_) hs hw
  obtain ⟨x, H1, I1, r1, q1⟩:=r9
  rw [h1]
  exact thn (hg pins s1 σ H1 x v _ I1 r1 q1) λ_ s2 q=>q
theorem XD {i : Nat} {x : Str} {e : Expr} {te : TE} {pos' : Pos} (hN : X.N.Nodup) (hi : X.N[i]? = some x) (hx : Loc X.env.scope x) (he : PE X e te) (hs : swapsWith e (some (.Name x pos')) pos.line X.env = pure false:=by rfl) (hf : X.fn x = true ∨ X.env.scope.names.lookup x = some .local:=by first | exact .inl rfl | exact .inr rfl | assumption) :
    PS X (.Assign [.Name x pos'] e pos) (Ho te (Jz i)):=by
  intro pins s σ H D I h
  refine wpAny_Assign_Name (thn (he pins s σ H _ I h) λv s1 r9=>?_) hs
  obtain ⟨y, H1, I1, r1, q1⟩:=r9
  exact JT I1 hN hi hx r1 (λs2 I2=>⟨_, H1, I2, q1⟩) hf
noncomputable def Ms (i j : Nat) (ta : TA) : TS:=λD σ H=>ta σ H λvs H1=>∃ v w, vs = [v, w] /\ D.nx ((σ.set i (some v)).set j (some w)) H1
theorem Do {i j : Nat} {x y : Str} {a b : Expr} {ta : TA} {px py pt : Pos} {kt k2 pt2} (hc : X.calm = true) (hN : X.N.Nodup) (hi : X.N[i]? = some x) (hj : X.N[j]? = some y) (hij : i ≠ j)
    (hx : X.env.scope.names.lookup x = some .local) (hy : X.env.scope.names.lookup y = some .local) (ha : PA X [a, b] ta)
    (hw : swappedStores [.Tuple [.Name x px, .Name y py] kt pt] (.Tuple [a, b] k2 pt2) X.env = pure (some [x, y]))
    (hs : swapsWithSole [.Tuple [.Name x px, .Name y py] kt pt] (.Tuple [a, b] k2 pt2) pos.line X.env = pure false:=by rfl) :
    PS X (.Assign [.Tuple [.Name x px, .Name y py] kt pt] (.Tuple [a, b] k2 pt2) pos) (Ms i j ta):=by
  intro pins s σ H D I h
  rw [exec_Assign_arm]
  refine wpAny_bind (wpAny_standAt ?_)
  rw [hs]
  refine wpAny_bind (wpAny_pure ?_)
  rw [if_neg (by decide)]
  refine wpAny_bind (Tuple_ (thn (ha _ pins s σ H _ I h) λus s1 r9=>?_))
  obtain ⟨vs, H1, I1, r1, q1⟩:=r9
  obtain ⟨v, w, e1, q1⟩:=q1
  subst e1
  obtain ⟨u1, u2, rfl, rv, rw'⟩ : ∃ u1 u2, us = [u1, u2] /\ Yk v u1 /\ Yk w u2:=by
    cases r1 with
    | cons p q=>
      cases q with
      | cons p' q'=>
        cases q'
        exact ⟨_, _, rfl, p, p'⟩
  refine wpAny_newObj_type ?_ (by show 2 <= sizeLine; decide)
  have I2 : Inv X pins σ H1 { s1 with heap:=s1.heap.push { cls:=.type "tuple", data:=.seq [u1, u2].toArray } }:=I1.kept (t':=s1.toks) λb o e=>Heap.get?_push_of_some _ e
  rw [hw]
  refine wpAny_bind (wpAny_pure ?_)
  show wpAny (model X.prog X.w) X.A (do rule "assign.swapped-stores"; let items ← unpackItems (.ref s1.heap.objs.size) 2 none; assignInOrder [λv=>bindName X.env y v, λv=>bindName X.env x v] items.reverse; pure Flow.next) _ _ _
  refine wpAny_bind (wpAny_rule (wpAny_bind (unpackItems_tuple (items:=#[u1, u2]) (I.ok.hd hc) (IsTup.new s1.heap _) λh' hx'=>?_)))
  have I3:=I2.kept (h':=h') (t':=s1.toks) λb o e=>hx' b o (Nat.ne_of_lt (Heap.lt_size e)) e
  show wpAny _ _ (assignInOrder [λv=>bindName X.env y v, λv=>bindName X.env x v] [u2, u1] >>= λ_=>pure Flow.next) _ _ _
  refine wpAny_bind (assignInOrder_cons (wpAny_bindName (JT I3 hN hj (.inl hy) rw' (λs2 I4=>?_) (.inr hy))))
  refine assignInOrder_cons (wpAny_bindName (JT I4 hN hi (.inl hx) rv (λs3 I5=>assignInOrder_nil (wpAny_pure ?_)) (.inr hx)))
  rw [List.set_comm _ _ (Ne.symm hij)] at I5
  exact ⟨_, H1, I5, q1⟩
end
section
variable {X : Cx} {pos : Pos}
noncomputable def Eg (c : TT) (tb : TS) : TS:=λD σ H=>∃ W : Nat -> St -> Hp -> Prop, (∃ m, W m σ H) /\ ∀ m σ H, W m σ H ->
  c σ H λb H1=>if b = true then ∃ N : St -> Hp -> Prop, (∀ σ' H', N σ' H' -> ∃ m', m' < m /\ W m' σ' H') /\ tb { D with nx:=N, ct:=N, bk:=D.nx } σ H1 else D.nx σ H1
theorem UO {c : Expr} {body : List Stmt} {tc : TT} {tb : TS} (hp : PassesOwn (model X.prog X.w) X.A X.env X.xe) (hc : PT X c tc) (hb : PSs X body tb) : PS X (.While c body [] pos) (Eg tc tb):=by
  intro pins s σ H D I h
  obtain ⟨W, ⟨m0, w0⟩, turn⟩:=h
  refine wpAny_While (codeAny_whileLoop (λn s'=>∃ σ' H', Inv X pins σ' H' s' /\ W n σ' H') ?_ m0 ⟨σ, H, I, w0⟩)
  rintro n s1 ⟨σ1, H1, I1, w1⟩
  refine wpAny_passesOwn hp (thn (hc pins s1 σ1 H1 _ I1 (turn n σ1 H1 w1)) λb s2 r9=>?_)
  obtain ⟨H2, I2, q2⟩:=r9
  cases b with
  | true=>
    obtain ⟨N, hN, q2⟩:=q2
    rw [if_pos rfl]
    refine wpAny_passesOwn hp (thn (hb pins s2 σ1 H2 _ I2 q2) λf s3 q3=>?_)
    cases f with
    | next=>
      obtain ⟨σ3, H3, I3, n3⟩:=q3
      obtain ⟨m', hm, w3⟩:=hN σ3 H3 n3
      exact ⟨m', hm, σ3, H3, I3, w3⟩
    | cont=>
      obtain ⟨σ3, H3, I3, n3⟩:=q3
      obtain ⟨m', hm, w3⟩:=hN σ3 H3 n3
      exact ⟨m', hm, σ3, H3, I3, w3⟩
    | brk=>exact q3
    | ret v=>exact q3
  | false=>
    rw [if_neg Bool.false_ne_true]
    exact wpAny_execs_nil ⟨σ1, H2, I2, q2⟩
end
structure It where
  go : Nat -> Hp -> Prop
  yld : Nat -> Hp -> V -> Hp -> Prop
  stop : Nat -> Hp -> Prop
noncomputable def KQ (X : Cx) (pins : List (Addr × Obj)) (H : Hp) (b : Addr) : Prop:=
  H b = none /\ b ≠ X.env.locals /\ b ∉ X.fs /\ (b ∈ X.ex ∨ X.s₀.heap.objs.size <= b) /\ (∀ x c, X.env.cells.lookup x = some c -> c ≠ b) /\ ∀ p ∈ X.pn ++ pins, p.1 ≠ b
theorem Inv.fpOk {X : Cx} {pins : List (Addr × Obj)} {σ : St} {H H' : Hp} {s : Shared} {b : Addr} (I : Inv X pins σ H s) (hb : s.heap.objs.size <= b) (hn : H' b = none) : KQ X pins H' b:=by
  refine ⟨hn, Nat.ne_of_gt (Nat.lt_of_lt_of_le I.lt hb), I.nofs hb, .inr (Nat.le_trans I.sz hb), λx c e z=>?_, λp hp z=>?_⟩
  . obtain ⟨v, q⟩ := I.cell x c e
    exact absurd (Nat.lt_of_lt_of_le q.lt (by rw [z]; exact hb)) (Nat.lt_irrefl _)
  . exact absurd (Nat.lt_of_lt_of_le (Heap.lt_size (I.pin p hp).1) (by rw [z]; exact hb)) (Nat.lt_irrefl _)
structure Turn (P : Program) (w : World) (K : PySem.W.Frag) (tg : Expr) (J : It) (fp : List Addr) (it : Addr) (tn : Nat -> Heap -> Prop) : Prop where
  mem : it ∈ fp
  obj : ∀ i h, tn i h -> ∀ b ∈ fp, ∃ o, h.get? b = some o /\ ∀ v, o.data ≠ .cell v
  keep : ∀ i h h', tn i h -> (∀ b ∈ fp, ∀ o, h.get? b = some o -> h'.get? b = some o) -> tn i h'
  item : ∀ (X : Cx), X.prog = P -> X.w = w -> X.K = K -> X.calm = true -> ∀ (i : Nat) (pins : List (Addr × Obj)) (s : Shared) (σ : St) (H : Hp) (E : Value -> Shared -> Prop), Inv X pins σ H s -> (∀ b ∈ fp, KQ X pins H b) -> tn i s.heap -> J.go i H ->
    wpAny (model P w) X.A (pyNext (.ref it)) (λr s1=>∃ u, r = some u /\
      wpAny (model P w) X.A (letOwnedTupleGo tg (.ref it) u) (λ_ s2=>∃ x H', Inv X pins σ H' s2 /\ Yk x u /\ J.yld i H x H' /\ tn (i + 1) s2.heap /\ ∀ b ∈ fp, H' b = none) E s1) E s
  done : ∀ (X : Cx), X.prog = P -> X.w = w -> X.K = K -> X.calm = true -> ∀ (i : Nat) (pins : List (Addr × Obj)) (s : Shared) (σ : St) (H : Hp) (E : Value -> Shared -> Prop), Inv X pins σ H s -> (∀ b ∈ fp, KQ X pins H b) -> tn i s.heap -> J.stop i H ->
    wpAny (model P w) X.A (pyNext (.ref it)) (λr s1=>r = none /\ Inv X pins σ H s1) E s
  self : ∀ (A : Around) (i : Nat) (s : Shared) (Q : Value -> Shared -> Prop) (E : Value -> Shared -> Prop), tn i s.heap -> Q (.ref it) s -> wpAny (model P w) A (pyIter (.ref it)) Q E s
noncomputable abbrev TI:=St -> Hp -> (It -> Hp -> Prop) -> Prop
noncomputable def PIE (X : Cx) (pins : List (Addr × Obj)) (σ : St) (tg : Expr) (R : It -> Hp -> Prop) (itv : Value) (s2 : Shared) : Prop:=
  ∃ (it : Addr) (fp : List Addr) (tn : Nat -> Heap -> Prop) (J : It) (H' : Hp), itv = .ref it /\ Inv X pins σ H' s2 /\ Turn X.prog X.w X.K tg J fp it tn /\ tn 0 s2.heap /\ (∀ b ∈ fp, KQ X pins H' b) /\ R J H'
noncomputable def PI (X : Cx) (tg iter : Expr) (wi : TI) : Prop:=
  ∀ (pins : List (Addr × Obj)) (s : Shared) (σ : St) (H : Hp) (R : It -> Hp -> Prop), Inv X pins σ H s -> wi σ H R ->
    wpAny (model X.prog X.w) X.A (eval iter X.env) (λv s1=>wpAny (model X.prog X.w) X.A (pyIter v) (PIE X pins σ tg R) X.xe s1) X.xe s
theorem HY {M : Model} {A : Around} {E : Value -> Shared -> Prop} {s : Shared} {tg : Expr} {it : Addr} {u : Value} {o : Obj} {n : String} {vs : Array Value} {Q : Unit -> Shared -> Prop} (ho : s.heap.get? it = some o) (hc : o.cls = .type n) (hd : o.data = .fields vs)
    (hn : ["enumerate", "zip", "dict_itemiterator", "dict_reverseitemiterator", "odict_iterator", "itertools.zip_longest", "itertools.pairwise"].contains n = false) (hQ : Q () s) : wpAny M A (letOwnedTupleGo tg (.ref it) u) Q E s:=by
  unfold letOwnedTupleGo
  cases tg <;> first
    | exact wpAny_pure hQ
    | (cases u <;> first
        | exact wpAny_pure hQ
        | (refine wpAny_bind (wpAny_load ho ?_)
           rw [hc, hd]
           show wpAny M A (if (["enumerate", "zip", "dict_itemiterator", "dict_reverseitemiterator", "odict_iterator", "itertools.zip_longest", "itertools.pairwise"].contains n && vs[0]? == some (rawInt _)) = true then _ else _) Q E s
           rw [if_neg (by intro h; rw [hn, Bool.false_and] at h; cases h)]
           exact wpAny_pure hQ))
noncomputable def Itl (K : PySem.W.Frag) (a : Addr) : It:=
  ⟨λi H=>∃ xs x, SqL K H a xs /\ xs[i]? = some x, λi H x H'=>H' = H /\ ∀ xs, SqL K H a xs -> xs[i]? = some x, λi H=>∃ xs, SqL K H a xs /\ xs.length <= i⟩
noncomputable def Itr (lo : Int) (n : Nat) : It:=⟨λi _=>i < n, λi H x H'=>H' = H /\ x = .int (lo + i), λi _=>n <= i⟩
theorem Cu {P : Program} {w : World} {K : PySem.W.Frag} {tg : Expr} (a it : Addr) : Turn P w K tg (Itl K a) [it] it (λi h=>h.IsListIter it a i) where
  mem:=by simp
  obj:=λi h st b hb=>by
    have e : b = it:=by simpa using hb
    subst e
    obtain ⟨o, e, c, d⟩:=st
    exact ⟨o, e, λv z=>by rw [d] at z; cases z⟩
  keep:=λi h h' st k=>st.at λo e=>k it (by simp) o e
  item:=by
    intro X hP hw hK hc i pins s σ H E I hf st hg
    subst hP hw hK
    obtain ⟨xs, x, hq, hx⟩:=hg
    obtain ⟨its, rv, p, hz⟩:=I.list hq
    obtain ⟨u, hu, ru⟩:=rv.get hx
    obtain ⟨f0, f1, f2, f3, f4, f5⟩:=hf it (by simp)
    refine wpAny_pyNext_list_item st p.isList (x:=u) (by simpa using hu) λh' st' sb=>?_
    have I1 : Inv X pins σ H { s with heap:=h' }:=I.turned (t':=s.toks) (λb o hb e=>(sb.2 b hb).trans e) f0 f1 f3 f4 f5
    obtain ⟨o, e, c, d⟩:=id st'
    exact ⟨u, rfl, HY (s:={ s with heap:=h' }) e c d (by decide) ⟨x, H, I1, ru, ⟨rfl, λys hy=>by rw [I.list_inj hy hq]; exact hx⟩, st', λb hb=>(hf b hb).1⟩⟩
  done:=by
    intro X hP hw hK hc i pins s σ H E I hf st hg
    subst hP hw hK
    obtain ⟨xs, hq, hx⟩:=hg
    obtain ⟨its, rv, p, hz⟩:=I.list hq
    obtain ⟨f0, f1, f2, f3, f4, f5⟩:=hf it (by simp)
    have hl:=rv.length
    exact wpAny_pyNext_list_end (I.ok.hd hc) st p.isList (by simp; omega) λh' eb=>⟨rfl, I.turned (t':=s.toks) (λb o hb e=>eb b o hb e) f0 f1 f3 f4 f5⟩
  self:=λ_ _ _ _ _ st h=>wpAny_pyIter_listiter st h
theorem FD {P : Program} {w : World} {K : PySem.W.Frag} {tg : Expr} (it : Addr) (lo : Int) (n : Nat) : Turn P w K tg (Itr lo n) [it] it (λi h=>IsRangeIter h it (lo + (i : Nat) * 1) ((n : Int) - (i : Nat)) 1) where
  mem:=by simp
  obj:=λi h st b hb=>by
    have e : b = it:=by simpa using hb
    subst e
    exact ⟨_, st, λv z=>by
      have z' : Data.fields _ = Data.cell v:=z
      cases z'⟩
  keep:=λi h h' st k=>k it (by simp) _ st
  item:=by
    intro X hP hw hK hc i pins s σ H E I hf st hg
    subst hP hw hK
    obtain ⟨f0, f1, f2, f3, f4, f5⟩:=hf it (by simp)
    have W:=Walks.range (prog:=X.prog) (w:=X.w) (I.ok.hd hc) it lo 1 n
    refine W.item i s _ _ hg st λv h' tk hv st' kk=>?_
    obtain ⟨t, rfl⟩:=hv
    have I1 : Inv X pins σ H { s with heap:=h', toks:=tk }:=I.turned (λb o hb e=>kk b o (by simpa using hb) e) f0 f1 f3 f4 f5
    refine ⟨_, rfl, HY (s:={ s with heap:=h', toks:=tk }) (n:="range_iterator") st' rfl rfl (by decide) ⟨.int (lo + i), H, I1, ⟨t, ?_⟩, ⟨rfl, rfl⟩, st', λb hb=>(hf b hb).1⟩⟩
    rw [Int.mul_one]
  done:=by
    intro X hP hw hK hc i pins s σ H E I hf st hg
    subst hP hw hK
    obtain ⟨f0, f1, f2, f3, f4, f5⟩:=hf it (by simp)
    exact wpAny_pyNext_range_end (I.ok.hd hc) st (by have : n <= i:=hg; omega) λh' eb=>⟨rfl, I.turned (t':=s.toks) (λb o hb e=>eb b o hb e) f0 f1 f3 f4 f5⟩
  self:=λ_ _ _ _ _ st h=>wpAny_pyIter_rangeiter st h
section
variable {X : Cx} {tg : Expr}
noncomputable def EN (K : PySem.W.Frag) (tl : TE) : TI:=λσ H R=>tl σ H λx H1=>∃ a, x = .ref a /\ (∃ xs, SqL K H1 a xs) /\ R (Itl K a) H1
theorem EU {l : Expr} {tl : TE} (hl : PE X l tl) : PI X tg l (EN X.K tl):=by
  intro pins s σ H R I h
  refine thn (hl pins s σ H _ I h) λv s1 r9=>?_
  obtain ⟨x, H1, I1, r1, q1⟩:=r9
  obtain ⟨a, e, ⟨xs, hq⟩, q⟩:=q1
  subst e
  cases r1
  obtain ⟨its, rv, p, hz⟩:=I1.list hq
  refine wpAny_pyIter_list p.isList ?_
  refine ⟨s1.heap.objs.size, [s1.heap.objs.size], _, _, H1, rfl, I1.kept (t':=s1.toks) λb o e=>Heap.get?_push_of_some _ e, Cu a _, ⟨_, Heap.get?_push_size _ rfl, rfl, rfl⟩, λb hb=>?_, q⟩
  have e : b = s1.heap.objs.size:=by simpa using hb
  subst e
  exact I1.fpOk (Nat.le_refl _) (I1.hok.fresh (Nat.le_refl _))
theorem BX {pins : List (Addr × Obj)} {σ : St} {H : Hp} {s : Shared} {R : It -> Hp -> Prop} {E : Value -> Shared -> Prop} {lo hi : Int} {t u v : Tok} {tk : Nat} (I : Inv X pins σ H s) (h1 : -(2 ^ 62) <= lo) (h2 : lo < 2 ^ 62) (h3 : -(2 ^ 62) <= hi) (h4 : hi < 2 ^ 62)
    (q : R (Itr lo (hi - lo).toNat) H) : wpAny (model X.prog X.w) X.A (pyIter (.ref s.heap.objs.size)) (PIE X pins σ tg R) E { s with heap:=s.heap.push { cls:=.type "range", data:=.fields #[.int lo t, .int hi u, .int 1 v] }, toks:=tk }:=by
  refine wpAny_pyIter_range (IsRange.new ..) (small_one h1 h2 h3 h4) ?_
  have I1 : Inv X pins σ H { s with heap:=s.heap.push { cls:=.type "range", data:=.fields #[.int lo t, .int hi u, .int 1 v] }, toks:=tk }:=I.kept λb o e=>Heap.get?_push_of_some _ e
  refine ⟨(s.heap.push { cls:=.type "range", data:=.fields #[.int lo t, .int hi u, .int 1 v] }).objs.size, [(s.heap.push { cls:=.type "range", data:=.fields #[.int lo t, .int hi u, .int 1 v] }).objs.size], _, _, H, rfl,
    I1.kept (t':=tk) λb o e=>Heap.get?_push_of_some _ e, FD _ lo (hi - lo).toNat, ?_, λb hb=>?_, q⟩
  . have e1 : lo + ((0 : Nat) : Int) * 1 = lo := by simp
    have e2 : (((hi - lo).toNat : Nat) : Int) - ((0 : Nat) : Int) = Builtin.Range.rangeSize lo hi 1:=by rw [rangeSize_one]; split <;> omega
    show IsRangeIter _ _ (lo + ((0 : Nat) : Int) * 1) ((((hi - lo).toNat : Nat) : Int) - ((0 : Nat) : Int)) 1
    rw [e1, e2]
    exact Heap.get?_push_size _ rfl
  . have e : b = (s.heap.push { cls := .type "range", data := .fields #[.int lo t, .int hi u, .int 1 v] }).objs.size := by simpa using hb
    subst e
    exact I1.fpOk (Nat.le_refl _) (I1.hok.fresh (Nat.le_refl _))
noncomputable def IW (ta : TA) : TI:=λσ H R=>ta σ H λvs H1=>∃ j : Int, vs = [.int j] /\ -(2 ^ 62) <= j /\ j < 2 ^ 62 /\ R (Itr 0 j.toNat) H1
theorem XN {a : Expr} {ta : TA} {p pos : Pos} (hg : Gl X "range") (hm : X.mg "range" = none) (ha : PA X [a] ta) (hs : starEach [a] X.env = [(false, eval a X.env)]:=by rfl) : PI X tg (.Call (.Name "range" p) [a] [] pos) (IW ta):=by
  intro pins s σ H R I h
  refine Call_ (VW I hg hm boot_range (PyProof.Rows.callWith_type1 (thn (ha pos pins s σ H _ I h) λus s1 r9=>?_) hs rfl))
  obtain ⟨vs, H1, I1, r1, q1⟩:=r9
  obtain ⟨j, e, q1, q2, q⟩:=q1
  subst e
  cases r1 with
  | cons r rr=>
    cases rr
    obtain ⟨t, rfl⟩:=r
    exact call_range_1 (BX I1 (by omega) (by omega) q1 q2 (by simpa using q))
noncomputable def LF (wi : TI) (g : TG) (tb : TS) : TS:=λD σ H=>wi σ H λJ H1=>∃ W : Nat -> Nat -> St -> Hp -> Prop, (∃ m, W 0 m σ H1) /\ ∀ i m σ H, W i m σ H ->
  (J.stop i H /\ D.nx σ H) ∨ (J.go i H /\ ∃ N : St -> Hp -> Prop, (∀ σ' H', N σ' H' -> ∃ m', m' < m /\ W (i + 1) m' σ' H') /\ ∀ x H', J.yld i H x H' -> g x σ H' λσ2 H2=>tb { D with nx:=N, ct:=N, bk:=D.nx } σ2 H2)
noncomputable def Kj (fp : List Addr) (h : Heap) : List (Addr × Obj):=fp.filterMap λb=>(h.get? b).map λo=>(b, o)
theorem Je {fp : List Addr} {h : Heap} {b : Addr} {o : Obj} (hb : b ∈ fp) (e : h.get? b = some o) : (b, o) ∈ Kj fp h:=List.mem_filterMap.mpr ⟨b, hb, by rw [e]; rfl⟩
theorem CL {fp : List Addr} {h : Heap} {p : Addr × Obj} (hp : p ∈ Kj fp h) : p.1 ∈ fp /\ h.get? p.1 = some p.2:=by
  obtain ⟨b, hb, e⟩:=List.mem_filterMap.mp hp
  cases q : h.get? b with
  | none=>rw [q] at e; cases e
  | some o=>
    rw [q] at e
    have e' : (b, o) = p:=Option.some.inj e
    subst e'
    exact ⟨hb, q⟩
theorem Inv.pinned {pins : List (Addr × Obj)} {σ : St} {H : Hp} {s : Shared} {fp : List Addr} (I : Inv X pins σ H s) (hf : ∀ b ∈ fp, KQ X pins H b) (ho : ∀ b ∈ fp, ∃ o, s.heap.get? b = some o /\ ∀ v, o.data ≠ .cell v) : Inv X (pins ++ Kj fp s.heap) σ H s:=
  I.pins_of λp hp=>(List.mem_append.mp hp).elim (λz=>I.pin p (List.mem_append_right _ z)) λz=>by
    obtain ⟨hb, e⟩:=CL z
    obtain ⟨f0, f1, f2, _⟩:=hf p.1 hb
    obtain ⟨o, e', d⟩:=ho p.1 hb
    rw [e] at e'; cases e'
    exact ⟨e, f0, f1, f2, d⟩
theorem Inv.unpinned {pins pl : List (Addr × Obj)} {σ : St} {H : Hp} {s : Shared} (I : Inv X (pins ++ pl) σ H s) : Inv X pins σ H s:=I.pins_of λp hp=>I.pin p (List.mem_append_right _ (List.mem_append_left _ hp))
theorem X3 {iter : Expr} {body : List Stmt} {wi : TI} {g : TG} {tb : TS} {pos : Pos} (hp : PassesOwn (model X.prog X.w) X.A X.env X.xe) (hc : X.calm = true) (hi : PI X tg iter wi) (hg : PG X tg g) (hb : PSs X body tb)
    (hs : ∀ x, foldedSetIterable iter X.env x = pure x:=by intro _; rfl) : PS X (.For tg iter body [] pos) (LF wi g tb):=by
  intro pins s σ H D I h
  refine wpAny_For (thn (hi pins s σ H _ I h) λv s1 h1=>thn h1 λitv s2 h2=>?_) hs
  obtain ⟨it, fp, tn, J, H2, e, I2, T, st2, f2, W, ⟨m0, w0⟩, turn⟩:=h2
  subst e
  -- what stays true of the iterator's objects through the loop
  have stat : ∀ {H' : Hp}, (∀ b ∈ fp, H' b = none) -> ∀ b ∈ fp, KQ X pins H' b:=λhn b hb=>⟨hn b hb, (f2 b hb).2⟩
  refine codeAny_forLoop_any (λn s'=>∃ i σ' H', Inv X pins σ' H' s' /\ tn i s'.heap /\ (∀ b ∈ fp, H' b = none) /\ W i n σ' H') ?_ m0 ⟨0, σ, H2, I2, st2, λb hb=>(f2 b hb).1, w0⟩
  rintro n s3 ⟨i, σ3, H3, I3, st3, fr3, w3⟩
  rcases turn i n σ3 H3 w3 with ⟨stop, qn⟩ | ⟨go, N, hN, step⟩
  . refine wpAny_passesOwn hp (thn (T.done X rfl rfl rfl hc i pins s3 σ3 H3 X.xe I3 (stat fr3) st3 stop) λr s4 r9 => ?_)
    obtain ⟨hr, I4⟩:=r9
    subst hr
    exact wpAny_execs_nil ⟨σ3, H3, I4, qn⟩
  . refine wpAny_passesOwn hp (thn (T.item X rfl rfl rfl hc i pins s3 σ3 H3 X.xe I3 (stat fr3) st3 go) λr s4 r9 => ?_)
    obtain ⟨u, hr, h4⟩:=r9
    subst hr
    refine wpAny_passesOwn hp (thn h4 λ_ s5 r9=>?_)
    obtain ⟨x, H5, I5, r5, y5, st5, fr5⟩:=r9
    have I5':=I5.pinned (stat fr5) (T.obj _ _ st5)
    refine wpAny_passesOwn hp (thn (hg _ s5 σ3 H5 x u _ I5' r5 (step x H5 y5)) λ_ s6 r9=>?_)
    obtain ⟨σ6, H6, I6, q6⟩:=r9
    refine wpAny_passesOwn hp (thn (hb _ s6 σ6 H6 _ I6 q6) λf s7 q7=>?_)
    have again : ∀ {σ7 : St} {H7 : Hp}, Inv X (pins ++ Kj fp s5.heap) σ7 H7 s7 -> N σ7 H7 -> ∃ m, m < n /\ ∃ i σ' H', Inv X pins σ' H' s7 /\ tn i s7.heap /\ (∀ b ∈ fp, H' b = none) /\ W i m σ' H':=fun {σ7 H7} I7 n7=>by
      obtain ⟨m', hm, w7⟩:=hN σ7 H7 n7
      refine ⟨m', hm, i + 1, σ7, H7, I7.unpinned, T.keep _ _ _ st5 λb hb o e=>(I7.pin (b, o) (List.mem_append_right _ (List.mem_append_right _ (Je hb e)))).1, λb hb=>?_, w7⟩
      obtain ⟨o, e, d⟩:=T.obj _ _ st5 b hb
      exact (I7.pin (b, o) (List.mem_append_right _ (List.mem_append_right _ (Je hb e)))).2.1
    cases f with
    | next=>obtain ⟨σ7, H7, I7, n7⟩:=q7; exact again I7 n7
    | cont=>obtain ⟨σ7, H7, I7, n7⟩:=q7; exact again I7 n7
    | brk=>obtain ⟨σ7, H7, I7, q7⟩:=q7; exact ⟨σ7, H7, I7.unpinned, q7⟩
    | ret v=>obtain ⟨x7, σ7, H7, I7, r7, q7⟩:=q7; exact ⟨x7, σ7, H7, I7.unpinned, r7, q7⟩
end
noncomputable abbrev R2:=V -> V -> Hp -> VK -> Prop
noncomputable def OpR (X : Cx) (f : Value -> Value -> Sem Value) (r : R2) : Prop:=
  ∀ (pins : List (Addr × Obj)) (s : Shared) (σ : St) (H : Hp) (x y : V) (v u : Value) (Q : VK), Inv X pins σ H s -> Yk x v -> Yk y u -> r x y H Q ->
    wpAny (model X.prog X.w) X.A (f v u) (EP X pins σ Q) X.xe s
noncomputable def Qb (X : Cx) (f : Value) (r : List V -> Hp -> VK -> Prop) : Prop:=
  ∀ (pins : List (Addr × Obj)) (s : Shared) (σ : St) (H : Hp) (xs : List V) (us : List Value) (Q : VK), Inv X pins σ H s -> Yd xs us -> r xs H Q ->
    wpAny (model X.prog X.w) X.A (call f us) (EP X pins σ Q) X.xe s
noncomputable def tOp (r : R2) (ta tb : TE) : TE:=λσ H Q=>ta σ H λx H1=>tb σ H1 λy H2=>r x y H2 Q
noncomputable def rI (C : Int -> Int -> Prop) (g : Int -> Int -> V) : R2:=λx y H Q=>∃ i j, x = .int i /\ y = .int j /\ C i j /\ Q (g i j) H
noncomputable def rI0 (g : Int -> Int -> V) : R2:=λx y H Q=>∃ i j, x = .int i /\ y = .int j /\ Q (g i j) H
section
variable {X : Cx} {a b c : Expr} {ta tb tc : TE} {pos : Pos}
theorem L5 (ha : PE X a ta) (hb : PE X b tb) {pins : List (Addr × Obj)} {s : Shared} {σ : St} {H : Hp} {R : V -> V -> Hp -> Prop} (I : Inv X pins σ H s)
    (h : ta σ H λx H1=>tb σ H1 λy H2=>R x y H2) {Q : Value -> Shared -> Prop} {f : Value -> Value -> Sem Value}
    (hf : ∀ v u s2 x y H2, Inv X pins σ H2 s2 -> Yk x v -> Yk y u -> R x y H2 -> wpAny (model X.prog X.w) X.A (f v u) Q X.xe s2) :
    wpAny (model X.prog X.w) X.A (eval a X.env) (λv s₁=>wpAny (model X.prog X.w) X.A (eval b X.env) (λu s₂=>wpAny (model X.prog X.w) X.A (f v u) Q X.xe s₂) X.xe s₁) X.xe s:=by
  refine thn (ha pins s σ H _ I h) λv s1 r9=>?_
  obtain ⟨x, H1, I1, r1, q1⟩:=r9
  refine thn (hb pins s1 σ H1 _ I1 q1) λu s2 r9=>?_
  obtain ⟨y, H2, I2, r2, q2⟩:=r9
  exact hf v u s2 x y H2 I2 r1 r2 q2
theorem Xy {op : Operator} {r : R2} (ho : OpR X (binaryOp op) r) (ha : PE X a ta) (hb : PE X b tb) : PE X (.BinOp a op b pos) (tOp r ta tb):=by
  intro pins s σ H Q I h
  exact wpAny_BinOp (L5 ha hb I h λv u s2 x y H2 I2 rx ry q=>ho pins s2 σ H2 x y v u Q I2 rx ry q)
theorem opI {f : Value -> Value -> Sem Value} {C : Int -> Int -> Prop} {g : Int -> Int -> Int}
    (rule : ∀ (i j : Int) (t u : Tok) (s : Shared) (Q : Value -> Shared -> Prop) (E : Value -> Shared -> Prop), C i j -> Q (.int (g i j) s.toks) { s with toks:=s.toks + 1 } -> wpAny (model X.prog X.w) X.A (f (.int i t) (.int j u)) Q E s) :
    OpR X f (rI C λi j=>.int (g i j)):=by
  intro pins s σ H x y v u Q I rx ry h
  obtain ⟨i, j, rfl, rfl, hc, q⟩:=h
  obtain ⟨t, rfl⟩:=rx
  obtain ⟨t', rfl⟩:=ry
  exact rule i j t t' s _ _ hc ⟨.int (g i j), H, I.tok _, ⟨_, rfl⟩, q⟩
theorem Mi {f : Value -> Value -> Sem Value} {g : Int -> Int -> Int}
    (rule : ∀ (i j : Int) (t u : Tok) (s : Shared) (Q : Value -> Shared -> Prop) (E : Value -> Shared -> Prop), Q (.int (g i j) s.toks) { s with toks:=s.toks + 1 } -> wpAny (model X.prog X.w) X.A (f (.int i t) (.int j u)) Q E s) :
    OpR X f (rI0 λi j=>.int (g i j)):=by
  intro pins s σ H x y v u Q I rx ry h
  obtain ⟨i, j, rfl, rfl, q⟩:=h
  obtain ⟨t, rfl⟩:=rx
  obtain ⟨t', rfl⟩:=ry
  exact rule i j t t' s _ _ ⟨.int (g i j), H, I.tok _, ⟨_, rfl⟩, q⟩
theorem LD {f : Value -> Value -> Sem Value} {g : Int -> Int -> Bool}
    (rule : ∀ (i j : Int) (t u : Tok) (s : Shared) (Q : Value -> Shared -> Prop) (E : Value -> Shared -> Prop), Q (.bool (g i j)) s -> wpAny (model X.prog X.w) X.A (f (.int i t) (.int j u)) Q E s) :
    OpR X f (rI0 λi j=>.bl (g i j)):=by
  intro pins s σ H x y v u Q I rx ry h
  obtain ⟨i, j, rfl, rfl, q⟩:=h
  obtain ⟨t, rfl⟩:=rx
  obtain ⟨t', rfl⟩:=ry
  exact rule i j t t' s _ _ ⟨.bl (g i j), H, I, rfl, q⟩
noncomputable def Mh (i j : Int) : Prop:=0 <= j /\ j <= 1000000 /\ i.natAbs < 2 ^ 64
noncomputable def LG (i j : Int) : Prop:=(-(2 ^ 64) < i /\ i < 2 ^ 64) ∨ (-(2 ^ 64) < j /\ j < 2 ^ 64)
theorem LG.ok {i j : Int} (h : LG i j) : IntMulOk i j:=by
  rcases h with ⟨h1, h2⟩ | ⟨h1, h2⟩
  . exact .of_left (intBits_le_64 h1 h2)
  . exact .of_right (intBits_le_64 h1 h2)
theorem Yn : OpR X (binaryOp .Add) (rI0 λi j=>.int (i + j)):=Mi λ_ _ _ _ _ _ _ q=>add_int q
theorem Z2 : OpR X (binaryOp .Sub) (rI0 λi j=>.int (i - j)):=Mi λ_ _ _ _ _ _ _ q=>sub_int q
theorem Zx : OpR X (binaryOp .Mult) (rI LG λi j=>.int (i * j)):=opI λ_ _ _ _ _ _ _ hc q=>mul_int q hc.ok
theorem YO : OpR X (binaryOp .Mod) (rI (λ_ j=>0 < j) λi j=>.int (i % j)):=opI λi j _ _ _ _ _ hc q=>by
  have h1 : (0 : Int) < j:=hc
  exact mod_int' (by omega) (by rw [Int.fmod_eq_emod_of_nonneg i (by omega)]; exact q)
theorem En : OpR X (binaryOp .Pow) (rI Mh λi j=>.int (i ^ j.toNat)):=opI λ_ _ _ _ _ _ _ hc q=>pow_int_small hc.1 hc.2.1 hc.2.2 q
end
noncomputable def L4 : V -> V -> Bool
  | .non, .non=>true | .non, .int _=>true | .int _, .non=>true | .non, .bl _=>true | .bl _, .non=>true | .non, .str _=>true | .str _, .non=>true
  | .int _, .int _=>true | .bl _, .bl _=>true | .str _, .str _=>true | .byt _, .byt _=>true
  | .int _, .str _=>true | .str _, .int _=>true | .bl _, .str _=>true | .str _, .bl _=>true
  | _, _=>false
noncomputable def rEq : R2:=λx y H Q=>L4 x y = true /\ Q (.bl (decide (x = y))) H
noncomputable def rNe : R2:=λx y H Q=>L4 x y = true /\ Q (.bl (!decide (x = y))) H
theorem FU {i j : Int} : decide (V.int i = V.int j) = (i == j):=by
  rw [Bool.eq_iff_iff]
  simp
theorem Ek {i j : Bool} : decide (V.bl i = V.bl j) = (i == j):=by
  rw [Bool.eq_iff_iff]
  simp
theorem CV {i j : Str} : decide (V.str i = V.str j) = (i == j):=by
  rw [Bool.eq_iff_iff]
  simp
theorem C0 {i j : Array UInt8} : decide (V.byt i = V.byt j) = (i.toList == j.toList):=by
  rw [Bool.eq_iff_iff]
  cases i
  cases j
  simp
section
variable {X : Cx} {a b c : Expr} {ta tb tc : TE} {pos : Pos}
theorem X4 {pins : List (Addr × Obj)} {σ : St} {H : Hp} {s : Shared} {Q : VK} {k k' : Bool} (I : Inv X pins σ H s) (q : Q (.bl k) H) (e : k = k') : EP X pins σ Q (.bool k') s:=by
  subst e
  exact ⟨.bl k, H, I, rfl, q⟩
theorem ZX : OpR X (compareOp .Eq) rEq:=by
  intro pins s σ H x y v u Q I rx ry h
  obtain ⟨hs, q⟩:=h
  cases x with
  | non=>
    cases rx
    cases y with
    | non=>cases ry; exact PySem.EqNone.eq_none_none (X4 I q (by simp))
    | bl j=>cases ry; exact PySem.EqNone.eq_none_bool (X4 I q (by simp))
    | int j=>obtain ⟨t', rfl⟩:=ry; exact PySem.EqNone.eq_none_int (X4 I q (by simp))
    | str j=>obtain ⟨t', rfl⟩:=ry; exact PySem.EqNone.eq_none_str (X4 I q (by simp))
    | _=>exact absurd (show false = true from hs) Bool.false_ne_true
  | bl i=>
    cases rx
    cases y with
    | non=>cases ry; exact PySem.EqNone.eq_bool_none (X4 I q (by simp))
    | bl j=>cases ry; exact eq_bool (X4 I q Ek)
    | str j=>obtain ⟨t', rfl⟩:=ry; exact PySem.EqMixed.eq_bool_str (X4 I q (by simp))
    | _=>exact absurd (show false = true from hs) Bool.false_ne_true
  | int i=>
    obtain ⟨t, rfl⟩:=rx
    cases y with
    | non=>cases ry; exact PySem.EqNone.eq_int_none (X4 I q (by simp))
    | int j=>obtain ⟨t', rfl⟩:=ry; exact eq_int (X4 I q FU)
    | str j=>obtain ⟨t', rfl⟩:=ry; exact PySem.EqMixed.eq_int_str (X4 I q (by simp))
    | _=>exact absurd (show false = true from hs) Bool.false_ne_true
  | str i=>
    obtain ⟨t, rfl⟩:=rx
    cases y with
    | non=>cases ry; exact PySem.EqNone.eq_str_none (X4 I q (by simp))
    | bl j=>cases ry; exact PySem.EqMixed.eq_str_bool (X4 I q (by simp))
    | int j=>obtain ⟨t', rfl⟩:=ry; exact PySem.EqMixed.eq_str_int (X4 I q (by simp))
    | str j=>obtain ⟨t', rfl⟩:=ry; exact eq_str (X4 I q CV)
    | _=>exact absurd (show false = true from hs) Bool.false_ne_true
  | byt i=>
    obtain ⟨t, rfl⟩:=rx
    cases y with
    | byt j=>obtain ⟨t', rfl⟩:=ry; exact PySem.W.eq_bytes (X4 I q C0)
    | _=>exact absurd (show false = true from hs) Bool.false_ne_true
  | _=>cases y <;> exact absurd (show false = true from hs) Bool.false_ne_true
theorem Dw : OpR X (compareOp .NotEq) rNe:=by
  intro pins s σ H x y v u Q I rx ry h
  obtain ⟨hs, q⟩:=h
  cases x with
  | non=>
    cases rx
    cases y with
    | non=>cases ry; exact PySem.EqNone.ne_none_none (X4 I q (by simp))
    | bl j=>cases ry; exact PySem.EqNone.ne_none_bool (X4 I q (by simp))
    | int j=>obtain ⟨t', rfl⟩:=ry; exact PySem.EqNone.ne_none_int (X4 I q (by simp))
    | str j=>obtain ⟨t', rfl⟩:=ry; exact PySem.EqNone.ne_none_str (X4 I q (by simp))
    | _=>exact absurd (show false = true from hs) Bool.false_ne_true
  | bl i=>
    cases rx
    cases y with
    | non=>cases ry; exact PySem.EqNone.ne_bool_none (X4 I q (by simp))
    | bl j=>cases ry; exact ne_bool (X4 I q (congrArg not Ek))
    | str j=>obtain ⟨t', rfl⟩:=ry; exact PySem.EqMixed.ne_bool_str (X4 I q (by simp))
    | _=>exact absurd (show false = true from hs) Bool.false_ne_true
  | int i=>
    obtain ⟨t, rfl⟩:=rx
    cases y with
    | non=>cases ry; exact PySem.EqNone.ne_int_none (X4 I q (by simp))
    | int j=>obtain ⟨t', rfl⟩:=ry; exact ne_int (X4 I q (congrArg not FU))
    | str j=>obtain ⟨t', rfl⟩:=ry; exact PySem.EqMixed.ne_int_str (X4 I q (by simp))
    | _=>exact absurd (show false = true from hs) Bool.false_ne_true
  | str i=>
    obtain ⟨t, rfl⟩:=rx
    cases y with
    | non=>cases ry; exact PySem.EqNone.ne_str_none (X4 I q (by simp))
    | bl j=>cases ry; exact PySem.EqMixed.ne_str_bool (X4 I q (by simp))
    | int j=>obtain ⟨t', rfl⟩:=ry; exact PySem.EqMixed.ne_str_int (X4 I q (by simp))
    | str j=>obtain ⟨t', rfl⟩:=ry; exact ne_str (X4 I q (congrArg not CV))
    | _=>exact absurd (show false = true from hs) Bool.false_ne_true
  | byt i=>
    obtain ⟨t, rfl⟩:=rx
    cases y with
    | byt j=>obtain ⟨t', rfl⟩:=ry; exact PySem.W.ne_bytes (X4 I q (congrArg not C0))
    | _=>exact absurd (show false = true from hs) Bool.false_ne_true
  | _=>cases y <;> exact absurd (show false = true from hs) Bool.false_ne_true
theorem G9 : OpR X (compareOp .Lt) (rI0 λi j=>.bl (decide (i < j))):=LD λ_ _ _ _ _ _ _ q=>lt_int q
theorem HR : OpR X (compareOp .LtE) (rI0 λi j=>.bl (decide (i <= j))):=LD λ_ _ _ _ _ _ _ q=>le_int q
theorem Da : OpR X (compareOp .Gt) (rI0 λi j=>.bl (decide (j < i))):=LD λ_ _ _ _ _ _ _ q=>gt_int q
theorem IA : OpR X (compareOp .GtE) (rI0 λi j=>.bl (decide (j <= i))):=LD λ_ _ _ _ _ _ _ q=>ge_int q
theorem Ei : OpR X (compareOp .Is) (λx y H Q=>y = .non /\ Q (.bl (decide (x = .non))) H):=by
  intro pins s σ H x y v u Q I rx ry h
  obtain ⟨rfl, q⟩:=h
  cases ry
  refine is_none_gen (X4 I q ?_)
  cases x <;> first
    | (cases rx; rfl)
    | (obtain ⟨t, rfl⟩:=rx; rfl)
theorem UN : OpR X (compareOp .IsNot) (λx y H Q=>y = .non /\ Q (.bl (!decide (x = .non))) H):=by
  intro pins s σ H x y v u Q I rx ry h
  obtain ⟨rfl, q⟩:=h
  cases ry
  refine isnot_none_gen (X4 I q ?_)
  cases x <;> first
    | (cases rx; rfl)
    | (obtain ⟨t, rfl⟩:=rx; rfl)
theorem OpR.or {f : Value -> Value -> Sem Value} {r r' : R2} (h : OpR X f r) (h' : OpR X f r') : OpR X f (λx y H Q=>r x y H Q ∨ r' x y H Q):=by
  intro pins s σ H x y v u Q I rx ry q
  rcases q with q | q
  . exact h pins s σ H x y v u Q I rx ry q
  . exact h' pins s σ H x y v u Q I rx ry q
theorem XB (b : Expr) {op : CmpOp} (h : op ≠ .In:=by decide) (h2 : op ≠ .NotIn:=by decide) : behindInMarks op b = false:=by
  have e1 : (op == CmpOp.In) = false:=by cases op <;> first | rfl | exact absurd rfl h
  have e2 : (op == CmpOp.NotIn) = false:=by cases op <;> first | rfl | exact absurd rfl h2
  cases b <;> simp [behindInMarks, e1, e2]
theorem Hn {op : CmpOp} {r : R2} (ho : OpR X (compareOp op) r) (ha : PE X a ta) (hb : PE X b tb) (hm : behindInMarks op b = false) : PE X (.Compare a [op] [b] pos) (tOp r ta tb):=by
  intro pins s σ H Q I h
  exact wpAny_Compare1 (L5 ha hb I h λv u s2 x y H2 I2 rx ry q=>ho pins s2 σ H2 x y v u Q I2 rx ry q) hm
noncomputable def Iw (t : TE) : TT:=λσ H Q=>t σ H λx H'=>∃ k, x = .bl k /\ Q k H'
theorem Xq {op : CmpOp} {r : R2} (ho : OpR X (compareOp op) r) (ha : PE X a ta) (hb : PE X b tb) (hm : behindInMarks op b = false) : PT X (.Compare a [op] [b] pos) (Iw (tOp r ta tb)):=by
  intro pins s σ H Q I h
  refine wpAny_isTrue_Compare1 (thn (ha pins s σ H _ I h) λv s1 ⟨x, H1, I1, r1, q1⟩=>thn (hb pins s1 σ H1 _ I1 q1) λu s2 ⟨y, H2, I2, r2, q2⟩=>
    thn (ho pins s2 σ H2 x y v u _ I2 r1 r2 q2) λc s3 ⟨z, H3, I3, r3, k, e, q3⟩=>?_) hm
  subst e
  cases r3
  exact wpAny_truthy_bool ⟨H3, I3, q3⟩
theorem Go : (sizeLine : Nat) < 2 ^ 63:=by rw [sizeLine_eq]; decide
theorem UU {x : V} {us : List Value} (r : Yd [x] us) : ∃ u, us = [u] /\ Yk x u:=by
  cases r with
  | cons r1 r2=>cases r2; exact ⟨_, rfl, r1⟩
theorem LU {x y : V} {us : List Value} (r : Yd [x, y] us) : ∃ u w', us = [u, w'] /\ Yk x u /\ Yk y w':=by
  cases r with
  | cons r1 r2=>
    cases r2 with
    | cons r3 r4=>cases r4; exact ⟨_, _, rfl, r1, r3⟩
theorem GY : Qb X (.builtin "abs") (λxs H Q=>∃ i, xs = [.int i] /\ Q (.int (if i < 0 then -i else i)) H):=by
  intro pins s σ H xs us Q I r h
  obtain ⟨i, rfl, q⟩:=h
  obtain ⟨u, rfl, t, rfl⟩:=UU r
  exact call_abs_int λu tk=>⟨.int (if i < 0 then -i else i), H, I.tok _, ⟨_, rfl⟩, q⟩
theorem Kb (hc : X.calm = true) : Qb X (.builtin "min") (λxs H Q=>∃ i j, xs = [.int i, .int j] /\ Q (.int (if j < i then j else i)) H):=by
  intro pins s σ H xs us Q I r h
  obtain ⟨i, j, rfl, q⟩:=h
  obtain ⟨u, w', rfl, ⟨t, rfl⟩, ⟨t', rfl⟩⟩:=LU r
  refine min_two_ints (I.ok.hd hc) λh' tk k=>⟨_, H, I.kept k, ?_, q⟩
  by_cases hj : j < i
  . rw [if_pos hj, if_pos hj]; exact ⟨_, rfl⟩
  . rw [if_neg hj, if_neg hj]; exact ⟨_, rfl⟩
end
section
variable {prog : Program} {w : World} {A : Around} {E : Value -> Shared -> Prop} {s : Shared} {K : PySem.W.Frag} {x dx C f : Addr} {mA : Str -> Option Value} {name : Str} {v : Value}
end
theorem FG.some_of {v : V} {o : Option Value} (r : FG (some v) o) : ∃ u, o = some u /\ Yk v u:=by
  cases o with
  | none=>exact (show False from r).elim
  | some u=>exact ⟨u, rfl, r⟩
section
variable {P : Program} {w : World} {H H' : Hp} {h h' : Heap} {a C dx : Addr} {fs fs' : List (Str × V)}
end
structure Cls (K : PySem.W.Frag) (C : Addr) : Prop where
  pg : PySem.W.plainGet K C Str.empty = true
  hd : PySem.W.hasDictIn K C = true
  po : PySem.W.plainOver K C = true
  sa : PySem.W.findIn K (.ref C) "__setattr__" = some (some (.builtin "object.__setattr__"))
theorem Cls.get {K : PySem.W.Frag} {C : Addr} (c : Cls K C) (f : Str) : PySem.W.plainGet K C f = true:=c.pg
section
variable {X : Cx} {pins : List (Addr × Obj)} {σ : St} {H : Hp} {s : Shared} {a C dx : Addr} {fs : List (Str × V)} {f : Str} {v : V} {A : Around} {E : Value -> Shared -> Prop}
theorem Inv.made (I : Inv X pins σ H s) : Inv X pins σ (upd (upd H s.heap.objs.size (.own (s.heap.objs.size + 1))) (s.heap.objs.size + 1) (.ins C s.heap.objs.size []))
    { s with heap:=(s.heap.push PySem.W.emptyDict).push (PySem.W.instObj C s.heap.objs.size) }:=by
  have e1 : (s.heap.push PySem.W.emptyDict).get? s.heap.objs.size = some PySem.W.emptyDict:=Heap.get?_push_size s.heap rfl
  have e2 : ((s.heap.push PySem.W.emptyDict).push (PySem.W.instObj C s.heap.objs.size)).get? (s.heap.objs.size + 1) = some (PySem.W.instObj C s.heap.objs.size):=by
    have:=Heap.get?_push_size (s.heap.push PySem.W.emptyDict) (o:=PySem.W.instObj C s.heap.objs.size) rfl
    rwa [Heap.size_push] at this
  have e3 : (s.heap.push PySem.W.emptyDict).Ns s.heap.objs.size (λ_=>none):=⟨PySem.W.emptyDict, #[], _, e1, rfl, (λe he=>absurd he (by simp)), λ_=>rfl⟩
  have I1:=I.laid (a:=s.heap.objs.size) (o:=.own (s.heap.objs.size + 1)) (h':=s.heap.push PySem.W.emptyDict) (t':=s.toks) (λb u q=>Heap.get?_push_of_some _ q) (Nat.le_refl _) ⟨_, e1⟩
  refine I1.laid (a:=s.heap.objs.size + 1) (o:=.ins C s.heap.objs.size []) (t':=s.toks) (λb u q=>Heap.get?_push_of_some _ q) (Nat.le_of_eq (Heap.size_push _ _)) ?_
  have ne : s.heap.objs.size ≠ s.heap.objs.size + 1:=Nat.ne_of_lt (Nat.lt_succ_self _)
  refine ⟨by rw [Xw ne, X8], Nat.zero_le _, ne, e2, λ_=>none, (Heap.Ns1.of_empty e3).at λo q=>Heap.get?_push_of_some _ q, λ_=>True.intro, λy hy=>absurd rfl hy⟩
end
section
variable {X : Cx} {o e value : Expr} {f : Str} {pos pos' tpos : Pos} {ta tv : TE}
end
section
variable {X : Cx} {pins : List (Addr × Obj)} {σ : St} {H : Hp} {s : Shared} {A : Around} {E : Value -> Shared -> Prop} {Q : Value -> Shared -> Prop} {c : Value} {b : Bool}
end
structure Room (k : Nat) (A : Around) : Prop where
  hd : A.handled = none
  dp : A.depth + 3 * k + 5 < recursionLimit
  un : A.units + 16 * k + 200 < cLine
theorem Room.mono {j k : Nat} {A : Around} (r : Room k A) (h : j <= k) : Room j A:=⟨r.hd, by have:=r.dp; omega, by have:=r.un; omega⟩
theorem Room.deeper {k : Nat} {A : Around} (r : Room (k + 1) A) (env : Env) : Room k (A.deeper env):=
  ⟨r.hd, by have:=r.dp; show A.depth + 1 + 3 * k + 5 < _; omega, by have:=r.un; show A.units + 3 + 16 * k + 200 < _; omega⟩
theorem Room.in1 {k : Nat} {A : Around} (r : Room (k + 1) A) : Room k A.in1:=
  ⟨r.hd, by have:=r.dp; show A.depth + 3 * k + 5 < _; omega, by have:=r.un; show A.units + 1 + 16 * k + 200 < _; omega⟩
theorem Room.depth {k : Nat} {A : Around} (r : Room k A) : A.depth < recursionLimit:=by have:=r.dp; omega
theorem Room.units {k : Nat} {A : Around} (r : Room k A) : A.units + 64 < cLine:=by have:=r.un; omega
noncomputable def Z1 : TA:=λ_ H Q=>Q [] H
noncomputable def XG (ta : TE) (tr : TA) : TA:=λσ H Q=>ta σ H λx H1=>tr σ H1 λxs H2=>Q (x :: xs) H2
section
variable {X : Cx} {e : Expr} {es : List Expr} {te : TE} {t : TA} {pos : Pos}
theorem Xf : PA X [] Z1:=λ_ _ _ _ H Q I h=>Calls.spliced_nil ⟨[], H, I, .nil, h⟩
theorem Xd (ha : PE X e te) (hr : PA X es t) (hs : starEach (e :: es) X.env = (false, eval e X.env) :: starEach es X.env:=by rfl) : PA X (e :: es) (XG te t):=by
  intro pos pins s σ H Q I h
  rw [hs]
  show wpAny _ _ (spliced ((false, eval e X.env) :: backTo pos (starEach es X.env))) _ _ s
  refine Calls.spliced_cons (thn (ha pins s σ H _ I h) λu s1 r9=>?_)
  obtain ⟨x, H1, I1, r1, q1⟩:=r9
  exact thn (hr pos pins s1 σ H1 _ I1 q1) λus s2 r9=>by obtain ⟨xs, H2, I2, r2, q2⟩:=r9; exact ⟨x :: xs, H2, I2, .cons r1 r2, q2⟩
noncomputable def IK (t : TA) : TE:=λσ H Q=>t σ H λxs H1=>xs.length <= sizeLine /\ ∀ p, H1 p = none -> Q (.ref p) (upd H1 p (.tup xs))
noncomputable def BE (t : TA) : TE:=λσ H Q=>t σ H λxs H1=>xs.length <= sizeLine /\ ∀ p, H1 p = none -> Q (.ref p) (upd H1 p (.lst xs))
theorem QO {x1} (h : PA X es t) : PE X (.Tuple es x1 pos) (IK t):=by
  intro pins s σ H Q I hq
  refine wpAny_Tuple_spliced (thn (h pos pins s σ H _ I hq) λus s1 ⟨xs, H1, I1, r, z, q⟩=>⟨by rw [← r.length]; exact z, ?_⟩)
  have hf : H1 s1.heap.objs.size = none:=I1.hok.fresh (Nat.le_refl _)
  refine ⟨.ref s1.heap.objs.size, upd H1 s1.heap.objs.size (.tup xs), I1.laid (t':=s1.toks) (λb u e=>Heap.get?_push_of_some _ e) (Nat.le_refl _) ?_, rfl, q _ hf⟩
  exact ⟨z, us, r, ⟨_, Heap.get?_push_size _ rfl, rfl, _, rfl⟩⟩
theorem YG (h : PA X es t) : PE X (.List es pos) (BE t):=by
  intro pins s σ H Q I hq
  refine wpAny_List_spliced (thn (h pos pins s σ H _ I hq) λus s1 ⟨xs, H1, I1, r, z, q⟩=>⟨by rw [← r.length]; exact z, ?_⟩)
  have hf : H1 s1.heap.objs.size = none:=I1.hok.fresh (Nat.le_refl _)
  refine ⟨.ref s1.heap.objs.size, upd H1 s1.heap.objs.size (.lst xs), I1.laid (t':=s1.toks) (λb u e=>Heap.get?_push_of_some _ e) (Nat.le_refl _) ?_, rfl, q _ hf⟩
  exact ⟨z, us, 0, r, Heap.get?_push_size _ rfl⟩
end
noncomputable abbrev Sp:=List V -> Hp -> VK -> XK -> Prop
noncomputable abbrev CXT:=List Env -> Hp -> Shared -> XK -> Value -> Shared -> Prop
structure Env0 (P : Program) (w : World) (K : PySem.W.Frag) (mg : Str -> Option Value) (base : Heap) (A : Around) (outer : List Env) (s : Shared) (H : Hp) : Prop where
  frames : A.frames = some outer
  mod : Mod K mg base
  bs : ∀ b o, base.get? b = some o -> s.heap.get? b = some o /\ H b = none
  bsz : base.objs.size <= s.heap.objs.size
  funs : s.heap.FunFrames base outer
  frf : ∀ b ∈ frs outer, H b = none
  hok : HOk P w H s.heap
  bare : AllBare s.gens
noncomputable def CE (outer : List Env) (P : Program) (w : World) (H : Hp) (s : Shared) (Q : VK) (u : Value) (s' : Shared) : Prop:=
  ∃ v H', s'.os = s.os /\ AllBare s'.gens /\ Un (frs outer) [] H H' s.heap s'.heap /\ HOk P w H' s'.heap /\ Yk v u /\ Q v H'
noncomputable def CR (CX : CXT) (outer : List Env) (P : Program) (w : World) (H : Hp) (s : Shared) (Q : VK) (E : XK) (r : Result) (s' : Shared) : Prop:=
  match r with
  | .ok (.ret u)=>CE outer P w H s Q u s'
  | .ok _=>False
  | .error e=>CX outer H s E e s'
structure FnOk (P : Program) (w : World) (K : PySem.W.Frag) (mg : Str -> Option Value) (base : Heap) (CX : CXT) (k : Nat) (f : Addr) (fd : FuncData) (ps : List Str) (sp : Sp) : Prop where
  len : ∀ vs H Q E, sp vs H Q E -> vs.length = ps.length
  run : ∀ (A : Around) (outer : List Env) (s : Shared) (H : Hp) (args : Args) (us : List Value) (vs : List V) (Q : VK) (E : XK), Room k A -> Env0 P w K mg base A outer s H -> BindsTo s fd args (ps.zip us) -> Yd vs us -> sp vs H Q E ->
    codeAny (model P w) A (.call (.ref f) args) (CR CX outer P w H s Q E) s
theorem FnOk.mono {P : Program} {w : World} {K : PySem.W.Frag} {mg : Str -> Option Value} {base : Heap} {CX : CXT} {j k : Nat} {f : Addr} {fd : FuncData} {ps : List Str} {sp : Sp} (F : FnOk P w K mg base CX j f fd ps sp) (h : j <= k) :
    FnOk P w K mg base CX k f fd ps sp:=⟨F.len, λA outer s H args us vs Q E hr=>F.run A outer s H args us vs Q E (hr.mono h)⟩
theorem FnOk.imp {P : Program} {w : World} {K : PySem.W.Frag} {mg : Str -> Option Value} {base : Heap} {CX : CXT} {k : Nat} {f : Addr} {fd : FuncData} {ps : List Str} {sp sp' : Sp} (F : FnOk P w K mg base CX k f fd ps sp)
    (h : ∀ vs H Q E, sp' vs H Q E -> sp vs H Q E) : FnOk P w K mg base CX k f fd ps sp':=
  ⟨λvs H Q E q=>F.len vs H Q E (h _ _ _ _ q), λA outer s H args us vs Q E hr he hb hv hs=>F.run A outer s H args us vs Q E hr he hb hv (h _ _ _ _ hs)⟩
theorem Env0.in1 {P : Program} {w : World} {K : PySem.W.Frag} {mg : Str -> Option Value} {base : Heap} {A : Around} {outer : List Env} {s : Shared} {H : Hp} (e : Env0 P w K mg base A outer s H) :
    Env0 P w K mg base A.in1 outer s H:=⟨e.frames, e.mod, e.bs, e.bsz, e.funs, e.frf, e.hok, e.bare⟩
section
variable {X : Cx} {pins : List (Addr × Obj)} {σ : St} {H : Hp} {s s' : Shared}
theorem Inv.env0 (I : Inv X pins σ H s) : Env0 X.prog X.w X.K X.mg X.base X.A X.stack s H:=
  ⟨I.ok.frames, I.ok.mod, I.bs, Nat.le_trans I.ok.bsz I.sz, I.stack, I.stkFree, I.hok, I.bare⟩
theorem Inv.after {Q : VK} {u : Value} (I : Inv X pins σ H s) (h : CE X.stack X.prog X.w H s Q u s') : EP X pins σ Q u s':=by
  obtain ⟨v, H', os, bare, un, hok, r, q⟩:=h
  obtain ⟨hh, g, d, t, os'⟩:=s'
  obtain rfl : os' = s.os:=os
  exact ⟨v, H', I.call (h':=hh) (g':=g) (d':=d) (t':=t) (ch:=[]) un hok bare (λb z=>absurd z (by simp)), r, q⟩
end
noncomputable def Fz (sp : Sp) (dvs : List V) (E : XK) (t : TA) : TE:=λσ H Q=>t σ H λvs H1=>sp (vs ++ dvs) H1 Q E
noncomputable def KL (K : PySem.W.Frag) (fd : FuncData) (ps : List Str) (ds : List Value) : Prop:=
  ∀ (s : Shared) (us : List Value), K.In s.heap -> (us ++ ds).length = ps.length -> BindsTo s fd ⟨us, []⟩ (ps.zip (us ++ ds))
theorem KL.all {K : PySem.W.Frag} {fd : FuncData} {ps : List Str} (h : ∀ us : List Value, us.length = ps.length -> bindArgs fd ⟨us, []⟩ = pure (ps.zip us)) : KL K fd ps []:=λs us _ hl=>by
  rw [List.append_nil] at hl ⊢
  exact .of_eq (h us hl)
noncomputable def Cf (CX : CXT) (X : Cx) (E : XK) : Prop:=∀ (pins : List (Addr × Obj)) (σ : St) (H : Hp) (s : Shared) (e : Value) (s' : Shared), Inv X pins σ H s -> CX X.stack H s E e s' -> X.xe e s'
section
variable {X : Cx} {CX : CXT} {k : Nat} {f C : Addr} {fd : FuncData} {ps : List Str} {sp : Sp} {dvs : List V} {ds : List Value} {E : XK} {x m : Str} {p pos apos : Pos} {e o : Expr} {es : List Expr} {ta : TE} {t : TA}
theorem IF {pins : List (Addr × Obj)} {σ : St} {H : Hp} {s : Shared} {Q : VK} {us : List Value} {vs : List V} (F : FnOk X.prog X.w X.K X.mg X.base CX k f fd ps sp) (hr : Room k X.A) (hb : KL X.K fd ps ds) (hd : Yd dvs ds) (hx : Cf CX X E)
    (I : Inv X pins σ H s) (r : Yd vs us) (h : sp (vs ++ dvs) H Q E) : wpAny (model X.prog X.w) X.A (call (.ref f) us) (EP X pins σ Q) X.xe s:=by
  have r2 : Yd (vs ++ dvs) (us ++ ds):=r.append hd
  have hl : (us ++ ds).length = ps.length:=by rw [← r2.length]; exact F.len _ _ _ _ h
  refine wpAny_call (codeAny_mono (F.run X.A X.stack s H ⟨us, []⟩ (us ++ ds) (vs ++ dvs) Q E hr I.env0 (hb s us I.kIn hl) r2 h) λr s' hq=>?_)
  cases r with
  | error e=>exact hx pins σ H s e s' I hq
  | ok fl=>
    cases fl with
    | ret u=>exact I.after hq
    | next=>exact False.elim hq
    | brk=>exact False.elim hq
    | cont=>exact False.elim hq
theorem Hr (F : FnOk X.prog X.w X.K X.mg X.base CX k f fd ps sp) (hr : Room k X.A) (hg : Gl X x) (hm : X.mg x = some (.ref f)) (hk : PySem.W.keepIn X.K (.ref f) = true) (hb : KL X.K fd ps ds) (hd : Yd dvs ds) (hx : Cf CX X E)
    (ha : PA X (e :: es) t) (hdb : (x == ("__debug__" : Str)) = false:=by decide) (he : starEach (e :: es) X.env = (false, eval e X.env) :: starEach es X.env:=by rfl) (hpl : (backTo pos (starEach es X.env)).any (·.1) = false:=by rfl) :
    PE X (.Call (.Name x p) (e :: es) [] pos) (Fz sp dvs E t):=by
  intro pins s σ H Q I h
  refine wpAny_Call_Name_kw (Ca I hg hm ?_ hdb)
  refine PySem.W.callWith_K (h₀:=X.base) I.ok.mod.kin hk (thn (ha pos pins s σ H _ I h) λus s1 ⟨vs, H1, I1, r, q⟩=>⟨I1.kIn, ?_⟩) he hpl
  exact IF F hr hb hd hx I1 r q
end
section
variable {X : Cx} {CX : CXT} {k : Nat} {f C : Addr} {fd : FuncData} {ps ks : List Str} {sp : Sp} {E : XK} {x m : Str} {p pos apos kpos : Pos} {e o : Expr} {es : List Expr} {kws : List Keyword} {te ta : TE} {t tk : TA} {nm : Option Str}
variable {g : List Value -> List Value -> List Value} {gV : List V -> List V -> List V}
end
structure FnScope (N P : List Str) (sc : Scope) : Prop where
  kind : sc.kind = .function
  co : sc.isCoroutine = false
  gen : sc.isGenerator = false
  nd : N.Nodup
  pre : N.take P.length = P
  par : ∀ x ∈ P, sc.names.lookup x = some .local ∨ sc.names.lookup x = some .cell
  nofree : ∀ y ∈ sc.names, y.2 ≠ .free
theorem U7 {kindOf : Str -> Option NameKind} {x : Str} : ∀ {binds : List (Str × Value)} {m : Str -> Option Value}, (∀ v, (x, v) ∉ binds) -> bindL kindOf binds m x = m x
  | [], _, _=>rfl
  | (n, v) :: r, m, h=>by
    unfold bindL
    rw [U7 λw hw=>h w (List.mem_cons_of_mem _ hw)]
    split
    . have : x ≠ n := by rintro rfl; exact h v List.mem_cons_self
      simp [this]
    . rfl
theorem U3 {kindOf : Str -> Option NameKind} {x : Str} : ∀ {binds : List (Str × Value)} {m : Str -> Option Value}, (∀ v, (x, v) ∉ binds) -> bindC kindOf binds m x = m x
  | [], _, _=>rfl
  | (n, v) :: r, m, h=>by
    unfold bindC
    rw [U3 λw hw=>h w (List.mem_cons_of_mem _ hw)]
    split
    . rfl
    . have : x ≠ n := by rintro rfl; exact h v List.mem_cons_self
      simp [this]
theorem Ko {kindOf : Str -> Option NameKind} {x : Str} {v : Value} : ∀ {P : List Str} {vs : List Value} {i : Nat} {m : Str -> Option Value}, P.Nodup -> P[i]? = some x -> vs[i]? = some v -> kindOf x = some .local ->
    bindL kindOf (P.zip vs) m x = some v
  | [], _, _, _, _, h, _, _=>by simp at h
  | _ :: _, [], _, _, _, _, h, _=>by simp at h
  | p :: P, w :: vs, 0, m, nd, h1, h2, hk=>by
    simp at h1 h2; subst h1; subst h2
    show bindL kindOf ((p, w) :: P.zip vs) m p = _
    unfold bindL
    rw [U7 λv hv=>(List.nodup_cons.mp nd).1 (List.of_mem_zip hv).1, if_pos hk]
    simp
  | p :: P, w :: vs, i + 1, m, nd, h1, h2, hk=>by
    show bindL kindOf ((p, w) :: P.zip vs) m x = _
    unfold bindL
    exact Ko (i:=i) (List.nodup_cons.mp nd).2 (by simpa using h1) (by simpa using h2) hk
theorem UZ {kindOf : Str -> Option NameKind} {x : Str} {v : Value} : ∀ {P : List Str} {vs : List Value} {i : Nat} {m : Str -> Option Value}, P.Nodup -> P[i]? = some x -> vs[i]? = some v -> kindOf x ≠ some .local ->
    bindC kindOf (P.zip vs) m x = some v
  | [], _, _, _, _, h, _, _=>by simp at h
  | _ :: _, [], _, _, _, _, h, _=>by simp at h
  | p :: P, w :: vs, 0, m, nd, h1, h2, hk=>by
    simp at h1 h2; subst h1; subst h2
    show bindC kindOf ((p, w) :: P.zip vs) m p = _
    unfold bindC
    rw [U3 λv hv=>(List.nodup_cons.mp nd).1 (List.of_mem_zip hv).1, if_neg hk]
    simp
  | p :: P, w :: vs, i + 1, m, nd, h1, h2, hk=>by
    show bindC kindOf ((p, w) :: P.zip vs) m x = _
    unfold bindC
    exact UZ (i:=i) (List.nodup_cons.mp nd).2 (by simpa using h1) (by simpa using h2) hk
noncomputable def Uv (N : List Str) (vs : List V) : St:=vs.map some ++ List.replicate (N.length - vs.length) none
noncomputable def HA (CX : CXT) (P : Program) (w : World) (K : PySem.W.Frag) (mg : Str -> Option Value) (base : Heap) (N : List Str) (qual : Str) (scope : Scope) (f : Addr) (cd : Value) (A : Around) (outer : List Env) (s : Shared) (H : Hp) (E : XK) : Cx where
  prog:=P
  w:=w
  K:=K
  mg:=mg
  base:=base
  A:=A.deeper (envOfC qual scope s.heap.objs.size f cd)
  N:=N
  s₀:=s
  H₀:=H
  env:=envOfC qual scope s.heap.objs.size f cd
  outer:=outer
  stack:=envOfC qual scope s.heap.objs.size f cd :: outer
  ex:=[]
  calm:=true
  fn:=λ_=>true
  pn:=[]
  xe:=λe s'=>wpAny (model P w) (A.deeper (envOfC qual scope s.heap.objs.size f cd)) (leaving (envOfC qual scope s.heap.objs.size f cd) e) (λ_ s''=>CX outer H s E e s'') (λe' s''=>CX outer H s E e' s'') s'
theorem GI {sc : Scope} {n : Nat} {x : Str} (h : sc.names.lookup x = some .cell) : ∃ c, (cellsFrom n sc.names []).lookup x = some c:=by
  have q:=PySem.W.cellsFrom_some sc.names n [] (.inl h)
  exact Option.isSome_iff_exists.mp q
theorem DK {CX : CXT} {P : Program} {w : World} {K : PySem.W.Frag} {mg : Str -> Option Value} {base : Heap} {N ps : List Str} {qual : Str} {scope : Scope} {f : Addr} {cd : Value} {A : Around} {outer : List Env} {s s1 : Shared} {H : Hp} {E : XK} {us : List Value} {vs : List V}
    (S : FnScope N ps scope) (hd : A.handled = none) (e0 : Env0 P w K mg base A outer s H) (hl : vs.length = ps.length) (r : Yd vs us)
    (x : InCallC s s.heap.objs.size (bindL (envOfC qual scope s.heap.objs.size f cd).kindOf (ps.zip us) λ_=>none) (cellsFrom (s.heap.objs.size + 1) scope.names []) (bindC (envOfC qual scope s.heap.objs.size f cd).kindOf (ps.zip us) λ_=>none) s1) :
    Inv (HA CX P w K mg base N qual scope f cd A outer s H E) [] (Uv N vs) H s1:=by
  have hpl : ps.length <= N.length:=by have:=congrArg List.length S.pre; rw [List.length_take] at this; omega
  obtain ⟨h1, tk, rfl, hk⟩:=x.done
  have noA : ∀ b : Addr, b ∉ (HA CX P w K mg base N qual scope f cd A outer s H E).ex:=λb z=>absurd (show b ∈ ([] : List Addr) from z) (by simp)
  refine ⟨⟨e0.mod, S.kind, rfl, rfl, Nat.le_refl _, λy z c h1 h2=>?_, λy hy=>?_, λy c _ h=>?_, λ_=>hd, Around.frames_deeper e0.frames, .inr ⟨rfl, rfl⟩, λb z=>absurd z (noA b), e0.bs, e0.bsz, λb _ _=>noA b, λb z=>absurd z (noA b), e0.funs, e0.frf⟩,
    rfl, e0.bare, Un.kept hk, ⟨_, x.toInCall.ns, λi y v h1 h2 h3=>?_⟩, λy c h=>⟨_, x.cell y c h⟩, e0.hok.fresh (Nat.le_refl _), λy c h=>?_, λp hp=>absurd (show p ∈ ([] : List (Addr × Obj)) from hp) (by simp), e0.hok.kept hk, ?_⟩
  . exact name_of_addr x.apart (PySem.mem_of_lookup h1) (PySem.mem_of_lookup h2)
  . have hy : scope.names.lookup y = some .cell ∨ scope.names.lookup y = some .free := hy
    rcases hy with hy | hy
    . exact GI hy
    . exact absurd rfl (S.nofree _ (PySem.mem_of_lookup hy))
  . exact Nat.le_of_lt (x.above y c (PySem.mem_of_lookup h))
  . have hi : i < vs.length:=by
      unfold Uv at h2
      by_cases hi : i < vs.length
      . exact hi
      . rw [List.getElem?_append_right (by simpa using hi)] at h2
        rw [List.getElem?_replicate] at h2
        split at h2 <;> cases h2
    have ha : vs[i]? = some v:=by
      unfold Uv at h2
      rw [List.getElem?_append_left (by simpa using hi), List.getElem?_map] at h2
      cases e : vs[i]? with
      | none=>rw [e] at h2; cases h2
      | some a=>rw [e] at h2; cases h2; rfl
    obtain ⟨u, hu, rv⟩:=r.get ha
    have hp : ps[i]? = some y:=by
      rw [← S.pre, List.getElem?_take_of_lt (by omega)]; exact h1
    have ndP : ps.Nodup:=by rw [← S.pre]; exact S.nd.sublist (List.take_sublist _ _)
    refine ⟨u, rv, ?_⟩
    rcases S.par y (List.mem_of_getElem? hp) with k | k
    . exact .inl ⟨k, Ko ndP hp hu k⟩
    . obtain ⟨c, e⟩ := GI (n := s.heap.objs.size + 1) k
      refine .inr ⟨.inl k, c, e, ?_⟩
      have q:=x.cell y c e
      rw [UZ ndP hp hu (by show scope.names.lookup y ≠ _; rw [k]; decide)] at q
      exact q
  . exact e0.hok.fresh (Nat.le_of_lt (x.above y c (PySem.mem_of_lookup h)))
  . unfold Uv
    show _ = N.length
    rw [List.length_append, List.length_map, List.length_replicate]
    omega
theorem LV {CX : CXT} {P : Program} {w : World} {K : PySem.W.Frag} {mg : Str -> Option Value} {base : Heap} {k : Nat} {f : Addr} {name qual : Str} {params : Arguments} {body : List Stmt} {scope : Scope} {dV kV doc pm cdv ct oc : Value} {an od : Option Addr}
    {osl : Array (Option Value)} {N ps : List Str} {sp : Sp} (lk : K.lookup f = some ⟨oc, od, .func (PySem.W.fnOf name qual params body scope dV kV doc pm an cdv ct), osl⟩) (hcd : PySem.W.codeIn K cdv qual = true) (S : FnScope N ps scope)
    (len : ∀ vs H Q E, sp vs H Q E -> vs.length = ps.length)
    (hbody : ∀ (A : Around) (outer : List Env) (s : Shared) (H : Hp) (vs : List V) (Q : VK) (E : XK), Room k (A.deeper (envOfC qual scope s.heap.objs.size f cdv)) -> sp vs H Q E ->
      ∃ t, PSs (HA CX P w K mg base N qual scope f cdv A outer s H E) body t /\ t { nx:=λ_ H'=>Q .non H', rt:=Q } (Uv N vs) H) :
    FnOk P w K mg base CX (k + 1) f (PySem.W.fnOf name qual params body scope dV kV doc pm an cdv ct) ps sp:=by
  refine ⟨len, λA outer s H args us vs Q E hr e0 hb r hsp=>?_⟩
  have hl:=len _ _ _ _ hsp
  have KX : K.In s.heap:=e0.mod.kin.keeps λb o e=>(e0.bs b o e).1
  have lim : s.heap.NoLimit:=e0.mod.nolimit.keeps λb o e=>(e0.bs b o e).1
  have hkind : ∀ y ∈ ps.zip us, scope.names.lookup y.1 = some .local ∨ (scope.names.lookup y.1 = some .cell /\ ((cellsFrom (s.heap.objs.size + 1) scope.names []).lookup y.1).isSome = true):=λ⟨n, v⟩ hy=>by
    rcases S.par n (List.of_mem_zip hy).1 with q | q
    . exact .inl q
    . exact .inr ⟨q, PySem.W.cellsFrom_some _ _ _ (.inl q)⟩
  refine codeAny_call_function hr.depth (KX _ _ lk) rfl S.co S.gen rfl (PySem.W.codeRec_of KX hcd) (hb _ _ _ _ ?_)
  refine wpAny_newFunctionEnv_cells S.kind hkind λenv he s1 x=>?_
  subst he
  refine ⟨lim.keeps x.toInCall.keep, codeAny_func ?_⟩
  obtain ⟨t, ht, hq⟩:=hbody A outer s H vs Q E (hr.deeper _) hsp
  have I : Inv (HA CX P w K mg base N qual scope f cdv A outer s H E) [] (Uv N vs) H s1:=DK S hr.hd e0 hl r x
  refine wpAny_mono (ht [] s1 (Uv N vs) H _ I hq) (λfl s' hs=>?_) λe s' hs=>hs
  have fin : ∀ {σ' : St} {H' : Hp} {v : V} {u : Value}, Inv (HA CX P w K mg base N qual scope f cdv A outer s H E) [] σ' H' s' -> Yk v u -> Q v H' -> CE outer P w H s Q u s':=
    fun {σ' H' v u} J rv q=>⟨v, H', J.os, J.bare, J.base, J.hok, rv, q⟩
  cases fl with
  | ret u=>
    obtain ⟨v, σ', H', J, rv, q⟩:=hs
    exact fin J rv q
  | next=>
    obtain ⟨σ', H', J, q⟩:=hs
    exact fin (v:=V.non) (u:=Value.none) J rfl q
  | brk=>
    obtain ⟨_, _, _, q⟩:=hs
    exact False.elim q
  | cont=>
    obtain ⟨_, _, _, q⟩:=hs
    exact False.elim q
section
variable {X : Cx} {x : Str} {p pos : Pos} {e : Expr} {es : List Expr} {t : TA} {id T : String} {r : List V -> Hp -> VK -> Prop}
noncomputable def tCB (r : List V -> Hp -> VK -> Prop) (t : TA) : TE:=λσ H Q=>t σ H λvs H1=>r vs H1 Q
theorem Xu (hc : Qb X (.builtin id) r) (hg : Gl X x) (hm : X.mg x = none) (hv : bootBuiltins x = some (.builtin id)) (ha : PA X (e :: es) t) (hn : x ≠ "__name__":=by decide) (hdb : (x == ("__debug__" : Str)) = false:=by decide)
    (he : starEach (e :: es) X.env = (false, eval e X.env) :: starEach es X.env:=by rfl) (hpl : (backTo pos (starEach es X.env)).any (·.1) = false:=by rfl) : PE X (.Call (.Name x p) (e :: es) [] pos) (tCB r t):=by
  intro pins s σ H Q I h
  refine wpAny_Call_Name_kw (VW I hg hm hv ?_ hn hdb)
  exact PyProof.Rows.callWith_builtin1 (thn (ha pos pins s σ H _ I h) λus s1 r9=>by obtain ⟨vs, H1, I1, r1, q1⟩:=r9; exact hc pins s1 σ H1 vs us Q I1 r1 q1) he hpl
theorem Z3 (hc : Qb X (.type T) r) (hg : Gl X x) (hm : X.mg x = none) (hv : bootBuiltins x = some (.type T)) (ha : PA X (e :: es) t) (hn : x ≠ "__name__":=by decide) (hdb : (x == ("__debug__" : Str)) = false:=by decide)
    (he : starEach (e :: es) X.env = (false, eval e X.env) :: starEach es X.env:=by rfl) (hpl : (backTo pos (starEach es X.env)).any (·.1) = false:=by rfl) : PE X (.Call (.Name x p) (e :: es) [] pos) (tCB r t):=by
  intro pins s σ H Q I h
  refine wpAny_Call_Name_kw (VW I hg hm hv ?_ hn hdb)
  exact PyProof.Rows.callWith_type1 (thn (ha pos pins s σ H _ I h) λus s1 r9=>by obtain ⟨vs, H1, I1, r1, q1⟩:=r9; exact hc pins s1 σ H1 vs us Q I1 r1 q1) he hpl
end
end L2
namespace HT
open PySem PyProof.Rows
section
open PySem.SeqAt
open PySem.AutoSeq1 (wpAny_loadPart')
open PySem.MeetsSeq PySem.MeetsSeq2 PySem.MeetsSeq3
end
section
variable {prog : Program} {w : World} {A : Around} {E : Value -> Shared -> Prop} {s : Shared}
noncomputable def sIx (n d : Nat) : Option Int -> Nat
  | none=>d
  | some v=>if v < 0 then (v + (n : Int)).toNat else min v.toNat n
theorem sIx_none (n d : Nat) : sIx n d none = d:=rfl
theorem sIx_nat (n d k : Nat) : sIx n d (some (k : Int)) = min k n:=by
  show (if (k : Int) < 0 then ((k : Int) + (n : Int)).toNat else min (k : Int).toNat n) = min k n
  rw [if_neg (by omega), Int.toNat_natCast]
end
end HT
namespace L2
open PySem PySem.Spec PyProof.Rows
noncomputable abbrev TO:=St -> Hp -> (Option Int -> Hp -> Prop) -> Prop
noncomputable def PO (X : Cx) (e : Option Expr) (t : TO) : Prop:=
  ∀ (pins : List (Addr × Obj)) (s : Shared) (σ : St) (H : Hp) (Q : Option Int -> Hp -> Prop), Inv X pins σ H s -> t σ H Q ->
    wpAny (model X.prog X.w) X.A (evalPart e X.env) (λu s'=>∃ o H', Inv X pins σ H' s' /\ IsPart u o /\ Q o H') X.xe s
noncomputable def CC : TO:=λ_ H Q=>Q none H
noncomputable def ID (t : TE) : TO:=λσ H Q=>t σ H λx H1=>∃ i, x = .int i /\ Q (some i) H1
section
variable {X : Cx} {e : Expr} {te : TE} {lo hi : Option Expr} {tl th : TO} {pos p2 : Pos}
theorem UC : PO X none CC:=by
  intro pins s σ H Q I h
  rw [evalPart_none]
  exact wpAny_pure ⟨none, H, I, .none, h⟩
theorem Uh (h : PE X e te) : PO X (some e) (ID te):=by
  intro pins s σ H Q I hw
  rw [evalPart_some]
  refine thn (h pins s σ H _ I hw) λu s1 r9=>?_
  obtain ⟨x, H1, I1, r1, q1⟩:=r9
  obtain ⟨i, rfl, q⟩:=q1
  obtain ⟨t, rfl⟩:=r1
  exact ⟨some i, H1, I1, .int i t, q⟩
noncomputable def SlR (X : Cx) (r : V -> Option Int -> Option Int -> Hp -> VK -> Prop) : Prop:=
  ∀ (pins : List (Addr × Obj)) (s : Shared) (σ : St) (H : Hp) (x : V) (v vl vu : Value) (lo hi : Option Int) (sl : Addr) (Q : VK), Inv X pins σ H s -> Yk x v -> s.heap.IsSliceOf sl vl vu .none -> IsPart vl lo -> IsPart vu hi -> r x lo hi H Q ->
    ∃ T id, typeLookup (.type T) "__getitem__" = pure (some (.builtin id)) /\ s.TypeIs v T /\ wpAny (model X.prog X.w) X.A (getItem v (.ref sl)) (EP X pins σ Q) X.xe s
theorem SlR.or {r r' : V -> Option Int -> Option Int -> Hp -> VK -> Prop} (h : SlR X r) (h' : SlR X r') : SlR X (λx lo hi H Q=>r x lo hi H Q ∨ r' x lo hi H Q):=by
  intro pins s σ H x v vl vu lo hi sl Q I rx hs pl pu q
  rcases q with q | q
  . exact h pins s σ H x v vl vu lo hi sl Q I rx hs pl pu q
  . exact h' pins s σ H x v vl vu lo hi sl Q I rx hs pl pu q
noncomputable def tSl (r : V -> Option Int -> Option Int -> Hp -> VK -> Prop) (te : TE) (tl th : TO) : TE:=λσ H Q=>te σ H λx H1=>tl σ H1 λl H2=>th σ H2 λu H3=>r x l u H3 Q
theorem JS {r : V -> Option Int -> Option Int -> Hp -> VK -> Prop} (hr : SlR X r) (he : PE X e te) (hl : PO X lo tl) (hu : PO X hi th) : PE X (.Subscript e (.Slice lo hi none p2) pos) (tSl r te tl th):=by
  intro pins s σ H Q I h
  refine Subscript_ (thn (he pins s σ H _ I h) λv s1 r9=>?_)
  obtain ⟨x, H1, I1, r1, q1⟩:=r9
  refine wpAny_Slice (thn (hl pins s1 σ H1 _ I1 q1) λvl s2 ⟨l, H2, I2, pl, q2⟩=>thn (hu pins s2 σ H2 _ I2 q2) λvu s3 r9=>?_)
  obtain ⟨u, H3, I3, pu, q3⟩:=r9
  rw [evalPart_none]
  refine wpAny_pure ?_
  have I4 : Inv X pins σ H3 { s3 with heap:=s3.heap.push { cls:=.type "slice", data:=.fields #[vl, vu, .none] } }:=I3.kept (t':=s3.toks) λb ob q=>Heap.get?_push_of_some _ q
  obtain ⟨T, id, hT, ht, hg⟩:=hr pins { s3 with heap:=s3.heap.push { cls:=.type "slice", data:=.fields #[vl, vu, .none] } } σ H3 x v vl vu l u s3.heap.objs.size Q I4 r1 (Heap.IsSliceOf.new ..) pl pu q3
  show wpAny (model X.prog X.w) X.A (subscriptTail e (.Slice lo hi none p2) v (.ref s3.heap.objs.size)) (EP X pins σ Q) X.xe { s3 with heap:=s3.heap.push { cls:=.type "slice", data:=.fields #[vl, vu, .none] } }
  exact tail_any (ops:=[.ref s3.heap.objs.size, v]) ht hT hg (by with_unfolding_all rfl)
noncomputable def Ih (xs : List V) (lo hi : Option Int) : List V:=(xs.drop (HT.sIx xs.length 0 lo)).take (HT.sIx xs.length xs.length hi - HT.sIx xs.length 0 lo)
theorem KN (xs : List V) (lo hi : Option Int) : (Ih xs lo hi).length <= xs.length:=by
  unfold Ih
  rw [List.length_take, List.length_drop]
  omega
end
noncomputable def ixN (n : Nat) (i : Int) : Option Nat:=if 0 <= i then (if i < n then some i.toNat else none) else if -(n : Int) <= i then some (i + n).toNat else none
noncomputable def atI {α : Type} (xs : List α) (i : Int) : Option α:=(ixN xs.length i).bind λj=>xs[j]?
theorem Dq {n : Nat} {i : Int} {j : Nat} (h : ixN n i = some j) : seqIndex? i n = some j /\ j < n /\ -(n : Int) <= i /\ i < n:=by
  unfold ixN at h
  by_cases h0 : 0 <= i
  . rw [if_pos h0] at h
    by_cases h1 : i < n
    . rw [if_pos h1] at h
      have e : i.toNat = j:=Option.some.inj h
      exact ⟨by rw [seqIndex_of h0 h1, e], by omega, by omega, h1⟩
    . rw [if_neg h1] at h; cases h
  . rw [if_neg h0] at h
    by_cases h1 : -(n : Int) <= i
    . rw [if_pos h1] at h
      have e : (i + n).toNat = j:=Option.some.inj h
      exact ⟨by rw [seqIndex_neg (by omega) h1, e], by omega, h1, by omega⟩
    . rw [if_neg h1] at h; cases h
theorem DI {α : Type} {xs : List α} {i : Int} {v : α} (h : atI xs i = some v) : ∃ j, seqIndex? i xs.length = some j /\ xs[j]? = some v /\ j < xs.length /\ -(xs.length : Int) <= i /\ i < xs.length:=by
  unfold atI at h
  cases e : ixN xs.length i with
  | none=>rw [e] at h; cases h
  | some j=>
    rw [e] at h
    obtain ⟨h1, h2, h3, h4⟩:=Dq e
    exact ⟨j, h1, h, h2, h3, h4⟩
noncomputable def EV (b : Expr) : Prop:=∀ o i, subscripted b false o i = operate [o, i] (getItem o i)
noncomputable def IxR (X : Cx) (r : R2) : Prop:=
  ∀ (value slice : Expr) (pins : List (Addr × Obj)) (s : Shared) (σ : St) (H : Hp) (x y : V) (v u : Value) (Q : VK), Inv X pins σ H s -> Yk x v -> Yk y u -> r x y H Q ->
    subscripted slice false v u = operate [v, u] (getItem v u) -> wpAny (model X.prog X.w) X.A (subscriptTail value slice v u) (EP X pins σ Q) X.xe s
noncomputable def MtR (X : Cx) (id : String) (r : V -> List V -> Hp -> VK -> Prop) : Prop:=
  ∀ (pins : List (Addr × Obj)) (s : Shared) (σ : St) (H : Hp) (x : V) (xs : List V) (v : Value) (us : List Value) (Q : VK), Inv X pins σ H s -> Yk x v -> Yd xs us -> r x xs H Q ->
    wpAny (model X.prog X.w) X.A (call (.builtin id) (v :: us)) (EP X pins σ Q) X.xe s
section
variable {X : Cx} {a b : Expr} {ta tb : TE} {pos : Pos}
theorem IxR.or {r r' : R2} (h : IxR X r) (h' : IxR X r') : IxR X (λx y H Q=>r x y H Q ∨ r' x y H Q):=by
  intro value slice pins s σ H x y v u Q I rx ry q hs
  rcases q with q | q
  . exact h value slice pins s σ H x y v u Q I rx ry q hs
  . exact h' value slice pins s σ H x y v u Q I rx ry q hs
theorem MtR.or {id : String} {r r' : V -> List V -> Hp -> VK -> Prop} (h : MtR X id r) (h' : MtR X id r') : MtR X id (λx xs H Q=>r x xs H Q ∨ r' x xs H Q):=by
  intro pins s σ H x xs v us Q I rx rs q
  rcases q with q | q
  . exact h pins s σ H x xs v us Q I rx rs q
  . exact h' pins s σ H x xs v us Q I rx rs q
theorem XJ {r : R2} (hr : IxR X r) (ha : PE X a ta) (hb : PE X b tb) (hs : EV b) : PE X (.Subscript a b pos) (tOp r ta tb):=by
  intro pins s σ H Q I h
  exact Subscript_ (L5 ha hb I h λv u s2 x y H2 I2 rx ry q=>hr a b pins s2 σ H2 x y v u Q I2 rx ry q (hs _ _))
noncomputable def Ii (K : PySem.W.Frag) : R2:=λx y H Q=>∃ p xs i v, x = .ref p /\ y = .int i /\ SqL K H p xs /\ atI xs i = some v /\ Q v H
noncomputable def Ib (K : PySem.W.Frag) : R2:=λx y H Q=>∃ p xs i v, x = .ref p /\ y = .int i /\ SqT K H p xs /\ atI xs i = some v /\ Q v H
theorem ER : IxR X (Ii X.K):=by
  intro value slice pins s σ H x y v u Q I rx ry h hs
  obtain ⟨p, xs, i, z, rfl, rfl, hq, he, q⟩:=h
  cases rx
  obtain ⟨t, rfl⟩:=ry
  obtain ⟨its, r, pl, hz⟩:=I.list hq
  obtain ⟨j, h1, h2, h3, h4, h5⟩:=DI he
  obtain ⟨w, ew, rw'⟩:=r.get h2
  have hl:=r.length
  have hn:=Go
  have fin : EP X pins σ Q w s:=⟨z, H, I, rw', q⟩
  by_cases h0 : 0 <= i
  . have hj : i.toNat = j:=by
      rw [seqIndex_of h0 h5] at h1
      exact Option.some.inj h1
    exact item_listR pl.isList h0 (by omega) (by rw [hj]; simpa using ew) fin hs
  . have hj : (i + (its.toArray.size : Int)).toNat = j:=by
      rw [seqIndex_neg (by omega) h4] at h1
      rw [List.size_toArray, ← hl]
      exact Option.some.inj h1
    exact subscriptTail_builtinR (x:=w) pl.isList.typeIs slot_list_getitem.lookup
      (wpAny_getItem_list_neg (Q:=λr s'=>r = w /\ EP X pins σ Q r s') pl.isList (by omega) (by rw [List.size_toArray] <;> omega) (by omega) (by rw [hj]; simpa using ew) ⟨rfl, fin⟩) hs
theorem Iq : IxR X (Ib X.K):=by
  intro value slice pins s σ H x y v u Q I rx ry h hs
  obtain ⟨p, xs, i, z, rfl, rfl, hq, he, q⟩:=h
  cases rx
  obtain ⟨t, rfl⟩:=ry
  obtain ⟨its, r, pl, hz⟩:=I.tuple hq
  obtain ⟨j, h1, h2, h3, h4, h5⟩:=DI he
  obtain ⟨w, ew, rw'⟩:=r.get h2
  have hl:=r.length
  have hn:=Go
  have fin : EP X pins σ Q w s:=⟨z, H, I, rw', q⟩
  exact subscriptTail_builtinR (x:=w) pl.typeIs slot_tuple_getitem.lookup
    (getItem_tuple (j:=j) (Q:=λr s'=>r = w /\ EP X pins σ Q r s') pl (by omega) (by omega) (by rw [List.size_toArray, ← hl]; exact h1) (by simpa using ew) ⟨rfl, fin⟩) hs
theorem G4 (its : List Value) (n j : Nat) (u : Value) : Obj.mapSeq (·.setIfInBounds j u) { cls:=.type "list", data:=.seq its.toArray n } = { cls:=.type "list", data:=.seq (its.set j u).toArray n }:=by
  simp [Obj.mapSeq]
theorem Inv.lst {pins : List (Addr × Obj)} {σ : St} {H : Hp} {s : Shared} {p : Addr} {xs : List V} (I : Inv X pins σ H s) (h : H p = some (.lst xs)) :
    ∃ (its : List Value) (n : Nat), Yd xs its /\ s.heap.get? p = some { cls:=.type "list", data:=.seq its.toArray n } /\ xs.length <= sizeLine:=by
  obtain ⟨z, its, n, r, e⟩:=I.hok p _ h
  exact ⟨its, n, r, e, z⟩
theorem Inv.lstUpd {pins : List (Addr × Obj)} {σ : St} {H : Hp} {s : Shared} {p : Addr} {xs ys : List V} {its its' : List Value} {n n' : Nat} {f : Obj -> Obj} (I : Inv X pins σ H s) (h : H p = some (.lst xs))
    (ho : s.heap.get? p = some { cls:=.type "list", data:=.seq its.toArray n }) (hf : f { cls:=.type "list", data:=.seq its.toArray n } = { cls:=.type "list", data:=.seq its'.toArray n' }) (r : Yd ys its') (hz : ys.length <= sizeLine) (t : Nat) :
    Inv X pins σ (upd H p (.lst ys)) { s with heap:=s.heap.update p f, toks:=t }:=by
  have e : (s.heap.update p f).get? p = some { cls:=.type "list", data:=.seq its'.toArray n' }:=by
    rw [Heap.get?_update_self f ho (by rw [hf] <;> rfl), hf]
  refine I.write (x:=p) (e:=p) (by rw [h]; trivial) (.inl rfl) (λb u hb q=>(Heap.get?_update_other _ _ (Ne.symm hb)).trans q) ⟨_, e⟩ ?_
  exact ⟨hz, its', n', r, e⟩
noncomputable def ET : V -> V -> V -> Hp -> (Hp -> Prop) -> Prop:=λo i v H Q=>∃ p xs k j, o = .ref p /\ i = .int k /\ H p = some (.lst xs) /\ ixN xs.length k = some j /\ Q (upd H p (.lst (xs.set j v)))
theorem JG : Mr X ET:=by
  intro pins s σ H o i v ov iv u Q I ro ri rv h
  obtain ⟨p, xs, k, j, rfl, rfl, hp, hj, q⟩:=h
  cases ro
  obtain ⟨t, rfl⟩:=ri
  obtain ⟨its, n, r, ho, hz⟩:=I.lst hp
  obtain ⟨h1, h2, h3, h4⟩:=Dq hj
  have hl:=r.length
  have hn:=Go
  have I' : Inv X pins σ (upd H p (.lst (xs.set j v))) { s with heap:=s.heap.update p (Obj.mapSeq (·.setIfInBounds j u)) }:=
    I.lstUpd hp ho (G4 its n j u) (r.set rv j) (by rw [List.length_set]; exact hz) s.toks
  by_cases h0 : 0 <= k
  . have hk : k.toNat = j:=by
      rw [seqIndex_of h0 h4] at h1
      exact Option.some.inj h1
    exact PySem.W.ki_setAt ho h0 (by omega) (by rw [List.size_toArray, ← hl]; exact h4) (by rw [hk]; exact ⟨_, I', q⟩)
  . have hk : (k + (its.toArray.size : Int)).toNat = j:=by
      rw [seqIndex_neg (by omega) h3] at h1
      rw [List.size_toArray, ← hl]
      exact Option.some.inj h1
    exact PySem.W.ki_setBack ho (by omega) (by rw [List.size_toArray, ← hl]; exact h3) (by omega) (by rw [hk]; exact ⟨_, I', q⟩)
theorem U1 (lo hi : Option Int) (n : Nat) : (sliceBounds lo hi none n).1 = ((HT.sIx n 0 lo : Nat) : Int) /\ (sliceBounds lo hi none n).2.1 = ((HT.sIx n n hi : Nat) : Int) /\ (sliceBounds lo hi none n).2.2 = 1:=by
  refine ⟨?_, ?_, rfl⟩
  . cases lo with
    | none=>simp [sliceBounds, HT.sIx]
    | some i=>
      simp only [sliceBounds, HT.sIx, Option.getD_none, show (1 : Int) > 0 by decide, if_true]
      by_cases h : i < 0
      . simp only [h, if_true] <;> omega
      . simp only [h, if_false] <;> omega
  . cases hi with
    | none=>simp [sliceBounds, HT.sIx]
    | some i=>
      simp only [sliceBounds, HT.sIx, Option.getD_none, show (1 : Int) > 0 by decide, if_true]
      by_cases h : i < 0
      . simp only [h, if_true] <;> omega
      . simp only [h, if_false] <;> omega
theorem Uz (its : List Value) (lo hi : Option Int) : slicePick its.toArray lo hi none = ((its.drop (HT.sIx its.length 0 lo)).take (HT.sIx its.length its.length hi - HT.sIx its.length 0 lo)).toArray:=by
  obtain ⟨h1, h2, h3⟩:=U1 lo hi its.toArray.size
  unfold slicePick
  rw [h1, h2, h3]
  simp only [sliceRange_one, pick_run, List.size_toArray] <;> rfl
noncomputable def LB (K : PySem.W.Frag) : V -> Option Int -> Option Int -> Hp -> VK -> Prop:=λx lo hi H Q=>∃ a xs, x = .ref a /\ SqL K H a xs /\ ∀ p, H p = none -> Q (.ref p) (upd H p (.lst (Ih xs lo hi)))
theorem Hj : SlR X (LB X.K):=by
  intro pins s σ H x v vl vu lo hi sl Q I rx hs pl pu h
  obtain ⟨a, xs, rfl, hx, q⟩:=h
  cases rx
  obtain ⟨its, r, ht, hz⟩:=I.list hx
  have hlen:=r.length
  refine ⟨"list", _, slot_list_getitem.lookup, ht.isList.typeIs, ?_⟩
  refine wpAny_getItem_list_slice ht.isList hs pl pu .none (by simp) ?_ (by rw [List.size_toArray] <;> omega)
  rw [Uz, ← hlen]
  refine ⟨.ref s.heap.objs.size, _, I.laid (t':=s.toks) (o:=.lst (Ih xs lo hi)) (λb ob q=>Heap.get?_push_of_some _ q) (Nat.le_refl _) ?_, rfl, q _ (I.hok.fresh (Nat.le_refl _))⟩
  exact ⟨Nat.le_trans (KN xs lo hi) hz, _, 0, (r.drop (HT.sIx xs.length 0 lo)).take (HT.sIx xs.length xs.length hi - HT.sIx xs.length 0 lo), Heap.get?_push_size _ rfl⟩
noncomputable def Q9 : V -> Bool
  | .non=>true
  | .bl _=>true
  | .int _=>true
  | .str _=>true
  | _=>false
noncomputable def eqV : V -> V -> Bool
  | .non, .non=>true
  | .bl a, .bl b=>a == b
  | .bl a, .int b=>(if a then 1 else 0) == b
  | .int a, .bl b=>a == (if b then 1 else 0)
  | .int a, .int b=>a == b
  | .str a, .str b=>a == b
  | _, _=>false
theorem IN {A : Around} {s : Shared} {y x : V} {u v : Value} (ry : Yk y u) (rx : Yk x v) (fy : Q9 y = true) (fx : Q9 x = true) : SeqAt.EqAt A s u v (eqV y x):=by
  cases y with
  | non=>
    cases ry
    cases x with
    | non=>cases rx; exact SeqAt.EqAt.same _
    | bl b=>cases rx; exact SeqAt.EqAt.none_bool b
    | int b=>obtain ⟨t, rfl⟩:=rx; exact SeqAt.EqAt.none_int b t
    | str b=>obtain ⟨t, rfl⟩:=rx; exact SeqAt.EqAt.none_str b t
    | _=>exact absurd (show false = true from fx) Bool.false_ne_true
  | bl a=>
    cases ry
    cases x with
    | non=>cases rx; exact SeqAt.EqAt.bool_none a
    | bl b=>cases rx; exact SeqAt.EqAt.bool_bool a b
    | int b=>obtain ⟨t, rfl⟩:=rx; exact SeqAt.EqAt.bool_int a b t
    | str b=>obtain ⟨t, rfl⟩:=rx; exact SeqAt.EqAt.bool_str a b t
    | _=>exact absurd (show false = true from fx) Bool.false_ne_true
  | int a=>
    obtain ⟨t', rfl⟩:=ry
    cases x with
    | non=>cases rx; exact SeqAt.EqAt.int_none a t'
    | bl b=>cases rx; exact SeqAt.EqAt.int_bool a t' b
    | int b=>obtain ⟨t, rfl⟩:=rx; exact SeqAt.EqAt.int_int a t' b t
    | str b=>obtain ⟨t, rfl⟩:=rx; exact SeqAt.EqAt.int_str a t' b t
    | _=>exact absurd (show false = true from fx) Bool.false_ne_true
  | str a=>
    obtain ⟨t', rfl⟩:=ry
    cases x with
    | non=>cases rx; exact SeqAt.EqAt.str_none a t'
    | bl b=>cases rx; exact SeqAt.EqAt.str_bool a t' b
    | int b=>obtain ⟨t, rfl⟩:=rx; exact SeqAt.EqAt.str_int a t' b t
    | str b=>obtain ⟨t, rfl⟩:=rx; exact SeqAt.EqAt.str_str a t' b t
    | _=>exact absurd (show false = true from fx) Bool.false_ne_true
  | _=>exact absurd (show false = true from fy) Bool.false_ne_true
noncomputable def eqU (x : V) (u : Value) : Bool:=match u with
  | .none=>eqV .non x
  | .bool b=>eqV (.bl b) x
  | .int i _=>eqV (.int i) x
  | .str z _=>eqV (.str z) x
  | _=>false
theorem GR {x y : V} {u : Value} (r : Yk y u) (f : Q9 y = true) : eqU x u = eqV y x:=by
  cases y with
  | non=>cases r; rfl
  | bl b=>cases r; rfl
  | int i=>obtain ⟨t, rfl⟩:=r; rfl
  | str z=>obtain ⟨t, rfl⟩:=r; rfl
  | _=>exact absurd (show false = true from f) Bool.false_ne_true
theorem Ga {x : V} : ∀ {xs : List V} {us : List Value}, Yd xs us -> xs.all Q9 = true -> us.any (eqU x) = xs.any λy=>eqV y x
  | _, _, .nil, _=>rfl
  | y :: xs, u :: us, .cons r t, f=>by
    rw [List.all_cons, Bool.and_eq_true] at f
    rw [List.any_cons, List.any_cons, GR r f.1, Ga t f.2]
theorem QF {A : Around} {s : Shared} {x : V} {v : Value} (rx : Yk x v) (fx : Q9 x = true) : ∀ {xs : List V} {us : List Value}, Yd xs us -> xs.all Q9 = true -> ∀ u ∈ us, SeqAt.EqAt A s u v (eqU x u)
  | _, _, .nil, _=>λu hu=>by cases hu
  | y :: xs, u :: us, .cons r t, f=>λu' hu=>by
    rw [List.all_cons, Bool.and_eq_true] at f
    rcases List.mem_cons.mp hu with rfl | hu
    . rw [GR r f.1]; exact IN r rx f.1 fx
    . exact QF rx fx t f.2 u' hu
noncomputable def inV (x : V) (xs : List V) : Bool:=xs.any λy=>eqV y x
noncomputable def rIn (K : PySem.W.Frag) (neg : Bool) : R2:=λx y H Q=>∃ p xs, y = .ref p /\ (SqL K H p xs ∨ SqT K H p xs) /\ Q9 x = true /\ xs.all Q9 = true /\ Q (.bl (if neg then !inV x xs else inV x xs)) H
theorem Kh : OpR X (compareOp .In) (rIn X.K false):=by
  intro pins s σ H x y v u Q I rx ry h
  obtain ⟨p, xs, rfl, hq, fx, fs, q⟩:=h
  cases ry
  rcases hq with hq | hq
  . obtain ⟨its, r, pl, hz⟩ := I.list hq
    refine SeqAt.in_listAt (eqU x) pl.isList (λw hw=>QF rx fx r fs w (by simpa using hw)) ⟨.bl _, H, I, rfl, ?_⟩
    rw [show its.toArray.any (eqU x) = its.any (eqU x) by simp, Ga r fs]
    exact q
  . obtain ⟨its, r, pl, hz⟩ := I.tuple hq
    refine SeqAt.in_tupleAt (eqU x) pl (λw hw=>QF rx fx r fs w (by simpa using hw)) ⟨.bl _, H, I, rfl, ?_⟩
    rw [show its.toArray.any (eqU x) = its.any (eqU x) by simp, Ga r fs]
    exact q
theorem UV : Qb X (.builtin "len") (λxs H Q=>∃ p ys, xs = [.ref p] /\ (SqL X.K H p ys ∨ SqT X.K H p ys) /\ Q (.int ys.length) H):=by
  intro pins s σ H xs us Q I r h
  obtain ⟨p, ys, rfl, hq, q⟩:=h
  obtain ⟨u, rfl, rx⟩:=UU r
  cases rx
  have hn:=Go
  rcases hq with hq | hq
  . obtain ⟨its, r', pl, hz⟩ := I.list hq
    have hlen:=r'.length
    exact Calls.call_len_list pl.isList (by simp only [List.size_toArray] <;> omega) ⟨.int ys.length, H, I.tok _, ⟨s.toks + 1, by rw [List.size_toArray, hlen]⟩, q⟩
  . obtain ⟨its, r', pl, hz⟩ := I.tuple hq
    have hlen:=r'.length
    exact len_tuple pl (by simp only [List.size_toArray] <;> omega) ⟨.int ys.length, H, I.tok _, ⟨s.toks + 1, by rw [List.size_toArray, hlen]⟩, q⟩
theorem Qb.or {f : Value} {r r' : List V -> Hp -> VK -> Prop} (h : Qb X f r) (h' : Qb X f r') : Qb X f (λxs H Q=>r xs H Q ∨ r' xs H Q):=by
  intro pins s σ H xs us Q I rs q
  rcases q with q | q
  . exact h pins s σ H xs us Q I rs q
  . exact h' pins s σ H xs us Q I rs q
theorem U8 : Qb X (.type "list") (λxs H Q=>∃ p ys, xs = [.ref p] /\ (SqL X.K H p ys ∨ SqT X.K H p ys) /\ ∀ l, H l = none -> Q (.ref l) (upd H l (.lst ys))):=by
  intro pins s σ H xs us Q I r h
  obtain ⟨p, ys, rfl, hq, q⟩:=h
  obtain ⟨u, rfl, rx⟩:=UU r
  cases rx
  have fin : ∀ (its : List Value), Yd ys its -> ys.length <= sizeLine -> ∀ (h' : Heap) (c' : Nat), (∀ b o', s.heap.get? b = some o' -> h'.get? b = some o') ->
      h'.get? s.heap.objs.size = some { cls:=.type "list", dict:=none, data:=.seq its.toArray c', slots:=#[] } -> EP X pins σ Q (.ref s.heap.objs.size) { s with heap:=h' }:=λits r' hz h' c' kp e=>
    ⟨.ref s.heap.objs.size, _, I.laid (t':=s.toks) kp (Nat.le_refl _) (show YC X.prog X.w _ h' _ (.lst ys) from ⟨hz, its, c', r', e⟩), rfl, q _ (I.hok.fresh (Nat.le_refl _))⟩
  rcases hq with hq | hq
  . obtain ⟨its, r', pl, hz⟩ := I.list hq
    have hlen:=r'.length
    obtain ⟨o, ho, hc, n, hd⟩:=pl.isList
    exact call_list_seq p (.inl rfl) ho hc hd (λh' c' kp e=>fin its r' hz h' c' kp e) (by simp only [List.size_toArray] <;> omega)
  . obtain ⟨its, r', pl, hz⟩ := I.tuple hq
    have hlen:=r'.length
    obtain ⟨o, ho, hc, n, hd⟩:=pl
    exact call_list_seq p (.inr rfl) ho hc hd (λh' c' kp e=>fin its r' hz h' c' kp e) (by simp only [List.size_toArray] <;> omega)
noncomputable def tyV (K : PySem.W.Frag) (T : String) (x : V) (H : Hp) : Prop:=match x with
  | .str _=>T = "str"
  | .int _=>T = "int"
  | .ref p=>(T = "list" /\ ∃ xs, SqL K H p xs) ∨ (T = "tuple" /\ ∃ o, K.lookup p = some o /\ o.cls = .type "tuple" /\ o.dict = none) ∨
      (T = "dict" /\ ((∃ kvs, H p = some (.dK kvs)) ∨ ∃ kvs, H p = some (.dT kvs))) ∨ (T = "set" /\ ∃ S n, H p = some (.set S n))
  | _=>False
theorem Ix {pins : List (Addr × Obj)} {σ : St} {H : Hp} {s : Shared} {T : String} {x : V} {v : Value} (I : Inv X pins σ H s) (r : Yk x v) (ty : tyV X.K T x H) :
    s.TypeIs v T /\ ∀ a, v = .ref a -> ∃ ob, s.heap.get? a = some ob /\ ob.dict = none:=by
  cases x with
  | str z=>
    obtain ⟨t, rfl⟩:=r
    cases (show T = "str" from ty)
    exact ⟨typeIs_str s z t, λ_ e=>nomatch e⟩
  | int i=>
    obtain ⟨t, rfl⟩:=r
    cases (show T = "int" from ty)
    exact ⟨typeIs_int s i t, λ_ e=>nomatch e⟩
  | ref p=>
    cases r
    rcases ty with ⟨rfl, xs, hq⟩ | ⟨rfl, o, hk, hc, hd⟩ | ⟨rfl, hk⟩ | ⟨rfl, S, n, hk⟩
    . obtain ⟨its, _, pl, _⟩ := I.list hq
      refine ⟨pl.isList.typeIs, λa e=>?_⟩
      cases e
      obtain ⟨o, n, e, c, hd, _⟩:=pl
      exact ⟨o, e, hd⟩
    . refine ⟨⟨o, I.kIn p o hk, hc⟩, λa e => ?_⟩
      cases e
      exact ⟨o, I.kIn _ o hk, hd⟩
    . have z : ∃ o, s.heap.get? p = some o /\ o.ExactDict:=by
        rcases hk with ⟨kvs, hk⟩ | ⟨kvs, hk⟩
        . obtain ⟨_, _, _, _, o, _, _, e, ex, _⟩ := I.hok p _ hk
          exact ⟨o, e, ex⟩
        . obtain ⟨_, _, _, _, o, _, _, e, ex, _⟩ := I.hok p _ hk
          exact ⟨o, e, ex⟩
      obtain ⟨o, e, ex⟩:=z
      refine ⟨⟨o, e, ex.1⟩, λa e2=>?_⟩
      cases e2
      exact ⟨o, e, ex.2.1⟩
    . obtain ⟨o, _, _, _, e, ex, _⟩ := I.hok p _ hk
      refine ⟨⟨o, e, ex.1⟩, λa e2=>?_⟩
      cases e2
      exact ⟨o, e, ex.2.1⟩
  | _=>exact False.elim ty
noncomputable def tBM (K : PySem.W.Frag) (T : String) (r : V -> List V -> Hp -> VK -> Prop) (to : TE) (t : TA) : TE:=λσ H Q=>to σ H λx H1=>tyV K T x H1 /\ t σ H1 λxs H2=>r x xs H2 Q
variable {o e : Expr} {es : List Expr} {to : TE} {t : TA} {name : Str} {apos cpos : Pos} {T id : String} {r : V -> List V -> Hp -> VK -> Prop}
theorem QL (pa : PlainAttrs T) (slot : Slot T name id) (hty : typeOf (.builtin id) = pure (.type "method_descriptor")) (hm : MtR X id r) (ho : PE X o to) (ha : PA X (e :: es) t)
    (hbase : attributeBase o name X.env (eval o X.env) = eval o X.env:=by rfl)
    (hfew : ((backTo cpos (starEach (e :: es) X.env)).all (λx=>!x.1) && (backToKw cpos (keywordEach [] X.env)).all (λx=>x.1.isSome)
      && decide ((e :: es).length + ([] : List Keyword).length + (if ([] : List Keyword).isEmpty then 0 else 1) < 30)) = true:=by rfl)
    (hline : (apos.endLine == cpos.line) = true:=by rfl) (hs : starEach (e :: es) X.env = (false, eval e X.env) :: starEach es X.env:=by rfl) (hplain : (backTo cpos (starEach es X.env)).any (·.1) = false:=by rfl) :
    PE X (.Call (.Attribute o name apos) (e :: es) [] cpos) (tBM X.K T r to t):=by
  intro pins s σ H Q I h
  refine wpAny_Call_method_late hbase hfew hline rfl (thn (ho pins s σ H _ I h) λv s1 r9=>?_)
  obtain ⟨x, H1, I1, r1, ty, q1⟩:=r9
  obtain ⟨h1, h2⟩:=Ix I1 r1 ty
  refine ⟨T, id, pa, slot, hty, h1, h2, ?_⟩
  have hA:=ha cpos pins s1 σ H1 _ I1 q1
  rw [hs] at hA ⊢
  refine Calls.callWith_builtin (by show (false || (backTo cpos (starEach es X.env)).any (·.1)) = false; rw [hplain] <;> rfl) (Calls.evalArgs_plain ?_)
  exact thn hA λus s2 r9=>by obtain ⟨vs, H2, I2, r2, q2⟩:=r9; exact hm pins s2 σ H2 x vs v us Q I2 r1 r2 q2
/- xs.append(e), list.index on a module's tuple .. are MtR facts of 06m -/
end
noncomputable def MtM (X : Cx) (id : String) (r : V -> List V -> Hp -> VK -> Prop) : Prop:=
  ∀ (pins : List (Addr × Obj)) (s : Shared) (σ : St) (H : Hp) (x : V) (xs : List V) (v : Value) (us : List Value) (Q : VK), Inv X pins σ H s -> Yk x v -> Yd xs us -> r x xs H Q ->
    wpAny (model X.prog X.w) X.A (call (.builtin id) (v :: us)) (EP X pins σ Q) X.xe s
theorem Yd.one : ∀ {x : V} {us : List Value}, Yd [x] us -> ∃ u, us = [u] /\ Yk x u:=fun {x us} h=>by
  cases h with
  | cons r t=>
    cases t
    exact ⟨_, rfl, r⟩
theorem Yd.two : ∀ {x y : V} {us : List Value}, Yd [x, y] us -> ∃ u v, us = [u, v] /\ Yk x u /\ Yk y v:=fun {x y us} h=>by
  cases h with
  | cons r t=>
    cases t with
    | cons q t=>
      cases t
      exact ⟨_, _, rfl, r, q⟩
theorem Yd.zero : ∀ {us : List Value}, Yd [] us -> us = []
  | _, .nil=>rfl
theorem Yd.eraseIdx : ∀ {xs : List V} {us : List Value} (i : Nat), Yd xs us -> Yd (xs.eraseIdx i) (us.eraseIdx i)
  | _, _, _, .nil=>.nil
  | _, _, 0, .cons _ t=>t
  | _, _, i + 1, .cons r t=>.cons r (Yd.eraseIdx i t)
theorem Yd.reverse {xs : List V} {us : List Value} (h : Yd xs us) : Yd xs.reverse us.reverse:=by
  induction h with
  | nil=>exact .nil
  | cons r t ih=>rw [List.reverse_cons, List.reverse_cons]; exact Yd.append ih (.cons r .nil)
theorem Yd.rep {xs : List V} {us : List Value} (h : Yd xs us) : ∀ k : Nat, Yd (List.replicate k xs).flatten (List.replicate k us).flatten
  | 0=>.nil
  | k + 1=>by
    rw [List.replicate_succ, List.replicate_succ, List.flatten_cons, List.flatten_cons]
    exact Yd.append h (Yd.rep h k)
theorem U0 {α : Type} : ∀ (l : List α) (i : Nat), (l.eraseIdx i).length <= l.length
  | [], _=>Nat.le_refl _
  | _ :: _, 0=>Nat.le_succ _
  | _ :: r, i + 1=>Nat.succ_le_succ (U0 r i)
theorem Ke (its : List Value) : ∀ (k : Nat) (acc : List Value),
    List.foldl (λx1 x2=>x1 ++ x2) acc.toArray (List.replicate k its.toArray) = (acc ++ (List.replicate k its).flatten).toArray
  | 0, acc=>by simp
  | k + 1, acc=>by
    have e : acc.toArray ++ its.toArray = (acc ++ its).toArray:=by simp
    have e2 : (acc ++ its) ++ (List.replicate k its).flatten = acc ++ (List.replicate (k + 1) its).flatten:=by
      rw [List.replicate_succ, List.flatten_cons, List.append_assoc]
    rw [← e2, ← Ke its k (acc ++ its), ← e, List.replicate_succ, List.foldl_cons]
section
variable {X : Cx} {pins : List (Addr × Obj)} {σ : St} {H : Hp} {s : Shared} {l b : Addr} {xs ys zs : List V}
theorem Inv.lset {its its' : List Value} {n : Nat} {f : Array Value -> Array Value} {t' : Nat} (I : Inv X pins σ H s) (hH : H l = some (.lst xs))
    (e : s.heap.get? l = some { cls:=.type "list", data:=.seq its.toArray n }) (hf : f its.toArray = its'.toArray) (hv : Yd ys its') (hz : ys.length <= sizeLine) :
    Inv X pins σ (upd H l (.lst ys)) { s with heap:=s.heap.update l (Obj.mapSeq f), toks:=t' }:=by
  have q:=PySem.IsL.update e f
  rw [hf] at q
  refine I.write (x:=l) (e:=l) (by rw [hH]; exact trivial) (.inl rfl) (λb' u hb hu=>(Heap.get?_update_other s.heap (Obj.mapSeq f) (Ne.symm hb)).trans hu) ⟨_, q⟩ ?_
  exact ⟨hz, its', _, hv, q⟩
theorem Inv.lnew {its : List Value} {t' : Nat} (I : Inv X pins σ H s) (hv : Yd ys its) (hz : ys.length <= sizeLine) :
    Inv X pins σ (upd H s.heap.objs.size (.lst ys)) { s with heap:=s.heap.push { cls:=.type "list", data:=.seq its.toArray }, toks:=t' }:=
  I.laid (λ_ _ q=>Heap.get?_push_of_some _ q) (Nat.le_refl _) ⟨hz, its, 0, hv, Heap.get?_push_size _ rfl⟩
theorem Inv.fresh (I : Inv X pins σ H s) : H s.heap.objs.size = none:=I.hok.fresh (Nat.le_refl _)
theorem Inv.lstM (I : Inv X pins σ H s) (hH : H l = some (.lst xs)) : xs.length <= sizeLine /\ ∃ (its : List Value) (n : Nat), Yd xs its /\ xs.length = its.length /\ s.heap.get? l = some { cls:=.type "list", data:=.seq its.toArray n }:=by
  obtain ⟨z, its, n, r, e⟩:=I.hok l _ hH
  exact ⟨z, its, n, r, r.length, e⟩
theorem GJ {n : Nat} (h : n <= sizeLine) : Builtin.List.listTooLong n = false:=by
  unfold Builtin.List.listTooLong
  exact decide_eq_false (by omega)
end
section
variable {X : Cx}
noncomputable def KI : V -> List V -> Hp -> VK -> Prop:=λx vs H Q=>∃ l xs y, x = .ref l /\ vs = [y] /\ H l = some (.lst xs) /\ xs.length < sizeLine /\ Q .non (upd H l (.lst (xs ++ [y])))
theorem YH : MtM X "list.append" KI:=by
  intro pins s σ H x vs v us Q I rx rv h
  obtain ⟨l, xs, y, rfl, rfl, hH, hz, q⟩:=h
  cases rx
  obtain ⟨u, rfl, ru⟩:=rv.one
  obtain ⟨z, its, n, r, hl, e⟩:=I.lstM hH
  refine call_meets F.slot_list_append ⟨_, e, rfl⟩ F.entry_list_append (F.args_list_append_2 _ _) (PySem.list_append l its.toArray n u (by rw [List.size_toArray]; omega)) ⟨e, ?_⟩
  refine ⟨.non, _, I.lset (its':=its ++ [u]) hH e (by simp) (r.append (.cons ru .nil)) ?_, rfl, q⟩
  rw [List.length_append, List.length_singleton]
  omega
noncomputable def DO : V -> List V -> Hp -> VK -> Prop:=λx vs H Q=>∃ l b xs zs, x = .ref l /\ vs = [.ref b] /\ H l = some (.lst xs) /\ H b = some (.lst zs) /\ xs.length + zs.length <= sizeLine /\ Q .non (upd H l (.lst (xs ++ zs)))
theorem DX : MtM X "list.extend" DO:=by
  intro pins s σ H x vs v us Q I rx rv h
  obtain ⟨l, b, xs, zs, rfl, rfl, hH, hB, hz, q⟩:=h
  cases rx
  obtain ⟨u, rfl, ru⟩:=rv.one
  cases ru
  obtain ⟨z, its, n, r, hl, e⟩:=I.lstM hH
  obtain ⟨z2, its2, n2, r2, hl2, e2⟩:=I.lstM hB
  have hsz : its.toArray.size + its2.toArray.size <= sizeLine:=by rw [List.size_toArray, List.size_toArray]; omega
  have hlong : ¬ (!its.toArray.isEmpty && Builtin.List.listTooLong (its.toArray.size + its2.toArray.size)) = true:=by
    rw [GJ hsz, Bool.and_false]
    exact Bool.false_ne_true
  refine call_meets F.slot_list_extend ⟨_, e, rfl⟩ F.entry_list_extend (F.args_list_extend_2 _ _)
    (AutoSeq1.list_extend_list_list_0 l its.toArray n b its2.toArray n2 hlong (by rw [List.size_toArray]; omega) (by omega)) ⟨e, e2, ?_⟩
  refine ⟨.non, _, I.lset (its':=its ++ its2) hH e (by simp) (r.append r2) ?_, rfl, q⟩
  rw [List.length_append]
  omega
noncomputable def F9 : V -> List V -> Hp -> VK -> Prop:=λx vs H Q=>∃ l xs i k y, x = .ref l /\ vs = [.int i] /\ H l = some (.lst xs) /\ -(2 ^ 63) <= i /\ i < 2 ^ 63 /\ seqIndex? i xs.length = some k /\ xs[k]? = some y /\ Q y (upd H l (.lst (xs.eraseIdx k)))
theorem Bg : MtM X "list.pop" F9:=by
  intro pins s σ H x vs v us Q I rx rv h
  obtain ⟨l, xs, i, k, y, rfl, rfl, hH, h1, h2, hk, hy, q⟩:=h
  cases rx
  obtain ⟨u, rfl, ru⟩:=rv.one
  obtain ⟨t, rfl⟩:=ru
  obtain ⟨z, its, n, r, hl, e⟩:=I.lstM hH
  obtain ⟨w, hw, rw'⟩:=r.get hy
  refine call_meets F.slot_list_pop ⟨_, e, rfl⟩ F.entry_list_pop (F.args_list_pop_2 _ _)
    (MeetsSeq.list_pop_at l its.toArray n i t k w (fitsIndex_both h1 h2) (by rw [List.size_toArray, ← hl]; exact hk) (by rw [← Array.getElem?_toList]; exact hw) (by rw [List.size_toArray]; omega)) ⟨e, ?_⟩
  refine ⟨y, _, I.lset (its':=its.eraseIdx k) hH e ?_ (r.eraseIdx k) ?_, rw', q⟩
  . show its.toArray.eraseIdxIfInBounds k = (its.eraseIdx k).toArray
    rw [List.eraseIdxIfInBounds_toArray]
  . have := U0 xs k
    omega
noncomputable def Mg : R2:=λx y H Q=>∃ l b xs zs, x = .ref l /\ y = .ref b /\ H l = some (.lst xs) /\ H b = some (.lst zs) /\ xs.length + zs.length <= sizeLine /\ ∀ p, H p = none -> Q (.ref p) (upd H p (.lst (xs ++ zs)))
theorem Kw : OpR X (binaryOp .Add) Mg:=by
  intro pins s σ H x y v u Q I rx ry h
  obtain ⟨l, b, xs, zs, rfl, rfl, hH, hB, hz, q⟩:=h
  cases rx
  cases ry
  obtain ⟨z, its, n, r, hl, e⟩:=I.lstM hH
  obtain ⟨z2, its2, n2, r2, hl2, e2⟩:=I.lstM hB
  refine PySem.P.add_list e e2 ?_ (by rw [List.size_toArray, List.size_toArray]; omega)
  have ea : its.toArray ++ its2.toArray = (its ++ its2).toArray:=by simp
  rw [ea]
  exact ⟨.ref _, _, I.lnew (t':=s.toks) (r.append r2) (by rw [List.length_append]; omega), rfl, q _ I.fresh⟩
noncomputable def Mp : R2:=λx y H Q=>∃ l k xs, x = .ref l /\ y = .int k /\ H l = some (.lst xs) /\ -(2 ^ 63) <= k /\ k < 2 ^ 63 /\ xs.length * k.toNat <= sizeLine /\
  ∀ p, H p = none -> Q (.ref p) (upd H p (.lst (List.replicate k.toNat xs).flatten))
theorem HG {α : Type} (xs : List α) (k : Nat) : (List.replicate k xs).flatten.length = k * xs.length:=by
  induction k with
  | zero=>simp
  | succ k ih=>rw [List.replicate_succ, List.flatten_cons, List.length_append, ih, Nat.succ_mul, Nat.add_comm]
theorem GV : OpR X (binaryOp .Mult) Mp:=by
  intro pins s σ H x y v u Q I rx ry h
  obtain ⟨l, k, xs, rfl, rfl, hH, h1, h2, hz, q⟩:=h
  cases rx
  obtain ⟨t, rfl⟩:=ry
  obtain ⟨z, its, n, r, hl, e⟩:=I.lstM hH
  have hlen : its.toArray.size * k.toNat <= sizeLine:=by rw [List.size_toArray, ← hl]; exact hz
  have hcap : ¬ its.toArray.size * k.toNat > (2 ^ 63 - 1) / 8:=by
    have : (sizeLine : Nat) <= (2 ^ 63 - 1) / 8:=by decide
    omega
  have hfit : ¬ (!Builtin.List.listFitsIndex k) = true:=by
    rw [fitsIndex_both h1 h2]
    exact Bool.false_ne_true
  have hlong : ¬ Builtin.List.listTooLong (its.toArray.size * k.toNat) = true:=by
    rw [GJ hlen]
    exact Bool.false_ne_true
  have hnew : List.foldl (λx1 x2=>x1 ++ x2) #[] (List.replicate (if its.toArray.isEmpty = true then 0 else k.toNat) its.toArray) = (List.replicate k.toNat its).flatten.toArray:=by
    have f0 : ∀ m : Nat, List.foldl (λx1 x2=>x1 ++ x2) #[] (List.replicate m its.toArray) = (List.replicate m its).flatten.toArray:=λm=>by
      have:=Ke its m []
      rw [List.nil_append] at this
      exact this
    rw [f0]
    cases its with
    | nil=>simp
    | cons a r'=>rw [if_neg (by simp)]
  refine wpAny_binaryOp_repeat_ref (T:="list") (U:="int") (by decide) ⟨_, e, rfl⟩ (λs'=>typeIs_int s' k t) noFill_list_mul F.fills_int_mul F.slot_int_rmul repeat_list F.slot_int_index.lookup
    (call_meets F.slot_int_rmul (typeIs_int s k t) F.entry_int_rmul (F.args_int_rmul_2 _ _) (int___rmul___int_list k t l its.toArray n)
      ⟨e, rfl, ⟨_, e, rfl⟩, call_meets F.slot_list_mul ⟨_, e, rfl⟩ F.entry_list_mul (F.args_list_mul_2 _ _) (AutoListH.list___mul___list_int_3 l its.toArray n k t hfit hcap hlong) ⟨e, ?_⟩⟩)
  rw [hnew]
  exact ⟨.ref _, _, I.lnew (t':=s.toks) (r.rep k.toNat) (by rw [HG, Nat.mul_comm]; exact hz), rfl, q _ I.fresh⟩
end
section
variable {prog : Program} {w : World} {A : Around} {E : Value -> Shared -> Prop} {s : Shared}
end
section
variable {X : Cx}
end
end L2
namespace Att
open PySem PySem.W PySem.Calls PyProof.Rows
theorem Vz {P : Params} {h : Heap} : ∀ (ns : List Int) (vs : List Value), WellAll P h vs (ns.map WData.int) -> IntsAre vs ns:=by
  intro ns
  induction ns with
  | nil=>
    intro vs w
    rw [List.map_nil] at w
    cases w
    exact .nil
  | cons n ns ih=>
    intro vs w
    rw [List.map_cons] at w
    cases w with
    | cons a b=>
      cases a
      exact .cons _ _ (ih _ b)
theorem Cz {l : OpenLaw} {n : Nat} (hn : l.most = some n) {P : Params} {h : Heap} {args : List WData} {vals : List Value}
    (hpre : l.row.toRowW.claim.pre args = true) (hwl : WellAll P h vals args) :
    ∃ a vs ns, vals = [Value.ref a] /\ args = [WData.list (ns.map WData.int)] /\ h.get? a = some { cls:=.type "list", data:=.seq vs.toArray } /\ IntsAre vs ns /\ ns.length <= n:=by
  have hsh : WShape.hasAll [] args [.list .int] = true:=(pre_splitW hpre).1
  have hc : l.pre.holds [] { args:=args } = true:=(pre_splitW hpre).2
  obtain ⟨d, r, rfl, h1, h2⟩:=hasAllW_cons hsh
  obtain rfl:=hasAllW_nil h2
  obtain ⟨xs, rfl, h3⟩:=hasW_list h1
  obtain ⟨ns, rfl⟩:=items_int h3
  have hlen : ns.length <= n:=by
    unfold OpenLaw.pre at hc
    have h4 : (WTm.not (.lt (.lit (.int (n : Int))) (.len (.arg 0)))).holds [] { args:=[.list (ns.map .int)] } = true:=by
      have h4:=(holds_andW hc).1
      rw [hn] at h4
      exact h4
    have h5:=condW_of h4 (w_not (w_lt w_lit (w_len_list (w_arg rfl))))
    rw [List.length_map] at h5
    refine Nat.le_of_not_lt λq=>?_
    have q' : (n : Int) < ((ns.length : Nat) : Int):=by omega
    first
      | (rw [decide_eq_true q'] at h5; exact absurd h5 (by decide))
      | (simp at h5; omega)
  cases hwl with
  | cons w1 w2=>
    cases w2
    cases w1 with
    | list ho hall=>exact ⟨_, _, ns, rfl, rfl, ho, Vz ns _ hall, hlen⟩
theorem Dc (l : OpenLaw) (args : List WData) : l.row.toRowW.claim.post args (.bool true) args = true:=
  postW_of (r:=l.row.toRowW) (X:=(true == true))
    (show WShape.has [] (.bool true) .bool = true by first | rfl | decide | simp [WShape.has, WShape.arms, WShape.armsAll])
    (show (WTm.eq .res (.lit (.bool true))).value [] { args:=args, res:=some (.bool true), after:=args } = some (.bool (true == true)) from w_eq_bool (w_res rfl) w_lit) rfl
theorem attach_call {l : OpenLaw} {n : Nat} {q : Program} {loose : List Str} {XP : (Str -> Option Value) -> Heap -> Prop} {YP : World -> Heap -> Prop} {d : DefRec}
    (hn : l.most = some n) (hdf : d.params.defaults = [])
    (call : ∀ (w : World) (s₀ s₁ : Shared) (mg mb : Str -> Option Value) (fa : Addr) (o : Obj) (pm cd doc : Value) (a : Addr) (vs : List Value) (ns : List Int),
      Ground q loose [] XP w s₀ mg mb s₁.heap -> YP w s₁.heap ->
      s₁.heap.get? fa = some o -> o.data = .func (docDef d.name d.params d.body d.scope pm cd doc) -> s₁.heap.CodeRec cd d.name -> mg d.name = some (.ref fa) ->
      s₁.heap.get? a = some { cls:=.type "list", data:=.seq vs.toArray } -> IntsAre vs ns -> ns.length <= n -> s₁.gens = #[] ->
      codeAny (model l.prog w) callerA (.call (.ref fa) ⟨[.ref a], []⟩) (λr s'=>r = .ok (.ret (.bool true)) /\ OldK s₁.heap s'.heap /\ s'.os = s₁.os /\ AllBare s'.gens) s₁) :
    WalkO q loose XP YP l.row.toRowW d [] (λf vs=>PySem.call f vs):=by
  intro w s₀ s₁ mg mb G Y fa o pm cd doc dV kV ho hd hcd hD hmg hg args vals as hpre hlay hrd hwl hlo
  obtain rfl : dV = .none:=Dflts.none hD hdf
  obtain rfl : kV = .none:=Dflts.noKw hD
  obtain ⟨a, vs, ns, rfl, rfl, hobj, hints, hlen⟩:=Cz hn hpre hwl
  refine enter_call (codeAny_mono (call w s₀ s₁ mg mb fa o pm cd doc a vs ns G Y ho (fd_plain hd) hcd hmg hobj hints hlen hg) λr s' hq=>?_)
  obtain ⟨rfl, h2, h3, h4⟩:=hq
  exact ⟨.inl ⟨.bool true, .bool true, [], rfl, λ_=>rfl, .bool true, Dc l _, λ_=>⟨List.Pairwise.nil, λ_ hm=>(nomatch hm)⟩⟩, h2, h3, h4⟩
section
variable {prog : Program} {w : World} {A : Around} {E : Value -> Shared -> Prop} {s : Shared} {K : Frag}
noncomputable def Mq (h : Heap) (L d : Addr) : List (Addr × Obj):=(List.range h.objs.size).filterMap λa=>if a = L ∨ a = d then none else (h.get? a).map λo=>(a, o)
end
end Att
namespace L2
open PySem PySem.Spec PyProof.Rows
theorem QP : ∀ {vs : List Value} {ns : List Int}, IntsAre vs ns -> Yd (ns.map V.int) vs:=λp=>by
  induction p with
  | nil=>exact .nil
  | cons n t _ ih=>exact .cons ⟨t, rfl⟩ ih
noncomputable def L7 (H : Hp) : Prop:=∀ b, H b = none ∨ ∃ o xs, H b = some (.frz o (.lst xs))
theorem Bt {P : Program} {w : World} {K : PySem.W.Frag} {mg mb : Str -> Option Value} {CX : CXT} {k : Nat} {fa a : Addr} {fd : FuncData} {x : Str} {sp : Sp} {s₁ : Shared} {vs : List Value} {ns : List Int}
    (KX : K.In s₁.heap) (hns : s₁.heap.Ns mainGlobals mg) (hb : s₁.heap.Ns builtinsNs mb) (hbb : ∀ x : Str, x ≠ "__name__" -> mb x = bootBuiltins x) (hlim : s₁.heap.NoLimit) (hg : s₁.gens = #[])
    (ha : s₁.heap.get? a = some { cls:=.type "list", data:=.seq vs.toArray }) (hi : IntsAre vs ns) (hl : ns.length <= sizeLine) (hr : Room k callerA)
    (F : ∀ base : Heap, K.In base -> base.Ns mainGlobals mg -> FnOk P w K mg base CX k fa fd [x] sp) (hbind : ∀ (s : Shared) (u : Value), BindsTo s fd ⟨[u], []⟩ [(x, u)])
    (hsp : ∀ H : Hp, L7 H -> SqL K H a (ns.map V.int) -> sp [.ref a] H (λv _=>v = .bl true) λ_ _ _=>False)
    (hCX : ∀ H e s', CX [] H s₁ (λ_ _ _=>False) e s' -> False) :
    codeAny (model P w) callerA (.call (.ref fa) ⟨[.ref a], []⟩) (λr s'=>r = .ok (.ret (.bool true)) /\ OldK s₁.heap s'.heap /\ s'.os = s₁.os /\ AllBare s'.gens) s₁:=by
  have rv:=QP hi
  have lenV:=hi.length
  -- from an abstract heap in which nothing but the script may be tracked
  have core : ∀ H : Hp, L7 H -> SqL K H a (ns.map V.int) -> HOk P w H s₁.heap -> (∀ b, H b ≠ none -> b = a) -> (H a ≠ none -> K.lookup a = none) ->
      codeAny (model P w) callerA (.call (.ref fa) ⟨[.ref a], []⟩) (λr s'=>r = .ok (.ret (.bool true)) /\ OldK s₁.heap s'.heap /\ s'.os = s₁.os /\ AllBare s'.gens) s₁:=by
    intro H hO hS hok hA hK
    have base_of : ∀ {b : Addr} {o : Obj}, s₁.heap.get? b = some o -> H b = none -> (Be s₁.heap H).get? b = some o:=λe n=>GW e n
    have noA : ∀ {b : Addr} {o : Obj} {es : Array DictEntry} {ep : Nat}, s₁.heap.get? b = some o -> o.data = .dict es ep -> H b = none:=fun {b o es ep} e d=>by
      cases q : H b with
      | none=>rfl
      | some u=>
        have e' : b = a:=hA b (by rw [q]; simp)
        subst e'
        rw [ha] at e; cases e
        have d' : Data.seq vs.toArray _ = Data.dict es ep:=d
        cases d'
    have nsK : ∀ {b : Addr} {m : Str -> Option Value}, s₁.heap.Ns b m -> (Be s₁.heap H).Ns b m:=fun {b m} ⟨o, es, ep, e, d, r⟩=>⟨o, es, ep, base_of e (noA e d), d, r⟩
    have hKb : K.In (Be s₁.heap H):=λb o e=>base_of (KX b o e) (by
      cases q : H b with
      | none=>rfl
      | some u=>
        have e' : b = a:=hA b (by rw [q]; simp)
        subst e'
        rw [hK (by rw [q]; simp)] at e; cases e)
    have hM : Mod K mg (Be s₁.heap H):=⟨hKb, nsK hns, ⟨mb, nsK hb, hbb⟩, let ⟨mc, h1, h2⟩:=hlim; ⟨mc, nsK h1, h2⟩⟩
    have e0 : Env0 P w K mg (Be s₁.heap H) callerA [] s₁ H:=⟨rfl, hM, λb o e=>EY e, Nat.le_of_eq (FK _ _), trivial, λb hb=>absurd (show b ∈ ([] : List Addr) from hb) (by simp), hok, .of_eq hg⟩
    refine codeAny_mono ((F _ hKb (nsK hns)).run callerA [] s₁ H ⟨[.ref a], []⟩ [.ref a] [.ref a] _ _ hr e0 (hbind s₁ (.ref a)) (.cons rfl .nil) (hsp H hO hS)) λr s' h=>?_
    cases r with
    | error e=>exact (hCX H e s' h).elim
    | ok fl=>
      cases fl with
      | next=>exact False.elim h
      | brk=>exact False.elim h
      | cont=>exact False.elim h
      | ret u=>
        obtain ⟨v, H', os, bare, un, hok', r', q⟩:=h
        have q' : v = .bl true:=q
        subst q'
        obtain rfl : u = Value.bool true:=r'
        refine ⟨rfl, OldK.of_keep λb o e=>?_, os, bare⟩
        cases q : H b with
        | none=>exact un.keep b o e q (by intro z; exact absurd (show b ∈ ([] : List Addr) from z) (by simp)) (by simp)
        | some u=>
          rcases hO b with z | ⟨ob, xs, z⟩
          . rw [q] at z; cases z
          . have z2 := un.frzs b ob _ z
            obtain ⟨e1, _⟩:=hok b _ z
            obtain ⟨e2, _⟩:=hok' b _ z2
            rw [e] at e1; cases e1
            exact e2
  cases hk : K.lookup a with
  | some o=>
    -- the script is one of the module's own objects
    have e:=KX a o hk
    rw [ha] at e
    cases e
    refine core (λ_=>none) (λ_=>.inl rfl) (.inr ⟨_, vs.toArray, _, hk, rfl, rfl, rfl, by rw [List.size_toArray, lenV]; exact hl, by simpa using rv⟩) (λb u z=>by have z' : (none : Option HO) = some u:=z; cases z') (λb z=>absurd rfl z) λz=>absurd rfl z
  | none=>
    refine core (λb=>if b = a then some (.frz { cls:=.type "list", data:=.seq vs.toArray } (.lst (ns.map V.int))) else none) (λb=>?_) (.inl (.inr ⟨{ cls:=.type "list", data:=.seq vs.toArray }, if_pos rfl⟩)) (λb u z=>?_) (λb z=>?_) λ_=>hk
    . by_cases hb : b = a
      . exact .inr ⟨_, _, if_pos hb⟩
      . exact .inl (if_neg hb)
    . by_cases hb : b = a
      . have z' := (if_pos hb).symm.trans z
        cases z'
        subst hb
        exact ⟨ha, by rw [List.length_map]; exact hl, vs, _, rv, ha⟩
      . have z' := (if_neg hb).symm.trans z
        cases z'
    . by_cases hb : b = a
      . exact hb
      . exact absurd (if_neg hb) z
theorem HD {l : PySem.W.OpenLaw} {n k : Nat} {q : Program} {loose : List Str} {XP : (Str -> Option Value) -> Heap -> Prop} {YP : World -> Heap -> Prop} {d : DefRec} {K : Params -> PySem.W.Frag} {CX : World -> CXT} {sp : World -> Sp} {x : Str}
    (hn : l.most = some n) (hn2 : n <= sizeLine) (hdf : d.params.defaults = []) (hr : Room k callerA)
    (hY : ∀ (w : World) (h : Heap), YP w h -> (K w.params).In h)
    (F : ∀ (w : World) (mg : Str -> Option Value) (fa : Addr) (h : Heap), (K w.params).In h -> h.Ns mainGlobals mg -> mg d.name = some (.ref fa) ->
      ∃ fd : FuncData, (∀ (s : Shared) (u : Value), BindsTo s fd ⟨[u], []⟩ [(x, u)]) /\
        ∀ base : Heap, (K w.params).In base -> base.Ns mainGlobals mg -> FnOk l.prog w (K w.params) mg base (CX w) k fa fd [x] (sp w))
    (hsp : ∀ (w : World) (H : Hp) (a : Addr) (ns : List Int), ns.length <= n -> L7 H -> SqL (K w.params) H a (ns.map V.int) -> sp w [.ref a] H (λv _=>v = .bl true) λ_ _ _=>False)
    (hCX : ∀ (w : World) (H : Hp) (s : Shared) (e : Value) (s' : Shared), CX w [] H s (λ_ _ _=>False) e s' -> False) :
    PySem.W.WalkO q loose XP YP l.row.toRowW d [] (λf vs=>PySem.call f vs):=by
  refine Att.attach_call hn hdf λw s₀ s₁ mg mb fa o pm cd doc a vs ns G Y ho hd hcd hmg hobj hints hlen hg=>?_
  have KX:=hY w _ Y
  obtain ⟨fd, hb, hF⟩:=F w mg fa _ KX G.T.g hmg
  exact Bt KX G.T.g G.T.b G.T.builtins G.T.nolimit hg hobj hints (Nat.le_trans hlen hn2) hr hF hb (λH hO hS=>hsp w H a ns hlen hO hS) λH e s'=>hCX w H s₁ e s'
noncomputable def YZ (s : Stmt) : Arguments:=match s with
  | .FunctionDef _ a _ _ _ _ _ _ _ _=>a
  | _=>{ posonlyargs:=[], args:=[], vararg:=none, kwonlyargs:=[], kw_defaults:=[], kwarg:=none, defaults:=[] }
noncomputable def YF (s : Stmt) : List Stmt:=match s with
  | .FunctionDef _ _ b _ _ _ _ _ _ _=>b
  | _=>[]
noncomputable def Xh (s : Stmt) : Scope:=match s with
  | .FunctionDef _ _ _ _ _ _ sc _ _ _=>sc
  | _=>{ kind:=.function, names:=[], isGenerator:=false, isCoroutine:=false }
noncomputable abbrev CX0 : CXT:=λ_ _ _ _ _ _=>False
noncomputable abbrev E0 : XK:=λ_ _ _=>False
theorem LJ {X : Cx} : Cf CX0 X E0:=λ_ _ _ _ _ _ _ h=>h.elim
structure Fun (K : PySem.W.Frag) (x qual : Str) (st : Stmt) (f : Addr) (fd : FuncData) : Prop where
  ex : ∃ (oc : Value) (od : Option Addr) (kV doc pm : Value) (an : Option Addr) (cdv ct : Value) (osl : Array (Option Value)),
    fd = PySem.W.fnOf x qual (YZ st) (YF st) (Xh st) .none kV doc pm an cdv ct /\ K.lookup f = some ⟨oc, od, .func fd, osl⟩ /\ PySem.W.codeIn K cdv qual = true
  kp : PySem.W.keepIn K (.ref f) = true
section
variable {P : Program} {w : World} {K : PySem.W.Frag} {mg : Str -> Option Value} {base : Heap}
theorem Fun.ok {x qual : Str} {st : Stmt} {f : Addr} {fd : FuncData} {N ps : List Str} {k : Nat} {sp : Sp} (F : Fun K x qual st f fd) (S : FnScope N ps (Xh st)) (len : ∀ vs H Q E, sp vs H Q E -> vs.length = ps.length)
    (hbody : ∀ (cdv : Value) (A : Around) (outer : List Env) (s : Shared) (H : Hp) (vs : List V) (Q : VK) (E : XK), Room k (A.deeper (envOfC qual (Xh st) s.heap.objs.size f cdv)) -> sp vs H Q E ->
      ∃ t, PSs (HA CX0 P w K mg base N qual (Xh st) f cdv A outer s H E).nox (YF st) t /\ t { nx:=λ_ H'=>Q .non H', rt:=Q } (Uv N vs) H) : FnOk P w K mg base CX0 (k + 1) f fd ps sp:=by
  obtain ⟨oc, od, kV, doc, pm, an, cdv, ct, osl, rfl, lk, hcd⟩:=F.ex
  refine LV lk hcd S len λA outer s H vs Q E hr hsp=>?_
  obtain ⟨t, h, q⟩:=hbody cdv A outer s H vs Q E hr hsp
  exact ⟨t, h.nox, q⟩
theorem Fun.binds {x qual : Str} {st : Stmt} {f : Addr} {fd : FuncData} {ps : List Str} (F : Fun K x qual st f fd)
    (h : ∀ (kV doc pm : Value) (an : Option Addr) (cdv ct : Value) (us : List Value), us.length = ps.length -> bindArgs (PySem.W.fnOf x qual (YZ st) (YF st) (Xh st) .none kV doc pm an cdv ct) ⟨us, []⟩ = pure (ps.zip us)) : KL K fd ps []:=by
  obtain ⟨oc, od, kV, doc, pm, an, cdv, ct, osl, rfl, lk, hcd⟩:=F.ex
  exact .all (h kV doc pm an cdv ct)
theorem QI {x qual : Str} {st : Stmt} {f : Addr} {oc : Value} {od an : Option Addr} {osl : Array (Option Value)} {kV doc pm cdv ct : Value} (l : K.lookup f = some ⟨oc, od, .func (PySem.W.fnOf x qual (YZ st) (YF st) (Xh st) .none kV doc pm an cdv ct), osl⟩)
    (c : PySem.W.codeIn K cdv qual = true) (k : PySem.W.keepIn K (.ref f) = true) : Fun K x qual st f (PySem.W.fnOf x qual (YZ st) (YF st) (Xh st) .none kV doc pm an cdv ct):=⟨⟨oc, od, kV, doc, pm, an, cdv, ct, osl, rfl, l, c⟩, k⟩
end
theorem YJ {A : Around} {k : Nat} (hr : Room k A) : A.units + 1 < cLine:=Nat.lt_of_le_of_lt (Nat.add_le_add_left (by decide : 1 <= 64) _) hr.units
theorem CM {n : Nat} (h : n <= 1000) : n < sizeLine:=Nat.lt_of_le_of_lt h (by decide)
section
variable {X : Cx}
theorem pv (i : Nat) {x : Str} {pos : Pos} (hN : X.N[i]? = some x:=by rfl) (hv : Vis X.env.scope x:=by first | exact Or.inl rfl | exact Or.inr (Or.inl rfl) | exact Or.inr (Or.inr rfl)) (hd : (x == ("__debug__" : Str)) = false:=by decide)
    (hcd : (x == ("__classdict__" : Str)) = false:=by decide) : PE X (.Name x pos) (Gr i):=Lb hN hv hd hcd
end
noncomputable def Xx (H H' : Hp) : Prop:=∀ b o, H b = some o -> H' b = some o
theorem Xx.refl (H : Hp) : Xx H H:=λ_ _ h=>h
theorem Xx.trans {H H1 H2 : Hp} (a : Xx H H1) (b : Xx H1 H2) : Xx H H2:=λc o h=>b c o (a c o h)
theorem Xx.free {H H' : Hp} (e : Xx H H') {l : Addr} (h : H' l = Option.none) : H l = Option.none:=by
  cases q : H l with
  | none=>rfl
  | some o=>
    rw [e l o q] at h
    cases h
theorem Xx.seq {K : PySem.W.Frag} {H H' : Hp} {a : Addr} {xs : List V} (e : Xx H H') (h : SqL K H a xs) : SqL K H' a xs:=by
  rcases h with (h | ⟨o, h⟩) | h
  . exact .inl (.inl (e _ _ h))
  . exact .inl (.inr ⟨o, e _ _ h⟩)
  . exact .inr h
section
variable {κ : Type} [DecidableEq κ]
noncomputable def KM (kvs : List (κ × V)) (k : κ) : Option V:=(kvs.find? λkv=>decide (kv.1 = k)).map (·.2)
noncomputable def VA (kvs : List (κ × V)) (k : κ) (v : V) : List (κ × V):=
  if (kvs.any λkv=>decide (kv.1 = k)) = true then kvs.map (λkv=>if kv.1 = k then (kv.1, v) else kv) else kvs ++ [(k, v)]
noncomputable def II (kvs : List (κ × V)) (k : κ) : List (κ × V):=kvs.filter λkv=>decide (kv.1 ≠ k)
theorem JJ {p : κ × V} {r : List (κ × V)} {k : κ} (e : p.1 = k) : KM (p :: r) k = some p.2:=by simp [KM, List.find?_cons, e]
theorem JQ {p : κ × V} {r : List (κ × V)} {k : κ} (e : ¬ p.1 = k) : KM (p :: r) k = KM r k:=by simp [KM, List.find?_cons, e]
theorem GL (k : κ) : ∀ kvs : List (κ × V), (kvs.any λkv=>decide (kv.1 = k)) = (KM kvs k).isSome
  | []=>rfl
  | p :: r=>by
    rw [List.any_cons]
    by_cases e : p.1 = k
    . simp only [JJ e, decide_eq_true e, Bool.true_or, Option.isSome_some]
    . rw [JQ e, decide_eq_false e, Bool.false_or]; exact GL k r
theorem Vg (kvs : List (κ × V)) (k : κ) (v : V) : (VA kvs k v).length <= kvs.length + 1:=by
  unfold VA
  split
  . rw [List.length_map]; omega
  . rw [List.length_append, List.length_cons, List.length_nil]; omega
theorem FG.isSome_eq {o : Option V} {u : Option Value} (r : FG o u) : o.isSome = u.isSome:=by
  cases o with
  | none=>cases u with
    | none=>rfl
    | some _=>exact (show False from r).elim
  | some _=>cases u with
    | none=>exact (show False from r).elim
    | some _=>rfl
theorem FG.getD {o : Option V} {u : Option Value} {d : V} {d' : Value} (r : FG o u) (rd : Yk d d') : Yk (o.getD d) (u.getD d'):=by
  cases o with
  | none=>cases u with
    | none=>exact rd
    | some _=>exact (show False from r).elim
  | some _=>cases u with
    | none=>exact (show False from r).elim
    | some _=>exact r
theorem KV.val {kvs : List (κ × V)} {vs : List (κ × Value)} (r : KV kvs vs) (k : κ) : FG (KM kvs k) (valueAt vs k):=by
  unfold KV at r
  induction r with
  | nil=>exact True.intro
  | @cons p q ps qs h t ih=>
    obtain ⟨h1, h2⟩:=h
    by_cases e : p.1 = k
    . have e' : q.1 = k := h1.symm.trans e
      have b : valueAt (q :: qs) k = some q.2:=by simp [valueAt, List.find?_cons, e']
      rw [JJ e, b]; exact h2
    . have e' : ¬ q.1 = k := λz => e (h1.trans z)
      have b : valueAt (q :: qs) k = valueAt qs k:=by simp [valueAt, List.find?_cons, e']
      rw [JQ e, b]; exact ih
theorem KV.any {kvs : List (κ × V)} {vs : List (κ × Value)} (r : KV kvs vs) (k : κ) : (kvs.any λkv=>decide (kv.1 = k)) = vs.any λkv=>decide (kv.1 = k):=by
  unfold KV at r
  induction r with
  | nil=>rfl
  | cons h t ih=>rw [List.any_cons, List.any_cons, ih, h.1]
theorem KV.repl {kvs : List (κ × V)} {vs : List (κ × Value)} (r : KV kvs vs) (k : κ) {y : V} {u : Value} (ry : Yk y u) :
    KV (kvs.map λkv=>if kv.1 = k then (kv.1, y) else kv) (vs.map λkv=>if kv.1 = k then (kv.1, u) else kv):=by
  unfold KV at r ⊢
  induction r with
  | nil=>exact .nil
  | @cons p q ps qs h t ih=>
    rw [List.map_cons, List.map_cons]
    refine .cons ?_ ih
    obtain ⟨h1, h2⟩:=h
    by_cases e : p.1 = k
    . rw [if_pos e, if_pos (h1.symm.trans e)]; exact ⟨h1, ry⟩
    . rw [if_neg e, if_neg (λz=>e (h1.trans z))]; exact ⟨h1, h2⟩
theorem KV.put {kvs : List (κ × V)} {vs : List (κ × Value)} (r : KV kvs vs) (k : κ) {y : V} {u : Value} (ry : Yk y u) : KV (VA kvs k y) (stored vs k u):=by
  unfold VA stored
  rw [r.any k]
  by_cases e : (vs.any λkv=>decide (kv.1 = k)) = true
  . rw [if_pos e, if_pos e]; exact r.repl k ry
  . rw [if_neg e, if_neg e]; exact Paired.snoc r ⟨rfl, ry⟩
theorem KV.drop {kvs : List (κ × V)} {vs : List (κ × Value)} (r : KV kvs vs) (k : κ) : KV (II kvs k) (without vs k):=by
  unfold KV at r ⊢
  unfold II without
  induction r with
  | nil=>exact .nil
  | @cons p q ps qs h t ih=>
    obtain ⟨h1, h2⟩:=h
    rw [List.filter_cons, List.filter_cons]
    by_cases e : p.1 = k
    . have a : ¬ decide (p.1 ≠ k) = true := by simp [e]
      have b : ¬ decide (q.1 ≠ k) = true:=by simp [h1.symm.trans e]
      rw [if_neg a, if_neg b]; exact ih
    . have e' : ¬ q.1 = k := λz => e (h1.trans z)
      have a : decide (p.1 ≠ k) = true:=by simp [e]
      have b : decide (q.1 ≠ k) = true:=by simp [e']
      rw [if_pos a, if_pos b]; exact .cons ⟨h1, h2⟩ ih
theorem KV.keys {kvs : List (κ × V)} {vs : List (κ × Value)} (r : KV kvs vs) : kvs.map (·.1) = vs.map (·.1):=by
  unfold KV at r
  induction r with
  | nil=>rfl
  | cons h t ih=>rw [List.map_cons, List.map_cons, ih, h.1]
theorem KV.length {kvs : List (κ × V)} {vs : List (κ × Value)} (r : KV kvs vs) : kvs.length = vs.length:=Paired.length r
end
theorem DY {P : Program} {w : World} {k : Key} {u : Value} (r : Yk (kV k) u) : (Ys P w).is k u = true:=by
  cases k with
  | inl i=>obtain ⟨t, e⟩:=(show ∃ t, u = Value.int i t from r); subst e; exact K5 P w i t
  | inr x=>obtain ⟨t, e⟩:=(show ∃ t, u = Value.str x t from r); subst e; exact Gb P w x t
theorem UT {P : Program} {w : World} : ∀ {ks : List Key} {us : List Value}, Yd (ks.map kV) us -> ItemsAre (Ys P w) ks us
  | [], _, r=>by rw [List.map_nil] at r; cases r; exact .nil
  | k :: ks, _, r=>by
    rw [List.map_cons] at r
    cases r with
    | cons h t=>exact .cons (DY h) (UT t)
noncomputable abbrev KT (H : Hp) : List (List Key × V) -> List (List Key × Addr × Value) -> Prop:=Paired λp q=>p.1 = q.1 /\ H q.2.1 = some (.tup (p.1.map kV)) /\ Yk p.2 q.2.2
theorem KT.val {H : Hp} {kvs : List (List Key × V)} {xs : List (List Key × Addr × Value)} (r : KT H kvs xs) (k : List Key) : FG (KM kvs k) ((atKey xs k).map (·.2)):=by
  induction r with
  | nil=>exact True.intro
  | @cons p q ps qs h t ih=>
    obtain ⟨h1, _, h2⟩:=h
    by_cases e : p.1 = k
    . have e' : q.1 = k := h1.symm.trans e
      have b : atKey (q :: qs) k = some q.2:=by simp [atKey, List.find?_cons, e']
      rw [JJ e, b]; exact h2
    . have e' : ¬ q.1 = k := λz => e (h1.trans z)
      have b : atKey (q :: qs) k = atKey qs k:=by simp [atKey, List.find?_cons, e']
      rw [JQ e, b]; exact ih
theorem KT.repl {H : Hp} {kvs : List (List Key × V)} {xs : List (List Key × Addr × Value)} (r : KT H kvs xs) (k : List Key) {y : V} {u : Value} (ry : Yk y u) :
    KT H (kvs.map λkv=>if kv.1 = k then (kv.1, y) else kv) (xs.map (putAt k u)):=by
  induction r with
  | nil=>exact .nil
  | @cons p q ps qs h t ih=>
    rw [List.map_cons, List.map_cons]
    refine .cons ?_ ih
    obtain ⟨h1, h2, h3⟩:=h
    unfold putAt
    by_cases e : p.1 = k
    . rw [if_pos e, if_pos (h1.symm.trans e)]; exact ⟨h1, h2, ry⟩
    . rw [if_neg e, if_neg (λz=>e (h1.trans z))]; exact ⟨h1, h2, h3⟩
theorem KT.put {H : Hp} {kvs : List (List Key × V)} {xs : List (List Key × Addr × Value)} (r : KT H kvs xs) (k : List Key) {b : Addr} {y : V} {u : Value} (hb : H b = some (.tup (k.map kV))) (ry : Yk y u) :
    KT H (VA kvs k y) (storedH xs k b u):=by
  have e : (kvs.any λkv=>decide (kv.1 = k)) = (atKey xs k).isSome:=by
    rw [GL, (r.val k).isSome_eq, Option.isSome_map]
  unfold VA storedH
  rw [e]
  by_cases q : (atKey xs k).isSome = true
  . rw [if_pos q, if_pos q]; exact r.repl k ry
  . rw [if_neg q, if_neg q]; exact Paired.snoc r ⟨rfl, hb, ry⟩
theorem KT.keeps {H H' : Hp} {kvs : List (List Key × V)} {xs : List (List Key × Addr × Value)} (r : KT H kvs xs) (ht : ∀ b ys, H b = some (.tup ys) -> H' b = some (.tup ys)) : KT H' kvs xs:=
  Paired.mapP r λ_ _ z=>⟨z.1, ht _ _ z.2.1, z.2.2⟩
section
variable {P : Program} {w : World} {H : Hp} {h : Heap} {a : Addr}
theorem IE {u : HO} (ok : HOk P w H h) (e : Rd H a u) : YC P w H h a u:=e.ok ok
theorem BT {kvs : List (Key × V)} (ok : HOk P w H h) (e : Rd H a (.dK kvs)) : kvs.length <= sizeLine /\ (a == sysModules) = false /\ ∃ vs, KV kvs vs /\ h.DictOf (Ys P w) a vs:=
  show YC P w H h a (.dK kvs) from IE ok e
theorem LN {kvs : List (Key × V)} (ok : HOk P w H h) (e : H a = some (.dK kvs)) : kvs.length <= sizeLine /\ (a == sysModules) = false /\ ∃ vs, KV kvs vs /\ h.DictOf (Ys P w) a vs:=BT ok (.inl e)
theorem G2 {ks : List Key} (ok : HOk P w H h) (e : H a = some (.tup (ks.map kV))) : (tupleKind (Ys P w)).is h ks a:=by
  obtain ⟨_, its, r, o, h1, h2, n, h3⟩:=(show YC P w H h a (.tup (ks.map kV)) from ok a _ e)
  exact ⟨o, its.toArray, n, h1, h2, h3, by simpa using UT r⟩
theorem Bk {kvs : List (List Key × V)} (ok : HOk P w H h) (e : Rd H a (.dT kvs)) : kvs.length <= sizeLine /\ (a == sysModules) = false /\
    ∃ xs, KT H kvs xs /\ h.DictOfH (tupleKind (Ys P w)) a xs:=by
  obtain ⟨z, y, xs, r, o, es, ep, h1, h2, h3, h4, h5⟩:=(show YC P w H h a (.dT kvs) from IE ok e)
  refine ⟨z, y, xs, r, o, es, ep, h1, h2, h3, h4, λx hx=>?_, h5⟩
  have all : ∀ {l : List (List Key × V)} {m : List (List Key × Addr × Value)}, KT H l m -> ∀ x ∈ m, (tupleKind (Ys P w)).is h x.1 x.2.1:=by
    intro l m q
    induction q with
    | nil=>intro x hx; exact nomatch hx
    | @cons p q ps qs hq t ih=>
      intro x hx
      rcases List.mem_cons.mp hx with e | hx
      . subst e
        exact G2 ok (by rw [← hq.1]; exact hq.2.1)
      . exact ih x hx
  exact all r x hx
theorem Me {kvs : List (List Key × V)} (ok : HOk P w H h) (e : H a = some (.dT kvs)) : kvs.length <= sizeLine /\ (a == sysModules) = false /\
    ∃ xs, KT H kvs xs /\ h.DictOfH (tupleKind (Ys P w)) a xs:=Bk ok (.inl e)
end
noncomputable def BO (H : Hp) (a : Addr) (y : V) (r : Option V) : Prop:=
  (∃ kvs k, Rd H a (.dK kvs) /\ y = kV k /\ r = KM kvs k) ∨ ∃ kvs k b, Rd H a (.dT kvs) /\ y = .ref b /\ H b = some (.tup (k.map kV)) /\ r = KM kvs k
noncomputable def Ie (H : Hp) (a : Addr) (y v : V) (H' : Hp) : Prop:=
  (∃ kvs k, H a = some (.dK kvs) /\ y = kV k /\ kvs.length < sizeLine /\ H' = upd H a (.dK (VA kvs k v))) ∨
  ∃ kvs k b, H a = some (.dT kvs) /\ y = .ref b /\ H b = some (.tup (k.map kV)) /\ kvs.length < sizeLine /\ H' = upd H a (.dT (VA kvs k v))
theorem BO.k {H : Hp} {a : Addr} {kvs : List (Key × V)} {k : Key} (e : H a = some (.dK kvs)) : BO H a (kV k) (KM kvs k):=.inl ⟨kvs, k, .inl e, rfl, rfl⟩
theorem BO.t {H : Hp} {a b : Addr} {kvs : List (List Key × V)} {k : List Key} (e : H a = some (.dT kvs)) (eb : H b = some (.tup (k.map kV))) : BO H a (.ref b) (KM kvs k):=.inr ⟨kvs, k, b, .inl e, rfl, eb, rfl⟩
theorem Ie.k {H : Hp} {a : Addr} {kvs : List (Key × V)} {k : Key} {v : V} (e : H a = some (.dK kvs)) (hl : kvs.length < sizeLine) : Ie H a (kV k) v (upd H a (.dK (VA kvs k v))):=.inl ⟨kvs, k, e, rfl, hl, rfl⟩
theorem Ie.t {H : Hp} {a b : Addr} {kvs : List (List Key × V)} {k : List Key} {v : V} (e : H a = some (.dT kvs)) (eb : H b = some (.tup (k.map kV))) (hl : kvs.length < sizeLine) :
    Ie H a (.ref b) v (upd H a (.dT (VA kvs k v))):=.inr ⟨kvs, k, b, e, rfl, eb, hl, rfl⟩
section
variable {X : Cx} {pins : List (Addr × Obj)} {σ : St} {H : Hp} {s : Shared} {a : Addr} {y v : V} {u r : Value} {o : Option V} {A : Around} {E : Value -> Shared -> Prop}
theorem Inv.big (I : Inv X pins σ H s) : sysModules < s.heap.objs.size:=by
  have h : mainGlobals < s.heap.objs.size:=(I.mod.glob.keeps I.bk).lt
  exact Nat.lt_trans (by decide) h
theorem F0 {Q : Value -> Shared -> Prop} (hu : A.units + 1 < cLine) (I : Inv X pins σ H s) (g : BO H a y (some v)) (ry : Yk y u) (h : ∀ w' s', Inv X pins σ H s' -> Yk v w' -> Q w' s') :
    wpAny (model X.prog X.w) A (getItem (.ref a) u) Q E s:=by
  rcases g with ⟨kvs, k, e, ey, l⟩ | ⟨kvs, k, b, e, ey, eb, l⟩
  . subst ey
    obtain ⟨z, hd, vs, rel, dd⟩:=BT I.hok e
    obtain ⟨w', hw, rw'⟩:=FG.some_of (v:=v) (o:=valueAt vs k) (by rw [l]; exact rel.val k)
    exact wpAny_getItem_of (DY ry) dd.mapOf hw (h w' _ (I.tok _) rw')
  . subst ey
    cases (show u = Value.ref b from ry)
    obtain ⟨z, hd, xs, rel, dd⟩:=Bk I.hok e
    obtain ⟨w', hw, rw'⟩:=FG.some_of (v:=v) (o:=(atKey xs k).map (·.2)) (by rw [l]; exact rel.val k)
    obtain ⟨p, hp, hp2⟩:=Option.map_eq_some_iff.mp hw
    refine wpAny_getItem_heap (tupleKind_room_in1 hu) (G2 I.hok eb) dd hp ?_
    rw [hp2]
    exact h w' _ (I.tok _) rw'
theorem Hl {Q : Value -> Shared -> Prop} (hu : A.units + 1 < cLine) (I : Inv X pins σ H s) (g : BO H a y o) (ry : Yk y u) (h : ∀ s', Inv X pins σ H s' -> Q (.bool (!o.isSome)) s') :
    wpAny (model X.prog X.w) A (compareOp .NotIn u (.ref a)) Q E s:=by
  rcases g with ⟨kvs, k, e, ey, l⟩ | ⟨kvs, k, b, e, ey, eb, l⟩
  . subst ey
    obtain ⟨z, hd, vs, rel, dd⟩:=BT I.hok e
    refine wpAny_notIn_of (DY ry) hd dd.mapOf ?_
    rw [← (rel.val k).isSome_eq, ← l]
    exact h _ (I.tok _)
  . subst ey
    cases (show u = Value.ref b from ry)
    obtain ⟨z, hd, xs, rel, dd⟩:=Bk I.hok e
    refine wpAny_notIn_heap (tupleKind_room_in1 hu) (G2 I.hok eb) hd dd ?_
    have q:=(rel.val k).isSome_eq
    rw [Option.isSome_map] at q
    rw [← q, ← l]
    exact h _ (I.tok _)
theorem CO {h' : Heap} {t' : Nat} {ob : HO} (I : Inv X pins σ H s) (mu : Mut (H a)) (hs : Heap.SameBut a s.heap h') (he : ∃ q, h'.get? a = some q) (new : YC X.prog X.w (upd H a ob) h' a ob) :
    Inv X pins σ (upd H a ob) { s with heap:=h', toks:=t' }:=
  I.write (x:=a) (e:=a) mu (.inl rfl) (λb q hb z=>(hs.2 b hb).trans z) he new
theorem IP {P : Program} {w : World} {H' : Hp} {h' : Heap} {kvs : List (Key × V)} {vs : List (Key × Value)} (z : kvs.length <= sizeLine) (hd : (a == sysModules) = false) (rel : KV kvs vs) (dd : h'.DictOf (Ys P w) a vs) :
    YC P w H' h' a (.dK kvs):=⟨z, hd, vs, rel, dd⟩
theorem Cl {H' : Hp} {Q : Unit -> Shared -> Prop} (hu : A.units + 1 < cLine) (I : Inv X pins σ H s) (g : Ie H a y v H') (ry : Yk y u) (rv : Yk v r) (h : ∀ s', Inv X pins σ H' s' -> Q () s') :
    wpAny (model X.prog X.w) A (setItem (.ref a) u r) Q E s:=by
  rcases g with ⟨kvs, k, e, ey, l, eH⟩ | ⟨kvs, k, b, e, ey, eb, l, eH⟩
  . subst ey eH
    obtain ⟨z, hd, vs, rel, dd⟩:=LN I.hok e
    have hz : vs.length <= sizeLine:=by rw [← rel.length]; exact z
    have hl : (VA kvs k v).length <= sizeLine:=by have:=Vg kvs k v; omega
    refine wpAny_setItem_pairs (hsz:=hz) (DY ry) dd λh' dd' hs=>h _ ?_
    have he : ∃ q, h'.get? a = some q:=let ⟨q, _, _, hq, _⟩:=dd'; ⟨q, hq⟩
    exact CO I (by rw [e]; exact True.intro) hs he (IP hl hd (rel.put k rv) dd')
  . subst ey eH
    cases (show u = Value.ref b from ry)
    obtain ⟨z, hd, xs, rel, dd⟩:=Me I.hok e
    have hz : xs.length <= sizeLine:=by rw [← Paired.length rel]; exact z
    have hl : (VA kvs k v).length <= sizeLine:=by have:=Vg kvs k v; omega
    refine wpAny_setItem_heap (hsz:=hz) (tupleKind_room_in1 hu) (G2 I.hok eb) dd λh' dd' hs=>h _ ?_
    obtain ⟨q, es, ep, hq, h2, h3, h4, _, h5⟩:=dd'
    refine CO I (by rw [e]; exact True.intro) hs ⟨q, hq⟩ ⟨hl, hd, _, (rel.put k eb rv).keeps λc ys ec=>?_, q, es, ep, hq, h2, h3, h4, h5⟩
    rw [Xw (Dk ec e (λz=>nomatch z))]
    exact ec
end
section
variable {X : Cx} {pins : List (Addr × Obj)} {σ : St} {H : Hp} {s : Shared} {a : Addr} {kvs : List (Key × V)} {k : Key} {u : Value} {A : Around} {E : Value -> Shared -> Prop}
end
noncomputable def Mj (i : Expr) : Prop:=∀ ov iv, subscripted i false ov iv = operate [ov, iv] (getItem ov iv)
theorem HF {prog : Program} {w : World} {A : Around} {E : Value -> Shared -> Prop} {s : Shared} {env : Env} {value slice : Expr} {pos : Pos} {T id : String} {Q : Value -> Shared -> Prop}
    (hl : typeLookup (.type T) "__getitem__" = pure (some (.builtin id))) (hs : Mj slice)
    (h : wpAny (model prog w) A (eval value env) (λo s₁=>wpAny (model prog w) A (eval slice env) (λi s₂=>s₂.TypeIs o T /\ wpAny (model prog w) A (getItem o i) Q E s₂) E s₁) E s) :
    wpAny (model prog w) A (eval (.Subscript value slice pos) env) Q E s:=by
  refine Subscript_ (wpAny_mono h (λo s₁ h₁=>wpAny_mono h₁ (λi s₂ h₂=>?_) λ_ _ x=>x) λ_ _ x=>x)
  obtain ⟨hT, h₂⟩:=h₂
  unfold subscriptTail
  refine wpAny_bind ?_
  rw [getitemInPython_of_ne hT.not_modules]
  refine wpAny_bind (wpAny_specialOf hT hl ?_)
  have fin : wpAny (model prog w) A (subscripted slice false o i) (λr s₃=>wpAny (model prog w) A (letTemporaryGo value o r >>= λ_=>pure r) Q E s₃) E s₂:=by
    rw [hs o i]
    exact wpAny_operating (wpAny_mono h₂ (λr s₃ h₃=>wpAny_bind (wpAny_letTemporaryGo (wpAny_pure h₃))) λ_ _ x=>x)
  first
    | exact wpAny_pure (wpAny_bind fin)
    | exact wpAny_bind (wpAny_pure (wpAny_bind fin))
    | exact wpAny_bind fin
theorem KP {X : Cx} {pins : List (Addr × Obj)} {σ : St} {H : Hp} {s : Shared} {a : Addr} {y : V} {o : Option V} (I : Inv X pins σ H s) (g : BO H a y o) : s.TypeIs (.ref a) "dict":=by
  rcases g with ⟨kvs, k, e, _, _⟩ | ⟨kvs, k, b, e, _, _, _⟩
  . obtain ⟨_, _, vs, _, dd⟩ := BT I.hok e
    exact dd.typeIs
  . obtain ⟨_, _, xs, _, dd⟩ := Bk I.hok e
    exact dd.typeIs
noncomputable def IB (td ty : TE) : TE:=λσ H Q=>td σ H λx H1=>ty σ H1 λy H2=>∃ a v, x = .ref a /\ BO H2 a y (some v) /\ Q v H2
noncomputable def F6 (ty td : TE) : TE:=λσ H Q=>ty σ H λy H1=>td σ H1 λx H2=>∃ a o, x = .ref a /\ BO H2 a y o /\ Q (.bl (!o.isSome)) H2
noncomputable def Im (td ty tv : TE) : TS:=λD σ H=>tv σ H λv H1=>td σ H1 λx H2=>ty σ H2 λy H3=>∃ a H4, x = .ref a /\ Ie H3 a y v H4 /\ D.nx σ H4
section
variable {X : Cx} {o i e value : Expr} {pos pos' tpos : Pos} {td ty tv : TE}
theorem E4 (hu : X.A.units + 1 < cLine) (ho : PE X o td) (hi : PE X i ty) (hs : Mj i) : PE X (.Subscript o i pos) (IB td ty):=by
  intro pins s σ H Q I h
  refine HF PySem.F.slot_dict_getitem.lookup hs (thn (ho pins s σ H _ I h) λu s1 ⟨x, H1, I1, rx, q1⟩=>thn (hi pins s1 σ H1 _ I1 q1) λiv s2 r9=>?_)
  obtain ⟨y, H2, I2, ry, a, v, ex, g, q2⟩:=r9
  subst ex
  obtain rfl : u = Value.ref a:=rx
  exact ⟨KP I2 g, F0 hu I2 g ry λw' s3 I3 rw'=>⟨v, H2, I3, rw', q2⟩⟩
theorem FN (hu : X.A.units + 1 < cLine) (hi : PE X i ty) (ho : PE X o td) : PC X .NotIn i o (F6 ty td):=by
  intro pins s σ H Q I h
  refine thn (hi pins s σ H _ I h) λiv s1 ⟨y, H1, I1, ry, q1⟩=>thn (ho pins s1 σ H1 _ I1 q1) λu s2 r9=>?_
  obtain ⟨x, H2, I2, rx, a, ov, ex, g, q2⟩:=r9
  subst ex
  obtain rfl : u = Value.ref a:=rx
  exact Hl hu I2 g ry λs3 I3=>⟨.bl (!ov.isSome), H2, I3, rfl, q2⟩
theorem EX (hu : X.A.units + 1 < cLine) (ho : PE X o td) (hi : PE X i ty) (hv : PE X value tv) (hs : swapsWith value (some (.Subscript o i pos')) pos.line X.env = pure false) :
    PS X (.Assign [.Subscript o i pos'] value pos) (Im td ty tv):=by
  intro pins s σ H D I h
  refine wpAny_Assign_Subscript (thn (hv pins s σ H _ I h) λr s1 ⟨v, H1, I1, rv, q1⟩=>thn (ho pins s1 σ H1 _ I1 q1) λu s2 ⟨x, H2, I2, rx, q2⟩=>thn (hi pins s2 σ H2 _ I2 q2) λiv s3 r9=>?_) hs
  obtain ⟨y, H3, I3, ry, a, H4, ex, g, q3⟩:=r9
  subst ex
  obtain rfl : u = Value.ref a:=rx
  exact Cl hu I3 g ry rv λs4 I4=>⟨σ, H4, I4, q3⟩
end
section
variable {X : Cx} {pos : Pos}
end
section
variable {X : Cx} {pins : List (Addr × Obj)} {σ : St} {H : Hp} {s : Shared} {a : Addr} {y d : V} {u r : Value} {o : Option V} {A : Around} {E : Value -> Shared -> Prop}
end
section
variable {X : Cx} {o e f : Expr} {apos cpos : Pos} {td ty tx : TE}
end
section
variable {X : Cx} {pins : List (Addr × Obj)} {σ : St} {H : Hp} {s : Shared} {a : Addr} {kvs : List (Key × V)} {A : Around} {E : Value -> Shared -> Prop}
end
section
variable {X : Cx} {pins : List (Addr × Obj)} {σ : St} {H : Hp} {s : Shared} {a : Addr} {y : V} {u : Value} {A : Around} {E : Value -> Shared -> Prop}
end
section
variable {X : Cx}
end
section
variable {κ : Type} [DecidableEq κ]
end
theorem DL {env : Env} : ∀ (names : List (Str × NameKind)), (∀ x ∈ names, x.2 = NameKind.free -> ∃ c, env.cells.lookup x.1 = some c) ->
    ∀ cs : List (Str × Addr), (∀ x c, cs.lookup x = some c -> env.cells.lookup x = some c) ->
    ∃ cl : List (Str × Addr), (forIn names cs (λ(x : Str × NameKind) (r : List (Str × Addr))=>(if (x.2 == NameKind.free) = true then do let a ← cellOf env x.1; pure (ForInStep.yield ((x.1, a) :: r)) else pure (ForInStep.yield r) : Sem (ForInStep (List (Str × Addr)))))) = (pure cl : Sem (List (Str × Addr))) /\
      (∀ x c, cl.lookup x = some c -> env.cells.lookup x = some c) /\ (∀ x, ((x, NameKind.free) ∈ names ∨ ∃ c, cs.lookup x = some c) -> ∃ c, cl.lookup x = some c)
  | [], _, cs, hs=>⟨cs, by rw [List.forIn_nil], hs, λx h=>h.elim (λz=>nomatch z) id⟩
  | (n, k) :: r, hf, cs, hs=>by
    have hr : ∀ x ∈ r, x.2 = NameKind.free -> ∃ c, env.cells.lookup x.1 = some c:=λx hx=>hf x (List.mem_cons_of_mem _ hx)
    by_cases hk : k = NameKind.free
    . subst hk
      obtain ⟨a, ha⟩:=hf (n, NameKind.free) List.mem_cons_self rfl
      have hs' : ∀ x c, ((n, a) :: cs).lookup x = some c -> env.cells.lookup x = some c:=λx c h=>by
        rw [List.lookup_cons] at h
        by_cases hx : x = n
        . subst hx
          simp only [beq_self_eq_true] at h
          rw [← h]; exact ha
        . have : (x == n) = false := beq_eq_false_iff_ne.mpr hx
          rw [this] at h
          exact hs x c h
      obtain ⟨cl, e, h1, h2⟩:=DL r hr ((n, a) :: cs) hs'
      refine ⟨cl, ?_, h1, λx h=>h2 x ?_⟩
      . rw [List.forIn_cons]
        have e1 : cellOf env n = pure a:=by unfold cellOf; rw [show env.cells.lookup n = some a from ha]
        simp only [beq_self_eq_true, if_true, e1]
        exact e
      . rcases h with h | ⟨c, h⟩
        . rcases List.mem_cons.mp h with h | h
          . have : x = n := congrArg Prod.fst h
            subst this
            exact .inr ⟨a, by rw [List.lookup_cons]; simp⟩
          . exact .inl h
        . by_cases hx : x = n
          . subst hx; exact .inr ⟨a, by rw [List.lookup_cons]; simp⟩
          . exact .inr ⟨c, by rw [List.lookup_cons, beq_eq_false_iff_ne.mpr hx]; exact h⟩
    . obtain ⟨cl, e, h1, h2⟩ := DL r hr cs hs
      refine ⟨cl, ?_, h1, λx h=>h2 x ?_⟩
      . rw [List.forIn_cons]
        have hb : (k == NameKind.free) = false:=by simpa using hk
        simp only [hb, Bool.false_eq_true, if_false]
        exact e
      . rcases h with h | h
        . rcases List.mem_cons.mp h with h | h
          . exact absurd (congrArg Prod.snd h).symm hk
          . exact .inl h
        . exact .inr h
theorem K8 {scope : Scope} {env : Env} (hf : ∀ x ∈ scope.names, x.2 = NameKind.free -> ∃ c, env.cells.lookup x.1 = some c) :
    ∃ cl : List (Str × Addr), closureFor scope env = pure cl /\ (∀ x c, cl.lookup x = some c -> env.cells.lookup x = some c) /\ (∀ x, (x, NameKind.free) ∈ scope.names -> ∃ c, cl.lookup x = some c):=by
  obtain ⟨cl, e, h1, h2⟩:=DL scope.names hf [] (λx c h=>by simp at h)
  refine ⟨cl, ?_, h1, λx h=>h2 x (.inl h)⟩
  unfold closureFor
  show ((forIn scope.names [] (λ(x : Str × NameKind) (r : List (Str × Addr))=>(if (x.2 == NameKind.free) = true then do let a ← cellOf env x.1; pure (ForInStep.yield ((x.1, a) :: r)) else pure (ForInStep.yield r) : Sem (ForInStep (List (Str × Addr)))))) >>= λs=>pure s) = pure cl
  rw [e]
  rfl
theorem Qv {env : Env} : ∀ {names : List (Str × NameKind)} {x : Str} {k : NameKind}, (∀ y ∈ names, y.2 ≠ NameKind.cell) ->
    (names.map λ(n, k)=>if (k == NameKind.free && env.scope.kind == .function && env.kindOf n == some .cell) then (n, NameKind.cell) else (n, k)).lookup x = some k -> (k = .cell ∨ k = .free) -> (x, NameKind.free) ∈ names
  | [], _, _, _, h, _=>by simp at h
  | (n, kk) :: r, x, k, hc, h, hk=>by
    have ih:=@Qv env r x k (λy hy=>hc y (List.mem_cons_of_mem _ hy))
    have hh:=hc (n, kk) List.mem_cons_self
    simp only [List.map_cons] at h
    by_cases hcond : (kk == NameKind.free && env.scope.kind == .function && env.kindOf n == some .cell) = true
    . rw [if_pos hcond, List.lookup_cons] at h
      have hfree : kk = NameKind.free:=by
        rw [Bool.and_eq_true, Bool.and_eq_true] at hcond
        simpa using hcond.1.1
      cases hx : x == n with
      | true=>
        have : x = n:=by simpa using hx
        subst this; subst hfree
        exact List.mem_cons_self
      | false=>rw [hx] at h; exact List.mem_cons_of_mem _ (ih h hk)
    . rw [if_neg hcond, List.lookup_cons] at h
      cases hx : x == n with
      | true=>
        rw [hx] at h
        have hkk : kk = k:=Option.some.inj h
        have : x = n:=by simpa using hx
        subst this; subst hkk
        rcases hk with z | z
        . exact absurd z hh
        . subst z; exact List.mem_cons_self
      | false=>rw [hx] at h; exact List.mem_cons_of_mem _ (ih h hk)
theorem Z5 {env : Env} : ∀ {names : List (Str × NameKind)} {x : Str}, names.lookup x = some .free ->
    let l:=(names.map λ(n, k)=>if (k == NameKind.free && env.scope.kind == .function && env.kindOf n == some .cell) then (n, NameKind.cell) else (n, k))
    l.lookup x = some .cell ∨ l.lookup x = some .free
  | [], _, h=>by simp at h
  | (n, kk) :: r, x, h=>by
    have ih:=@Z5 env r x
    simp only [List.map_cons]
    rw [List.lookup_cons] at h
    by_cases hcond : (kk == NameKind.free && env.scope.kind == .function && env.kindOf n == some .cell) = true
    . rw [if_pos hcond, List.lookup_cons]
      cases hx : x == n with
      | true=>exact .inl rfl
      | false=>rw [hx] at h; exact ih h
    . rw [if_neg hcond, List.lookup_cons]
      cases hx : x == n with
      | true=>rw [hx] at h; exact .inr h
      | false=>rw [hx] at h; exact ih h
noncomputable abbrev Cx.comp (X : Cx) (N : List Str) (scope : Scope) (cl : List (Str × Addr)) (C : Addr) (s : Shared) (H : Hp) (ex : List Addr) (E : Value -> Shared -> Prop) : Cx:=
  { X with N:=N, s₀:=s, H₀:=H, env:=compEnvC scope cl C X.env, outer:=X.stack, ex:=ex, fn:=λ_=>false, pn:=[], xe:=E }
noncomputable def PTs (X : Cx) (ifs : List Expr) (t : TT) : Prop:=
  ∀ (pins : List (Addr × Obj)) (s : Shared) (σ : St) (H : Hp) (Q : Bool -> Hp -> Prop), Inv X pins σ H s -> t σ H Q ->
    wpAny (model X.prog X.w) X.A (forIn ifs true λc r=>if r = true then do let ok ← isTrue c X.env (eval c X.env); pure (ForInStep.yield ok) else pure (ForInStep.yield r)) (TP X pins σ Q) X.xe s
noncomputable def UM : TT:=λ_ H Q=>Q true H
theorem IS {σ : St} {H : Hp} {A B : Hp -> Prop} (h : A H) : UM σ H λc H5=>if c = true then A H5 else B H5:=by
  show if true = true then A H else B H
  rw [if_pos rfl]
  exact h
theorem Yr {X : Cx} : PTs X [] UM:=λ_ _ _ H _ I h=>wpAny_tests_nil ⟨H, I, h⟩
theorem FQ {X : Cx} {c : Expr} {t : TT} (h : PT X c t) : PTs X [c] t:=λpins s σ H Q I hw=>wpAny_tests_one (h pins s σ H Q I hw)
noncomputable def JA (n : Nat) (g : TG) : Prop:=∀ x σ H Q, g x σ H Q -> g x σ H λσ2 H2=>Q σ2 H2 /\ σ2.length = σ.length /\ ∀ i, n <= i -> σ2[i]? = σ[i]?
theorem YA {n i : Nat} (h : i < n) : JA n (Jz i):=λx σ H Q q=>⟨q, by simp, λj hj=>by rw [List.getElem?_set_ne (by lia)]⟩
theorem K2 {K : PySem.W.Frag} {n i j : Nat} (hi : i < n) (hj : j < n) : JA n (Lx K 2 (DG (Jz i) (DG (Jz j) L0))):=λx σ H Q q=>by
  obtain ⟨a, xs, e1, hq, hl, v, r, e2, w, r2, e3, e4, q⟩:=q
  exact ⟨a, xs, e1, hq, hl, v, r, e2, w, r2, e3, e4, q, by simp, λk hk=>by rw [List.getElem?_set_ne (by lia), List.getElem?_set_ne (by lia)]⟩
noncomputable def Zb (n : Nat) (caps : List (Nat × Str)) (σ : St) : St:=List.replicate n none ++ caps.map λp=>(σ[p.1]?).join
noncomputable def BG (g : TG) (tt : TT) (te : TE) (σ : St) (Q : VK) (J : It) (W : Nat -> Nat -> List V -> Hp -> Prop) : Prop:=
  ∀ i m ys H2, W i m ys H2 -> ys.length <= sizeLine /\
    ((J.stop i H2 /\ ∀ p, H2 p = none -> Q (.ref p) (upd H2 p (.lst ys))) ∨
    (J.go i H2 /\ ∃ N : List V -> Hp -> Prop, (∀ ys' H', N ys' H' -> ∃ m', m' < m /\ W (i + 1) m' ys' H') /\ ∀ x H3, J.yld i H2 x H3 -> g x σ H3 λσ4 H4=>tt σ4 H4 λc H5=>
      if c = true then te σ4 H5 λv H6=>N (ys ++ [v]) H6 else N ys H5))
noncomputable def Eo (n : Nat) (caps : List (Nat × Str)) (g : TG) (tt : TT) (te : TE) (σ : St) (Q : VK) (J : It) (H1 : Hp) : Prop:=
  ∃ W : Nat -> Nat -> List V -> Hp -> Prop, (∃ m, W 0 m [] H1) /\ BG g tt te (Zb n caps σ) Q J W
noncomputable def Ge (n : Nat) (caps : List (Nat × Str)) (wi : TI) (g : TG) (tt : TT) (te : TE) : TE:=λσ H Q=>wi σ H λJ H1=>Eo n caps g tt te σ Q J H1
noncomputable def Kz (sc scope : Scope) (N0 tns : List Str) (caps : List (Nat × Str)) : Bool:=
  scope.kind == .function && scope.names.all (λy=>!(y.2 == .cell)) && scope.names.all (λy=>!(y.2 == .local) || scope.names.lookup y.1 == some .local) &&
  scope.names.all (λy=>!(y.2 == .free) || sc.names.lookup y.1 == some .cell) && caps.all (λp=>N0[p.1]? == some p.2 && sc.names.lookup p.2 == some .cell && scope.names.lookup p.2 == some .free)
theorem Kf {α : Type} {p : α} {P : Prop} (h : p ∈ ([] : List α)) : P:=nomatch h
noncomputable def Iv (M : Model) (A : Around) (elt tg : Expr) (ifs : List Expr) (acc : Value) (env : Env) (E : Value -> Shared -> Prop) (K : Shared -> Prop) (v : Value) (s : Shared) : Prop:=
  wpAny M A (assign tg env v) (λ_ s₂=>wpAny M A (forIn ifs true λc r=>if r = true then do let ok ← isTrue c env (eval c env); pure (ForInStep.yield ok) else pure (ForInStep.yield r)) (λok s₃=>
    if ok = true then wpAny M A (eval elt env) (λx s₄=>wpAny M A (call (.builtin "list.append") [acc, x]) (λ_ s₅=>K s₅) E s₄) E s₃ else K s₃) E s₂) E s
noncomputable def LQ (M : Model) (A : Around) (elt tg : Expr) (ifs : List Expr) (it acc : Value) (env : Env) (E : Value -> Shared -> Prop) (Rn K : Shared -> Prop) (s : Shared) : Prop:=
  wpAny M A (pyNext it) (λr s₁=>r = none /\ Rn s₁ ∨ ∃ v, r = some v /\ wpAny M A (letOwnedTupleGo tg it v) (λ_ s₁=>Iv M A elt tg ifs acc env E K v s₁) E s₁) E s
section
variable {prog : Program} {w : World} {A : Around} {R : Result -> Shared -> Prop} {s : Shared}
theorem Ky {elt target iter : Expr} {ifs : List Expr} {scope : Scope} {pos : Pos} {it acc : Value} {env : Env} {E : Value -> Shared -> Prop} (I : Nat -> Shared -> Prop) (hE : (notedBy (model prog w) A env λe s'=>R (.error e) s') = E)
    (turn : ∀ n s, I n s -> LQ (model prog w) A elt target ifs it acc env E (λs=>R (.ok .next) s) (λs=>∃ m, m < n /\ I m s) s) (n : Nat) (h : I n s) :
    codeAny (model prog w) A (.compLoop (.ListComp elt [⟨target, iter, ifs, 0⟩] scope pos) 0 it acc env) R s:=by
  subst hE
  refine codeAny_loop rfl I (λn s hI=>?_) n h
  show wpAny _ A ((compTurn (.ListComp elt [⟨target, iter, ifs, 0⟩] scope pos) 0 it acc env).onRaise (λx=>do noteFrame x env; theTreesLotGoes x)) _ _ s
  refine wpAny_noted ?_
  rw [compTurn_list]
  refine wpAny_bind (wpAny_standAt (wpAny_bind (thn (turn n s hI) λr s₁ h₁=>?_)))
  rcases h₁ with ⟨rfl, h₁⟩ | ⟨v, rfl, h₁⟩
  . exact wpAny_pure h₁
  . refine wpAny_bind (thn h₁ λ_ s₁' h₁' => wpAny_bind (thn h₁' λ_ s₂ h₂ => wpAny_bind (thn h₂ λok s₃ h₃ => ?_)))
    cases ok with
    | false=>exact wpAny_pure ⟨rfl, h₃⟩
    | true=>exact wpAny_bind (wpAny_bind (thn h₃ λx s₄ h₄=>wpAny_bind (thn h₄ λ_ s₅ h₅=>wpAny_pure (wpAny_pure ⟨rfl, h₅⟩))))
end
noncomputable def lob (its : List Value) (k : Nat) : Obj:={ cls:=.type "list", data:=.seq (List.toArray its) k }
structure CIn (Y : Cx) (tn : Nat -> Heap -> Prop) (fp : List Addr) (D : Addr) (σ : St) (i : Nat) (H : Hp) (o : Obj) (s : Shared) : Prop where
  I : Inv Y [] σ H s
  t : tn i s.heap
  f : ∀ b ∈ fp, H b = none
  l : s.heap.get? D = some o
  n : H D = none
inductive CI (Y : Cx) (tn : Nat -> Heap -> Prop) (fp : List Addr) (D : Addr) (σ : St) (W : Nat -> Nat -> List V -> Hp -> Prop) (m : Nat) (s : Shared) : Prop
  | mk (i : Nat) (H : Hp) (ys : List V) (its : List Value) (k : Nat) (c : CIn Y tn fp D σ i H (lob its k) s) (r : Yd ys its) (w : W i m ys H)
structure CAt (Y : Cx) (fp : List Addr) (D : Addr) : Prop where
  calm : Y.calm = true
  pn : Y.pn = []
  ne : D ≠ Y.env.locals
  fs : D ∉ Y.fs
  sz : Y.s₀.heap.objs.size <= D
  cl : ∀ x c, Y.env.cells.lookup x = some c -> c ≠ D
  fpn : ∀ b ∈ fp, b ≠ D
  ok : ∀ b ∈ fp, ∀ H : Hp, H b = none -> KQ Y [] H b
section
variable {Y : Cx} {tn : Nat -> Heap -> Prop} {fp : List Addr} {D it : Addr} {σ : St} {tg elt iter : Expr} {ifs : List Expr} {J : It} {g : TG} {tt : TT} {te : TE} {n i : Nat} {H : Hp} {s : Shared} {o : Obj} {Kn : Shared -> Prop}
theorem CAt.pins (c : CAt Y fp D) (hn : ∀ b ∈ fp, H b = none) : ∀ b ∈ fp, KQ Y [(D, o)] H b:=λb hb=>
  have z:=c.ok b hb H (hn b hb)
  ⟨z.1, z.2.1, z.2.2.1, z.2.2.2.1, z.2.2.2.2.1, λp hp e=>by
    rw [c.pn] at hp
    cases List.mem_singleton.mp hp
    exact c.fpn b hb e.symm⟩
theorem Gn (T : Turn Y.prog Y.w Y.K tg J fp it tn) {h5 : Heap} (t : tn i h5) (I : Inv Y ([(D, o)] ++ Kj fp h5) σ H s) : CIn Y tn fp D σ i H o s:=
  have p:=I.pin (D, o) (List.mem_append_right _ (.head _))
  have q : ∀ b ∈ fp, ∀ o', h5.get? b = some o' -> s.heap.get? b = some o' /\ H b = none:=λb hb o' e=>have z:=I.pin (b, o') (List.mem_append_right _ (.tail _ (Je hb e))); ⟨z.1, z.2.1⟩
  ⟨I.pins_of (pins':=[]) λ_ h=>Kf h, T.keep _ _ _ t λb hb o' e=>(q b hb o' e).1, λb hb=>(T.obj _ _ t b hb).elim λo' e=>(q b hb o' e.1).2, p.1, p.2.1⟩
theorem MC (T : Turn Y.prog Y.w Y.K tg J fp it tn) (a : CAt Y fp D) {its : List Value} {k : Nat} {v : Value} {E : Value -> Shared -> Prop} (c : CIn Y tn fp D σ i H (lob its k) s) (hz : its.length <= sizeLine)
    (hQ : ∀ k' s', CIn Y tn fp D σ i H (lob (its ++ [v]) k') s' -> Kn s') : wpAny (model Y.prog Y.w) Y.A (call (.builtin "list.append") [.ref D, v]) (λ_ s=>Kn s) E s:=by
  refine call_meets F.slot_list_append ⟨_, c.l, rfl⟩ F.entry_list_append (F.args_list_append_2 _ _) (PySem.list_append D (List.toArray its) k v hz) ⟨c.l, ?_⟩
  have q : ∃ k', PySem.IsL (s.heap.update D (Obj.mapSeq (·.push v))) D ((List.toArray its).push v) k':=⟨_, PySem.IsL.update c.l (·.push v)⟩
  rw [List.push_toArray] at q
  obtain ⟨k', q⟩:=q
  exact hQ k' _ ⟨c.I.turned (t':=s.toks) (h':=s.heap.update D (Obj.mapSeq (·.push v))) (it:=D) (λb o hb' e=>(Heap.get?_update_other s.heap _ (Ne.symm hb')).trans e) c.n a.ne (.inr a.sz) a.cl (λp hp=>by rw [a.pn] at hp; exact Kf hp),
    T.keep _ _ _ c.t λb hb o e=>(Heap.get?_update_other s.heap _ (Ne.symm (a.fpn b hb))).trans e, c.f, q, c.n⟩
theorem Ee {acc : Value} {pins : List (Addr × Obj)} {N : List V -> Hp -> Prop} {ys : List V} {x : V} {u : Value} (hg : PG Y tg g) (ht : PTs Y ifs tt) (he : PE Y elt te) (hG : JA n g) (h0 : ∀ (j : Nat) v, σ[j]? = some (some v) -> n <= j)
    (I : Inv Y pins σ H s) (r : Yk x u) (st : g x σ H λσ4 H4=>tt σ4 H4 λc H5=>if c = true then te σ4 H5 λv H6=>N (ys ++ [v]) H6 else N ys H5)
    (hF : ∀ H7 s7, Inv Y pins σ H7 s7 -> N ys H7 -> Kn s7) (hT : ∀ H8 s8 y v, Inv Y pins σ H8 s8 -> Yk y v -> N (ys ++ [y]) H8 -> wpAny (model Y.prog Y.w) Y.A (call (.builtin "list.append") [acc, v]) (λ_ s=>Kn s) Y.xe s8) :
    Iv (model Y.prog Y.w) Y.A elt tg ifs acc Y.env Y.xe Kn u s:=by
  refine thn (hg _ s _ H x u _ I r (hG _ _ _ _ st)) λ_ s6 r9=>?_
  obtain ⟨σ6, H6, I6, q6, l6, k6⟩:=r9
  have wk : ∀ (j : Nat) v, σ[j]? = some (some v) -> σ6[j]? = some (some v):=λj v e=>(k6 j (h0 j v e)).trans e
  refine thn (ht _ s6 σ6 H6 _ I6 q6) λc s7 r9=>?_
  obtain ⟨H7, I7, q7⟩:=r9
  cases c with
  | false=>exact hF _ _ (I7.weak l6.symm wk) q7
  | true=>exact thn (he _ s7 σ6 H7 _ I7 q7) λv8 s8 r9=>by obtain ⟨y8, H8, I8, r8, n8⟩:=r9; exact hT _ _ _ _ (I8.weak l6.symm wk) r8 n8
theorem VZ {scope : Scope} {pos : Pos} {Q : V -> Hp -> Prop} {R : Result -> Shared -> Prop} (hE : (notedBy (model Y.prog Y.w) Y.A Y.env λe s'=>R (.error e) s') = Y.xe)
    (T : Turn Y.prog Y.w Y.K tg J fp it tn) (hG : JA n g) (hg : PG Y tg g) (ht : PTs Y ifs tt) (he : PE Y elt te) (a : CAt Y fp D) (h0 : ∀ (j : Nat) v, σ[j]? = some (some v) -> n <= j)
    {W : Nat -> Nat -> List V -> Hp -> Prop} (turn : BG g tt te σ Q J W)
    (hEnd : ∀ ys its k H3 s4, Inv Y [(D, lob its k)] σ H3 s4 -> Yd ys its -> ys.length <= sizeLine -> Q (.ref D) (upd H3 D (.lst ys)) -> R (.ok .next) s4) {m0 : Nat} (hi : CI Y tn fp D σ W m0 s) :
    codeAny (model Y.prog Y.w) Y.A (.compLoop (.ListComp elt [⟨tg, iter, ifs, 0⟩] scope pos) 0 (.ref it) (.ref D) Y.env) R s:=by
  refine Ky (CI Y tn fp D σ W) hE (λm s3 c=>?_) m0 hi
  cases c with
  | mk i H3 ys its k c rv w3=>
  have I3 : Inv Y [(D, lob its k)] σ H3 s3:=c.I.pins_of λp hp=>List.mem_singleton.mp hp ▸ ⟨c.l, c.n, a.ne, a.fs, λ_ z=>by cases z⟩
  have t:=turn i m ys H3 w3
  refine t.2.elim (λq=>?_) λq=>?_
  . exact thn (T.done Y rfl rfl rfl a.calm i _ s3 _ H3 Y.xe I3 (a.pins c.f) c.t q.1) λr s4 h=>.inl ⟨h.1, hEnd ys its k H3 s4 h.2 rv t.1 (q.2 D c.n)⟩
  . refine q.2.elim λNN h => ?_
    refine thn (T.item Y rfl rfl rfl a.calm i _ s3 _ H3 Y.xe I3 (a.pins c.f) c.t q.1) λr s4 h4=>.inr (h4.elim λu h4=>⟨u, h4.1, thn h4.2 λ_ s5 h5=>h5.elim λx h5=>h5.elim λH5 h5=>?_⟩)
    exact Ee hg ht he hG h0 (h5.1.pinned (a.pins h5.2.2.2.2) (T.obj _ _ h5.2.2.2.1)) h5.2.1 (h.2 x H5 h5.2.2.1)
      (λH7 s7 I7 q7=>(h.1 _ _ q7).elim λm' z=>⟨m', z.1, .mk (i + 1) H7 ys its k (Gn T h5.2.2.2.1 I7) rv z.2⟩)
      λH8 s8 y v I8 r8 q8=>(h.1 _ _ q8).elim λm' z=>MC T a (Gn T h5.2.2.2.1 I8) (rv.length ▸ t.1) λk' s' c'=>⟨m', z.1, .mk (i + 1) H8 (ys ++ [y]) (its ++ [v]) k' c' (rv.append (.cons r8 .nil)) z.2⟩
end
section
variable {X : Cx} {elt tg iter : Expr} {ifs : List Expr} {scope sc : Scope} {pos : Pos} {n : Nat} {tns : List Str} {caps : List (Nat × Str)} {wi : TI} {g : TG} {tt : TT} {te : TE}
structure CompEnd (X : Cx) (pins : List (Addr × Obj)) (σ : St) (H3 : Hp) (D C : Addr) (ys : List V) (s' : Shared) : Prop where
  inv : Inv X pins σ (upd H3 D (.lst ys)) s'
  fresh : H3 D = none
  fp : KQ X pins (upd H3 D (.lst ys)) C
  ns : ∃ m, s'.heap.Ns C m
theorem GP {pins : List (Addr × Obj)} {σ σ' : St} {H H3 : Hp} {s s4 : Shared} {D C : Addr} {fp : List Addr} {its : List Value} {k : Nat} {ys : List V} {Y : Cx} (I : Inv X pins σ H s) (hf : ∀ b ∈ fp, KQ X pins H b) (hD : s.heap.objs.size <= D) (hDlt : D < C)
    (I4 : Inv Y [(D, lob its k)] σ' H3 s4) (hos : s4.os = s.os) (u : Un (frs X.stack) fp H H3 s.heap s4.heap) (hok : HOk X.prog X.w H3 s4.heap) (hC : Y.env.locals = C) (rv : Yd ys its) (hz : ys.length <= sizeLine) : CompEnd X pins σ H3 D C ys s4:=by
  subst hC
  have p:=I4.pin (D, lob its k) (List.mem_append_right _ (.head _))
  have hDn : H3 D = none:=p.2.1
  have up : ∀ {b : Addr} {o : HO}, H3 b = some o -> upd H3 D (.lst ys) b = some o:=λe=>(Xw (XY e hDn)).trans e
  refine ⟨I.call' (ch:=fp) hos ⟨u.keep, u.slot, λb o e nn hx=>(Xw (Nat.ne_of_lt (Nat.lt_of_lt_of_le (Heap.lt_size e) hD))).trans (u.free b o e nn hx), u.there, λb xs e=>up (u.tups b xs e), λb o xs e=>up (u.frzs b o xs e), λb ps e=>(u.tbls b ps e).elim λmore z=>⟨more, up z⟩⟩ (λa o e=>?_) I4.bare λb hb=>have z:=hf b hb; ⟨z.2.2.2.1, z.2.1, z.2.2.2.2.1, z.2.2.2.2.2⟩, hDn, I.fpOk (Nat.le_trans hD (Nat.le_of_lt hDlt)) ((Xw (Nat.ne_of_gt hDlt)).trans I4.free), I4.loc.elim λm z=>⟨m, z.1⟩⟩
  by_cases ha : a = D
  . subst ha
    rw [X8] at e; cases e
    exact ⟨hz, its, k, rv, p.1⟩
  . rw [Xw ha] at e
    exact (hok a o e).stay (λb u _ q=>q) (λb q=>up q) λb xs q=>up q
noncomputable def Mw (X : Cx) (elt tg iter : Expr) (ifs : List Expr) (scope : Scope) (pos : Pos) (it : Value) (cl : List (Str × Addr)) (RR : Value -> Addr -> Result -> Shared -> Prop) (E : Value -> Shared -> Prop) (s : Shared) : Prop:=
  wpAny (model X.prog X.w) X.A (newList []) (λacc s₃=>wpAny (model X.prog X.w) X.A (newFunctionEnv scope X.env.globals cl [] X.env.qual none .none (some X.env)) (λcenv s₄=>
      codeAny (model X.prog X.w) X.A (.compStart (.ListComp elt [⟨tg, iter, ifs, 0⟩] scope pos) 0 it acc { cenv with scope:=relabel scope X.env }) (RR acc cenv.locals) s₄) E s₃) E s
theorem Vy {σ : St} {i : Nat} {v : V} (e : (Zb n caps σ)[i]? = some (some v)) : n <= i /\ ∃ p, caps[i - n]? = some p /\ σ[p.1]? = some (some v):=by
  unfold Zb at e
  by_cases h : i < n
  . rw [List.getElem?_append_left (by simpa using h), List.getElem?_replicate, if_pos h] at e
    cases e
  . have hi := Nat.le_of_not_lt h
    rw [List.getElem?_append_right (by simpa using hi), List.length_replicate, List.getElem?_map] at e
    refine ⟨hi, ?_⟩
    cases hcp : caps[i - n]? with
    | none=>rw [hcp] at e; cases e
    | some p=>
      rw [hcp] at e
      exact ⟨p, rfl, Option.join_eq_some_iff.mp (Option.some.inj e)⟩
structure COk (X : Cx) (scope : Scope) (caps : List (Nat × Str)) : Prop where
  kind : scope.kind = .function
  cell : ∀ y ∈ scope.names, y.2 ≠ NameKind.cell
  loc : ∀ y ∈ scope.names, y.2 = .local -> scope.names.lookup y.1 = some .local
  free : ∀ y ∈ scope.names, y.2 = .free -> X.env.scope.names.lookup y.1 = some .cell
  caps : ∀ p ∈ caps, (X.N[p.1]? = some p.2 /\ X.env.scope.names.lookup p.2 = some .cell) /\ scope.names.lookup p.2 = some .free
theorem COk.of {N0 : List Str} (hsc : X.env.scope = sc) (hN0 : X.N = N0) (ok : Kz sc scope N0 tns caps = true) : COk X scope caps:=by
  subst hsc
  subst hN0
  unfold Kz at ok
  simp only [Bool.and_eq_true, List.all_eq_true, beq_iff_eq, Bool.or_eq_true, Bool.not_eq_true', beq_eq_false_iff_ne] at ok
  exact ⟨ok.1.1.1.1, ok.1.1.1.2, λy hy e=>(ok.1.1.2 y hy).resolve_left (absurd e), λy hy e=>(ok.1.2 y hy).resolve_left (absurd e), ok.2⟩
section
variable {pins : List (Addr × Obj)} {σ : St} {H : Hp} {s : Shared} {fp : List Addr} {cl : List (Str × Addr)} {C : Addr} {E : Value -> Shared -> Prop} {N : List Str} {h₁ : Heap}
theorem E3 (ok : COk X scope caps) (I : Inv X pins σ H s) (hf : ∀ b ∈ fp, KQ X pins H b) (hlt : ∀ b ∈ fp, b < s.heap.objs.size)
    (hsub : ∀ x c, cl.lookup x = some c -> X.env.cells.lookup x = some c) (hall : ∀ x, (x, NameKind.free) ∈ scope.names -> ∃ c, cl.lookup x = some c) (hC : s.heap.objs.size < C) : (X.comp N scope cl C s H fp E).Ok:=
  ⟨I.ok.mod, ok.kind, I.ok.glob, I.ok.blt, Nat.le_of_lt hC, λx y c h1 h2=>I.ok.inj x y c (hsub x c h1) (hsub y c h2), λx hx=>hall x (hx.elim (λz=>Qv ok.cell z (.inl rfl)) λz=>Qv ok.cell z (.inr rfl)), (λx c hx=>by cases hx), I.ok.hd, I.ok.frames, .inl rfl,
    λb hb=>⟨Nat.ne_of_lt (Nat.lt_trans (hlt b hb) hC), λx c e=>(hf b hb).2.2.2.2.1 x c (hsub x c e)⟩, I.bs, Nat.le_trans I.ok.bsz I.sz, λb o e hb=>(hf b hb).2.2.2.1.elim (I.ok.noex b o e) λz=>absurd (Nat.lt_of_lt_of_le (Heap.lt_size e) (Nat.le_trans I.ok.bsz z)) (Nat.lt_irrefl _),
    λb hb hz=>(List.mem_cons.mp (I.stkSub b hz)).elim (hf b hb).2.1 (hf b hb).2.2.1, I.stack, I.stkFree⟩
theorem BN (okc : COk X scope caps) (hn : tns.length = n) (ok : (X.comp (tns ++ caps.map (·.2)) scope cl C s H fp E).Ok) (I : Inv X pins σ H s)
    (hsub : ∀ x c, cl.lookup x = some c -> X.env.cells.lookup x = some c) (hall : ∀ x, (x, NameKind.free) ∈ scope.names -> ∃ c, cl.lookup x = some c) (hC : s.heap.objs.size < C) (hns : h₁.Ns C λ_=>none) (old : ∀ b o, s.heap.get? b = some o -> h₁.get? b = some o) {tk : Nat} :
    Inv (X.comp (tns ++ caps.map (·.2)) scope cl C s H fp E) [] (Zb n caps σ) H { s with heap:=h₁, toks:=tk }:=by
  refine ⟨ok, rfl, I.bare, Un.kept old, ⟨_, hns, λi x v e1 e2 _=>?_⟩, λx c e=>(I.cell x c (hsub x c e)).elim λv z=>z.elim λo z=>⟨v, o, old _ _ z.1, z.2⟩, I.hok.fresh (Nat.le_of_lt hC), λx c e=>I.freeC x c (hsub x c e), λp hp=>Kf (α:=Addr × Obj) hp, I.hok.kept old, by simp [Zb, hn]⟩
  obtain ⟨hi, p, hp, hσ⟩:=Vy e2
  have e1' : (tns ++ caps.map (·.2))[i]? = some x:=e1
  rw [List.getElem?_append_right (hn ▸ hi), hn, List.getElem?_map, hp] at e1'
  cases Option.some.inj e1'
  have p5:=okc.caps p (List.mem_of_getElem? hp)
  obtain ⟨m, hm, hl⟩:=I.loc
  obtain ⟨u, r, l⟩:=hl p.1 p.2 v p5.1.1 hσ (.inr (.inl p5.1.2))
  refine ⟨u, r, .inr ?_⟩
  rcases l with ⟨k, _⟩ | ⟨k, c, e, z⟩
  . cases p5.1.2.symm.trans k
  . obtain ⟨c', e'⟩ := hall p.2 (PySem.mem_of_lookup p5.2)
    cases e.symm.trans (hsub _ _ e')
    exact ⟨Z5 (env:=X.env) p5.2, c, e', z.elim λo z=>⟨o, old _ _ z.1, z.2⟩⟩
variable {J : It} {it : Addr} {tn : Nat -> Heap -> Prop} {Q : V -> Hp -> Prop} {RR : Value -> Addr -> Result -> Shared -> Prop} {W : Nat -> Nat -> List V -> Hp -> Prop} {m0 : Nat}
theorem HP (ok : COk X scope caps) (hc : X.calm = true) (hn : tns.length = n) (hG : JA n g)
    (hb : ∀ cl C s H ex E, PG (X.comp (tns ++ caps.map (·.2)) scope cl C s H ex E) tg g /\ PTs (X.comp (tns ++ caps.map (·.2)) scope cl C s H ex E) ifs tt /\ PE (X.comp (tns ++ caps.map (·.2)) scope cl C s H ex E) elt te)
    (I : Inv X pins σ H s) (T : Turn X.prog X.w X.K tg J fp it tn) (t0 : tn 0 s.heap) (hf : ∀ b ∈ fp, KQ X pins H b)
    (hsub : ∀ x c, cl.lookup x = some c -> X.env.cells.lookup x = some c) (hall : ∀ x, (x, NameKind.free) ∈ scope.names -> ∃ c, cl.lookup x = some c)
    (w0 : W 0 m0 [] H) (turn : BG g tt te (Zb n caps σ) Q J W)
    (hRR : ∀ D C ys H3 s', CompEnd X pins σ H3 D C ys s' -> Q (.ref D) (upd H3 D (.lst ys)) -> RR (.ref D) C (.ok .next) s')
    (hC : s.heap.objs.size < C) (hns : h₁.Ns C λ_=>none) (old : ∀ b o, s.heap.get? b = some o -> h₁.get? b = some o) (hacc : h₁.get? s.heap.objs.size = some (lob [] 0)) {tk : Nat} :
    codeAny (model X.prog X.w) X.A (.compStart (.ListComp elt [⟨tg, iter, ifs, 0⟩] scope pos) 0 (.ref it) (.ref s.heap.objs.size) (compEnvC scope cl C X.env)) (RR (.ref s.heap.objs.size) C) { s with heap:=h₁, toks:=tk }:=by
  have hlt : ∀ b ∈ fp, b < s.heap.objs.size:=λb hb=>(T.obj _ _ t0 b hb).elim λo e=>Heap.lt_size e.1
  have okY : ∀ E, (X.comp (tns ++ caps.map (·.2)) scope cl C s H fp E).Ok:=λE=>E3 ok I hf hlt hsub hall hC
  have t1 : tn 0 h₁:=T.keep _ _ _ t0 λb _ o e=>old b o e
  have loop : ∀ tk, codeAny (model X.prog X.w) X.A (.compLoop (.ListComp elt [⟨tg, iter, ifs, 0⟩] scope pos) 0 (.ref it) (.ref s.heap.objs.size) (compEnvC scope cl C X.env)) (RR (.ref s.heap.objs.size) C) { s with heap:=h₁, toks:=tk }:=λtk=>
    have z:=hb cl C s H fp (notedBy (model X.prog X.w) X.A (compEnvC scope cl C X.env) λe s'=>RR (.ref s.heap.objs.size) C (.error e) s')
    VZ (Y:=X.comp (tns ++ caps.map (·.2)) scope cl C s H fp _) rfl T hG z.1 z.2.1 z.2.2
      ⟨hc, rfl, Nat.ne_of_lt hC, λhz=>(I.stack.mem hz).2.elim λo ho=>absurd (Heap.lt_size ho.1) (Nat.lt_irrefl _), Nat.le_refl _, λx c e=>(I.cell x c (hsub x c e)).elim λv z=>Nat.ne_of_lt z.lt, λb hb=>Nat.ne_of_lt (hlt b hb),
        λb hb H' h'=>⟨h', Nat.ne_of_lt (Nat.lt_trans (hlt b hb) hC), (okY λ_ _=>True).exfs b hb, .inl hb, λx c e=>(hf b hb).2.2.2.2.1 x c (hsub x c e), λp hp=>Kf (α:=Addr × Obj) hp⟩⟩
      (λj v e=>(Vy e).1) turn (λys its k H3 s4 I4 rv hz q=>hRR _ C ys H3 s4 (GP I hf (Nat.le_refl _) hC I4 I4.os I4.base I4.hok rfl rv hz) q)
      (.mk 0 H [] [] 0 ⟨BN ok hn (okY _) I hsub hall hC hns old, t1, λb hb=>(hf b hb).1, hacc, I.hok.fresh (Nat.le_refl _)⟩ .nil w0)
  exact codeAny_compStart_list (loop _) (T.self _ 0 _ _ _ t1 (loop _))
theorem VT (ok : COk X scope caps) (hc : X.calm = true) (hn : tns.length = n) (hG : JA n g)
    (hb : ∀ cl C s H ex E, PG (X.comp (tns ++ caps.map (·.2)) scope cl C s H ex E) tg g /\ PTs (X.comp (tns ++ caps.map (·.2)) scope cl C s H ex E) ifs tt /\ PE (X.comp (tns ++ caps.map (·.2)) scope cl C s H ex E) elt te)
    {itv : Value} (h : PIE X pins σ tg (λJ H1=>Eo n caps g tt te σ Q J H1) itv s)
    (hsub : ∀ x c, cl.lookup x = some c -> X.env.cells.lookup x = some c) (hall : ∀ x, (x, NameKind.free) ∈ scope.names -> ∃ c, cl.lookup x = some c)
    (hRR : ∀ D C ys H3 s', CompEnd X pins σ H3 D C ys s' -> Q (.ref D) (upd H3 D (.lst ys)) -> RR (.ref D) C (.ok .next) s') :
    Mw X elt tg iter ifs scope pos itv cl RR E s:=by
  obtain ⟨it, fp, tn, J, H', rfl, I, T, t0, hf, W, ⟨m0, w0⟩, turn⟩:=h
  refine wpAny_newObj_type (wpAny_newFunctionEnv ok.cell (by intro y hy; simp at hy) (λh₁ hns₁ hsb₁=>?_) ok.kind)
  have hs : ∀ o, (s.heap.push o).objs.size = s.heap.objs.size + 1:=λo=>Heap.size_push ..
  exact HP ok hc hn hG hb I T t0 hf hsub hall w0 turn hRR (Nat.lt_of_lt_of_eq (Nat.lt_succ_self _) (hs _).symm) hns₁
    (λb o e=>hsb₁.extBut b o (Nat.ne_of_lt (Nat.lt_trans (Heap.lt_size e) (Nat.lt_of_lt_of_eq (Nat.lt_succ_self _) (hs _).symm))) (Heap.get?_push_of_some _ (Heap.get?_push_of_some _ e)))
    (hsb₁.extBut _ _ (Nat.ne_of_lt (Nat.lt_of_lt_of_eq (Nat.lt_succ_self _) (hs _).symm)) (Heap.get?_push_of_some _ (Heap.get?_push_size _ rfl)))
end
theorem Ha (sc : Scope) (N0 : List Str) (tns : List Str) (caps : List (Nat × Str)) (hc : X.calm = true) (hi : PI X tg iter wi) (hG : JA tns.length g)
    (hb : ∀ cl C s H ex E, PG (X.comp (tns ++ caps.map (·.2)) scope cl C s H ex E) tg g /\ PTs (X.comp (tns ++ caps.map (·.2)) scope cl C s H ex E) ifs tt /\ PE (X.comp (tns ++ caps.map (·.2)) scope cl C s H ex E) elt te)
    (hsc : X.env.scope = sc:=by rfl) (hN0 : X.N = N0:=by rfl) (ok : Kz sc scope N0 tns caps = true:=by decide +kernel)
    (hs : ∀ x, foldedSetIterable iter X.env x = pure x:=by intro _; rfl) :
    PE X (.ListComp elt [⟨tg, iter, ifs, 0⟩] scope pos) (Ge tns.length caps wi g tt te):=by
  intro pins s σ H Q I h
  have okc:=COk.of hsc hN0 ok
  obtain ⟨cl, ecl, hsub, hall⟩:=K8 (scope:=scope) (env:=X.env) λx hx hfr=>I.ok.has x.1 (.inl (okc.free x hx hfr))
  rw [eval_ListComp]
  exact wpAny_comprehension_free (use:=none) rfl hs ecl okc.kind okc.loc (thn (hi pins s σ H _ I h) λxv s₁ h₁=>thn h₁ λitv s₂ h₂=>
    VT (RR:=λacc C=>compPost (model X.prog X.w) X.A X.xe none (EP X pins σ Q) acc C) okc hc rfl hG hb h₂ hsub hall λD C ys H3 s' ce q=>ce.ns.elim λmm hns=>
      ⟨mm, hns, λh' hs'=>⟨.ref D, _, ce.inv.turned (t':=s'.toks) (λb o hb' e=>(hs'.extBut b o hb' e)) ce.fp.1 ce.fp.2.1 ce.fp.2.2.2.1 ce.fp.2.2.2.2.1 ce.fp.2.2.2.2.2, rfl, q⟩⟩)
theorem Ul {x : Str} {px spos : Pos} (j : Nat) (sc : Scope) (N0 : List Str) (tns : List Str) (caps : List (Nat × Str)) (hc : X.calm = true) (hN : X.N.Nodup) (hj : X.N[j]? = some x) (hx : X.env.scope.names.lookup x = some .local) (hi : PI X tg iter wi) (hG : JA tns.length g)
    (hb : ∀ cl C s H ex E, PG (X.comp (tns ++ caps.map (·.2)) scope cl C s H ex E) tg g /\ PTs (X.comp (tns ++ caps.map (·.2)) scope cl C s H ex E) ifs tt /\ PE (X.comp (tns ++ caps.map (·.2)) scope cl C s H ex E) elt te)
    (hsc : X.env.scope = sc:=by rfl) (hN0 : X.N = N0:=by rfl) (ok : Kz sc scope N0 tns caps = true:=by decide +kernel)
    (hsw : swapsWith (.ListComp elt [⟨tg, iter, ifs, 0⟩] scope pos) (some (.Name x px)) spos.line X.env = pure true:=by rfl)
    (hs : ∀ x, foldedSetIterable iter X.env x = pure x:=by intro _; rfl) :
    PS X (.Assign [.Name x px] (.ListComp elt [⟨tg, iter, ifs, 0⟩] scope pos) spos) (Ho (Ge tns.length caps wi g tt te) (Jz j)):=by
  intro pins s σ H D I h
  have okc:=COk.of hsc hN0 ok
  obtain ⟨cl, ecl, hsub, hall⟩:=K8 (scope:=scope) (env:=X.env) λx hx hfr=>I.ok.has x.1 (.inl (okc.free x hx hfr))
  rw [exec_Assign_Name_used _ _ _ _ hsw]
  refine wpAny_bind (wpAny_standAt (wpAny_bind ?_))
  show wpAny _ _ (do let _ ← comprehension (.ListComp elt [⟨tg, iter, ifs, 0⟩] scope pos) scope X.env _ (newList []) false (eval iter X.env) (some (assign (.Name x px) X.env))) _ _ s
  refine wpAny_bind (thn (wpAny_comprehension_free (use:=some (assign (.Name x px) X.env)) (Q:=λ_ s'=>SP X pins D .next s') rfl hs ecl okc.kind okc.loc
    (thn (hi pins s σ H _ I h) λxv s₁ h₁=>thn h₁ λitv s₂ h₂=>?_)) λ_ s' hq=>wpAny_pure (wpAny_pure hq))
  refine VT (Q:=λv H1=>Jz j v σ H1 D.nx) (RR:=λacc C=>compPost (model X.prog X.w) X.A X.xe (some (assign (.Name x px) X.env)) (λ_ s'=>SP X pins D .next s') acc C) okc hc rfl hG hb h₂ hsub hall ?_
  intro DD C ys H3 s' ce q
  obtain ⟨mm, hns⟩:=ce.ns
  obtain ⟨c0, c1, c2, c3, c4, c5⟩:=ce.fp
  show wpAny _ _ (assign (.Name x px) X.env (.ref DD)) _ _ _
  refine wpAny_assign_Name (UY ce.inv hN hj (.inl hx) (v:=.ref DD) rfl (λs2 I2 chg=>?_) (.inr hx))
  obtain ⟨c, hsb, hcc⟩:=chg
  have hCc : C ≠ c:=by
    rcases hcc with z | z
    . rw [z]; exact c1
    . exact λe=>c4 x c z e.symm
  refine ⟨mm, ?_, λh' hs'=>?_⟩
  . obtain ⟨o, es, ep, ho, r⟩ := hns
    exact ⟨o, es, ep, (hsb.2 C hCc).trans ho, r⟩
  . exact ⟨_, _, I2.turned (t':=s2.toks) (λb o hb' e=>(hs'.extBut b o hb' e)) c0 c1 c3 c4 c5, q⟩
end
section
variable {K : PySem.W.Frag} {a : Addr} {xs : List V} {n : Nat} {caps : List (Nat × Str)} {g : TG} {tt : TT} {te : TE} {σ : St} {H : Hp} {Q : V -> Hp -> Prop}
end
section
variable {X : Cx} {pos : Pos}
noncomputable def Cg (K : PySem.W.Frag) : List V -> Hp -> VK -> Prop:=λxs H Q=>∃ p ys, xs = [.ref p] /\ (SqL K H p ys ∨ SqT K H p ys) /\ ∀ l, H l = none -> Q (.ref l) (upd H l (.lst ys))
noncomputable def CA (K : PySem.W.Frag) : List V -> Hp -> VK -> Prop:=λxs H Q=>∃ p ys, xs = [.ref p] /\ (SqL K H p ys ∨ SqT K H p ys) /\ Q (.int ys.length) H
theorem Q4 (K : PySem.W.Frag) (h : X.K = K) : Qb X (.type "list") (Cg K):=by subst h; exact U8
theorem Xm (K : PySem.W.Frag) (h : X.K = K) : Qb X (.builtin "len") (CA K):=by subst h; exact UV
theorem Xk (K : PySem.W.Frag) (h : X.K = K) : IxR X (Ii K):=by subst h; exact ER
theorem UK (K : PySem.W.Frag) (h : X.K = K) : IxR X (Ib K):=by subst h; exact Iq
theorem JU (K : PySem.W.Frag) (h : X.K = K) : SlR X (LB K):=by subst h; exact Hj
theorem Gf (K : PySem.W.Frag) (h : X.K = K) {es : List Expr} {k : Nat} {t : TGs} {n : Nat} (hc : X.calm = true) (hh : PGs X es t)
    (hn : (assignEach es X.env).length = n:=by rfl) (hst : (assignEach es X.env).findIdx? (·.1) = none:=by rfl) : PG X (.Tuple es k pos) (Lx K n t):=by subst h; exact QM hc hh hn hst
end
structure Fn (P : Program) (w : World) (K : PySem.W.Frag) (mg : Str -> Option Value) (base : Heap) (k : Nat) (x : Str) (ps : List Str) (sp : Sp) : Prop where
  ex : ∃ f fd, FnOk P w K mg base CX0 k f fd ps sp /\ KL K fd ps [] /\ PySem.W.keepIn K (.ref f) = true /\ mg x = some (.ref f)
section
variable {X : Cx} {k j : Nat} {x : Str} {ps : List Str} {sp : Sp} {e : Expr} {es : List Expr} {t : TA} {p pos : Pos}
theorem XR (G : Fn X.prog X.w X.K X.mg X.base k x ps sp) (hr : Room j X.A) (hj : k <= j) (ha : PA X (e :: es) t) (hg : Gl X x:=by rfl) (hdb : (x == ("__debug__" : Str)) = false:=by decide)
    (he : starEach (e :: es) X.env = (false, eval e X.env) :: starEach es X.env:=by rfl) (hpl : (backTo pos (starEach es X.env)).any (·.1) = false:=by rfl) :
    PE X (.Call (.Name x p) (e :: es) [] pos) (Fz sp [] E0 t):=by
  obtain ⟨f, fd, F, b, kp, m⟩:=G.ex
  exact Hr F (hr.mono hj) hg m kp b .nil LJ ha hdb he hpl
end
noncomputable def Def (K : PySem.W.Frag) (mg : Str -> Option Value) (x : Str) (st : Stmt) (ps : List Str) : Prop:=∃ f fd, Fun K x x st f fd /\ KL K fd ps [] /\ mg x = some (.ref f)
theorem YM {P : Program} {w : World} {K : PySem.W.Frag} {mg : Str -> Option Value} {base : Heap} {x : Str} {st : Stmt} {N ps : List Str} {k : Nat} {sp : Sp} (D : Def K mg x st ps) (S : FnScope N ps (Xh st)) (len : ∀ vs H Q E, sp vs H Q E -> vs.length = ps.length)
    (hbody : ∀ (f : Addr) (cdv : Value) (A : Around) (outer : List Env) (s : Shared) (H : Hp) (vs : List V) (Q : VK) (E : XK), Room k (A.deeper (envOfC x (Xh st) s.heap.objs.size f cdv)) -> sp vs H Q E ->
      ∃ t, PSs (HA CX0 P w K mg base N x (Xh st) f cdv A outer s H E).nox (YF st) t /\ t { nx:=λ_ H'=>Q .non H', rt:=Q } (Uv N vs) H) : Fn P w K mg base (k + 1) x ps sp:=by
  obtain ⟨f, fd, F, b, m⟩:=D
  exact ⟨f, fd, F.ok S len (hbody f), b, F.kp, m⟩
theorem Fw {a d c : Nat} (h : d <= 8) (hu : a + 8 < c) : a + d < c:=by omega
theorem XT {H : Hp} {p : Addr} (h : H p = none) (o : HO) : Xx H (upd H p o):=λb u q=>by rw [Xw (XY q h)]; exact q
theorem Xx.own {H H2 : Hp} {p : Addr} (s : Xx H H2) (h : H p = none) (o : HO) : Xx H (upd H2 p o):=λb u q=>by rw [Xw (XY q h)]; exact s b u q
theorem Xx.new {H H2 : Hp} {p : Addr} (s : Xx H H2) (h : H2 p = none) (o : HO) : Xx H (upd H2 p o):=s.trans (XT h o)
theorem hu8 {A : Around} {k : Nat} (hr : Room k A) : A.units + 8 < cLine:=Nat.lt_of_le_of_lt (Nat.add_le_add_left (by decide : 8 <= 64) _) hr.units
noncomputable abbrev Enc (α : Type):=PySem.W.Frag -> Hp -> V -> α -> Prop
noncomputable def Xb : Enc Int:=λ_ _ v i=>v = .int i
noncomputable def rL {α : Type} (r : Enc α) : Enc (List α):=λK H v as=>∃ a xs, v = .ref a /\ SqL K H a xs /\ Paired (r K H) xs as
theorem Paired.getL {α β : Type} {F : α -> β -> Prop} : ∀ {l : List α} {m : List β} {i : Nat} {a : α}, Paired F l m -> l[i]? = some a -> ∃ b, m[i]? = some b /\ F a b
  | _, _, _, _, .nil, e=>by simp at e
  | _, _, 0, _, .cons r _, e=>by simp at e; subst e; exact ⟨_, rfl, r⟩
  | _, _, i + 1, a, .cons _ t, e=>by
    obtain ⟨b, h1, h2⟩:=Paired.getL (i:=i) (a:=a) t (by simpa using e)
    exact ⟨b, by simpa using h1, h2⟩
theorem Paired.getR {α β : Type} {F : α -> β -> Prop} : ∀ {l : List α} {m : List β} {i : Nat} {b : β}, Paired F l m -> m[i]? = some b -> ∃ a, l[i]? = some a /\ F a b
  | _, _, _, _, .nil, e=>by simp at e
  | _, _, 0, _, .cons r _, e=>by simp at e; subst e; exact ⟨_, rfl, r⟩
  | _, _, i + 1, b, .cons _ t, e=>by
    obtain ⟨a, h1, h2⟩:=Paired.getR (i:=i) (b:=b) t (by simpa using e)
    exact ⟨a, by simpa using h1, h2⟩
theorem Paired.len {α β : Type} {F : α -> β -> Prop} {l : List α} {m : List β} (h : Paired F l m) : l.length = m.length:=Paired.length h
theorem Paired.app {α β : Type} {F : α -> β -> Prop} : ∀ {l l' : List α} {m m' : List β}, Paired F l m -> Paired F l' m' -> Paired F (l ++ l') (m ++ m'):=λp h=>by
  induction p with
  | nil=>exact h
  | cons r _ ih=>exact .cons r ih
theorem KH (ns : List Int) : ∀ {K : PySem.W.Frag} {H : Hp}, Paired (Xb K H) (ns.map V.int) ns:=by
  intro K H
  induction ns with
  | nil=>exact .nil
  | cons n r ih=>exact .cons rfl ih
structure EqOk {α : Type} [DecidableEq α] (r : Enc α) (d : Nat) : Prop where
  uniq : ∀ {X : Cx} {pins : List (Addr × Obj)} {σ : St} {H : Hp} {s : Shared} {x : V} {a b : α}, Inv X pins σ H s -> r X.K H x a -> r X.K H x b -> a = b
  eq : ∀ {X : Cx} {pins : List (Addr × Obj)} {σ : St} {H : Hp} {s : Shared} {x y : V} {v u : Value} {a b : α} {A : Around}, Inv X pins σ H s -> Yk x v -> Yk y u -> r X.K H x a -> r X.K H y b -> A.units + d < cLine -> SeqAt.EqAt A s v u (decide (a = b))
  rc : ∀ {X : Cx} {pins : List (Addr × Obj)} {σ : St} {H : Hp} {s : Shared} {x y : V} {v u : Value} {a b : α} {A : Around}, Inv X pins σ H s -> Yk x v -> Yk y u -> r X.K H x a -> r X.K H y b -> A.units + d < cLine -> SeqAt.RcAt A s v u (decide (a = b))
  ne : ∀ {X : Cx} {pins : List (Addr × Obj)} {σ : St} {H : Hp} {s : Shared} {x y : V} {v u : Value} {a b : α} {A : Around}, Inv X pins σ H s -> Yk x v -> Yk y u -> r X.K H x a -> r X.K H y b -> A.units + d < cLine -> SeqAt.RcNeAt A s v u (!decide (a = b))
  keep : ∀ {K : PySem.W.Frag} {H H' : Hp} {x : V} {a : α}, Xx H H' -> r K H x a -> r K H' x a
theorem EqOk.up {α : Type} [DecidableEq α] {r : Enc α} {d e : Nat} (E : EqOk r d) (h : d <= e) : EqOk r e:=
  ⟨E.uniq, λI rx ry h1 h2 hu=>E.eq I rx ry h1 h2 (by omega), λI rx ry h1 h2 hu=>E.rc I rx ry h1 h2 (by omega), λI rx ry h1 h2 hu=>E.ne I rx ry h1 h2 (by omega), E.keep⟩
theorem Dm (A : Around) : A.in1.units = A.units + 1:=rfl
theorem BF {a b : Int} : (a == b) = decide (a = b):=by rw [Bool.eq_iff_iff]; simp
theorem eq_int : EqOk Xb 0 where
  uniq:=λ_ h1 h2=>by
    have h1' : _ = V.int _:=h1
    have h2' : _ = V.int _:=h2
    rw [h1'] at h2'; injection h2'
  eq:=fun {X pins σ H s x y v u a b A} I rx ry h1 h2 _=>by
    have h1' : x = V.int a:=h1
    have h2' : y = V.int b:=h2
    subst h1' h2'
    obtain ⟨t, rfl⟩:=rx
    obtain ⟨t', rfl⟩:=ry
    rw [← BF]; exact SeqAt.EqAt.int_int a t b t'
  rc:=fun {X pins σ H s x y v u a b A} I rx ry h1 h2 _=>by
    have h1' : x = V.int a:=h1
    have h2' : y = V.int b:=h2
    subst h1' h2'
    obtain ⟨t, rfl⟩:=rx
    obtain ⟨t', rfl⟩:=ry
    rw [← BF]; exact SeqAt.RcAt.int_int a t b t'
  ne:=fun {X pins σ H s x y v u a b A} I rx ry h1 h2 _=>by
    have h1' : x = V.int a:=h1
    have h2' : y = V.int b:=h2
    subst h1' h2'
    obtain ⟨t, rfl⟩:=rx
    obtain ⟨t', rfl⟩:=ry
    rw [← BF]; exact SeqAt.RcNeAt.int_int a t b t'
  keep:=λ_ h=>h
theorem Cj {α : Type} [DecidableEq α] {as bs : List α} (h : as.length = bs.length) : (List.range as.length).all (λj=>decide (as[j]? = bs[j]?)) = decide (as = bs):=by
  rw [Bool.eq_iff_iff]
  simp only [List.all_eq_true, List.mem_range, decide_eq_true_eq]
  constructor
  . intro hh
    apply List.ext_getElem?
    intro i
    by_cases hi : i < as.length
    . exact hh i hi
    . rw [List.getElem?_eq_none (by omega), List.getElem?_eq_none (by omega)]
  . rintro rfl; intros; rfl
theorem Paired.uniq {α β : Type} {F : α -> β -> Prop} (hu : ∀ a b c, F a b -> F a c -> b = c) : ∀ {l : List α} {m m' : List β}, Paired F l m -> Paired F l m' -> m = m':=fun {l m m'} p=>by
  induction p generalizing m' with
  | nil=>intro q; cases q; rfl
  | cons r _ ih=>intro q; cases q with | cons r' t'=>rw [hu _ _ _ r r', ih t']
theorem Paired.imp2 {α β : Type} {F G : α -> β -> Prop} (h : ∀ a b, F a b -> G a b) : ∀ {l : List α} {m : List β}, Paired F l m -> Paired G l m:=λp=>by
  induction p with
  | nil=>exact .nil
  | cons r _ ih=>exact .cons (h _ _ r) ih
section
variable {α : Type} [DecidableEq α] {r : Enc α} {d : Nat}
theorem VL (E : EqOk r d) {X : Cx} {pins : List (Addr × Obj)} {σ : St} {H : Hp} {s : Shared} {A : Around} (I : Inv X pins σ H s) (hu : A.units + (d + 1) < cLine) {xs ys : List V} {as bs : List α} {its its2 : List Value}
    (r1 : Yd xs its) (r2 : Yd ys its2) (p1 : Paired (r X.K H) xs as) (p2 : Paired (r X.K H) ys bs) :
    ∀ j (h1 : j < its.toArray.size) (h2 : j < its2.toArray.size), SeqAt.EqAt A.in1 s its.toArray[j] its2.toArray[j] (decide (as[j]? = bs[j]?)):=by
  intro j h1 h2
  have h1' : j < its.length:=by simpa using h1
  have h2' : j < its2.length:=by simpa using h2
  obtain ⟨x, ex, rx⟩:=Paired.getR (i:=j) (b:=its[j]) r1 (by simp [h1'])
  obtain ⟨y, ey, ry⟩:=Paired.getR (i:=j) (b:=its2[j]) r2 (by simp [h2'])
  obtain ⟨a, ea, ra⟩:=Paired.getL p1 ex
  obtain ⟨b, eb, rb⟩:=Paired.getL p2 ey
  have:=E.eq (A:=A.in1) I rx ry ra rb (by rw [Dm]; omega)
  rw [ea, eb]
  simpa using this
theorem Hx (E : EqOk r d) : EqOk (rL r) (d + 1):=by
  have un : ∀ {X : Cx} {pins : List (Addr × Obj)} {σ : St} {H : Hp} {s : Shared} {x : V} {a b : List α}, Inv X pins σ H s -> rL r X.K H x a -> rL r X.K H x b -> a = b:=by
    intro X pins σ H s x as bs I h1 h2
    obtain ⟨a, xs, rfl, q1, p1⟩:=h1
    obtain ⟨b, ys, e, q2, p2⟩:=h2
    cases e
    cases I.list_inj q1 q2
    exact Paired.uniq (F:=r X.K H) (λ_ _ _ z z'=>E.uniq I z z') p1 p2
  have rc : ∀ {X : Cx} {pins : List (Addr × Obj)} {σ : St} {H : Hp} {s : Shared} {x y : V} {v u : Value} {a b : List α} {A : Around}, Inv X pins σ H s -> Yk x v -> Yk y u -> rL r X.K H x a -> rL r X.K H y b -> A.units + (d + 1) < cLine -> SeqAt.RcAt A s v u (decide (a = b)):=by
    intro X pins σ H s x y v u as bs A I rx ry h1 h2 hu
    obtain ⟨a, xs, rfl, q1, p1⟩:=h1
    obtain ⟨b, ys, rfl, q2, p2⟩:=h2
    cases rx; cases ry
    obtain ⟨its, r1, l1, _⟩:=I.list q1
    obtain ⟨its2, r2, l2, _⟩:=I.list q2
    have n1:=r1.length
    have n2:=r2.length
    have m1:=Paired.len p1
    have m2:=Paired.len p2
    by_cases hl : as.length = bs.length
    . have := SeqAt.RcAt.lists (A := A) (e := λj => decide (as[j]? = bs[j]?)) l1.isList l2.isList (by simp only [List.size_toArray]; omega) (by omega) (VL E I hu r1 r2 p1 p2)
      rw [show its.toArray.size = as.length by simp only [List.size_toArray]; omega, Cj hl] at this
      exact this
    . rw [decide_eq_false (λe => hl (congrArg List.length e))]
      exact SeqAt.RcAt.lists_lengths l1.isList l2.isList (by simp only [List.size_toArray, bne_iff_ne]; omega) (by omega)
  refine ⟨un, ?_, rc, ?_, ?_⟩
  . intro X pins σ H s x y v u as bs A I rx ry h1 h2 hu
    obtain ⟨a, xs, rfl, q1, p1⟩:=id h1
    obtain ⟨b, ys, rfl, q2, p2⟩:=id h2
    have R:=rc (A:=A) I rx ry h1 h2 hu
    cases rx; cases ry
    by_cases e : a = b
    . subst e
      rw [decide_eq_true (un I h1 h2)]
      exact SeqAt.EqAt.same _
    . exact SeqAt.EqAt.of_refs e R
  . intro X pins σ H s x y v u as bs A I rx ry h1 h2 hu
    obtain ⟨a, xs, rfl, q1, p1⟩:=h1
    obtain ⟨b, ys, rfl, q2, p2⟩:=h2
    cases rx; cases ry
    obtain ⟨its, r1, l1, _⟩:=I.list q1
    obtain ⟨its2, r2, l2, _⟩:=I.list q2
    have n1:=r1.length
    have n2:=r2.length
    have m1:=Paired.len p1
    have m2:=Paired.len p2
    by_cases hl : as.length = bs.length
    . have := SeqAt.RcNeAt.lists (A := A) (e := λj => decide (as[j]? = bs[j]?)) l1.isList l2.isList (by simp only [List.size_toArray]; omega) (by omega) (VL E I hu r1 r2 p1 p2)
      rw [show its.toArray.size = as.length by simp only [List.size_toArray]; omega, Cj hl] at this
      exact this
    . rw [decide_eq_false (λe => hl (congrArg List.length e))]
      exact SeqAt.RcNeAt.lists_lengths l1.isList l2.isList (by simp only [List.size_toArray, bne_iff_ne]; omega) (by omega)
  . intro K H H' x as e h
    obtain ⟨a, xs, rfl, q1, p1⟩:=h
    exact ⟨a, xs, rfl, e.seq q1, Paired.imp2 (λ_ _ z=>E.keep e z) p1⟩
end
section
variable {α β : Type} [DecidableEq α] [DecidableEq β] {r : Enc α} {q : Enc β} {d : Nat}
end
section
variable {X : Cx} {α : Type} [DecidableEq α] {r : Enc α} {d : Nat}
noncomputable def Mf (K : PySem.W.Frag) (r : Enc α) : R2:=λx y H Q=>∃ a b, r K H x a /\ r K H y b /\ Q (.bl (decide (a = b))) H
noncomputable def Ml (K : PySem.W.Frag) (r : Enc α) : R2:=λx y H Q=>∃ a b, r K H x a /\ r K H y b /\ Q (.bl (!decide (a = b))) H
theorem Lu (E : EqOk r d) (hu : X.A.units + d < cLine) : OpR X (compareOp .Eq) (Mf X.K r):=by
  intro pins s σ H x y v u Q I rx ry h
  obtain ⟨a, b, h1, h2, q⟩:=h
  exact E.rc (A:=X.A) I rx ry h1 h2 hu _ _ _ _ ⟨.bl _, H, I, rfl, q⟩
theorem Kt (E : EqOk r d) (hu : X.A.units + d < cLine) : OpR X (compareOp .NotEq) (Ml X.K r):=by
  intro pins s σ H x y v u Q I rx ry h
  obtain ⟨a, b, h1, h2, q⟩:=h
  exact E.ne (A:=X.A) I rx ry h1 h2 hu _ _ _ _ ⟨.bl _, H, I, rfl, q⟩
theorem Ub : OpR X (binaryOp .FloorDiv) (rI (λ_ j=>0 < j /\ j.natAbs.log2 < 9000) λi j=>.int (i / j)):=opI λi j _ _ _ _ _ hc q=>by
  refine floordiv_int (by omega) ?_ (.inl (PyProof.noPylong_of_log2 hc.2))
  rw [Int.fdiv_eq_ediv_of_nonneg i (by omega)]
  exact q
end
end L2
namespace PySem
open Sem (wp)
section
variable {prog : Program} {w : World} {A : Around} {E : Value -> Shared -> Prop} {s : Shared}
end
end PySem
namespace L2
open PySem PySem.Spec PyProof.Rows
section
variable {X : Cx} {e : Expr} {te : TE}
end
section
variable {X : Cx} {pins : List (Addr × Obj)} {σ : St} {H : Hp} {s : Shared} {h' : Heap}
theorem Inv.turnLay {t' : Nat} {ch : List Addr} {T : Addr} {u : HO} (I : Inv X pins σ H s) (k : ∀ b o, b ∉ ch -> s.heap.get? b = some o -> h'.get? b = some o) (hf : ∀ b ∈ ch, KQ X pins H b)
    (hp : s.heap.objs.size <= T) (new : YC X.prog X.w (upd H T u) h' T u) : Inv X pins σ (upd H T u) { s with heap:=h', toks:=t' }:=by
  have hn : H T = none:=I.hok.fresh hp
  have nit : ∀ b o, H b = some o -> b ∉ ch:=λb o e z=>by rw [(hf b z).1] at e; cases e
  refine I.step (g':=s.gens) (d':=s.drawn) (ch:=ch) (λb hb=>?_) (λb o _ _ hc e _=>k b o hc e) (λb o _ _ hc e _=>⟨o.slots, k b o hc e⟩)
    (λb o _ e n=>by rw [Xw (Nat.ne_of_lt (Nat.lt_of_lt_of_le (Heap.lt_size e) hp))]; exact n)
    (λb o hc e=>⟨o, k b o hc e⟩) (λb xs e=>by rw [Xw (XY e hn)]; exact e) (λb o xs e=>by rw [Xw (XY e hn)]; exact e) (λb ps e=>⟨#[], by rw [Xw (XY e hn), e]; simp⟩) (λm hm=>?_) (λb v e=>?_) I.bare
  . obtain ⟨f0, f1, f2, f3, f4, f5⟩ := hf b hb
    exact ⟨f3, f1, f4, f5⟩
  . obtain ⟨o, es, ep, ho, r⟩ := hm
    exact ⟨o, es, ep, k _ o (λz=>(hf _ z).2.1 rfl) ho, r⟩
  . by_cases hb : b = T
    . subst hb; rw [X8] at e; cases e; exact new
    . rw [Xw hb] at e
      refine (I.hok b v e).stay (λc o hc q=>k c o ?_ q) (λc q=>by rw [Xw (XY q hn)]; exact q) λc xs q=>by rw [Xw (XY q hn)]; exact q
      rcases hc with z | z
      . rw [z]; exact nit b v e
      . exact nit c _ z
end
noncomputable def Ite (K : PySem.W.Frag) (a : Addr) : It:=
  ⟨λi H=>∃ xs x, SqL K H a xs /\ xs[i]? = some x, λi H y H'=>∃ p x, y = .ref p /\ H p = none /\ H' = upd H p (.tup [.int (i : Int), x]) /\ ∀ xs, SqL K H a xs -> xs[i]? = some x, λi H=>∃ xs, SqL K H a xs /\ xs.length <= i⟩
theorem Cw {P : Program} {w : World} {K : PySem.W.Frag} {elts : List Expr} {k : Nat} {pos : Pos} (a e it : Addr) (h1 : e ≠ it) (h2 : a ≠ e) (h3 : a ≠ it) :
    Turn P w K (.Tuple elts k pos) (Ite K a) [e, it] e (λi h=>(∃ old, IsEnum h e it (i : Int) old) /\ h.IsListIter it a i) where
  mem:=by simp
  obj:=λi h st b hb=>by
    obtain ⟨⟨old, eo⟩, o, io, c, d⟩:=st
    rcases List.mem_cons.mp hb with z | z
    . subst z
      exact ⟨_, eo, λv z=>by cases z⟩
    . have z := List.mem_singleton.mp z
      subst z
      exact ⟨o, io, λv z=>by rw [d] at z; cases z⟩
  keep:=λi h h' st k=>⟨let ⟨old, eo⟩:=st.1; ⟨old, k e (by simp) _ eo⟩, st.2.at λo q=>k it (by simp) o q⟩
  item:=by
    intro X hP hw hK hc i pins s σ H E I hf st hg
    subst hP hw hK
    obtain ⟨xs, x, hq, hx⟩:=hg
    obtain ⟨its, rv, p, hz⟩:=I.list hq
    obtain ⟨u, hu, ru⟩:=rv.get hx
    obtain ⟨⟨old, eo⟩, io⟩:=id st
    have hu' : its.toArray[i]? = some u:=by simpa using hu
    have W:=WalksT.enumerate (prog:=X.prog) (w:=X.w) (A:=X.A) (I.ok.hd hc) e it a h1 h2 h3 its.toArray
    refine wpAny_pyNext_enum_item eo io p.isList hu' h1 λh' eo' io' tup sz kk=>?_
    have hT : ∀ b o, s.heap.get? b = some o -> s.heap.objs.size ≠ b:=λb o q z=>absurd (Heap.lt_size q) (by rw [← z]; exact Nat.lt_irrefl _)
    have hTe:=hT e _ eo
    have hTi : s.heap.objs.size ≠ it:=by obtain ⟨o, q, _⟩:=io; exact hT it o q
    have ha' : h'.IsList a its.toArray:=p.isList.at λo q=>kk a o h2 h3 q
    refine ⟨_, rfl, W.go elts k pos i s.heap.objs.size _ _ _ ⟨⟨_, eo'⟩, io', ha', hTe, hTi⟩ λh'' st' kk'=>?_⟩
    obtain ⟨st2, io2, _⟩:=st'
    have tup2:=kk' _ _ (by simp [hTe, hTi]) tup
    have k2 : ∀ b o, b ∉ [e, it] -> s.heap.get? b = some o -> h''.get? b = some o:=λb o q1 q=>kk' b o q1 (kk b o (λz=>q1 (by simp [z])) (λz=>q1 (by simp [z])) q)
    refine ⟨.ref s.heap.objs.size, upd H s.heap.objs.size (.tup [.int (i : Int), x]), I.turnLay (h':=h'') (t':=s.toks + 1) k2 hf (Nat.le_refl _) ⟨by show 2 <= sizeLine; decide, [.int (i : Int) s.toks, u], .cons ⟨_, rfl⟩ (.cons ru .nil), ⟨_, tup2, rfl, _, rfl⟩⟩, rfl,
      ⟨_, x, rfl, I.hok.fresh (Nat.le_refl _), rfl, λys hy=>by rw [I.list_inj hy hq]; exact hx⟩, ⟨by simpa using st2, io2⟩, λb hb=>?_⟩
    rcases List.mem_cons.mp hb with z | z
    . rw [z, Xw hTe.symm]; exact (hf e (by simp)).1
    . rw [List.mem_singleton.mp z, Xw hTi.symm]; exact (hf it (by simp)).1
  done:=by
    intro X hP hw hK hc i pins s σ H E I hf st hg
    subst hP hw hK
    obtain ⟨xs, hq, hx⟩:=hg
    obtain ⟨its, rv, p, hz⟩:=I.list hq
    obtain ⟨⟨old, eo⟩, io⟩:=id st
    obtain ⟨f0, f1, f2, f3, f4, f5⟩:=hf it (by simp)
    have hl:=rv.length
    exact wpAny_pyNext_enum_end (I.ok.hd hc) eo io p.isList (by simp; omega) λh' eb=>⟨rfl, I.turned (t':=s.toks) (λb o hb q=>eb b o hb q) f0 f1 f3 f4 f5⟩
  self:=by
    intro A i s Q E st h
    obtain ⟨⟨old, eo⟩, io⟩:=st
    exact wpAny_pyIter_enum eo h
section
variable {X : Cx} {elts : List Expr} {k : Nat} {pos0 : Pos}
noncomputable def Iz (K : PySem.W.Frag) (tl : TE) : TI:=λσ H R=>tl σ H λx H1=>∃ a, x = .ref a /\ (∃ xs, SqL K H1 a xs) /\ R (Ite K a) H1
theorem Zt {l : Expr} {tl : TE} {p pos : Pos} (hg : Gl X "enumerate") (hm : X.mg "enumerate" = none) (hl : PE X l tl) (hs : starEach [l] X.env = [(false, eval l X.env)]:=by rfl) :
    PI X (.Tuple elts k pos0) (.Call (.Name "enumerate" p) [l] [] pos) (Iz X.K tl):=by
  intro pins s σ H R I h
  refine wpAny_Call_Name_kw (VW I hg hm boot_enumerate ?_)
  refine PyProof.Rows.callWith_type1 ?_ hs rfl
  rw [hs]
  show wpAny _ _ (spliced ((false, eval l X.env) :: backTo pos [])) _ _ s
  refine Calls.spliced_cons (thn (hl pins s σ H _ I h) λv s1 ⟨x, H1, I1, r1, a, ex, ⟨xs, hq⟩, q⟩=>?_)
  subst ex
  cases r1
  obtain ⟨its, rv, pl, hz⟩:=I1.list hq
  refine Calls.spliced_nil ?_
  have hlt : a < s1.heap.objs.size:=by obtain ⟨o, n, ho, _⟩:=pl; exact Heap.lt_size ho
  refine call_enumerate_list pl.isList λh' en io sz kk=>?_
  refine wpAny_pyIter_enum en ?_
  refine ⟨_, [s1.heap.objs.size + 1, s1.heap.objs.size], _, _, H1, rfl, I1.kept (t':=s1.toks) kk, Cw a _ _ (Nat.ne_of_gt (Nat.lt_succ_self _)) (Nat.ne_of_lt (Nat.lt_succ_of_lt hlt)) (Nat.ne_of_lt hlt), ⟨⟨_, en⟩, io⟩, λb hb=>?_, q⟩
  have hb' : s1.heap.objs.size <= b:=by
    rcases List.mem_cons.mp hb with z | z
    . rw [z]; exact Nat.le_succ _
    . rw [List.mem_singleton.mp z]; exact Nat.le_refl _
  exact I1.fpOk hb' (I1.hok.fresh hb')
end
noncomputable def Ba (K : PySem.W.Frag) : V -> List V -> Hp -> VK -> Prop:=λx vs H Q=>∃ l xs y, ∃ j : Nat, x = .ref l /\ vs = [y] /\ SqL K H l xs /\ Q9 y = true /\ xs.all Q9 = true /\ (∃ z, xs[j]? = some z /\ eqV z y = true) /\ (∀ (m : Nat) z, m < j -> xs[m]? = some z -> eqV z y = false) /\ Q (.int (j : Int)) H
section
variable {X : Cx}
theorem Eb : MtR X "list.index" (Ba X.K):=by
  intro pins s σ H x vs v us Q I rx rv h
  obtain ⟨l, xs, y, j, rfl, rfl, hq, fy, fs, ⟨z, hz, ez⟩, hm, q⟩:=h
  cases rx
  obtain ⟨u, rfl, ry⟩:=Yd.one rv
  obtain ⟨its, r, pl, hle⟩:=I.list hq
  have hl:=r.length
  have hjl:=(List.getElem?_eq_some_iff.mp hz).1
  have ge : ∀ (m : Nat) (w : V), xs[m]? = some w -> ∀ hm : m < its.toArray.size, eqU y its.toArray[m] = eqV w y:=λm w hw hm=>by
    obtain ⟨u', hu', ru'⟩:=r.get hw
    have e : its.toArray[m] = u':=by
      have:=(List.getElem?_eq_some_iff.mp hu').2
      simpa using this
    rw [e]
    exact GR ru' (List.all_eq_true.mp fs w (List.mem_of_getElem? hw))
  obtain ⟨o, n, ho, hc, hd, hs⟩:=id pl
  obtain ⟨cls, dict, data, slots⟩:=o
  cases hc; cases hd; cases hs
  refine call_meets F.slot_list_index ⟨_, ho, rfl⟩ F.entry_list_index (F.args_list_index_2 _ _) (SeqAt.list_indexAt l its.toArray n none slots u (eqU y) j (by rw [List.size_toArray]; omega) ?_ ?_ ?_) ⟨ho, λw hw=>QF ry fy r fs w (by simpa using hw), ?_⟩
  . have : sizeLine < 2 ^ 63 - 1 := by decide
    omega
  . rw [ge j z hz]; exact ez
  . intro m hm' hlt
    rw [ge m xs[m] (List.getElem?_eq_getElem (by omega))]
    exact hm m _ hlt (List.getElem?_eq_getElem (by omega))
  . exact ⟨.int (j : Int), H, I.tok _, ⟨_, rfl⟩, q⟩
end
section
variable {α : Type} [DecidableEq α] {r : Enc α} {d : Nat}
end
section
variable {X : Cx} {o e f : Expr} {td ty tx : TE} {apos cpos : Pos}
end
theorem YV : ∀ (names : List (Str × NameKind)) (n : Nat) (acc : List (Str × Addr)) {x : Str}, (x, NameKind.cell) ∉ names -> (cellsFrom n names acc).lookup x = acc.lookup x
  | [], _, _, _, _=>rfl
  | (y, k) :: r, n, acc, x, h=>by
    have hr : (x, NameKind.cell) ∉ r:=λz=>h (List.mem_cons_of_mem _ z)
    unfold cellsFrom
    split
    . rename_i hk
      have hk' : k = NameKind.cell:=by simpa using hk
      rw [YV r _ _ hr, List.lookup_cons]
      have : (x == y) = false:=beq_eq_false_iff_ne.mpr λe=>h (by rw [e, hk']; exact List.mem_cons_self)
      rw [this]
    . exact YV r _ _ hr
theorem ZR : ∀ (names : List (Str × NameKind)) (n : Nat) (acc : List (Str × Addr)) {x : Str} {c : Addr}, (x, NameKind.cell) ∈ names -> (cellsFrom n names acc).lookup x = some c -> n <= c
  | [], _, _, _, _, h, _=>nomatch h
  | (y, k) :: r, n, acc, x, c, h, e=>by
    unfold cellsFrom at e
    split at e
    . by_cases hr : (x, NameKind.cell) ∈ r
      . exact Nat.le_of_succ_le (ZR r _ _ hr e)
      . rw [YV r _ _ hr, List.lookup_cons] at e
        rcases List.mem_cons.mp h with h | h
        . have hx : x = y := congrArg Prod.fst h
          rw [hx, beq_self_eq_true] at e
          exact Nat.le_of_eq (Option.some.inj e)
        . exact absurd h hr
    . rename_i hk
      rcases List.mem_cons.mp h with h | h
      . exact absurd (by simpa using (congrArg Prod.snd h).symm) hk
      . exact ZR r _ _ h e
theorem ZW : ∀ (names : List (Str × NameKind)) (n : Nat) (acc : List (Str × Addr)) {x : Str}, ((x, NameKind.cell) ∈ names ∨ ∃ c, acc.lookup x = some c) -> ∃ c, (cellsFrom n names acc).lookup x = some c
  | [], _, _, _, h=>h.elim (λz=>nomatch z) id
  | (y, k) :: r, n, acc, x, h=>by
    unfold cellsFrom
    split
    . refine ZW r _ _ ?_
      by_cases hx : x = y
      . subst hx; exact .inr ⟨n, by rw [List.lookup_cons]; simp⟩
      . rcases h with h | ⟨c, h⟩
        . rcases List.mem_cons.mp h with h | h
          . exact absurd (congrArg Prod.fst h) hx
          . exact .inl h
        . exact .inr ⟨c, by rw [List.lookup_cons, beq_eq_false_iff_ne.mpr hx]; exact h⟩
    . rename_i hk
      refine ZW r _ _ ?_
      rcases h with h | h
      . rcases List.mem_cons.mp h with h | h
        . exact absurd (by simpa using (congrArg Prod.snd h).symm) hk
        . exact .inl h
      . exact .inr h
theorem ZS : ∀ (names : List (Str × NameKind)) (n : Nat) (acc : List (Str × Addr)), (∀ x y c, acc.lookup x = some c -> acc.lookup y = some c -> x = y) -> (∀ x c, acc.lookup x = some c -> c < n) ->
    ∀ x y c, (cellsFrom n names acc).lookup x = some c -> (cellsFrom n names acc).lookup y = some c -> x = y
  | [], _, _, h, _=>h
  | (z, k) :: r, n, acc, h, hl=>by
    unfold cellsFrom
    split
    . refine ZS r (n + 1) _ (λx y c h1 h2 => ?_) λx c h1 => ?_
      . rw [List.lookup_cons] at h1 h2
        cases hx : x == z <;> cases hy : y == z <;> rw [hx] at h1 <;> rw [hy] at h2 <;> simp only at h1 h2
        . exact h x y c h1 h2
        . cases h2; exact absurd (hl x n h1) (Nat.lt_irrefl _)
        . cases h1; exact absurd (hl y n h2) (Nat.lt_irrefl _)
        . rw [beq_iff_eq.mp hx, beq_iff_eq.mp hy]
      . rw [List.lookup_cons] at h1
        cases hx : x == z <;> rw [hx] at h1 <;> simp only at h1
        . exact Nat.lt_succ_of_lt (hl x c h1)
        . cases h1; exact Nat.lt_succ_self _
    . exact ZS r n acc h hl
theorem ZD : ∀ (names : List (Str × NameKind)) (h : Heap) (acc : List (Str × Addr)) {x : Str} {c : Addr}, (cellsFrom h.objs.size names acc).lookup x = some c -> acc.lookup x = some c ∨ ((pushCells h names).IsCell c none /\ h.objs.size <= c)
  | [], _, _, _, _, e=>.inl e
  | (z, k) :: r, h, acc, x, c, e=>by
    unfold cellsFrom at e
    unfold pushCells
    split at e
    . rename_i hk
      rw [if_pos hk]
      have e' : (cellsFrom (h.push { cls:=.type "cell", data:=.cell none }).objs.size r ((z, h.objs.size) :: acc)).lookup x = some c:=by rw [Heap.size_push]; exact e
      rcases ZD r _ _ e' with q | ⟨q1, q2⟩
      . rw [List.lookup_cons] at q
        cases hx : x == z <;> rw [hx] at q <;> simp only at q
        . exact .inl q
        . cases q
          exact .inr ⟨⟨_, pushCells_keeps _ _ _ _ (Heap.get?_push_size _ rfl), rfl⟩, Nat.le_refl _⟩
      . exact .inr ⟨q1, by rw [Heap.size_push] at q2; omega⟩
    . rename_i hk
      rw [if_neg hk]
      exact ZD r h acc e
theorem VQ : ∀ {l : List (Str × NameKind)} {x : Str} {j k : NameKind}, (l.map (·.1)).Nodup -> (x, j) ∈ l -> (x, k) ∈ l -> j ≠ k -> False
  | [], _, _, _, _, h, _, _=>nomatch h
  | (y, i) :: r, x, j, k, hn, h1, h2, ne=>by
    rw [List.map_cons, List.nodup_cons] at hn
    rcases List.mem_cons.mp h1 with h1 | h1 <;> rcases List.mem_cons.mp h2 with h2 | h2
    . cases h1; cases h2; exact ne rfl
    . cases h1; exact hn.1 (List.mem_map.mpr ⟨_, h2, rfl⟩)
    . cases h2; exact hn.1 (List.mem_map.mpr ⟨_, h1, rfl⟩)
    . exact VQ hn.2 h1 h2 ne
theorem Z8 {env : Env} : ∀ {names : List (Str × NameKind)} {x : Str} {k : NameKind},
    (names.map λ(n, k)=>if (k == NameKind.free && env.scope.kind == .function && env.kindOf n == some .cell) then (n, NameKind.cell) else (n, k)).lookup x = some k -> (k = .cell ∨ k = .free) -> (x, NameKind.free) ∈ names ∨ (x, NameKind.cell) ∈ names
  | [], _, _, h, _=>by simp at h
  | (n, kk) :: r, x, k, h, hk=>by
    have ih:=@Z8 env r x k
    simp only [List.map_cons] at h
    have up : ((x, NameKind.free) ∈ r ∨ (x, NameKind.cell) ∈ r) -> ((x, NameKind.free) ∈ (n, kk) :: r ∨ (x, NameKind.cell) ∈ (n, kk) :: r):=λz=>z.elim (λz=>.inl (List.mem_cons_of_mem _ z)) λz=>.inr (List.mem_cons_of_mem _ z)
    by_cases hcond : (kk == NameKind.free && env.scope.kind == .function && env.kindOf n == some .cell) = true
    . rw [if_pos hcond, List.lookup_cons] at h
      have hfree : kk = NameKind.free:=by
        rw [Bool.and_eq_true, Bool.and_eq_true] at hcond
        simpa using hcond.1.1
      cases hx : x == n with
      | true=>
        have : x = n:=by simpa using hx
        subst this; subst hfree
        exact .inl List.mem_cons_self
      | false=>rw [hx] at h; exact up (ih h hk)
    . rw [if_neg hcond, List.lookup_cons] at h
      cases hx : x == n with
      | true=>
        rw [hx] at h
        have hkk : kk = k:=Option.some.inj h
        have : x = n:=by simpa using hx
        subst this; subst hkk
        rcases hk with z | z
        . subst z; exact .inr List.mem_cons_self
        . subst z; exact .inl List.mem_cons_self
      | false=>rw [hx] at h; exact up (ih h hk)
theorem Fo {M : Model} {A : Around} {E : Value -> Shared -> Prop} {s : Shared} {scope : Scope} {globals : Addr} {cl : List (Str × Addr)} {qual : Str} {outer : Env} {Q : Env -> Shared -> Prop}
    (hQ : ∀ h', h'.Ns s.heap.objs.size (λ_=>none) -> (∀ b o, s.heap.get? b = some o -> h'.get? b = some o) ->
      (∀ x c, (cellsFrom (s.heap.objs.size + 1) scope.names cl).lookup x = some c -> cl.lookup x = some c ∨ (h'.IsCell c none /\ s.heap.objs.size + 1 <= c)) ->
      Q (newEnv scope s.heap.objs.size globals (cellsFrom (s.heap.objs.size + 1) scope.names cl) qual none .none (some outer) builtinsNs) { s with heap:=h' }) :
    wpAny M A (newFunctionEnv scope globals cl [] qual none .none (some outer)) Q E s:=by
  simp only [newFunctionEnv, Option.isSome_some, if_true]
  refine wpAny_bind (wpAny_alloc ?_)
  refine wpAny_bind (wpAny_layCells _ (λname kind cells=>by cases hkc : kind == NameKind.cell <;> simp [hkc]) _ _ _ _ ?_)
  rw [show ({ s with heap:=s.heap.push { cls:=.type "dict", data:=.dict #[] } } : Shared).heap.objs.size = s.heap.objs.size + 1 from Heap.size_push ..]
  rw [List.forIn_nil]
  refine wpAny_bind (wpAny_pure (wpAny_pure (hQ _ ((Heap.Ns.new s.heap (.type "dict")).keeps (pushCells_keeps _ _)) (λb o e=>pushCells_keeps _ _ b o (Heap.get?_push_of_some _ e)) λx c e=>?_)))
  have e' : (cellsFrom (s.heap.push { cls:=.type "dict", data:=.dict #[] }).objs.size scope.names cl).lookup x = some c:=by rw [Heap.size_push]; exact e
  rcases ZD scope.names _ cl e' with q | ⟨q1, q2⟩
  . exact .inl q
  . exact .inr ⟨q1, by rw [Heap.size_push] at q2; exact q2⟩
noncomputable def JZ (sc scope : Scope) (N0 tns : List Str) (caps : List (Nat × Str)) : Bool:=
  scope.kind == .function && decide (scope.names.map (·.1)).Nodup && scope.names.all (λy=>!(y.2 == .local) || scope.names.lookup y.1 == some .local) &&
  scope.names.all (λy=>!(y.2 == .free) || (sc.names.lookup y.1 == some .cell || sc.names.lookup y.1 == some .free)) && caps.all (λp=>N0[p.1]? == some p.2 && (sc.names.lookup p.2 == some .cell || sc.names.lookup p.2 == some .free) && scope.names.lookup p.2 == some .free)
noncomputable abbrev Cx.compN (X : Cx) (N : List Str) (scope : Scope) (cl : List (Str × Addr)) (C : Addr) (s : Shared) (H : Hp) (ex : List Addr) (E : Value -> Shared -> Prop) : Cx:=
  { X.comp N scope cl C s H ex E with fn:=λx=>scope.names.lookup x == some .cell }
noncomputable def Ls (scope sc : Scope) : Scope:=
  { scope with names:=scope.names.map λ(n, k)=>if (k == .free && sc.kind == .function && sc.names.lookup n == some .cell) then (n, .cell) else (n, k) }
section
variable {X : Cx} {elt tg iter : Expr} {ifs : List Expr} {scope sc : Scope} {pos : Pos} {n : Nat} {tns : List Str} {caps : List (Nat × Str)} {wi : TI} {g : TG} {tt : TT} {te : TE}
theorem Gd {N0 : List Str} (hc : X.calm = true) (hsc : X.env.scope = sc) (hN0 : X.N = N0) (ok : JZ sc scope N0 tns caps = true) (hn : tns.length = n) (hG : JA n g)
    (hb : ∀ cl C s H ex E, PG (X.compN (tns ++ caps.map (·.2)) scope cl C s H ex E) tg g /\ PTs (X.compN (tns ++ caps.map (·.2)) scope cl C s H ex E) ifs tt /\ PE (X.compN (tns ++ caps.map (·.2)) scope cl C s H ex E) elt te)
    {pins : List (Addr × Obj)} {σ : St} {H : Hp} {s : Shared} {J : It} {fp : List Addr} {it : Addr} {tn : Nat -> Heap -> Prop} {cl : List (Str × Addr)} {Q : V -> Hp -> Prop} {RR : Value -> Addr -> Result -> Shared -> Prop}
    (I : Inv X pins σ H s) (T : Turn X.prog X.w X.K tg J fp it tn) (t0 : tn 0 s.heap) (hf : ∀ b ∈ fp, KQ X pins H b)
    (hsub : ∀ x c, cl.lookup x = some c -> X.env.cells.lookup x = some c) (hall : ∀ x, (x, NameKind.free) ∈ scope.names -> ∃ c, cl.lookup x = some c)
    (W : Nat -> Nat -> List V -> Hp -> Prop) {m0 : Nat} (w0 : W 0 m0 [] H)
    (turn : BG g tt te (Zb n caps σ) Q J W)
    (hRR : ∀ D C ys H3 s', CompEnd X pins σ H3 D C ys s' -> Q (.ref D) (upd H3 D (.lst ys)) -> RR (.ref D) C (.ok .next) s') {E : Value -> Shared -> Prop} :
    wpAny (model X.prog X.w) X.A (newList []) (λacc s₃=>wpAny (model X.prog X.w) X.A (newFunctionEnv scope X.env.globals cl [] X.env.qual none .none (some X.env)) (λcenv s₄=>
      codeAny (model X.prog X.w) X.A (.compStart (.ListComp elt [⟨tg, iter, ifs, 0⟩] scope pos) 0 (.ref it) acc { cenv with scope:=relabel scope X.env }) (RR acc cenv.locals) s₄) E s₃) E s:=by
  subst hsc
  subst hN0
  unfold JZ at ok
  simp only [Bool.and_eq_true, List.all_eq_true] at ok
  obtain ⟨⟨⟨⟨ok1, ok2⟩, ok3⟩, ok4⟩, ok5⟩:=ok
  have hkind : scope.kind = .function:=by simpa using ok1
  have hnd : (scope.names.map (·.1)).Nodup:=by simpa using ok2
  refine wpAny_newObj_type (Fo (λh₁ hns₁ hsb₁ hc₁=>?_))
  dsimp only at hns₁ hsb₁ hc₁ ⊢
  generalize hH2 : s.heap.push { cls:=.type "list", dict:=none, data:=.seq ([] : List Value).toArray } = H2 at hns₁ hsb₁ hc₁ ⊢
  have hC : H2.objs.size = s.heap.objs.size + 1:=by rw [← hH2, Heap.size_push]
  have hDC : s.heap.objs.size ≠ H2.objs.size:=by rw [hC]; exact Nat.ne_of_lt (Nat.lt_succ_self _)
  have hCle : s.heap.objs.size <= H2.objs.size:=by rw [hC]; exact Nat.le_succ _
  have below : ∀ b, b < s.heap.objs.size -> b ≠ H2.objs.size /\ b ≠ s.heap.objs.size:=λb hb=>⟨by rw [hC]; exact Nat.ne_of_lt (Nat.lt_succ_of_lt hb), Nat.ne_of_lt hb⟩
  have old : ∀ b o, s.heap.get? b = some o -> h₁.get? b = some o:=λb o e=>hsb₁ b o (hH2 ▸ Heap.get?_push_of_some _ e)
  have hacc : h₁.get? s.heap.objs.size = some { cls:=.type "list", data:=.seq ([] : List Value).toArray 0 }:=hsb₁ _ _ (hH2 ▸ Heap.get?_push_size _ rfl)
  have hst₁ : tn 0 h₁:=T.keep _ _ _ t0 λb _ o e=>old b o e
  have cf2 : ∀ x, (x, NameKind.free) ∈ scope.names -> ∃ c, (cellsFrom (H2.objs.size + 1) scope.names cl).lookup x = some c /\ cl.lookup x = some c:=λx hx=>by
    obtain ⟨c, hc⟩:=hall x hx
    exact ⟨c, by rw [YV scope.names _ _ (λhm=>VQ hnd hx hm (by decide))]; exact hc, hc⟩
  have cf3 : ∀ x, (x, NameKind.cell) ∈ scope.names -> ∃ c, (cellsFrom (H2.objs.size + 1) scope.names cl).lookup x = some c:=λx hx=>ZW scope.names _ _ (.inl hx)
  have cf4 : ∀ x y c, (cellsFrom (H2.objs.size + 1) scope.names cl).lookup x = some c -> (cellsFrom (H2.objs.size + 1) scope.names cl).lookup y = some c -> x = y:=
    ZS scope.names _ _ (λx y c h1 h2=>I.ok.inj x y c (hsub x c h1) (hsub y c h2)) (λx c e=>by
      obtain ⟨v, z⟩:=I.cell x c (hsub x c e)
      exact Nat.lt_of_lt_of_le z.lt (by rw [hC]; omega))
  have cf5 : ∀ x c, scope.names.lookup x = some NameKind.cell -> (cellsFrom (H2.objs.size + 1) scope.names cl).lookup x = some c -> H2.objs.size + 1 <= c:=λx c hx e=>ZR scope.names _ _ (PySem.mem_of_lookup hx) e
  generalize hcl : cellsFrom (H2.objs.size + 1) scope.names cl = cl' at *
  -- addresses
  generalize hD : s.heap.objs.size = D at *
  generalize hCe : H2.objs.size = C at *
  have fpLt : ∀ b ∈ fp, b < D:=λb hb=>by
    obtain ⟨o, e, _⟩:=T.obj _ _ t0 b hb
    rw [← hD]; exact Heap.lt_size e
  have hDlt : D < C:=by omega
  have cellNe : ∀ x c, cl'.lookup x = some c -> c ≠ D:=λx c e=>by
    rcases hc₁ x c e with q | ⟨_, q⟩
    . obtain ⟨v, z⟩ := I.cell x c (hsub x c q)
      rw [← hD]; exact Nat.ne_of_lt z.lt
    . exact Nat.ne_of_gt (Nat.lt_trans hDlt (Nat.lt_of_succ_le q))
  have fpNe : ∀ b ∈ fp, ∀ x c, cl'.lookup x = some c -> c ≠ b:=λb hb x c e=>by
    rcases hc₁ x c e with q | ⟨_, q⟩
    . exact (hf b hb).2.2.2.2.1 x c (hsub x c q)
    . exact Nat.ne_of_gt (Nat.lt_trans (fpLt b hb) (Nat.lt_trans hDlt (Nat.lt_of_succ_le q)))
  let X' : Cx:=X.compN (tns ++ caps.map (·.2)) scope cl' C s H fp (notedBy (model X.prog X.w) X.A (compEnvC scope cl' C X.env) λe s'=>RR (.ref D) C (.error e) s')
  have okX : X'.Ok:=by
    refine ⟨I.ok.mod, hkind, I.ok.glob, I.ok.blt, by show s.heap.objs.size <= C; omega, cf4, λx hx=>?_, λx c hx hcx=>(by show s.heap.objs.size <= c; have:=cf5 x c (by have hx2 : (scope.names.lookup x == some NameKind.cell) = true:=hx; simpa using hx2) hcx; omega), I.ok.hd, I.ok.frames, .inl rfl, λb hb=>?_, I.bs, Nat.le_trans I.ok.bsz I.sz, λb o e hb=>?_, λb hb hz=>?_, I.stack, I.stkFree⟩
    . have hx' : (relabel scope X.env).names.lookup x = some .cell ∨ (relabel scope X.env).names.lookup x = some .free := hx
      have hz : (x, NameKind.free) ∈ scope.names ∨ (x, NameKind.cell) ∈ scope.names:=by
        rcases hx' with z | z
        . exact Z8 z (.inl rfl)
        . exact Z8 z (.inr rfl)
      rcases hz with z | z
      . obtain ⟨c, q, _⟩ := cf2 x z
        exact ⟨c, q⟩
      . exact cf3 x z
    . refine ⟨Nat.ne_of_lt (Nat.lt_trans (fpLt b hb) hDlt), fpNe b hb⟩
    . rcases (hf b hb).2.2.2.1 with z | z
      . exact I.ok.noex b o e z
      . exact absurd (Nat.lt_of_lt_of_le (Heap.lt_size e) (Nat.le_trans I.ok.bsz z)) (Nat.lt_irrefl _)
    . rcases List.mem_cons.mp (I.stkSub b hz) with z | z
      . exact (hf b hb).2.1 z
      . exact (hf b hb).2.2.1 z
  have lenc : (Zb n caps σ).length = (tns ++ caps.map (·.2)).length:=by unfold Zb; simp [hn]
  have I1 : ∀ tk, Inv X' [] (Zb n caps σ) H { s with heap:=h₁, toks:=tk }:=λtk=>by
    refine ⟨okX, rfl, I.bare, Un.kept old, ⟨_, hns₁, λi x v e1 e2 e3=>?_⟩, λx c e=>?_, I.hok.fresh (by rw [hD]; exact Nat.le_of_lt hDlt), λx c e=>?fc, λp hp=>absurd (show p ∈ ([] : List (Addr × Obj)) from hp) (by simp), I.hok.kept old, lenc⟩
    . have hi : n <= i:=by
        by_cases h : n <= i
        . exact h
        . have e2' : (Zb n caps σ)[i]? = some (some v) := e2
          unfold Zb at e2'
          rw [List.getElem?_append_left (by simp; omega), List.getElem?_replicate] at e2'
          split at e2' <;> cases e2'
      have e2' : (Zb n caps σ)[i]? = some (some v):=e2
      unfold Zb at e2'
      rw [List.getElem?_append_right (by simpa using hi), List.length_replicate, List.getElem?_map] at e2'
      have e1' : (tns ++ caps.map (·.2))[i]? = some x:=e1
      rw [List.getElem?_append_right (by rw [hn]; exact hi), hn, List.getElem?_map] at e1'
      cases hcp : caps[i - n]? with
      | none=>rw [hcp] at e2'; cases e2'
      | some p=>
        rw [hcp] at e2' e1'
        simp only [Option.map_some, Option.some.injEq] at e2' e1'
        have hp5:=ok5 p (List.mem_of_getElem? hcp)
        simp only [beq_iff_eq, Bool.or_eq_true] at hp5
        obtain ⟨⟨p1, p2⟩, p3⟩:=hp5
        have hσ : σ[p.1]? = some (some v):=by
          cases hq : σ[p.1]? with
          | none=>rw [hq] at e2'; cases e2'
          | some o=>rw [hq] at e2'; simp at e2'; rw [e2']
        subst e1'
        obtain ⟨m, hm, hl⟩:=I.loc
        obtain ⟨u, r, l⟩:=hl p.1 p.2 v p1 hσ (.inr p2)
        refine ⟨u, r, .inr ?_⟩
        rcases l with ⟨k, _⟩ | ⟨k, c, e, z⟩
        . have k' : X.env.scope.names.lookup p.2 = some .local := k
          rcases p2 with p2 | p2 <;> (rw [p2] at k'; cases k')
        . obtain ⟨c', e', e''⟩ := cf2 p.2 (PySem.mem_of_lookup p3)
          have:=hsub _ _ e''
          rw [e] at this; cases this
          obtain ⟨o, ho, hd⟩:=z
          exact ⟨Z5 (env:=X.env) p3, c, e', ⟨o, old _ _ ho, hd⟩⟩
    . rcases hc₁ x c e with q | ⟨q, _⟩
      . obtain ⟨v, o, ho, hd⟩ := I.cell x c (hsub x c q)
        exact ⟨v, o, old _ _ ho, hd⟩
      . exact ⟨_, q⟩
    case fc=>
      rcases hc₁ x c e with q | ⟨_, q⟩
      . exact I.freeC x c (hsub x c q)
      . exact I.hok.fresh (by rw [hD]; omega)
  obtain ⟨hg, ht, he⟩:=hb cl' C s H fp X'.xe
  have fsLt : ∀ b ∈ X'.fs, b < D:=λb hb=>by
    obtain ⟨_, o, ho, _⟩:=I.stack.mem hb
    rw [← hD]; exact Heap.lt_size ho
  have aY : CAt X' fp D:=⟨hc, rfl, Nat.ne_of_lt hDlt, λhz=>absurd (fsLt _ hz) (Nat.lt_irrefl _), by show s.heap.objs.size <= D; omega, cellNe, λb hb=>Nat.ne_of_lt (fpLt b hb), λb hb H' h'=>⟨h', Nat.ne_of_lt (Nat.lt_trans (fpLt b hb) hDlt), okX.exfs b hb, .inl hb, fpNe b hb, λp hp=>Kf (α:=Addr × Obj) hp⟩⟩
  have loop : ∀ s₃ : Shared, (∃ tk, s₃ = { s with heap:=h₁, toks:=tk }) ->
      codeAny (model X.prog X.w) X.A (.compLoop (.ListComp elt [⟨tg, iter, ifs, 0⟩] scope pos) 0 (.ref it) (.ref D) (compEnvC scope cl' C X.env)) (RR (.ref D) C) s₃:=by
    rintro s₃ ⟨tk, rfl⟩
    exact VZ (Y:=X') rfl T hG hg ht he aY (λj v e=>(Vy e).1) turn (λys its k H3 s4 I4 rv hz q=>hRR _ C ys H3 s4 (GP I hf (Nat.le_of_eq hD) hDlt I4 I4.os I4.base I4.hok rfl rv hz) q)
      (.mk 0 H [] [] 0 ⟨I1 tk, hst₁, λb hb=>(hf b hb).1, hacc, I.hok.fresh (by rw [hD]; exact Nat.le_refl _)⟩ .nil w0)
  exact codeAny_compStart_list (loop _ ⟨_, rfl⟩) (T.self _ 0 _ _ _ hst₁ (loop _ ⟨_, rfl⟩))
theorem Bs (sc : Scope) (N0 : List Str) (tns : List Str) (caps : List (Nat × Str)) (hc : X.calm = true) (hi : PI X tg iter wi) (hG : JA tns.length g)
    (hb : ∀ cl C s H ex E, PG (X.compN (tns ++ caps.map (·.2)) scope cl C s H ex E) tg g /\ PTs (X.compN (tns ++ caps.map (·.2)) scope cl C s H ex E) ifs tt /\ PE (X.compN (tns ++ caps.map (·.2)) scope cl C s H ex E) elt te)
    (hsc : X.env.scope = sc:=by rfl) (hN0 : X.N = N0:=by rfl) (ok : JZ sc scope N0 tns caps = true:=by decide +kernel)
    (hs : ∀ x, foldedSetIterable iter X.env x = pure x:=by intro _; rfl) :
    PE X (.ListComp elt [⟨tg, iter, ifs, 0⟩] scope pos) (Ge tns.length caps wi g tt te):=by
  intro pins s σ H Q I h
  have ok':=ok
  unfold JZ at ok'
  simp only [Bool.and_eq_true, List.all_eq_true] at ok'
  obtain ⟨⟨⟨⟨ok1, ok2⟩, ok3⟩, ok4⟩, ok5⟩:=ok'
  obtain ⟨cl, ecl, hsub, hall⟩:=K8 (scope:=scope) (env:=X.env) λx hx hfr=>by
    have:=ok4 x hx
    rw [hfr] at this
    have z : sc.names.lookup x.1 = some .cell ∨ sc.names.lookup x.1 = some .free:=by simpa using this
    exact I.ok.has x.1 (by show X.env.scope.names.lookup x.1 = _ ∨ X.env.scope.names.lookup x.1 = _; rw [hsc]; exact z)
  rw [eval_ListComp]
  refine wpAny_comprehension_free (use:=none) rfl hs ecl (by simpa using ok1) (λx hx hl=>by have:=ok3 x hx; rw [hl] at this; simpa using this) (thn (hi pins s σ H _ I h) λxv s₁ h₁=>thn h₁ λitv s₂ h₂=>?_)
  obtain ⟨it, fp, tn, J, H', rfl, I2, T, st2, f2, W, ⟨m0, w0⟩, turn⟩:=h₂
  refine Gd (RR:=λacc C=>compPost (model X.prog X.w) X.A X.xe none (EP X pins σ Q) acc C) hc hsc hN0 ok rfl hG hb I2 T st2 f2 hsub hall W w0 turn ?_
  intro D C ys H3 s' ce q
  obtain ⟨mm, hns⟩:=ce.ns
  refine ⟨mm, hns, λh' hs'=>⟨.ref D, _, ?_, rfl, q⟩⟩
  obtain ⟨c0, c1, c2, c3, c4, c5⟩:=ce.fp
  exact ce.inv.turned (t':=s'.toks) (λb o hb' e=>(hs'.extBut b o hb' e)) c0 c1 c3 c4 c5
end
theorem J0 : ∀ (xs : List V) (us : List Value), xs.length = us.length -> (∀ (j : Nat) x u, xs[j]? = some x -> us[j]? = some u -> Yk x u) -> Yd xs us
  | [], [], _, _=>.nil
  | [], _ :: _, h, _=>by simp at h
  | _ :: _, [], h, _=>by simp at h
  | x :: xs, u :: us, h, r=>.cons (r 0 x u rfl rfl) (J0 xs us (by simpa using h) λj y v e1 e2=>r (j + 1) y v (by simpa using e1) (by simpa using e2))
noncomputable def GF (ta : TA) : TE:=λσ H Q=>ta σ H λvs H1=>∃ j : Int, vs = [.int j] /\ 0 <= j /\ j <= 1000 /\ ∀ p, H1 p = none -> Q (.ref p) (upd H1 p (.lst ((List.range j.toNat).map λi=>V.int ((i : Nat) : Int))))
variable {X : Cx}
theorem Za {e : Expr} {ta : TA} {p q q2 pos : Pos} (hc : X.calm = true) (hg : Gl X "list") (hg2 : Gl X "range") (hm : X.mg "list" = none) (hm2 : X.mg "range" = none) (ha : PA X [e] ta)
    (hs : starEach [.Call (.Name "range" q) [e] [] q2] X.env = [(false, eval (.Call (.Name "range" q) [e] [] q2) X.env)]:=by rfl) (hs2 : starEach [e] X.env = [(false, eval e X.env)]:=by rfl) :
    PE X (.Call (.Name "list" p) [.Call (.Name "range" q) [e] [] q2] [] pos) (GF ta):=by
  intro pins s σ H Q I h
  refine wpAny_Call_Name_kw (VW I hg hm PyProof.Rows.boot_list ?_)
  refine PyProof.Rows.callWith_type1 ?_ hs rfl
  rw [hs]
  show wpAny _ _ (spliced ((false, eval (.Call (.Name "range" q) [e] [] q2) X.env) :: backTo pos [])) _ _ s
  refine Calls.spliced_cons ?_
  refine wpAny_Call_Name_kw (VW I hg2 hm2 boot_range ?_)
  refine PyProof.Rows.callWith_type1 (thn (ha q2 pins s σ H _ I h) λus s1 r9=>?_) hs2 rfl
  obtain ⟨vs, H1, I1, r1, q1⟩:=r9
  obtain ⟨j, e, h0, h1, k⟩:=q1
  subst e
  cases r1 with
  | cons r rr=>
    cases rr
    obtain ⟨t, rfl⟩:=r
    refine call_range_1 ?_
    refine Calls.spliced_nil ?_
    refine call_list_range (n:=j.toNat) (I.ok.hd hc) (IsRange.new ..) (small_one (by omega) (by omega) (by omega) (by omega)) (by rw [rangeSize_one]; split <;> omega) (by omega) λh' tk acc' c' hk hS hacc=>?_
    refine ⟨.ref _, _, I1.laid (h':=h') (t':=tk) (o:=.lst ((List.range j.toNat).map λi=>V.int ((i : Nat) : Int))) (λb o e=>hk b o (Heap.get?_push_of_some _ e)) (by rw [Heap.size_push]; exact Nat.le_succ _) ?_, rfl, k _ (I1.hok.fresh (by rw [Heap.size_push]; exact Nat.le_succ _))⟩
    refine ⟨by rw [List.length_map, List.length_range]; exact Nat.le_of_lt (CM (by omega)), acc'.toList, c', J0 _ _ (by simp [hacc.1]) λi x u e1 e2=>?_, hS⟩
    have e2' : acc'[i]? = some u:=by simpa using e2
    obtain ⟨tk, rfl⟩:=hacc.2 i u e2'
    rw [List.getElem?_map] at e1
    cases e3 : (List.range j.toNat)[i]? with
    | none=>rw [e3] at e1; cases e1
    | some z=>
      rw [e3] at e1
      have hz : z = i:=by
        have hi : i < j.toNat:=by have:=(List.getElem?_eq_some_iff.mp e3).1; simpa using this
        rw [List.getElem?_range hi] at e3
        exact (Option.some.inj e3).symm
      subst hz
      have : x = V.int (z : Int):=(Option.some.inj e1).symm
      subst this
      exact ⟨tk, by simp⟩
theorem JY {l : List Expr} {p : Pos} {es : List Expr} {env : Env} : starEach (.List l p :: es) env = (false, eval (.List l p) env) :: starEach es env:=rfl
theorem Uu {X : Cx} {l : List Expr} {p : Pos} {es : List Expr} {te : TE} {t : TA} (ha : PE X (.List l p) te) (hr : PA X es t) : PA X (.List l p :: es) (XG te t):=Xd ha hr JY
theorem CU {X : Cx} (K : PySem.W.Frag) (h : X.K = K) : MtR X "list.index" (Ba K):=by subst h; exact Eb
variable {X : Cx} {o e : Expr} {es : List Expr} {to : TE} {t : TA} {name : Str} {apos cpos : Pos} {T id : String} {r : V -> List V -> Hp -> VK -> Prop}
theorem Lq (K : PySem.W.Frag) (hK : X.K = K) (pa : PlainAttrs T) (slot : Slot T name id) (hty : typeOf (.builtin id) = pure (.type "method_descriptor")) (hm : MtR X id r) (ho : PE X o to) (ha : PA X (e :: es) t)
    (hbase : attributeBase o name X.env (eval o X.env) = eval o X.env:=by rfl)
    (hfew : ((backTo cpos (starEach (e :: es) X.env)).all (λx=>!x.1) && (backToKw cpos (keywordEach [] X.env)).all (λx=>x.1.isSome)
      && decide ((e :: es).length + ([] : List Keyword).length + (if ([] : List Keyword).isEmpty then 0 else 1) < 30)) = true:=by rfl)
    (hline : (apos.endLine == cpos.line) = true:=by rfl) (hs : starEach (e :: es) X.env = (false, eval e X.env) :: starEach es X.env:=by rfl) (hplain : (backTo cpos (starEach es X.env)).any (·.1) = false:=by rfl) :
    PE X (.Call (.Attribute o name apos) (e :: es) [] cpos) (tBM K T r to t):=by
  subst hK
  exact QL pa slot hty hm ho ha hbase hfew hline hs hplain
end L2
namespace PySem
open PySem.Spec
namespace SeqAt
open MeetsSeq
theorem list_indexFrom (l : Addr) (items : Array Value) (n : Nat) (dd : Option Addr) (sl : Array (Option Value)) (x : Value) (e : Value -> Bool) (k : Nat) (t : Tok) (j : Nat) (hk : k <= j) (hj : j < items.size) (hsmall : (j : Int) < 2 ^ 63 - 1)
    (hit : e items[j] = true) (hno : ∀ m (hm : m < items.size), k <= m -> m < j -> e items[m] = false) :
    Meets (Builtin.«list.index» ⟨[.ref l, x, .int (k : Int) t], []⟩)
      (λA R s=>s.heap.get? l = some { cls:=.type "list", dict:=dd, data:=.seq items n, slots:=sl } /\ (∀ y, y ∈ items -> EqAt A.in1 s y x (e y)) /\ R (.ok (.ret (.int j s.toks))) { s with toks:=s.toks + 1 }):=by
  intro prog w A R s h
  obtain ⟨hp, g, d, tk, os⟩:=s; obtain ⟨hl, he, h⟩:=h
  wp_walk using wpAny_loadPart' hl
  have a1 : ((λi : Int=>if i < 0 then max 0 (i + (items.size : Int)) else i) ((some (k : Int)).getD 0)) = ((k : Nat) : Int):=by
    show (if (k : Int) < 0 then max 0 ((k : Int) + (items.size : Int)) else (k : Int)) = _
    rw [if_neg (by omega)]
  have a2 : ((λi : Int=>if i < 0 then max 0 (i + (items.size : Int)) else i) ((none : Option Int).getD (2 ^ 63 - 1))) = 2 ^ 63 - 1:=by simp
  rw [a1, a2]
  exact ⟨plainId_quiet plain_index_loop _, codeAny_builtin entry_index_loop (by
    rw [Around.under_plainId plain_index_loop _]
    exact index_loopAt l items n dd sl x e (2 ^ 63 - 1) j hj hsmall hit _ k rfl hk (λm hm h1 h2=>hno m hm h1 h2) prog w A R _ ⟨hl, he, h⟩)⟩
end SeqAt
end PySem
namespace L2
open PySem PySem.Spec PyProof.Rows
noncomputable def F7 (K : PySem.W.Frag) : V -> List V -> Hp -> VK -> Prop:=λx vs H Q=>∃ l xs y, ∃ k j : Nat, ∃ kk : Int, x = .ref l /\ vs = [y, .int kk] /\ kk = (k : Int) /\ SqL K H l xs /\ Q9 y = true /\ xs.all Q9 = true /\ k <= j /\ (∃ z, xs[j]? = some z /\ eqV z y = true) /\ (∀ (m : Nat) z, k <= m -> m < j -> xs[m]? = some z -> eqV z y = false) /\ Q (.int (j : Int)) H
section
variable {X : Cx}
theorem FX : MtR X "list.index" (F7 X.K):=by
  intro pins s σ H x vs v us Q I rx rv h
  obtain ⟨l, xs, y, k, j, kk, rfl, rfl, rfl, hq, fy, fs, hkj, ⟨z, hz, ez⟩, hm, q⟩:=h
  cases rx
  obtain ⟨u, u2, rfl, ry, rk⟩:=Yd.two rv
  obtain ⟨t, rfl⟩:=rk
  obtain ⟨its, r, pl, hle⟩:=I.list hq
  have hl:=r.length
  have hjl:=(List.getElem?_eq_some_iff.mp hz).1
  have ge : ∀ (m : Nat) (w : V), xs[m]? = some w -> ∀ hm : m < its.toArray.size, eqU y its.toArray[m] = eqV w y:=λm w hw hm=>by
    obtain ⟨u', hu', ru'⟩:=r.get hw
    have e : its.toArray[m] = u':=by
      have:=(List.getElem?_eq_some_iff.mp hu').2
      simpa using this
    rw [e]
    exact GR ru' (List.all_eq_true.mp fs w (List.mem_of_getElem? hw))
  obtain ⟨o, n, ho, hc, hd, hs⟩:=id pl
  obtain ⟨cls, dict, data, slots⟩:=o
  cases hc; cases hd; cases hs
  refine call_meets F.slot_list_index ⟨_, ho, rfl⟩ F.entry_list_index (F.args_list_index_3 _ _ _) (SeqAt.list_indexFrom l its.toArray n none slots u (eqU y) k t j hkj (by rw [List.size_toArray]; omega) ?_ ?_ ?_) ⟨ho, λw hw=>QF ry fy r fs w (by simpa using hw), ?_⟩
  . have : sizeLine < 2 ^ 63 - 1 := by decide
    omega
  . rw [ge j z hz]; exact ez
  . intro m hm' hle1 hlt
    rw [ge m xs[m] (List.getElem?_eq_getElem (by omega))]
    exact hm m _ hle1 hlt (List.getElem?_eq_getElem (by omega))
  . exact ⟨.int (j : Int), H, I.tok _, ⟨_, rfl⟩, q⟩
end
section
variable {X : Cx}
end
section
variable {X : Cx} {α : Type} [DecidableEq α] {r : Enc α} {d : Nat}
end
section
variable {X : Cx}
end
section
variable {X : Cx}
theorem Fm (K : PySem.W.Frag) (h : X.K = K) : OpR X (compareOp .In) (rIn K false):=by subst h; exact Kh
variable {T : String} {name : Str} {id : String} {r : V -> List V -> Hp -> VK -> Prop} {o e : Expr} {es : List Expr} {to : TE} {t : TA} {apos cpos : Pos}
theorem Lv {K : PySem.W.Frag} (hK : X.K = K) (pa : PlainAttrs T) (slot : Slot T name id) (hty : typeOf (.builtin id) = pure (.type "method_descriptor")) (hm : MtR X id r) (ho : PE X o to) (ha : PA X (e :: es) t)
    (hbase : attributeBase o name X.env (eval o X.env) = eval o X.env:=by rfl)
    (hfew : ((backTo cpos (starEach (e :: es) X.env)).all (λx=>!x.1) && (backToKw cpos (keywordEach [] X.env)).all (λx=>x.1.isSome)
      && decide ((e :: es).length + ([] : List Keyword).length + (if ([] : List Keyword).isEmpty then 0 else 1) < 30)) = true:=by rfl)
    (hline : (apos.endLine == cpos.line) = true:=by rfl) (hs : starEach (e :: es) X.env = (false, eval e X.env) :: starEach es X.env:=by rfl) (hplain : (backTo cpos (starEach es X.env)).any (·.1) = false:=by rfl) :
    PE X (.Call (.Attribute o name apos) (e :: es) [] cpos) (tBM K T r to t):=Lq K hK pa slot hty hm ho ha hbase hfew hline hs hplain
end
section
variable {X : Cx} {elt tg iter : Expr} {ifs : List Expr} {scope : Scope} {pos : Pos} {wi : TI} {g : TG} {tt : TT} {te : TE}
theorem JH {sc : Scope} {N0 : List Str} {tns : List Str} {caps : List (Nat × Str)} (hc : X.calm = true) (hi : PI X tg iter wi) (hG : JA tns.length g)
    (hb : ∀ cl C s H ex E, PG (X.compN (tns ++ caps.map (·.2)) scope cl C s H ex E) tg g /\ PTs (X.compN (tns ++ caps.map (·.2)) scope cl C s H ex E) ifs tt /\ PE (X.compN (tns ++ caps.map (·.2)) scope cl C s H ex E) elt te)
    (hsc : X.env.scope = sc:=by rfl) (hN0 : X.N = N0:=by rfl) (ok : JZ sc scope N0 tns caps = true:=by decide +kernel)
    (hs : ∀ x, foldedSetIterable iter X.env x = pure x:=by intro _; rfl) :
    PE X (.ListComp elt [⟨tg, iter, ifs, 0⟩] scope pos) (Ge tns.length caps wi g tt te):=Bs sc N0 tns caps hc hi hG hb hsc hN0 ok hs
theorem YK {sc : Scope} {N0 : List Str} {tns : List Str} {caps : List (Nat × Str)} (hc : X.calm = true) (hi : PI X tg iter wi) (hG : JA tns.length g)
    (hb : ∀ cl C s H ex E, PG (X.comp (tns ++ caps.map (·.2)) scope cl C s H ex E) tg g /\ PTs (X.comp (tns ++ caps.map (·.2)) scope cl C s H ex E) ifs tt /\ PE (X.comp (tns ++ caps.map (·.2)) scope cl C s H ex E) elt te)
    (hsc : X.env.scope = sc:=by rfl) (hN0 : X.N = N0:=by rfl) (ok : Kz sc scope N0 tns caps = true:=by decide +kernel)
    (hs : ∀ x, foldedSetIterable iter X.env x = pure x:=by intro _; rfl) :
    PE X (.ListComp elt [⟨tg, iter, ifs, 0⟩] scope pos) (Ge tns.length caps wi g tt te):=Ha sc N0 tns caps hc hi hG hb hsc hN0 ok hs
end
section
variable {X : Cx} {tg l : Expr} {tl : TE} {p pos : Pos} {K : PySem.W.Frag}
theorem X1 (h : X.K = K) (hl : PE X l tl) : PI X tg l (EN K tl):=by subst h; exact EU hl
end
section
variable {X : Cx}
end
inductive Pay where
  | non | int (i : Int) | tag (t : Str) (xs : List Int)
  deriving DecidableEq
structure Exc where
  cls : Str
  pay : Pay
inductive Rs (α : Type) where
  | bad | err (x : Exc) | ok (a : α)
noncomputable def Rs.bind {α β : Type} : Rs α -> (α -> Rs β) -> Rs β
  | .bad, _=>.bad
  | .err x, _=>.err x
  | .ok a, f=>f a
theorem Rs.ok_bind {α β : Type} (a : α) (f : α -> Rs β) : (Rs.ok a).bind f = f a:=rfl
noncomputable def chk {α : Type} (c : Prop) [Decidable c] (m : Rs α) : Rs α:=if c then m else .bad
theorem XL {α : Type} {c : Prop} [Decidable c] {m : Rs α} (h : c) : chk c m = m:=if_pos h
noncomputable abbrev XM:=Addr × HO
noncomputable def H9 : HO -> Bool
  | .lst _=>true
  | .dK _=>true
  | .dT _=>true
  | _=>false
noncomputable def fl (OO : List (List XM)) : List Addr:=OO.flatten.map (·.1)
open Classical in
noncomputable def hid (H : Hp) (OO : List (List XM)) : Hp:=λb=>if b ∈ fl OO then none else H b
structure W (OO : List (List XM)) (H : Hp) : Prop where
  tr : ∀ c ∈ OO.flatten, H c.1 = some c.2
  nd : (fl OO).Nodup
  mu : ∀ c ∈ OO.flatten, H9 c.2 = true
theorem XW {H : Hp} {OO} {b : Addr} {o : HO} (h : hid H OO b = some o) : H b = some o /\ b ∉ fl OO:=by
  unfold hid at h
  split at h
  . cases h
  . exact ⟨h, by assumption⟩
theorem Zj {H : Hp} {OO} {b : Addr} {o : HO} (h : H b = some o) (n : b ∉ fl OO) : hid H OO b = some o:=by
  unfold hid; rw [if_neg n]; exact h
theorem XH {H : Hp} {OO} : Xx (hid H OO) H:=λb o h=>(XW h).1
theorem Xl {H H' : Hp} {OO} (s : Xx H H') : Xx (hid H OO) (hid H' OO):=λb o h=>Zj (s _ _ (XW h).1) (XW h).2
theorem Jg {H H' : Hp} {OO OO'} (s : Xx H H') (h : ∀ b, b ∈ fl OO' -> b ∈ fl OO) : Xx (hid H OO) (hid H' OO'):=λb o q=>Zj (s _ _ (XW q).1) λz=>(XW q).2 (h b z)
theorem Ya {C : List XM} {OO} : fl (C :: OO) = C.map (·.1) ++ fl OO:=by simp [fl]
theorem Cr {OO} : fl ([] :: OO) = fl OO:=by simp [fl]
theorem Y7 {H : Hp} {OO} : hid H ([] :: OO) = hid H OO:=by unfold hid; rw [Cr]
theorem W.keep {OO} {H H' : Hp} (w : W OO H) (s : Xx H H') : W OO H':=⟨λc hc=>s _ _ (w.tr c hc), w.nd, w.mu⟩
theorem W.of {OO OO' : List (List XM)} {H : Hp} (w : W OO H) (h : OO'.flatten.Perm OO.flatten) : W OO' H:=
  ⟨λc hc=>w.tr c (h.mem_iff.mp hc), (h.map _).nodup_iff.mpr w.nd, λc hc=>w.mu c (h.mem_iff.mp hc)⟩
theorem W.sub {OO OO' : List (List XM)} {H : Hp} (w : W OO H) (h : OO'.flatten.Sublist OO.flatten) : W OO' H:=
  ⟨λc hc=>w.tr c (h.mem hc), (h.map _).nodup w.nd, λc hc=>w.mu c (h.mem hc)⟩
theorem W.tail {C OO} {H : Hp} (w : W (C :: OO) H) : W OO H:=w.sub (by simp)
theorem W.nil {OO} {H : Hp} (w : W OO H) : W ([] :: OO) H:=w.of (by simp)
theorem W.cell {C OO} {H : Hp} (w : W (C :: OO) H) : ∀ c ∈ C, H c.1 = some c.2:=λc hc=>w.tr c (by simp [hc])
theorem Jt {OO : List (List XM)} {c : XM} (h : c ∈ OO.flatten) : c.1 ∈ fl OO:=List.mem_map.mpr ⟨c, h, rfl⟩
theorem Cd {OO : List (List XM)} {b : Addr} (h : b ∈ fl OO) : ∃ o, (b, o) ∈ OO.flatten:=by
  obtain ⟨⟨a, o⟩, hc, rfl⟩:=List.mem_map.mp h
  exact ⟨o, hc⟩
theorem W.fresh {OO} {H : Hp} (w : W OO H) {p : Addr} (h : H p = none) : p ∉ fl OO:=λz=>by
  obtain ⟨o, ho⟩:=Cd z
  have:=w.tr _ ho
  rw [h] at this; cases this
theorem W.new {OO} {H : Hp} (w : W OO H) {p : Addr} (h : H p = none) {o : HO} (m : H9 o = true) : W ([(p, o)] :: OO) (upd H p o):=by
  have hf:=w.fresh h
  refine ⟨λc hc=>?_, ?_, λc hc=>?_⟩
  . simp only [List.flatten_cons, List.cons_append, List.nil_append, List.mem_cons] at hc
    rcases hc with rfl | hc
    . exact X8
    . rw [Xw (λe=>hf (by rw [← e]; exact Jt hc))]; exact w.tr c hc
  . rw [Ya]; simpa using ⟨hf, w.nd⟩
  . simp only [List.flatten_cons, List.cons_append, List.nil_append, List.mem_cons] at hc
    rcases hc with rfl | hc
    . exact m
    . exact w.mu c hc
theorem UE {OO} {H : Hp} {p : Addr} (h : H p = none) {o : HO} : Xx (hid H OO) (hid (upd H p o) ([(p, o)] :: OO)):=λb u q=>by
  obtain ⟨q1, q2⟩:=XW q
  have hb : b ≠ p:=XY q1 h
  refine Zj (by rw [Xw hb]; exact q1) ?_
  rw [Ya]; simpa using ⟨hb, q2⟩
theorem QK {OO} {H : Hp} (w : W OO H) {p : Addr} (h : H p = none) {o : HO} : hid (upd H p o) OO p = some o:=Zj X8 (w.fresh h)
class MonoE {α : Type} (r : Enc α) : Prop where
  mono : ∀ {K : PySem.W.Frag} {H H' : Hp} {v : V} {a : α}, Xx H H' -> r K H v a -> r K H' v a
noncomputable def Mk : HO -> Bool
  | .tup _=>true
  | .frz _ _=>true
  | _=>false
noncomputable def VH (H H' : Hp) : Prop:=∀ b o, H b = some o -> Mk o = true -> H' b = some o
theorem Xx.i {H H' : Hp} (s : Xx H H') : VH H H':=λb o h _=>s b o h
theorem W.i {OO} {H : Hp} (w : W OO H) : VH H (hid H OO):=λb o h i=>Zj h λz=>by
  obtain ⟨u, hu⟩:=Cd z
  have h1:=w.tr _ hu
  have h2:=w.mu _ hu
  rw [h] at h1
  have e : o = u:=Option.some.inj h1
  subst e
  revert i h2; cases o <;> simp [Mk, H9]
theorem VH.trans {H H1 H2 : Hp} (a : VH H H1) (b : VH H1 H2) : VH H H2:=λc o h i=>b c o (a c o h i) i
class FlatE {α : Type} (r : Enc α) : Prop where
  flat : ∀ {K : PySem.W.Frag} {H H' : Hp} {v : V} {a : α}, VH H H' -> r K H v a -> r K H' v a
instance {α : Type} {r : Enc α} [f : FlatE r] : MonoE r:=⟨λs h=>f.flat s.i h⟩
noncomputable def Yw : Enc Bool:=λ_ _ v b=>v = .bl b
noncomputable def Zu {α : Type} (r : Enc α) : Enc (Option α):=λK H v a=>match a with
  | none=>v = .non
  | some a=>v ≠ .non /\ r K H v a
noncomputable def rV {α : Type} (r : Enc α) : Enc (List α):=λK H v as=>∃ a xs, v = .ref a /\ H a = some (.lst xs) /\ Paired (r K H) xs as
noncomputable def rPL {α : Type} (r : Enc α) : Enc (List α):=λK H v as=>∃ a xs, v = .ref a /\ H a = some (.tup xs) /\ Paired (r K H) xs as
noncomputable def rP2 {α β : Type} (r : Enc α) (q : Enc β) : Enc (α × β):=λK H v p=>∃ a x y, v = .ref a /\ H a = some (.tup [x, y]) /\ r K H x p.1 /\ q K H y p.2
noncomputable def rP3 {α β γ : Type} (r : Enc α) (q : Enc β) (t : Enc γ) : Enc (α × β × γ):=λK H v p=>∃ a x y z, v = .ref a /\ H a = some (.tup [x, y, z]) /\ r K H x p.1 /\ q K H y p.2.1 /\ t K H z p.2.2
instance {α : Type} {r : Enc α} [m : MonoE r] : MonoE (rV r):=⟨λs r9=>by obtain ⟨a, xs, e, q, p⟩:=r9; exact ⟨a, xs, e, s _ _ q, Paired.imp2 (λ_ _ z=>m.mono s z) p⟩⟩
instance {α : Type} {r : Enc α} [m : MonoE r] : MonoE (rPL r):=⟨λs r9=>by obtain ⟨a, xs, e, q, p⟩:=r9; exact ⟨a, xs, e, s _ _ q, Paired.imp2 (λ_ _ z=>m.mono s z) p⟩⟩
instance {α : Type} {r : Enc α} [m : FlatE r] : FlatE (rPL r):=⟨λs r9=>by obtain ⟨a, xs, e, q, p⟩:=r9; exact ⟨a, xs, e, s _ _ q rfl, Paired.imp2 (λ_ _ z=>m.flat s z) p⟩⟩
instance {α β : Type} {r : Enc α} {q : Enc β} [m : MonoE r] [n : MonoE q] : MonoE (rP2 r q):=⟨λs r9=>by obtain ⟨a, x, y, e, h, p1, p2⟩:=r9; exact ⟨a, x, y, e, s _ _ h, m.mono s p1, n.mono s p2⟩⟩
instance {α β : Type} {r : Enc α} {q : Enc β} [m : FlatE r] [n : FlatE q] : FlatE (rP2 r q):=⟨λs r9=>by obtain ⟨a, x, y, e, h, p1, p2⟩:=r9; exact ⟨a, x, y, e, s _ _ h rfl, m.flat s p1, n.flat s p2⟩⟩
instance {α β γ : Type} {r : Enc α} {q : Enc β} {t : Enc γ} [m : MonoE r] [n : MonoE q] [k : MonoE t] : MonoE (rP3 r q t):=⟨λs r9=>by obtain ⟨a, x, y, z, e, h, p1, p2, p3⟩:=r9; exact ⟨a, x, y, z, e, s _ _ h, m.mono s p1, n.mono s p2, k.mono s p3⟩⟩
instance {α β γ : Type} {r : Enc α} {q : Enc β} {t : Enc γ} [m : FlatE r] [n : FlatE q] [k : FlatE t] : FlatE (rP3 r q t):=⟨λs r9=>by obtain ⟨a, x, y, z, e, h, p1, p2, p3⟩:=r9; exact ⟨a, x, y, z, e, s _ _ h rfl, m.flat s p1, n.flat s p2, k.flat s p3⟩⟩
instance : FlatE Xb:=⟨λ_ h=>h⟩
instance : FlatE Yw:=⟨λ_ h=>h⟩
instance {α : Type} {r : Enc α} [m : MonoE r] : MonoE (rL r):=⟨λs r9=>by obtain ⟨a, xs, e, q, p⟩:=r9; exact ⟨a, xs, e, s.seq q, Paired.imp2 (λ_ _ z=>m.mono s z) p⟩⟩
instance {α : Type} {r : Enc α} [m : MonoE r] : MonoE (Zu r):=⟨fun {K H H' v a} s h=>by cases a with
  | none=>exact h
  | some a=>exact ⟨h.1, m.mono s h.2⟩⟩
instance {α : Type} {r : Enc α} [m : FlatE r] : FlatE (Zu r):=⟨fun {K H H' v a} s h=>by cases a with
  | none=>exact h
  | some a=>exact ⟨h.1, m.flat s h.2⟩⟩
noncomputable abbrev OE (α : Type):=PySem.W.Frag -> Hp -> V -> α -> List XM -> Prop
inductive P3 {α β γ : Type} (F : α -> β -> γ -> Prop) : List α -> List β -> List γ -> Prop where
  | nil : P3 F [] [] []
  | cons {a b c l m n} : F a b c -> P3 F l m n -> P3 F (a :: l) (b :: m) (c :: n)
noncomputable def oF {α : Type} (r : Enc α) : OE α:=λK h v a C=>C = [] /\ r K h v a
noncomputable def oL {α : Type} (o : OE α) : OE (List α):=λK h v as C=>∃ p xs Cs, v = .ref p /\ P3 (o K h) xs as Cs /\ C = (p, .lst xs) :: Cs.flatten
noncomputable def oT2 {α β : Type} (o : OE α) (q : OE β) : OE (α × β):=λK h v a C=>∃ p x y C1 C2, v = .ref p /\ h p = some (.tup [x, y]) /\ o K h x a.1 C1 /\ q K h y a.2 C2 /\ C = C1 ++ C2
noncomputable def LW {α : Type} (o : OE α) : OE (Option α):=λK h v a C=>match a with
  | none=>v = .non /\ C = []
  | some a=>v ≠ .non /\ o K h v a C
section
variable {α β γ δ : Type}
theorem P3.imp {F G : α -> β -> γ -> Prop} (h : ∀ a b c, F a b c -> G a b c) : ∀ {l m n}, P3 F l m n -> P3 G l m n:=λp=>by
  induction p with
  | nil=>exact .nil
  | cons r _ ih=>exact .cons (h _ _ _ r) ih
theorem P3.app {F : α -> β -> γ -> Prop} : ∀ {l m n l' m' n'}, P3 F l m n -> P3 F l' m' n' -> P3 F (l ++ l') (m ++ m') (n ++ n'):=λp h=>by
  induction p with
  | nil=>exact h
  | cons r _ ih=>exact .cons r ih
theorem P3.snoc {F : α -> β -> γ -> Prop} {l m n a b c} (h : P3 F l m n) (r : F a b c) : P3 F (l ++ [a]) (m ++ [b]) (n ++ [c]):=h.app (.cons r .nil)
theorem P3.len {F : α -> β -> γ -> Prop} : ∀ {l m n}, P3 F l m n -> l.length = m.length /\ n.length = m.length:=λp=>by
  induction p with
  | nil=>exact ⟨rfl, rfl⟩
  | cons _ _ ih=>exact ⟨congrArg Nat.succ ih.1, congrArg Nat.succ ih.2⟩
theorem P3.pair {F : α -> β -> γ -> Prop} {G : α -> β -> Prop} : ∀ {l m n}, P3 F l m n -> (∀ a b c, c ∈ n -> F a b c -> G a b) -> Paired G l m:=λp h=>by
  induction p with
  | nil=>exact .nil
  | cons r _ ih=>exact .cons (h _ _ _ List.mem_cons_self r) (ih λa b c hc=>h a b c (List.mem_cons_of_mem _ hc))
theorem P3.get {F : α -> β -> γ -> Prop} : ∀ {l m n} {i : Nat} {b : β}, P3 F l m n -> m[i]? = some b -> ∃ a c, l[i]? = some a /\ n[i]? = some c /\ F a b c
  | _, _, _, _, _, .nil, e=>by simp at e
  | _, _, _, 0, _, .cons r _, e=>by simp at e; subst e; exact ⟨_, _, rfl, rfl, r⟩
  | _, _, _, i + 1, b, .cons _ t, e=>by
    obtain ⟨a, c, h1, h2, h3⟩:=P3.get (i:=i) (b:=b) t (by simpa using e)
    exact ⟨a, c, by simpa using h1, by simpa using h2, h3⟩
theorem P3.set {F : α -> β -> γ -> Prop} {a : α} {b : β} {c : γ} (r : F a b c) : ∀ {l m n} (i : Nat), P3 F l m n -> P3 F (l.set i a) (m.set i b) (n.set i c)
  | _, _, _, _, .nil=>.nil
  | _, _, _, 0, .cons _ t=>.cons r t
  | _, _, _, i + 1, .cons q t=>.cons q (P3.set r i t)
theorem P3.flat {F : α -> β -> Prop} : ∀ {l : List α} {m : List β} {n : List (List XM)}, P3 (λa b c=>c = [] /\ F a b) l m n -> Paired F l m /\ n.flatten = []:=λp=>by
  induction p with
  | nil=>exact ⟨.nil, rfl⟩
  | cons r _ ih=>exact ⟨.cons r.2 ih.1, by rw [List.flatten_cons, r.1, ih.2]; rfl⟩
theorem P3.of {F : α -> β -> Prop} : ∀ {l : List α} {m : List β}, Paired F l m -> P3 (λa b (c : List XM)=>c = [] /\ F a b) l m (List.replicate m.length [])
  | _, _, .nil=>.nil
  | _, _, .cons r t=>.cons ⟨rfl, r⟩ (P3.of t)
theorem Yy : ∀ n : Nat, (List.replicate n ([] : List XM)).flatten = []
  | 0=>rfl
  | n + 1=>by simp [List.replicate_succ, Yy n]
end
class MonoO {α : Type} (o : OE α) : Prop where
  mono : ∀ {K : PySem.W.Frag} {H H' : Hp} {v : V} {a : α} {C : List XM}, Xx H H' -> o K H v a C -> o K H' v a C
class FlatO {α : Type} (o : OE α) : Prop where
  flat : ∀ {K : PySem.W.Frag} {H H' : Hp} {v : V} {a : α} {C : List XM}, VH H H' -> o K H v a C -> o K H' v a C
class FrzC {α : Type} (o : OE α) (r : outParam (Enc α)) : Prop where
  frz : ∀ {K : PySem.W.Frag} {H H' : Hp} {v : V} {a : α} {C : List XM}, o K H v a C -> Xx H H' -> (∀ c ∈ C, H' c.1 = some c.2) -> r K H' v a
instance {α : Type} {r : Enc α} [m : MonoE r] : MonoO (oF r):=⟨λs h=>⟨h.1, m.mono s h.2⟩⟩
instance {α : Type} {r : Enc α} [m : FlatE r] : FlatO (oF r):=⟨λs h=>⟨h.1, m.flat s h.2⟩⟩
instance {α : Type} {r : Enc α} [m : MonoE r] : FrzC (oF r) r:=⟨λh s _=>m.mono s h.2⟩
instance {α : Type} {o : OE α} [m : MonoO o] : MonoO (oL o):=⟨λs r9=>by obtain ⟨p, xs, Cs, e, q, c⟩:=r9; exact ⟨p, xs, Cs, e, q.imp λ_ _ _ z=>m.mono s z, c⟩⟩
instance {α : Type} {o : OE α} [m : FlatO o] : FlatO (oL o):=⟨λs r9=>by obtain ⟨p, xs, Cs, e, q, c⟩:=r9; exact ⟨p, xs, Cs, e, q.imp λ_ _ _ z=>m.flat s z, c⟩⟩
instance {α : Type} {o : OE α} {r : Enc α} [m : FrzC o r] : FrzC (oL o) (rV r):=⟨λ⟨p, xs, Cs, e, q, c⟩ s hc=>by
  subst c
  exact ⟨p, xs, e, hc _ List.mem_cons_self, q.pair λa b c hm z=>m.frz z s λx hx=>hc x (List.mem_cons_of_mem _ (List.mem_flatten.mpr ⟨c, hm, hx⟩))⟩⟩
instance {α β : Type} {o : OE α} {q : OE β} [m : MonoO o] [n : MonoO q] : MonoO (oT2 o q):=⟨λs r9=>by obtain ⟨p, x, y, C1, C2, e, h, h1, h2, c⟩:=r9; exact ⟨p, x, y, C1, C2, e, s _ _ h, m.mono s h1, n.mono s h2, c⟩⟩
instance {α β : Type} {o : OE α} {q : OE β} [m : FlatO o] [n : FlatO q] : FlatO (oT2 o q):=⟨λs r9=>by obtain ⟨p, x, y, C1, C2, e, h, h1, h2, c⟩:=r9; exact ⟨p, x, y, C1, C2, e, s _ _ h rfl, m.flat s h1, n.flat s h2, c⟩⟩
instance {α β : Type} {o : OE α} {q : OE β} {r : Enc α} {t : Enc β} [m : FrzC o r] [n : FrzC q t] : FrzC (oT2 o q) (rP2 r t):=⟨λ⟨p, x, y, C1, C2, e, h, h1, h2, c⟩ s hc=>by
  subst c
  exact ⟨p, x, y, e, s _ _ h, m.frz h1 s λc hm=>hc c (by simp [hm]), n.frz h2 s λc hm=>hc c (by simp [hm])⟩⟩
instance {α : Type} {o : OE α} [m : MonoO o] : MonoO (LW o):=⟨fun {K H H' v a C} s h=>by cases a with
  | none=>exact h
  | some a=>exact ⟨h.1, m.mono s h.2⟩⟩
instance {α : Type} {o : OE α} [m : FlatO o] : FlatO (LW o):=⟨fun {K H H' v a C} s h=>by cases a with
  | none=>exact h
  | some a=>exact ⟨h.1, m.flat s h.2⟩⟩
instance {α : Type} {o : OE α} {r : Enc α} [m : FrzC o r] : FrzC (LW o) (Zu r):=⟨fun {K H H' v a C} h s hc=>by cases a with
  | none=>exact h.1
  | some a=>exact ⟨h.1, m.frz h.2 s hc⟩⟩
structure SC where
  p : Hp -> Prop
  mono : ∀ h h', Xx h h' -> p h -> p h'
noncomputable def SC.nil : SC:=⟨λ_=>True, λ_ _ _ _=>True.intro⟩
noncomputable def SC.and (S T : SC) : SC:=⟨λh=>S.p h /\ T.p h, λ_ _ s q=>⟨S.mono _ _ s q.1, T.mono _ _ s q.2⟩⟩
noncomputable def SC.one {α : Type} (K : PySem.W.Frag) (r : Enc α) [m : MonoE r] (v : V) (a : α) : SC:=⟨λh=>r K h v a, λ_ _ s q=>m.mono s q⟩
noncomputable def SC.oneO {α : Type} (K : PySem.W.Frag) (o : OE α) [m : MonoO o] (v : V) (a : α) (C : List XM) : SC:=⟨λh=>o K h v a C, λ_ _ s q=>m.mono s q⟩
noncomputable abbrev SC.add {α : Type} (S : SC) (K : PySem.W.Frag) (r : Enc α) [m : MonoE r] (v : V) (a : α) : SC:=S.and (SC.one K r v a)
noncomputable abbrev SC.addO {α : Type} (S : SC) (K : PySem.W.Frag) (o : OE α) [m : MonoO o] (v : V) (a : α) (C : List XM) : SC:=S.and (SC.oneO K o v a C)
theorem SC.l {S T : SC} {h : Hp} (q : (S.and T).p h) : S.p h:=q.1
theorem SC.r {S T : SC} {h : Hp} (q : (S.and T).p h) : T.p h:=q.2
theorem SC.i {S T : SC} {h : Hp} (q : S.p h) (p : T.p h) : (S.and T).p h:=⟨q, p⟩
theorem SC.t {h : Hp} : SC.nil.p h:=True.intro
theorem SC.p.l {S T : SC} {h : Hp} (q : (S.and T).p h) : S.p h:=q.1
theorem SC.p.r {S T : SC} {h : Hp} (q : (S.and T).p h) : T.p h:=q.2
noncomputable def PZ {β : Type} (Er : Exc -> Hp -> Prop) (F : β -> Hp -> Prop) (H : Hp) (m : Rs β) : Prop:=
  match m with
  | .bad=>False
  | .err x=>∀ H', Xx H H' -> Er x H'
  | .ok b=>F b H
section
variable (K : PySem.W.Frag) (Er : Exc -> Hp -> Prop) (S : SC) (OO OO' : List (List XM)) (σ : St)
noncomputable def FB {α : Type} (r : Enc α) (Q : VK) (a : α) (H : Hp) : Prop:=∀ v H', Xx H H' -> r K H' v a -> Q v H'
noncomputable def FO {α : Type} (o : OE α) (Q : VK) (a : α) (H : Hp) : Prop:=∀ v C H', Xx H H' -> W (C :: OO') H' -> Xx (hid H OO) (hid H' (C :: OO')) -> o K (hid H' (C :: OO')) v a C -> Q v H'
noncomputable def FT (Q : Bool -> Hp -> Prop) (b : Bool) (H : Hp) : Prop:=∀ H', Xx H H' -> Q b H'
noncomputable def EvB {α : Type} (te : TE) (r : Enc α) (m : Rs α) : Prop:=∀ H Q, W OO H -> S.p (hid H OO) -> PZ Er (FB K r Q) H m -> te σ H Q
noncomputable def Ev {α : Type} (te : TE) (o : OE α) (m : Rs α) : Prop:=∀ H Q, W OO H -> S.p (hid H OO) -> PZ Er (FO K OO OO' o Q) H m -> te σ H Q
noncomputable def EvT (tt : TT) (m : Rs Bool) : Prop:=∀ H Q, W OO H -> S.p (hid H OO) -> PZ Er (FT Q) H m -> tt σ H Q
end
section
variable {K : PySem.W.Frag} {Er : Exc -> Hp -> Prop} {S : SC} {OO OO' OO2 : List (List XM)} {σ : St} {α β γ : Type}
theorem FB.tr {r : Enc α} {Q : VK} : ∀ a H H', Xx H H' -> FB K r Q a H -> FB K r Q a H':=λa H H' s h v H2 s2 q=>h v H2 (s.trans s2) q
theorem FO.tr {o : OE α} {Q : VK} : ∀ a H H', Xx H H' -> FO K OO OO' o Q a H -> FO K OO OO' o Q a H':=λa H H' s h v C H2 s2 w m q=>h v C H2 (s.trans s2) w ((Xl s).trans m) q
theorem FT.tr {Q : Bool -> Hp -> Prop} : ∀ b H H', Xx H H' -> FT Q b H -> FT Q b H':=λa H H' s h H2 s2=>h H2 (s.trans s2)
theorem EvB.run {te : TE} {r : Enc α} {m : Rs α} (he : EvB K Er S OO σ te r m) {H : Hp} {Q : VK} (w : W OO H) (s : S.p (hid H OO)) {f : α -> Rs β} {F : β -> Hp -> Prop} (hF : ∀ b H H', Xx H H' -> F b H -> F b H') (P : PZ Er F H (m.bind f))
    (hk : ∀ a v H', Xx H H' -> W OO H' -> S.p (hid H' OO) -> r K H' v a -> PZ Er F H' (f a) -> Q v H') : te σ H Q:=by
  refine he H Q w s ?_
  cases m with
  | bad=>exact P
  | err x=>exact P
  | ok a=>
    intro v H' s' hr
    refine hk a v H' s' (w.keep s') (S.mono _ _ (Xl s') s) hr ?_
    have P' : PZ Er F H (f a):=P
    revert P'
    cases f a with
    | bad=>exact λz=>z
    | err x=>exact λz H2 s2=>z H2 (s'.trans s2)
    | ok b=>exact λz=>hF b H H' s' z
theorem Ev.run {te : TE} {o : OE α} {m : Rs α} (he : Ev K Er S OO OO' σ te o m) {H : Hp} {Q : VK} (w : W OO H) (s : S.p (hid H OO)) {f : α -> Rs β} {F : β -> Hp -> Prop} (hF : ∀ b H H', Xx H H' -> F b H -> F b H') (P : PZ Er F H (m.bind f))
    (hk : ∀ a v C H', Xx H H' -> W (C :: OO') H' -> Xx (hid H OO) (hid H' (C :: OO')) -> S.p (hid H' (C :: OO')) -> o K (hid H' (C :: OO')) v a C -> PZ Er F H' (f a) -> Q v H') : te σ H Q:=by
  refine he H Q w s ?_
  cases m with
  | bad=>exact P
  | err x=>exact P
  | ok a=>
    intro v C H' s' w' m' ho
    refine hk a v C H' s' w' m' (S.mono _ _ m' s) ho ?_
    have P' : PZ Er F H (f a):=P
    revert P'
    cases f a with
    | bad=>exact λz=>z
    | err x=>exact λz H2 s2=>z H2 (s'.trans s2)
    | ok b=>exact λz=>hF b H H' s' z
theorem EvT.run {tt : TT} {m : Rs Bool} (he : EvT Er S OO σ tt m) {H : Hp} {Q : Bool -> Hp -> Prop} (w : W OO H) (s : S.p (hid H OO)) {f : Bool -> Rs β} {F : β -> Hp -> Prop} (hF : ∀ b H H', Xx H H' -> F b H -> F b H') (P : PZ Er F H (m.bind f))
    (hk : ∀ b H', Xx H H' -> W OO H' -> S.p (hid H' OO) -> PZ Er F H' (f b) -> Q b H') : tt σ H Q:=by
  refine he H Q w s ?_
  cases m with
  | bad=>exact P
  | err x=>exact P
  | ok a=>
    intro H' s'
    refine hk a H' s' (w.keep s') (S.mono _ _ (Xl s') s) ?_
    have P' : PZ Er F H (f a):=P
    revert P'
    cases f a with
    | bad=>exact λz=>z
    | err x=>exact λz H2 s2=>z H2 (s'.trans s2)
    | ok b=>exact λz=>hF b H H' s' z
theorem Ev.toB {te : TE} {o : OE α} {r : Enc α} [z : FrzC o r] {m : Rs α} (he : Ev K Er S OO OO σ te o m) : EvB K Er S OO σ te r m:=λH Q w s P=>by
  refine he H Q w s ?_
  cases m with
  | bad=>exact P
  | err x=>exact P
  | ok a=>exact λv C H' s' w' m' ho=>P v H' s' (z.frz ho XH w'.cell)
theorem Ev.frz {te : TE} {o : OE α} {r : Enc α} [z : FrzC o r] {m : Rs α} (he : Ev K Er S OO OO' σ te o m) : Ev K Er S OO OO' σ te (oF r) m:=λH Q w s P=>by
  refine he H Q w s ?_
  cases m with
  | bad=>exact P
  | err x=>exact P
  | ok a=>
    intro v C H' s' w' m' ho
    have hs : Xx (hid H' (C :: OO')) (hid H' ([] :: OO')):=Jg (Xx.refl _) λb hb=>by rw [Cr] at hb; rw [Ya]; simp [hb]
    refine P v [] H' s' w'.tail.nil (m'.trans hs) ⟨rfl, z.frz ho hs λc hc=>Zj (w'.cell c hc) ?_⟩
    rw [Cr]
    have:=w'.nd
    rw [Ya] at this
    intro hb
    exact (List.nodup_append.mp this).2.2 c.1 (List.mem_map.mpr ⟨c, hc, rfl⟩) c.1 hb rfl
theorem EvB.flat {te : TE} {r : Enc α} [z : FlatE r] {m : Rs α} (he : EvB K Er S OO σ te r m) : Ev K Er S OO OO σ te (oF r) m:=λH Q w s P=>by
  refine he H Q w s ?_
  cases m with
  | bad=>exact P
  | err x=>exact P
  | ok a=>
    intro v H' s' hr
    have w':=w.keep s'
    exact P v [] H' s' w'.nil (by rw [Y7]; exact Xl s') ⟨rfl, by rw [Y7]; exact z.flat w'.i hr⟩
theorem Xa {r : Enc α} [z : MonoE r] {v : V} {a : α} (i : Nat) (hσ : σ[i]? = some (some v)) (h : ∀ x, S.p x -> r K x v a) : EvB K Er S OO σ (Gr i) r (.ok a):=λH Q w s P=>
  ⟨v, hσ, P v H (Xx.refl _) (z.mono XH (h _ s))⟩
theorem Qs {o : OE α} {r : Enc α} [z : FrzC o r] {v : V} {a : α} {C : List XM} (i k : Nat) (hσ : σ[i]? = some (some v)) (hk : OO[k]? = some C) (h : ∀ x, S.p x -> o K x v a C) : EvB K Er S OO σ (Gr i) r (.ok a):=λH Q w s P=>
  ⟨v, hσ, P v H (Xx.refl _) (z.frz (h _ s) XH λc hc=>w.tr c (List.mem_flatten.mpr ⟨C, List.mem_of_getElem? hk, hc⟩))⟩
theorem X7 : ∀ {OO : List (List XM)} {k : Nat} {C : List XM}, OO[k]? = some C -> (C :: OO.set k []).flatten.Perm OO.flatten
  | [], _, _, h=>by simp at h
  | D :: OO, 0, C, h=>by simp at h; subst h; simp
  | D :: OO, k + 1, C, h=>by
    have:=X7 (OO:=OO) (k:=k) (C:=C) (by simpa using h)
    simp only [List.set_cons_succ, List.flatten_cons] at this ⊢
    refine List.Perm.trans ?_ (this.append_left D)
    rw [← List.append_assoc, ← List.append_assoc]
    exact List.perm_append_comm.append_right _
theorem Qy {OO OO' : List (List XM)} (h : OO'.flatten.Perm OO.flatten) (b : Addr) : b ∈ fl OO' ↔ b ∈ fl OO:=(h.map (·.1)).mem_iff
theorem Yv {H : Hp} {OO OO' : List (List XM)} (h : OO'.flatten.Perm OO.flatten) : hid H OO' = hid H OO:=by
  funext b; unfold hid
  by_cases hb : b ∈ fl OO
  . rw [if_pos hb, if_pos ((Qy h b).mpr hb)]
  . rw [if_neg hb, if_neg λz=>hb ((Qy h b).mp z)]
theorem Zh {o : OE α} {v : V} {a : α} {C : List XM} (i k : Nat) (hσ : σ[i]? = some (some v)) (hk : OO[k]? = some C) (h : ∀ x, S.p x -> o K x v a C) : Ev K Er S OO (OO.set k []) σ (Gr i) o (.ok a):=λH Q w s P=>by
  have hp:=X7 hk
  exact ⟨v, hσ, P v C H (Xx.refl _) (w.of hp) (by rw [Yv hp]; exact Xx.refl _) (by rw [Yv hp]; exact h _ s)⟩
theorem Xg (n : Int) : EvB K Er S OO σ (tC (.int n)) Xb (.ok n):=λH Q w s P=>P _ H (Xx.refl _) rfl
theorem ZO (b : Bool) : EvB K Er S OO σ (tC (.bl b)) Yw (.ok b):=λH Q w s P=>P _ H (Xx.refl _) rfl
theorem Jm {ta tb : TE} {g : Int -> Int -> V} {r : Enc β} {f : Int -> Int -> β} {ma mb : Rs Int} (hg : ∀ K H i j, r K H (g i j) (f i j)) (ha : EvB K Er S OO σ ta Xb ma) (hb : EvB K Er S OO σ tb Xb mb) :
    EvB K Er S OO σ (tOp (rI0 g) ta tb) r (ma.bind λa=>mb.bind λb=>.ok (f a b)):=λH Q w s P=>
  ha.run w s FB.tr P λa x H1 s1 w1 q1 r1 P1=>hb.run w1 q1 FB.tr P1 λb y H2 s2 w2 q2 r2 P2=>⟨a, b, r1, r2, P2 _ H2 (Xx.refl _) (hg K H2 a b)⟩
theorem Uk {ta tb : TE} {Cc : Int -> Int -> Prop} {g : Int -> Int -> V} {r : Enc β} {f : Int -> Int -> Rs β} {ma mb : Rs Int} (hg : ∀ K H i j c, f i j = .ok c -> Cc i j /\ r K H (g i j) c) (he : ∀ i j x, f i j ≠ .err x)
    (ha : EvB K Er S OO σ ta Xb ma) (hb : EvB K Er S OO σ tb Xb mb) :
    EvB K Er S OO σ (tOp (rI Cc g) ta tb) r (ma.bind λa=>mb.bind λb=>f a b):=λH Q w s P=>
  ha.run w s FB.tr P λa x H1 s1 w1 q1 r1 P1=>hb.run w1 q1 FB.tr P1 λb y H2 s2 w2 q2 r2 P2=>by
    cases e : f a b with
    | bad=>rw [e] at P2; exact P2.elim
    | err x=>exact absurd e (he a b x)
    | ok c=>
      rw [e] at P2
      obtain ⟨h1, h2⟩:=hg K H2 a b c e
      exact ⟨a, b, r1, r2, h1, P2 _ H2 (Xx.refl _) h2⟩
noncomputable def VG (a b : Int) : Rs Int:=chk ((-(2 ^ 64) < a /\ a < 2 ^ 64) ∨ (-(2 ^ 64) < b /\ b < 2 ^ 64)) (.ok (a * b))
noncomputable def JD (a b : Int) : Rs Int:=chk (0 < b) (.ok (a % b))
noncomputable def Ig (a b : Int) : Rs Int:=chk (0 < b /\ b.natAbs.log2 < 9000) (.ok (a / b))
noncomputable def LE (a b : Int) : Rs Int:=chk (0 <= b /\ b <= 1000000 /\ a.natAbs < 2 ^ 64) (.ok (a ^ b.toNat))
theorem ZB {c : Prop} [Decidable c] {m : Rs α} {a : α} (h : chk c m = .ok a) : c /\ m = .ok a:=by
  unfold chk at h; split at h
  . exact ⟨by assumption, h⟩
  . cases h
theorem QE {c : Prop} [Decidable c] {a : α} {x : Exc} : chk c (Rs.ok a) ≠ .err x:=by
  unfold chk; split <;> exact λz=>nomatch z
theorem YW {ta tb : TE} {ma mb : Rs Int} (ha : EvB K Er S OO σ ta Xb ma) (hb : EvB K Er S OO σ tb Xb mb) : EvB K Er S OO σ (tOp (rI LG λi j=>.int (i * j)) ta tb) Xb (ma.bind λa=>mb.bind λb=>VG a b):=
  Uk (λK H i j c h=>by obtain ⟨h1, h2⟩:=ZB h; cases h2; exact ⟨h1, rfl⟩) (λi j x=>QE) ha hb
theorem Ye {ta tb : TE} {ma mb : Rs Int} (ha : EvB K Er S OO σ ta Xb ma) (hb : EvB K Er S OO σ tb Xb mb) : EvB K Er S OO σ (tOp (rI (λ_ j=>0 < j) λi j=>.int (i % j)) ta tb) Xb (ma.bind λa=>mb.bind λb=>JD a b):=
  Uk (λK H i j c h=>by obtain ⟨h1, h2⟩:=ZB h; cases h2; exact ⟨h1, rfl⟩) (λi j x=>QE) ha hb
theorem KO {ta tb : TE} {ma mb : Rs Int} (ha : EvB K Er S OO σ ta Xb ma) (hb : EvB K Er S OO σ tb Xb mb) : EvB K Er S OO σ (tOp (rI (λ_ j=>0 < j /\ j.natAbs.log2 < 9000) λi j=>.int (i / j)) ta tb) Xb (ma.bind λa=>mb.bind λb=>Ig a b):=
  Uk (λK H i j c h=>by obtain ⟨h1, h2⟩:=ZB h; cases h2; exact ⟨h1, rfl⟩) (λi j x=>QE) ha hb
theorem DZ {ta tb : TE} {ma mb : Rs Int} (ha : EvB K Er S OO σ ta Xb ma) (hb : EvB K Er S OO σ tb Xb mb) : EvB K Er S OO σ (tOp (rI Mh λi j=>.int (i ^ j.toNat)) ta tb) Xb (ma.bind λa=>mb.bind λb=>LE a b):=
  Uk (λK H i j c h=>by obtain ⟨h1, h2⟩:=ZB h; cases h2; exact ⟨h1, rfl⟩) (λi j x=>QE) ha hb
theorem X0 {ta tb : TE} {ma mb : Rs Int} (ha : EvB K Er S OO σ ta Xb ma) (hb : EvB K Er S OO σ tb Xb mb) : EvB K Er S OO σ (tOp (rI0 λi j=>.int (i + j)) ta tb) Xb (ma.bind λa=>mb.bind λb=>.ok (a + b)):=Jm (λ_ _ _ _=>rfl) ha hb
theorem Zo {ta tb : TE} {ma mb : Rs Int} (ha : EvB K Er S OO σ ta Xb ma) (hb : EvB K Er S OO σ tb Xb mb) : EvB K Er S OO σ (tOp (rI0 λi j=>.int (i - j)) ta tb) Xb (ma.bind λa=>mb.bind λb=>.ok (a - b)):=Jm (λ_ _ _ _=>rfl) ha hb
theorem V1 {ta tb : TE} {ma mb : Rs Int} (ha : EvB K Er S OO σ ta Xb ma) (hb : EvB K Er S OO σ tb Xb mb) : EvB K Er S OO σ (tOp (rI0 λi j=>.bl (decide (i < j))) ta tb) Yw (ma.bind λa=>mb.bind λb=>.ok (decide (a < b))):=Jm (λ_ _ _ _=>rfl) ha hb
theorem DS {ta tb : TE} {ma mb : Rs Int} (ha : EvB K Er S OO σ ta Xb ma) (hb : EvB K Er S OO σ tb Xb mb) : EvB K Er S OO σ (tOp (rI0 λi j=>.bl (decide (i <= j))) ta tb) Yw (ma.bind λa=>mb.bind λb=>.ok (decide (a <= b))):=Jm (λ_ _ _ _=>rfl) ha hb
theorem Ka {ta tb : TE} {ma mb : Rs Int} (ha : EvB K Er S OO σ ta Xb ma) (hb : EvB K Er S OO σ tb Xb mb) : EvB K Er S OO σ (tOp (rI0 λi j=>.bl (decide (j < i))) ta tb) Yw (ma.bind λa=>mb.bind λb=>.ok (decide (b < a))):=Jm (λ_ _ _ _=>rfl) ha hb
theorem Ey {ta tb : TE} {ma mb : Rs Int} (ha : EvB K Er S OO σ ta Xb ma) (hb : EvB K Er S OO σ tb Xb mb) : EvB K Er S OO σ (tOp (rI0 λi j=>.bl (decide (j <= i))) ta tb) Yw (ma.bind λa=>mb.bind λb=>.ok (decide (b <= a))):=Jm (λ_ _ _ _=>rfl) ha hb
class Scal {α : Type} [DecidableEq α] (r : Enc α) : Prop where
  to : ∀ {K : PySem.W.Frag} {H H' : Hp} {x y : V} {a b : α}, r K H x a -> r K H' y b -> L4 x y = true /\ decide (x = y) = decide (a = b)
instance : Scal Xb:=⟨fun {K H H' x y a b} h1 h2=>by cases (show x = .int a from h1); cases (show y = .int b from h2); exact ⟨rfl, by simp⟩⟩
instance : Scal Yw:=⟨fun {K H H' x y a b} h1 h2=>by cases (show x = .bl a from h1); cases (show y = .bl b from h2); exact ⟨rfl, by simp⟩⟩
theorem YT [DecidableEq α] {r : Enc α} [z : Scal r] [MonoE r] {ta tb : TE} {ma mb : Rs α} (ha : EvB K Er S OO σ ta r ma) (hb : EvB K Er S OO σ tb r mb) : EvB K Er S OO σ (tOp rEq ta tb) Yw (ma.bind λa=>mb.bind λb=>.ok (decide (a = b))):=λH Q w s P=>
  ha.run w s FB.tr P λa x H1 s1 w1 q1 r1 P1=>hb.run w1 q1 FB.tr P1 λb y H2 s2 w2 q2 r2 P2=>by
    obtain ⟨h1, h2⟩:=z.to r1 r2
    exact ⟨h1, P2 _ H2 (Xx.refl _) (by rw [h2]; rfl)⟩
theorem KA [DecidableEq α] {r : Enc α} [z : Scal r] [MonoE r] {ta tb : TE} {ma mb : Rs α} (ha : EvB K Er S OO σ ta r ma) (hb : EvB K Er S OO σ tb r mb) : EvB K Er S OO σ (tOp rNe ta tb) Yw (ma.bind λa=>mb.bind λb=>.ok (!decide (a = b))):=λH Q w s P=>
  ha.run w s FB.tr P λa x H1 s1 w1 q1 r1 P1=>hb.run w1 q1 FB.tr P1 λb y H2 s2 w2 q2 r2 P2=>by
    obtain ⟨h1, h2⟩:=z.to r1 r2
    exact ⟨h1, P2 _ H2 (Xx.refl _) (by rw [h2]; rfl)⟩
theorem Hk [DecidableEq α] {r : Enc α} [z : MonoE r] {ta tb : TE} {ma mb : Rs α} (ha : EvB K Er S OO σ ta r ma) (hb : EvB K Er S OO σ tb r mb) : EvB K Er S OO σ (tOp (Mf K r) ta tb) Yw (ma.bind λa=>mb.bind λb=>.ok (decide (a = b))):=λH Q w s P=>
  ha.run w s FB.tr P λa x H1 s1 w1 q1 r1 P1=>hb.run w1 q1 FB.tr P1 λb y H2 s2 w2 q2 r2 P2=>⟨a, b, z.mono s2 r1, r2, P2 _ H2 (Xx.refl _) rfl⟩
theorem Vu [DecidableEq α] {r : Enc α} [z : MonoE r] {ta tb : TE} {ma mb : Rs α} (ha : EvB K Er S OO σ ta r ma) (hb : EvB K Er S OO σ tb r mb) : EvB K Er S OO σ (tOp (Ml K r) ta tb) Yw (ma.bind λa=>mb.bind λb=>.ok (!decide (a = b))):=λH Q w s P=>
  ha.run w s FB.tr P λa x H1 s1 w1 q1 r1 P1=>hb.run w1 q1 FB.tr P1 λb y H2 s2 w2 q2 r2 P2=>⟨a, b, z.mono s2 r1, r2, P2 _ H2 (Xx.refl _) rfl⟩
theorem FI {te : TE} {m : Rs Bool} (h : EvB K Er S OO σ te Yw m) : EvT Er S OO σ (tB te) m:=λH Q w s P=>h H _ w s (by
  cases m with
  | bad=>exact P
  | err x=>exact P
  | ok a=>exact λv H' s' r=>⟨a, r, P H' s'⟩)
theorem Xn {te : TE} {m : Rs Bool} (h : EvB K Er S OO σ te Yw m) : EvT Er S OO σ (Iw te) m:=FI h
theorem KS {t : TT} {m : Rs Bool} (h : EvT Er S OO σ t m) : EvT Er S OO σ (Mt t) (m.bind λb=>.ok (!b)):=λH Q w s P=>h.run w s FT.tr P λb H1 s1 w1 q1 P1=>P1 H1 (Xx.refl _)
noncomputable def KJ (a b : Rs Bool) : Rs Bool:=a.bind λx=>if x = true then b else .ok false
noncomputable def orR (a b : Rs Bool) : Rs Bool:=a.bind λx=>if x = true then .ok true else b
theorem Zg {t u : TT} {m n : Rs Bool} (h : EvT Er S OO σ t m) (k : EvT Er S OO σ u n) : EvT Er S OO σ (Mo t u) (KJ m n):=λH Q w s P=>h.run w s FT.tr P λb H1 s1 w1 q1 P1=>by
  cases b with
  | true=>rw [if_pos rfl] at P1 ⊢; exact k H1 Q w1 q1 P1
  | false=>exact P1 H1 (Xx.refl _)
theorem F8 {t u : TT} {m n : Rs Bool} (h : EvT Er S OO σ t m) (k : EvT Er S OO σ u n) : EvT Er S OO σ (tOr t u) (orR m n):=λH Q w s P=>h.run w s FT.tr P λb H1 s1 w1 q1 P1=>by
  cases b with
  | true=>exact P1 H1 (Xx.refl _)
  | false=>exact k H1 Q w1 q1 P1
theorem LT {c : TT} {ta tb : TE} {o : OE α} {mc : Rs Bool} {ma mb : Rs α} (hc : EvT Er S OO σ c mc) (ha : Ev K Er S OO OO' σ ta o ma) (hb : Ev K Er S OO OO' σ tb o mb) : Ev K Er S OO OO' σ (tIf c ta tb) o (mc.bind λb=>if b = true then ma else mb):=λH Q w s P=>
  hc.run w s FO.tr P λb H1 s1 w1 q1 P1=>by
    cases b with
    | true=>rw [if_pos rfl] at P1 ⊢; exact ha H1 Q w1 q1 P1
    | false=>exact hb H1 Q w1 q1 P1
end
section
variable (K : PySem.W.Frag) (Er : Exc -> Hp -> Prop) (S : SC) (OO : List (List XM)) (σ : St)
noncomputable def FS {α : Type} (r : Enc α) (Q : VK) (a : α) (H : Hp) : Prop:=∀ v H', Xx H H' -> r K (hid H' OO) v a -> Q v H'
noncomputable def EvS {α : Type} (te : TE) (r : Enc α) (m : Rs α) : Prop:=∀ H Q, W OO H -> S.p (hid H OO) -> PZ Er (FS K OO r Q) H m -> te σ H Q
noncomputable def rE {α : Type} (r : Enc α) (H : Hp) (v : V) (as : List α) : Prop:=∃ p xs, v = .ref p /\ H p = some (.lst xs) /\ Paired (r K (hid H OO)) xs as
noncomputable def FL {α : Type} (r : Enc α) (Q : VK) (as : List α) (H : Hp) : Prop:=∀ v H', Xx H H' -> rE K OO r H' v as -> Q v H'
noncomputable def EvL {α : Type} (te : TE) (r : Enc α) (m : Rs (List α)) : Prop:=∀ H Q, W OO H -> S.p (hid H OO) -> PZ Er (FL K OO r Q) H m -> te σ H Q
end
section
variable {K : PySem.W.Frag} {Er : Exc -> Hp -> Prop} {S : SC} {OO OO' OO2 : List (List XM)} {σ : St} {α β γ : Type}
theorem FS.tr {r : Enc α} {Q : VK} : ∀ a H H', Xx H H' -> FS K OO r Q a H -> FS K OO r Q a H':=λa H H' s h v H2 s2 q=>h v H2 (s.trans s2) q
theorem FL.tr {r : Enc α} {Q : VK} : ∀ a H H', Xx H H' -> FL K OO r Q a H -> FL K OO r Q a H':=λa H H' s h v H2 s2 q=>h v H2 (s.trans s2) q
theorem PZ.run {F : β -> Hp -> Prop} {f : α -> Rs β} {H H' : Hp} {a : α} {m : Rs α} (hm : m = .ok a) (hF : ∀ b H H', Xx H H' -> F b H -> F b H') (s : Xx H H') (P : PZ Er F H (m.bind f)) : PZ Er F H' (f a):=by
  subst hm
  have P' : PZ Er F H (f a):=P
  revert P'
  cases f a with
  | bad=>exact λz=>z
  | err x=>exact λz H2 s2=>z H2 (s.trans s2)
  | ok b=>exact λz=>hF b H H' s z
theorem EvS.run {te : TE} {r : Enc α} {m : Rs α} (he : EvS K Er S OO σ te r m) {H : Hp} {Q : VK} (w : W OO H) (s : S.p (hid H OO)) {f : α -> Rs β} {F : β -> Hp -> Prop} (hF : ∀ b H H', Xx H H' -> F b H -> F b H') (P : PZ Er F H (m.bind f))
    (hk : ∀ a v H', Xx H H' -> W OO H' -> S.p (hid H' OO) -> r K (hid H' OO) v a -> PZ Er F H' (f a) -> Q v H') : te σ H Q:=by
  refine he H Q w s ?_
  cases e : m with
  | bad=>rw [e] at P; exact P
  | err x=>rw [e] at P; exact P
  | ok a=>exact λv H' s' hr=>hk a v H' s' (w.keep s') (S.mono _ _ (Xl s') s) hr (PZ.run e hF s' P)
theorem EvL.run {te : TE} {r : Enc α} {m : Rs (List α)} (he : EvL K Er S OO σ te r m) {H : Hp} {Q : VK} (w : W OO H) (s : S.p (hid H OO)) {f : List α -> Rs β} {F : β -> Hp -> Prop} (hF : ∀ b H H', Xx H H' -> F b H -> F b H') (P : PZ Er F H (m.bind f))
    (hk : ∀ a v H', Xx H H' -> W OO H' -> S.p (hid H' OO) -> rE K OO r H' v a -> PZ Er F H' (f a) -> Q v H') : te σ H Q:=by
  refine he H Q w s ?_
  cases e : m with
  | bad=>rw [e] at P; exact P
  | err x=>rw [e] at P; exact P
  | ok a=>exact λv H' s' hr=>hk a v H' s' (w.keep s') (S.mono _ _ (Xl s') s) hr (PZ.run e hF s' P)
theorem PZ.imp {F G : β -> Hp -> Prop} {H : Hp} {m : Rs β} (P : PZ Er F H m) (h : ∀ b, m = .ok b -> F b H -> G b H) : PZ Er G H m:=by
  cases m with
  | bad=>exact P
  | err x=>exact P
  | ok b=>exact h b rfl P
theorem EvS.toB {te : TE} {r : Enc α} [z : MonoE r] {m : Rs α} (he : EvS K Er S OO σ te r m) : EvB K Er S OO σ te r m:=λH Q w s P=>he H Q w s (P.imp λb _ h v H' s' q=>h v H' s' (z.mono XH q))
theorem EvS.ev {te : TE} {r : Enc α} {m : Rs α} (he : EvS K Er S OO σ te r m) : Ev K Er S OO OO σ te (oF r) m:=λH Q w s P=>he H Q w s (P.imp λb _ h v H' s' q=>
  h v [] H' s' (w.keep s').nil (by rw [Y7]; exact Xl s') ⟨rfl, by rw [Y7]; exact q⟩)
theorem EvB.sh {te : TE} {r : Enc α} [z : FlatE r] {m : Rs α} (he : EvB K Er S OO σ te r m) : EvS K Er S OO σ te r m:=λH Q w s P=>he H Q w s (P.imp λb _ h v H' s' q=>h v H' s' (z.flat (w.keep s').i q))
theorem Ev.sh {te : TE} {o : OE α} {r : Enc α} [z : FrzC o r] {m : Rs α} (he : Ev K Er S OO OO σ te o m) : EvS K Er S OO σ te r m:=λH Q w s P=>he.frz H Q w s (P.imp λb _ h v C H' s' w' m' q=>by
  obtain ⟨rfl, q⟩:=q
  rw [Y7] at q
  exact h v H' s' q)
theorem Xp {r : Enc α} {v : V} {a : α} (i : Nat) (hσ : σ[i]? = some (some v)) (h : ∀ x, S.p x -> r K x v a) : EvS K Er S OO σ (Gr i) r (.ok a):=λH Q w s P=>⟨v, hσ, P v H (Xx.refl _) (h _ s)⟩
theorem EvS.ls {te : TE} {r : Enc α} {m : Rs (List α)} (he : EvS K Er S OO σ te (rV r) m) : EvL K Er S OO σ te r m:=λH Q w s P=>he H Q w s (P.imp λb _ h v H' s' r9=>by obtain ⟨p, xs, e, q, pr⟩:=r9; exact h v H' s' ⟨p, xs, e, XH _ _ q, pr⟩)
theorem EvB.ls {te : TE} {r : Enc α} [z : FlatE r] {m : Rs (List α)} (he : EvB K Er S OO σ te (rV r) m) : EvL K Er S OO σ te r m:=λH Q w s P=>he H Q w s (P.imp λb _ h v H' s' r9=>by obtain ⟨p, xs, e, q, pr⟩:=r9; exact h v H' s' ⟨p, xs, e, q, Paired.imp2 (λ_ _ z'=>z.flat (w.keep s').i z') pr⟩)
theorem Ev.ls {te : TE} {r : Enc α} [z : MonoE r] {m : Rs (List α)} (he : Ev K Er S OO OO σ te (oL (oF r)) m) : EvL K Er S OO σ te r m:=he.sh.ls
noncomputable def atR (as : List α) (i : Int) : Rs α:=match atI as i with
  | some a=>.ok a
  | none=>.bad
theorem GD {as : List α} {i : Int} {a : α} (h : atR as i = .ok a) : atI as i = some a:=by
  unfold atR at h; split at h
  . cases h; assumption
  . cases h
theorem GO {as : List α} {i : Int} {x : Exc} : atR as i ≠ .err x:=by unfold atR; split <;> exact λz=>nomatch z
theorem Jj {F : V -> α -> Prop} {xs : List V} {as : List α} {i : Int} {a : α} (p : Paired F xs as) (h : atI as i = some a) : ∃ x, atI xs i = some x /\ F x a:=by
  unfold atI at h ⊢
  rw [Paired.len p]
  cases e : ixN as.length i with
  | none=>rw [e] at h; cases h
  | some j=>
    rw [e] at h
    obtain ⟨x, h1, h2⟩:=Paired.getR p h
    exact ⟨x, h1, h2⟩
theorem PZ.okOf {F : β -> Hp -> Prop} {H : Hp} {m : Rs β} (he : ∀ x, m ≠ .err x) (P : PZ Er F H m) : ∃ b, m = .ok b /\ F b H:=by
  cases m with
  | bad=>exact P.elim
  | err x=>exact absurd rfl (he x)
  | ok b=>exact ⟨b, rfl, P⟩
theorem Xr {ta tb : TE} {r : Enc α} [z : MonoE r] {ma : Rs (List α)} {mb : Rs Int} (ha : EvB K Er S OO σ ta (rV r) ma) (hb : EvB K Er S OO σ tb Xb mb) : EvB K Er S OO σ (tOp (Ii K) ta tb) r (ma.bind λas=>mb.bind λi=>atR as i):=λH Q w s P=>
  ha.run w s FB.tr P λa x H1 s1 w1 q1 ⟨p, xs, e, q, pr⟩ P1=>hb.run w1 q1 FB.tr P1 λb y H2 s2 w2 q2 r2 P2=>by
    obtain ⟨c, hc, P3⟩:=P2.okOf λx=>GO
    obtain ⟨u, h1, h2⟩:=Jj pr (GD hc)
    exact ⟨p, xs, b, u, e, r2, SqL.of (s2 _ _ q), h1, P3 u H2 (Xx.refl _) (z.mono s2 h2)⟩
theorem Le {ta tb : TE} {r : Enc α} [z : MonoE r] {ma : Rs (List α)} {mb : Rs Int} (ha : EvL K Er S OO σ ta r ma) (hb : EvB K Er S OO σ tb Xb mb) : EvS K Er S OO σ (tOp (Ii K) ta tb) r (ma.bind λas=>mb.bind λi=>atR as i):=λH Q w s P=>
  ha.run w s FS.tr P λa x H1 s1 w1 q1 ⟨p, xs, e, q, pr⟩ P1=>hb.run w1 q1 FS.tr P1 λb y H2 s2 w2 q2 r2 P2=>by
    obtain ⟨c, hc, P3⟩:=P2.okOf λx=>GO
    obtain ⟨u, h1, h2⟩:=Jj pr (GD hc)
    exact ⟨p, xs, b, u, e, r2, SqL.of (s2 _ _ q), h1, P3 u H2 (Xx.refl _) (z.mono (Xl s2) h2)⟩
theorem Hs {ta : TE} {r : Enc α} {q : Enc β} {m : Rs (α × β)} (ha : EvB K Er S OO σ ta (rP2 r q) m) : EvB K Er S OO σ (tOp (Ib K) ta (tC (.int 0))) r (m.bind λp=>.ok p.1):=λH Q w s P=>
  ha.run w s FB.tr P λa x H1 s1 w1 q1 r9 P1=>by obtain ⟨p, x, y, e, q, h1, h2⟩:=r9; exact ⟨p, _, 0, x, e, rfl, SqT.of q, rfl, P1 _ H1 (Xx.refl _) h1⟩
theorem HQ {ta : TE} {r : Enc α} {q : Enc β} {m : Rs (α × β)} (ha : EvB K Er S OO σ ta (rP2 r q) m) : EvB K Er S OO σ (tOp (Ib K) ta (tC (.int 1))) q (m.bind λp=>.ok p.2):=λH Q w s P=>
  ha.run w s FB.tr P λa x H1 s1 w1 q1 r9 P1=>by obtain ⟨p, x, y, e, q, h1, h2⟩:=r9; exact ⟨p, _, 1, y, e, rfl, SqT.of q, rfl, P1 _ H1 (Xx.refl _) h2⟩
theorem EH {ta : TE} {r : Enc α} {q : Enc β} {m : Rs (α × β)} (ha : EvS K Er S OO σ ta (rP2 r q) m) : EvS K Er S OO σ (tOp (Ib K) ta (tC (.int 0))) r (m.bind λp=>.ok p.1):=λH Q w s P=>
  ha.run w s FS.tr P λa x H1 s1 w1 q1 r9 P1=>by obtain ⟨p, x, y, e, q, h1, h2⟩:=r9; exact ⟨p, _, 0, x, e, rfl, SqT.of (XH _ _ q), rfl, P1 _ H1 (Xx.refl _) h1⟩
theorem XU {ta : TE} {r : Enc α} {m : Rs (List α)} (ha : EvB K Er S OO σ ta (rV r) m) : EvB K Er S OO σ (tCB (CA K) (XG ta Z1)) Xb (m.bind λas=>.ok (as.length : Int)):=λH Q w s P=>
  ha.run w s FB.tr P λa x H1 s1 w1 q1 r9 P1=>by obtain ⟨p, xs, e, q, pr⟩:=r9; exact ⟨p, xs, by rw [e], .inl (SqL.of q), P1 _ H1 (Xx.refl _) (by rw [Paired.len pr]; rfl)⟩
theorem Bd {r : Enc α} [z : MonoE r] {xs : List V} {as : List α} {H : Hp} {Q : VK} (w : W OO H) (pr : Paired (r K (hid H OO)) xs as) (P : FO K OO OO (oL (oF r)) Q as H) : ∀ p, H p = none -> Q (.ref p) (upd H p (.lst xs)):=λp hp=>by
  have hn:=UE (OO:=OO) hp (o:=.lst xs)
  refine P (.ref p) [(p, .lst xs)] _ (XT hp _) (w.new hp rfl) hn ?_
  refine ⟨p, xs, List.replicate as.length [], rfl, (P3.of (Paired.imp2 (λ_ _ h=>z.mono hn h) pr)).imp λ_ _ _ h=>h, by rw [Yy]⟩
theorem Paired.take' {F : α -> β -> Prop} : ∀ {l : List α} {m : List β} (n : Nat), Paired F l m -> Paired F (l.take n) (m.take n)
  | _, _, 0, _=>.nil
  | _, _, _ + 1, .nil=>.nil
  | _, _, n + 1, .cons r t=>.cons r (Paired.take' n t)
theorem Paired.drop' {F : α -> β -> Prop} : ∀ {l : List α} {m : List β} (n : Nat), Paired F l m -> Paired F (l.drop n) (m.drop n)
  | _, _, 0, h=>h
  | _, _, _ + 1, .nil=>.nil
  | _, _, n + 1, .cons _ t=>Paired.drop' n t
theorem Paired.rep' {F : α -> β -> Prop} {l : List α} {m : List β} (h : Paired F l m) : ∀ n : Nat, Paired F (List.replicate n l).flatten (List.replicate n m).flatten
  | 0=>.nil
  | n + 1=>by simp only [List.replicate_succ, List.flatten_cons]; exact Paired.app h (Paired.rep' h n)
noncomputable def Fh (as : List α) (lo hi : Option Int) : List α:=(as.drop (HT.sIx as.length 0 lo)).take (HT.sIx as.length as.length hi - HT.sIx as.length 0 lo)
theorem VV {F : V -> α -> Prop} {xs : List V} {as : List α} (p : Paired F xs as) (lo hi : Option Int) : Paired F (Ih xs lo hi) (Fh as lo hi):=by
  unfold Ih Fh; rw [Paired.len p]; exact Paired.take' _ (Paired.drop' _ p)
noncomputable def FP (Q : Option Int -> Hp -> Prop) (a : Option Int) (H : Hp) : Prop:=∀ H', Xx H H' -> Q a H'
noncomputable def EvP (Er : Exc -> Hp -> Prop) (S : SC) (OO : List (List XM)) (σ : St) (t : TO) (m : Rs (Option Int)) : Prop:=∀ H Q, W OO H -> S.p (hid H OO) -> PZ Er (FP Q) H m -> t σ H Q
theorem EvP.run {t : TO} {m : Rs (Option Int)} (he : EvP Er S OO σ t m) {H : Hp} {Q : Option Int -> Hp -> Prop} (w : W OO H) (s : S.p (hid H OO)) {f : Option Int -> Rs β} {F : β -> Hp -> Prop} (hF : ∀ b H H', Xx H H' -> F b H -> F b H') (P : PZ Er F H (m.bind f))
    (hk : ∀ a H', Xx H H' -> W OO H' -> S.p (hid H' OO) -> PZ Er F H' (f a) -> Q a H') : t σ H Q:=by
  refine he H Q w s ?_
  cases e : m with
  | bad=>rw [e] at P; exact P
  | err x=>rw [e] at P; exact P
  | ok a=>exact λH' s'=>hk a H' s' (w.keep s') (S.mono _ _ (Xl s') s) (PZ.run e hF s' P)
theorem JF : EvP Er S OO σ CC (.ok none):=λH Q w s P=>P H (Xx.refl _)
theorem JO {te : TE} {m : Rs Int} (h : EvB K Er S OO σ te Xb m) : EvP Er S OO σ (ID te) (m.bind λi=>.ok (some i)):=λH Q w s P=>
  h.run w s (λ_ _ _ s h H2 s2=>h H2 (s.trans s2)) P λa v H1 s1 w1 q1 r1 P1=>⟨a, r1, P1 H1 (Xx.refl _)⟩
theorem UH {te : TE} {tl th : TO} {r : Enc α} [z : MonoE r] {m : Rs (List α)} {ml mh : Rs (Option Int)} (he : EvL K Er S OO σ te r m) (hl : EvP Er S OO σ tl ml) (hh : EvP Er S OO σ th mh) :
    Ev K Er S OO OO σ (tSl (LB K) te tl th) (oL (oF r)) (m.bind λas=>ml.bind λlo=>mh.bind λhi=>.ok (Fh as lo hi)):=λH Q w s P=>
  he.run w s FO.tr P λas x H1 s1 w1 q1 ⟨p, xs, e, q, pr⟩ P1=>hl.run w1 q1 FO.tr P1 λlo H2 s2 w2 q2 P2=>hh.run w2 q2 FO.tr P2 λhi H3 s3 w3 q3 P3'=>
    ⟨p, xs, e, SqL.of (s3 _ _ (s2 _ _ q)), Bd w3 (VV (Paired.imp2 (λ_ _ h=>z.mono ((Xl s2).trans (Xl s3)) h) pr) lo hi) P3'⟩
theorem Ed {ta : TE} {r : Enc α} {m : Rs (List α)} (ha : EvB K Er S OO σ ta (rL r) m) : EvB K Er S OO σ (tCB (CA K) (XG ta Z1)) Xb (m.bind λas=>.ok (as.length : Int)):=λH Q w s P=>
  ha.run w s FB.tr P λa x H1 s1 w1 q1 r9 P1=>by obtain ⟨p, xs, e, q, pr⟩:=r9; exact ⟨p, xs, by rw [e], .inl q, P1 _ H1 (Xx.refl _) (by rw [Paired.len pr]; rfl)⟩
theorem Hv {ta tb : TE} {ma : Rs (List Int)} {mb : Rs Int} (ha : EvB K Er S OO σ ta (rL Xb) ma) (hb : EvB K Er S OO σ tb Xb mb) : EvB K Er S OO σ (tOp (Ii K) ta tb) Xb (ma.bind λas=>mb.bind λi=>atR as i):=λH Q w s P=>
  ha.run w s FB.tr P λa x H1 s1 w1 q1 ⟨p, xs, e, q, pr⟩ P1=>hb.run w1 q1 FB.tr P1 λb y H2 s2 w2 q2 r2 P2=>by
    obtain ⟨c, hc, P3⟩:=P2.okOf λx=>GO
    obtain ⟨u, h1, h2⟩:=Jj pr (GD hc)
    exact ⟨p, xs, b, u, e, r2, s2.seq q, h1, P3 u H2 (Xx.refl _) h2⟩
theorem CF {te : TE} {tl th : TO} {m : Rs (List Int)} {ml mh : Rs (Option Int)} (he : EvB K Er S OO σ te (rL Xb) m) (hl : EvP Er S OO σ tl ml) (hh : EvP Er S OO σ th mh) :
    Ev K Er S OO OO σ (tSl (LB K) te tl th) (oL (oF Xb)) (m.bind λas=>ml.bind λlo=>mh.bind λhi=>.ok (Fh as lo hi)):=λH Q w s P=>
  he.run w s FO.tr P λas x H1 s1 w1 q1 ⟨p, xs, e, q, pr⟩ P1=>hl.run w1 q1 FO.tr P1 λlo H2 s2 w2 q2 P2=>hh.run w2 q2 FO.tr P2 λhi H3 s3 w3 q3 P3'=>
    ⟨p, xs, e, s3.seq (s2.seq q), Bd w3 (VV (Paired.imp2 (λ_ _ h=>h) pr) lo hi) P3'⟩
noncomputable def Bc (as bs : List α) : Rs (List α):=chk (as.length + bs.length <= sizeLine) (.ok (as ++ bs))
theorem Kd {ta tb : TE} {r : Enc α} [z : MonoE r] {ma mb : Rs (List α)} (ha : EvL K Er S OO σ ta r ma) (hb : EvL K Er S OO σ tb r mb) : Ev K Er S OO OO σ (tOp Mg ta tb) (oL (oF r)) (ma.bind λas=>mb.bind λbs=>Bc as bs):=λH Q w s P=>
  ha.run w s FO.tr P λas x H1 s1 w1 q1 ⟨p, xs, e, q, pr⟩ P1=>hb.run w1 q1 FO.tr P1 λbs y H2 s2 w2 q2 ⟨p', ys, e', q', pr'⟩ P2=>by
    obtain ⟨c, hc, P3⟩:=P2.okOf λx=>QE
    obtain ⟨h1, h2⟩:=ZB hc
    cases h2
    exact ⟨p, p', xs, ys, e, e', s2 _ _ q, q', by rw [Paired.len pr, Paired.len pr']; exact h1, Bd w2 (Paired.app (Paired.imp2 (λ_ _ h=>z.mono (Xl s2) h) pr) pr') P3⟩
noncomputable def Bp (as : List α) (n : Int) : Rs (List α):=chk (-(2 ^ 63) <= n /\ n < 2 ^ 63 /\ as.length * n.toNat <= sizeLine) (.ok (List.replicate n.toNat as).flatten)
theorem Gu {ta tb : TE} {r : Enc α} [z : MonoE r] {ma : Rs (List α)} {mb : Rs Int} (ha : EvL K Er S OO σ ta r ma) (hb : EvB K Er S OO σ tb Xb mb) : Ev K Er S OO OO σ (tOp Mp ta tb) (oL (oF r)) (ma.bind λas=>mb.bind λn=>Bp as n):=λH Q w s P=>
  ha.run w s FO.tr P λas x H1 s1 w1 q1 ⟨p, xs, e, q, pr⟩ P1=>hb.run w1 q1 FO.tr P1 λn y H2 s2 w2 q2 r2 P2=>by
    obtain ⟨c, hc, P3⟩:=P2.okOf λx=>QE
    obtain ⟨⟨h0, h1, h3⟩, h2⟩:=ZB hc
    cases h2
    exact ⟨p, n, xs, e, r2, s2 _ _ q, h0, h1, by rw [Paired.len pr]; exact h3, Bd w2 (Paired.rep' (Paired.imp2 (λ_ _ h=>z.mono (Xl s2) h) pr) _) P3⟩
theorem DP {ta : TE} {r : Enc α} [z : MonoE r] {ma : Rs (List α)} (ha : EvL K Er S OO σ ta r ma) : Ev K Er S OO OO σ (tCB (Cg K) (XG ta Z1)) (oL (oF r)) (ma.bind λas=>.ok as):=λH Q w s P=>
  ha.run w s FO.tr P λas x H1 s1 w1 q1 r9 P1=>by obtain ⟨p, xs, e, q, pr⟩:=r9; exact ⟨p, xs, by rw [e], .inl (SqL.of q), Bd w1 pr P1⟩
noncomputable def X6 (lo hi : Int) : List Int:=(List.range (hi - lo).toNat).map λ(i : Nat)=>lo + (i : Int)
theorem Zc {ta : TE} {ma : Rs Int} (ha : EvB K Er S OO σ ta Xb ma) : Ev K Er S OO OO σ (GF (XG ta Z1)) (oL (oF Xb)) (ma.bind λn=>chk (0 <= n /\ n <= 1000) (.ok (X6 0 n))):=λH Q w s P=>
  ha.run w s FO.tr P λn x H1 s1 w1 q1 r1 P1=>by
    obtain ⟨c, hc, P3⟩:=P1.okOf λx=>QE
    obtain ⟨⟨h0, h1⟩, h2⟩:=ZB hc
    cases h2
    refine ⟨n, by rw [show x = .int n from r1], h0, h1, Bd w1 ?_ P3⟩
    unfold X6
    rw [Int.sub_zero]
    have : ∀ l : List Nat, Paired (Xb K (hid H1 OO)) (l.map λ(i : Nat)=>V.int (i : Int)) (l.map λ(i : Nat)=>(0 : Int) + (i : Int)):=λl=>by
      induction l with
      | nil=>exact .nil
      | cons a l ih=>exact .cons (by show V.int (a : Int) = V.int (0 + (a : Int)); rw [Int.zero_add]) ih
    exact this _
theorem UW {o : OE α} : Ev K Er S OO OO σ (BE Z1) (oL o) (.ok []):=λH Q w s P=>⟨Nat.zero_le _, λp hp=>P (.ref p) [(p, .lst [])] _ (XT hp _) (w.new hp rfl) (UE hp) ⟨p, [], [], rfl, .nil, rfl⟩⟩
noncomputable def FA {α : Type} (K : PySem.W.Frag) (OO : List (List XM)) (r : Enc α) (Q : List V -> Hp -> Prop) (as : List α) (H : Hp) : Prop:=∀ vs H', Xx H H' -> Paired (r K (hid H' OO)) vs as -> Q vs H'
noncomputable def EvA {α : Type} (K : PySem.W.Frag) (Er : Exc -> Hp -> Prop) (S : SC) (OO : List (List XM)) (σ : St) (t : TA) (r : Enc α) (m : Rs (List α)) : Prop:=∀ H Q, W OO H -> S.p (hid H OO) -> PZ Er (FA K OO r Q) H m -> t σ H Q
theorem Zf {r : Enc α} : EvA K Er S OO σ Z1 r (.ok []):=λH Q w s P=>P [] H (Xx.refl _) .nil
theorem XE {te : TE} {t : TA} {r : Enc α} [z : MonoE r] {m : Rs α} {n : Rs (List α)} (he : EvS K Er S OO σ te r m) (ht : EvA K Er S OO σ t r n) : EvA K Er S OO σ (XG te t) r (m.bind λa=>n.bind λas=>.ok (a :: as)):=λH Q w s P=>
  he.run w s (λb H H' s h vs H2 s2 p=>h vs H2 (s.trans s2) p) P λa x H1 s1 w1 q1 r1 P1=>by
    refine ht H1 _ w1 q1 ?_
    cases e : n with
    | bad=>rw [e] at P1; exact P1
    | err x=>rw [e] at P1; exact P1
    | ok as=>rw [e] at P1; exact λvs H2 s2 p=>P1 (x :: vs) H2 s2 (.cons (z.mono (Xl s2) r1) p)
theorem Z0 {t : TA} {r : Enc α} [z : MonoE r] {m : Rs (List α)} (h : EvA K Er S OO σ t r m) : Ev K Er S OO OO σ (BE t) (oL (oF r)) (m.bind λas=>chk (as.length <= sizeLine) (.ok as)):=λH Q w s P=>by
  refine h H _ w s ?_
  cases e : m with
  | bad=>rw [e] at P; exact P
  | err x=>rw [e] at P; exact P
  | ok as=>
    rw [e] at P
    intro vs H1 s1 p
    obtain ⟨c, hc, P3⟩:=PZ.okOf (λx=>QE) (show PZ Er _ H (chk (as.length <= sizeLine) (.ok as)) from P)
    obtain ⟨h1, h2⟩:=ZB hc
    cases h2
    exact ⟨by rw [Paired.len p]; exact h1, Bd (w.keep s1) p (FO.tr _ _ _ s1 P3)⟩
theorem QT {ta tb : TE} {r : Enc α} {q : Enc β} [z : MonoE r] [y : MonoE q] {ma : Rs α} {mb : Rs β} (ha : EvS K Er S OO σ ta r ma) (hb : EvS K Er S OO σ tb q mb) : EvS K Er S OO σ (IK (XG ta (XG tb Z1))) (rP2 r q) (ma.bind λa=>mb.bind λb=>.ok (a, b)):=λH Q w s P=>
  ha.run w s FS.tr P λa x H1 s1 w1 q1 r1 P1=>hb.run w1 q1 FS.tr P1 λb y' H2 s2 w2 q2 r2 P2=>
    ⟨by show 2 <= sizeLine; decide, λp hp=>P2 _ _ (XT hp _) ⟨p, x, y', rfl, QK w2 hp, z.mono ((Xl s2).trans (Xl (XT hp _))) r1, y.mono (Xl (XT hp _)) r2⟩⟩
theorem Bq {ta tb tc : TE} {r : Enc α} {q : Enc β} {t : Enc γ} [z : MonoE r] [y : MonoE q] [x : MonoE t] {ma : Rs α} {mb : Rs β} {mc : Rs γ} (ha : EvS K Er S OO σ ta r ma) (hb : EvS K Er S OO σ tb q mb) (hc : EvS K Er S OO σ tc t mc) :
    EvS K Er S OO σ (IK (XG ta (XG tb (XG tc Z1)))) (rP3 r q t) (ma.bind λa=>mb.bind λb=>mc.bind λc=>.ok (a, b, c)):=λH Q w s P=>
  ha.run w s FS.tr P λa x' H1 s1 w1 q1 r1 P1=>hb.run w1 q1 FS.tr P1 λb y' H2 s2 w2 q2 r2 P2=>hc.run w2 q2 FS.tr P2 λc z' H3 s3 w3 q3 r3 P3=>
    ⟨by show 3 <= sizeLine; decide, λp hp=>P3 _ _ (XT hp _) ⟨p, x', y', z', rfl, QK w3 hp, z.mono (((Xl s2).trans (Xl s3)).trans (Xl (XT hp _))) r1, y.mono ((Xl s3).trans (Xl (XT hp _))) r2, x.mono (Xl (XT hp _)) r3⟩⟩
end
section
variable {K : PySem.W.Frag} {Er : Exc -> Hp -> Prop} {S : SC} {OO OO' OO2 : List (List XM)} {σ : St} {α β γ ρ ι : Type} {α1 α2 α3 α4 α5 α6 : Type}
noncomputable def noE (m : Rs α) : Rs α:=match m with
  | .ok a=>.ok a
  | _=>.bad
theorem Gm {m : Rs α} {a : α} (h : noE m = .ok a) : m = .ok a:=by
  cases m with
  | ok b=>exact h
  | bad=>cases h
  | err x=>cases h
theorem Vm {m : Rs α} {x : Exc} : noE m ≠ .err x:=by cases m <;> exact λz=>nomatch z
noncomputable def FF (K : PySem.W.Frag) (o : OE α) (Q : VK) (a : α) (H : Hp) : Prop:=∀ v C H', W [C] H' -> Xx H (hid H' [C]) -> o K (hid H' [C]) v a C -> Q v H'
noncomputable def sp1 (r1 : Enc α1) (o : OE ρ) (f : α1 -> Rs ρ) (K : PySem.W.Frag) : Sp:=λvs H Q _=>∃ v1 a1 b, vs = [v1] /\ r1 K H v1 a1 /\ f a1 = .ok b /\ FF K o Q b H
noncomputable def sp2 (r1 : Enc α1) (r2 : Enc α2) (o : OE ρ) (f : α1 -> α2 -> Rs ρ) (K : PySem.W.Frag) : Sp:=λvs H Q _=>∃ v1 v2 a1 a2 b, vs = [v1, v2] /\ r1 K H v1 a1 /\ r2 K H v2 a2 /\ f a1 a2 = .ok b /\ FF K o Q b H
noncomputable def sp3 (r1 : Enc α1) (r2 : Enc α2) (r3 : Enc α3) (o : OE ρ) (f : α1 -> α2 -> α3 -> Rs ρ) (K : PySem.W.Frag) : Sp:=λvs H Q _=>∃ v1 v2 v3 a1 a2 a3 b, vs = [v1, v2, v3] /\ r1 K H v1 a1 /\ r2 K H v2 a2 /\ r3 K H v3 a3 /\ f a1 a2 a3 = .ok b /\ FF K o Q b H
noncomputable def sp5 (r1 : Enc α1) (r2 : Enc α2) (r3 : Enc α3) (r4 : Enc α4) (r5 : Enc α5) (o : OE ρ) (f : α1 -> α2 -> α3 -> α4 -> α5 -> Rs ρ) (K : PySem.W.Frag) : Sp:=λvs H Q _=>∃ v1 v2 v3 v4 v5 a1 a2 a3 a4 a5 b, vs = [v1, v2, v3, v4, v5] /\ r1 K H v1 a1 /\ r2 K H v2 a2 /\ r3 K H v3 a3 /\ r4 K H v4 a4 /\ r5 K H v5 a5 /\ f a1 a2 a3 a4 a5 = .ok b /\ FF K o Q b H
theorem LR {C : List XM} {H H' : Hp} (w : W OO H) (w' : W [C] H') (m' : Xx H (hid H' [C])) : W (C :: OO) H' /\ Xx (hid H OO) (hid H' (C :: OO)) /\ VH (hid H' [C]) (hid H' (C :: OO)):=by
  have s : Xx H H':=m'.trans XH
  have f1 : fl [C] = C.map (·.1):=by simp [fl]
  have hd : ∀ b, b ∈ fl OO -> b ∉ C.map (·.1):=λb hb hc=>by
    obtain ⟨u, hu⟩:=Cd hb
    exact (XW (m' _ _ (w.tr _ hu))).2 (by rw [f1]; exact hc)
  have w2 : W (C :: OO) H':=by
    refine ⟨λc hc=>?_, ?_, λc hc=>?_⟩
    . rw [List.flatten_cons, List.mem_append] at hc
      rcases hc with hc | hc
      . exact w'.tr c (by simp [hc])
      . exact s _ _ (w.tr c hc)
    . rw [Ya]
      refine List.nodup_append.mpr ⟨by rw [← f1]; exact w'.nd, w.nd, λa ha b hb e=>?_⟩
      subst e; exact hd a hb ha
    . rw [List.flatten_cons, List.mem_append] at hc
      rcases hc with hc | hc
      . exact w'.mu c (by simp [hc])
      . exact w.mu c hc
  refine ⟨w2, λb u q=>?_, λb u q i=>?_⟩
  . obtain ⟨q1, q2⟩ := XW q
    obtain ⟨q3, q4⟩:=XW (m' _ _ q1)
    refine Zj q3 ?_
    rw [Ya, List.mem_append]
    exact λz=>z.elim (λz=>q4 (by rw [f1]; exact z)) q2
  . exact w2.i b u (XW q).1 i
theorem Ui {o : OE α} [z : FlatO o] {Q : VK} {b : α} {H : Hp} (w : W OO H) (P : FO K OO OO o Q b H) : FF K o Q b H:=λv C H' w' m' ho=>by
  obtain ⟨w2, h2, h3⟩:=LR w w' m'
  exact P v C H' (m'.trans XH) w2 h2 (z.flat h3 ho)
theorem X9 {ta : TE} {r1 : Enc α1} {o : OE ρ} [FlatO o] {f : α1 -> Rs ρ} {ma : Rs α1} (ha : EvB K Er S OO σ ta r1 ma) : Ev K Er S OO OO σ (Fz (sp1 r1 o f K) [] E0 (XG ta Z1)) o (ma.bind λa=>noE (f a)):=λH Q w s P=>
  ha.run w s FO.tr P λa x H1 s1 w1 q1 r1 P1=>by
    obtain ⟨b, hb, P2⟩:=P1.okOf λx=>Vm
    exact ⟨x, a, b, rfl, r1, Gm hb, Ui w1 P2⟩
theorem XC {ta tb : TE} {r1 : Enc α1} {r2 : Enc α2} [z1 : MonoE r1] {o : OE ρ} [FlatO o] {f : α1 -> α2 -> Rs ρ} {ma : Rs α1} {mb : Rs α2} (ha : EvB K Er S OO σ ta r1 ma) (hb : EvB K Er S OO σ tb r2 mb) :
    Ev K Er S OO OO σ (Fz (sp2 r1 r2 o f K) [] E0 (XG ta (XG tb Z1))) o (ma.bind λa=>mb.bind λb=>noE (f a b)):=λH Q w s P=>
  ha.run w s FO.tr P λa x H1 s1 w1 q1 r1 P1=>hb.run w1 q1 FO.tr P1 λb y H2 s2 w2 q2 r2 P2=>by
    obtain ⟨c, hc, P3⟩:=P2.okOf λx=>Vm
    exact ⟨x, y, a, b, c, rfl, z1.mono s2 r1, r2, Gm hc, Ui w2 P3⟩
theorem Zl {ta tb tc : TE} {r1 : Enc α1} {r2 : Enc α2} {r3 : Enc α3} [z1 : MonoE r1] [z2 : MonoE r2] {o : OE ρ} [FlatO o] {f : α1 -> α2 -> α3 -> Rs ρ} {ma : Rs α1} {mb : Rs α2} {mc : Rs α3} (ha : EvB K Er S OO σ ta r1 ma) (hb : EvB K Er S OO σ tb r2 mb) (hc : EvB K Er S OO σ tc r3 mc) :
    Ev K Er S OO OO σ (Fz (sp3 r1 r2 r3 o f K) [] E0 (XG ta (XG tb (XG tc Z1)))) o (ma.bind λa=>mb.bind λb=>mc.bind λc=>noE (f a b c)):=λH Q w s P=>
  ha.run w s FO.tr P λa x H1 s1 w1 q1 r1 P1=>hb.run w1 q1 FO.tr P1 λb y H2 s2 w2 q2 r2 P2=>hc.run w2 q2 FO.tr P2 λc z H3 s3 w3 q3 r3 P3=>by
    obtain ⟨d, hd, P4⟩:=P3.okOf λx=>Vm
    exact ⟨x, y, z, a, b, c, d, rfl, z1.mono (s2.trans s3) r1, z2.mono s3 r2, r3, Gm hd, Ui w3 P4⟩
theorem By {ta tb tc td te : TE} {r1 : Enc α1} {r2 : Enc α2} {r3 : Enc α3} {r4 : Enc α4} {r5 : Enc α5} [z1 : MonoE r1] [z2 : MonoE r2] [z3 : MonoE r3] [z4 : MonoE r4] {o : OE ρ} [FlatO o] {f : α1 -> α2 -> α3 -> α4 -> α5 -> Rs ρ} {ma : Rs α1} {mb : Rs α2} {mc : Rs α3} {md : Rs α4} {me : Rs α5} (ha : EvB K Er S OO σ ta r1 ma) (hb : EvB K Er S OO σ tb r2 mb) (hc : EvB K Er S OO σ tc r3 mc) (hd : EvB K Er S OO σ td r4 md) (he : EvB K Er S OO σ te r5 me) :
    Ev K Er S OO OO σ (Fz (sp5 r1 r2 r3 r4 r5 o f K) [] E0 (XG ta (XG tb (XG tc (XG td (XG te Z1)))))) o (ma.bind λa=>mb.bind λb=>mc.bind λc=>md.bind λd=>me.bind λe=>noE (f a b c d e)):=λH Q w s P=>
  ha.run w s FO.tr P λa x H1 s1 w1 q1 r1 P1=>hb.run w1 q1 FO.tr P1 λb y H2 s2 w2 q2 r2 P2=>hc.run w2 q2 FO.tr P2 λc z H3 s3 w3 q3 r3 P3=>hd.run w3 q3 FO.tr P3 λd u H4 s4 w4 q4 r4 P4=>he.run w4 q4 FO.tr P4 λe t H5 s5 w5 q5 r5 P5=>by
    obtain ⟨g, hg, P6⟩:=P5.okOf λx=>Vm
    exact ⟨x, y, z, u, t, a, b, c, d, e, g, rfl, z1.mono (s2.trans (s3.trans (s4.trans s5))) r1, z2.mono (s3.trans (s4.trans s5)) r2, z3.mono (s4.trans s5) r3, z4.mono s5 r4, r5, Gm hg, Ui w5 P6⟩
structure Jn (γ ι : Type) where
  oo : ι -> List (List XM)
  ss : ι -> St
  sc : γ -> ι -> SC
inductive Ctl (ρ γ : Type) where
  | ret (r : ρ) | nx (g : γ)
noncomputable def FTd (K : PySem.W.Frag) (o : OE ρ) (D : Ends) (r : ρ) (h : Hp) : Prop:=∀ v C OO' H', W (C :: OO') H' -> Xx h (hid H' (C :: OO')) -> o K (hid H' (C :: OO')) v r C -> D.rt v H'
noncomputable def FNd (J : Jn γ ι) (D : Ends) (g : γ) (h : Hp) : Prop:=∀ x H', W (J.oo x) H' -> Xx h (hid H' (J.oo x)) -> (J.sc g x).p (hid H' (J.oo x)) -> D.nx (J.ss x) H'
noncomputable def FCd (K : PySem.W.Frag) (o : OE ρ) (J : Jn γ ι) (D : Ends) (c : Ctl ρ γ) (h : Hp) : Prop:=match c with
  | .ret r=>FTd K o D r h
  | .nx g=>FNd J D g h
class FdOk (Fd : Ends -> β -> Hp -> Prop) : Prop where
  tr : ∀ D b h h', Xx h h' -> Fd D b h -> Fd D b h'
instance {o : OE ρ} : FdOk (FTd K o):=⟨λD b h h' s q v C O H' w m x=>q v C O H' w (s.trans m) x⟩
instance {J : Jn γ ι} : FdOk (FNd J):=⟨λD b h h' s q x H' w m y=>q x H' w (s.trans m) y⟩
instance {o : OE ρ} {J : Jn γ ι} : FdOk (FCd K o J):=⟨λD b h h' s q=>by
  cases b with
  | ret r=>exact λv C O H' w m x=>q v C O H' w (s.trans m) x
  | nx g=>exact λx H' w m y=>q x H' w (s.trans m) y⟩
theorem PZ.tr {F : β -> Hp -> Prop} (hF : ∀ b H H', Xx H H' -> F b H -> F b H') {H H' : Hp} {m : Rs β} (s : Xx H H') (P : PZ Er F H m) : PZ Er F H' m:=by
  cases m with
  | bad=>exact P
  | err x=>exact λH2 s2=>P H2 (s.trans s2)
  | ok b=>exact hF b H H' s P
noncomputable def Sv (Er : Exc -> Hp -> Prop) (S : SC) (OO : List (List XM)) (σ : St) (t : TS) (Fd : Ends -> β -> Hp -> Prop) (m : Rs β) : Prop:=∀ H D, W OO H -> S.p (hid H OO) -> PZ Er (Fd D) (hid H OO) m -> t D σ H
variable {Fd : Ends -> β -> Hp -> Prop} [fd : FdOk Fd] {u : TS}
theorem Ev.st {te : TE} {o : OE α} {m : Rs α} (he : Ev K Er S OO OO' σ te o m) {H : Hp} {D : Ends} {Q : VK} (w : W OO H) (s : S.p (hid H OO)) {f : α -> Rs β} (P : PZ Er (Fd D) (hid H OO) (m.bind f))
    (hk : ∀ a v C H', W (C :: OO') H' -> S.p (hid H' (C :: OO')) -> o K (hid H' (C :: OO')) v a C -> PZ Er (Fd D) (hid H' (C :: OO')) (f a) -> Q v H') : te σ H Q:=by
  refine he H Q w s ?_
  cases m with
  | bad=>exact P
  | err x=>exact λH' s'=>P H' (XH.trans s')
  | ok a=>exact λv C H' s' w' m' ho=>hk a v C H' w' (S.mono _ _ m' s) ho (PZ.tr (fd.tr D) m' P)
theorem EvB.st {te : TE} {r : Enc α} {m : Rs α} (he : EvB K Er S OO σ te r m) {H : Hp} {D : Ends} {Q : VK} (w : W OO H) (s : S.p (hid H OO)) {f : α -> Rs β} (P : PZ Er (Fd D) (hid H OO) (m.bind f))
    (hk : ∀ a v H', Xx H H' -> W OO H' -> S.p (hid H' OO) -> r K H' v a -> PZ Er (Fd D) (hid H' OO) (f a) -> Q v H') : te σ H Q:=by
  refine he H Q w s ?_
  cases m with
  | bad=>exact P
  | err x=>exact λH' s'=>P H' (XH.trans s')
  | ok a=>exact λv H' s' hr=>hk a v H' s' (w.keep s') (S.mono _ _ (Xl s') s) hr (PZ.tr (fd.tr D) (Xl s') P)
theorem EvS.st {te : TE} {r : Enc α} {m : Rs α} (he : EvS K Er S OO σ te r m) {H : Hp} {D : Ends} {Q : VK} (w : W OO H) (s : S.p (hid H OO)) {f : α -> Rs β} (P : PZ Er (Fd D) (hid H OO) (m.bind f))
    (hk : ∀ a v H', Xx H H' -> W OO H' -> S.p (hid H' OO) -> r K (hid H' OO) v a -> PZ Er (Fd D) (hid H' OO) (f a) -> Q v H') : te σ H Q:=by
  refine he H Q w s ?_
  cases m with
  | bad=>exact P
  | err x=>exact λH' s'=>P H' (XH.trans s')
  | ok a=>exact λv H' s' hr=>hk a v H' s' (w.keep s') (S.mono _ _ (Xl s') s) hr (PZ.tr (fd.tr D) (Xl s') P)
theorem EvT.st {tt : TT} {m : Rs Bool} (he : EvT Er S OO σ tt m) {H : Hp} {D : Ends} {Q : Bool -> Hp -> Prop} (w : W OO H) (s : S.p (hid H OO)) {f : Bool -> Rs β} (P : PZ Er (Fd D) (hid H OO) (m.bind f))
    (hk : ∀ b H', W OO H' -> S.p (hid H' OO) -> PZ Er (Fd D) (hid H' OO) (f b) -> Q b H') : tt σ H Q:=by
  refine he H Q w s ?_
  cases m with
  | bad=>exact P
  | err x=>exact λH' s'=>P H' (XH.trans s')
  | ok a=>exact λH' s'=>hk a H' (w.keep s') (S.mono _ _ (Xl s') s) (PZ.tr (fd.tr D) (Xl s') P)
theorem Ud {OO : List (List XM)} {k : Nat} {C : List XM} : (OO.set k C).set k [] = OO.set k []:=by simp
theorem ME {C : List XM} {H : Hp} {k : Nat} (w : W (C :: OO) H) (hk : k < OO.length) : W (OO.set k C) H /\ Xx (hid H (C :: OO)) (hid H (OO.set k C)):=by
  have h1:=X7 (OO:=OO) (k:=k) (C:=OO[k]) (by simp [hk])
  have h2:=X7 (OO:=OO.set k C) (k:=k) (C:=C) (by simp [hk])
  rw [Ud] at h2
  have h3 : (OO.set k C).flatten.Perm (C ++ (OO.set k []).flatten):=by simpa using h2.symm
  have h4 : (C :: OO).flatten.Perm (C ++ (OO[k] ++ (OO.set k []).flatten)):=by
    rw [List.flatten_cons]; exact (by simpa using h1.symm : OO.flatten.Perm (OO[k] ++ (OO.set k []).flatten)).append_left C
  have h5 : (C ++ (OO.set k []).flatten).Sublist (C ++ (OO[k] ++ (OO.set k []).flatten)):=List.Sublist.append (List.Sublist.refl _) (List.sublist_append_right _ _)
  have w1 : W [C ++ (OO[k] ++ (OO.set k []).flatten)] H:=w.of (by simpa using h4.symm)
  have w2 : W [C ++ (OO.set k []).flatten] H:=w1.sub (by simpa using h5)
  refine ⟨w2.of (by simpa using h3), Jg (Xx.refl _) λb hb=>?_⟩
  obtain ⟨o, ho⟩:=Cd hb
  exact Jt (h4.mem_iff.mpr (h5.mem (h3.mem_iff.mp ho)))
theorem Yz {te : TE} {o : OE α} [MonoO o] {m : Rs α} {f : α -> Rs β} (i k : Nat) (he : Ev K Er S OO OO' σ te o m) (hk : k < OO'.length) (hr : ∀ a v C, Sv Er (S.addO K o v a C) (OO'.set k C) (σ.set i (some v)) u Fd (f a)) : Sv Er S OO σ (VP (Ho te (Jz i)) u) Fd (m.bind f):=λH D w s P=>
  he.st w s P λa v C H' w' s' ho P'=>by
    obtain ⟨w2, h2⟩:=ME w' hk
    exact hr a v C H' D w2 ⟨S.mono _ _ h2 s', MonoO.mono h2 ho⟩ (PZ.tr (fd.tr D) h2 P')
theorem XV {te : TE} {r : Enc α} [MonoE r] {m : Rs α} {f : α -> Rs β} (i : Nat) (he : EvS K Er S OO σ te r m) (hr : ∀ a v, Sv Er (S.add K r v a) OO (σ.set i (some v)) u Fd (f a)) : Sv Er S OO σ (VP (Ho te (Jz i)) u) Fd (m.bind f):=λH D w s P=>
  he.st w s P λa v H' s1 w' s' ho P'=>hr a v H' D w' ⟨s', ho⟩ P'
theorem Xt {te : TE} {o : OE ρ} {m : Rs ρ} (he : Ev K Er S OO OO' σ te o m) : Sv Er S OO σ (VP (Mm te) u) (FTd K o) m:=λH D w s P=>
  he H _ w s (by
    cases m with
    | bad=>exact P
    | err x=>exact λH' s'=>P H' (XH.trans s')
    | ok a=>exact λv C H' s' w' m' ho=>P v C OO' H' w' m' ho)
theorem ZL {J : Jn γ ι} {t : TS} {o : OE ρ} {m : Rs γ} (h : Sv Er S OO σ t (FNd J) m) : Sv Er S OO σ t (FCd K o J) (m.bind λr=>.ok (.nx r)):=λH D w s P=>h H D w s (by
  cases m with
  | bad=>exact P
  | err x=>exact P
  | ok a=>exact P)
theorem XF {J : Jn γ ι} (x : ι) (g : γ) (h1 : OO = J.oo x) (h2 : σ = J.ss x) (h3 : ∀ h, S.p h -> (J.sc g x).p h) : Sv Er S OO σ Cp (FNd J) (.ok g):=λH D w s P=>by
  subst h1 h2
  exact P x H w (Xx.refl _) (h3 _ s)
theorem IT {t : TS} : Sv Er S OO σ t Fd .bad:=λH D w s P=>P.elim
theorem YQ {o : OE ρ} {c : TT} {t1 : TS} {mc : Rs Bool} {m1 m2 : Rs ρ} (hc : EvT Er S OO σ c mc) (h1 : Sv Er S OO σ t1 (FTd K o) m1) (h2 : Sv Er S OO σ u (FTd K o) m2) : Sv Er S OO σ (VP (Lj c t1 Cp) u) (FTd K o) (mc.bind λb=>if b = true then m1 else m2):=λH D w s P=>
  hc.st (Fd:=FTd K o) w s P λb H' w' s' P'=>by
    cases b with
    | true=>rw [if_pos rfl] at P' ⊢; exact h1 H' _ w' s' P'
    | false=>exact h2 H' D w' s' P'
theorem ZC {o : OE ρ} {J : Jn γ ι} {c : TT} {t1 : TS} {mc : Rs Bool} {m1 : Rs ρ} {m2 : Rs (Ctl ρ γ)} (hc : EvT Er S OO σ c mc) (h1 : Sv Er S OO σ t1 (FTd K o) m1) (h2 : Sv Er S OO σ u (FCd K o J) m2) : Sv Er S OO σ (VP (Lj c t1 Cp) u) (FCd K o J) (mc.bind λb=>if b = true then m1.bind (λr=>.ok (.ret r)) else m2):=λH D w s P=>
  hc.st (Fd:=FCd K o J) w s P λb H' w' s' P'=>by
    cases b with
    | true=>
      rw [if_pos rfl] at P' ⊢
      refine h1 H' _ w' s' ?_
      cases m1 with
      | bad=>exact P'
      | err x=>exact P'
      | ok a=>exact P'
    | false=>exact h2 H' D w' s' P'
theorem Kr {c : TT} {t1 t2 : TS} {mc : Rs Bool} {m1 m2 : Rs β} (hc : EvT Er S OO σ c mc) (h1 : Sv Er S OO σ t1 Fd m1) (h2 : Sv Er S OO σ t2 Fd m2) : Sv Er S OO σ (Lj c t1 t2) Fd (mc.bind λb=>if b = true then m1 else m2):=λH D w s P=>
  hc.st w s P λb H' w' s' P'=>by
    cases b with
    | true=>rw [if_pos rfl] at P' ⊢; exact h1 H' _ w' s' P'
    | false=>exact h2 H' D w' s' P'
theorem Vk {J : Jn γ ι} {t : TS} {m : Rs γ} {f : γ -> Rs β} (hb : Sv Er S OO σ t (FNd J) m) (hr : ∀ g x, Sv Er (J.sc g x) (J.oo x) (J.ss x) u Fd (f g)) : Sv Er S OO σ (VP t u) Fd (m.bind f):=λH D w s P=>
  hb H _ w s (by
    cases m with
    | bad=>exact P
    | err x=>exact P
    | ok g=>exact λx H' w' m' q=>hr g x H' D w' q (PZ.tr (fd.tr D) m' P))
noncomputable def Qm (f : γ -> Rs ρ) : Ctl ρ γ -> Rs ρ
  | .ret r=>.ok r
  | .nx g=>f g
noncomputable def Zv {δ : Type} (f : γ -> Rs (Ctl ρ δ)) : Ctl ρ γ -> Rs (Ctl ρ δ)
  | .ret r=>.ok (.ret r)
  | .nx g=>f g
theorem Sv.weak {S2 : SC} {t : TS} {m : Rs β} (h : Sv Er S2 OO σ t Fd m) (hs : ∀ x, S.p x -> S2.p x) : Sv Er S OO σ t Fd m:=λH D w s P=>h H D w (hs _ s) P
theorem MB {C D C' : List XM} {H : Hp} {k : Nat} {p : Addr} {o : HO} (w : W (D :: OO) H) (hk : OO[k]? = some C) (hp : p ∈ C.map (·.1)) (hC : (C'.map (·.1)).Perm ((C ++ D).map (·.1))) (ht : ∀ c ∈ C', upd H p o c.1 = some c.2) (hm : ∀ c ∈ C', H9 c.2 = true) :
    W (OO.set k C') (upd H p o) /\ hid (upd H p o) (OO.set k C') = hid H (D :: OO):=by
  have hlt : k < OO.length:=by
    rcases Nat.lt_or_ge k OO.length with h | h
    . exact h
    . rw [List.getElem?_eq_none h] at hk; cases hk
  have h1:=X7 hk
  have h2:=X7 (OO:=OO.set k C') (k:=k) (C:=C') (by simp [hlt])
  rw [Ud] at h2
  have h3 : (OO.set k C').flatten.Perm (C' ++ (OO.set k []).flatten):=by simpa using h2.symm
  have h4 : (D :: OO).flatten.Perm (D ++ (C ++ (OO.set k []).flatten)):=by
    rw [List.flatten_cons]; exact (by simpa using h1.symm : OO.flatten.Perm (C ++ (OO.set k []).flatten)).append_left D
  have hfl : (fl (OO.set k C')).Perm (fl (D :: OO)):=by
    unfold fl
    refine (h3.map _).trans (List.Perm.trans ?_ (h4.map _).symm)
    simp only [List.map_append]
    refine (hC.append_right _).trans ?_
    simp only [List.map_append]
    rw [← List.append_assoc]
    exact List.perm_append_comm.append_right _
  have nd:=w.nd
  refine ⟨⟨λc hc=>?_, hfl.nodup_iff.mpr nd, λc hc=>?_⟩, ?_⟩
  . rcases List.mem_append.mp (h3.mem_iff.mp hc) with hc | hc
    . exact ht c hc
    . have hne : c.1 ≠ p:=λe=>by
        have nd2 : ((D ++ (C ++ (OO.set k []).flatten)).map (·.1)).Nodup:=(h4.map _).nodup_iff.mp nd
        simp only [List.map_append] at nd2
        have nd3:=(List.nodup_append.mp nd2).2.1
        exact (List.nodup_append.mp nd3).2.2 p hp c.1 (List.mem_map.mpr ⟨c, hc, rfl⟩) e.symm
      rw [Xw hne]
      exact w.tr c (h4.mem_iff.mpr (by simp [hc]))
  . rcases List.mem_append.mp (h3.mem_iff.mp hc) with hc | hc
    . exact hm c hc
    . exact w.mu c (h4.mem_iff.mpr (by simp [hc]))
  . funext b
    unfold hid
    by_cases hb : b ∈ fl (D :: OO)
    . rw [if_pos hb, if_pos (hfl.mem_iff.mpr hb)]
    . rw [if_neg hb, if_neg λz => hb (hfl.mem_iff.mp z)]
      refine Xw λe=>hb ?_
      rw [e]
      obtain ⟨c, hc, rfl⟩:=List.mem_map.mp hp
      exact Jt (h4.mem_iff.mpr (by simp [hc]))
theorem ZG {Cs : List (List XM)} {D : List XM} : (Cs ++ [D]).flatten = Cs.flatten ++ D:=by simp
theorem QZ {ta : TE} {o : OE α} [MonoO o] {m : Rs α} {f : List α -> Rs β} {v : V} {as : List α} {C : List XM} (i k : Nat) (hσ : σ[i]? = some (some v)) (hk : OO[k]? = some C) (hk' : OO'[k]? = some C) (h : ∀ x, S.p x -> oL o K x v as C) (he : Ev K Er S OO OO' σ ta o m)
    (hr : ∀ a C', Sv Er (S.addO K (oL o) v (as ++ [a]) C') (OO'.set k C') σ u Fd (f (as ++ [a]))) : Sv Er S OO σ (VP (Dn (tBM K "list" KI (Gr i) (XG ta Z1))) u) Fd (m.bind λa=>chk (as.length < sizeLine) (f (as ++ [a]))):=λH D w s P=>by
  obtain ⟨p, xs, Cs, e, q, c⟩:=h _ s
  subst c
  have hH : H p = some (.lst xs):=w.tr (p, .lst xs) (List.mem_flatten.mpr ⟨_, List.mem_of_getElem? hk, List.mem_cons_self⟩)
  refine ⟨v, hσ, by rw [e]; exact .inl ⟨rfl, _, SqL.of hH⟩, he.st w s P λa y D' H' w' s' ho P'=>?_⟩
  obtain ⟨p', xs', Cs', e2, q2, c2⟩:=h _ s'
  rw [e] at e2; cases e2
  have c3 : (p, HO.lst xs) = (p, HO.lst xs') /\ Cs.flatten = Cs'.flatten:=by
    injection c2 with h1 h2
    exact ⟨h1, h2⟩
  obtain ⟨c3, c4⟩:=c3
  cases c3
  have hH' : H' p = some (.lst xs):=w'.tr (p, .lst xs) (by rw [List.flatten_cons]; exact List.mem_append_right _ (List.mem_flatten.mpr ⟨_, List.mem_of_getElem? hk', List.mem_cons_self⟩))
  cases hlt : decide (as.length < sizeLine) with
  | false=>rw [chk, if_neg (by simpa using hlt)] at P'; exact P'.elim
  | true=>
    have hlt' : as.length < sizeLine:=by simpa using hlt
    rw [XL hlt'] at P'
    have wnd:=w'.nd
    have hcell : ∀ c ∈ (p, HO.lst (xs ++ [y])) :: (Cs' ++ [D']).flatten, upd H' p (.lst (xs ++ [y])) c.1 = some c.2:=λc hc=>by
      rcases List.mem_cons.mp hc with rfl | hc
      . exact X8
      . have hp1 := X7 hk'
        have w3 : W [D' ++ (((p, HO.lst xs) :: Cs.flatten) ++ (OO'.set k []).flatten)] H':=w'.of (by
          simp only [List.flatten_cons, List.flatten_nil, List.append_nil]
          exact (by simpa using hp1 : (((p, HO.lst xs) :: Cs.flatten) ++ (OO'.set k []).flatten).Perm OO'.flatten).append_left D')
        have hin : c ∈ D' ++ (((p, HO.lst xs) :: Cs.flatten) ++ (OO'.set k []).flatten):=by
          rw [ZG, List.mem_append] at hc
          rcases hc with hc | hc
          . rw [← c4] at hc; simp [hc]
          . simp [hc]
        have hne : c.1 ≠ p:=λee=>by
          have nd3:=w3.nd
          rw [ZG, List.mem_append, ← c4] at hc
          simp only [fl, List.flatten_cons, List.flatten_nil, List.append_nil, List.map_append, List.cons_append, List.map_cons] at nd3
          rw [List.nodup_append] at nd3
          obtain ⟨_, n2, n3⟩:=nd3
          rcases hc with hc | hc
          . exact (List.nodup_cons.mp n2).1 (List.mem_append_left _ (List.mem_map.mpr ⟨c, hc, ee⟩))
          . exact n3 c.1 (List.mem_map.mpr ⟨c, hc, rfl⟩) p List.mem_cons_self ee
        rw [Xw hne]
        exact w3.tr c (by simpa using hin)
    obtain ⟨w4, h4⟩:=MB (C':=(p, .lst (xs ++ [y])) :: (Cs' ++ [D']).flatten) w' hk' List.mem_cons_self (by simp [ZG, c4]) hcell (λc hc=>by
      rcases List.mem_cons.mp hc with rfl | hc
      . rfl
      . rw [ZG, List.mem_append, ← c4] at hc
        rcases hc with hc | hc
        . exact w'.mu c (by rw [List.flatten_cons]; exact List.mem_append_right _ (List.mem_flatten.mpr ⟨_, List.mem_of_getElem? hk', List.mem_cons_of_mem _ hc⟩))
        . exact w'.mu c (by rw [List.flatten_cons]; exact List.mem_append_left _ hc))
    refine ⟨p, xs, y, e, rfl, hH', by rw [(P3.len q).1]; exact hlt', ?_⟩
    refine hr a _ _ D w4 ?_ (by rw [h4]; exact P')
    rw [h4]
    exact ⟨s', ⟨p, xs ++ [y], Cs' ++ [D'], e, q2.snoc ho, rfl⟩⟩
end
section
variable {K : PySem.W.Frag} {Er : Exc -> Hp -> Prop} {S : SC} {OO OO' OO2 : List (List XM)} {σ : St} {α β γ ρ ι δ ε : Type}
variable {Fd : Ends -> β -> Hp -> Prop} [fd : FdOk Fd] {u : TS}
noncomputable def forN : List α -> γ -> (γ -> α -> Rs γ) -> Rs γ
  | [], g, _=>.ok g
  | a :: as, g, f=>(f g a).bind λg'=>forN as g' f
noncomputable def forC : List α -> γ -> (γ -> α -> Rs (Ctl ρ γ)) -> Rs (Ctl ρ γ)
  | [], g, _=>.ok (.nx g)
  | a :: as, g, f=>(f g a).bind λc=>match c with
    | .ret r=>.ok (.ret r)
    | .nx g'=>forC as g' f
theorem Yo {m : Rs α} {f : α -> Rs β} {g : β -> Rs γ} : (m.bind f).bind g = m.bind λa=>(f a).bind g:=by cases m <;> rfl
structure Tgt (K : PySem.W.Frag) (OO : List (List XM)) (g : TG) (r : Enc α) (κ : Type) where
  set : κ -> St -> St
  sc : α -> κ -> SC -> SC
  ok : ∀ {H : Hp} {v : V} {a : α} {σ : St} {S : SC} {Q : St -> Hp -> Prop}, r K (hid H OO) v a -> S.p (hid H OO) -> (∀ x, (sc a x S).p (hid H OO) -> Q (set x σ) H) -> g v σ H Q
noncomputable def tg1 {r : Enc α} [MonoE r] (i : Nat) : Tgt K OO (Jz i) r V where
  set:=λv σ=>σ.set i (some v)
  sc:=λa v S=>S.add K r v a
  ok:=fun {H v a σ S Q} hr hs hq=>hq v ⟨hs, hr⟩
noncomputable def tg2 {r : Enc α} {q : Enc β} [MonoE r] [MonoE q] (i j : Nat) : Tgt K OO (Lx K 2 (DG (Jz i) (DG (Jz j) L0))) (rP2 r q) (V × V) where
  set:=λv σ=>(σ.set i (some v.1)).set j (some v.2)
  sc:=λa v S=>(S.add K r v.1 a.1).add K q v.2 a.2
  ok:=fun {H v a σ S Q} r9 hs hq=>by obtain ⟨p, x, y, e, h, h1, h2⟩:=r9; exact ⟨p, _, e, SqT.of (XH _ _ h), rfl, x, [y], rfl, y, [], rfl, rfl, hq (x, y) ⟨⟨hs, h1⟩, h2⟩⟩
structure Walk (K : PySem.W.Frag) (Er : Exc -> Hp -> Prop) (S : SC) (OO : List (List XM)) (σ : St) (wi : TI) (r : Enc α) (m : Rs (List α)) : Prop where
  ok : ∀ {H : Hp} {R : It -> Hp -> Prop}, W OO H -> S.p (hid H OO) -> PZ Er (λas H=>∀ J H', Xx H H' ->
      (∀ (i : Nat) a, as[i]? = some a -> ∀ OO2 H2, W OO2 H2 -> Xx (hid H' OO) (hid H2 OO2) -> J.go i H2 /\ ∀ x H3, J.yld i H2 x H3 -> Xx H2 H3 /\ r K (hid H3 OO2) x a) ->
      (∀ OO2 H2, W OO2 H2 -> Xx (hid H' OO) (hid H2 OO2) -> J.stop as.length H2) -> R J H') H m -> wi σ H R
theorem XQ {te : TE} {r : Enc α} [z : MonoE r] {m : Rs (List α)} (he : EvS K Er S OO σ te (rV r) m) : Walk K Er S OO σ (EN K te) r m:=⟨fun {H R} w s P=>by
  refine he H _ w s (P.imp λas _ h v H' s' ⟨p, xs, e, hp, pr⟩=>⟨p, e, ⟨xs, SqL.of (XH _ _ hp)⟩, h _ H' s' ?_ ?_⟩)
  . intro i a ha OO2 H2 w2 m2
    obtain ⟨x, hx, rx⟩:=Paired.getR pr ha
    have hq : SqL K H2 p xs:=SqL.of (XH _ _ (m2 _ _ hp))
    refine ⟨⟨xs, x, hq, hx⟩, λy H3 r9=>?_⟩
    obtain ⟨e3, hy⟩:=r9
    subst e3
    refine ⟨Xx.refl _, ?_⟩
    have:=hy xs hq
    rw [hx] at this
    cases this
    exact z.mono m2 rx
  . intro OO2 H2 w2 m2
    exact ⟨xs, SqL.of (XH _ _ (m2 _ _ hp)), by rw [Paired.len pr]; exact Nat.le_refl _⟩⟩
noncomputable def Yl (as : List α) : List (Int × α):=(List.range as.length).map (λ(i : Nat)=>(i : Int)) |>.zip as
theorem Kx {as : List α} {i : Nat} {p : Int × α} (h : (Yl as)[i]? = some p) : p.1 = (i : Int) /\ as[i]? = some p.2:=by
  unfold Yl at h
  rw [List.getElem?_zip_eq_some] at h
  obtain ⟨h1, h2⟩:=h
  rw [List.getElem?_map] at h1
  have hlt : i < as.length:=by
    rcases Nat.lt_or_ge i as.length with q | q
    . exact q
    . rw [List.getElem?_eq_none q] at h2; cases h2
  rw [List.getElem?_range hlt] at h1
  exact ⟨(Option.some.inj h1).symm, h2⟩
theorem Dj {as : List α} : (Yl as).length = as.length:=by simp [Yl]
theorem YB {te : TE} {r : Enc α} [z : MonoE r] {m : Rs (List α)} (he : EvS K Er S OO σ te (rV r) m) : Walk K Er S OO σ (Iz K te) (rP2 Xb r) (m.bind λas=>.ok (Yl as)):=⟨fun {H R} w s P=>by
  refine he H _ w s ?_
  cases em : m with
  | bad=>rw [em] at P; exact P
  | err x=>rw [em] at P; exact P
  | ok as=>
    rw [em] at P
    intro v H' s' ⟨p, xs, e, hp, pr⟩
    refine ⟨p, e, ⟨xs, SqL.of (XH _ _ hp)⟩, P _ H' s' ?_ ?_⟩
    . intro i a ha OO2 H2 w2 m2
      obtain ⟨ha1, ha2⟩:=Kx ha
      obtain ⟨x, hx, rx⟩:=Paired.getR pr ha2
      have hq : SqL K H2 p xs:=SqL.of (XH _ _ (m2 _ _ hp))
      refine ⟨⟨xs, x, hq, hx⟩, λy H3 h3=>?_⟩
      obtain ⟨b, x', rfl, hb, rfl, hy⟩:=h3
      have:=hy xs hq
      rw [hx] at this
      cases this
      refine ⟨XT hb _, ⟨b, .int i, x, rfl, QK w2 hb, by show V.int _ = V.int _; rw [ha1], z.mono (m2.trans (Xl (XT hb _))) rx⟩⟩
    . intro OO2 H2 w2 m2
      exact ⟨xs, SqL.of (XH _ _ (m2 _ _ hp)), by rw [Dj, Paired.len pr]; exact Nat.le_refl _⟩⟩
theorem Fq {lo hi : Int} {i : Nat} {a : Int} (h : (X6 lo hi)[i]? = some a) : a = lo + i /\ i < (hi - lo).toNat:=by
  unfold X6 at h
  rw [List.getElem?_map] at h
  rcases Nat.lt_or_ge i (hi - lo).toNat with q | q
  . rw [List.getElem?_range q] at h; exact ⟨(Option.some.inj h).symm, q⟩
  . rw [List.getElem?_eq_none (by simpa using q)] at h; cases h
theorem Fg {lo hi : Int} : (X6 lo hi).length = (hi - lo).toNat:=by simp [X6]
noncomputable def J5 (lo hi : Int) : Rs (List Int):=chk (-(2 ^ 62) <= lo /\ lo < 2 ^ 62 /\ -(2 ^ 62) <= hi /\ hi < 2 ^ 62) (.ok (X6 lo hi))
theorem Xz {te : TE} {m : Rs Int} (he : EvB K Er S OO σ te Xb m) : Walk K Er S OO σ (IW (XG te Z1)) Xb (m.bind λn=>J5 0 n):=⟨fun {H R} w s P=>
  he.run w s (λas H H' s' h J H2 s2=>h J H2 (s'.trans s2)) P λn v H1 s1 w1 q1 r1 P1=>by
    obtain ⟨c, hc, P2⟩:=P1.okOf λx=>QE
    obtain ⟨⟨_, _, h1, h2⟩, h3⟩:=ZB hc
    cases h3
    refine ⟨n, by rw [show v = .int n from r1], h1, h2, P2 _ H1 (Xx.refl _) (λi a ha OO2 H2 w2 m2=>?_) λOO2 H2 w2 m2=>?_⟩
    . obtain ⟨e1, e2⟩ := Fq ha
      rw [Int.sub_zero] at e2
      refine ⟨e2, λx H3 r9=>?_⟩
      obtain ⟨e3, e4⟩:=r9
      subst e3
      exact ⟨Xx.refl _, by rw [e4, e1]; rfl⟩
    . show n.toNat <= _
      rw [Fg, Int.sub_zero]; exact Nat.le_refl _⟩
theorem YY {wi : TI} {g : TG} {tb : TS} {r : Enc α} {κ : Type} {m : Rs (List α)} {body : γ -> α -> Rs γ} {f : γ -> Rs β} (J : Jn γ ι) (T : ∀ OO, Tgt K OO g r κ) (x0 : ι) (g0 : γ) (he : Walk K Er S OO σ wi r m) (h1 : OO = J.oo x0) (h2 : σ = J.ss x0) (h3 : ∀ h, S.p h -> (J.sc g0 x0).p h)
    (hb : ∀ g x a v, Sv Er ((T (J.oo x)).sc a v (J.sc g x)) (J.oo x) ((T (J.oo x)).set v (J.ss x)) tb (FNd J) (body g a))
    (hr : ∀ g x, Sv Er (J.sc g x) (J.oo x) (J.ss x) u Fd (f g)) : Sv Er S OO σ (VP (LF wi g tb) u) Fd (m.bind λas=>(forN as g0 body).bind f):=λH D w s P=>by
  refine he.ok w s ?_
  cases em : m with
  | bad=>rw [em] at P; exact P
  | err x=>rw [em] at P; exact λH' s'=>P H' (XH.trans s')
  | ok as=>
    rw [em] at P
    have P : PZ Er (Fd D) (hid H OO) ((forN as g0 body).bind f):=P
    intro It H' s' hgo hstop
    refine ⟨λi mm σ' H2=>mm = as.length - i /\ i <= as.length /\ ∃ x gg, σ' = J.ss x /\ W (J.oo x) H2 /\ Xx (hid H' OO) (hid H2 (J.oo x)) /\ (J.sc gg x).p (hid H2 (J.oo x)) /\ PZ Er (Fd D) (hid H2 (J.oo x)) ((forN (as.drop i) gg body).bind f), ⟨as.length, rfl, Nat.zero_le _, x0, g0, h2, ?_, ?_, ?_, ?_⟩, ?_⟩
    . rw [← h1]; exact w.keep s'
    . rw [← h1]; exact Xx.refl _
    . rw [← h1]; exact h3 _ (S.mono _ _ (Xl s') s)
    . rw [← h1, List.drop_zero]; exact PZ.tr (fd.tr D) (Xl s') P
    . rintro i mm σ' H2 ⟨rfl, hi, x, gg, rfl, w2, m2, sc2, P2⟩
      by_cases hlt : i < as.length
      . right
        have ha : as[i]? = some as[i]:=by simp [hlt]
        obtain ⟨h4, h5⟩:=hgo i _ ha (J.oo x) H2 w2 m2
        refine ⟨h4, λσ3 H3=>∃ x gg, σ3 = J.ss x /\ W (J.oo x) H3 /\ Xx (hid H' OO) (hid H3 (J.oo x)) /\ (J.sc gg x).p (hid H3 (J.oo x)) /\ PZ Er (Fd D) (hid H3 (J.oo x)) ((forN (as.drop (i + 1)) gg body).bind f), λσ3 H3 q=>⟨as.length - (i + 1), Nat.sub_lt_sub_left hlt (Nat.lt_succ_self i), rfl, hlt, q⟩, λy H3 hy=>?_⟩
        obtain ⟨s3, r3⟩:=h5 y H3 hy
        have w3:=w2.keep s3
        have m3:=Xl (OO:=J.oo x) s3
        refine (T (J.oo x)).ok r3 ((J.sc gg x).mono _ _ m3 sc2) λv hv=>hb gg x as[i] v H3 _ w3 hv ?_
        rw [List.drop_eq_getElem_cons hlt] at P2
        have P3 : PZ Er (Fd D) (hid H2 (J.oo x)) ((body gg as[i]).bind λg'=>(forN (as.drop (i + 1)) g' body).bind f):=by rw [← Yo]; exact P2
        cases eb : body gg as[i] with
        | bad=>rw [eb] at P3; exact P3
        | err x=>rw [eb] at P3; exact λH4 s4=>P3 H4 (m3.trans s4)
        | ok g'=>
          rw [eb] at P3
          exact λx' H4 w4 m4 sc4=>⟨x', g', rfl, w4, m2.trans (m3.trans m4), sc4, PZ.tr (fd.tr D) (m3.trans m4) P3⟩
      . left
        have e : i = as.length:=Nat.le_antisymm hi (Nat.not_lt.mp hlt)
        subst e
        refine ⟨hstop (J.oo x) H2 w2 m2, hr gg x H2 D w2 sc2 ?_⟩
        rw [List.drop_length] at P2
        exact P2
theorem Z7 {o : OE ρ} {wi : TI} {g : TG} {tb : TS} {r : Enc α} {κ : Type} {m : Rs (List α)} {body : γ -> α -> Rs (Ctl ρ γ)} {f : γ -> Rs ρ} (J : Jn γ ι) (T : ∀ OO, Tgt K OO g r κ) (x0 : ι) (g0 : γ) (he : Walk K Er S OO σ wi r m) (h1 : OO = J.oo x0) (h2 : σ = J.ss x0) (h3 : ∀ h, S.p h -> (J.sc g0 x0).p h)
    (hb : ∀ g x a v, Sv Er ((T (J.oo x)).sc a v (J.sc g x)) (J.oo x) ((T (J.oo x)).set v (J.ss x)) tb (FCd K o J) (body g a))
    (hr : ∀ g x, Sv Er (J.sc g x) (J.oo x) (J.ss x) u (FTd K o) (f g)) : Sv Er S OO σ (VP (LF wi g tb) u) (FTd K o) (m.bind λas=>(forC as g0 body).bind (Qm f)):=λH D w s P=>by
  refine he.ok w s ?_
  cases em : m with
  | bad=>rw [em] at P; exact P
  | err x=>rw [em] at P; exact λH' s'=>P H' (XH.trans s')
  | ok as=>
    rw [em] at P
    have P : PZ Er (FTd K o D) (hid H OO) ((forC as g0 body).bind (Qm f)):=P
    intro It H' s' hgo hstop
    refine ⟨λi mm σ' H2=>mm = as.length - i /\ i <= as.length /\ ∃ x gg, σ' = J.ss x /\ W (J.oo x) H2 /\ Xx (hid H' OO) (hid H2 (J.oo x)) /\ (J.sc gg x).p (hid H2 (J.oo x)) /\ PZ Er (FTd K o D) (hid H2 (J.oo x)) ((forC (as.drop i) gg body).bind (Qm f)), ⟨as.length, rfl, Nat.zero_le _, x0, g0, h2, ?_, ?_, ?_, ?_⟩, ?_⟩
    . rw [← h1]; exact w.keep s'
    . rw [← h1]; exact Xx.refl _
    . rw [← h1]; exact h3 _ (S.mono _ _ (Xl s') s)
    . rw [← h1, List.drop_zero]; exact PZ.tr (FdOk.tr D) (Xl s') P
    . rintro i mm σ' H2 ⟨rfl, hi, x, gg, rfl, w2, m2, sc2, P2⟩
      by_cases hlt : i < as.length
      . right
        have ha : as[i]? = some as[i]:=by simp [hlt]
        obtain ⟨h4, h5⟩:=hgo i _ ha (J.oo x) H2 w2 m2
        refine ⟨h4, λσ3 H3=>∃ x gg, σ3 = J.ss x /\ W (J.oo x) H3 /\ Xx (hid H' OO) (hid H3 (J.oo x)) /\ (J.sc gg x).p (hid H3 (J.oo x)) /\ PZ Er (FTd K o D) (hid H3 (J.oo x)) ((forC (as.drop (i + 1)) gg body).bind (Qm f)), λσ3 H3 q=>⟨as.length - (i + 1), Nat.sub_lt_sub_left hlt (Nat.lt_succ_self i), rfl, hlt, q⟩, λy H3 hy=>?_⟩
        obtain ⟨s3, r3⟩:=h5 y H3 hy
        have w3:=w2.keep s3
        have m3:=Xl (OO:=J.oo x) s3
        refine (T (J.oo x)).ok r3 ((J.sc gg x).mono _ _ m3 sc2) λv hv=>hb gg x as[i] v H3 _ w3 hv ?_
        rw [List.drop_eq_getElem_cons hlt] at P2
        have P3 : PZ Er (FTd K o D) (hid H2 (J.oo x)) ((body gg as[i]).bind λc=>(match c with
          | .ret r=>Rs.ok (Ctl.ret r)
          | .nx g'=>forC (as.drop (i + 1)) g' body).bind (Qm f)):=by rw [← Yo]; exact P2
        cases eb : body gg as[i] with
        | bad=>rw [eb] at P3; exact P3
        | err x=>rw [eb] at P3; exact λH4 s4=>P3 H4 (m3.trans s4)
        | ok c=>
          rw [eb] at P3
          cases c with
          | ret r=>exact FdOk.tr (Fd:=FTd K o) D r _ _ m3 P3
          | nx g'=>exact λx' H4 w4 m4 sc4=>⟨x', g', rfl, w4, m2.trans (m3.trans m4), sc4, PZ.tr (FdOk.tr D) (m3.trans m4) P3⟩
      . left
        have e : i = as.length:=Nat.le_antisymm hi (Nat.not_lt.mp hlt)
        subst e
        refine ⟨hstop (J.oo x) H2 w2 m2, hr gg x H2 D w2 sc2 ?_⟩
        rw [List.drop_length] at P2
        exact P2
theorem QW {κ2 : Type} {o : OE ρ} {J2 : Jn δ κ2} {wi : TI} {g : TG} {tb : TS} {r : Enc α} {κ : Type} {m : Rs (List α)} {body : γ -> α -> Rs (Ctl ρ γ)} {f : γ -> Rs (Ctl ρ δ)} (J : Jn γ ι) (T : ∀ OO, Tgt K OO g r κ) (x0 : ι) (g0 : γ) (he : Walk K Er S OO σ wi r m) (h1 : OO = J.oo x0) (h2 : σ = J.ss x0) (h3 : ∀ h, S.p h -> (J.sc g0 x0).p h)
    (hb : ∀ g x a v, Sv Er ((T (J.oo x)).sc a v (J.sc g x)) (J.oo x) ((T (J.oo x)).set v (J.ss x)) tb (FCd K o J) (body g a))
    (hr : ∀ g x, Sv Er (J.sc g x) (J.oo x) (J.ss x) u (FCd K o J2) (f g)) : Sv Er S OO σ (VP (LF wi g tb) u) (FCd K o J2) (m.bind λas=>(forC as g0 body).bind (Zv f)):=λH D w s P=>by
  refine he.ok w s ?_
  cases em : m with
  | bad=>rw [em] at P; exact P
  | err x=>rw [em] at P; exact λH' s'=>P H' (XH.trans s')
  | ok as=>
    rw [em] at P
    have P : PZ Er (FCd K o J2 D) (hid H OO) ((forC as g0 body).bind (Zv f)):=P
    intro It H' s' hgo hstop
    refine ⟨λi mm σ' H2=>mm = as.length - i /\ i <= as.length /\ ∃ x gg, σ' = J.ss x /\ W (J.oo x) H2 /\ Xx (hid H' OO) (hid H2 (J.oo x)) /\ (J.sc gg x).p (hid H2 (J.oo x)) /\ PZ Er (FCd K o J2 D) (hid H2 (J.oo x)) ((forC (as.drop i) gg body).bind (Zv f)), ⟨as.length, rfl, Nat.zero_le _, x0, g0, h2, ?_, ?_, ?_, ?_⟩, ?_⟩
    . rw [← h1]; exact w.keep s'
    . rw [← h1]; exact Xx.refl _
    . rw [← h1]; exact h3 _ (S.mono _ _ (Xl s') s)
    . rw [← h1, List.drop_zero]; exact PZ.tr (FdOk.tr D) (Xl s') P
    . rintro i mm σ' H2 ⟨rfl, hi, x, gg, rfl, w2, m2, sc2, P2⟩
      by_cases hlt : i < as.length
      . right
        have ha : as[i]? = some as[i]:=by simp [hlt]
        obtain ⟨h4, h5⟩:=hgo i _ ha (J.oo x) H2 w2 m2
        refine ⟨h4, λσ3 H3=>∃ x gg, σ3 = J.ss x /\ W (J.oo x) H3 /\ Xx (hid H' OO) (hid H3 (J.oo x)) /\ (J.sc gg x).p (hid H3 (J.oo x)) /\ PZ Er (FCd K o J2 D) (hid H3 (J.oo x)) ((forC (as.drop (i + 1)) gg body).bind (Zv f)), λσ3 H3 q=>⟨as.length - (i + 1), Nat.sub_lt_sub_left hlt (Nat.lt_succ_self i), rfl, hlt, q⟩, λy H3 hy=>?_⟩
        obtain ⟨s3, r3⟩:=h5 y H3 hy
        have w3:=w2.keep s3
        have m3:=Xl (OO:=J.oo x) s3
        refine (T (J.oo x)).ok r3 ((J.sc gg x).mono _ _ m3 sc2) λv hv=>hb gg x as[i] v H3 _ w3 hv ?_
        rw [List.drop_eq_getElem_cons hlt] at P2
        have P3 : PZ Er (FCd K o J2 D) (hid H2 (J.oo x)) ((body gg as[i]).bind λc=>(match c with
          | .ret r=>Rs.ok (Ctl.ret r)
          | .nx g'=>forC (as.drop (i + 1)) g' body).bind (Zv f)):=by rw [← Yo]; exact P2
        cases eb : body gg as[i] with
        | bad=>rw [eb] at P3; exact P3
        | err x=>rw [eb] at P3; exact λH4 s4=>P3 H4 (m3.trans s4)
        | ok c=>
          rw [eb] at P3
          cases c with
          | ret r=>exact FdOk.tr (Fd:=FTd K o) D r _ _ m3 P3
          | nx g'=>exact λx' H4 w4 m4 sc4=>⟨x', g', rfl, w4, m2.trans (m3.trans m4), sc4, PZ.tr (FdOk.tr D) (m3.trans m4) P3⟩
      . left
        have e : i = as.length:=Nat.le_antisymm hi (Nat.not_lt.mp hlt)
        subst e
        refine ⟨hstop (J.oo x) H2 w2 m2, hr gg x H2 D w2 sc2 ?_⟩
        rw [List.drop_length] at P2
        exact P2
noncomputable def QB : Nat -> γ -> (γ -> Rs Bool) -> (γ -> Rs γ) -> Rs γ
  | 0, _, _, _=>.bad
  | n + 1, g, c, f=>(c g).bind λb=>if b = true then (f g).bind λg'=>QB n g' c f else .ok g
theorem UP {c : TT} {tb : TS} {mc : γ -> Rs Bool} {body : γ -> Rs γ} {f : γ -> Rs β} (J : Jn γ ι) (n : Nat) (x0 : ι) (g0 : γ) (h1 : OO = J.oo x0) (h2 : σ = J.ss x0) (h3 : ∀ h, S.p h -> (J.sc g0 x0).p h)
    (hc : ∀ g x, EvT Er (J.sc g x) (J.oo x) (J.ss x) c (mc g)) (hb : ∀ g x, Sv Er (J.sc g x) (J.oo x) (J.ss x) tb (FNd J) (body g))
    (hr : ∀ g x, Sv Er (J.sc g x) (J.oo x) (J.ss x) u Fd (f g)) : Sv Er S OO σ (VP (Eg c tb) u) Fd ((QB n g0 mc body).bind f):=λH D w s P=>by
  refine ⟨λmm σ' H2=>∃ x gg, σ' = J.ss x /\ W (J.oo x) H2 /\ (J.sc gg x).p (hid H2 (J.oo x)) /\ PZ Er (Fd D) (hid H2 (J.oo x)) ((QB mm gg mc body).bind f), ⟨n, x0, g0, h2, by rw [← h1]; exact w, by rw [← h1]; exact h3 _ s, by rw [← h1]; exact P⟩, ?_⟩
  rintro mm σ' H2 ⟨x, gg, rfl, w2, sc2, P2⟩
  cases mm with
  | zero=>exact P2.elim
  | succ mm=>
    have P3 : PZ Er (Fd D) (hid H2 (J.oo x)) ((mc gg).bind λb=>(if b = true then (body gg).bind λg'=>QB mm g' mc body else .ok gg).bind f):=by rw [← Yo]; exact P2
    refine (hc gg x).st w2 sc2 P3 λb H3 w3 sc3 P4=>?_
    cases b with
    | false=>exact hr gg x H3 D w3 sc3 P4
    | true=>
      rw [if_pos rfl] at P4 ⊢
      refine ⟨λσ3 H4=>∃ x gg, σ3 = J.ss x /\ W (J.oo x) H4 /\ (J.sc gg x).p (hid H4 (J.oo x)) /\ PZ Er (Fd D) (hid H4 (J.oo x)) ((QB mm gg mc body).bind f), λσ3 H4 q=>⟨mm, Nat.lt_succ_self _, q⟩, hb gg x H3 _ w3 sc3 ?_⟩
      rw [Yo] at P4
      cases eb : body gg with
      | bad=>rw [eb] at P4; exact P4
      | err x=>rw [eb] at P4; exact P4
      | ok g'=>
        rw [eb] at P4
        exact λx' H5 w5 m5 sc5=>⟨x', g', rfl, w5, sc5, PZ.tr (fd.tr D) m5 P4⟩
noncomputable def GT (as : List α) (f : α -> Rs β) : Rs (List β):=match as with
  | []=>.ok []
  | a :: as=>(f a).bind λb=>(GT as f).bind λbs=>.ok (b :: bs)
noncomputable def QJ (as : List α) (f : α -> Rs β) : Rs (List β):=chk (as.length <= sizeLine) (GT as f)
noncomputable def G0 (as : List α) (c : α -> Rs Bool) (f : α -> Rs β) : Rs (List β):=match as with
  | []=>.ok []
  | a :: as=>(c a).bind λb=>if b = true then (f a).bind λb=>(G0 as c f).bind λbs=>.ok (b :: bs) else G0 as c f
noncomputable def Ex (as : List α) (c : α -> Rs Bool) (f : α -> Rs β) : Rs (List β):=chk (as.length <= sizeLine) (G0 as c f)
theorem PZ.chk {F : β -> Hp -> Prop} {H : Hp} {c : Prop} [Decidable c] {m : Rs β} (P : PZ Er F H (chk c m)) : c /\ PZ Er F H m:=by
  unfold L2.chk at P; split at P
  . exact ⟨by assumption, P⟩
  . exact P.elim
theorem Hd {o : OE α} [z : MonoO o] {xs : List V} {as : List α} {Cs : List (List XM)} {H H0 : Hp} {Q : VK} (w : W (Cs.flatten :: OO) H) (m0 : Xx (hid H0 OO) (hid H (Cs.flatten :: OO))) (s0 : Xx H0 H) (pr : P3 (o K (hid H (Cs.flatten :: OO))) xs as Cs) (P : FO K OO OO (oL o) Q as H0) : ∀ p, H p = none -> Q (.ref p) (upd H p (.lst xs)):=λp hp=>by
  have hn:=UE (OO:=Cs.flatten :: OO) hp (o:=.lst xs)
  have wn:=w.new hp (o:=.lst xs) rfl
  have pe : (((p, HO.lst xs) :: Cs.flatten) :: OO).flatten.Perm ([(p, HO.lst xs)] :: Cs.flatten :: OO).flatten:=by simp
  refine P (.ref p) ((p, .lst xs) :: Cs.flatten) _ (s0.trans (XT hp _)) (wn.of pe) ?_ ?_
  . rw [Yv pe]; exact m0.trans hn
  . rw [Yv pe]
    exact ⟨p, xs, Cs, rfl, pr.imp λ_ _ _ h=>z.mono hn h, rfl⟩
theorem Yu {o : OE β} [z : MonoO o] {wi : TI} {g : TG} {te : TE} {r : Enc α} {κ : Type} {m : Rs (List α)} {f : α -> Rs β} {n : Nat} {caps : List (Nat × Str)} (T : ∀ OO, Tgt K OO g r κ) (he : Walk K Er S OO σ wi r m)
    (hb : ∀ C a v, Ev K Er ((T (C :: OO)).sc a v S) (C :: OO) (C :: OO) ((T (C :: OO)).set v (Zb n caps σ)) te o (f a)) : Ev K Er S OO OO σ (Ge n caps wi g UM te) (oL o) (m.bind λas=>QJ as f):=λH Q w s P=>by
  refine he.ok w s ?_
  cases em : m with
  | bad=>rw [em] at P; exact P
  | err x=>rw [em] at P; exact P
  | ok as=>
    rw [em] at P
    obtain ⟨hsz, P⟩:=PZ.chk (show PZ Er _ H (chk (as.length <= sizeLine) (GT as f)) from P)
    intro It H' s' hgo hstop
    -- what is left: the ZN of the items, then all
    refine ⟨λi mm ys H2=>mm = as.length - i /\ i <= as.length /\ ∃ bs Cs, Xx H H2 /\ W (Cs.flatten :: OO) H2 /\ Xx (hid H' OO) (hid H2 (Cs.flatten :: OO)) /\ P3 (o K (hid H2 (Cs.flatten :: OO))) ys bs Cs /\ bs.length = i /\ PZ Er (FO K OO OO (oL o) Q) H ((GT (as.drop i) f).bind λZN=>.ok (bs ++ ZN)),
      ⟨as.length, rfl, Nat.zero_le _, [], [], s', (w.keep s').nil, by show Xx _ (hid H' ([] :: OO)); rw [Y7]; exact Xx.refl _, .nil, rfl, ?_⟩, ?_⟩
    . rw [List.drop_zero]
      revert P
      cases GT as f <;> exact λz=>z
    . rintro i mm ys H2 ⟨rfl, hi, bs, Cs, s2, w2, m2, pr, hlen, P2⟩
      refine ⟨by rw [pr.len.1, hlen]; omega, ?_⟩
      by_cases hlt : i < as.length
      . right
        have ha : as[i]? = some as[i]:=by simp [hlt]
        obtain ⟨h4, h5⟩:=hgo i _ ha (Cs.flatten :: OO) H2 w2 m2
        refine ⟨h4, λys' H3=>∃ bs Cs, Xx H H3 /\ W (Cs.flatten :: OO) H3 /\ Xx (hid H' OO) (hid H3 (Cs.flatten :: OO)) /\ P3 (o K (hid H3 (Cs.flatten :: OO))) ys' bs Cs /\ bs.length = i + 1 /\ PZ Er (FO K OO OO (oL o) Q) H ((GT (as.drop (i + 1)) f).bind λZN=>.ok (bs ++ ZN)), λys' H3 q=>⟨as.length - (i + 1), Nat.sub_lt_sub_left hlt (Nat.lt_succ_self i), rfl, hlt, q⟩, λy H3 hy=>?_⟩
        obtain ⟨s3, r3⟩:=h5 y H3 hy
        have w3:=w2.keep s3
        have m3:=Xl (OO:=Cs.flatten :: OO) s3
        have sS : S.p (hid H3 (Cs.flatten :: OO)):=S.mono _ _ ((Xl s').trans (m2.trans m3)) s
        refine (T (Cs.flatten :: OO)).ok r3 sS λv hv=>?_
        show UM _ _ _
        refine IS ?_
        rw [List.drop_eq_getElem_cons hlt] at P2
        have P3' : PZ Er (FO K OO OO (oL o) Q) H ((f as[i]).bind λb=>(GT (as.drop (i + 1)) f).bind λZN=>.ok (bs ++ b :: ZN)):=by
          have : ((f as[i]).bind λb=>(GT (as.drop (i + 1)) f).bind λZN=>Rs.ok (bs ++ b :: ZN)) = (GT (as[i] :: as.drop (i + 1)) f).bind λZN=>.ok (bs ++ ZN):=by
            show _ = ((f as[i]).bind λb=>(GT (as.drop (i + 1)) f).bind λbs=>Rs.ok (b :: bs)).bind _
            rw [Yo]; congr 1; funext b; rw [Yo]; rfl
          rw [this]; exact P2
        refine hb Cs.flatten as[i] v H3 _ w3 hv ?_
        cases eb : f as[i] with
        | bad=>rw [eb] at P3'; exact P3'
        | err x=>rw [eb] at P3'; exact λH4 s4=>P3' H4 (s2.trans (s3.trans s4))
        | ok b=>
          rw [eb] at P3'
          intro v' C' H4 s4 w4 m4 ho
          have pe : ((Cs ++ [C']).flatten :: OO).flatten.Perm (C' :: Cs.flatten :: OO).flatten:=by
            simp only [ZG, List.flatten_cons]
            rw [List.append_assoc, ← List.append_assoc, ← List.append_assoc]
            exact List.perm_append_comm.append_right _
          refine ⟨bs ++ [b], Cs ++ [C'], s2.trans (s3.trans s4), w4.of pe, ?_, ?_, by simp [hlen], ?_⟩
          . rw [Yv pe]; exact m2.trans (m3.trans m4)
          . rw [Yv pe]; exact P3.snoc (pr.imp λ_ _ _ h=>z.mono (m3.trans m4) h) ho
          . have P4 : PZ Er (FO K OO OO (oL o) Q) H ((GT (as.drop (i + 1)) f).bind λZN => .ok (bs ++ b :: ZN)) := P3'
            simpa using P4
      . left
        have e : i = as.length:=Nat.le_antisymm hi (Nat.not_lt.mp hlt)
        subst e
        refine ⟨hstop (Cs.flatten :: OO) H2 w2 m2, ?_⟩
        rw [List.drop_length] at P2
        have P3' : FO K OO OO (oL o) Q (bs ++ []) H:=P2
        rw [List.append_nil] at P3'
        exact Hd (H0:=H) w2 ((Xl s').trans m2) s2 pr P3'
theorem Gv {o : OE β} [z : MonoO o] {wi : TI} {g : TG} {tt : TT} {te : TE} {r : Enc α} {κ : Type} {m : Rs (List α)} {c : α -> Rs Bool} {f : α -> Rs β} {n : Nat} {caps : List (Nat × Str)} (T : ∀ OO, Tgt K OO g r κ) (he : Walk K Er S OO σ wi r m)
    (hc : ∀ C a v, EvT Er ((T (C :: OO)).sc a v S) (C :: OO) ((T (C :: OO)).set v (Zb n caps σ)) tt (c a))
    (hb : ∀ C a v, Ev K Er ((T (C :: OO)).sc a v S) (C :: OO) (C :: OO) ((T (C :: OO)).set v (Zb n caps σ)) te o (f a)) : Ev K Er S OO OO σ (Ge n caps wi g tt te) (oL o) (m.bind λas=>Ex as c f):=λH Q w s P=>by
  refine he.ok w s ?_
  cases em : m with
  | bad=>rw [em] at P; exact P
  | err x=>rw [em] at P; exact P
  | ok as=>
    rw [em] at P
    obtain ⟨hsz, P⟩:=PZ.chk (show PZ Er _ H (chk (as.length <= sizeLine) (G0 as c f)) from P)
    intro It H' s' hgo hstop
    refine ⟨λi mm ys H2=>mm = as.length - i /\ i <= as.length /\ ∃ bs Cs, Xx H H2 /\ W (Cs.flatten :: OO) H2 /\ Xx (hid H' OO) (hid H2 (Cs.flatten :: OO)) /\ P3 (o K (hid H2 (Cs.flatten :: OO))) ys bs Cs /\ bs.length <= i /\ PZ Er (FO K OO OO (oL o) Q) H ((G0 (as.drop i) c f).bind λZN=>.ok (bs ++ ZN)),
      ⟨as.length, rfl, Nat.zero_le _, [], [], s', (w.keep s').nil, by show Xx _ (hid H' ([] :: OO)); rw [Y7]; exact Xx.refl _, .nil, Nat.zero_le _, ?_⟩, ?_⟩
    . rw [List.drop_zero]
      revert P
      cases G0 as c f <;> exact λz=>z
    . rintro i mm ys H2 ⟨rfl, hi, bs, Cs, s2, w2, m2, pr, hlen, P2⟩
      refine ⟨by rw [pr.len.1]; omega, ?_⟩
      by_cases hlt : i < as.length
      . right
        have ha : as[i]? = some as[i]:=by simp [hlt]
        obtain ⟨h4, h5⟩:=hgo i _ ha (Cs.flatten :: OO) H2 w2 m2
        refine ⟨h4, λys' H3=>∃ bs Cs, Xx H H3 /\ W (Cs.flatten :: OO) H3 /\ Xx (hid H' OO) (hid H3 (Cs.flatten :: OO)) /\ P3 (o K (hid H3 (Cs.flatten :: OO))) ys' bs Cs /\ bs.length <= i + 1 /\ PZ Er (FO K OO OO (oL o) Q) H ((G0 (as.drop (i + 1)) c f).bind λZN=>.ok (bs ++ ZN)), λys' H3 q=>⟨as.length - (i + 1), Nat.sub_lt_sub_left hlt (Nat.lt_succ_self i), rfl, hlt, q⟩, λy H3 hy=>?_⟩
        obtain ⟨s3, r3⟩:=h5 y H3 hy
        have w3:=w2.keep s3
        have m3:=Xl (OO:=Cs.flatten :: OO) s3
        have sS : S.p (hid H3 (Cs.flatten :: OO)):=S.mono _ _ ((Xl s').trans (m2.trans m3)) s
        refine (T (Cs.flatten :: OO)).ok r3 sS λv hv=>?_
        rw [List.drop_eq_getElem_cons hlt] at P2
        have P3' : PZ Er (FO K OO OO (oL o) Q) H ((c as[i]).bind λb=>(if b = true then (f as[i]).bind λb=>(G0 (as.drop (i + 1)) c f).bind λbs=>.ok (b :: bs) else G0 (as.drop (i + 1)) c f).bind λZN=>.ok (bs ++ ZN)):=by
          rw [← Yo]; exact P2
        refine hc Cs.flatten as[i] v H3 _ w3 hv ?_
        cases ec : c as[i] with
        | bad=>rw [ec] at P3'; exact P3'
        | err x=>rw [ec] at P3'; exact λH4 s4=>P3' H4 (s2.trans (s3.trans s4))
        | ok b=>
          rw [ec] at P3'
          intro H4 s4
          have w4:=w3.keep s4
          have m4:=Xl (OO:=Cs.flatten :: OO) s4
          cases b with
          | false=>exact ⟨bs, Cs, s2.trans (s3.trans s4), w4, m2.trans (m3.trans m4), pr.imp λ_ _ _ h=>z.mono (m3.trans m4) h, Nat.le_succ_of_le hlen, P3'⟩
          | true=>
            rw [if_pos rfl]
            have P4 : PZ Er (FO K OO OO (oL o) Q) H ((f as[i]).bind λb=>(G0 (as.drop (i + 1)) c f).bind λZN=>.ok (bs ++ b :: ZN)):=by
              have : ((f as[i]).bind λb=>(G0 (as.drop (i + 1)) c f).bind λZN=>Rs.ok (bs ++ b :: ZN)) = ((f as[i]).bind λb=>(G0 (as.drop (i + 1)) c f).bind λbs=>Rs.ok (b :: bs)).bind λZN=>.ok (bs ++ ZN):=by
                rw [Yo]; congr 1; funext b; rw [Yo]; rfl
              rw [this]; exact P3'
            refine hb Cs.flatten as[i] v H4 _ w4 (((T (Cs.flatten :: OO)).sc as[i] v S).mono _ _ m4 hv) ?_
            cases eb : f as[i] with
            | bad=>rw [eb] at P4; exact P4
            | err x=>rw [eb] at P4; exact λH5 s5=>P4 H5 (s2.trans (s3.trans (s4.trans s5)))
            | ok b=>
              rw [eb] at P4
              intro v' C' H5 s5 w5 m5 ho
              have pe : ((Cs ++ [C']).flatten :: OO).flatten.Perm (C' :: Cs.flatten :: OO).flatten:=by
                simp only [ZG, List.flatten_cons]
                rw [List.append_assoc, ← List.append_assoc, ← List.append_assoc]
                exact List.perm_append_comm.append_right _
              refine ⟨bs ++ [b], Cs ++ [C'], s2.trans (s3.trans (s4.trans s5)), w5.of pe, ?_, ?_, by simpa using hlen, ?_⟩
              . rw [Yv pe]; exact m2.trans (m3.trans (m4.trans m5))
              . rw [Yv pe]; exact P3.snoc (pr.imp λ_ _ _ h=>z.mono (m3.trans (m4.trans m5)) h) ho
              . have P5 : PZ Er (FO K OO OO (oL o) Q) H ((G0 (as.drop (i + 1)) c f).bind λZN => .ok (bs ++ b :: ZN)) := P4
                simpa using P5
      . left
        have e : i = as.length:=Nat.le_antisymm hi (Nat.not_lt.mp hlt)
        subst e
        refine ⟨hstop (Cs.flatten :: OO) H2 w2 m2, ?_⟩
        rw [List.drop_length] at P2
        have P3' : FO K OO OO (oL o) Q (bs ++ []) H:=P2
        rw [List.append_nil] at P3'
        exact Hd (H0:=H) w2 ((Xl s').trans m2) s2 pr P3'
noncomputable def QA (as : List α) (i : Int) (a : α) : Rs (List α):=match ixN as.length i with
  | some j=>.ok (as.set j a)
  | none=>.bad
end
section
variable {K : PySem.W.Frag} {Er : Exc -> Hp -> Prop} {S : SC} {OO OO' OO2 : List (List XM)} {σ : St} {α β γ ρ ι δ ε : Type}
variable {Fd : Ends -> β -> Hp -> Prop} [fd : FdOk Fd] {u : TS}
theorem HL {C D C' : List XM} {H : Hp} {k : Nat} {p : Addr} {o : HO} (w : W (D :: OO) H) (hk : OO[k]? = some C) (hp : p ∈ C.map (·.1)) (hp' : p ∈ C'.map (·.1)) (hnd : (C'.map (·.1)).Nodup) (hin : ∀ b ∈ C'.map (·.1), b ∈ (C ++ D).map (·.1)) (ht : ∀ c ∈ C', upd H p o c.1 = some c.2) (hm : ∀ c ∈ C', H9 c.2 = true) :
    W (OO.set k C') (upd H p o) /\ Xx (hid H (D :: OO)) (hid (upd H p o) (OO.set k C')):=by
  have hlt : k < OO.length:=by
    rcases Nat.lt_or_ge k OO.length with h | h
    . exact h
    . rw [List.getElem?_eq_none h] at hk; cases hk
  have h1:=X7 hk
  have h2:=X7 (OO:=OO.set k C') (k:=k) (C:=C') (by simp [hlt])
  rw [Ud] at h2
  have h3 : (OO.set k C').flatten.Perm (C' ++ (OO.set k []).flatten):=by simpa using h2.symm
  have h4 : (D :: OO).flatten.Perm ((C ++ D) ++ (OO.set k []).flatten):=by
    rw [List.flatten_cons]
    refine ((by simpa using h1.symm : OO.flatten.Perm (C ++ (OO.set k []).flatten)).append_left D).trans ?_
    rw [← List.append_assoc]
    exact List.perm_append_comm.append_right _
  have nd2 : (((C ++ D) ++ (OO.set k []).flatten).map (·.1)).Nodup:=(h4.map _).nodup_iff.mp w.nd
  rw [List.map_append] at nd2
  obtain ⟨n1, n2, n3⟩:=List.nodup_append.mp nd2
  refine ⟨⟨λc hc=>?_, ?_, λc hc=>?_⟩, λb v q=>?_⟩
  . rcases List.mem_append.mp (h3.mem_iff.mp hc) with hc | hc
    . exact ht c hc
    . have hne : c.1 ≠ p := λe => n3 p (hin p hp') c.1 (List.mem_map.mpr ⟨c, hc, rfl⟩) e.symm
      rw [Xw hne]
      exact w.tr c (h4.mem_iff.mpr (by simp [hc]))
  . refine ((h3.map _).nodup_iff).mpr ?_
    rw [List.map_append]
    exact List.nodup_append.mpr ⟨hnd, n2, λa ha b hb=>n3 a (hin a ha) b hb⟩
  . rcases List.mem_append.mp (h3.mem_iff.mp hc) with hc | hc
    . exact hm c hc
    . exact w.mu c (h4.mem_iff.mpr (by simp [hc]))
  . obtain ⟨q1, q2⟩ := XW q
    have hbp : b ≠ p:=λe=>q2 (by
      rw [e]
      obtain ⟨c, hc, rfl⟩:=List.mem_map.mp hp
      exact Jt (h4.mem_iff.mpr (by simp [hc])))
    refine Zj (by rw [Xw hbp]; exact q1) λz=>q2 ?_
    obtain ⟨o', ho'⟩:=Cd z
    rcases List.mem_append.mp (h3.mem_iff.mp ho') with hc | hc
    . obtain ⟨c, hc2, e⟩ := List.mem_map.mp (hin b (List.mem_map.mpr ⟨_, hc, rfl⟩))
      rw [← e]
      exact Jt (h4.mem_iff.mpr (List.mem_append_left _ hc2))
    . exact Jt (c:=(b, o')) (h4.mem_iff.mpr (by simp [hc]))
theorem Ly {D : List XM} {Cs Cs' : List (List XM)} {H : Hp} {k : Nat} {p : Addr} {xs xs' : List V} (w : W (D :: OO) H) (hk : OO[k]? = some ((p, .lst xs) :: Cs.flatten)) (hin : ∀ c ∈ Cs'.flatten, c ∈ Cs.flatten ++ D) (hnd : (Cs'.flatten.map (·.1)).Nodup) :
    W (OO.set k ((p, .lst xs') :: Cs'.flatten)) (upd H p (.lst xs')) /\ Xx (hid H (D :: OO)) (hid (upd H p (.lst xs')) (OO.set k ((p, .lst xs') :: Cs'.flatten))):=by
  have h1:=X7 hk
  have w3 : W [((p, HO.lst xs) :: (Cs.flatten ++ D)) ++ (OO.set k []).flatten] H:=w.of (by
    simp only [List.flatten_cons, List.flatten_nil, List.append_nil]
    refine List.Perm.trans ?_ ((by simpa using h1 : (((p, HO.lst xs) :: Cs.flatten) ++ (OO.set k []).flatten).Perm OO.flatten).append_left D)
    rw [← List.append_assoc]
    refine List.Perm.append_right _ ?_
    exact (List.perm_append_comm (l₁:=(p, HO.lst xs) :: Cs.flatten) (l₂:=D)))
  have nd:=w3.nd
  simp only [fl, List.flatten_cons, List.flatten_nil, List.append_nil, List.map_append, List.cons_append, List.map_cons] at nd
  have hne : ∀ c ∈ Cs'.flatten, c.1 ≠ p:=λc hc e=>by
    refine (List.nodup_cons.mp nd).1 ?_
    rw [← e]
    refine List.mem_append_left _ ?_
    rw [← List.map_append]
    exact List.mem_map.mpr ⟨c, hin c hc, rfl⟩
  refine HL w hk List.mem_cons_self List.mem_cons_self ?_ ?_ ?_ ?_
  . rw [List.map_cons, List.nodup_cons]
    refine ⟨λz=>?_, hnd⟩
    obtain ⟨c, hc, e⟩:=List.mem_map.mp z
    exact hne c hc e
  . intro b hb
    rcases List.mem_cons.mp hb with rfl | hb
    . exact List.mem_cons_self
    . obtain ⟨c, hc, rfl⟩ := List.mem_map.mp hb
      rw [List.cons_append, List.map_cons]
      exact List.mem_cons_of_mem _ (List.mem_map.mpr ⟨c, hin c hc, rfl⟩)
  . intro c hc
    rcases List.mem_cons.mp hc with rfl | hc
    . exact X8
    . rw [Xw (hne c hc)]
      exact w3.tr c (by
        rw [List.flatten_cons, List.flatten_nil, List.append_nil]
        exact List.mem_append_left _ (List.mem_cons_of_mem _ (hin c hc)))
  . intro c hc
    rcases List.mem_cons.mp hc with rfl | hc
    . rfl
    . exact w3.mu c (by
        rw [List.flatten_cons, List.flatten_nil, List.append_nil]
        exact List.mem_append_left _ (List.mem_cons_of_mem _ (hin c hc)))
theorem K1 {o : OE α} {h : Hp} {p : Addr} {xs : List V} {as : List α} {R : List XM} (q : oL o K h (.ref p) as ((p, .lst xs) :: R)) : ∃ Cs, P3 (o K h) xs as Cs /\ R = Cs.flatten:=by
  obtain ⟨p', xs', Cs, e, q, c⟩:=q
  injection c with c1 c2
  injection c1 with c3 c4
  injection c4 with c5
  subst c5
  exact ⟨Cs, q, c2⟩
theorem DH {as : List α} {i : Int} {a : α} {bs : List α} (h : QA as i a = .ok bs) : ∃ j, ixN as.length i = some j /\ bs = as.set j a:=by
  unfold QA at h; split at h
  . cases h; exact ⟨_, by assumption, rfl⟩
  . cases h
theorem CW {as : List α} {i : Int} {a : α} {x : Exc} : QA as i a ≠ .err x:=by unfold QA; split <;> exact λz=>nomatch z
theorem Jc {l r m : List XM} (h : (l ++ r).Perm m) (n : (m.map (·.1)).Nodup) : (l.map (·.1)).Nodup:=by
  have : ((l ++ r).map (·.1)).Nodup:=(h.map _).nodup_iff.mpr n
  rw [List.map_append] at this
  exact (List.nodup_append.mp this).1
theorem Gs {Cs : List (List XM)} {j : Nat} {D : List XM} (hj : j < Cs.length) : ((Cs.set j D).flatten ++ Cs[j]).Perm (Cs.flatten ++ D):=by
  have h1:=X7 (OO:=Cs) (k:=j) (C:=Cs[j]) (by simp [hj])
  have h2:=X7 (OO:=Cs.set j D) (k:=j) (C:=D) (by simp [hj])
  rw [Ud] at h2
  have h3 : (Cs.set j D).flatten.Perm (D ++ (Cs.set j []).flatten):=by simpa using h2.symm
  have h4 : Cs.flatten.Perm (Cs[j] ++ (Cs.set j []).flatten):=by simpa using h1.symm
  refine (h3.append_right _).trans (List.Perm.trans ?_ (h4.append_right _).symm)
  refine List.perm_append_comm.trans ((List.perm_append_comm.append_left _).trans ?_)
  rw [List.append_assoc]
theorem Qu {D : List XM} {Cs : List (List XM)} {H : Hp} {k : Nat} {p : Addr} {xs : List V} (w : W (D :: OO) H) (hk : OO[k]? = some ((p, .lst xs) :: Cs.flatten)) : ((Cs.flatten ++ D).map (·.1)).Nodup:=by
  have h1:=X7 hk
  have w3 : W [((p, HO.lst xs) :: (Cs.flatten ++ D)) ++ (OO.set k []).flatten] H:=w.of (by
    simp only [List.flatten_cons, List.flatten_nil, List.append_nil]
    refine List.Perm.trans ?_ ((by simpa using h1 : (((p, HO.lst xs) :: Cs.flatten) ++ (OO.set k []).flatten).Perm OO.flatten).append_left D)
    rw [← List.append_assoc]
    refine List.Perm.append_right _ ?_
    exact (List.perm_append_comm (l₁:=(p, HO.lst xs) :: Cs.flatten) (l₂:=D)))
  have nd:=w3.nd
  simp only [fl, List.flatten_cons, List.flatten_nil, List.append_nil, List.cons_append, List.map_cons] at nd
  have n2:=(List.nodup_cons.mp nd).2
  rw [List.map_append] at n2
  exact (List.nodup_append.mp n2).1
theorem GC {ta ti : TE} {o : OE α} [MonoO o] {m : Rs α} {mi : Rs Int} {f : List α -> Rs β} {v : V} {as : List α} {C : List XM} (i k : Nat) (hσ : σ[i]? = some (some v)) (hk' : OO'[k]? = some C) (h : ∀ x, S.p x -> oL o K x v as C) (he : Ev K Er S OO OO' σ ta o m)
    (hi : ∀ D, EvB K Er S (D :: OO') σ ti Xb mi)
    (hr : ∀ bs C', Sv Er (S.addO K (oL o) v bs C') (OO'.set k C') σ u Fd (f bs)) : Sv Er S OO σ (VP (Ho ta (LZ (Gr i) ti ET)) u) Fd (m.bind λa=>mi.bind λj=>(QA as j a).bind f):=λH D w s P=>
  he.st w s P λa y D' H' w' s' ho P'=>⟨v, hσ, (hi D').st w' s' P' λj z H2 s2 w2 q2 r2 P2=>by
    obtain ⟨p, xs, Cs, e, q, c⟩:=h _ q2
    subst c
    have hH : H2 p = some (.lst xs):=w2.tr (p, .lst xs) (by rw [List.flatten_cons]; exact List.mem_append_right _ (List.mem_flatten.mpr ⟨_, List.mem_of_getElem? hk', List.mem_cons_self⟩))
    cases es : QA as j a with
    | bad=>rw [es] at P2; exact P2.elim
    | err x=>exact absurd es CW
    | ok bs=>
      rw [es] at P2
      obtain ⟨jj, h1, rfl⟩:=DH es
      have hjl : jj < as.length:=by
        unfold ixN at h1
        split at h1
        . split at h1
          . cases h1; omega
          . cases h1
        . split at h1
          . cases h1; omega
          . cases h1
      have hjC : jj < Cs.length:=by rw [q.len.2]; exact hjl
      have hp:=Gs (Cs:=Cs) (j:=jj) (D:=D') hjC
      obtain ⟨w3, m3⟩:=Ly (xs':=xs.set jj y) (Cs':=Cs.set jj D') w2 hk' (λc hc=>hp.mem_iff.mp (List.mem_append_left _ hc)) (Jc hp (Qu w2 hk'))
      refine ⟨p, xs, j, jj, e, r2, hH, by rw [q.len.1]; exact h1, hr _ _ _ D w3 ⟨S.mono _ _ m3 q2, ⟨p, _, _, e, P3.imp (λ_ _ _ z=>MonoO.mono m3 z) (P3.set (MonoO.mono (Xl s2) ho) jj q), rfl⟩⟩ (PZ.tr (fd.tr D) m3 P2)⟩⟩
theorem Lh {ta : TE} {o : OE α} [MonoO o] {m : Rs (List α)} {f : List α -> Rs β} {v : V} {as : List α} {C : List XM} (i k : Nat) (hσ : σ[i]? = some (some v)) (hk : OO[k]? = some C) (hk' : OO'[k]? = some C) (h : ∀ x, S.p x -> oL o K x v as C) (he : Ev K Er S OO OO' σ ta (oL o) m)
    (hr : ∀ bs C', Sv Er (S.addO K (oL o) v (as ++ bs) C') (OO'.set k C') σ u Fd (f (as ++ bs))) : Sv Er S OO σ (VP (Dn (tBM K "list" DO (Gr i) (XG ta Z1))) u) Fd (m.bind λbs=>chk (as.length + bs.length <= sizeLine) (f (as ++ bs))):=λH D w s P=>by
  obtain ⟨p, xs, Cs, e, q, c⟩:=h _ s
  subst c
  have hH : H p = some (.lst xs):=w.tr (p, .lst xs) (List.mem_flatten.mpr ⟨_, List.mem_of_getElem? hk, List.mem_cons_self⟩)
  refine ⟨v, hσ, by rw [e]; exact .inl ⟨rfl, _, SqL.of hH⟩, he.st w s P λbs y D' H' w' s' ho P'=>?_⟩
  obtain ⟨hsz, P'⟩:=PZ.chk P'
  subst e
  obtain ⟨Cs2, q2, c2⟩:=K1 (h _ s')
  obtain ⟨p', zs, Ds, e3, q3, c3⟩:=ho
  subst c3
  have hH' : H' p = some (.lst xs):=w'.tr (p, .lst xs) (by rw [List.flatten_cons]; exact List.mem_append_right _ (List.mem_flatten.mpr ⟨_, List.mem_of_getElem? hk', List.mem_cons_self⟩))
  have hH2 : H' p' = some (.lst zs):=w'.tr (p', .lst zs) (by rw [List.flatten_cons]; exact List.mem_append_left _ List.mem_cons_self)
  have cn:=Qu w' hk'
  obtain ⟨w3, m3⟩:=Ly (xs':=xs ++ zs) (Cs':=Cs2 ++ Ds) w' hk' (λc hc=>by
      rw [List.flatten_append, List.mem_append] at hc
      rcases hc with hc | hc
      . rw [c2]; exact List.mem_append_left _ hc
      . exact List.mem_append_right _ (List.mem_cons_of_mem _ hc)) (by
      rw [List.flatten_append, ← c2]
      refine List.Nodup.sublist (List.Sublist.map _ ?_) cn
      exact List.Sublist.append (List.Sublist.refl _) (List.sublist_cons_self _ _))
  refine ⟨p, p', xs, zs, rfl, by rw [e3], hH', hH2, by rw [q2.len.1, q3.len.1]; exact hsz, ?_⟩
  exact hr bs _ _ D w3 ⟨S.mono _ _ m3 s', ⟨p, _, _, rfl, P3.imp (λ_ _ _ z=>MonoO.mono m3 z) (q2.app q3), rfl⟩⟩ (PZ.tr (fd.tr D) m3 P')
noncomputable def Bu (as : List α) (i : Int) : Rs (α × List α):=chk (-(2 ^ 63) <= i /\ i < 2 ^ 63) (match seqIndex? i as.length with
  | none=>.bad
  | some k=>match as[k]? with
    | none=>.bad
    | some a=>.ok (a, as.eraseIdx k))
theorem Hm {as : List α} {i : Int} {p : α × List α} (h : Bu as i = .ok p) : (-(2 ^ 63) <= i /\ i < 2 ^ 63) /\ ∃ k, seqIndex? i as.length = some k /\ as[k]? = some p.1 /\ p.2 = as.eraseIdx k:=by
  obtain ⟨h1, h2⟩:=ZB h
  refine ⟨h1, ?_⟩
  split at h2
  . cases h2
  . split at h2
    . cases h2
    . cases h2; exact ⟨_, by assumption, by assumption, rfl⟩
theorem HU {as : List α} {i : Int} {x : Exc} : Bu as i ≠ .err x:=by
  unfold Bu chk; split
  . split
    . exact λz=>nomatch z
    . split <;> exact λz=>nomatch z
  . exact λz=>nomatch z
theorem Paired.erase' {F : α -> γ -> Prop} : ∀ {l : List α} {m : List γ} (n : Nat), Paired F l m -> Paired F (l.eraseIdx n) (m.eraseIdx n)
  | _, _, _, .nil=>.nil
  | _, _, 0, .cons _ t=>t
  | _, _, n + 1, .cons r t=>.cons r (Paired.erase' n t)
theorem HE {te ti : TE} {r : Enc α} [MonoE r] {mi : Rs Int} {f : α × List α -> Rs β} {v : V} {as : List α} {C : List XM} {D : Ends} {H : Hp} {Q : VK} (i k : Nat) (hσ : σ[i]? = some (some v)) (hk : OO[k]? = some C) (h : ∀ x, S.p x -> oL (oF r) K x v as C) (hi : EvB K Er S OO σ ti Xb mi)
    (w : W OO H) (s : S.p (hid H OO)) (P : PZ Er (Fd D) (hid H OO) (mi.bind λj=>(Bu as j).bind f))
    (hr : ∀ a bs y C' H', W (OO.set k C') H' -> ((S.add K r y a).addO K (oL (oF r)) v bs C').p (hid H' (OO.set k C')) -> PZ Er (Fd D) (hid H' (OO.set k C')) (f (a, bs)) -> Q y H') : tBM K "list" F9 (Gr i) (XG ti Z1) σ H Q:=by
  obtain ⟨p, xs, Cs, e, q, c⟩:=h _ s
  subst c
  have hH : H p = some (.lst xs):=w.tr (p, .lst xs) (List.mem_flatten.mpr ⟨_, List.mem_of_getElem? hk, List.mem_cons_self⟩)
  refine ⟨v, hσ, by rw [e]; exact .inl ⟨rfl, _, SqL.of hH⟩, hi.st w s P λj z H' s1 w' s' ho P'=>?_⟩
  subst e
  obtain ⟨Cs2, q2, c2⟩:=K1 (h _ s')
  obtain ⟨pr, hfl⟩:=P3.flat q2
  cases es : Bu as j with
  | bad=>rw [es] at P'; exact P'.elim
  | err x=>exact absurd es HU
  | ok pp=>
    rw [es] at P'
    obtain ⟨a, bs⟩:=pp
    obtain ⟨h1, kk, h2, h3, h4⟩:=Hm es
    obtain ⟨y, hy, ry⟩:=Paired.getR pr h3
    have w0 : W ([] :: OO) H':=w'.nil
    have hk0 : OO[k]? = some ((p, .lst xs) :: ([] : List (List XM)).flatten):=by rw [hk, c2, hfl]; rfl
    obtain ⟨w3, m3⟩:=Ly (D:=[]) (Cs:=[]) (xs':=xs.eraseIdx kk) (Cs':=List.replicate bs.length []) w0 hk0 (λc hc=>by rw [Yy] at hc; cases hc) (by rw [Yy]; exact List.nodup_nil)
    rw [Y7] at m3
    refine ⟨p, xs, j, kk, y, rfl, by rw [show z = .int j from ho], s1 _ _ hH, h1.1, h1.2, by rw [Paired.len pr]; exact h2, hy, ?_⟩
    have pr2 : Paired (r K (hid H' OO)) (xs.eraseIdx kk) bs:=by rw [show bs = as.eraseIdx kk from h4]; exact Paired.erase' kk pr
    exact hr a bs y _ _ w3 ⟨⟨S.mono _ _ m3 s', MonoE.mono m3 ry⟩, ⟨p, _, _, rfl, (P3.of (Paired.imp2 (λ_ _ z=>MonoE.mono m3 z) pr2)).imp λ_ _ _ z=>z, rfl⟩⟩ (PZ.tr (fd.tr D) m3 P')
theorem BL {ti : TE} {r : Enc α} [MonoE r] {mi : Rs Int} {f : List α -> List α -> Rs β} {v v2 : V} {as zs : List α} {C C2 : List XM} (i k i2 k2 : Nat) (hne : k2 ≠ k) (hσ : σ[i]? = some (some v)) (hk : OO[k]? = some C) (h : ∀ x, S.p x -> oL (oF r) K x v as C)
    (hσ2 : σ[i2]? = some (some v2)) (hk2 : OO[k2]? = some C2) (h2 : ∀ x, S.p x -> oL (oF r) K x v2 zs C2) (hi : EvB K Er S OO σ ti Xb mi)
    (hr : ∀ a bs C' C2', Sv Er ((S.addO K (oL (oF r)) v bs C').addO K (oL (oF r)) v2 (zs ++ [a]) C2') ((OO.set k C').set k2 C2') σ u Fd (f bs (zs ++ [a]))) :
    Sv Er S OO σ (VP (Dn (tBM K "list" KI (Gr i2) (XG (tBM K "list" F9 (Gr i) (XG ti Z1)) Z1))) u) Fd (mi.bind λj=>(Bu as j).bind λp=>chk (zs.length < sizeLine) (f p.2 (zs ++ [p.1]))):=λH D w s P=>by
  obtain ⟨p2, xs2, Cs2, e2, q2, c2⟩:=h2 _ s
  subst c2
  have hH2 : H p2 = some (.lst xs2):=w.tr (p2, .lst xs2) (List.mem_flatten.mpr ⟨_, List.mem_of_getElem? hk2, List.mem_cons_self⟩)
  refine ⟨v2, hσ2, by rw [e2]; exact .inl ⟨rfl, _, SqL.of hH2⟩, HE (te:=ti) i k hσ hk h hi w s P λa bs y C' H' w' s' P'=>?_⟩
  obtain ⟨hsz, P'⟩:=PZ.chk P'
  subst e2
  obtain ⟨Cs3, q3, c3⟩:=K1 (h2 _ s'.1.1)
  obtain ⟨pr, hfl⟩:=P3.flat q3
  have hkk : (OO.set k C')[k2]? = some ((p2, HO.lst xs2) :: ([] : List (List XM)).flatten):=by
    rw [List.getElem?_set_ne (λe=>hne e.symm), hk2, c3, hfl]; rfl
  have hH3 : H' p2 = some (.lst xs2):=w'.tr (p2, .lst xs2) (List.mem_flatten.mpr ⟨_, List.mem_of_getElem? hkk, List.mem_cons_self⟩)
  obtain ⟨w3, m3⟩:=Ly (D:=[]) (Cs:=[]) (xs':=xs2 ++ [y]) (Cs':=List.replicate (zs ++ [a]).length []) w'.nil hkk (λc hc=>by rw [Yy] at hc; cases hc) (by rw [Yy]; exact List.nodup_nil)
  rw [Y7] at m3
  refine ⟨p2, xs2, y, rfl, rfl, hH3, by rw [Paired.len pr]; exact hsz, ?_⟩
  refine hr a bs C' _ _ D w3 ⟨⟨S.mono _ _ m3 s'.1.1, (SC.oneO K (oL (oF r)) v bs C').mono _ _ m3 s'.2⟩, ⟨p2, _, _, rfl, (P3.of (Paired.app (Paired.imp2 (λ_ _ z=>MonoE.mono m3 z) pr) (.cons (MonoE.mono m3 (show r K _ y a from s'.1.2)) .nil))).imp λ_ _ _ z=>z, rfl⟩⟩ (PZ.tr (fd.tr D) m3 P')
theorem F5 {ta tb : TE} {r : Enc α} {q : Enc γ} [z : MonoE r] [MonoE q] {ma : Rs α} {mb : Rs γ} {f : α -> γ -> Rs β} (i j : Nat) (ha : EvS K Er S OO σ ta r ma) (hb : EvS K Er S OO σ tb q mb)
    (hr : ∀ a b v w, Sv Er ((S.add K r v a).add K q w b) OO ((σ.set i (some v)).set j (some w)) u Fd (f a b)) : Sv Er S OO σ (VP (Ms i j (XG ta (XG tb Z1))) u) Fd (ma.bind λa=>mb.bind λb=>f a b):=λH D w s P=>
  ha.st w s P λa x H1 s1 w1 q1 r1 P1=>hb.st w1 q1 P1 λb y H2 s2 w2 q2 r2 P2=>⟨x, y, rfl, hr a b x y H2 D w2 ⟨⟨q2, z.mono (Xl s2) r1⟩, r2⟩ P2⟩
theorem CG {ta tb : TE} {ma mb : Rs Int} (ha : EvB K Er S OO σ ta Xb ma) (hb : EvB K Er S OO σ tb Xb mb) : EvB K Er S OO σ (tCB (λxs H Q=>∃ i j : Int, xs = [.int i, .int j] /\ Q (.int (if j < i then j else i)) H) (XG ta (XG tb Z1))) Xb (ma.bind λa=>mb.bind λb=>.ok (min a b)):=λH Q w s P=>
  ha.run w s FB.tr P λa x H1 s1 w1 q1 r1 P1=>hb.run w1 q1 FB.tr P1 λb y H2 s2 w2 q2 r2 P2=>⟨a, b, by rw [show x = .int a from r1, show y = .int b from r2], P2 _ H2 (Xx.refl _) (by show V.int _ = V.int _; congr 1; omega)⟩
theorem FV {ta : TE} {ma : Rs Int} (ha : EvB K Er S OO σ ta Xb ma) : EvB K Er S OO σ (tCB (λxs H Q=>∃ i : Int, xs = [.int i] /\ Q (.int (if i < 0 then -i else i)) H) (XG ta Z1)) Xb (ma.bind λa=>.ok (a.natAbs : Int)):=λH Q w s P=>
  ha.run w s FB.tr P λa x H1 s1 w1 q1 r1 P1=>⟨a, by rw [show x = .int a from r1], P1 _ H1 (Xx.refl _) (by show V.int _ = V.int _; congr 1; omega)⟩
end
section
variable {K : PySem.W.Frag} {Er : Exc -> Hp -> Prop} {S : SC} {OO OO' OO1 OO2 : List (List XM)} {σ : St} {α β γ ρ ι δ ε : Type}
variable {Fd : Ends -> β -> Hp -> Prop} [fd : FdOk Fd] {u : TS}
theorem La (n : Nat) (H : Hp) : W (List.replicate n []) H:=⟨λc hc=>(by rw [Yy] at hc; cases hc), (by unfold fl; rw [Yy]; exact List.nodup_nil), λc hc=>(by rw [Yy] at hc; cases hc)⟩
theorem BB (n : Nat) (H : Hp) : hid H (List.replicate n []) = H:=by funext b; unfold hid fl; rw [Yy]; simp
theorem Li {o : OE ρ} [z : MonoO o] {Q : VK} {b : ρ} {H : Hp} (q : FF K o Q b H) : ∀ v C OO' H', W (C :: OO') H' -> Xx H (hid H' (C :: OO')) -> o K (hid H' (C :: OO')) v b C -> Q v H':=λv C OO' H' w m ho=>by
  have hs : Xx (hid H' (C :: OO')) (hid H' [C]):=Jg (Xx.refl _) λb hb=>by
    rw [Ya]
    refine List.mem_append_left _ ?_
    simpa [fl] using hb
  exact q v C H' (w.sub (by simp)) (m.trans hs) (z.mono hs ho)
theorem YL {o : OE ρ} [MonoO o] {t : TS} {m : Rs ρ} {Q : VK} {b : ρ} {H : Hp} {D : Ends} (n : Nat) (h : Sv (λ_ _=>False) S (List.replicate n []) σ t (FTd K o) m) (hs : S.p H) (hm : m = .ok b) (q : FF K o Q b H) (hD : D.rt = Q) : t D σ H:=by
  refine h H D (La n H) (by rw [BB]; exact hs) ?_
  subst hm
  rw [BB]
  intro v C OO' H' w mm ho
  rw [hD]
  exact Li q v C OO' H' w mm ho
noncomputable def oU : OE Unit:=λ_ _ v _ C=>v = .non /\ C = []
instance : MonoO oU:=⟨λ_ h=>h⟩
instance : FlatO oU:=⟨λ_ h=>h⟩
noncomputable def rU0 : Enc Unit:=λ_ _ v _=>v = .non
instance : FlatE rU0:=⟨λ_ h=>h⟩
instance : FrzC oU rU0:=⟨λh _ _=>h.1⟩
theorem LM {J : Jn Unit ι} {t : TS} {m : Rs Unit} {Q : VK} {b : Unit} {H : Hp} {D : Ends} (n : Nat) (h : Sv (λ_ _=>False) S (List.replicate n []) σ t (FNd J) m) (hs : S.p H) (hm : m = .ok b) (q : FF K oU Q b H) (hD : ∀ σ H, D.nx σ H = Q .non H) : t D σ H:=by
  refine h H D (La n H) (by rw [BB]; exact hs) ?_
  subst hm
  rw [BB]
  intro x H' w mm ho
  rw [hD]
  have hs : Xx (hid H' (J.oo x)) (hid H' [[]]):=Jg (Xx.refl _) λb hb=>by simp [fl] at hb
  exact q .non [] H' ⟨λc hc=>by simp at hc, by simp [fl], λc hc=>by simp at hc⟩ (mm.trans hs) ⟨rfl, rfl⟩
theorem Hb {t : TS} {m : Rs β} (k : Nat) (hr : Sv Er S (OO.set k []) σ t Fd m) : Sv Er S OO σ t Fd m:=λH D w s P=>by
  cases hk : OO[k]? with
  | none=>
    rw [List.set_eq_of_length_le (List.getElem?_eq_none_iff.mp hk)] at hr
    exact hr H D w s P
  | some C=>
    have hp:=X7 hk
    have w1 : W (C :: OO.set k []) H:=w.of hp
    have hs : Xx (hid H OO) (hid H (OO.set k [])):=by
      rw [← Yv hp]
      exact Jg (Xx.refl _) λb hb=>by rw [Ya]; simp [hb]
    exact hr H D w1.tail (S.mono _ _ hs s) (PZ.tr (fd.tr D) hs P)
theorem F1 {te : TE} {r : Enc α} {m : Rs α} {f : Rs β} (he : EvB K Er S OO σ te r m) (hr : Sv Er S OO σ u Fd f) : Sv Er S OO σ (VP (Dn te) u) Fd (m.bind λ_=>f):=λH D w s P=>
  he.st w s P λa v H' s1 w' s' ho P'=>hr H' D w' s' P'
noncomputable def FAO {α : Type} (K : PySem.W.Frag) (OO OO' : List (List XM)) (o : OE α) (Q : List V -> Hp -> Prop) (as : List α) (H : Hp) : Prop:=∀ vs Cs H', Xx H H' -> W (Cs.flatten :: OO') H' -> Xx (hid H OO) (hid H' (Cs.flatten :: OO')) -> P3 (o K (hid H' (Cs.flatten :: OO'))) vs as Cs -> Q vs H'
noncomputable def Lz {α : Type} (K : PySem.W.Frag) (Er : Exc -> Hp -> Prop) (S : SC) (OO OO' : List (List XM)) (σ : St) (t : TA) (o : OE α) (m : Rs (List α)) : Prop:=∀ H Q, W OO H -> S.p (hid H OO) -> PZ Er (FAO K OO OO' o Q) H m -> t σ H Q
theorem BM {o : OE α} : Lz K Er S OO OO σ Z1 o (.ok []):=λH Q w s P=>P [] [] H (Xx.refl _) w.nil (by show Xx _ (hid H ([] :: OO)); rw [Y7]; exact Xx.refl _) .nil
theorem QX {te : TE} {t : TA} {o : OE α} [z : MonoO o] {m : Rs α} {n : Rs (List α)} (he : Ev K Er S OO OO1 σ te o m) (ht : ∀ C, Lz K Er S (C :: OO1) (C :: OO2) σ t o n) : Lz K Er S OO OO2 σ (XG te t) o (m.bind λa=>n.bind λas=>.ok (a :: as)):=λH Q w s P=>by
  refine he H _ w s ?_
  cases em : m with
  | bad=>rw [em] at P; exact P
  | err x=>rw [em] at P; exact P
  | ok a=>
    rw [em] at P
    intro v C H1 s1 w1 m1 ho
    refine ht C H1 _ w1 (S.mono _ _ m1 s) ?_
    have P1 : PZ Er (FAO K OO OO2 o Q) H (n.bind λas=>.ok (a :: as)):=P
    cases en : n with
    | bad=>rw [en] at P1; exact P1
    | err x=>rw [en] at P1; exact λH2 s2=>P1 H2 (s1.trans s2)
    | ok as=>
      rw [en] at P1
      have P1 : FAO K OO OO2 o Q (a :: as) H:=P1
      intro vs Cs H2 s2 w2 m2 pr
      have pe : ((C :: Cs).flatten :: OO2).flatten.Perm (Cs.flatten :: C :: OO2).flatten:=by
        simp only [List.flatten_cons]
        rw [← List.append_assoc]
        exact List.perm_append_comm.append_right _
      refine P1 (v :: vs) (C :: Cs) H2 (s1.trans s2) (w2.of pe) ?_ ?_
      . rw [Yv pe]; exact m1.trans m2
      . rw [Yv pe]; exact .cons (z.mono m2 ho) pr
theorem EM {t : TA} {o : OE α} [z : MonoO o] {m : Rs (List α)} (h : Lz K Er S OO OO σ t o m) : Ev K Er S OO OO σ (BE t) (oL o) (m.bind λas=>chk (as.length <= sizeLine) (.ok as)):=λH Q w s P=>by
  refine h H _ w s ?_
  cases e : m with
  | bad=>rw [e] at P; exact P
  | err x=>rw [e] at P; exact P
  | ok as=>
    rw [e] at P
    obtain ⟨hsz, P⟩:=PZ.chk (show PZ Er _ H (chk (as.length <= sizeLine) (.ok as)) from P)
    intro vs Cs H1 s1 w1 m1 p
    exact ⟨by rw [p.len.1]; exact hsz, Hd w1 m1 s1 p P⟩
class InE {α : Type} [DecidableEq α] (r : Enc α) : Prop where
  fl : ∀ {K : PySem.W.Frag} {H : Hp} {x : V} {a : α}, r K H x a -> Q9 x = true
  eq : ∀ {K : PySem.W.Frag} {H H' : Hp} {x y : V} {a b : α}, r K H x a -> r K H' y b -> eqV x y = decide (a = b)
instance : InE Xb:=⟨fun {K H x a} h=>by cases (show x = .int a from h); rfl, fun {K H H' x y a b} h h'=>by
  cases (show x = .int a from h); cases (show y = .int b from h'); show (a == b) = _; rw [BF]⟩
theorem Qa [DecidableEq α] {r : Enc α} [z : InE r] {H H' : Hp} {x : V} {a : α} (hx : r K H x a) : ∀ {xs : List V} {as : List α}, Paired (r K H') xs as -> xs.all Q9 = true /\ inV x xs = decide (a ∈ as)
  | _, _, .nil=>⟨rfl, by simp [inV]⟩
  | _, _, .cons h t=>by
    obtain ⟨h1, h2⟩:=Qa hx t
    refine ⟨by rw [List.all_cons, h1, z.fl h]; rfl, ?_⟩
    unfold inV at h2 ⊢
    rw [List.any_cons, h2, z.eq h hx, Bool.eq_iff_iff, Bool.or_eq_true, decide_eq_true_eq, decide_eq_true_eq, decide_eq_true_eq, List.mem_cons]
    exact or_congr ⟨Eq.symm, Eq.symm⟩ Iff.rfl
theorem Lm [DecidableEq α] {ta tb : TE} {r : Enc α} [z : InE r] {ma : Rs α} {mb : Rs (List α)} (ha : EvB K Er S OO σ ta r ma) (hb : EvB K Er S OO σ tb (rV r) mb) : EvB K Er S OO σ (tOp (rIn K false) ta tb) Yw (ma.bind λa=>mb.bind λas=>.ok (decide (a ∈ as))):=λH Q w s P=>
  ha.run w s FB.tr P λa x H1 s1 w1 q1 r1 P1=>hb.run w1 q1 FB.tr P1 λb y H2 s2 w2 q2 ⟨p, xs, e, q, pr⟩ P2=>by
    obtain ⟨h1, h2⟩:=Qa r1 pr
    exact ⟨p, xs, e, .inl (SqL.of q), z.fl r1, h1, P2 _ H2 (Xx.refl _) (by rw [h2]; rfl)⟩
theorem HB [DecidableEq α] {ta tb : TE} {r : Enc α} [z : InE r] {ma : Rs α} {mb : Rs (List α)} (ha : EvB K Er S OO σ ta r ma) (hb : EvB K Er S OO σ tb (rPL r) mb) : EvB K Er S OO σ (tOp (rIn K false) ta tb) Yw (ma.bind λa=>mb.bind λas=>.ok (decide (a ∈ as))):=λH Q w s P=>
  ha.run w s FB.tr P λa x H1 s1 w1 q1 r1 P1=>hb.run w1 q1 FB.tr P1 λb y H2 s2 w2 q2 ⟨p, xs, e, q, pr⟩ P2=>by
    obtain ⟨h1, h2⟩:=Qa r1 pr
    exact ⟨p, xs, e, .inr (SqT.of q), z.fl r1, h1, P2 _ H2 (Xx.refl _) (by rw [h2]; rfl)⟩
noncomputable def Bw [DecidableEq α] (as : List α) (a : α) : Rs Int:=match as.findIdx? (λb=>decide (b = a)) with
  | some j=>.ok (j : Int)
  | none=>.bad
theorem V4 [DecidableEq α] {r : Enc α} [z : InE r] {H H' : Hp} {x : V} {a : α} (hx : r K H x a) {xs : List V} {as : List α} (p : Paired (r K H') xs as) {j : Nat} (hj : as.findIdx? (λb=>decide (b = a)) = some j) :
    (∃ y, xs[j]? = some y /\ eqV y x = true) /\ ∀ (m : Nat) y, m < j -> xs[m]? = some y -> eqV y x = false:=by
  rw [List.findIdx?_eq_some_iff_getElem] at hj
  obtain ⟨h1, h2, h3⟩:=hj
  constructor
  . obtain ⟨y, hy, ry⟩ := Paired.getR p (i := j) (b := as[j]) (by simp [h1])
    exact ⟨y, hy, by rw [z.eq ry hx]; exact h2⟩
  . intro m y hm hy
    obtain ⟨b, hb, rb⟩:=Paired.getL p hy
    have hml : m < as.length:=by omega
    have e : b = as[m]:=by rw [List.getElem?_eq_getElem hml] at hb; exact (Option.some.inj hb).symm
    rw [z.eq rb hx, e]
    have:=h3 m hm
    simpa using this
theorem DQ [DecidableEq α] {as : List α} {a : α} {x : Exc} : Bw as a ≠ .err x:=by unfold Bw; split <;> exact λz=>nomatch z
theorem Cm [DecidableEq α] {as : List α} {a : α} {n : Int} (h : Bw as a = .ok n) : ∃ j : Nat, as.findIdx? (λb=>decide (b = a)) = some j /\ n = j:=by
  unfold Bw at h; split at h
  . cases h; exact ⟨_, by assumption, rfl⟩
  . cases h
theorem DE [DecidableEq α] {ta tb : TE} {r : Enc α} [z : InE r] [y : MonoE r] {ma : Rs (List α)} {mb : Rs α} (ha : EvB K Er S OO σ ta (rV r) ma) (hb : EvB K Er S OO σ tb r mb) : EvB K Er S OO σ (tBM K "list" (Ba K) ta (XG tb Z1)) Xb (ma.bind λas=>mb.bind λa=>Bw as a):=λH Q w s P=>
  ha.run w s FB.tr P λas x H1 s1 w1 q1 ⟨p, xs, e, q, pr⟩ P1=>⟨by rw [e]; exact .inl ⟨rfl, _, SqL.of q⟩, hb.run w1 q1 FB.tr P1 λb v H2 s2 w2 q2 r2 P2=>by
    obtain ⟨c, hc, P3⟩:=P2.okOf λx=>DQ
    obtain ⟨j, hj, rfl⟩:=Cm hc
    have pr2:=Paired.imp2 (G:=r K H2) (λ_ _ h=>y.mono s2 h) pr
    obtain ⟨h1, h2⟩:=V4 r2 pr2 hj
    exact ⟨p, xs, v, j, e, rfl, SqL.of (s2 _ _ q), z.fl r2, (Qa r2 pr2).1, h1, h2, P3 _ H2 (Xx.refl _) rfl⟩⟩
theorem Ce {ta tb : TE} {r : Enc α} {m : Rs (Option α)} (ha : EvB K Er S OO σ ta (Zu r) m) : EvB K Er S OO σ (tOp (λx y H Q=>y = .non /\ Q (.bl (decide (x = .non))) H) ta (tC .non)) Yw (m.bind λa=>.ok a.isNone):=λH Q w s P=>
  ha.run w s FB.tr P λa x H1 s1 w1 q1 r1 P1=>⟨rfl, P1 _ H1 (Xx.refl _) (by
    cases a with
    | none=>rw [show x = .non from r1]; rfl
    | some a=>show V.bl _ = V.bl _; rw [decide_eq_false r1.1]; rfl)⟩
theorem JI {ta tb : TE} {r : Enc α} {m : Rs (Option α)} (ha : EvB K Er S OO σ ta (Zu r) m) : EvB K Er S OO σ (tOp (λx y H Q=>y = .non /\ Q (.bl (!decide (x = .non))) H) ta (tC .non)) Yw (m.bind λa=>.ok a.isSome):=λH Q w s P=>
  ha.run w s FB.tr P λa x H1 s1 w1 q1 r1 P1=>⟨rfl, P1 _ H1 (Xx.refl _) (by
    cases a with
    | none=>rw [show x = .non from r1]; rfl
    | some a=>show V.bl _ = V.bl _; rw [decide_eq_false r1.1]; rfl)⟩
theorem HS {α : Type} [DecidableEq α] {r r' : Enc α} {d : Nat} (E : EqOk r d) (h : ∀ {K : PySem.W.Frag} {H : Hp} {v : V} {a : α}, r' K H v a -> r K H v a) (m : MonoE r') : EqOk r' d where
  uniq:=λI h1 h2=>E.uniq I (h h1) (h h2)
  eq:=λI rx ry h1 h2 hu=>E.eq I rx ry (h h1) (h h2) hu
  rc:=λI rx ry h1 h2 hu=>E.rc I rx ry (h h1) (h h2) hu
  ne:=λI rx ry h1 h2 hu=>E.ne I rx ry (h h1) (h h2) hu
  keep:=λs q=>m.mono s q
theorem Cq {α : Type} [DecidableEq α] {r : Enc α} {d : Nat} [m : MonoE r] (E : EqOk r d) : EqOk (rV r) (d + 1):=HS (Hx E) (λr9=>by obtain ⟨a, xs, e, q, p⟩:=r9; exact ⟨a, xs, e, SqL.of q, p⟩) inferInstance
end
section
variable {K : PySem.W.Frag} {Er : Exc -> Hp -> Prop} {S : SC} {OO OO' OO1 OO2 : List (List XM)} {σ : St} {α β γ ρ ι δ ε : Type}
variable {Fd : Ends -> β -> Hp -> Prop} [fd : FdOk Fd] {u : TS}
theorem B0 {ta tb : TE} {o : OE α} {q : OE β} [z : MonoO o] [y : MonoO q] {ma : Rs α} {mb : Rs β} (ha : Ev K Er S OO OO1 σ ta o ma) (hb : ∀ C, Ev K Er S (C :: OO1) (C :: OO2) σ tb q mb) : Ev K Er S OO OO2 σ (IK (XG ta (XG tb Z1))) (oT2 o q) (ma.bind λa=>mb.bind λb=>.ok (a, b)):=λH Q w s P=>by
  refine ha H _ w s ?_
  cases em : ma with
  | bad=>rw [em] at P; exact P
  | err x=>rw [em] at P; exact P
  | ok a=>
    rw [em] at P
    intro v C H1 s1 w1 m1 ho
    refine hb C H1 _ w1 (S.mono _ _ m1 s) ?_
    have P1 : PZ Er (FO K OO OO2 (oT2 o q) Q) H (mb.bind λb=>.ok (a, b)):=P
    cases en : mb with
    | bad=>rw [en] at P1; exact P1
    | err x=>rw [en] at P1; exact λH2 s2=>P1 H2 (s1.trans s2)
    | ok b=>
      rw [en] at P1
      have P1 : FO K OO OO2 (oT2 o q) Q (a, b) H:=P1
      intro v2 C2 H2 s2 w2 m2 ho2
      refine ⟨by show 2 <= sizeLine; decide, λp hp=>?_⟩
      have pe : ((C ++ C2) :: OO2).flatten.Perm (C2 :: C :: OO2).flatten:=by
        simp only [List.flatten_cons]
        rw [← List.append_assoc]
        exact List.perm_append_comm.append_right _
      have s3 : Xx H2 (upd H2 p (.tup [v, v2])):=XT hp _
      have w3:=(w2.keep s3).of pe
      have m3 : Xx (hid H2 (C2 :: C :: OO2)) (hid (upd H2 p (.tup [v, v2])) ((C ++ C2) :: OO2)):=by rw [Yv pe]; exact Xl s3
      refine P1 (.ref p) (C ++ C2) _ (s1.trans (s2.trans s3)) w3 (m1.trans (m2.trans m3)) ⟨p, v, v2, C, C2, rfl, ?_, z.mono (m2.trans m3) ho, y.mono m3 ho2, rfl⟩
      rw [Yv pe]
      exact QK w2 hp
theorem I9 {c : TT} {t1 : TS} {mc : Rs Bool} {m2 : Rs β} (hc : EvT Er S OO σ c mc) (h2 : Sv Er S OO σ u Fd m2) : Sv Er S OO σ (VP (Lj c t1 Cp) u) Fd (mc.bind λb=>if b = true then .bad else m2):=λH D w s P=>
  hc.st w s P λb H' w' s' P'=>by
    cases b with
    | true=>rw [if_pos rfl] at P'; exact P'.elim
    | false=>exact h2 H' D w' s' P'
theorem KD : ∀ {l : List XM} {a b : XM}, (l.map (·.1)).Nodup -> a ∈ l -> b ∈ l -> a.1 = b.1 -> a = b
  | [], _, _, _, h, _, _=>by cases h
  | c :: l, a, b, n, ha, hb, e=>by
    rw [List.map_cons, List.nodup_cons] at n
    cases ha with
    | head=>cases hb with
      | head=>rfl
      | tail _ hb=>exact absurd (List.mem_map.mpr ⟨b, hb, e.symm⟩) n.1
    | tail _ ha=>cases hb with
      | head=>exact absurd (List.mem_map.mpr ⟨a, ha, e⟩) n.1
      | tail _ hb=>exact KD n.2 ha hb e
theorem Gq {Cs : List (List XM)} {k : Nat} {C : List XM} (h : Cs[k]? = some C) : ∀ c ∈ C, c ∈ Cs.flatten:=λc hc=>List.mem_flatten.mpr ⟨C, List.mem_of_getElem? h, hc⟩
theorem Ld {as : List α} {i : Int} {a : α} (h : atR as i = .ok a) : ∃ k, ixN as.length i = some k /\ as[k]? = some a:=by
  have:=GD h
  unfold atI at this
  cases e : ixN as.length i with
  | none=>rw [e] at this; cases this
  | some k=>rw [e] at this; exact ⟨k, rfl, this⟩
theorem EW {r : Enc α} [z : MonoE r] {v : V} {as : List (List α)} {row row' : List α} {H : Hp} {p q : Addr} {xs ys ys' : List V} {Cs : List (List XM)} {k kk : Nat} (w : W OO H) (hk : OO[k]? = some ((p, .lst xs) :: Cs.flatten)) (hP : P3 (oL (oF r) K (hid H OO)) xs as Cs) (hrow : as[kk]? = some row)
    (hx : xs[kk]? = some (.ref q)) (hq : H q = some (.lst ys)) (hcs : Cs[kk]? = some [(q, .lst ys)]) (pr : Paired (r K (hid H OO)) ys' row') :
    ∃ C', W (OO.set k C') (upd H q (.lst ys')) /\ Xx (hid H OO) (hid (upd H q (.lst ys')) (OO.set k C')) /\ oL (oL (oF r)) K (hid (upd H q (.lst ys')) (OO.set k C')) (.ref p) (as.set kk row') C':=by
  have hkl : kk < Cs.length:=by
    rcases Nat.lt_or_ge kk Cs.length with h | h
    . exact h
    . rw [List.getElem?_eq_none h] at hcs; cases hcs
  have hin : ∀ c ∈ (p, HO.lst xs) :: Cs.flatten, c ∈ OO.flatten:=λc hc=>List.mem_flatten.mpr ⟨_, List.mem_of_getElem? hk, hc⟩
  have w0 : W ([] :: OO) H:=w.nil
  have cn0:=Qu w0 hk
  rw [List.append_nil] at cn0
  have e0 : Cs[kk] = [(q, .lst ys)]:=by
    rw [List.getElem?_eq_getElem hkl] at hcs; exact Option.some.inj hcs
  have hp:=Gs (Cs:=Cs) (j:=kk) (D:=[(q, HO.lst ys')]) hkl
  rw [e0] at hp
  have hpm : ((Cs.set kk [(q, HO.lst ys')]).flatten.map (·.1)).Perm (Cs.flatten.map (·.1)):=by
    have:=hp.map (·.1)
    simp only [List.map_append, List.map_cons, List.map_nil] at this
    exact (List.perm_append_right_iff _).mp this
  have hpne : p ∉ Cs.flatten.map (·.1):=by
    have h1:=X7 hk
    have:=(w.of (OO':=((p, HO.lst xs) :: Cs.flatten) :: OO.set k []) h1).nd
    rw [Ya, List.map_cons, List.cons_append, List.nodup_cons] at this
    exact λz=>this.1 (List.mem_append_left _ z)
  have hqC : q ∈ Cs.flatten.map (·.1):=List.mem_map.mpr ⟨(q, .lst ys), Gq hcs _ (by simp), rfl⟩
  have hpq : p ≠ q:=λe=>hpne (e ▸ hqC)
  have hcells : ∀ c ∈ (p, HO.lst xs) :: (Cs.set kk [(q, HO.lst ys')]).flatten, upd H q (.lst ys') c.1 = some c.2 /\ H9 c.2 = true:=λc hc=>by
    rcases List.mem_cons.mp hc with rfl | hc
    . rw [Xw hpq]; exact ⟨w.tr _ (hin _ List.mem_cons_self), rfl⟩
    . obtain ⟨D, hD, hcD⟩ := List.mem_flatten.mp hc
      rcases List.mem_or_eq_of_mem_set hD with hD | hD
      . by_cases hcq : c.1 = q
        . -- a cell at q in another place: then it is this one
          have hc2 : c ∈ (Cs.set kk [(q, HO.lst ys')]).flatten:=hc
          have n1 : ((Cs.set kk [(q, HO.lst ys')]).flatten.map (·.1)).Nodup:=hpm.nodup_iff.mpr cn0
          have hm : (q, HO.lst ys') ∈ (Cs.set kk [(q, HO.lst ys')]).flatten:=List.mem_flatten.mpr ⟨[(q, .lst ys')], List.mem_set (by simpa using hkl) _, by simp⟩
          have e1 : c = (q, HO.lst ys'):=by
            have:=KD n1 hc2 hm hcq
            exact this
          rw [e1]; exact ⟨X8, rfl⟩
        . rw [Xw hcq]
          have : c ∈ OO.flatten:=hin c (List.mem_cons_of_mem _ (List.mem_flatten.mpr ⟨D, hD, hcD⟩))
          exact ⟨w.tr c this, w.mu c this⟩
      . rw [hD] at hcD
        have e1 : c = (q, HO.lst ys'):=by simpa using hcD
        rw [e1]; exact ⟨X8, rfl⟩
  have hq' : q ∈ (Cs.set kk [(q, HO.lst ys')]).flatten.map (·.1):=hpm.mem_iff.mpr hqC
  obtain ⟨w2, m2⟩:=HL (C':=(p, .lst xs) :: (Cs.set kk [(q, HO.lst ys')]).flatten) (p:=q) (o:=.lst ys') w0 hk (List.mem_cons_of_mem _ hqC) (List.mem_cons_of_mem _ hq') (by
      rw [List.map_cons, List.nodup_cons]
      exact ⟨λz=>hpne (hpm.mem_iff.mp z), hpm.nodup_iff.mpr cn0⟩) (λb hb=>by
      rw [List.append_nil]
      rcases List.mem_cons.mp hb with rfl | hb
      . exact List.mem_cons_self
      . exact List.mem_cons_of_mem _ (hpm.mem_iff.mp hb)) (λc hc=>(hcells c hc).1) λc hc=>(hcells c hc).2
  rw [Y7] at m2
  have e3 : xs.set kk (.ref q) = xs:=by
    apply List.ext_getElem?
    intro n
    by_cases hn : n = kk
    . subst hn
      rw [hx, List.getElem?_set_self (by
        rcases Nat.lt_or_ge n xs.length with h | h
        . exact h
        . rw [List.getElem?_eq_none h] at hx; cases hx)]
    . rw [List.getElem?_set_ne (λe=>hn e.symm)]
  refine ⟨_, w2, m2, ⟨p, xs, Cs.set kk [(q, HO.lst ys')], rfl, ?_, rfl⟩⟩
  have:=P3.set (F:=oL (oF r) K (hid (upd H q (.lst ys')) (OO.set k ((p, .lst xs) :: (Cs.set kk [(q, HO.lst ys')]).flatten)))) (a:=V.ref q) (b:=row') (c:=[(q, HO.lst ys')])
    ⟨q, ys', List.replicate row'.length [], rfl, (P3.of (Paired.imp2 (λ_ _ h=>z.mono m2 h) pr)).imp λ_ _ _ h=>h, by rw [Yy]⟩ kk (P3.imp (λ_ _ _ h=>MonoO.mono m2 h) hP)
  rw [e3] at this
  exact this
theorem Hw {r : Enc α} {h : Hp} {as : List (List α)} {xs : List V} {Cs : List (List XM)} {kk : Nat} {row : List α} (q : P3 (oL (oF r) K h) xs as Cs) (hrow : as[kk]? = some row) : ∃ q0 ys, xs[kk]? = some (.ref q0) /\ Cs[kk]? = some [(q0, .lst ys)] /\ Paired (r K h) ys row:=by
  obtain ⟨x, c, h1, h2, p, ys, Ds, e, h3, h4⟩:=q.get hrow
  obtain ⟨h5, h6⟩:=P3.flat h3
  rw [h6] at h4
  exact ⟨p, ys, by rw [h1, e], by rw [h2, h4], h5⟩
theorem VY {F : V -> α -> Prop} {y : V} {a : α} (r : F y a) : ∀ {l : List V} {m : List α} (i : Nat), Paired F l m -> Paired F (l.set i y) (m.set i a)
  | _, _, _, .nil=>.nil
  | _, _, 0, .cons _ t=>.cons r t
  | _, _, i + 1, .cons q t=>.cons q (VY r i t)
theorem Kl {ta ti tj : TE} {r : Enc α} [z : MonoE r] {m : Rs α} {mi mj : Rs Int} {f : List (List α) -> Rs β} {v : V} {as : List (List α)} {C : List XM} (i k : Nat) (hσ : σ[i]? = some (some v)) (hk : OO[k]? = some C) (h : ∀ x, S.p x -> oL (oL (oF r)) K x v as C) (he : EvS K Er S OO σ ta r m)
    (hi : EvB K Er S OO σ ti Xb mi) (hj : EvB K Er S OO σ tj Xb mj)
    (hr : ∀ bs C', Sv Er (S.addO K (oL (oL (oF r))) v bs C') (OO.set k C') σ u Fd (f bs)) :
    Sv Er S OO σ (VP (Ho ta (LZ (tOp (Ii K) (Gr i) ti) tj ET)) u) Fd (m.bind λa=>mi.bind λx=>(atR as x).bind λrow=>mj.bind λy=>(QA row y a).bind λrow'=>(QA as x row').bind f):=λH D w s P=>
  he.st w s P λa va H1 s1 w1 q1 r1 P1=>⟨v, hσ, hi.st w1 q1 P1 λx vx H2 s2 w2 q2 r2 P2=>by
    cases ea : atR as x with
    | bad=>rw [ea] at P2; exact P2.elim
    | err ex=>exact absurd ea GO
    | ok row=>
      rw [ea] at P2
      obtain ⟨kk, hkk, hrow⟩:=Ld ea
      obtain ⟨p, xs, Cs, e, q, c⟩:=h _ q2
      subst c e
      obtain ⟨q0, ys, g1, g2, g3⟩:=Hw q hrow
      have hin : ∀ c ∈ (p, HO.lst xs) :: Cs.flatten, c ∈ OO.flatten:=λc hc=>List.mem_flatten.mpr ⟨_, List.mem_of_getElem? hk, hc⟩
      have hH : H2 p = some (.lst xs):=w2.tr (p, .lst xs) (hin _ List.mem_cons_self)
      have hq0 : H2 q0 = some (.lst ys):=w2.tr (q0, .lst ys) (hin _ (List.mem_cons_of_mem _ (Gq g2 _ (by simp))))
      refine ⟨p, xs, x, .ref q0, rfl, r2, SqL.of hH, by unfold atI; rw [q.len.1, hkk]; exact g1, hj.st w2 q2 (f:=λy=>(QA row y a).bind λrow'=>(QA as x row').bind f) P2 λy vy H3 s3 w3 q3 r3 P3'=>?_⟩
      cases eb : QA row y a with
      | bad=>rw [eb] at P3'; exact P3'.elim
      | err ex=>exact absurd eb CW
      | ok row'=>
        rw [eb] at P3'
        obtain ⟨jj, hjj, rfl⟩:=DH eb
        have P4 : PZ Er (Fd D) (hid H3 OO) (f (as.set kk (row.set jj a))):=by
          have e5 : QA as x (row.set jj a) = .ok (as.set kk (row.set jj a)):=by unfold QA; rw [hkk]
          have : PZ Er (Fd D) (hid H3 OO) ((QA as x (row.set jj a)).bind f):=P3'
          rw [e5] at this
          exact this
        have m3:=Xl (OO:=OO) s3
        obtain ⟨C', w4, m4, o4⟩:=EW (ys':=ys.set jj va) (row':=row.set jj a) (v:=.ref p) w3 hk (P3.imp (λ_ _ _ h=>MonoO.mono m3 h) q) hrow g1 (s3 _ _ hq0) g2 (VY (z.mono ((Xl s2).trans m3) r1) jj (Paired.imp2 (λ_ _ h=>z.mono m3 h) g3))
        exact ⟨q0, ys, y, jj, rfl, r3, s3 _ _ hq0, by rw [Paired.len g3]; exact hjj, hr _ C' _ D w4 ⟨S.mono _ _ m4 q3, o4⟩ (PZ.tr (fd.tr D) m4 P4)⟩⟩
theorem L6 {H H' : Hp} {C D : List XM} {k : Nat} (w : W OO H) (hk : OO[k]? = some C) (s : Xx H H') (w' : W (D :: OO.set k []) H') (m : Xx (hid H (OO.set k [])) (hid H' (D :: OO.set k []))) :
    W (D :: OO) H' /\ Xx (hid H OO) (hid H' (D :: OO)) /\ VH (hid H' (D :: OO.set k [])) (hid H' (D :: OO)):=by
  have hp:=X7 hk
  have wk : W (C :: OO.set k []) H:=w.of hp
  have hC : ∀ c ∈ C, hid H (OO.set k []) c.1 = some c.2:=λc hc=>Zj (wk.cell c hc) (by
    have:=wk.nd
    rw [Ya] at this
    exact λhb=>(List.nodup_append.mp this).2.2 c.1 (List.mem_map.mpr ⟨c, hc, rfl⟩) c.1 hb rfl)
  have hC' : ∀ c ∈ C, H' c.1 = some c.2 /\ c.1 ∉ fl (D :: OO.set k []):=λc hc=>XW (m _ _ (hC c hc))
  have w2 : W (C :: D :: OO.set k []) H':=by
    refine ⟨λc hc=>?_, ?_, λc hc=>?_⟩
    . rw [List.flatten_cons, List.mem_append] at hc
      exact hc.elim (λhc=>(hC' c hc).1) λhc=>w'.tr c hc
    . rw [Ya]
      refine List.nodup_append.mpr ⟨?_, w'.nd, λa ha b hb e=>?_⟩
      . have := wk.nd
        rw [Ya] at this
        exact (List.nodup_append.mp this).1
      . obtain ⟨c, hc, rfl⟩ := List.mem_map.mp ha
        subst e
        exact (hC' c hc).2 hb
    . rw [List.flatten_cons, List.mem_append] at hc
      exact hc.elim (λhc=>wk.mu c (by simp [hc])) λhc=>w'.mu c hc
  have pe : (D :: OO).flatten.Perm (C :: D :: OO.set k []).flatten:=by
    simp only [List.flatten_cons]
    refine List.Perm.trans (List.Perm.append_left D (by simpa using hp.symm : OO.flatten.Perm (C ++ (OO.set k []).flatten))) ?_
    rw [← List.append_assoc, ← List.append_assoc]
    exact List.perm_append_comm.append_right _
  have w3:=w2.of pe
  refine ⟨w3, λb u q=>?_, λb u q i=>w3.i b u (XW q).1 i⟩
  obtain ⟨q1, q2⟩:=XW q
  have q3 : hid H (OO.set k []) b = some u:=Zj q1 λz=>q2 ((Qy hp b).mp (by rw [Ya]; simp [z]))
  obtain ⟨q4, q5⟩:=XW (m _ _ q3)
  refine Zj q4 λz=>?_
  have z2:=(Qy pe b).mp z
  rw [Ya, List.mem_append] at z2
  rcases z2 with z2 | z2
  . exact q2 ((Qy hp b).mp (by rw [Ya]; exact List.mem_append_left _ z2))
  . exact q5 z2
theorem LY {r1 : Enc γ} {o1 : OE γ} [z : FrzC o1 r1] [MonoE r1] {H : Hp} {v : V} {a : γ} {C : List XM} {k : Nat} (w : W OO H) (hk : OO[k]? = some C) (s : S.p (hid H OO)) (h : ∀ x, S.p x -> o1 K x v a C) :
    W (OO.set k []) H /\ (S.add K r1 v a).p (hid H (OO.set k [])):=by
  have hp:=X7 hk
  have wk : W (C :: OO.set k []) H:=w.of hp
  have hs : Xx (hid H OO) (hid H (OO.set k [])):=by
    rw [← Yv hp]
    exact Jg (Xx.refl _) λb hb=>by rw [Ya]; simp [hb]
  refine ⟨wk.tail, S.mono _ _ hs s, z.frz (h _ s) hs λc hc=>Zj (wk.cell c hc) ?_⟩
  have:=wk.nd
  rw [Ya] at this
  exact λhb=>(List.nodup_append.mp this).2.2 c.1 (List.mem_map.mpr ⟨c, hc, rfl⟩) c.1 hb rfl
theorem DW {te : TE} {o : OE α} [y : FlatO o] {r1 : Enc γ} {o1 : OE γ} [FrzC o1 r1] [MonoE r1] {m : Rs α} {v : V} {a : γ} {C : List XM} (k : Nat) (hk : OO[k]? = some C) (h : ∀ x, S.p x -> o1 K x v a C) (he : Ev K Er (S.add K r1 v a) (OO.set k []) (OO.set k []) σ te o m) : Ev K Er S OO OO σ te o m:=λH Q w s P=>by
  obtain ⟨w1, s1⟩:=LY (r1:=r1) w hk s h
  refine he H Q w1 s1 (P.imp λb _ hb v' D H' s' w' m' ho=>?_)
  obtain ⟨w3, m3, i3⟩:=L6 w hk s' w' m'
  exact hb v' D H' s' w3 m3 (y.flat i3 ho)
end
section
variable {K : PySem.W.Frag} {Er : Exc -> Hp -> Prop} {S : SC} {OO OO' OO1 OO2 : List (List XM)} {σ : St} {α β γ ρ ι δ ε : Type}
variable {Fd : Ends -> β -> Hp -> Prop} [fd : FdOk Fd] {u : TS}
noncomputable def BC : Option α -> Rs α
  | some a=>.ok a
  | none=>.bad
theorem Gj {te : TE} {r : Enc α} {m : Rs (Option α)} (he : EvB K Er S OO σ te (Zu r) m) : EvB K Er S OO σ te r (m.bind BC):=λH Q w s P=>by
  refine he H Q w s ?_
  cases m with
  | bad=>exact P
  | err x=>exact P
  | ok a=>
    cases a with
    | none=>exact P.elim
    | some a=>exact λv H' s' hr=>P v H' s' hr.2
theorem IR {r : Enc α} {q : Enc γ} {K : PySem.W.Frag} {h : Hp} {v : V} {a : α × γ} {C : List XM} (q : oF (rP2 r q) K h v a C) : v ≠ .non:=by
  obtain ⟨_, p, x, y, e, _⟩:=q
  rw [e]; exact λz=>nomatch z
theorem L9 {r : Enc α} {q : Enc γ} {t : Enc δ} {K : PySem.W.Frag} {h : Hp} {v : V} {a : α × γ × δ} {C : List XM} (q : oF (rP3 r q t) K h v a C) : v ≠ .non:=by
  obtain ⟨_, p, x, y, z, e, _⟩:=q
  rw [e]; exact λz=>nomatch z
end
section
variable {K : PySem.W.Frag} {Er : Exc -> Hp -> Prop} {S : SC} {OO OO' OO1 OO2 : List (List XM)} {σ : St} {α β γ ρ ι δ ε : Type}
variable {α1 α2 α3 α4 α5 : Type}
noncomputable def rP4 (r1 : Enc α1) (r2 : Enc α2) (r3 : Enc α3) (r4 : Enc α4) : Enc (α1 × α2 × α3 × α4):=λK H v p=>∃ a x1 x2 x3 x4, v = .ref a /\ H a = some (.tup [x1, x2, x3, x4]) /\ r1 K H x1 p.1 /\ r2 K H x2 p.2.1 /\ r3 K H x3 p.2.2.1 /\ r4 K H x4 p.2.2.2
instance {r1 : Enc α1} {r2 : Enc α2} {r3 : Enc α3} {r4 : Enc α4} [m1 : MonoE r1] [m2 : MonoE r2] [m3 : MonoE r3] [m4 : MonoE r4] : MonoE (rP4 r1 r2 r3 r4):=⟨λs r9=>by obtain ⟨a, x1, x2, x3, x4, e, h, p1, p2, p3, p4⟩:=r9; exact ⟨a, x1, x2, x3, x4, e, s _ _ h, m1.mono s p1, m2.mono s p2, m3.mono s p3, m4.mono s p4⟩⟩
instance {r1 : Enc α1} {r2 : Enc α2} {r3 : Enc α3} {r4 : Enc α4} [m1 : FlatE r1] [m2 : FlatE r2] [m3 : FlatE r3] [m4 : FlatE r4] : FlatE (rP4 r1 r2 r3 r4):=⟨λs r9=>by obtain ⟨a, x1, x2, x3, x4, e, h, p1, p2, p3, p4⟩:=r9; exact ⟨a, x1, x2, x3, x4, e, s _ _ h rfl, m1.flat s p1, m2.flat s p2, m3.flat s p3, m4.flat s p4⟩⟩
theorem Gp {t1 : TE} {t2 : TE} {t3 : TE} {t4 : TE} {r1 : Enc α1} {r2 : Enc α2} {r3 : Enc α3} {r4 : Enc α4} [z1 : MonoE r1] [z2 : MonoE r2] [z3 : MonoE r3] [z4 : MonoE r4] {m1 : Rs α1} {m2 : Rs α2} {m3 : Rs α3} {m4 : Rs α4} (h1 : EvS K Er S OO σ t1 r1 m1) (h2 : EvS K Er S OO σ t2 r2 m2) (h3 : EvS K Er S OO σ t3 r3 m3) (h4 : EvS K Er S OO σ t4 r4 m4) : EvS K Er S OO σ (IK (XG t1 (XG t2 (XG t3 (XG t4 Z1))))) (rP4 r1 r2 r3 r4) (m1.bind λa1=>m2.bind λa2=>m3.bind λa3=>m4.bind λa4=>.ok (a1, a2, a3, a4)):=λH Q w s P=>
  h1.run w s FS.tr P λa1 y1 H1 s1 w1 u1 q1 P1=>h2.run w1 u1 FS.tr P1 λa2 y2 H2 s2 w2 u2 q2 P2=>h3.run w2 u2 FS.tr P2 λa3 y3 H3 s3 w3 u3 q3 P3=>h4.run w3 u3 FS.tr P3 λa4 y4 H4 s4 w4 u4 q4 P4=>⟨by show 4 <= sizeLine; decide, λp hp=>P4 _ _ (XT hp _) ⟨p, y1, y2, y3, y4, rfl, QK w4 hp, z1.mono ((Xl s2).trans ((Xl s3).trans ((Xl s4).trans (Xl (XT hp _))))) q1, z2.mono ((Xl s3).trans ((Xl s4).trans (Xl (XT hp _)))) q2, z3.mono ((Xl s4).trans (Xl (XT hp _))) q3, z4.mono (Xl (XT hp _)) q4⟩⟩
theorem HC {ta : TE} {r1 : Enc α1} {r2 : Enc α2} {r3 : Enc α3} {m : Rs (α1 × α2 × α3)} (ha : EvB K Er S OO σ ta (rP3 r1 r2 r3) m) : EvB K Er S OO σ (tOp (Ib K) ta (tC (.int 0))) r1 (m.bind λp=>.ok p.1):=λH Q w s P=>
  ha.run w s FB.tr P λa x H1 s1 w1 q1 r9 P1=>by obtain ⟨p, x1, x2, x3, e, q, h1, h2, h3⟩:=r9; exact ⟨p, _, 0, x1, e, rfl, SqT.of q, rfl, P1 _ H1 (Xx.refl _) h1⟩
theorem EL {ta : TE} {m : Rs (Int × Int)} (ha : EvB K Er S OO σ ta (rP2 Xb Xb) m) : EvB K Er S OO σ ta (rPL Xb) (m.bind λp=>.ok [p.1, p.2]):=λH Q w s P=>
  ha.run w s FB.tr P λa x H1 s1 w1 q1 r9 P1=>by obtain ⟨p, x1, x2, e, q, h1, h2⟩:=r9; exact P1 _ H1 (Xx.refl _) ⟨p, _, e, q, .cons h1 (.cons h2 .nil)⟩
noncomputable def rDP {α : Type} (r : Enc α) (K : PySem.W.Frag) (H : Hp) (kv : Key × V) (kx : Int × α) : Prop:=kv.1 = .inl kx.1 /\ r K H kv.2 kx.2
noncomputable def rD {α : Type} (r : Enc α) : Enc (List (Int × α)):=λK H v d=>∃ p kvs, v = .ref p /\ H p = some (.dK kvs) /\ Paired (rDP r K H) kvs d
noncomputable def oD {α : Type} (r : Enc α) : OE (List (Int × α)):=λK h v d C=>∃ p kvs, v = .ref p /\ Paired (rDP r K h) kvs d /\ C = [(p, .dK kvs)]
instance {r : Enc α} [m : MonoE r] : MonoE (rD r):=⟨λs r9=>by obtain ⟨p, kvs, e, q, pr⟩:=r9; exact ⟨p, kvs, e, s _ _ q, Paired.imp2 (λ_ _ z=>⟨z.1, m.mono s z.2⟩) pr⟩⟩
instance {r : Enc α} [m : MonoE r] : MonoO (oD r):=⟨λs r9=>by obtain ⟨p, kvs, e, pr, c⟩:=r9; exact ⟨p, kvs, e, Paired.imp2 (λ_ _ z=>⟨z.1, m.mono s z.2⟩) pr, c⟩⟩
instance {r : Enc α} [m : FlatE r] : FlatO (oD r):=⟨λs r9=>by obtain ⟨p, kvs, e, pr, c⟩:=r9; exact ⟨p, kvs, e, Paired.imp2 (λ_ _ z=>⟨z.1, m.flat s z.2⟩) pr, c⟩⟩
instance {r : Enc α} [m : MonoE r] : FrzC (oD r) (rD r):=⟨λr9 s hc=>by obtain ⟨p, kvs, e, pr, c⟩:=r9; exact ⟨p, kvs, e, hc (p, .dK kvs) (by rw [c]; simp), Paired.imp2 (λ_ _ z=>⟨z.1, m.mono s z.2⟩) pr⟩⟩
noncomputable def Qn (d : List (Int × α)) (k : Int) : Option α:=(d.find? λkv=>decide (kv.1 = k)).map (·.2)
noncomputable def Z4 (d : List (Int × α)) (k : Int) (v : α) : List (Int × α):=if (d.any λkv=>decide (kv.1 = k)) = true then d.map (λkv=>if kv.1 = k then (kv.1, v) else kv) else d ++ [(k, v)]
noncomputable def Dy (d : List (Int × α)) (k : Int) : Rs α:=BC (Qn d k)
theorem Qz {r : Enc α} {H : Hp} {k : Int} : ∀ {kvs : List (Key × V)} {d : List (Int × α)}, Paired (rDP r K H) kvs d -> (∀ a, Qn d k = some a -> ∃ v, KM kvs (.inl k) = some v /\ r K H v a) /\ (KM kvs (.inl k)).isSome = (Qn d k).isSome
  | _, _, .nil=>⟨λa h=>(by cases h), rfl⟩
  | kv :: kvs, kx :: d, .cons h t=>by
    obtain ⟨h1, h2⟩:=Qz (k:=k) t
    by_cases e : kx.1 = k
    . have e2 : kv.1 = .inl k := by rw [h.1, e]
      rw [JJ e2]
      have e3 : Qn (kx :: d) k = some kx.2:=by simp [Qn, List.find?_cons, e]
      rw [e3]
      exact ⟨λa ha=>by cases ha; exact ⟨_, rfl, h.2⟩, rfl⟩
    . have e2 : ¬ kv.1 = .inl k := by rw [h.1]; exact λz => e (Sum.inl.inj z)
      rw [JQ e2]
      have e3 : Qn (kx :: d) k = Qn d k:=by simp [Qn, List.find?_cons, e]
      rw [e3]
      exact ⟨h1, h2⟩
theorem VR {r : Enc α} {H : Hp} {k : Int} : ∀ {kvs : List (Key × V)} {d : List (Int × α)}, Paired (rDP r K H) kvs d -> (kvs.any λkv=>decide (kv.1 = .inl k)) = d.any λkx=>decide (kx.1 = k)
  | _, _, .nil=>rfl
  | kv :: kvs, kx :: d, .cons h t=>by
    rw [List.any_cons, List.any_cons, VR t, h.1]
    congr 1
    rw [Bool.eq_iff_iff]; simp
theorem Vw {r : Enc α} {H : Hp} {k : Int} {v : V} {a : α} (hv : r K H v a) {kvs : List (Key × V)} {d : List (Int × α)} (h : Paired (rDP r K H) kvs d) : Paired (rDP r K H) (VA kvs (.inl k) v) (Z4 d k a):=by
  unfold VA Z4
  rw [VR h]
  by_cases e : (d.any λkx=>decide (kx.1 = k)) = true
  . rw [if_pos e, if_pos e]
    clear e
    induction h with
    | nil=>exact .nil
    | @cons kv kx l m h t ih=>
      refine .cons ?_ ih
      show rDP r K H (if kv.1 = .inl k then (kv.1, v) else kv) (if kx.1 = k then (kx.1, a) else kx)
      by_cases e : kx.1 = k
      . rw [if_pos (show kv.1 = .inl k by rw [h.1, e]), if_pos e]; exact ⟨h.1, hv⟩
      . rw [if_neg (show ¬ kv.1 = .inl k by rw [h.1]; exact λz=>e (Sum.inl.inj z)), if_neg e]; exact h
  . rw [if_neg e, if_neg e]
    exact Paired.app h (.cons ⟨rfl, hv⟩ .nil)
theorem BR {td ty : TE} {r : Enc α} [z : MonoE r] {md : Rs (List (Int × α))} {mk : Rs Int} (hd : EvB K Er S OO σ td (rD r) md) (hk : EvB K Er S OO σ ty Xb mk) : EvB K Er S OO σ (IB td ty) r (md.bind λd=>mk.bind λk=>Dy d k):=λH Q w s P=>
  hd.run w s FB.tr P λd x H1 s1 w1 q1 ⟨p, kvs, e, q, pr⟩ P1=>hk.run w1 q1 FB.tr P1 λk y H2 s2 w2 q2 r2 P2=>by
    cases eg : Qn d k with
    | none=>rw [Dy, eg] at P2; exact P2.elim
    | some a=>
      rw [Dy, eg] at P2
      obtain ⟨v, hv, rv⟩:=(Qz (k:=k) pr).1 a eg
      exact ⟨p, v, e, .inl ⟨kvs, .inl k, .inl (s2 _ _ q), r2, hv.symm⟩, P2 _ H2 (Xx.refl _) (z.mono s2 rv)⟩
variable {Fd : Ends -> β -> Hp -> Prop} [fd : FdOk Fd] {u : TS}
theorem EK {tv ty : TE} {r : Enc α} [z : MonoE r] {mv : Rs α} {mk : Rs Int} {f : List (Int × α) -> Rs β} {v : V} {d : List (Int × α)} {C : List XM} (i k : Nat) (hσ : σ[i]? = some (some v)) (hk : OO[k]? = some C) (h : ∀ x, S.p x -> oD r K x v d C) (hv : EvS K Er S OO σ tv r mv) (hy : EvB K Er S OO σ ty Xb mk)
    (hr : ∀ d' C', Sv Er (S.addO K (oD r) v d' C') (OO.set k C') σ u Fd (f d')) : Sv Er S OO σ (VP (Im (Gr i) ty tv) u) Fd (mv.bind λa=>mk.bind λn=>chk (d.length < sizeLine) (f (Z4 d n a))):=λH D w s P=>
  hv.st w s P λa va H1 s1 w1 q1 r1 P1=>⟨v, hσ, hy.st w1 q1 P1 λn vn H2 s2 w2 q2 r2 P2=>by
    obtain ⟨hsz, P2⟩:=PZ.chk P2
    obtain ⟨p, kvs, e, pr, c⟩:=h _ q2
    subst c e
    have hH : H2 p = some (.dK kvs):=w2.tr (p, .dK kvs) (List.mem_flatten.mpr ⟨_, List.mem_of_getElem? hk, by simp⟩)
    obtain ⟨w3, m3⟩:=HL (D:=[]) (C':=[(p, .dK (VA kvs (.inl n) va))]) (p:=p) (o:=.dK (VA kvs (.inl n) va)) w2.nil hk (by simp) (by simp) (by simp) (λb hb=>by simpa using hb) (λc hc=>by
      have : c = (p, .dK (VA kvs (.inl n) va)):=by simpa using hc
      rw [this]; exact X8) (λc hc=>by
      have : c = (p, .dK (VA kvs (.inl n) va)):=by simpa using hc
      rw [this]; rfl)
    rw [Y7] at m3
    refine ⟨p, _, rfl, .inl ⟨kvs, .inl n, hH, r2, by rw [Paired.len pr]; exact hsz, rfl⟩, ?_⟩
    exact hr _ _ _ D w3 ⟨S.mono _ _ m3 q2, ⟨p, _, rfl, Vw (z.mono ((Xl s2).trans m3) r1) (Paired.imp2 (λ_ _ h=>⟨h.1, z.mono m3 h.2⟩) pr), rfl⟩⟩ (PZ.tr (fd.tr D) m3 P2)⟩
end
theorem YC.ex {P : Program} {w : World} {H : Hp} {h : Heap} {a : Addr} {o : HO} (x : YC P w H h a o) : ∃ u, h.get? a = some u:=by
  cases o with
  | lst xs=>obtain ⟨_, _, _, _, e⟩:=x; exact ⟨_, e⟩
  | tup xs=>obtain ⟨_, _, _, p⟩:=x; obtain ⟨o, e, _⟩:=p; exact ⟨_, e⟩
  | dK kvs=>obtain ⟨_, _, _, _, o, _, _, e, _⟩:=x; exact ⟨_, e⟩
  | dT kvs=>obtain ⟨_, _, _, _, o, _, _, e, _⟩:=x; exact ⟨_, e⟩
  | set S n=>obtain ⟨o, _, _, _, e, _⟩:=x; exact ⟨_, e⟩
  | ins C dx fs=>obtain ⟨_, _, _, e, _⟩:=x; exact ⟨_, e⟩
  | own y=>exact x
  | xd fs=>obtain ⟨_, ⟨_, _, _, e, _⟩, _⟩:=x; exact ⟨_, e⟩
  | rng lo hi=>obtain ⟨_, _, _, e⟩:=x; exact ⟨_, e⟩
  | frz ob u=>exact ⟨_, x.1⟩
  | tbl ps=>exact ⟨_, x⟩
  | met f y=>exact ⟨_, x⟩
  | ext φ=>exact x.2.1
theorem HOk.un0 {P : Program} {w : World} {H : Hp} {h : Heap} {a : Addr} (x : HOk P w H h) (e : h.get? a = none) : H a = none:=by
  cases q : H a with
  | none=>rfl
  | some u=>obtain ⟨v, hv⟩:=(x a u q).ex; rw [e] at hv; cases hv
structure Fl (h0 h : Heap) (H : Hp) (a T : Addr) (cls : Value) : Prop where
  na : h0.get? a = none
  nT : h0.get? T = none
  fa : H a = none
  fT : H T = none
  ne : T ≠ a
  obj : ∃ oe vs oT ts a0, h.get? a = some oe /\ oe.cls = cls /\ vs[0]? = some a0 /\ oe.data = .fields vs /\ vs[1]? = some (.ref T) /\ h.get? T = some oT /\ oT.data = .fields ts /\ ts[3]? = some Value.none
noncomputable def Mb (h : Heap) (fs : List Addr) (a T : Addr) : Heap:=Be h (λb=>if b ∈ fs ∨ b = a ∨ b = T then some (.own 0) else none)
theorem G1 {h : Heap} {fs : List Addr} {a T b : Addr} {o : Obj} (e : h.get? b = some o) (n1 : b ∉ fs) (n2 : b ≠ a) (n3 : b ≠ T) : (Mb h fs a T).get? b = some o:=
  GW e (if_neg λz=>z.elim n1 λz=>z.elim n2 n3)
section
variable {P : Program} {w : World} {h0 h h' base : Heap} {H : Hp} {a T : Addr} {cls a0 : Value} {l : List Env}
theorem Un.traced (hl : h.FunFrames base l) (keep : ∀ b o, b ∉ frs l -> b ≠ a -> b ≠ T -> h.get? b = some o -> h'.get? b = some o) (up : h.UpToSlots h') : Un (frs l) [a, T] H H h h' where
  keep:=λb o e _ hb hx=>keep b o hb (λz=>hx (by simp [z])) (λz=>hx (by simp [z])) e
  slot:=λb o e _ hb _=>by
    obtain ⟨_, o2, ho2, hd2⟩:=hl.mem hb
    rw [e] at ho2; cases ho2
    exact up b o e hd2
  free:=λb o e n _=>n
  there:=λb o e hx=>by
    by_cases hb : b ∈ frs l
    . obtain ⟨_, o2, ho2, hd2⟩ := hl.mem hb
      obtain ⟨sl, q⟩:=up b o2 ho2 hd2
      exact ⟨_, q⟩
    . exact ⟨o, keep b o hb (λz=>hx (by simp [z])) (λz=>hx (by simp [z])) e⟩
  tups:=λ_ _ q=>q
  frzs:=λ_ _ _ q=>q
  tbls:=λ_ ps q=>⟨#[], by simpa using q⟩
theorem HOk.traced (hok : HOk P w H h) (hfn : ∀ b ∈ frs l, H b = none) (fa : H a = none) (fT : H T = none) (keep : ∀ b o, b ∉ frs l -> b ≠ a -> b ≠ T -> h.get? b = some o -> h'.get? b = some o) : HOk P w H h':=λb o e=>by
  refine (hok b o e).stay (λc u hc q=>?_) (λ_ q=>q) λ_ _ q=>q
  have hn : H c ≠ none:=by
    rcases hc with z | z
    . rw [z, e]; exact λy=>nomatch y
    . rw [z]; exact λy=>nomatch y
  exact keep c u (λz=>hn (hfn c z)) (λz=>hn (z ▸ fa)) (λz=>hn (z ▸ fT)) q
theorem Fl.after (x : Fl h0 h H a T cls) (hl : h.FunFrames base l) (hfn : ∀ b ∈ frs l, H b = none) (hok : HOk P w H h) (th : ∀ b o, h0.get? b = some o -> ∃ o', h.get? b = some o')
    (st : (Mb h (frs l) a T).StaysIn h') (tr : h'.TracedW (Mb h (frs l) a T) a cls a0) (up : h.UpToSlots h') : ∃ T', Fl h0 h' H a T' cls /\ HOk P w H h' /\ Un (frs l) [a, T] H H h h':=by
  obtain ⟨oe, vs, T', oT, ts, ha, ⟨hc, h0'⟩, hd, h1, hnT, hne, hT, hdT, h3⟩:=tr
  have key : T' = T ∨ h.get? T' = none:=by
    cases q : h.get? T' with
    | none=>exact .inr rfl
    | some o=>
      by_cases hf : T' ∈ frs l
      . obtain ⟨_, o2, ho2, hd2⟩ := hl.mem hf
        obtain ⟨sl, e2⟩:=up T' o2 ho2 hd2
        rw [hT] at e2; cases e2
        exact absurd hdT (hd2 ts)
      . by_cases hz : T' = T
        . exact .inl hz
        . rw [G1 q hf hne hz] at hnT; cases hnT
  have keep : ∀ b o, b ∉ frs l -> b ≠ a -> b ≠ T -> h.get? b = some o -> h'.get? b = some o:=λb o n1 n2 n3 e=>st b o (G1 e n1 n2 n3)
  refine ⟨T', ⟨x.na, ?_, x.fa, ?_, hne, oe, vs, oT, ts, a0, ha, hc, h0', hd, h1, hT, hdT, h3⟩, hok.traced hfn x.fa x.fT keep, Un.traced hl keep up⟩
  . rcases key with e | e
    . rw [e]; exact x.nT
    . cases q : h0.get? T' with
      | none=>rfl
      | some o=>obtain ⟨o', e'⟩:=th _ _ q; rw [e] at e'; cases e'
  . rcases key with e | e
    . rw [e]; exact x.fT
    . exact hok.un0 e
end
section
variable {fs fs2 ex ex2 : List Addr} {H0 H H' : Hp} {h0 h h' : Heap}
end
section
variable {P : Program} {w : World} {K : PySem.W.Frag} {mg : Str -> Option Value} {base : Heap} {N : List Str} {qual : Str} {scope : Scope} {f : Addr} {cd : Value} {A : Around} {outer : List Env} {s0 : Shared} {H0 : Hp} {E : XK}
end
section
variable {X : Cx} {k j : Nat} {x : Str} {ps : List Str} {sp : Sp} {e : Expr} {es : List Expr} {t : TA} {p pos : Pos} {E : XK}
end
section
variable {X : Cx} {E : XK} {C : Addr} {x : Str} {e : Expr} {es : List Expr} {t : TA} {np cpos pos : Pos}
end
noncomputable abbrev TJ:=St -> Hp -> (Hp -> Prop) -> Prop
section
variable {X : Cx} {e : Expr} {es : List Expr} {te : TE} {t : TJ} {n : Nat} {pos p : Pos}
end
noncomputable abbrev Cx.held (X : Cx) (a : Addr) (pn : List (Addr × Obj)) : Cx:={ X with A:=X.A.mark (some (.ref a)), calm:=false, pn:=pn, xe:=λ_ _=>False }
theorem Cx.Ok.held {X : Cx} (ok : X.Ok) (a : Addr) (pn : List (Addr × Obj)) : (X.held a pn).Ok:=
  ⟨ok.mod, ok.kind, ok.glob, ok.blt, ok.above, ok.inj, ok.has, ok.cab, (λz=>nomatch z), ok.frames, ok.stk, ok.exf, ok.bs, ok.bsz, ok.noex, ok.exfs, ok.funs, ok.frf⟩
section
variable {X : Cx} {pins : List (Addr × Obj)} {σ : St} {H : Hp} {s : Shared} {h' : Heap}
end
section
variable {X : Cx} {body suite : List Stmt} {b₀ : Stmt} {cn n : Str} {Ch : Addr} {i : Nat} {tb : XK -> TS} {ts : Addr -> Addr -> TS} {np hpos pos : Pos}
end
section
variable {K : PySem.W.Frag} {Er : Exc -> Hp -> Prop} {S : SC} {OO OO' OO2 : List (List XM)} {σ : St} {α β γ ρ ι : Type} {α1 α2 α3 α4 α5 α6 : Type} {mg : Str -> Option Value} {E : XK}
noncomputable def FJ (Q : Hp -> Prop) (_ : Unit) (H : Hp) : Prop:=∀ H', Xx H H' -> Q H'
theorem FJ.tr {Q : Hp -> Prop} : ∀ (b : Unit) (H H' : Hp), Xx H H' -> FJ Q b H -> FJ Q b H':=λ_ _ _ s h H2 s2=>h H2 (s.trans s2)
variable {Fd : Ends -> β -> Hp -> Prop} [fd : FdOk Fd] {u : TS}
section
variable {te : XK -> TE} {m : Rs α} {ts : Addr -> Addr -> TS} {N i : Nat} {Ch : Addr} {o : OE ρ} {g : Exc -> Rs ρ} {ns : List Str} {d : Str}
end
end
end L2
namespace L2
open PySem PySem.Spec PyProof.Rows PySem.W PySem.Builtin PySem.Builtin.ObjectAttr PySem.Builtin.Getset_descriptor
section
variable {prog : Program} {w : World} {A : Around} {E : Value -> Shared -> Prop} {K : Frag} {x D : Addr} {s : Shared}
end
theorem Ej {X : Cx} {x : Str} {v : V} {pos : Pos} (h : ∃ u, X.mg x = some u /\ Yk v u) (hg : Gl X x) (hd : (x == ("__debug__" : Str)) = false:=by decide) : PE X (.Name x pos) (tC v):=by
  obtain ⟨u, hm, r⟩:=h
  exact EQ hg hm r hd
theorem PS.nox {X : Cx} {st : Stmt} {t : TS} (h : PS X.nox st t) : PS X st t:=λpins s σ H D I hw=>
  wpAny_mono (h pins s σ H D (I.wish _) hw) (λ_ _ q=>q.unwish) λ_ _ z=>False.elim z
section
variable {K : PySem.W.Frag} {C D : Addr} {b : Bool}
end
end L2
namespace L2
open PySem PySem.Spec PyProof.Rows
section
variable {α β : Type} {K : PySem.W.Frag} {Er : Exc -> Hp -> Prop} {S : SC} {OO : List (List XM)} {σ : St} {Fd : Ends -> β -> Hp -> Prop} [fd : FdOk Fd] {u : TS}
end
section
variable {α β γ δ ε : Type}
structure Crs (r : Enc α) (q : Enc β) (d : Nat) : Prop where
  no : ∀ {X : Cx} {pins : List (Addr × Obj)} {σ : St} {H : Hp} {s : Shared} {x : V} {a : α} {b : β}, Inv X pins σ H s -> r X.K H x a -> q X.K H x b -> False
  lr : ∀ {X : Cx} {pins : List (Addr × Obj)} {σ : St} {H : Hp} {s : Shared} {x y : V} {v u : Value} {a : α} {b : β} {A : Around}, Inv X pins σ H s -> Yk x v -> Yk y u -> r X.K H x a -> q X.K H y b -> A.units + d < cLine -> SeqAt.EqAt A s v u false /\ SeqAt.RcAt A s v u false /\ SeqAt.RcNeAt A s v u true
  rl : ∀ {X : Cx} {pins : List (Addr × Obj)} {σ : St} {H : Hp} {s : Shared} {x y : V} {v u : Value} {a : α} {b : β} {A : Around}, Inv X pins σ H s -> Yk x v -> Yk y u -> q X.K H x b -> r X.K H y a -> A.units + d < cLine -> SeqAt.EqAt A s v u false /\ SeqAt.RcAt A s v u false /\ SeqAt.RcNeAt A s v u true
theorem Crs.up {r : Enc α} {q : Enc β} {d e : Nat} (c : Crs r q d) (h : d <= e) : Crs r q e:=⟨c.no, λI rx ry h1 h2 hu=>c.lr I rx ry h1 h2 (by omega), λI rx ry h1 h2 hu=>c.rl I rx ry h1 h2 (by omega)⟩
end
section
variable {K : PySem.W.Frag} {Er : Exc -> Hp -> Prop} {S : SC} {OO OO' OO1 OO2 : List (List XM)} {σ : St} {α β γ ρ ι δ ε ζ : Type}
variable {Fd : Ends -> β -> Hp -> Prop} [fd : FdOk Fd] {u : TS}
noncomputable def getL : α ⊕ γ -> Rs α
  | .inl a=>.ok a
  | .inr _=>.bad
noncomputable def getR : α ⊕ γ -> Rs γ
  | .inl _=>.bad
  | .inr b=>.ok b
end
end L2
namespace L2
theorem IX {α : Type} {us : List α} (h : us.length = 1) : ∃ a, us = [a]:=List.length_eq_one_iff.mp h
theorem Lp {α : Type} {us : List α} (h : us.length = 2) : ∃ a0 a1, us = [a0, a1]:=by
  cases us with
  | nil=>cases h
  | cons a0 t=>
    obtain ⟨a1, rfl⟩:=IX (Nat.succ.inj h)
    exact ⟨a0, a1, rfl⟩
theorem Ir {α : Type} {us : List α} (h : us.length = 3) : ∃ a0 a1 a2, us = [a0, a1, a2]:=by
  cases us with
  | nil=>cases h
  | cons a0 t=>
    obtain ⟨a1, a2, rfl⟩:=Lp (Nat.succ.inj h)
    exact ⟨a0, a1, a2, rfl⟩
theorem L3 {α : Type} {us : List α} (h : us.length = 4) : ∃ a0 a1 a2 a3, us = [a0, a1, a2, a3]:=by
  cases us with
  | nil=>cases h
  | cons a0 t=>
    obtain ⟨a1, a2, a3, rfl⟩:=Ir (Nat.succ.inj h)
    exact ⟨a0, a1, a2, a3, rfl⟩
theorem L8 {α : Type} {us : List α} (h : us.length = 5) : ∃ a0 a1 a2 a3 a4, us = [a0, a1, a2, a3, a4]:=by
  cases us with
  | nil=>cases h
  | cons a0 t=>
    obtain ⟨a1, a2, a3, a4, rfl⟩:=L3 (Nat.succ.inj h)
    exact ⟨a0, a1, a2, a3, a4, rfl⟩
end L2
namespace L2
open PySem PySem.Spec PyProof.Rows
section
variable {prog : Program} {w : World} {A : Around} {E : Value -> Shared -> Prop}
end
section
variable {X : Cx} {pos : Pos}
end
section
variable {K : PySem.W.Frag} {Er : Exc -> Hp -> Prop} {S : SC} {OO OO' OO1 OO2 : List (List XM)} {σ : St} {α β γ ρ ι δ ε ζ : Type}
variable {Fd : Ends -> β -> Hp -> Prop} [fd : FdOk Fd] {u : TS}
theorem Bv {te : TE} {m : Rs (Option (Int × Int))} (he : Ev K Er S OO OO' σ te (oF (Zu (rP2 Xb Xb))) m) : Ev K Er S OO OO' σ te (oF (Zu (rPL Xb))) (m.bind λa=>.ok (a.map λp=>[p.1, p.2])):=λH Q w s P=>by
  refine he H Q w s ?_
  cases m with
  | bad=>exact P
  | err x=>exact P
  | ok a=>
    refine λv C H' s' w' m' ho=>P v C H' s' w' m' ⟨ho.1, ?_⟩
    cases a with
    | none=>exact ho.2
    | some a=>
      obtain ⟨_, hn, p, x, y, e, h, h1, h2⟩:=ho
      exact ⟨hn, p, _, e, h, .cons h1 (.cons h2 .nil)⟩
theorem Gz {te : TE} {m : Rs (Option (Int × Int × Int × Int))} (he : Ev K Er S OO OO' σ te (oF (Zu (rP4 Xb Xb Xb Xb))) m) : Ev K Er S OO OO' σ te (oF (Zu (rPL Xb))) (m.bind λa=>.ok (a.map λp=>[p.1, p.2.1, p.2.2.1, p.2.2.2])):=λH Q w s P=>by
  refine he H Q w s ?_
  cases m with
  | bad=>exact P
  | err x=>exact P
  | ok a=>
    refine λv C H' s' w' m' ho=>P v C H' s' w' m' ⟨ho.1, ?_⟩
    cases a with
    | none=>exact ho.2
    | some a=>
      obtain ⟨_, hn, p, x, y, x3, x4, e, h, h1, h2, h3, h4⟩:=ho
      exact ⟨hn, p, _, e, h, .cons h1 (.cons h2 (.cons h3 (.cons h4 .nil)))⟩
theorem J6 {r : Enc α} : Ev K Er S OO OO σ (tC .non) (oF (Zu r)) (.ok none):=λH Q w s P=>P _ [] H (Xx.refl _) w.nil (by rw [Y7]; exact Xx.refl _) ⟨rfl, rfl⟩
theorem QH {te : TE} {r : Enc α} {m : Rs α} (hn : ∀ {K h v a C}, oF r K h v a C -> v ≠ .non) (he : Ev K Er S OO OO' σ te (oF r) m) : Ev K Er S OO OO' σ te (oF (Zu r)) (m.bind λa=>.ok (some a)):=λH Q w s P=>by
  refine he H Q w s ?_
  cases m with
  | bad=>exact P
  | err x=>exact P
  | ok a=>exact λv C H' s' w' m' ho=>P v C H' s' w' m' ⟨ho.1, hn ho, ho.2⟩
theorem Ij {r1 : Enc α} {r2 : Enc β} {r3 : Enc γ} {r4 : Enc δ} {K : PySem.W.Frag} {h : Hp} {v : V} {a : α × β × γ × δ} {C : List XM} (q : oF (rP4 r1 r2 r3 r4) K h v a C) : v ≠ .non:=by
  obtain ⟨_, p, x1, x2, x3, x4, e, _⟩:=q
  rw [e]
  exact λz=>nomatch z
end
section
variable {X : Cx}
end
section
variable {K : PySem.W.Frag} {Er : Exc -> Hp -> Prop} {S : SC} {OO OO' OO1 OO2 : List (List XM)} {σ : St} {α β γ ρ ι δ ε ζ : Type}
variable {Fd : Ends -> β -> Hp -> Prop} [fd : FdOk Fd] {u : TS}
end
set_option maxRecDepth 100000
section
variable {prog : Program} {w : World} {A : Around} {E : Value -> Shared -> Prop} {s : Shared}
theorem KG : typeLookup (.type "list") "keys" = pure none:=by rw [typeLookup_type, builtinLookup_eq_fast]; kernel_rfl
theorem Br {a : Addr} {o : Obj} {xs : Array Value} {k : Nat} {R : Option Value -> Shared -> Prop} (hx : s.heap.get? a = some o) (hc : o.cls = .type "list") (hdat : o.data = .seq xs k) (hd : o.dict = none) (hA : A.handled = none)
    (h : ∀ g tk, (∀ b u, s.heap.get? b = some u -> g.get? b = some u) -> R none { s with heap:=g, toks:=tk }) : wpAny (model prog w) A (getAttr? (.ref a) "keys") R E s:=by
  obtain ⟨c, dct, dat, sl⟩:=o
  simp only at hc hdat hd
  subst hc hdat hd
  obtain ⟨hp, g, d, tk, os⟩:=s
  have hT : ∀ tk', (⟨hp, g, d, tk', os⟩ : Shared).TypeIs (.ref a) "list":=λ_=>⟨_, hx, rfl⟩
  have f1:=sub_AttributeError
  have f3:=F.slot_list_getattribute.lookup
  have f4:=F.slot_list_getattribute.bind (.ref a)
  have f5:=am_list_getattr_none
  unfold getAttr? getAttrBy? getAttrBy
  repeat (any_goals (first
    | assumption
    | exact hT _
    | ((with_reducible show wpAny _ _ (call (Value.builtin "list.__getattribute__") _ _) _ _ _)
       refine call_meets F.slot_list_getattribute (hT _) am_entry_list_getattribute (F.args_list_getattribute_2 _ _) (meets_getattribute_miss_list a xs k sl "keys" _ KG (by decide +kernel)) ⟨hx, hA, λh' tk' e hx'=>?_⟩)
    | wp_step))
  obtain ⟨t', u', he⟩:=hx'.there
  show wpAny _ _ (getattributeRaised _ _ _ _ _ _ _) _ _ _
  unfold getattributeRaised
  repeat (any_goals (first | wp_step | assumption))
  exact h _ _ hx'.keeps
theorem ZT : plainId "dict.update.loop" = true:=by decide +kernel
theorem J8 : entryFor table "dict.update.loop" = some Builtin.«dict.update.loop»:=entryFor_of_fast (by kernel_rfl)
end
section
variable {prog : Program} {w : World} {A : Around} {R : Result -> Shared -> Prop} {K : Type} [DecidableEq K] {knd : KeyKind prog w K}
noncomputable def EJ (knd : KeyKind prog w K) (h : Heap) (its : Array Value) (kv : List (K × Value)) : Prop:=its.size = kv.length /\ ∀ (j : Nat) (x : Value) (p : K × Value), its[j]? = some x -> kv[j]? = some p -> ∃ t key, x = .ref t /\ h.IsTuple t #[key, p.2] /\ knd.is p.1 key = true
noncomputable def Uq (acc kv : List (K × Value)) : List (K × Value):=kv.foldl (λa p=>stored a p.1 p.2) acc
theorem FE (acc : List (K × Value)) (k : K) (v : Value) : (stored acc k v).length <= acc.length + 1:=by
  unfold stored
  split
  . simp
  . simp
theorem Ku {h : Heap} {t I l : Addr} {i : Nat} {xs : Array Value} (ht : h.IsTuple t xs) (it : h.IsListIter I l i) : t ≠ I:=λe=>by
  subst e
  obtain ⟨o, ho, hc, _⟩:=ht
  obtain ⟨o', ho', hc', _⟩:=it
  rw [ho] at ho'
  cases ho'
  rw [hc] at hc'
  exact absurd hc' (by decide)
theorem CP {h : Heap} {t d : Addr} {xs : Array Value} {acc : List (K × Value)} (ht : h.IsTuple t xs) (hd : h.DictOf knd d acc) : t ≠ d:=λe=>by
  subst e
  obtain ⟨o, ho, hc, _⟩:=ht
  obtain ⟨o', _, _, ho', hc', _⟩:=hd
  rw [ho] at ho'
  cases ho'
  have:=hc'.1
  rw [hc] at this
  exact absurd this (by decide)
theorem LX (hh : A.in1.handled = none) {d I l : Addr} (hdI : d ≠ I) (hlI : l ≠ I) (hld : l ≠ d) {its : Array Value} {kv : List (K × Value)} :
    ∀ (k i : Nat) (s : Shared) (acc : List (K × Value)), its.size - i = k -> i <= its.size -> s.heap.IsListIter I l i -> s.heap.IsList l its -> EJ knd s.heap its kv -> s.heap.DictOf knd d acc -> acc.length + its.size <= sizeLine + i ->
    (∀ g tk, g.DictOf knd d (Uq acc (kv.drop i)) -> (∀ b o, b ≠ I -> b ≠ d -> s.heap.get? b = some o -> g.get? b = some o) -> R (.ok (.ret .none)) { s with heap:=g, toks:=tk }) ->
    codeAny (model prog w) A (.builtin "dict.update.loop" ⟨[.ref d, .ref I, rawInt i, .none], []⟩) R s:=by
  intro k
  induction k with
  | zero=>
    intro i s acc hk hi it hl hp hd hz r
    refine codeAny_builtin J8 ?_
    rw [Around.under_plainId ZT _]
    show wpAny _ A.in1 (pyNext (.ref I) >>= _) _ _ s
    refine wpAny_bind (wpAny_pyNext_list_end hh it hl (by simp; omega) λg hx=>?_)
    show wpAny _ _ (Builtin.Dict.addKeywords d [] >>= λ_=>ret Value.none) _ _ _
    refine wpAny_bind (wpAny_pure (wpAny_pure (r g s.toks ?_ λb o hb _ e=>hx b o hb e)))
    have e : kv.drop i = []:=List.drop_eq_nil_of_le (by have:=hp.1; omega)
    rw [e]
    exact hd.extBut hx hdI
  | succ k ih=>
    intro i s acc hk hi it hl hp hd hz r
    have lt : i < its.size:=by omega
    refine codeAny_builtin J8 ?_
    rw [Around.under_plainId ZT _]
    show wpAny _ A.in1 (pyNext (.ref I) >>= _) _ _ s
    refine wpAny_bind (wpAny_pyNext_list_item it hl (x:=its[i]) (by simp [lt]) λg it' hx=>?_)
    have lt2 : i < kv.length:=by have:=hp.1; omega
    obtain ⟨t, key, et, ht, hkey⟩:=hp.2 i its[i] kv[i] (by simp [lt]) (by simp [lt2])
    have htI : t ≠ I:=Ku ht it
    have ht1 : g.IsTuple t #[key, kv[i].2]:=ht.extBut hx.extBut htI
    obtain ⟨o, ho, hc, n, hdt⟩:=id ht1
    rw [et]
    show wpAny _ _ (holding [Value.ref t] _ >>= λ_=>again (.builtin "dict.update.loop" ⟨[.ref d, .ref I, rawInt ((i : Int) + 1), .none], []⟩)) _ _ _
    refine wpAny_bind (wpAny_holding ?_)
    refine wpAny_bind (wpAny_tryCatch ?_)
    unfold Builtin.Dict.pairItems
    refine wpAny_bind (wpAny_typeOf (s:={ s with heap:=g }) ⟨o, ho, hc⟩ ?_)
    rw [if_pos (by decide)]
    refine wpAny_bind (wpAny_seqItems (s:={ s with heap:=g }) ho hdt (wpAny_pure ?_))
    show wpAny _ _ (holding [key, kv[i].2] (dictSet d key kv[i].2)) _ _ _
    refine wpAny_holding (wpAny_dictSet_pairs (s:={ s with heap:=g }) hkey (hd.extBut hx.extBut hdI) (λg2 hd2 hx2=>?_) (by omega))
    refine wpAny_pure ⟨plainId_quiet ZT _, ?_⟩
    have hne : ∀ {b : Addr} {u : Obj}, s.heap.get? b = some u -> b ≠ I -> b ≠ d -> g2.get? b = some u:=fun {b u} e h1 h2=>(hx2.2 b h2).trans (hx.extBut b u h1 e)
    refine ih (i + 1) { s with heap:=g2, toks:=s.toks + 1 } (stored acc kv[i].1 kv[i].2) (by omega) (by omega) ?_ ?_ ?_ hd2 ?_ ?_
    . exact it'.extBut hx2.extBut (λe=>hdI e.symm)
    . exact (hl.extBut hx.extBut hlI).extBut hx2.extBut hld
    . refine ⟨hp.1, λj x p h1 h2 => ?_⟩
      obtain ⟨t2, key2, e2, ht2, hk2⟩:=hp.2 j x p h1 h2
      exact ⟨t2, key2, e2, (ht2.extBut hx.extBut (Ku ht2 it)).extBut hx2.extBut (CP ht2 hd), hk2⟩
    . have := FE acc kv[i].1 kv[i].2
      omega
    . intro g3 tk hd3 kp
      refine r g3 tk ?_ λb o h1 h2 e=>kp b o h1 h2 (hne e h1 h2)
      rw [List.drop_eq_getElem_cons lt2]
      exact hd3
theorem FC (hh : A.handled = none) {E : Value -> Shared -> Prop} {s : Shared} {l : Addr} {o : Obj} {n : Nat} {its : Array Value} {kv : List (K × Value)} {Q : Value -> Shared -> Prop} (hx : s.heap.get? l = some o) (hc : o.cls = .type "list") (hdat : o.data = .seq its n) (hd : o.dict = none) (hp : EJ knd s.heap its kv) (hz : its.size <= sizeLine)
    (r : ∀ g tk, g.DictOf knd s.heap.objs.size (Uq [] kv) -> (∀ b u, s.heap.get? b = some u -> g.get? b = some u) -> Q (.ref s.heap.objs.size) { s with heap:=g, toks:=tk }) : wpAny (model prog w) A (call (.type "dict") [.ref l]) Q E s:=by
  refine callType_codes (Q₁:=λobj s₁=>obj = .ref s.heap.objs.size /\ s₁ = { s with heap:=s.heap.push { cls:=.type "dict", data:=.dict #[] } }) F.kt_called_dict (F.kt_typeCall_dict_1 _) F.entry_dict_init (kt_code_dict_new _ ⟨rfl, rfl⟩) ?_
  rintro obj s₁ ⟨rfl, rfl⟩
  have hnew : (s.heap.push { cls:=.type "dict", data:=.dict #[] }).DictOf knd s.heap.objs.size []:=Heap.DictOf.new s.heap
  have hx1 : (s.heap.push { cls:=.type "dict", data:=.dict #[] }).get? l = some o:=Heap.get?_push_of_some _ hx
  refine ⟨hnew.typeIs, F.args_dict_init_2 _ _, ?_⟩
  unfold Builtin.«dict.__init__»
  refine wpAny_bind ?_
  unfold Builtin.Dict.selfAndRest
  refine wpAny_bind (wpAny_notOrdered_dict hnew.typeIs ?_)
  show wpAny _ _ (pure (s.heap.objs.size, [Value.ref l])) _ _ _
  refine wpAny_pure ?_
  show wpAny _ _ (Builtin.Dict.updateFrom "dict.__init__" s.heap.objs.size (.ref l) [] .none) _ _ _
  unfold Builtin.Dict.updateFrom
  refine wpAny_bind (wpAny_typeOf ⟨o, hx1, hc⟩ ?_)
  rw [if_pos (by decide)]
  refine wpAny_bind (Br hx1 hc hdat hd hh λg tk kp=>?_)
  rw [if_pos (show (none : Option Value).isNone = true from rfl)]
  refine wpAny_bind (wpAny_rule ?_)
  have hlg : g.IsList l its:=⟨o, kp _ _ hx1, hc, n, hdat⟩
  have hdg : g.DictOf knd s.heap.objs.size []:=by
    obtain ⟨o', es, ep, ho, q⟩:=hnew
    exact ⟨o', es, ep, kp _ _ ho, q⟩
  have hdlt : s.heap.objs.size < g.objs.size:=by
    obtain ⟨o', es, ep, ho, q⟩:=hdg
    exact Heap.lt_size ho
  have hllt : l < s.heap.objs.size:=Heap.lt_size hx
  refine wpAny_bind (wpAny_pyIter_list (s:={ s with heap:=g, toks:=tk }) hlg ?_)
  refine wpAny_pure ⟨plainId_quiet ZT _, ?_⟩
  refine LX (A:=A.in1) (show A.in1.in1.handled = none from hh) (d:=s.heap.objs.size) (I:=g.objs.size) (l:=l) (its:=its) (kv:=kv) (Nat.ne_of_lt hdlt) (Nat.ne_of_lt (Nat.lt_trans hllt hdlt)) (Nat.ne_of_lt hllt) its.size 0 _ [] rfl (Nat.zero_le _) ⟨_, Heap.get?_push_size _ rfl, rfl, rfl⟩ (hlg.push _) ?_ (hdg.push _) (by simpa using hz) ?_
  . refine ⟨hp.1, λj x p h1 h2 => ?_⟩
    obtain ⟨t2, key2, e2, ⟨ot, hot, q⟩, hk2⟩:=hp.2 j x p h1 h2
    exact ⟨t2, key2, e2, ⟨ot, Heap.get?_push_of_some _ (kp _ _ (Heap.get?_push_of_some _ hot)), q⟩, hk2⟩
  . intro g2 tk2 hd2 kp2
    refine ⟨rfl, r g2 tk2 hd2 λb u e=>?_⟩
    have hb:=Heap.lt_size e
    exact kp2 b u (Nat.ne_of_lt (Nat.lt_trans hb hdlt)) (Nat.ne_of_lt hb) (Heap.get?_push_of_some _ (kp _ _ (Heap.get?_push_of_some _ e)))
end
section
variable {X : Cx}
noncomputable def QR (acc kvs : List (Key × V)) : List (Key × V):=kvs.foldl (λa p=>VA a p.1 p.2) acc
theorem Bo (kvs : List (Key × V)) (k : Key) (v : V) : (VA kvs k v).length <= kvs.length + 1:=by
  unfold VA
  split <;> simp
theorem VX : ∀ (kvs acc : List (Key × V)), (QR acc kvs).length <= acc.length + kvs.length
  | [], acc=>by simp [QR]
  | p :: kvs, acc=>by
    have h1:=VX kvs (VA acc p.1 p.2)
    have h2:=Bo acc p.1 p.2
    show (QR (VA acc p.1 p.2) kvs).length <= _
    rw [List.length_cons]
    omega
theorem KV.all {kvs : List (Key × V)} {vs : List (Key × Value)} (t : KV kvs vs) : ∀ {acc : List (Key × V)} {acc' : List (Key × Value)}, KV acc acc' -> KV (QR acc kvs) (Uq acc' vs):=by
  induction t with
  | nil=>intro acc acc' h; exact h
  | @cons p q kvs vs r _ ih=>
    intro acc acc' h
    have h2:=h.put p.1 r.2
    have e : stored acc' p.1 q.2 = stored acc' q.1 q.2:=by rw [r.1]
    rw [e] at h2
    exact ih h2
noncomputable def EF (K : PySem.W.Frag) : List V -> Hp -> VK -> Prop:=λxs H Q=>∃ l ps kvs, xs = [.ref l] /\ SqL K H l ps /\ Paired (λp (kv : Key × V)=>∃ t, p = .ref t /\ SqT K H t [kV kv.1, kv.2]) ps kvs /\ ∀ d, H d = none -> Q (.ref d) (upd H d (.dK (QR [] kvs)))
theorem IH {pins : List (Addr × Obj)} {σ : St} {H : Hp} {s : Shared} (I : Inv X pins σ H s) : ∀ {ps : List V} {kvs : List (Key × V)} {its : List Value}, Paired (λp (kv : Key × V)=>∃ t, p = .ref t /\ SqT X.K H t [kV kv.1, kv.2]) ps kvs -> Yd ps its -> ∃ kv, KV kvs kv /\ EJ (Ys X.prog X.w) s.heap its.toArray kv:=fun {ps kvs its} p=>by
  induction p generalizing its with
  | nil=>
    intro v
    cases v
    exact ⟨[], .nil, rfl, λj x p h=>by simp at h⟩
  | @cons _ b _ _ r _ ih=>
    intro v
    cases v with
    | cons rv v=>
      obtain ⟨kv, h1, h2, h3⟩:=ih v
      obtain ⟨t, rfl, ht⟩:=r
      cases rv
      obtain ⟨i2, v2, tp, _⟩:=I.tuple ht
      obtain ⟨key, val, rfl, e1, e2⟩:=Yd.two v2
      refine ⟨(b.1, val) :: kv, .cons ⟨rfl, e2⟩ h1, by simpa using h2, λj x p hj hp=>?_⟩
      cases j with
      | zero=>
        simp at hj hp
        subst hj hp
        exact ⟨t, key, rfl, tp, DY e1⟩
      | succ j=>exact h3 j x p (by simpa using hj) (by simpa using hp)
theorem Jw (K : PySem.W.Frag) (hK : X.K = K) (hc : X.calm = true) : Qb X (.type "dict") (EF K):=by
  subst hK
  intro pins s σ H xs us Q I r h
  obtain ⟨l, ps, kvs, rfl, hq, hp, q⟩:=h
  obtain ⟨u, rfl, ru⟩:=UU r
  cases ru
  obtain ⟨its, rv, ⟨o, n, ho, hcl, hdn, hdat⟩, hz⟩:=I.list hq
  obtain ⟨kv, h1, h2⟩:=IH I hp rv
  have hlen:=rv.length
  have hl2:=Paired.len hp
  refine FC (knd:=Ys X.prog X.w) (I.ok.hd hc) ho hcl hdat hdn h2 (by simpa [← hlen] using hz) λg tk hd kp=>?_
  refine ⟨.ref s.heap.objs.size, _, I.laid (t':=tk) kp (Nat.le_refl _) (show YC X.prog X.w _ g _ (.dK (QR [] kvs)) from ⟨Nat.le_trans (VX kvs []) (by simp; omega), beq_eq_false_iff_ne.mpr (Ne.symm (Nat.ne_of_lt I.big)), _, KV.all h1 .nil, hd⟩), rfl, q _ (I.hok.fresh (Nat.le_refl _))⟩
noncomputable def Y3 (ns : List Int) : List Int:=ns.mergeSort λa b=>decide (a <= b)
theorem YE (ns : List Int) : (Y3 ns).Perm ns:=List.mergeSort_perm ns _
theorem Fu (ns : List Int) : (Y3 ns).Pairwise (· <= ·):=by
  have h:=List.pairwise_mergeSort (le:=λa b : Int=>decide (a <= b)) (λa b c h1 h2=>by rw [decide_eq_true_eq] at h1 h2 ⊢; omega) (λa b=>by rw [Bool.or_eq_true, decide_eq_true_eq, decide_eq_true_eq]; omega) ns
  exact h.imp λh=>by simpa using h
theorem QG {a b : List Int} (h : a.Perm b) (r : a.Pairwise (· <= ·)) : a = Y3 b:=List.Perm.eq_of_pairwise (le:=(· <= ·)) (λ_ _ _ _ h1 h2=>Int.le_antisymm h1 h2) r (Fu b) (h.trans (YE b).symm)
theorem Gy : ∀ {ns : List Int} {vs : List Value}, Yd (ns.map V.int) vs -> IntsAre vs ns:=fun {ns}=>by
  induction ns with
  | nil=>intro vs h; cases h; exact .nil
  | cons n ns ih=>
    intro vs h
    cases h with
    | cons r t=>
      obtain ⟨k, rfl⟩:=r
      exact .cons n k (ih t)
noncomputable def Ez (K : PySem.W.Frag) : List V -> Hp -> VK -> Prop:=λxs H Q=>∃ l ns, xs = [.ref l] /\ SqL K H l (ns.map V.int) /\ ns.length < 64 /\ ∀ p, H p = none -> Q (.ref p) (upd H p (.lst ((Y3 ns).map V.int)))
theorem VI (K : PySem.W.Frag) (hK : X.K = K) : Qb X (.builtin "sorted") (Ez K):=by
  subst hK
  intro pins s σ H xs us Q I r h
  obtain ⟨l, ns, rfl, hq, h64, q⟩:=h
  obtain ⟨u, rfl, ru⟩:=UU r
  cases ru
  obtain ⟨its, rv, pl, hz⟩:=I.list hq
  have hlen:=rv.length
  rw [List.length_map] at hlen
  refine sorted_ints pl.isList (Gy rv) (by omega) λout ns' a1 a2 a3=>?_
  obtain ⟨e, he⟩:=sortedAll_at s.heap its out
  have en : ns' = Y3 ns:=QG a2 a3
  have v:=QP a1
  rw [en] at v
  have hfr : H (s.heap.objs.size + 1) = none:=I.hok.fresh (Nat.le_succ _)
  refine ⟨.ref (s.heap.objs.size + 1), _, I.laid (t':=s.toks) (λb o e=>sortedAll_old e) (Nat.le_succ _) (show YC X.prog X.w _ _ _ (.lst ((Y3 ns).map V.int)) from ⟨?_, out.toList, e, v, he⟩), rfl, q _ hfr⟩
  rw [List.length_map, (YE ns).length_eq]
  rw [List.length_map] at hz
  exact hz
end
section
variable {X : Cx} {pins : List (Addr × Obj)} {σ : St} {H : Hp} {s : Shared} {d : Addr} {o : Obj} {kvs : List (Key × V)}
theorem U9 {k : Key} {u : Value} (h : VD k u = true) : Yk (kV k) u:=by
  cases k with
  | inl n=>
    cases u <;> simp [VD, Value.isInt] at h
    subst h
    exact ⟨_, rfl⟩
  | inr x=>
    cases u <;> simp [VD, Value.isStrOf] at h
    subst h
    exact ⟨_, rfl⟩
theorem Inv.freeze (I : Inv X pins σ H s) (e : H d = some (.dK kvs)) (ho : s.heap.get? d = some o) : Inv X pins σ (upd H d (.frz o (.dK kvs))) s:=by
  have x:=(show YC X.prog X.w H s.heap d (.dK kvs) from I.hok d _ e)
  exact I.write (t':=s.toks) (x:=d) (e:=d) (h':=s.heap) (by rw [e]; exact True.intro) (.inl rfl) (λb u _ q=>q) ⟨o, ho⟩ ⟨ho, x⟩
theorem Inv.thaw (I : Inv X pins σ H s) (e : H d = some (.frz o (.dK kvs))) (n : ∀ o u, X.H₀ d ≠ some (.frz o u)) : Inv X pins σ (upd H d (.dK kvs)) s:=by
  have ne : ∀ {b : Addr}, H b = none -> b ≠ d:=fun {b} h z=>by rw [z, e] at h; cases h
  refine ⟨I.ok, I.os, I.bare, ⟨I.base.keep, I.base.slot, λb ob q nn hx=>?_, I.base.there, λb xs q=>?_, λb ob u q=>?_, λb ps q=>?_⟩, I.loc, I.cell, ?_, λx c h=>?_, λp hp=>?_, λb u q=>?_, I.len⟩
  . have h := I.base.free b ob q nn hx
    rw [Xw (ne h)]; exact h
  . have h := I.base.tups b xs q
    rw [Xw (Dk h e (λz=>nomatch z))]; exact h
  . have h := I.base.frzs b ob u q
    by_cases z : b = d
    . subst z; exact absurd q (n ob u)
    . rw [Xw z]; exact h
  . obtain ⟨more, h⟩ := I.base.tbls b ps q
    exact ⟨more, by rw [Xw (Dk h e (λz=>nomatch z))]; exact h⟩
  . rw [Xw (ne I.free)]; exact I.free
  . rw [Xw (ne (I.freeC x c h))]; exact I.freeC x c h
  . obtain ⟨h1, h2, h3⟩ := I.pin p hp
    exact ⟨h1, by rw [Xw (ne h2)]; exact h2, h3⟩
  . by_cases z : b = d
    . subst z
      rw [X8] at q
      cases q
      obtain ⟨_, h⟩:=(show YC X.prog X.w H s.heap b (.frz o (.dK kvs)) from I.hok b _ e)
      exact h
    . rw [Xw z] at q
      exact (I.hok b u q).stay (λ_ _ _ r=>r) (λc r=>by rw [Xw (Dk r e (λz=>nomatch z))]; exact r) λc xs r=>by rw [Xw (Dk r e (λz=>nomatch z))]; exact r
noncomputable def tFz (i : Nat) (t : TE) : TE:=λσ H Q=>∃ d kvs, σ[i]? = some (some (.ref d)) /\ H d = some (.dK kvs) /\ ∀ o, t σ (upd H d (.frz o (.dK kvs))) λv H'=>H' d = some (.frz o (.dK kvs)) /\ Q v (upd H' d (.dK kvs))
theorem E5 {x : Expr} {t : TE} (i : Nat) (h : PE X x t) : PE X x (tFz i t):=by
  intro pins s σ H Q I ⟨d, kvs, _, e, q⟩
  obtain ⟨_, _, vs, _, o, es, ep, ho, _⟩:=(show YC X.prog X.w H s.heap d (.dK kvs) from I.hok d _ e)
  refine thn (h pins s σ _ _ (I.freeze e ho) (q o)) λv s1 ⟨y, H1, I1, r1, e1, q1⟩=>⟨y, _, I1.thaw e1 (λo u z=>?_), r1, q1⟩
  have:=I.base.frzs d o u z
  rw [e] at this
  cases this
noncomputable def Itd (d : Addr) (o : Obj) (kvs : List (Key × V)) : It:=
  ⟨λi H=>H d = some (.frz o (.dK kvs)) /\ i < kvs.length, λi H x H'=>H' = H /\ ∃ kv, kvs[i]? = some kv /\ x = kV kv.1, λi H=>H d = some (.frz o (.dK kvs)) /\ kvs.length <= i⟩
theorem Inv.dictAt (I : Inv X pins σ H s) (e : H d = some (.frz o (.dK kvs))) {es : Array DictEntry} {ep : Nat} (hd : o.data = .dict es ep) : (d == sysModules) = false /\ ∃ vs, KV kvs vs /\ Heap.DictAt (Ys X.prog X.w) s.heap d vs ep:=by
  obtain ⟨h1, _, hs, vs, rel, o', es', ep', g1, g2, g3, g4⟩:=(show YC X.prog X.w H s.heap d (.frz o (.dK kvs)) from I.hok d _ e)
  rw [h1] at g1
  cases g1
  rw [hd] at g3
  cases g3
  exact ⟨hs, vs, rel, o, es, h1, g2, hd, g4⟩
theorem KV.key {kvs : List (Key × V)} {vs : List (Key × Value)} (h : KV kvs vs) : ∀ {i : Nat} (h1 : i < kvs.length) (h2 : i < vs.length), (kvs[i]).1 = (vs[i]).1:=by
  induction h with
  | nil=>intro i h1; exact absurd h1 (Nat.not_lt_zero _)
  | cons r _ ih=>
    intro i h1 h2
    cases i with
    | zero=>exact r.1
    | succ i=>exact ih (Nat.lt_of_succ_lt_succ h1) (Nat.lt_of_succ_lt_succ h2)
theorem DU {P : Program} {w : World} {K : PySem.W.Frag} {tg : Expr} {es : Array DictEntry} {ep : Nat} (d it : Addr) (o : Obj) (kvs : List (Key × V)) (hd : o.data = .dict es ep) : Turn P w K tg (Itd d o kvs) [it] it (λi h=>h.IsKeyIter it d i kvs.length ep) where
  mem:=.head _
  obj:=λi h st b hb=>by
    have e : b = it:=List.mem_singleton.mp hb
    subst e
    obtain ⟨o, e, c, d⟩:=st
    exact ⟨o, e, λv z=>by rw [d] at z; cases z⟩
  keep:=λi h h' st k=>st.at λo e=>k it (.head _) o e
  item:=by
    intro X hP hw hK hc i pins s σ H E I hf st hg
    subst hP hw hK
    obtain ⟨he, hlt⟩:=hg
    obtain ⟨_, vs, rel, da⟩:=I.dictAt he hd
    have hl:=rel.length
    rw [hl] at st
    obtain ⟨f0, f1, f2, f3, f4, f5⟩:=hf it (.head _)
    have hv : vs[i]? = some (vs[i].1, vs[i].2):=by simp [show i < vs.length by omega]
    refine wpAny_pyNext_dict_item st da hv λkey h' hk st' sb=>?_
    have I1 : Inv X pins σ H { s with heap:=h' }:=I.turned (t':=s.toks) (λb o hb e=>(sb.2 b hb).trans e) f0 f1 f3 f4 f5
    obtain ⟨ob, e, c, dd⟩:=id st'
    have hkv : (kvs[i]).1 = (vs[i]).1:=KV.key rel (show i < kvs.length from hlt) (by omega)
    refine ⟨key, rfl, HY (s:={ s with heap:=h' }) e c dd (by decide) ⟨kV (kvs[i]).1, H, I1, by rw [hkv]; exact U9 hk, ⟨rfl, kvs[i], by simp [hlt], rfl⟩, ?_, λb hb=>(hf b hb).1⟩⟩
    rw [hl]; exact st'
  done:=by
    intro X hP hw hK hc i pins s σ H E I hf st hg
    subst hP hw hK
    obtain ⟨he, hlt⟩:=hg
    obtain ⟨_, vs, rel, da⟩:=I.dictAt he hd
    have hl:=rel.length
    rw [hl] at st
    obtain ⟨f0, f1, f2, f3, f4, f5⟩:=hf it (.head _)
    exact wpAny_pyNext_dict_end (I.ok.hd hc) st da (List.getElem?_eq_none (by omega)) λh' eb=>⟨rfl, I.turned (t':=s.toks) (λb o hb e=>eb b o hb e) f0 f1 f3 f4 f5⟩
  self:=λ_ _ _ _ _ st h=>wpAny_pyIter_keyiter st h
noncomputable def Ln (tl : TE) : TI:=λσ H R=>tl σ H λx H1=>∃ a o kvs, x = .ref a /\ H1 a = some (.frz o (.dK kvs)) /\ R (Itd a o kvs) H1
theorem DR {tg l : Expr} {tl : TE} (hl : PE X l tl) : PI X tg l (Ln tl):=by
  intro pins s σ H R I h
  refine thn (hl pins s σ H _ I h) λv s1 r9=>?_
  obtain ⟨x, H1, I1, r1, q1⟩:=r9
  obtain ⟨a, o, kvs, e, he, q⟩:=q1
  subst e
  cases r1
  obtain ⟨h1, _, hs, vs, rel, o', es, ep, g1, g2, g3, g4⟩:=(show YC X.prog X.w H1 s1.heap a (.frz o (.dK kvs)) from I1.hok a _ he)
  rw [h1] at g1
  cases g1
  refine wpAny_pyIter_dict (knd:=Ys X.prog X.w) (kvs:=vs) (ep:=ep) hs ⟨o, es, h1, g2, g3, g4⟩ ?_
  rw [← rel.length]
  refine ⟨s1.heap.objs.size, [s1.heap.objs.size], _, _, H1, rfl, I1.kept (t':=s1.toks) λb o e=>Heap.get?_push_of_some _ e, DU a _ o kvs g3, ⟨_, Heap.get?_push_size _ rfl, rfl, rfl⟩, λb hb=>?_, q⟩
  have e : b = s1.heap.objs.size:=by simpa using hb
  subst e
  exact I1.fpOk (Nat.le_refl _) (I1.hok.fresh (Nat.le_refl _))
end
theorem LS {prog : Program} {w : World} {A : Around} {K : Type} [DecidableEq K] {knd : KeyKind prog w K} {I d : Addr} {kvs : List (K × Value)} {ep : Nat} (hh : A.handled = none) (hne : d ≠ I) :
    WalksS prog w A I [I, d] [I] (λa b=>a = b) kvs.length (λi v=>∃ k x, kvs[i]? = some (k, x) /\ knd.is k v = true) (λi s=>s.heap.IsKeyIter I d i kvs.length ep /\ Heap.DictAt knd s.heap d kvs ep) where
  sub:=by simp
  grefl:=λ_=>rfl
  gtrans:=λ_ _ _=>Eq.trans
  frame:=λi s h' tk st _ k=>⟨st.1.at λo e=>k I (by simp) o e, let ⟨o, es, ho, r⟩:=st.2; ⟨o, es, k d (by simp) o ho, r⟩⟩
  item:=λi s Q E hi st q=>by
    have hv : kvs[i]? = some (kvs[i].1, kvs[i].2):=by simp [hi]
    exact wpAny_pyNext_dict_item st.1 st.2 hv λkey h' hk st' sb=>q key _ ⟨_, _, hv, hk⟩ ⟨st', let ⟨o, es, ho, r⟩:=st.2; ⟨o, es, (sb.2 d hne).trans ho, r⟩⟩ ⟨λb o hb e=>(sb.2 b (by simpa using hb)).trans e, rfl, rfl, rfl, Nat.le_refl _⟩
  done:=λs Q E st q=>wpAny_pyNext_dict_end hh st.1 st.2 (List.getElem?_eq_none (Nat.le_refl _)) λh' eb=>q _ ⟨λb o hb e=>eb b o (by simpa using hb) e, rfl, rfl, rfl, Nat.le_refl _⟩
  self:=λi s Q E st h=>wpAny_pyIter_keyiter st.1 h
theorem KE {prog : Program} {w : World} {A : Around} {E : Value -> Shared -> Prop} {s : Shared} {K : Type} [DecidableEq K] {knd : KeyKind prog w K} {d : Addr} {kvs : List (K × Value)} {ep : Nat} {Q : List Value -> Shared -> Prop} (hh : A.in1.in1.handled = none) (hs : (d == sysModules) = false) (hd : Heap.DictAt knd s.heap d kvs ep) (hz : kvs.length <= sizeLine)
    (r : ∀ g tk vs, vs.length = kvs.length -> (∀ (j : Nat) v, vs[j]? = some v -> ∃ k x, kvs[j]? = some (k, x) /\ knd.is k v = true) -> (∀ b u, s.heap.get? b = some u -> g.get? b = some u) -> Q vs { s with heap:=g, toks:=tk }) : wpAny (model prog w) A (collect (.ref d)) Q E s:=by
  unfold collect
  refine wpAny_bind (wpAny_runValue (codeAny_builtin F.entry_proto_collect ?_))
  rw [Around.under_plainId F.plain_proto_collect]
  show wpAny _ A.in1 (newList [] >>= λl=>again (Code.builtin "list.__iadd__" { pos:=[l, .ref d] })) _ _ _
  refine wpAny_bind (wpAny_newList ?_)
  refine wpAny_pure ⟨by first | rfl | exact plainId_quiet (by decide +kernel) _, ?_⟩
  refine codeAny_builtin F.entry_list_iadd ?_
  rw [Around.under_plainId (show plainId "list.__iadd__" = true by decide +kernel)]
  generalize hS : s.heap.objs.size = S
  have hdl : d < S:=by obtain ⟨o, es, ho, _⟩:=hd; rw [← hS]; exact Heap.lt_size ho
  show wpAny _ A.in1 (slotArgs "__iadd__" 1 { pos:=[.ref S, .ref d] } >>= _) _ _ _
  refine wpAny_bind (wpAny_pure ?_)
  show wpAny _ A.in1 (Builtin.List.listExtendWith (.ref S) (.ref d) (.ref S)) _ _ _
  unfold Builtin.List.listExtendWith
  generalize hs1 : s.heap.push { cls:=Value.type "list", data:=Data.seq [].toArray } = h1
  have hd1 : Heap.DictAt knd h1 d kvs ep:=by
    obtain ⟨o, es, ho, ZN⟩:=hd
    exact ⟨o, es, by rw [← hs1]; exact Heap.get?_push_of_some _ ho, ZN⟩
  have hty : ∀ g tk, (⟨h1, g, s.drawn, tk, s.os⟩ : Shared).TypeIs (.ref d) "dict":=λg tk=>by
    obtain ⟨o, es, ho, hx, _⟩:=hd1
    exact ⟨o, ho, hx.1⟩
  refine wpAny_bind (wpAny_typeOf (hty _ _) ?_)
  rw [if_neg (by
    have : (S == d) = false:=by rw [beq_eq_false_iff_ne]; exact (Nat.ne_of_lt hdl).symm
    simp [Builtin.List.listSameRef, this])]
  refine wpAny_bind (wpAny_pyIter_dict hs hd1 ?_)
  generalize hI : h1.objs.size = I
  refine wpAny_bind (wpAny_holding ?_)
  unfold Builtin.List.listLengthHint
  have hty2 : ∀ tk, (⟨h1.push { cls:=Value.type "dict_keyiterator", data:=Data.fields #[Value.ref d, Value.int 0 0, Value.int (kvs.length : Int) 0, Value.int (ep : Int) 0] }, s.gens, s.drawn, tk, s.os⟩ : Shared).TypeIs (.ref d) "dict":=λtk=>by
    obtain ⟨o, es, ho, hx, _⟩:=hd1
    exact ⟨o, Heap.get?_push_of_some _ ho, hx.1⟩
  refine wpAny_bind (wpAny_specialOf (hty2 _) F.slot_dict_len.lookup ?_)
  have hsp : splitId "dict.__len__" = some ("dict", "__len__"):=by decide +kernel
  dsimp only
  rw [hsp]
  dsimp only
  refine wpAny_bind (wpAny_isInstance (hty2 _) (by first | rfl | kernel_rfl) ?_)
  rw [if_neg (by decide)]
  show wpAny _ _ (if _ then _ else _) _ _ _
  rw [if_pos (by first | rfl | decide +kernel)]
  refine wpAny_bind (wpAny_typeOf (hty2 _) ?_)
  refine wpAny_pure ?_
  rw [if_pos (by decide +kernel)]
  have hSI : S < I:=by rw [← hI, ← hs1, ← hS]; simp [Heap.push]
  have hSs : h1.get? S = some { cls:=Value.type "list", data:=Data.seq #[] 0 }:=by rw [← hs1, ← hS]; exact Heap.get?_push_size _ rfl
  have hSs2:=Heap.get?_push_of_some ({ cls:=Value.type "dict_keyiterator", data:=Data.fields #[Value.ref d, Value.int 0 0, Value.int (kvs.length : Int) 0, Value.int (ep : Int) 0] }) hSs
  have hIt : (h1.push { cls:=Value.type "dict_keyiterator", data:=Data.fields #[Value.ref d, Value.int 0 0, Value.int (kvs.length : Int) 0, Value.int (ep : Int) 0] }).IsKeyIter I d 0 kvs.length ep:=by
    rw [← hI]
    exact ⟨_, Heap.get?_push_size _ rfl, rfl, rfl⟩
  have hDa : Heap.DictAt knd (h1.push { cls:=Value.type "dict_keyiterator", data:=Data.fields #[Value.ref d, Value.int 0 0, Value.int (kvs.length : Int) 0, Value.int (ep : Int) 0] }) d kvs ep:=by
    obtain ⟨o, es, ho, ZN⟩:=hd1
    exact ⟨o, es, Heap.get?_push_of_some _ ho, ZN⟩
  have hold : ∀ b u, s.heap.get? b = some u -> (h1.push { cls:=Value.type "dict_keyiterator", data:=Data.fields #[Value.ref d, Value.int 0 0, Value.int (kvs.length : Int) 0, Value.int (ep : Int) 0] }).get? b = some u:=λb u hb=>by
    refine Heap.get?_push_of_some _ ?_
    rw [← hs1]
    exact Heap.get?_push_of_some _ hb
  generalize h1.push { cls:=Value.type "dict_keyiterator", data:=Data.fields #[Value.ref d, Value.int 0 0, Value.int (kvs.length : Int) 0, Value.int (ep : Int) 0] } = h2 at *
  refine wpAny_bind (wpAny_rule ?_)
  refine wpAny_bind ?_
  unfold Builtin.List.listTouch
  refine wpAny_bind ?_
  refine wpAny_updateSeq (o:={ cls:=Value.type "list", data:=Data.seq #[] 0 }) hSs2 rfl ?_ (by decide) (by decide)
  have g1:=Heap.get?_update_self (h:=h2) (Obj.mapSeq λx=>x.push Value.none) hSs2 rfl
  refine wpAny_updateSeq (o:=(Obj.mapSeq (λx=>x.push Value.none) { cls:=Value.type "list", data:=Data.seq #[] 0 })) g1 rfl ?_ (by decide) (by decide)
  have g2:=Heap.get?_update_self (h:=h2.update S (Obj.mapSeq λx=>x.push Value.none)) (Obj.mapSeq λx=>x.pop) g1 rfl
  have g3 : ∀ b, b ≠ S -> ((h2.update S (Obj.mapSeq λx=>x.push Value.none)).update S (Obj.mapSeq λx=>x.pop)).get? b = h2.get? b:=λb hb=>by
    rw [Heap.get?_update_ne _ _ _ _ hb, Heap.get?_update_ne _ _ _ _ hb]
  refine wpAny_pure ⟨by first | rfl | exact plainId_quiet (by decide +kernel) _, ?_⟩
  have hdS : d ≠ S:=Nat.ne_of_lt hdl
  refine codeAny_extend_loopS (LS (A:=A.in1) (knd:=knd) (kvs:=kvs) (ep:=ep) (I:=I) (d:=d) hh (Nat.ne_of_lt (Nat.lt_trans hdl hSI))) hz S (by simp; exact ⟨Nat.ne_of_lt hSI, (Nat.ne_of_lt hdl).symm⟩) (.ref S) kvs.length 0 _ #[] _ rfl (Nat.zero_le _) ⟨?_, ?_⟩ g2 ⟨rfl, λj v h=>by simp at h⟩ λs' acc c m hS' hit=>?_
  . exact hIt.at λo e=>(g3 I (Nat.ne_of_lt hSI).symm).trans e
  . obtain ⟨o, es, ho, ZN⟩ := hDa
    exact ⟨o, es, (g3 d hdS).trans ho, ZN⟩
  . refine wpAny_bind (wpAny_load hS' ?_)
    refine wpAny_pure ?_
    obtain ⟨hp, g, dr, tk, os⟩:=s'
    have m1:=m.heap
    obtain rfl : s.gens = g:=m.gens
    obtain rfl : dr = s.drawn:=m.drawn
    obtain rfl : os = s.os:=m.os
    refine r hp tk acc.toList (by simpa using hit.1) (λj v h=>hit.2 j v (by simpa using h)) λb u hb=>?_
    have lb : b < S:=by rw [← hS]; exact Heap.lt_size hb
    refine m1 b u (by simp; exact ⟨Nat.ne_of_lt lb, Nat.ne_of_lt (Nat.lt_trans lb hSI)⟩) ?_
    exact (g3 b (Nat.ne_of_lt lb)).trans (hold b u hb)
section
variable {X : Cx}
theorem Qp {h : Heap} {a b : Addr} {vs : List Value} {out : Array Value} {o : Obj} (hb : b ≠ a) (e : h.get? b = some o) : (sortedHeap h a vs out).get? b = some o:=
  Heap.get?_update_of_ne _ hb.symm (Heap.get?_push_of_some _ (Heap.get?_push_of_some _ (Heap.get?_update_of_ne _ hb.symm e)))
theorem Dv {ns : List Int} {vs : List Value} (hl : vs.length = ns.length) (h : ∀ (j : Nat) v, vs[j]? = some v -> ∃ n, ns[j]? = some n /\ VD (.inl n) v = true) : IntsAre vs ns:=by
  induction vs generalizing ns with
  | nil=>
    cases ns with
    | nil=>exact .nil
    | cons=>exact absurd hl (by simp)
  | cons v vs ih=>
    cases ns with
    | nil=>exact absurd hl (by simp)
    | cons n ns=>
      obtain ⟨n', e1, e2⟩:=h 0 v rfl
      cases e1
      obtain ⟨t, rfl⟩:=U9 e2
      exact .cons n t (ih (by simpa using hl) λj v hv=>h (j + 1) v hv)
noncomputable def Ep : List V -> Hp -> VK -> Prop:=λxs H Q=>∃ l kvs ns, xs = [.ref l] /\ H l = some (.dK kvs) /\ kvs.map (·.1) = ns.map Sum.inl /\ ns.length < 64 /\ ∀ p, H p = none -> Q (.ref p) (upd H p (.lst ((Y3 ns).map V.int)))
theorem JV (hc : X.calm = true) : Qb X (.builtin "sorted") Ep:=by
  intro pins s σ H xs us Q I r h
  obtain ⟨l, kvs, ns, rfl, he, hns, h64, q⟩:=h
  obtain ⟨u, rfl, ru⟩:=UU r
  cases ru
  obtain ⟨hz, hs, vs, rel, o, es, ep, g1, g2, g3, g4⟩:=(show YC X.prog X.w H s.heap l (.dK kvs) from I.hok l _ he)
  have hl:=rel.length
  have hln : kvs.length = ns.length:=by simpa using congrArg List.length hns
  refine Calls.call_function_entry kind_sorted plain_sorted entry_sorted (args_sorted1 _) ?_
  show wpAny _ _ (checkCount "sorted" 1 1 1 >>= λ_=>collect (.ref l) >>= λxs=>newList xs >>= λl=>holding [l] (call (.builtin "list.sort") [l] []) >>= λ_=>ret l) _ _ _
  refine wpAny_bind (wpAny_pure ?_)
  refine wpAny_bind (KE (knd:=Ys X.prog X.w) (kvs:=vs) (ep:=ep) (I.ok.hd hc) hs ⟨o, es, g1, g2, g3, g4⟩ (by omega) λg tk ws hw hk old=>?_)
  have iw : IntsAre ws ns:=Dv (by omega) λj v hv=>by
    obtain ⟨k, x, e1, e2⟩:=hk j v hv
    have hj : j < vs.length:=(List.getElem?_eq_some_iff.mp e1).1
    have hj2 : j < kvs.length:=by omega
    have hj3 : j < ns.length:=by omega
    refine ⟨ns[j], by simp [hj3], ?_⟩
    have h1 : (kvs[j]).1 = k:=by rw [rel.key hj2 hj, (List.getElem?_eq_some_iff.mp e1).2]
    have h2 : (kvs[j]).1 = .inl ns[j]:=by
      have:=congrArg (λl=>l[j]?) hns
      simpa [hj2, hj3] using this
    rw [← h2, h1]
    exact e2
  refine wpAny_bind (wpAny_newList ?_ (by omega))
  have gl : (g.push { cls:=Value.type "list", data:=Data.seq ws.toArray }).get? g.objs.size = some (seqObj "list" ws.toArray 0):=Heap.get?_push_size _ rfl
  refine wpAny_bind (wpAny_holding (wpAny_call_entry slot_list_sort ⟨_, gl, rfl⟩ entry_list_sort (list_sort_tree gl iw (by omega) λout ns' a1 a2 a3=>⟨_, rfl, ?_⟩) (args_list_sort _)))
  refine wpAny_pure ⟨_, rfl, ?_⟩
  obtain ⟨e, hat⟩:=sortedHeap_at (out:=out) gl
  have en : ns' = Y3 ns:=QG a2 a3
  have v:=QP a1
  rw [en] at v
  have I1 : Inv X pins σ H { s with heap:=g, toks:=tk }:=I.kept (t':=tk) old
  have hfr : H g.objs.size = none:=I1.hok.fresh (Nat.le_refl _)
  refine ⟨.ref g.objs.size, _, I1.laid (t':=tk) (λb o e=>Qp (Nat.ne_of_lt (Heap.lt_size e)) (Heap.get?_push_of_some _ e)) (Nat.le_refl _) (show YC X.prog X.w _ _ _ (.lst ((Y3 ns).map V.int)) from ⟨?_, out.toList, e, v, hat⟩), rfl, q _ hfr⟩
  rw [List.length_map, (YE ns).length_eq]
  omega
end
section
variable {K : PySem.W.Frag} {Er : Exc -> Hp -> Prop} {S : SC} {OO OO' OO2 : List (List XM)} {σ : St} {α β γ ρ ι δ ε : Type}
variable {Fd : Ends -> β -> Hp -> Prop} [fd : FdOk Fd] {u : TS}
noncomputable def rDf {α : Type} (r : Enc α) : Enc (List (Int × α)):=λK H v d=>∃ p o kvs, v = .ref p /\ H p = some (.frz o (.dK kvs)) /\ Paired (rDP r K H) kvs d
instance {r : Enc α} [m : MonoE r] : MonoE (rDf r):=⟨λs r9=>by obtain ⟨p, o, kvs, e, q, pr⟩:=r9; exact ⟨p, o, kvs, e, s _ _ q, Paired.imp2 (λ_ _ z=>⟨z.1, m.mono s z.2⟩) pr⟩⟩
theorem Ci {td ty : TE} {r : Enc α} {md : Rs (List (Int × α))} {mk : Rs Int} (hk : EvB K Er S OO σ ty Xb mk) (hd : EvB K Er S OO σ td (rDf r) md) : EvB K Er S OO σ (F6 ty td) Yw (mk.bind λk=>md.bind λd=>.ok (!(Qn d k).isSome)):=λH Q w s P=>
  hk.run w s FB.tr P λk y H1 s1 w1 q1 r1 P1=>hd.run w1 q1 FB.tr P1 λd x H2 s2 w2 q2 r9 P2=>by obtain ⟨p, o, kvs, e, q, pr⟩:=r9; exact ⟨p, KM kvs (.inl k), e, .inl ⟨kvs, .inl k, .inr ⟨o, q⟩, r1, rfl⟩, P2 _ H2 (Xx.refl _) (by rw [(Qz (k:=k) pr).2]; rfl)⟩
theorem VS {te : TE} {r : Enc α} [z : MonoE r] {m : Rs (List (Int × α))} (he : EvS K Er S OO σ te (rDf r) m) : Walk K Er S OO σ (Ln te) Xb (m.bind λd=>.ok (d.map (·.1))):=⟨fun {H R} w s P=>by
  refine he H _ w s ?_
  cases em : m with
  | bad=>rw [em] at P; exact P
  | err x=>rw [em] at P; exact P
  | ok d=>
    rw [em] at P
    intro v H' s' ⟨p, o, kvs, e, hp, pr⟩
    refine ⟨p, o, kvs, e, XH _ _ hp, P _ H' s' ?_ ?_⟩
    . intro i a ha OO2 H2 w2 m2
      rw [List.getElem?_map] at ha
      obtain ⟨kx, h1, h2⟩:=Option.map_eq_some_iff.mp ha
      obtain ⟨kv, hkv, rk⟩:=Paired.getR pr h1
      have hl : i < kvs.length:=(List.getElem?_eq_some_iff.mp hkv).1
      refine ⟨⟨XH _ _ (m2 _ _ hp), hl⟩, λy H3 r9=>?_⟩
      obtain ⟨e3, kv', hy, ey⟩:=r9
      subst e3
      rw [hkv] at hy
      cases hy
      refine ⟨Xx.refl _, ?_⟩
      show y = .int a
      rw [ey, rk.1, ← h2]
      rfl
    . intro OO2 H2 w2 m2
      exact ⟨XH _ _ (m2 _ _ hp), by rw [List.length_map, Paired.len pr]; exact Nat.le_refl _⟩⟩
class FlatTE {α : Type} (r : Enc α) : Prop where
  flat : ∀ {K : PySem.W.Frag} {H H' : Hp} {v : V} {a : α}, (∀ b xs, H b = some (.tup xs) -> H' b = some (.tup xs)) -> r K H v a -> r K H' v a
class FlatT {α : Type} (o : OE α) : Prop where
  flat : ∀ {K : PySem.W.Frag} {H H' : Hp} {v : V} {a : α} {C : List XM}, (∀ b xs, H b = some (.tup xs) -> H' b = some (.tup xs)) -> o K H v a C -> o K H' v a C
instance : FlatTE Xb:=⟨λ_ h=>h⟩
instance : FlatTE Yw:=⟨λ_ h=>h⟩
instance {r : Enc α} {q : Enc β} {t : Enc γ} [m : FlatTE r] [n : FlatTE q] [k : FlatTE t] : FlatTE (rP3 r q t):=⟨λs r9=>by obtain ⟨a, x, y, z, e, h, p1, p2, p3⟩:=r9; exact ⟨a, x, y, z, e, s _ _ h, m.flat s p1, n.flat s p2, k.flat s p3⟩⟩
instance {r : Enc α} {q : Enc β} [m : FlatTE r] [n : FlatTE q] : FlatTE (rP2 r q):=⟨λs r9=>by obtain ⟨a, x, y, e, h, p1, p2⟩:=r9; exact ⟨a, x, y, e, s _ _ h, m.flat s p1, n.flat s p2⟩⟩
instance {r : Enc α} [m : FlatTE r] : FlatTE (Zu r):=⟨fun {K H H' v a} s h=>by cases a with
  | none=>exact h
  | some a=>exact ⟨h.1, m.flat s h.2⟩⟩
instance {r : Enc α} [m : FlatTE r] : FlatT (oF r):=⟨λs h=>⟨h.1, m.flat s h.2⟩⟩
theorem UR {te : TE} {o : OE α} [y : FlatT o] {r : Enc γ} [z : MonoE r] {m : Rs α} {v : V} {a : List (Int × γ)} {C : List XM} (i k : Nat) (hσ : σ[i]? = some (some v)) (hk : OO[k]? = some C) (h : ∀ x, S.p x -> oD r K x v a C) (hm : ∀ x, m ≠ .err x)
    (he : Ev K Er (S.add K (rDf r) v a) (OO.set k []) (OO.set k []) σ te o m) : Ev K Er S OO OO σ (tFz i te) o m:=λH Q w s P=>by
  obtain ⟨d, kvs, e, pr, c⟩:=h _ s
  subst c e
  have hp:=X7 hk
  have wk : W ([(d, .dK kvs)] :: OO.set k []) H:=w.of hp
  have hH : H d = some (.dK kvs):=wk.cell (d, .dK kvs) (by simp)
  have hnd : d ∉ fl (OO.set k []):=by
    have:=wk.nd
    rw [Ya] at this
    exact λhb=>(List.nodup_append.mp this).2.2 d (by simp) d hb rfl
  have hin : ∀ {b : Addr}, b ∈ fl OO ↔ b = d ∨ b ∈ fl (OO.set k []):=fun {b}=>by
    rw [← Qy hp b, Ya]; simp
  refine ⟨d, kvs, hσ, hH, λob=>?_⟩
  have hne : ∀ {b : Addr} {x : HO}, b ∈ fl (OO.set k []) -> upd H d x b = H b:=fun {b x} hb=>Xw λq=>hnd (q ▸ hb)
  have wf : W (OO.set k []) (upd H d (.frz ob (.dK kvs))):=⟨λc hc=>by rw [hne (Jt hc)]; exact wk.tail.tr c hc, wk.tail.nd, wk.tail.mu⟩
  have hs : Xx (hid H OO) (hid (upd H d (.frz ob (.dK kvs))) (OO.set k [])):=λb x q=>by
    obtain ⟨q1, q2⟩:=XW q
    have hb : b ≠ d:=λe=>q2 (hin.mpr (.inl e))
    exact Zj (by rw [Xw hb]; exact q1) λe=>q2 (hin.mpr (.inr e))
  have hf : hid (upd H d (.frz ob (.dK kvs))) (OO.set k []) d = some (.frz ob (.dK kvs)):=Zj X8 hnd
  refine he _ _ wf ⟨S.mono _ _ hs s, d, ob, kvs, rfl, hf, Paired.imp2 (λ_ _ q=>⟨q.1, z.mono hs q.2⟩) pr⟩ ?_
  cases em : m with
  | bad=>rw [em] at P; exact P
  | err x=>exact absurd em (hm x)
  | ok b=>
    rw [em] at P
    intro v' D H' s' w' m' ho
    obtain ⟨hd1, hd2⟩:=XW (m' _ _ hf)
    have hne2 : ∀ {b : Addr} {x : HO}, b ∈ fl (D :: OO.set k []) -> upd H' d x b = H' b:=fun {b x} hb=>Xw λq=>hd2 (q ▸ hb)
    have w2 : W ([(d, .dK kvs)] :: D :: OO.set k []) (upd H' d (.dK kvs)):=by
      refine ⟨λc hc=>?_, ?_, λc hc=>?_⟩
      . rw [List.flatten_cons, List.mem_append] at hc
        rcases hc with hc | hc
        . have : c = (d, .dK kvs) := by simpa using hc
          rw [this]; exact X8
        . rw [hne2 (Jt hc)]; exact w'.tr c hc
      . rw [Ya]
        refine List.nodup_append.mpr ⟨by simp, w'.nd, λa ha b hb e=>?_⟩
        have : a = d:=by simpa using ha
        exact hd2 (this ▸ e ▸ hb)
      . rw [List.flatten_cons, List.mem_append] at hc
        rcases hc with hc | hc
        . have : c = (d, .dK kvs) := by simpa using hc
          rw [this]; rfl
        . exact w'.mu c hc
    have pe : (D :: OO).flatten.Perm ([(d, .dK kvs)] :: D :: OO.set k []).flatten:=by
      simp only [List.flatten_cons]
      refine List.Perm.trans (List.Perm.append_left D (by simpa using hp.symm : OO.flatten.Perm ([(d, .dK kvs)] ++ (OO.set k []).flatten))) ?_
      rw [← List.append_assoc, ← List.append_assoc]
      exact List.perm_append_comm.append_right _
    have hin2 : ∀ {b : Addr}, b ∈ fl (D :: OO) ↔ b = d ∨ b ∈ fl (D :: OO.set k []):=fun {b}=>by
      rw [Qy pe b, Ya]; simp
    refine ⟨hd1, P v' D _ (λb x q=>?_) (w2.of pe) (λb x q=>?_) (y.flat (λb xs q=>?_) ho)⟩
    . by_cases hb : b = d
      . subst hb; rw [hH] at q; rw [X8]; exact q
      . rw [Xw hb]; exact s' b x (by rw [Xw hb]; exact q)
    . obtain ⟨q1, q2⟩ := XW (m' _ _ (hs b x q))
      have hb : b ≠ d:=λe=>(XW q).2 (hin.mpr (.inl e))
      exact Zj (by rw [Xw hb]; exact q1) λe=>(hin2.mp e).elim hb q2
    . obtain ⟨q1, q2⟩ := XW q
      have hb : b ≠ d:=λe=>by rw [e, hd1] at q1; cases q1
      exact Zj (by rw [Xw hb]; exact q1) λe=>(hin2.mp e).elim hb q2
theorem Gh {H : Hp} {xs : List V} {ns : List Int} (h : Paired (Xb K H) xs ns) : xs = ns.map V.int:=by
  induction h with
  | nil=>rfl
  | cons r _ ih=>rw [List.map_cons, ih, show _ = V.int _ from r]
theorem Up {H : Hp} (ns : List Int) : Paired (Xb K H) (ns.map V.int) ns:=by
  induction ns with
  | nil=>exact .nil
  | cons n ns ih=>exact .cons rfl ih
theorem BA {ta : TE} {ma : Rs (List Int)} (ha : EvL K Er S OO σ ta Xb ma) : Ev K Er S OO OO σ (tCB (Ez K) (XG ta Z1)) (oL (oF Xb)) (ma.bind λas=>chk (as.length < 64) (.ok (Y3 as))):=λH Q w s P=>
  ha.run w s FO.tr P λas x H1 s1 w1 q1 ⟨p, xs, e, q, pr⟩ P1=>by
    obtain ⟨hl, P2⟩:=PZ.chk P1
    exact ⟨p, as, by rw [e], SqL.of (by rw [← Gh pr]; exact q), hl, Bd w1 (Up _) P2⟩
theorem E9 {r : Enc α} {H : Hp} {kvs : List (Key × V)} {d : List (Int × α)} (pr : Paired (rDP r K H) kvs d) : kvs.map (λkv=>kv.1) = (d.map λkx=>kx.1).map Sum.inl:=by
  induction pr with
  | nil=>rfl
  | cons r _ ih=>rw [List.map_cons, List.map_cons, List.map_cons, r.1, ih]
theorem BI {ta : TE} {r : Enc α} {ma : Rs (List (Int × α))} (ha : EvB K Er S OO σ ta (rD r) ma) : Ev K Er S OO OO σ (tCB Ep (XG ta Z1)) (oL (oF Xb)) (ma.bind λd=>chk (d.length < 64) (.ok (Y3 (d.map (·.1))))):=λH Q w s P=>
  ha.run w s FO.tr P λd x H1 s1 w1 q1 ⟨p, kvs, e, q, pr⟩ P1=>by
    obtain ⟨hl, P2⟩:=PZ.chk P1
    have P3 : FO K OO OO (oL (oF Xb)) Q (Y3 (d.map λkx=>kx.1)) H1:=P2
    exact ⟨p, kvs, d.map λkx=>kx.1, by rw [e], q, E9 pr, by rw [List.length_map]; exact hl, Bd w1 (Up _) P3⟩
noncomputable def Vs (d ps : List (Int × α)) : List (Int × α):=ps.foldl (λd p=>Z4 d p.1 p.2) d
theorem Kp {r : Enc α} {H : Hp} {kvs : List (Key × V)} {ps : List (Int × α)} (h : Paired (rDP r K H) kvs ps) : ∀ {acc : List (Key × V)} {d : List (Int × α)}, Paired (rDP r K H) acc d -> Paired (rDP r K H) (QR acc kvs) (Vs d ps):=by
  induction h with
  | nil=>intro acc d h; exact h
  | @cons kv kx _ _ r _ ih=>
    intro acc d h
    have:=Vw (k:=kx.1) r.2 h
    rw [← r.1] at this
    exact ih this
theorem Di {r : Enc α} {h H : Hp} (hs : Xx h H) {xs : List V} {ps : List (Int × α)} (p : Paired (rP2 Xb r K h) xs ps) : ∃ kvs, Paired (λp (kv : Key × V)=>∃ t, p = .ref t /\ SqT K H t [kV kv.1, kv.2]) xs kvs /\ Paired (rDP r K h) kvs ps:=by
  induction p with
  | nil=>exact ⟨[], .nil, .nil⟩
  | @cons x pr _ _ q _ ih=>
    obtain ⟨kvs, h1, h2⟩:=ih
    obtain ⟨t, a, b, e, ht, e1, e2⟩:=q
    have e1 : a = .int pr.1:=e1
    subst e1
    exact ⟨(.inl pr.1, b) :: kvs, .cons ⟨t, e, SqT.of (hs _ _ ht)⟩ h1, .cons ⟨rfl, e2⟩ h2⟩
theorem G3 {ta : TE} {r : Enc α} [z : MonoE r] {ma : Rs (List (Int × α))} (ha : EvL K Er S OO σ ta (rP2 Xb r) ma) : Ev K Er S OO OO σ (tCB (EF K) (XG ta Z1)) (oD r) (ma.bind λps=>.ok (Vs [] ps)):=λH Q w s P=>
  ha.run w s FO.tr P λps x H1 s1 w1 q1 ⟨p, xs, e, q, pr⟩ P1=>by
    obtain ⟨kvs, h1, h2⟩:=Di (XH (H:=H1) (OO:=OO)) pr
    refine ⟨p, xs, kvs, by rw [e], SqL.of q, h1, λd hd=>?_⟩
    have hn:=UE (OO:=OO) hd (o:=.dK (QR [] kvs))
    exact P1 (.ref d) [(d, .dK (QR [] kvs))] _ (XT hd _) (w1.new hd rfl) hn ⟨d, _, rfl, Paired.imp2 (λ_ _ h=>⟨h.1, z.mono hn h.2⟩) (Kp h2 .nil), rfl⟩
end
section
variable {prog : Program} {w : World} {A : Around}
end
section
variable {X : Cx}
end
section
variable {K : PySem.W.Frag} {Er : Exc -> Hp -> Prop} {S : SC} {OO OO' OO1 OO2 : List (List XM)} {σ : St} {α β γ ρ ι δ ε : Type}
variable {Fd : Ends -> β -> Hp -> Prop} [fd : FdOk Fd] {u : TS}
end
theorem int_at {ns : List Int} {xs : Array Value} (hx : Yd (ns.map V.int) xs.toList) (i : Nat) : (ns[i]? = none /\ xs[i]? = none) ∨ ∃ a t, ns[i]? = some a /\ xs[i]? = some (.int a t):=by
  have hl : ns.length = xs.size:=by have:=hx.length; simpa using this
  rcases Nat.lt_or_ge i ns.length with h | h
  . obtain ⟨u, hu, ru⟩ := hx.get (i := i) (x := .int ns[i]) (by simp [h])
    obtain ⟨t, rfl⟩:=ru
    exact .inr ⟨ns[i], t, by simp [h], by simpa using hu⟩
  . exact .inl ⟨List.getElem?_eq_none h, by simp; omega⟩
section
variable {X : Cx}
end
section
variable {K : PySem.W.Frag} {Er : Exc -> Hp -> Prop} {S : SC} {OO OO' OO1 OO2 : List (List XM)} {σ : St} {α β γ ρ ι δ ε : Type}
noncomputable def IG [DecidableEq α] (as : List α) (a : α) (k : Int) : Rs Int:=chk (0 <= k) ((Bw (as.drop k.toNat) a).bind λj=>.ok (k + j))
theorem Fc [DecidableEq α] {ta tb tc : TE} {r : Enc α} [z : InE r] [y : MonoE r] {ma : Rs (List α)} {mb : Rs α} {mc : Rs Int} (ha : EvB K Er S OO σ ta (rV r) ma) (hb : EvB K Er S OO σ tb r mb) (hc : EvB K Er S OO σ tc Xb mc) : EvB K Er S OO σ (tBM K "list" (F7 K) ta (XG tb (XG tc Z1))) Xb (ma.bind λas=>mb.bind λa=>mc.bind λk=>IG as a k):=λH Q w s P=>
  ha.run w s FB.tr P λas x H1 s1 w1 q1 ⟨p, xs, e, q, pr⟩ P1=>⟨by rw [e]; exact .inl ⟨rfl, _, SqL.of q⟩, hb.run w1 q1 FB.tr P1 λb v H2 s2 w2 q2 r2 P2=>hc.run w2 q2 FB.tr P2 λk vk H3 s3 w3 q3 r3 P3=>by
    obtain ⟨hk0, P4⟩:=PZ.chk P3
    have pr2:=Paired.imp2 (G:=r K H3) (λ_ _ h=>y.mono (s2.trans s3) h) pr
    have r2':=y.mono s3 r2
    cases hi : Bw (as.drop k.toNat) b with
    | bad=>rw [hi] at P4; exact P4.elim
    | err x=>exact absurd hi DQ
    | ok c=>
      rw [hi] at P4
      obtain ⟨j, hj, rfl⟩:=Cm hi
      obtain ⟨h1, h2⟩:=V4 r2' (Paired.drop' k.toNat pr2) hj
      obtain ⟨zz, hz1, hz2⟩:=h1
      rw [List.getElem?_drop] at hz1
      refine ⟨p, xs, v, k.toNat, k.toNat + j, k, e, by rw [show vk = .int k from r3], by omega, SqL.of ((s2.trans s3) _ _ q), z.fl r2', (Qa r2' pr2).1, Nat.le_add_right _ _, ⟨zz, hz1, hz2⟩, λm z hm1 hm2 hz=>?_, ?_⟩
      . refine h2 (m - k.toNat) z (by omega) ?_
        rw [List.getElem?_drop, show k.toNat + (m - k.toNat) = m by omega]
        exact hz
      . have := P4 (.int (k + (j : Int))) H3 (Xx.refl _) rfl
        rw [show ((k.toNat + j : Nat) : Int) = k + (j : Int) by omega]
        exact this⟩
end
section
variable {K : PySem.W.Frag} {Er : Exc -> Hp -> Prop} {S : SC} {OO OO' OO1 OO2 : List (List XM)} {σ : St} {α β γ ρ ι δ ε : Type}
noncomputable def tk (k : List Int) : List Key:=k.map Sum.inl
variable {Fd : Ends -> β -> Hp -> Prop} [fd : FdOk Fd] {u : TS}
end
section
variable {X : Cx} {α : Type} [DecidableEq α] {r : Enc α} {d : Nat}
end
section
variable {K : PySem.W.Frag} {Er : Exc -> Hp -> Prop} {S : SC} {OO OO' OO1 OO2 : List (List XM)} {σ : St} {α β γ ρ ι δ ε : Type}
end
section
variable {X : Cx} {pins : List (Addr × Obj)} {σ : St} {H : Hp} {s : Shared} {h' : Heap}
theorem Inv.turns {t' : Nat} {ch : List Addr} (I : Inv X pins σ H s) (k : ∀ b o, b ∉ ch -> s.heap.get? b = some o -> h'.get? b = some o) (hf : ∀ b ∈ ch, KQ X pins H b) : Inv X pins σ H { s with heap:=h', toks:=t' }:=by
  have nit : ∀ b o, H b = some o -> b ∉ ch:=λb o e z=>by rw [(hf b z).1] at e; cases e
  refine I.step (g':=s.gens) (d':=s.drawn) (ch:=ch) (λb hb=>?_) (λb o _ _ hc e _=>k b o hc e) (λb o _ _ hc e _=>⟨o.slots, k b o hc e⟩)
    (λb o _ e n=>n) (λb o hc e=>⟨o, k b o hc e⟩) (λb xs e=>e) (λb o xs e=>e) (λb ps e=>⟨#[], by rw [e]; simp⟩) (λm hm=>?_) (λb v e=>?_) I.bare
  . obtain ⟨f0, f1, f2, f3, f4, f5⟩ := hf b hb
    exact ⟨f3, f1, f4, f5⟩
  . obtain ⟨o, es, ep, ho, r⟩ := hm
    exact ⟨o, es, ep, k _ o (λz=>(hf _ z).2.1 rfl) ho, r⟩
  . refine (I.hok b v e).stay (λc o hc q => k c o ?_ q) (λc q => q) λc xs q => q
    rcases hc with z | z
    . rw [z]; exact nit b v e
    . exact nit c _ z
end
section
variable {X : Cx} {elts : List Expr} {k : Nat} {pos0 : Pos}
end
section
variable {K : PySem.W.Frag} {Er : Exc -> Hp -> Prop} {S : SC} {OO OO' OO1 OO2 : List (List XM)} {σ : St} {α β γ ρ ι δ ε : Type}
end
section
variable {X : Cx}
end
section
variable {K : PySem.W.Frag} {Er : Exc -> Hp -> Prop} {S : SC} {OO OO' OO1 OO2 : List (List XM)} {σ : St} {α β γ ρ ι δ ε : Type}
variable {Fd : Ends -> β -> Hp -> Prop} [fd : FdOk Fd] {u : TS}
end
section
variable {K : PySem.W.Frag} {Er : Exc -> Hp -> Prop} {S : SC} {OO OO' OO1 OO2 : List (List XM)} {σ : St} {α β γ ρ ι δ ε : Type} {u : TS}
end
section
variable {X : Cx}
end
section
variable {K : PySem.W.Frag} {Er : Exc -> Hp -> Prop} {S : SC} {OO : List (List XM)} {σ : St}
end
section
variable {X : Cx} {pins : List (Addr × Obj)} {σ : St} {H : Hp} {s : Shared} {d : Addr} {o : Obj} {kvs : List (Key × V)}
end
section
variable {X : Cx}
end
section
variable {K : PySem.W.Frag} {Er : Exc -> Hp -> Prop} {S : SC} {OO OO' OO1 OO2 OO3 : List (List XM)} {σ : St} {α β γ ρ ι δ ε ζ : Type}
variable {Fd : Ends -> β -> Hp -> Prop} [fd : FdOk Fd] {u : TS}
instance {o : OE α} [m : FlatT o] : FlatT (oL o):=⟨λs r9=>by obtain ⟨p, xs, Cs, e, q, c⟩:=r9; exact ⟨p, xs, Cs, e, q.imp λ_ _ _ z=>m.flat s z, c⟩⟩
noncomputable def oT3 (o : OE α) (q : OE β) (t : OE γ) : OE (α × β × γ):=λK h v a C=>∃ p x y z C1 C2 C3, v = .ref p /\ h p = some (.tup [x, y, z]) /\ o K h x a.1 C1 /\ q K h y a.2.1 C2 /\ t K h z a.2.2 C3 /\ C = C1 ++ (C2 ++ C3)
instance {o : OE α} {q : OE β} {t : OE γ} [m : MonoO o] [n : MonoO q] [k : MonoO t] : MonoO (oT3 o q t):=⟨λs r9=>by obtain ⟨p, x, y, z, C1, C2, C3, e, h, h1, h2, h3, c⟩:=r9; exact ⟨p, x, y, z, C1, C2, C3, e, s _ _ h, m.mono s h1, n.mono s h2, k.mono s h3, c⟩⟩
instance {o : OE α} {q : OE β} {t : OE γ} [m : FlatO o] [n : FlatO q] [k : FlatO t] : FlatO (oT3 o q t):=⟨λs r9=>by obtain ⟨p, x, y, z, C1, C2, C3, e, h, h1, h2, h3, c⟩:=r9; exact ⟨p, x, y, z, C1, C2, C3, e, s _ _ h rfl, m.flat s h1, n.flat s h2, k.flat s h3, c⟩⟩
instance {o : OE α} {q : OE β} {t : OE γ} {ro : Enc α} {rq : Enc β} {rt : Enc γ} [m : FrzC o ro] [n : FrzC q rq] [k : FrzC t rt] : FrzC (oT3 o q t) (rP3 ro rq rt):=⟨λ⟨p, x, y, z, C1, C2, C3, e, h, h1, h2, h3, c⟩ s hc=>by
  subst c
  exact ⟨p, x, y, z, e, s _ _ h, m.frz h1 s λc hm=>hc c (by simp [hm]), n.frz h2 s λc hm=>hc c (by simp [hm]), k.frz h3 s λc hm=>hc c (by simp [hm])⟩⟩
end
section
variable {K : PySem.W.Frag} {Er : Exc -> Hp -> Prop} {S : SC} {OO OO' OO1 OO2 : List (List XM)} {σ : St} {α β γ ρ ι δ ε ζ : Type}
variable {Fd : Ends -> β -> Hp -> Prop} [fd : FdOk Fd] {u : TS}
end
section
variable {K : PySem.W.Frag} {Er : Exc -> Hp -> Prop} {S : SC} {OO OO' OO1 OO2 : List (List XM)} {σ : St} {α β γ ρ ι δ ε ζ : Type}
variable {Fd : Ends -> β -> Hp -> Prop} [fd : FdOk Fd] {u : TS}
end
section
variable {K : PySem.W.Frag} {Er : Exc -> Hp -> Prop} {S : SC} {OO OO' OO1 OO2 : List (List XM)} {σ : St} {α β γ ρ ι δ ε ζ α1 α3 α4 : Type}
variable {Fd : Ends -> β -> Hp -> Prop} [fd : FdOk Fd] {u : TS}
end
end L2
namespace L2
open PySem
noncomputable def Inc (xs : Array Nat) : Prop:=xs.toList.Pairwise (· < ·)
theorem Inc.lt {xs : Array Nat} (h : Inc xs) {i j v u : Nat} (hij : i < j) (hi : xs[i]? = some v) (hj : xs[j]? = some u) : v < u:=by
  rw [← Array.getElem?_toList] at hi hj
  obtain ⟨a, rfl⟩:=List.getElem?_eq_some_iff.mp hi
  obtain ⟨b, rfl⟩:=List.getElem?_eq_some_iff.mp hj
  exact List.pairwise_iff_getElem.mp h i j a b hij
theorem Inc.le {xs : Array Nat} (h : Inc xs) {i j v u : Nat} (hij : i <= j) (hi : xs[i]? = some v) (hj : xs[j]? = some u) : v <= u:=by
  rcases Nat.lt_or_eq_of_le hij with z | z
  . exact Nat.le_of_lt (h.lt z hi hj)
  . subst z; rw [hi] at hj; cases hj; exact Nat.le_refl _
theorem UD {xs : Array Nat} (hx : Inc xs) (j : Nat) : ∀ (fuel lo hi : Nat), hi - lo <= fuel -> lo <= hi -> hi <= xs.size -> (∀ i v, i < lo -> xs[i]? = some v -> v < j) -> (∀ i v, hi <= i -> xs[i]? = some v -> j <= v) ->
    SetTable.below.go xs j fuel lo hi <= hi /\ (∀ i v, i < SetTable.below.go xs j fuel lo hi -> xs[i]? = some v -> v < j) /\ (∀ i v, SetTable.below.go xs j fuel lo hi <= i -> xs[i]? = some v -> j <= v)
  | 0, lo, hi, h, h1, h2, a, b=>by
    have e : lo = hi:=by omega
    subst e
    exact ⟨Nat.le_refl _, a, b⟩
  | fuel + 1, lo, hi, h, h1, h2, a, b=>by
    unfold SetTable.below.go
    by_cases hlt : lo < hi
    . have hm : (lo + hi) / 2 < xs.size := by omega
      have hg : xs[(lo + hi) / 2]? = some (xs.getD ((lo + hi) / 2) j):=by simp [hm]
      simp only [if_pos hlt]
      by_cases hc : xs.getD ((lo + hi) / 2) j < j
      . rw [if_pos hc]
        exact UD hx j fuel _ hi (by omega) (by omega) h2 (λi v hi' e=>Nat.lt_of_le_of_lt (hx.le (by omega) e hg) hc) b
      . rw [if_neg hc]
        obtain ⟨p, q, r⟩:=UD hx j fuel lo ((lo + hi) / 2) (by omega) (by omega) (by omega) a (λi v hi' e=>Nat.le_trans (Nat.le_of_not_lt hc) (hx.le hi' hg e))
        exact ⟨by omega, q, r⟩
    . simp only [if_neg hlt]
      have e : lo = hi:=by omega
      subst e
      exact ⟨Nat.le_refl _, a, b⟩
theorem Ja {xs : Array Nat} (hx : Inc xs) (j : Nat) : SetTable.below xs j <= xs.size /\ (∀ i v, i < SetTable.below xs j -> xs[i]? = some v -> v < j) /\ (∀ i v, SetTable.below xs j <= i -> xs[i]? = some v -> j <= v):=
  UD hx j xs.size 0 xs.size (by omega) (Nat.zero_le _) (Nat.le_refl _) (λi v h=>absurd h (Nat.not_lt_zero _)) λi v h e=>by
    rw [Array.getElem?_eq_none h] at e; cases e
theorem Fj {xs : Array Nat} (hx : Inc xs) : SetTable.below xs 0 = 0:=by
  obtain ⟨a, b, c⟩:=Ja hx 0
  rcases Nat.eq_zero_or_pos (SetTable.below xs 0) with h | h
  . exact h
  . have hs : 0 < xs.size := by omega
    exact absurd (b 0 xs[0] h (by simp [hs])) (Nat.not_lt_zero _)
theorem Fe {xs : Array Nat} (hx : Inc xs) {i v : Nat} (e : xs[i]? = some v) : SetTable.below xs (v + 1) = i + 1:=by
  obtain ⟨a, b, c⟩:=Ja hx (v + 1)
  have h1 : i < SetTable.below xs (v + 1):=by
    rcases Nat.lt_or_ge i (SetTable.below xs (v + 1)) with h | h
    . exact h
    . exact absurd (c i v h e) (by omega)
  rcases Nat.lt_or_ge (i + 1) (SetTable.below xs (v + 1)) with h | h
  . have hs : i + 1 < xs.size := by omega
    have g : xs[i + 1]? = some xs[i + 1]:=by simp [hs]
    have:=b (i + 1) _ h g
    have:=hx.lt (Nat.lt_succ_self i) e g
    omega
  . omega
theorem Fp {xs : Array Nat} (hx : Inc xs) {j : Nat} (hn : xs[SetTable.below xs j]? ≠ some j) : Inc (SetTable.insertAt xs (SetTable.below xs j) j):=by
  obtain ⟨a, b, c⟩:=Ja hx j
  generalize SetTable.below xs j = p at *
  unfold Inc
  rw [SetTable.toList_insertAt, List.pairwise_append, List.pairwise_cons]
  have hd : ∀ u ∈ xs.toList.drop p, j < u:=λu hu=>by
    obtain ⟨k, e⟩:=List.getElem?_of_mem hu
    rw [List.getElem?_drop, Array.getElem?_toList] at e
    have h1:=c (p + k) u (Nat.le_add_right _ _) e
    rcases Nat.lt_or_eq_of_le h1 with z | z
    . exact z
    . subst z
      rcases Nat.eq_zero_or_pos k with z | z
      . subst z; exact absurd e hn
      . have hs : p < xs.size:=by
          have:=(Array.getElem?_eq_some_iff.mp e).1
          omega
        have g : xs[p]? = some xs[p]:=by simp [hs]
        have h2:=c p _ (Nat.le_refl _) g
        have h3:=hx.lt (show p < p + k by omega) g e
        omega
  have ht : ∀ u ∈ xs.toList.take p, u < j:=λu hu=>by
    obtain ⟨k, e⟩:=List.getElem?_of_mem hu
    rw [List.getElem?_take] at e
    split at e
    . rename_i hk
      rw [Array.getElem?_toList] at e
      exact b k u hk e
    . cases e
  refine ⟨List.Pairwise.sublist (List.take_sublist _ _) hx, ⟨hd, List.Pairwise.sublist (List.drop_sublist _ _) hx⟩, λu hu y hy=>?_⟩
  rcases List.mem_cons.mp hy with z | z
  . rw [z]; exact ht u hu
  . exact Nat.lt_trans (ht u hu) (hd y z)
structure TOk (t : SetTable) (led : Bool) : Prop where
  inc : Inc t.place
  dum : t.dummies = #[]
  led : t.led = led
theorem TOk.fresh (f m : Nat) (led : Bool) : TOk (.fresh f m led) led:=⟨List.Pairwise.nil, rfl, rfl⟩
theorem TOk.standIn {t : SetTable} {led : Bool} (h : TOk t led) (n : Nat) : TOk (t.standIn n) led:=⟨by unfold Inc SetTable.standIn; simpa using List.pairwise_lt_range, rfl, h.led⟩
theorem U5 {t : SetTable} (hd : t.dummies = #[]) (j : Nat) : (t.slot j = .empty -> t.place[SetTable.below t.place j]? ≠ some j) /\ t.slot j ≠ .dummy:=by
  unfold SetTable.slot
  have hh : SetTable.has t.dummies j = false:=by rw [hd]; simp [SetTable.has]
  simp only [hh]
  by_cases h : t.place[SetTable.below t.place j]? = some j
  . simp [h]
  . simp [h]
theorem JW {t : SetTable} (hd : t.dummies = #[]) {f : Nat -> Int} {h : Int} {j : Nat} {d : Option Nat} : ∀ (fuel : Nat) (p : SetTable.Probe), p.dummy = none -> SetTable.probe.go t f h fuel p = some (.empty j d) -> d = none /\ t.slot j = .empty
  | 0, p, _, e=>by cases e
  | fuel + 1, p, hp, e=>by
    unfold SetTable.probe.go at e
    have adv : (t.advance p).dummy = none:=by unfold SetTable.advance; split <;> exact hp
    cases hs : t.slot p.j with
    | empty=>rw [hs] at e; cases e; exact ⟨hp, hs⟩
    | dummy=>exact absurd hs (U5 hd _).2
    | live i=>
      rw [hs] at e
      dsimp only at e
      split at e
      . cases e
      . exact JW hd fuel _ adv e
theorem Cb {t : SetTable} {led : Bool} (h : TOk t led) (es : Array (Int × Value)) (k : Int) (x : Value) : TOk (layNew t es k x).2.1 led:=by
  unfold layNew
  cases hf : t.freeSlot k with
  | none=>exact h.standIn _
  | some q=>
    obtain ⟨sl, wd⟩:=q
    dsimp only
    have hk : TOk (t.put sl).1 led:=by
      unfold SetTable.freeSlot at hf
      cases hp : t.probe (λ_=>k + 1) k (t.probeStart k) with
      | none=>rw [hp] at hf; cases hf
      | some m=>
        rw [hp] at hf
        cases m with
        | candidate=>cases hf
        | empty j d=>
          obtain ⟨rfl, hs⟩:=JW h.dum _ _ rfl hp
          cases hf
          have hh : SetTable.has t.dummies j = false:=by rw [h.dum]; simp [SetTable.has]
          refine ⟨Fp h.inc ((U5 h.dum j).1 hs), ?_, h.led⟩
          show (if SetTable.has t.dummies j then _ else t.dummies) = #[]
          rw [hh]; exact h.dum
    unfold SetTable.orStandIn
    split
    . exact hk
    . exact hk.standIn _
theorem Gg {t : SetTable} {led : Bool} (h : TOk t led) (es : Array (Int × Value)) (k : Nat) : TOk (relayAll t es k).2.1 led:=by
  unfold relayAll
  cases hr : t.relaid (es.map (·.1)) k with
  | none=>exact h.standIn _
  | some q=>
    obtain ⟨t', ord⟩:=q
    dsimp only
    split
    . unfold SetTable.relaid SetTable.laid at hr
      cases ho : SetTable.layClean (SetTable.sizeAbove k - 1) (es.map (·.1)) with
      | none=>rw [ho] at hr; cases hr
      | some ow=>
        rw [ho] at hr
        cases hr
        refine ⟨?_, rfl, h.led⟩
        unfold Inc
        show List.Pairwise (· < ·) (List.map (·.1) ((List.range _).filterMap λj=>(ow.getD j none).map (j, ·)))
        rw [List.map_filterMap]
        have e : (λj=>Option.map (λx : Nat × Nat=>x.1) ((ow.getD j none).map (j, ·))) = λj=>if (ow.getD j none).isSome then some j else none:=by
          funext j
          cases ow.getD j none <;> rfl
        rw [e]
        refine List.Pairwise.filterMap _ (λa a' hlt b hb b' hb'=>?_) List.pairwise_lt_range
        split at hb
        . split at hb'
          . cases hb; cases hb'; exact hlt
          . cases hb'
        . cases hb
    . exact h.standIn _
end L2
namespace L2
open PySem PySem.Spec PyProof.Rows
theorem BS {vs : List Value} {ms : List Int} (h : IntsAre vs ms) (k : Int) : (∃ v ∈ vs, Value.isInt k v = true) ↔ k ∈ ms:=by
  induction h with
  | nil=>simp
  | cons n t _ ih=>
    rw [List.mem_cons, ← ih]
    constructor
    . rintro ⟨v, hv, e⟩
      rcases List.mem_cons.mp hv with z | z
      . subst z; obtain ⟨t', e'⟩:=Value.isInt_shape e; cases e'; exact .inl rfl
      . exact .inr ⟨v, z, e⟩
    . rintro (z | ⟨v, hv, e⟩)
      . subst z; exact ⟨_, .head _, beq_self_eq_true _⟩
      . exact ⟨v, .tail _ hv, e⟩
theorem Vj {vs vs' : List Value} (p : vs'.Perm vs) : ∀ {ms : List Int}, IntsAre vs ms -> ∃ ms', IntsAre vs' ms' /\ ms'.Perm ms:=by
  induction p with
  | nil=>intro ms h; exact ⟨ms, h, .refl _⟩
  | cons x _ ih=>
    intro ms h
    cases h with
    | cons n t h=>obtain ⟨m, a, b⟩:=ih h; exact ⟨n :: m, .cons n t a, b.cons _⟩
  | swap x y l=>
    intro ms h
    cases h with
    | cons n t h=>cases h with
      | cons m u h=>exact ⟨_, .cons m u (.cons n t h), .swap ..⟩
  | trans _ _ ih1 ih2=>
    intro ms h
    obtain ⟨m, a, b⟩:=ih2 h
    obtain ⟨m', a', b'⟩:=ih1 a
    exact ⟨m', a', b'.trans b⟩
theorem De {vs : List Value} {ms : List Int} (h : IntsAre vs ms) (k : Int) (t : Tok) : IntsAre (vs ++ [.int k t]) (ms ++ [k]):=by
  induction h with
  | nil=>exact .cons k t .nil
  | cons n u _ ih=>exact .cons n u ih
noncomputable def dd (l : List Int) : List Int:=l.foldl step_dedup []
structure SCore (prog : Program) (w : World) (es : Array (Int × Value)) (t : SetTable) (ns : List Int) : Prop where
  el : ElemsOf (intKind prog w) es.toList
  pm : ∃ ms, IntsAre (es.toList.map (·.2)) ms /\ ms.Perm ns
  sz : es.size < scanBound
  fit : t.fits es.size = true
  tok : TOk t (!w.params.followText "set-order")
noncomputable def V0 (prog : Program) (w : World) (h : Heap) (a : Addr) (ns : List Int) : Prop:=
  ∃ o es ep t, h.get? a = some o /\ o.ExactSet /\ o.data = .set es ep t /\ SCore prog w es t ns
section
variable {prog : Program} {w : World} {A : Around} {E : Value -> Shared -> Prop} {s : Shared} {a : Addr} {ns : List Int}
theorem SCore.len {es : Array (Int × Value)} {t : SetTable} (c : SCore prog w es t ns) : es.size = ns.length:=by
  obtain ⟨ms, a, b⟩:=c.pm
  rw [← b.length_eq, ← IntsAre.length a, List.length_map, Array.length_toList]
theorem SCore.mem {es : Array (Int × Value)} {t : SetTable} (c : SCore prog w es t ns) (k : Int) : (∃ e ∈ es.toList, Value.isInt k e.2 = true) ↔ k ∈ ns:=by
  obtain ⟨ms, a, b⟩:=c.pm
  rw [← b.mem_iff, ← BS a k]
  constructor
  . rintro ⟨e, h, z⟩; exact ⟨e.2, List.mem_map_of_mem h, z⟩
  . rintro ⟨v, h, z⟩
    obtain ⟨e, h1, rfl⟩:=List.mem_map.mp h
    exact ⟨e, h1, z⟩
theorem SCore.perm {es es' : Array (Int × Value)} {t t' : SetTable} (c : SCore prog w es t ns) (p : es'.toList.Perm es.toList) (f : t'.fits es'.size = true) (k : TOk t' (!w.params.followText "set-order")) : SCore prog w es' t' ns:=by
  obtain ⟨ms, a, b⟩:=c.pm
  obtain ⟨m, a', b'⟩:=Vj (p.map (·.2)) a
  have e : es'.size = es.size:=by rw [← Array.length_toList, p.length_eq, Array.length_toList]
  exact ⟨c.el.perm p, ⟨m, a', b'.trans b⟩, by rw [e]; exact c.sz, f, k⟩
theorem V0.put {h : Heap} {o : Obj} {es es' : Array (Int × Value)} {ep : Nat} {t t' : SetTable} (ho : h.get? a = some o) (hx : o.ExactSet) (hd : o.data = .set es ep t) :
    (h.update a (Obj.putSet es' t')).get? a = some { o with data:=.set es' (ep + 1) t' } /\ (SCore prog w es' t' ns -> V0 prog w (h.update a (Obj.putSet es' t')) a ns):=by
  have g:=Heap.get?_update_self (Obj.putSet es' t') ho (by rw [putSet_of es' t' hd]; rfl)
  rw [putSet_of es' t' hd] at g
  exact ⟨g, λc=>⟨_, _, _, _, g, hx, rfl, c⟩⟩
theorem He {k : Int} {tk : Tok} {Q : Bool -> Shared -> Prop} (hS : V0 prog w s.heap a ns) (hr : ns.length + 1 < scanBound)
    (h : ∀ b h', Heap.SameBut a s.heap h' -> V0 prog w h' a (step_dedup ns k) -> Q b { s with heap:=h' }) : wpAny (model prog w) A (setAddHashed a (.int k tk) ((intKind prog w).hash k)) Q E s:=by
  obtain ⟨o, es, ep, t, ho, hx, hd, c⟩:=id hS
  have hk : (intKind prog w).is k (.int k tk) = true:=intKind_is _ _ _ _
  unfold setAddHashed setAddHashedIn
  refine wpAny_holding (wpAny_bind (wpAny_setState_of ho hd c.fit ?_))
  dsimp only
  rw [byScan_of (knd:=intKind prog w) rfl c.sz c.el]
  simp only [↓reduceIte]
  unfold setAddByScan
  refine wpAny_bind (wpAny_bind (wpAny_rule (wpAny_bind (wpAny_setScan_of hk ho hd c.fit c.el ?_))))
  cases hf : List.findIdx? (λe=>(intKind prog w).is k e.2) es.toList with
  | some j=>
    obtain ⟨hj, hp, _⟩:=List.findIdx?_eq_some_iff_getElem.mp hf
    have hm : k ∈ ns:=(c.mem k).mp ⟨_, List.getElem_mem hj, hp⟩
    have e : step_dedup ns k = ns:=if_pos (List.any_eq_true.mpr ⟨k, hm, by simp⟩)
    exact wpAny_pure (wpAny_pure (h _ s.heap (Heap.SameBut.refl a s.heap) (by rw [e]; exact hS)))
  | none=>
    have hm : k ∉ ns:=λhm=>by
      obtain ⟨e, he, hp⟩:=(c.mem k).mpr hm
      have:=List.findIdx?_eq_none_iff.mp hf e he
      rw [show (intKind prog w).is k e.2 = true from hp] at this
      cases this
    have e : step_dedup ns k = ns ++ [k]:=if_neg (λz=>by
      obtain ⟨x, hx, ex⟩:=List.any_eq_true.mp z
      rw [beq_iff_eq] at ex; subst ex; exact hm hx)
    rw [e] at h
    dsimp only
    have hg : ∀ (b : Bool) {s₁ : Shared} {Q' : Unit -> Shared -> Prop}, Q' () s₁ -> wpAny (model prog w) A (match b with | true=>rule "set.scan.the-table-gave-way" | false=>pure ()) Q' E s₁:=
      λb s₁ Q' q=>by cases b <;> first | exact wpAny_pure q | exact wpAny_rule q
    have hp:=layNew_perm t es ((intKind prog w).hash k) (.int k tk)
    have hfit:=layNew_fits t es ((intKind prog w).hash k) (.int k tk)
    have ht:=Cb c.tok es ((intKind prog w).hash k) (.int k tk)
    generalize layNew t es ((intKind prog w).hash k) (.int k tk) = L at hp hfit ht ⊢
    obtain ⟨es1, t1, wd, gv⟩:=L
    dsimp only at hp hfit ht ⊢
    have hsz : es1.size = es.size + 1:=by rw [← Array.length_toList, hp.length_eq]; simp
    have c1 : SCore prog w es1 t1 (ns ++ [k]):=by
      obtain ⟨ms, i1, i2⟩:=c.pm
      rw [Array.toList_push] at hp
      have hp2:=hp.map (·.2)
      rw [List.map_append] at hp2
      obtain ⟨m, j1, j2⟩:=Vj hp2 (De i1 k tk)
      exact ⟨(c.el.push hk rfl).perm hp, ⟨m, j1, j2.trans (i2.append_right _)⟩, by rw [hsz, c.len]; exact hr, hfit, ht⟩
    refine wpAny_bind (hg gv ?_)
    have tail : ∀ {Q1 : Option Bool -> Shared -> Prop}, (∀ h', Heap.SameBut a s.heap h' -> V0 prog w h' a (ns ++ [k]) -> Q1 (some true) { s with heap:=h' }) -> wpAny (model prog w) A (do
        storeSet a es1 t1
        if (!wd && t1.tooFull) = true then do
            (match (relayAll t1 es1 (SetTable.grown es1.size)).2.2 with | true=>rule "set.scan.the-table-gave-way" | false=>pure ())
            storeSet a (relayAll t1 es1 (SetTable.grown es1.size)).1 (relayAll t1 es1 (SetTable.grown es1.size)).2.1
            pure (some true)
          else pure (some true)) Q1 E s:=fun {Q1} q=>by
      obtain ⟨g1, s1⟩:=V0.put (prog:=prog) (w:=w) (ns:=ns ++ [k]) (es':=es1) (t':=t1) ho hx hd
      refine wpAny_bind (wpAny_storeSet_of ho hd ?_ (fits_of_scanBound c1.sz))
      split
      . refine wpAny_bind (hg _ ?_)
        have p2:=relayAll_perm t1 es1 (SetTable.grown es1.size)
        have f2:=relayAll_fits t1 es1 (SetTable.grown es1.size)
        have k2:=Gg ht es1 (SetTable.grown es1.size)
        generalize relayAll t1 es1 (SetTable.grown es1.size) = Z at p2 f2 k2 ⊢
        obtain ⟨es2, t2, gv2⟩:=Z
        have c2:=c1.perm p2 f2 k2
        refine wpAny_bind (wpAny_storeSet_of g1 rfl ?_ (fits_of_scanBound c2.sz))
        exact wpAny_pure (q _ ((Heap.SameBut.update s.heap a _).trans (Heap.SameBut.update _ a _)) ((V0.put g1 hx rfl).2 c2))
      . exact wpAny_pure (q _ (Heap.SameBut.update s.heap a _) (s1 c1))
    have fin : ∀ h', Heap.SameBut a s.heap h' -> V0 prog w h' a (ns ++ [k]) -> Q true { s with heap:=h' }:=λh' sb z=>h true h' sb z
    split
    . refine wpAny_bind ?_
      rw [hashByValue_scannable 8 (x:=.int k tk) rfl]
      refine wpAny_pure ?_
      exact tail λh' sb z=>wpAny_pure (fin h' sb z)
    . refine wpAny_bind (wpAny_pure ?_)
      exact tail λh' sb z=>wpAny_pure (fin h' sb z)
end
section
variable {prog : Program} {w : World} {A : Around} {E : Value -> Shared -> Prop} {s : Shared}
theorem V0.at {h h' : Heap} {a : Addr} {ns : List Int} (x : V0 prog w h a ns) (k : ∀ o, h.get? a = some o -> h'.get? a = some o) : V0 prog w h' a ns:=
  let ⟨o, es, ep, t, ho, r⟩:=x; ⟨o, es, ep, t, k o ho, r⟩
theorem ES (l : List Int) (k : Int) : dd (l ++ [k]) = step_dedup (dd l) k:=by unfold dd; rw [List.foldl_append]; rfl
theorem Kk (l : List Int) : (dd l).length <= l.length:=by
  suffices h : ∀ (l a : List Int), (l.foldl step_dedup a).length <= a.length + l.length by unfold dd; simpa using h l []
  intro l
  induction l with
  | nil=>intro a; exact Nat.le_refl _
  | cons x l ih=>
    intro a
    refine Nat.le_trans (ih _) ?_
    rw [step_length, List.length_cons]
    split <;> omega
theorem EO {R : Result -> Shared -> Prop} {I l S : Addr} {items : List Value} {ns : List Int} (hh : A.in1.handled = none) (hi : IntsAre items ns) (hb : ns.length + 1 < scanBound) (h1 : S ≠ I) (h2 : S ≠ l) (h3 : l ≠ I) :
    ∀ (k i : Nat) (s : Shared), items.length - i = k -> i <= items.length -> s.heap.IsListIter I l i -> s.heap.IsList l items.toArray -> V0 prog w s.heap S (dd (ns.take i)) ->
      (∀ h' tk, V0 prog w h' S (dd ns) -> (∀ b o, b ≠ S -> b ≠ I -> s.heap.get? b = some o -> h'.get? b = some o) -> R (.ok (.ret .none)) { s with heap:=h', toks:=tk }) ->
      codeAny (model prog w) A (.builtin "set.update.loop" ⟨[.ref S, .ref I], []⟩) R s:=by
  have hln:=IntsAre.length hi
  intro k
  induction k with
  | zero=>
    intro i s hk hle hit hl hS hR
    have e : i = items.length:=by omega
    subst e
    refine codeAny_builtin PyProof.Rows.F.entry_set_update_loop ?_
    rw [Around.under_plainId PyProof.Rows.F.plain_set_update_loop _]
    show wpAny _ A.in1 (pyNext (.ref I) >>= _) _ _ s
    refine wpAny_bind (wpAny_pyNext_list_end hh hit hl (by simp) λh' ext=>?_)
    show wpAny _ A.in1 (ret Value.none) _ _ _
    rw [List.take_of_length_le (by omega)] at hS
    exact wpAny_pure (hR h' _ (hS.at λo ho=>ext S o h1 ho) λb o _ hbI e=>ext b o hbI e)
  | succ k ih=>
    intro i s hk hle hit hl hS hR
    have hlt : i < items.length:=by omega
    obtain ⟨tk, ev⟩:=IntsAre.int_at hi i items[i] (List.getElem?_eq_getElem hlt)
    have hi2 : i < ns.length:=by omega
    have eg : ns.getD i 0 = ns[i]:=by simp [hi2]
    rw [eg] at ev
    refine codeAny_builtin PyProof.Rows.F.entry_set_update_loop ?_
    rw [Around.under_plainId PyProof.Rows.F.plain_set_update_loop _]
    show wpAny _ A.in1 (pyNext (.ref I) >>= _) _ _ s
    refine wpAny_bind (wpAny_pyNext_list_item hit hl (x:=items[i]) (by simp [hlt]) λh' hit' sb=>?_)
    rw [ev]
    show wpAny _ A.in1 (holding [Value.int ns[i] tk] (setAdd S (.int ns[i] tk)) >>= _) _ _ _
    refine wpAny_bind (wpAny_holding ?_)
    unfold setAdd
    refine wpAny_holding (wpAny_bind ((intKind prog w).pyHash (k:=ns[i]) (intKind_is _ _ _ _) ?_))
    have hS' : V0 prog w h' S (dd (ns.take i)):=hS.at λo ho=>(sb.2 S h1).trans ho
    refine He (s:={ s with heap:=h', toks:=s.toks + 1 }) hS' (by have:=Kk (ns.take i); rw [List.length_take] at this; omega) λb h2' sb2 hS2=>?_
    rw [← ES, ← List.take_succ_eq_append_getElem hi2] at hS2
    refine wpAny_pure ⟨plainId_quiet PyProof.Rows.F.plain_set_update_loop _, ih (i + 1) _ (by omega) hlt (hit'.at λo ho=>(sb2.2 I (Ne.symm h1)).trans ho) (hl.at λo ho=>(sb2.2 l (Ne.symm h2)).trans ((sb.2 l h3).trans ho)) hS2 λh3' tk' hS3 keep=>?_⟩
    exact hR h3' tk' hS3 λb o hbS hbI e=>keep b o hbS hbI ((sb2.2 b hbS).trans ((sb.2 b hbI).trans e))
theorem Bz (v : Value) {Q : Value -> Shared -> Prop}
    (h : Q (.ref s.heap.objs.size) { s with heap:=s.heap.push { cls:=.type "set", dict:=none, data:=.set #[] 0 (.fresh 0 0 (!w.params.followText "set-order")) } }) :
    codeAny (model prog w) A (.call (.builtin "set.__new__") ⟨[.type "set", v], []⟩) (wants Q E) s:=by
  refine codeAny_of_tree ?_
  show wpAny _ A.in1 (do checkBuiltinCall "set.__new__" ⟨[.type "set", v], []⟩; again (.builtin "set.__new__" ⟨[.type "set", v], []⟩)) _ _ s
  refine wpAny_bind (wpAny_of_eq (F.newCall_set_1 v) (wpAny_pure ⟨plainId_quiet F.plain_set_new _, codeAny_builtin F.entry_set_new ?_⟩))
  rw [Around.under_plainId F.plain_set_new _]
  unfold Builtin.«set.__new__» Builtin.Frozenset.newClass
  have hsub:=sub_set_self
  obtain ⟨hp, g, d, tk, os⟩:=s
  dsimp only
  wp_walk
  refine wpAny_askSetting (wpAny_pure ?_)
  dsimp only
  simp only [newObj]
  refine wpAny_bind (wpAny_alloc (wpAny_pure ?_))
  exact wpAny_pure h
set_option maxHeartbeats 3200000 in
theorem Ck {l : Addr} {items : List Value} {ns : List Int} {Q : Value -> Shared -> Prop} (hh : A.handled = none) (hl : s.heap.IsList l items.toArray) (hi : IntsAre items ns) (hb : ns.length + 1 < scanBound)
    (h : ∀ h' tk, V0 prog w h' s.heap.objs.size (dd ns) -> (∀ b o, s.heap.get? b = some o -> h'.get? b = some o) -> Q (.ref s.heap.objs.size) { s with heap:=h', toks:=tk }) :
    wpAny (model prog w) A (call (.type "set") [.ref l]) Q E s:=by
  obtain ⟨c, tl, hmro⟩:=F.called_set.mro
  have hmade:=F.called_set.made
  have hsub:=F.called_set.sub
  refine wpAny_call (codeAny_of_tree ?_)
  show wpAny _ _ (callAny (.type "set") _) _ _ _
  refine wpAny_pure ⟨Code.quiet_builtin _ (by decide +kernel), codeAny_builtin F.entry_type_call ?_⟩
  rw [Around.under_plain (weight_type_call_type "set" [.ref l] []) rfl]
  have h1:=F.called_set.notType
  have h2:=F.called_set.canCreate
  have hct:=F.typeCall_set_1 (.ref l)
  repeat (any_goals (first | assumption | wp_step))
  generalize hob : ({ cls:=.type "set", dict:=none, data:=.set #[] 0 (.fresh 0 0 (!w.params.followText "set-order")) } : Obj) = ob
  refine codeAny_mono (Bz (.ref l) (E:=E) (Q:=λobj s₁=>obj = .ref s.heap.objs.size /\ s₁ = { s with heap:=s.heap.push ob }) ⟨rfl, by rw [hob]⟩) λr s₁ hr=>?_
  cases r with
  | error e=>exact hr
  | ok fl=>
    cases fl with
    | ret obj=>
      obtain ⟨rfl, rfl⟩:=hr
      have hS : (s.heap.push ob).get? s.heap.objs.size = some ob:=Heap.get?_push_size _ (by rw [← hob]; rfl)
      have hT : Shared.TypeIs { s with heap:=s.heap.push ob } (.ref s.heap.objs.size) "set":=⟨_, hS, by rw [← hob]⟩
      have hli:=F.called_set.init.lookup
      have hbi:=F.called_set.init.bind (.ref s.heap.objs.size)
      repeat (any_goals (first | assumption | wp_step))
      refine codeAny_mono (codeAny_call_builtin (R:=wants (λr s₂=>r = .none /\ ∃ h' tk, s₂ = { s with heap:=h', toks:=tk } /\ V0 prog w h' s.heap.objs.size (dd ns) /\ (∀ b o, s.heap.get? b = some o -> h'.get? b = some o)) E) F.called_set.init.plain F.entry_set_init (check_set_init_1 hT ?_)) λr₂ s₂ hr₂=>?_
      . have hS0 : V0 prog w (s.heap.push ob) s.heap.objs.size [] := ⟨_, #[], 0, _, hS, by rw [← hob]; exact ⟨rfl, rfl, rfl⟩, by rw [← hob], ⟨λe he => by simp at he, ⟨[], .nil, .refl _⟩, by decide, by rfl, .fresh ..⟩⟩
        obtain ⟨ol, hol, hcl, nl, hdl⟩:=hl
        obtain ⟨ocls, odict, odata, oslots⟩:=ol
        simp only at hcl hdl
        subst hcl; subst hdl
        have hol' : (s.heap.push ob).get? l = some { cls:=.type "list", dict:=odict, data:=.seq items.toArray nl, slots:=oslots }:=Heap.get?_push_of_some _ hol
        have hsls:=F.sub_list_set
        have hslf:=F.sub_list_frozenset
        have hne : (Value.type "list" == Value.type "dict") = false:=by decide
        have hl1 : (s.heap.push ob).IsList l items.toArray:=⟨_, hol', rfl, nl, rfl⟩
        subst hob
        unfold Builtin.«set.__init__» noKeywords Builtin.Frozenset.updateFrom
        generalize hPI : pyIter = PI
        wp_walk
        subst hPI
        refine wpAny_pyIter_list hl1 ?_
        refine wpAny_bind (wpAny_runValue ?_)
        have hlS : l < s.heap.objs.size:=Heap.lt_size hol
        generalize hob : ({ cls:=.type "set", dict:=none, data:=.set #[] 0 (.fresh 0 0 (!w.params.followText "set-order")) } : Obj) = ob at *
        have hI : (s.heap.push ob).objs.size = s.heap.objs.size + 1:=Heap.size_push ..
        refine EO (ns:=ns) (l:=l) (by simp [hh]) hi hb (by rw [hI]; exact Nat.ne_of_lt (Nat.lt_succ_self _)) (Nat.ne_of_gt hlS) (by rw [hI]; exact Nat.ne_of_lt (Nat.lt_succ_of_lt hlS)) (items.length - 0) 0 _ rfl (Nat.zero_le _)
          ⟨_, Heap.get?_push_size _ rfl, rfl, rfl⟩ (hl1.push _) (hS0.at λo ho=>Heap.get?_push_of_some _ ho) λh' tk hS' keep=>?_
        show wpAny _ _ _ _ _ _
        refine wpAny_pure ?_
        show wpAny _ _ (ret Value.none) _ _ _
        exact wpAny_pure ⟨rfl, h', tk, rfl, hS', λb o e=>keep b o (Nat.ne_of_lt (Heap.lt_size e)) (by rw [hI]; exact Nat.ne_of_lt (Nat.lt_succ_of_lt (Heap.lt_size e))) (Heap.get?_push_of_some _ (Heap.get?_push_of_some _ e))⟩
      . cases r₂ with
        | error e=>exact hr₂
        | ok fl₂=>
          cases fl₂ with
          | ret r=>
            obtain ⟨rfl, h', tk, rfl, hS', hk'⟩:=hr₂
            repeat (any_goals (first | assumption | wp_step))
            exact h _ _ hS' hk'
          | _=>exact hr₂.elim
    | _=>exact hr.elim
end
theorem XO : Slot "set_iterator" "__next__" "set_iterator.__next__":=
  .of (owner:="set_iterator") (n:="__next__") (by rw [typeLookup_type, builtinLookup_eq_fast]; kernel_rfl) (by decide +kernel) (by decide +kernel) (by decide +kernel)
    (by first | exact .inl (by decide +kernel) | exact .inr (by decide +kernel)) (by rw [isSubtype_type]; kernel_rfl)
theorem Zy : entryFor table "set_iterator.__next__" = some Builtin.«set_iterator.__next__»:=entryFor_of_fast (by kernel_rfl)
theorem ZH (a : Value) : argsOk "set_iterator.__next__" ⟨[a], []⟩:=by unfold argsOk; kernel_rfl
theorem ZK : Slot "set_iterator" "__iter__" "set_iterator.__iter__":=
  .of (owner:="set_iterator") (n:="__iter__") (by rw [typeLookup_type, builtinLookup_eq_fast]; kernel_rfl) (by decide +kernel) (by decide +kernel) (by decide +kernel)
    (by first | exact .inl (by decide +kernel) | exact .inr (by decide +kernel)) (by rw [isSubtype_type]; kernel_rfl)
theorem Jo (a : Value) : argsOk "set_iterator.__iter__" ⟨[a], []⟩:=by unfold argsOk; kernel_rfl
theorem Qq : Slot "set" "__iter__" "set.__iter__":=
  .of (owner:="set") (n:="__iter__") (by rw [typeLookup_type, builtinLookup_eq_fast]; kernel_rfl) (by decide +kernel) (by decide +kernel) (by decide +kernel)
    (by first | exact .inl (by decide +kernel) | exact .inr (by decide +kernel)) (by rw [isSubtype_type]; kernel_rfl)
theorem J1 : entryFor table "set.__iter__" = some Builtin.«frozenset.__iter__»:=
  entryFor_alias (id':="frozenset.__iter__") (by kernel_rfl) rfl (by decide +kernel) (by kernel_rfl)
theorem Q8 : entryFor table "set_iterator.__iter__" = some Builtin.«dict_keyiterator.__iter__»:=
  entryFor_alias (id':="dict_keyiterator.__iter__") (by kernel_rfl) rfl (by decide +kernel) (by kernel_rfl)
theorem VF (a : Value) : argsOk "set.__iter__" ⟨[a], []⟩:=by unfold argsOk; kernel_rfl
theorem V9 : Slot "set" "__len__" "set.__len__":=
  .of (owner:="set") (n:="__len__") (by rw [typeLookup_type, builtinLookup_eq_fast]; kernel_rfl) (by decide +kernel) (by decide +kernel) (by decide +kernel)
    (by first | exact .inl (by decide +kernel) | exact .inr (by decide +kernel)) (by rw [isSubtype_type]; kernel_rfl)
theorem Ji {α : Type} : ∀ {l : List α} {i : Nat} (h : i < l.length), (l[i] :: l.eraseIdx i).Perm l
  | x :: l, 0, _=>.refl _
  | x :: l, i + 1, h=>(List.Perm.swap x (l[i]'(Nat.lt_of_succ_lt_succ h)) (l.eraseIdx i)).trans ((Ji (Nat.lt_of_succ_lt_succ h)).cons x)
theorem E8 {α : Type} (next : Nat -> Nat) : ∀ (left : List α) (k : Nat) (out : Array α), (pickOrder.go next left.length k left out).toList.Perm (out.toList ++ left):=by
  intro left
  generalize hn : left.length = n
  induction n generalizing left with
  | zero=>intro k out; cases left with
    | nil=>simp [pickOrder.go]
    | cons=>cases hn
  | succ n ih=>
    intro k out
    have hlt : next k % left.length < left.length:=Nat.mod_lt _ (by omega)
    unfold pickOrder.go
    rw [List.getElem?_eq_getElem hlt]
    dsimp only
    have hp : (left[next k % left.length] :: left.eraseIdx (next k % left.length)).Perm left:=Ji hlt
    refine (ih (left.eraseIdx (next k % left.length)) (by rw [List.length_eraseIdx]; simp [hlt]; omega) (k + 1) _).trans ?_
    rw [Array.toList_push, List.append_assoc]
    exact hp.append_left _
theorem CZ {α : Type} (next : Nat -> Nat) (xs : Array α) : (pickOrder next xs).toList.Perm xs.toList:=by
  have:=E8 next xs.toList 0 #[]
  rw [Array.length_toList] at this
  simpa [pickOrder] using this
section
variable {M : Model} {A : Around} {E : Value -> Shared -> Prop} {s : Shared}
theorem U2 {src : Source} {n : Nat} {Q : Nat -> Shared -> Prop} (hn : n ≠ 0) (h : ∀ i d, i < n -> Q i { s with drawn:=d }) : wpAny M A (choose src n) Q E s:=λΓ p hΓ=>by
  unfold choose
  rw [Sem.wp_choose]
  refine ⟨hn, ?_⟩
  rw [Sem.wp_pure]
  exact h _ _ (Nat.mod_lt _ (Nat.pos_of_ne_zero hn))
theorem Js {α : Type} : ∀ (n : Nat) (xs : List α) (s : Shared) {Q : List α -> Shared -> Prop}, xs.length = n -> (∀ ys d, ys.Perm xs -> Q ys { s with drawn:=d }) -> wpAny M A (drawOrder n xs) Q E s
  | 0, xs, s, Q, hn, h=>by
    cases xs with
    | nil=>exact wpAny_pure (h [] s.drawn (.refl _))
    | cons=>cases hn
  | n + 1, xs, s, Q, hn, h=>by
    cases xs with
    | nil=>cases hn
    | cons x xs=>
      unfold drawOrder
      refine wpAny_bind (U2 (by simp) λi d hi=>?_)
      rw [List.getElem?_eq_getElem hi]
      dsimp only
      refine wpAny_bind (Js n _ _ (by have h1 : i < xs.length + 1:=hi; rw [List.length_eraseIdx, List.length_cons, if_pos h1]; simpa using hn) λys d' hp=>?_)
      exact wpAny_pure (h _ d' ((hp.cons _).trans (Ji hi)))
end
section
variable {prog : Program} {w : World} {A : Around} {E : Value -> Shared -> Prop} {s : Shared} {a : Addr} {o : Obj} {es : Array (Int × Value)} {ep : Nat} {t : SetTable}
theorem QY {Q : Bool -> Shared -> Prop} (h : Q (w.params.followText "set-order") s) : wpAny (model prog w) A setsByText Q E s:=by
  unfold setsByText
  exact wpAny_bind (wpAny_askSetting (wpAny_pure h))
theorem Jx {sl i : Nat} {Q : Option (Value × Nat) -> Shared -> Prop} (ho : s.heap.get? a = some o) (hd : o.data = .set es ep t) (hf : t.fits es.size = true) (hT : w.params.followText "set-order" = true)
    (h : Q (((pickOrder (w.params.setOrder a ep) es)[i]?).map λe=>(e.2, sl)) s) : wpAny (model prog w) A (setNext a sl i ep) Q E s:=by
  unfold setNext
  refine wpAny_bind (wpAny_setState_of ho hd hf ?_)
  refine wpAny_bind (QY ?_)
  rw [hT]
  simp only [if_true, bne_self_eq_false, Bool.false_eq_true, if_false]
  unfold setWalk
  refine wpAny_bind (wpAny_bind (wpAny_setState_of ho hd hf ?_))
  refine wpAny_bind (QY ?_)
  rw [hT]
  simp only [if_true]
  exact wpAny_bind (wpAny_askSetting (wpAny_pure (wpAny_pure h)))
theorem QC {sl i : Nat} {Q : Option (Value × Nat) -> Shared -> Prop} (ho : s.heap.get? a = some o) (hd : o.data = .set es ep t) (hf : t.fits es.size = true) (hT : w.params.followText "set-order" = false) (hp : (!t.plain && decide (es.size > 1)) = false) (hl : t.led = true)
    (h : Q (match es[SetTable.below t.place sl]?, t.place[SetTable.below t.place sl]? with | some (_, x), some j=>some (x, j + 1) | _, _=>none) s) : wpAny (model prog w) A (setNext a sl i ep) Q E s:=by
  unfold setNext
  refine wpAny_bind (wpAny_setState_of ho hd hf ?_)
  refine wpAny_bind (QY ?_)
  rw [hT]
  show wpAny _ _ (if (!t.plain && decide (es.size > 1)) = true then _ else _) _ _ _
  rw [hp]
  simp only [Bool.false_eq_true, if_false]
  refine wpAny_bind ?_
  show wpAny _ _ (if (!t.led && !es.isEmpty) = true then _ else _) _ _ _
  rw [hl]
  simp only [Bool.not_true, Bool.false_and, Bool.false_eq_true, if_false]
  exact wpAny_pure (wpAny_pure h)
theorem UQ {pl : Nat} {x : Int × Value} {Q : Value -> Shared -> Prop} (ho : s.heap.get? a = some o) (hd : o.data = .set es ep t) (hf : t.fits es.size = true) (hx : es[pl]? = some x) (h : Q x.2 s) : wpAny (model prog w) A (setNextDrawn a pl ep) Q E s:=by
  unfold setNextDrawn
  refine wpAny_bind (wpAny_setState_of ho hd hf ?_)
  dsimp only
  rw [if_neg (by simp), hx]
  exact wpAny_pure h
end
section
variable {prog : Program} {w : World} {A : Around} {E : Value -> Shared -> Prop} {s : Shared} {a I tp : Addr} {o : Obj} {es : Array (Int × Value)} {ep : Nat} {t : SetTable} {L : List (Int × Value)}
inductive SMode (w : World) (a : Addr) (es : Array (Int × Value)) (ep : Nat) (t : SetTable) (tp : Addr) (L : List (Int × Value)) (h : Heap) (i : Nat) : Value -> Prop
  | text (sl : Nat) (hT : w.params.followText "set-order" = true) (hL : L = (pickOrder (w.params.setOrder a ep) es).toList) : SMode w a es ep t tp L h i (.int sl 0)
  | plain (sl : Nat) (hT : w.params.followText "set-order" = false) (hp : (!t.plain && decide (es.size > 1)) = false) (hL : L = es.toList) (hb : SetTable.below t.place sl = i) : SMode w a es ep t tp L h i (.int sl 0)
  | drawn (ps : List Nat) (hg : h.get? tp = some { cls:=.type "tuple", data:=.seq (ps.map λi=>Value.int (i : Nat) 0).toArray }) (hn : ps.length = L.length) (hL : ∀ (i : Nat) pl, ps[i]? = some pl -> L[i]? = es[pl]?) : SMode w a es ep t tp L h i (.ref tp)
structure SIt (w : World) (I a : Addr) (es : Array (Int × Value)) (ep : Nat) (t : SetTable) (tp : Addr) (L : List (Int × Value)) (o : Obj) (i : Nat) (h : Heap) : Prop where
  it : ∃ ob first, h.get? I = some ob /\ ob.cls = .type "set_iterator" /\ ob.data = .fields #[first, .int i 0, .ref a, .int es.size 0, .int ep 0] /\ SMode w a es ep t tp L h i first
  st : h.get? a = some o
theorem SMode.at {h h' : Heap} {i : Nat} {v : Value} (m : SMode w a es ep t tp L h i v) (k : ∀ o, h.get? tp = some o -> h'.get? tp = some o) : SMode w a es ep t tp L h' i v:=by
  cases m with
  | text sl hT hL=>exact .text sl hT hL
  | plain sl hT hp hL hb=>exact .plain sl hT hp hL hb
  | drawn ps hg hn hL=>exact .drawn ps (k _ hg) hn hL
theorem Jk {h : Heap} {ob : Obj} {v0 v1 v2 v3 v4 x : Value} (j : Nat) (hI : h.get? I = some ob) (hc : ob.cls = .type "set_iterator") (hd : ob.data = .fields #[v0, v1, v2, v3, v4]) :
    ∃ ob', (h.update I (Obj.mapFields (·.setIfInBounds j x))).get? I = some ob' /\ ob'.cls = .type "set_iterator" /\ ob'.data = .fields (#[v0, v1, v2, v3, v4].setIfInBounds j x):=
  ⟨_, Heap.get?_update_self _ hI (Obj.isFreed_of_fields (Obj.data_mapFields hd _)), (Obj.cls_mapFields ..).trans hc, by rw [Obj.data_mapFields hd]⟩
theorem G7 (hd : o.data = .set es ep t) (hf : t.fits es.size = true) (hk : TOk t (!w.params.followText "set-order")) (hn : L.length = es.size) (hIa : a ≠ I) (hIt : tp ≠ I) {i : Nat} {e : Int × Value} {Q : Option Value -> Shared -> Prop}
    (st : SIt w I a es ep t tp L o i s.heap) (he : L[i]? = some e) (hQ : ∀ h', SIt w I a es ep t tp L o (i + 1) h' -> Heap.SameBut I s.heap h' -> Q (some e.2) { s with heap:=h' }) : wpAny (model prog w) A (pyNext (.ref I)) Q E s:=by
  obtain ⟨⟨ob, first, hI, hc, hdI, hm⟩, ha⟩:=st
  unfold pyNext
  refine wpAny_bind (wpAny_attempt (wpAny_callSpecial?_slot (name:=Str.ofString "__next__") ⟨_, hI, hc⟩ XO
    (wpAny_call_entry XO ⟨_, hI, hc⟩ Zy ?_ (ZH _))))
  unfold Builtin.«set_iterator.__next__»
  refine wpAny_bind (wpAny_pure ?_)
  refine wpAny_bind (wpAny_fieldsOf hI hdI ?_)
  dsimp only
  refine wpAny_bind (wpAny_setEntries_of ha hd hf ?_)
  rw [if_neg (by simp)]
  have stp : ∀ {v h'} , SMode w a es ep t tp L s.heap (i + 1) v -> Heap.SameBut I s.heap h' -> (∃ ob', h'.get? I = some ob' /\ ob'.cls = .type "set_iterator" /\ ob'.data = .fields #[v, .int ((i + 1 : Nat) : Int) 0, .ref a, .int es.size 0, .int ep 0]) -> SIt w I a es ep t tp L o (i + 1) h':=λm sb ⟨ob', g1, g2, g3⟩=>
    ⟨⟨ob', _, g1, g2, g3, m.at λo' e=>(sb.2 tp hIt).trans e⟩, (sb.2 a hIa).trans ha⟩
  cases hm with
  | text sl hT hL=>
    dsimp only
    refine wpAny_bind (Jx ha hd hf hT ?_)
    have e1 : (pickOrder (w.params.setOrder a ep) es)[i]? = some e:=by rw [← Array.getElem?_toList, ← hL]; exact he
    simp only [Int.toNat_natCast, e1, Option.map_some]
    obtain ⟨ob1, g1, g2, g3⟩:=Jk (x:=rawInt (sl : Nat)) 0 hI hc hdI
    obtain ⟨ob2, k1, k2, k3⟩:=Jk (x:=rawInt ((i : Int) + 1)) 1 g1 g2 g3
    refine wpAny_bind (wpAny_setField hI hdI (by simp) (wpAny_bind (wpAny_setField g1 g3 (by simp) (wpAny_pure ⟨_, rfl, wpAny_pure (hQ _ (stp (.text sl hT hL) ?_ ⟨ob2, k1, k2, k3⟩) ?_)⟩))))
    all_goals exact (Heap.SameBut.update ..).trans (Heap.SameBut.update ..)
  | plain sl hT hp hL hb=>
    dsimp only
    have hlt : i < es.size:=by rw [← hn]; exact (List.getElem?_eq_some_iff.mp he).1
    have hps : t.place.size = es.size:=by simp only [SetTable.fits, Bool.and_eq_true, beq_iff_eq] at hf; exact hf.1
    have e1 : es[i]? = some e:=by rw [← Array.getElem?_toList, ← hL]; exact he
    have e2 : t.place[i]? = some (t.place[i]'(by omega)):=Array.getElem?_eq_getElem _
    refine wpAny_bind (QC ha hd hf hT hp (by rw [hk.led, hT]; rfl) ?_)
    simp only [Int.toNat_natCast, hb, e1, e2]
    obtain ⟨ob1, g1, g2, g3⟩:=Jk (x:=rawInt ((t.place[i]'(by omega) + 1 : Nat) : Nat)) 0 hI hc hdI
    obtain ⟨ob2, k1, k2, k3⟩:=Jk (x:=rawInt ((i : Int) + 1)) 1 g1 g2 g3
    refine wpAny_bind (wpAny_setField hI hdI (by simp) (wpAny_bind (wpAny_setField g1 g3 (by simp) (wpAny_pure ⟨_, rfl, wpAny_pure (hQ _ (stp (.plain _ hT hp hL (Fe hk.inc e2)) ?_ ⟨ob2, k1, k2, k3⟩) ?_)⟩))))
    all_goals exact (Heap.SameBut.update ..).trans (Heap.SameBut.update ..)
  | drawn ps hg hl hL=>
    dsimp only
    have hi : i < ps.length:=by rw [hl]; exact (List.getElem?_eq_some_iff.mp he).1
    refine wpAny_bind (wpAny_seqItems hg rfl ?_)
    simp only [Int.toNat_natCast, List.getElem?_toArray, List.getElem?_map, List.getElem?_eq_getElem hi, Option.map_some]
    refine wpAny_bind (UQ ha hd hf (x:=e) (by rw [← hL i _ (List.getElem?_eq_getElem hi)]; exact he) ?_)
    obtain ⟨ob2, k1, k2, k3⟩:=Jk (x:=rawInt ((i : Int) + 1)) 1 hI hc hdI
    exact wpAny_bind (wpAny_setField hI hdI (by simp) (wpAny_pure ⟨_, rfl, wpAny_pure (hQ _ (stp (.drawn ps hg hl hL) (Heap.SameBut.update ..) ⟨ob2, k1, k2, k3⟩) (Heap.SameBut.update ..))⟩))
theorem Ft (hh : A.handled = none) (hd : o.data = .set es ep t) (hf : t.fits es.size = true) (hk : TOk t (!w.params.followText "set-order")) (hn : L.length = es.size) {Q : Option Value -> Shared -> Prop}
    (st : SIt w I a es ep t tp L o L.length s.heap) (hQ : ∀ h', Heap.ExtBut I s.heap h' -> Q none { s with heap:=h' }) : wpAny (model prog w) A (pyNext (.ref I)) Q E s:=by
  obtain ⟨⟨ob, first, hI, hc, hdI, hm⟩, ha⟩:=st
  unfold pyNext
  refine wpAny_bind (wpAny_attempt (wpAny_callSpecial?_slot (name:=Str.ofString "__next__") ⟨_, hI, hc⟩ XO
    (wpAny_call_entry XO ⟨_, hI, hc⟩ Zy ?_ (ZH _))))
  unfold Builtin.«set_iterator.__next__»
  refine wpAny_bind (wpAny_pure ?_)
  refine wpAny_bind (wpAny_fieldsOf hI hdI ?_)
  dsimp only
  refine wpAny_bind (wpAny_setEntries_of ha hd hf ?_)
  rw [if_neg (by simp)]
  cases hm with
  | text sl hT hL=>
    dsimp only
    refine wpAny_bind (Jx ha hd hf hT ?_)
    have e1 : (pickOrder (w.params.setOrder a ep) es)[L.length]? = none:=by rw [← Array.getElem?_toList, ← hL]; exact List.getElem?_eq_none (Nat.le_refl _)
    simp only [Int.toNat_natCast, e1, Option.map_none]
    refine wpAny_bind (wpAny_setField hI hdI (by simp) ?_)
    refine wpAny_bind ?_
    simp only [newExc, newTuple]
    refine wpAny_bind (wpAny_newObj_type ?_ (by size_fits))
    refine wpAny_bind (m:=firstArgMember _ _) (wpAny_of_eq (a:=Value.none) (by first | rfl | (simp only [firstArgMember]; rfl)) ?_)
    refine wpAny_newObj_type ?_ (by size_fits)
    simp only [raiseNew]
    refine wpAny_bind (wpAny_handled ?_)
    rw [show A.in1.handled = none from hh]
    refine wpAny_bind (wpAny_pure (wpAny_throw ?_))
    refine wpAny_bind (wpAny_isInstance (T:="StopIteration") (b:=true) ⟨_, Heap.get?_push_size _ rfl, rfl⟩ isSubtype_stop ?_)
    exact wpAny_pure (hQ _ (((Heap.SameBut.update ..).extBut.push _).push _))
  | plain sl hT hp hL hb=>
    dsimp only
    have e1 : es[L.length]? = none:=Array.getElem?_eq_none (by omega)
    refine wpAny_bind (QC ha hd hf hT hp (by rw [hk.led, hT]; rfl) ?_)
    simp only [Int.toNat_natCast, hb, e1]
    refine wpAny_bind (wpAny_setField hI hdI (by simp) ?_)
    refine wpAny_bind ?_
    simp only [newExc, newTuple]
    refine wpAny_bind (wpAny_newObj_type ?_ (by size_fits))
    refine wpAny_bind (m:=firstArgMember _ _) (wpAny_of_eq (a:=Value.none) (by first | rfl | (simp only [firstArgMember]; rfl)) ?_)
    refine wpAny_newObj_type ?_ (by size_fits)
    simp only [raiseNew]
    refine wpAny_bind (wpAny_handled ?_)
    rw [show A.in1.handled = none from hh]
    refine wpAny_bind (wpAny_pure (wpAny_throw ?_))
    refine wpAny_bind (wpAny_isInstance (T:="StopIteration") (b:=true) ⟨_, Heap.get?_push_size _ rfl, rfl⟩ isSubtype_stop ?_)
    exact wpAny_pure (hQ _ (((Heap.SameBut.update ..).extBut.push _).push _))
  | drawn ps hg hl hL=>
    dsimp only
    refine wpAny_bind (wpAny_seqItems hg rfl ?_)
    simp only [Int.toNat_natCast, List.getElem?_toArray, List.getElem?_map, List.getElem?_eq_none (show ps.length <= L.length by omega), Option.map_none]
    obtain ⟨ob1, g1, g2, g3⟩:=Jk (x:=rawInt 0) 0 hI hc hdI
    refine wpAny_bind (wpAny_setField hI hdI (by simp) (wpAny_bind (wpAny_setField g1 g3 (by simp) ?_)))
    refine wpAny_bind ?_
    simp only [newExc, newTuple]
    refine wpAny_bind (wpAny_newObj_type ?_ (by size_fits))
    refine wpAny_bind (m:=firstArgMember _ _) (wpAny_of_eq (a:=Value.none) (by first | rfl | (simp only [firstArgMember]; rfl)) ?_)
    refine wpAny_newObj_type ?_ (by size_fits)
    simp only [raiseNew]
    refine wpAny_bind (wpAny_handled ?_)
    rw [show A.in1.handled = none from hh]
    refine wpAny_bind (wpAny_pure (wpAny_throw ?_))
    refine wpAny_bind (wpAny_isInstance (T:="StopIteration") (b:=true) ⟨_, Heap.get?_push_size _ rfl, rfl⟩ isSubtype_stop ?_)
    exact wpAny_pure (hQ _ ((((Heap.SameBut.update ..).trans (Heap.SameBut.update ..)).extBut.push _).push _))
end
section
variable {prog : Program} {w : World} {A : Around} {E : Value -> Shared -> Prop} {s : Shared} {a I tp : Addr} {o : Obj} {es : Array (Int × Value)} {ep : Nat} {t : SetTable} {L : List (Int × Value)} {ns : List Int}
theorem SIt.frame {i : Nat} {h h' : Heap} (x : SIt w I a es ep t tp L o i h) (k : ∀ b ∈ [I, a, tp], ∀ o, h.get? b = some o -> h'.get? b = some o) : SIt w I a es ep t tp L o i h':=by
  obtain ⟨⟨ob, f, h1, h2, h3, m⟩, h4⟩:=x
  exact ⟨⟨ob, f, k I (by simp) _ h1, h2, h3, m.at λo e=>k tp (by simp) o e⟩, k a (by simp) _ h4⟩
theorem Bl (hh : A.handled = none) (hd : o.data = .set es ep t) (hf : t.fits es.size = true) (hk : TOk t (!w.params.followText "set-order")) (hn : L.length = es.size) (hIa : a ≠ I) (hIt : tp ≠ I) :
    WalksS prog w A I [I, a, tp] [I] (λa b=>a = b) L.length (λi v=>∃ e, L[i]? = some e /\ v = e.2) (λi s=>SIt w I a es ep t tp L o i s.heap) where
  sub:=by simp
  grefl:=λ_=>rfl
  gtrans:=λ_ _ _=>Eq.trans
  frame:=λi s h' tk st _ k=>st.frame k
  item:=λi s Q E hi st q=>G7 hd hf hk hn hIa hIt st (List.getElem?_eq_getElem hi) λh' st' sb=>q _ _ ⟨_, List.getElem?_eq_getElem hi, rfl⟩ st' ⟨λb o hb e=>(sb.2 b (by simpa using hb)).trans e, rfl, rfl, rfl, Nat.le_refl _⟩
  done:=λs Q E st q=>Ft hh hd hf hk hn st λh' eb=>q _ ⟨λb o hb e=>eb b o (by simpa using hb) e, rfl, rfl, rfl, Nat.le_refl _⟩
  self:=λi s Q E st h=>by
    obtain ⟨⟨ob, f, h1, h2, h3, m⟩, h4⟩:=st
    refine wpAny_pyIter_slot ⟨_, h1, h2⟩ ZK (wpAny_call_entry ZK ⟨_, h1, h2⟩ Q8 ?_ (Jo _))
    show wpAny _ _ (ret (.ref I)) _ _ s
    exact wpAny_pure ⟨_, rfl, "set_iterator", _, ⟨_, h1, h2⟩, XO.lookup, h⟩
theorem F2 {α : Type} (xs : Array α) (d : α) : (List.range xs.size).map (λp=>xs.getD p d) = xs.toList:=by
  apply List.ext_getElem
  . simp
  . intro i h1 h2
    simp at h2 ⊢
    simp [h2]
theorem Fa {Q : Value -> Shared -> Prop} (ho : s.heap.get? a = some o) (hx : o.ExactSet) (hd : o.data = .set es ep t) (c : SCore prog w es t ns)
    (h : ∀ h' d L tp I, L.Perm es.toList -> SIt w I a es ep t tp L o 0 h' -> (∀ b u, s.heap.get? b = some u -> h'.get? b = some u) -> s.heap.objs.size <= I -> tp ≠ I -> (tp = a ∨ s.heap.objs.size <= tp) -> Q (.ref I) { s with heap:=h', drawn:=d }) :
    wpAny (model prog w) A (pyIter (.ref a)) Q E s:=by
  have hT : s.TypeIs (.ref a) "set":=⟨o, ho, hx.1⟩
  refine wpAny_pyIter_slot hT Qq (wpAny_call_entry Qq hT J1 ?_ (VF _))
  unfold Builtin.«frozenset.__iter__»
  have hlt : a < s.heap.objs.size:=Heap.lt_size ho
  show wpAny _ _ (pure a >>= _) _ _ s
  refine wpAny_bind (wpAny_pure ?_)
  unfold Builtin.Frozenset.sizeOf
  refine wpAny_bind (wpAny_bind (wpAny_setEntries_of ho hd c.fit (wpAny_pure ?_)))
  unfold setDrawn
  refine wpAny_bind (wpAny_bind (wpAny_setState_of ho hd c.fit ?_))
  refine wpAny_bind (QY ?_)
  show wpAny _ _ (pure (!w.params.followText "set-order" && (!t.plain && decide (es.size > 1)))) _ _ s
  refine wpAny_pure ?_
  cases hT2 : w.params.followText "set-order" with
  | true=>
    simp only [Bool.not_true, Bool.false_and, Bool.false_eq_true, if_false]
    refine wpAny_bind (wpAny_pure ?_)
    refine wpAny_bind (wpAny_setEpoch_of ho hd c.fit ?_)
    refine wpAny_bind (wpAny_newObj_type (wpAny_pure ⟨_, rfl, "set_iterator", _, ⟨_, Heap.get?_push_size _ rfl, rfl⟩, XO.lookup, ?_⟩))
    exact h _ s.drawn _ a s.heap.objs.size (CZ ..) ⟨⟨_, _, Heap.get?_push_size _ rfl, rfl, rfl, .text 0 hT2 rfl⟩, Heap.get?_push_of_some _ ho⟩ (λb u e=>Heap.get?_push_of_some _ e) (Nat.le_refl _) (Nat.ne_of_lt hlt) (.inl rfl)
  | false=>
    cases hp : (!t.plain && decide (es.size > 1)) with
    | false=>
      simp only [Bool.not_false, Bool.true_and, Bool.false_eq_true, if_false]
      refine wpAny_bind (wpAny_pure ?_)
      refine wpAny_bind (wpAny_setEpoch_of ho hd c.fit ?_)
      refine wpAny_bind (wpAny_newObj_type (wpAny_pure ⟨_, rfl, "set_iterator", _, ⟨_, Heap.get?_push_size _ rfl, rfl⟩, XO.lookup, ?_⟩))
      exact h _ s.drawn _ a s.heap.objs.size (.refl _) ⟨⟨_, _, Heap.get?_push_size _ rfl, rfl, rfl, .plain 0 hT2 hp rfl (Fj c.tok.inc)⟩, Heap.get?_push_of_some _ ho⟩ (λb u e=>Heap.get?_push_of_some _ e) (Nat.le_refl _) (Nat.ne_of_lt hlt) (.inl rfl)
    | true=>
      simp only [Bool.not_false, Bool.true_and, if_true]
      refine wpAny_bind (Js _ _ _ List.length_range λps d hps=>?_)
      simp only [newTuple]
      have hsz : ps.length = es.size:=by rw [hps.length_eq, List.length_range]
      refine wpAny_bind (wpAny_newObj_type ?_ (by
        have:=fits_of_scanBound c.sz
        show (List.map (λi=>rawInt (i : Nat)) ps).toArray.size <= sizeLine
        simpa [hsz] using this))
      have ho1:=Heap.get?_push_of_some ({ cls:=.type "tuple", data:=.seq (ps.map λi=>rawInt (i : Nat)).toArray } : Obj) ho
      have hpl : ∀ pl ∈ ps, pl < es.size:=λpl hm=>List.mem_range.mp (hps.mem_iff.mp hm)
      refine wpAny_bind (wpAny_setEpoch_of ho1 hd c.fit ?_)
      refine wpAny_bind (wpAny_newObj_type (wpAny_pure ⟨_, rfl, "set_iterator", _, ⟨_, Heap.get?_push_size _ rfl, rfl⟩, XO.lookup, ?_⟩))
      refine h _ d (ps.map λp=>es.getD p (0, .none)) s.heap.objs.size _ ?_ ⟨⟨_, _, Heap.get?_push_size _ rfl, rfl, rfl, .drawn ps (Heap.get?_push_of_some _ (Heap.get?_push_size _ rfl)) (by simp) λi pl e=>?_⟩, Heap.get?_push_of_some _ ho1⟩ (λb u e=>Heap.get?_push_of_some _ (Heap.get?_push_of_some _ e)) ?_ ?_ (.inr (Nat.le_refl _))
      . rw [← F2 es (0, .none)]
        exact hps.map _
      . rw [List.getElem?_map, e]
        have:=hpl pl (List.mem_of_getElem? e)
        simp [this]
      . rw [Heap.size_push]; exact Nat.le_succ _
      . rw [Heap.size_push]; exact Nat.ne_of_lt (Nat.lt_succ_self _)
theorem Kv {Q : List Value -> Shared -> Prop} (hh : A.in1.in1.handled = none) (hS : V0 prog w s.heap a ns)
    (r : ∀ g tk d vs ms, IntsAre vs ms -> ms.Perm ns -> (∀ b u, s.heap.get? b = some u -> g.get? b = some u) -> Q vs { s with heap:=g, toks:=tk, drawn:=d }) : wpAny (model prog w) A (collect (.ref a)) Q E s:=by
  obtain ⟨o, es, ep, t, ho, hx, hd, c⟩:=hS
  unfold collect
  refine wpAny_bind (wpAny_runValue (codeAny_builtin F.entry_proto_collect ?_))
  rw [Around.under_plainId F.plain_proto_collect]
  show wpAny _ A.in1 (newList [] >>= λl=>again (Code.builtin "list.__iadd__" { pos:=[l, .ref a] })) _ _ _
  refine wpAny_bind (wpAny_newList ?_)
  refine wpAny_pure ⟨by first | rfl | exact plainId_quiet (by decide +kernel) _, ?_⟩
  refine codeAny_builtin F.entry_list_iadd ?_
  rw [Around.under_plainId (show plainId "list.__iadd__" = true by decide +kernel)]
  generalize hS : s.heap.objs.size = S
  have hdl : a < S:=by rw [← hS]; exact Heap.lt_size ho
  show wpAny _ A.in1 (slotArgs "__iadd__" 1 { pos:=[.ref S, .ref a] } >>= _) _ _ _
  refine wpAny_bind (wpAny_pure ?_)
  show wpAny _ A.in1 (Builtin.List.listExtendWith (.ref S) (.ref a) (.ref S)) _ _ _
  unfold Builtin.List.listExtendWith
  generalize hs1 : s.heap.push { cls:=Value.type "list", data:=Data.seq [].toArray } = h1
  have ho1 : h1.get? a = some o:=by rw [← hs1]; exact Heap.get?_push_of_some _ ho
  have h1s : h1.objs.size = S + 1:=by rw [← hs1, ← hS, Heap.size_push]
  refine wpAny_bind (wpAny_typeOf (T:="set") ⟨o, ho1, hx.1⟩ ?_)
  rw [if_neg (by
    have : (S == a) = false:=by rw [beq_eq_false_iff_ne]; exact (Nat.ne_of_lt hdl).symm
    simp [Builtin.List.listSameRef, this])]
  refine wpAny_bind (Fa (ns:=ns) (s:=⟨h1, s.gens, s.drawn, s.toks, s.os⟩) ho1 hx hd c λh2 d L tp I hp st old hI hti htp=>?_)
  have hI : S + 1 <= I:=by rw [← h1s]; exact hI
  have ho2:=old a o ho1
  have hty : (⟨h2, s.gens, d, s.toks, s.os⟩ : Shared).TypeIs (.ref a) "set":=⟨o, ho2, hx.1⟩
  refine wpAny_bind (wpAny_holding ?_)
  unfold Builtin.List.listLengthHint
  refine wpAny_bind (wpAny_specialOf hty V9.lookup ?_)
  have hsp : splitId "set.__len__" = some ("set", "__len__"):=by decide +kernel
  dsimp only
  rw [hsp]
  dsimp only
  refine wpAny_bind (wpAny_isInstance hty (by first | rfl | kernel_rfl) ?_)
  rw [if_neg (by decide)]
  show wpAny _ _ (if _ then _ else _) _ _ _
  rw [if_pos (by first | rfl | decide +kernel)]
  refine wpAny_bind (wpAny_typeOf hty ?_)
  refine wpAny_pure ?_
  rw [if_pos (by decide +kernel)]
  have hSs : h1.get? S = some { cls:=Value.type "list", data:=Data.seq #[] 0 }:=by rw [← hs1, ← hS]; exact Heap.get?_push_size _ rfl
  have hSs2:=old S _ hSs
  refine wpAny_bind (wpAny_rule ?_)
  refine wpAny_bind ?_
  unfold Builtin.List.listTouch
  refine wpAny_bind ?_
  refine wpAny_updateSeq (o:={ cls:=Value.type "list", data:=Data.seq #[] 0 }) hSs2 rfl ?_ (by decide) (by decide)
  have g1:=Heap.get?_update_self (h:=h2) (Obj.mapSeq λx=>x.push Value.none) hSs2 rfl
  refine wpAny_updateSeq (o:=(Obj.mapSeq (λx=>x.push Value.none) { cls:=Value.type "list", data:=Data.seq #[] 0 })) g1 rfl ?_ (by decide) (by decide)
  have g2:=Heap.get?_update_self (h:=h2.update S (Obj.mapSeq λx=>x.push Value.none)) (Obj.mapSeq λx=>x.pop) g1 rfl
  have g3 : ∀ b, b ≠ S -> ((h2.update S (Obj.mapSeq λx=>x.push Value.none)).update S (Obj.mapSeq λx=>x.pop)).get? b = h2.get? b:=λb hb=>by
    rw [Heap.get?_update_ne _ _ _ _ hb, Heap.get?_update_ne _ _ _ _ hb]
  refine wpAny_pure ⟨by first | rfl | exact plainId_quiet (by decide +kernel) _, ?_⟩
  have hSI : S < I:=hI
  have hdS : a ≠ S:=Nat.ne_of_lt hdl
  have htS : tp ≠ S:=by
    rcases htp with z | z
    . rw [z]; exact hdS
    . have z2 : S + 1 <= tp := by rw [← h1s]; exact z
      exact Nat.ne_of_gt z2
  have hLn : L.length = es.size:=by rw [hp.length_eq, Array.length_toList]
  refine codeAny_extend_loopS (Bl (A:=A.in1) (L:=L) (tp:=tp) (I:=I) hh hd c.fit c.tok hLn (Nat.ne_of_lt (Nat.lt_trans hdl hSI)) hti) (by rw [hLn]; exact fits_of_scanBound c.sz) S (by simp; exact ⟨Nat.ne_of_lt hSI, hdS.symm, htS.symm⟩) (.ref S) L.length 0 _ #[] _ rfl (Nat.zero_le _) ?_ g2 ⟨rfl, λj v h=>by simp at h⟩ λs' acc cc m hS' hit=>?_
  . exact st.frame λb hb o e=>(g3 b (by
      rcases List.mem_cons.mp hb with z | z
      . rw [z]; exact Nat.ne_of_gt hSI
      . rcases List.mem_cons.mp z with z | z
        . rw [z]; exact hdS
        . rw [List.mem_singleton.mp z]; exact htS)).trans e
  . refine wpAny_bind (wpAny_load hS' ?_)
    refine wpAny_pure ?_
    obtain ⟨hpp, g, dr, tk, os⟩:=s'
    have m1:=m.heap
    obtain rfl : s.gens = g:=m.gens
    obtain rfl : dr = d:=m.drawn
    obtain rfl : os = s.os:=m.os
    have ea : acc.toList = L.map (·.2):=by
      apply List.ext_getElem?
      intro j
      rw [List.getElem?_map]
      cases hj : acc.toList[j]? with
      | none=>
        have h1:=List.getElem?_eq_none_iff.mp hj
        have h2 : acc.size = L.length:=hit.1
        rw [List.getElem?_eq_none (by rw [Array.length_toList] at h1; omega)]; rfl
      | some v=>
        obtain ⟨e, h1, h2⟩:=hit.2 j v (by rw [← Array.getElem?_toList]; exact hj)
        rw [h1, h2]; rfl
    obtain ⟨ms, i1, i2⟩:=c.pm
    obtain ⟨ms', j1, j2⟩:=Vj (hp.map (·.2)) i1
    refine r hpp tk dr acc.toList ms' (by rw [ea]; exact j1) (j2.trans i2) λb u hb=>?_
    have lb : b < S:=by rw [← hS]; exact Heap.lt_size hb
    refine m1 b u (by simp; exact ⟨Nat.ne_of_lt lb, Nat.ne_of_lt (Nat.lt_trans lb hSI)⟩) ?_
    exact (g3 b (Nat.ne_of_lt lb)).trans (old b u (by rw [← hs1]; exact Heap.get?_push_of_some _ hb))
end
section
variable {X : Cx}
noncomputable def LA (P : Program) (w : World) (p : Addr) (ns : List Int) : HO:=.ext λh=>V0 P w h p ns
noncomputable def EB (K : PySem.W.Frag) (P : Program) (w : World) : List V -> Hp -> VK -> Prop:=λxs H Q=>∃ l ns, xs = [.ref l] /\ SqL K H l (ns.map V.int) /\ ns.length < 64 /\ ∀ p, H p = none -> Q (.ref p) (upd H p (LA P w p (dd ns)))
noncomputable def EC (P : Program) (w : World) : List V -> Hp -> VK -> Prop:=λxs H Q=>∃ l ns, xs = [.ref l] /\ H l = some (LA P w l ns) /\ ns.length < 64 /\ ∀ p, H p = none -> Q (.ref p) (upd H p (.lst ((Y3 ns).map V.int)))
theorem KU (K : PySem.W.Frag) (hK : X.K = K) (hc : X.calm = true) : Qb X (.type "set") (EB K X.prog X.w):=by
  subst hK
  intro pins s σ H xs us Q I r h
  obtain ⟨l, ns, rfl, hq, h64, q⟩:=h
  obtain ⟨u, rfl, ru⟩:=UU r
  cases ru
  obtain ⟨its, rv, pl, hz⟩:=I.list hq
  refine Ck (I.ok.hd hc) pl.isList (Gy rv) (by have : scanBound = 4096:=rfl; omega) λh' tk hS old=>?_
  have hfr : H s.heap.objs.size = none:=I.hok.fresh (Nat.le_refl _)
  refine ⟨.ref s.heap.objs.size, _, I.laid (t':=tk) old (Nat.le_refl _) (show YC X.prog X.w _ _ _ (LA X.prog X.w s.heap.objs.size (dd ns)) from ⟨hS, ?_, λh1 h2 x k=>x.at k⟩), rfl, q _ hfr⟩
  obtain ⟨o, _, _, _, ho, _⟩:=hS
  exact ⟨o, ho⟩
theorem Vn (hc : X.calm = true) : Qb X (.builtin "sorted") (EC X.prog X.w):=by
  intro pins s σ H xs us Q I r h
  obtain ⟨l, ns, rfl, he, h64, q⟩:=h
  obtain ⟨u, rfl, ru⟩:=UU r
  cases ru
  have hS : V0 X.prog X.w s.heap l ns:=(show YC X.prog X.w H s.heap l (LA X.prog X.w l ns) from I.hok l _ he).1
  refine Calls.call_function_entry kind_sorted plain_sorted entry_sorted (args_sorted1 _) ?_
  show wpAny _ _ (checkCount "sorted" 1 1 1 >>= λ_=>collect (.ref l) >>= λxs=>newList xs >>= λl=>holding [l] (call (.builtin "list.sort") [l] []) >>= λ_=>ret l) _ _ _
  refine wpAny_bind (wpAny_pure ?_)
  refine wpAny_bind (Kv (I.ok.hd hc) hS λg tk d ws ms iw hpm old=>?_)
  have hml : ws.length < 64:=by rw [IntsAre.length iw, hpm.length_eq]; exact h64
  refine wpAny_bind (wpAny_newList ?_ (by have:=sizeLine_eq; omega))
  have gl : (g.push { cls:=Value.type "list", data:=Data.seq ws.toArray }).get? g.objs.size = some (seqObj "list" ws.toArray 0):=Heap.get?_push_size _ rfl
  refine wpAny_bind (wpAny_holding (wpAny_call_entry slot_list_sort ⟨_, gl, rfl⟩ entry_list_sort (list_sort_tree gl iw (by omega) λout ns' a1 a2 a3=>⟨_, rfl, ?_⟩) (args_list_sort _)))
  refine wpAny_pure ⟨_, rfl, ?_⟩
  obtain ⟨e, hat⟩:=sortedHeap_at (out:=out) gl
  have en : ns' = Y3 ns:=QG (a2.trans hpm) a3
  have v:=QP a1
  rw [en] at v
  have I0 : Inv X pins σ H { s with drawn:=d }:=⟨I.ok, I.os, I.bare, I.base, I.loc, I.cell, I.free, I.freeC, I.pin, I.hok, I.len⟩
  have I1 : Inv X pins σ H { s with heap:=g, toks:=tk, drawn:=d }:=I0.kept (t':=tk) old
  have hfr : H g.objs.size = none:=I1.hok.fresh (Nat.le_refl _)
  refine ⟨.ref g.objs.size, _, I1.laid (t':=tk) (λb o e=>Qp (Nat.ne_of_lt (Heap.lt_size e)) (Heap.get?_push_of_some _ e)) (Nat.le_refl _) (show YC X.prog X.w _ _ _ (.lst ((Y3 ns).map V.int)) from ⟨?_, out.toList, e, v, hat⟩), rfl, q _ hfr⟩
  rw [List.length_map, (YE ns).length_eq]
  have:=sizeLine_eq
  omega
end
section
variable {K : PySem.W.Frag} {Er : Exc -> Hp -> Prop} {S : SC} {OO : List (List XM)} {σ : St}
theorem B4 {P : Program} {w0 : World} {ta : TE} {ma : Rs (List Int)} (ha : EvL K Er S OO σ ta Xb ma) : Ev K Er S OO OO σ (tCB (EC P w0) (XG (tCB (EB K P w0) (XG ta Z1)) Z1)) (oL (oF Xb)) (ma.bind λas=>chk (as.length < 64) (.ok (Y3 (dd as)))):=λH Q w s Pz=>
  ha.run w s FO.tr Pz λas x H1 s1 w1 q1 ⟨p, xs, e, q, pr⟩ P1=>by
    obtain ⟨hl, P2⟩:=PZ.chk P1
    have P3 : FO K OO OO (oL (oF Xb)) Q (Y3 (dd as)) H1:=P2
    refine ⟨p, as, by rw [e], SqL.of (by rw [← Gh pr]; exact q), hl, λS hS=>?_⟩
    exact ⟨S, dd as, rfl, X8, Nat.lt_of_le_of_lt (Kk as) hl, Bd (w1.keep (XT hS _)) (Up _) (FO.tr _ _ _ (XT hS _) P3)⟩
variable {u : TS} {α γ ρ ι : Type}
variable {β : Type} {Fd : Ends -> β -> Hp -> Prop} [fd : FdOk Fd]
noncomputable def FH : Enc Unit:=λ_ _ _ _=>True
instance : MonoE FH:=⟨λ_ _=>trivial⟩
theorem KZ {r : Enc α} {H : Hp} {kvs : List (Key × V)} {d : List (Int × α)} (h : Paired (rDP r K H) kvs d) : Paired (rDP FH K H) kvs (d.map λkx=>(kx.1, ())):=by
  induction h with
  | nil=>exact .nil
  | cons q _ ih=>exact .cons ⟨q.1, trivial⟩ ih
theorem Uo {td : TE} {r : Enc α} {m : Rs (List (Int × α))} (hd : EvB K Er S OO σ td (rDf r) m) : EvB K Er S OO σ td (rDf FH) (m.bind λd=>.ok (d.map λkx=>(kx.1, ()))):=λH Q w s P=>
  hd.run w s FB.tr P λd x H1 s1 w1 q1 r9 P1=>by obtain ⟨p, o, kvs, e, q, pr⟩:=r9; exact P1 _ H1 (Xx.refl _) ⟨p, o, kvs, e, q, KZ pr⟩
end
end L2
namespace My
open PySem L2
noncomputable def X2 (a_0 : Int) (a_1 : Int) : Rs Unit:=(Rs.bind (Rs.bind (Rs.ok a_1) λx5=>(Rs.bind (Rs.ok a_0) λx6=>(Rs.ok (decide (x6 < x5))))) λx7=>(if x7 = true then Rs.bad else (Rs.ok ())))
noncomputable def ZZ (a_0 : (List (List Int))) (a_1 : (List (List Int))) : Rs (List (List Int)):=(Rs.bind (Rs.bind (Rs.ok a_0) λx3=>(Rs.ok (x3.length : Int))) λa1=>(Rs.bind (Rs.bind (Rs.ok a_1) λx6=>(Rs.ok (x6.length : Int))) λa4=>(Rs.bind (Rs.bind (Rs.ok (24 : Int)) λx10=>(Rs.bind (Rs.bind (Rs.ok a1) λx8=>(Rs.bind (Rs.ok a4) λx9=>(Rs.ok (x8 + x9)))) λx11=>(noE (X2 x10 x11)))) λx12=>(Rs.bind (Rs.bind (Rs.bind (Rs.ok a_0) λx16=>(Rs.ok (Yl x16))) λx20=>(QJ x20 (λa18=>(Rs.bind (Rs.ok a18.2) λx21=>(Rs.bind (Rs.bind (Rs.bind (Rs.bind (Rs.ok a18.1) λx26=>(Rs.bind (Rs.ok []) λx27=>(Rs.ok (x26 :: x27)))) λx25=>(chk (x25.length <= sizeLine) (Rs.ok x25))) λx23=>(Rs.bind (Rs.ok a4) λx24=>(Bp x23 x24))) λx22=>(Bc x21 x22)))))) λa13=>(Rs.bind (Rs.bind (Rs.ok a_1) λx28=>(Rs.ok (Yl x28))) λx55=>(Rs.bind (forN x55 (a13) (λg31 a33=>(Rs.bind (Rs.bind (Rs.bind (Rs.bind (Rs.bind (Rs.bind (Rs.ok a1) λx40=>(Rs.bind (Rs.ok a33.1) λx41=>(Rs.ok (x40 + x41)))) λx42=>(Rs.bind (Rs.ok []) λx43=>(Rs.ok (x42 :: x43)))) λx39=>(chk (x39.length <= sizeLine) (Rs.ok x39))) λx37=>(Rs.bind (Rs.ok a1) λx38=>(Bp x37 x38))) λx35=>(Rs.bind (Rs.bind (Rs.ok a33.2) λx47=>(QJ x47 (λa45=>(Rs.bind (Rs.ok a1) λx48=>(Rs.bind (Rs.ok a45) λx49=>(Rs.ok (x48 + x49))))))) λx36=>(Bc x35 x36))) λa50=>(chk (g31.length < sizeLine) ((λa52=>(Rs.ok (a52))) (g31 ++ [a50])))))) λg53=>(Rs.ok g53)))))))
noncomputable def Yi (a_0 : (List Int)) (a_1 : (List Int)) : Rs (List Int):=(Rs.bind (Rs.ok []) λa1=>(Rs.bind (Rs.ok a_0) λx24=>(Rs.bind (forN x24 (a1) (λg6 a8=>(Rs.bind (Rs.bind (Rs.ok a_1) λx13=>(QJ x13 (λa11=>(Rs.bind (Rs.bind (Rs.ok a8) λx15=>(Rs.bind (Rs.bind (Rs.ok a_1) λx14=>(Rs.ok (x14.length : Int))) λx16=>(VG x15 x16))) λx17=>(Rs.bind (Rs.ok a11) λx18=>(Rs.ok (x17 + x18))))))) λa19=>(chk (g6.length + a19.length <= sizeLine) ((λa21=>(Rs.ok (a21))) (g6 ++ a19)))))) λg22=>(Rs.ok g22))))
noncomputable def Zm (a_0 : (List (List Int))) (a_1 : (List (List Int))) : Rs (List (List Int)):=(Rs.bind (Rs.bind (Rs.ok (24 : Int)) λx6=>(Rs.bind (Rs.bind (Rs.bind (Rs.ok a_0) λx2=>(Rs.ok (x2.length : Int))) λx4=>(Rs.bind (Rs.bind (Rs.ok a_1) λx3=>(Rs.ok (x3.length : Int))) λx5=>(VG x4 x5))) λx7=>(noE (X2 x6 x7)))) λx8=>(Rs.bind (Rs.ok []) λa9=>(Rs.bind (Rs.ok a_0) λx35=>(Rs.bind (forN x35 (a9) (λg14 a16=>(Rs.bind (Rs.ok a_1) λx32=>(Rs.bind (forN x32 (g14) (λg20 a22=>(Rs.bind (Rs.bind (Rs.ok a16) λx25=>(Rs.bind (Rs.ok a22) λx26=>(noE (Yi x25 x26)))) λa27=>(chk (g20.length < sizeLine) ((λa29=>(Rs.ok (a29))) (g20 ++ [a27])))))) λg30=>(Rs.ok (g30)))))) λg33=>(Rs.ok g33)))))
noncomputable def Jp (a_0 : (List (List Int))) (a_1 : (List Int)) : Rs (List (List Int)):=(Rs.bind (Rs.bind (Rs.ok a_0) λx7=>(QJ x7 (λa5=>(Rs.bind (Rs.ok a5) λx8=>(Rs.ok x8))))) λa1=>(Rs.bind (Rs.bind (Rs.ok a_0) λx9=>(Rs.ok (Yl x9))) λx41=>(Rs.bind (forN x41 (a1) (λg12 a14=>(Rs.bind (Rs.bind (Rs.ok a14.2) λx16=>(Rs.ok (Yl x16))) λx38=>(Rs.bind (forN x38 (g12) (λg19 a21=>(Rs.bind (Rs.bind (Rs.ok a_1) λx23=>(Rs.bind (Rs.ok a21.2) λx24=>(atR x23 x24))) λx29=>(Rs.bind (Rs.bind (Rs.ok a_1) λx25=>(Rs.bind (Rs.ok a14.1) λx26=>(atR x25 x26))) λx30=>(Rs.bind (atR g19 x30) λx34=>(Rs.bind (Rs.bind (Rs.ok a_1) λx27=>(Rs.bind (Rs.ok a21.1) λx28=>(atR x27 x28))) λx31=>(Rs.bind (QA x34 x31 x29) λx35=>(Rs.bind (QA g19 x30 x35) λa32=>(Rs.ok (a32)))))))))) λg36=>(Rs.ok (g36)))))) λg39=>(Rs.ok g39))))
noncomputable def XI (a_0 : (List (List Int))) (a_1 : (List (Int × Unit))) : Rs (Option (Int × Int × Int)):=(Rs.bind (Rs.bind (Rs.ok a_1) λx1=>(Rs.ok (x1.map λkx=>kx.1))) λx38=>(Rs.bind (forC x38 () (λg4 a6=>(Rs.bind (Rs.bind (Rs.ok a_1) λx8=>(Rs.ok (x8.map λkx=>kx.1))) λx35=>(Rs.bind (forC x35 () (λg11 a13=>(Rs.bind (Rs.bind (Rs.bind (Rs.bind (Rs.ok a_0) λx15=>(Rs.bind (Rs.ok a6) λx16=>(atR x15 x16))) λx17=>(Rs.bind (Rs.ok a13) λx18=>(atR x17 x18))) λx19=>(Rs.bind (Rs.ok a_1) λx20=>(Rs.ok (!(Qn x20 x19).isSome)))) λx21=>(if x21 = true then (Rs.bind (Rs.bind (Rs.bind (Rs.bind (Rs.bind (Rs.ok a_0) λx22=>(Rs.bind (Rs.ok a6) λx23=>(atR x22 x23))) λx24=>(Rs.bind (Rs.ok a13) λx25=>(atR x24 x25))) λx26=>(Rs.bind (Rs.ok a6) λx27=>(Rs.bind (Rs.ok a13) λx28=>(Rs.ok (x26, x27, x28))))) λx29=>(Rs.ok (some x29))) λx31=>(Rs.ok (Ctl.ret x31))) else (Rs.bind (Rs.ok ()) λx30=>(Rs.ok (Ctl.nx x30))))))) (Zv λg32=>(Rs.bind (Rs.ok ()) λx34=>(Rs.ok (Ctl.nx x34)))))))) (Qm λg36=>(Rs.ok none))))
noncomputable def Jf (a_0 : (List (List Int))) (a_1 : (List Int)) : Rs ((List Int) × (List (Int × Int × Int))):=(Rs.bind (Rs.bind (Rs.bind (Rs.ok a_1) λx8=>(QJ x8 (λa6=>(Rs.bind (Rs.ok a6) λx9=>(Rs.bind (Rs.ok true) λx10=>(Rs.ok (x9, x10))))))) λx4=>(Rs.ok (Vs [] x4))) λa1=>(Rs.bind (Rs.ok []) λa11=>(Rs.bind (Rs.bind (Rs.ok a_0) λx19=>(Rs.bind (Rs.bind (Rs.ok a1) λx18=>(Rs.ok (List.map (λ(kx : Int × Bool)=>(kx.1, ())) x18))) λx20=>(noE (XI x19 x20)))) λa14=>(Rs.bind (QB (a_0.length + 2) (a1, a14, a11) (λg23=>(Rs.bind (Rs.ok g23.2.1) λx25=>(Rs.ok x25.isSome))) (λg23=>(Rs.bind (Rs.bind (Rs.ok g23.2.1) BC) λa26=>(chk (g23.2.2.length < sizeLine) ((λa28=>(Rs.bind (Rs.ok true) λx30=>(Rs.bind (Rs.bind (Rs.bind (Rs.ok g23.2.1) BC) λx29=>(Rs.ok x29.1)) λx31=>(chk (g23.1.length < sizeLine) ((λa32=>(Rs.bind (Rs.bind (Rs.ok a_0) λx39=>(Rs.bind (Rs.bind (Rs.ok a32) λx38=>(Rs.ok (List.map (λ(kx : Int × Bool)=>(kx.1, ())) x38))) λx40=>(noE (XI x39 x40)))) λa34=>(Rs.ok (a32, a34, a28)))) (Z4 g23.1 x31 x30)))))) (g23.2.2 ++ [a26])))))) λg41=>(Rs.bind (Rs.bind (Rs.ok g41.1) λx44=>(chk (x44.length < 64) (Rs.ok (Y3 (x44.map λkx=>kx.1))))) λx45=>(Rs.bind (Rs.ok g41.2.2) λx46=>(Rs.ok (x45, x46))))))))
noncomputable def Jv (a_0 : (List (List Int))) (a_1 : (List Int)) : Rs (List (List Int)):=(Rs.bind (Rs.bind (Rs.bind (Rs.bind (Rs.ok a_1) λx5=>(Rs.ok (Yl x5))) λx9=>(QJ x9 (λa7=>(Rs.bind (Rs.ok a7.2) λx10=>(Rs.bind (Rs.ok a7.1) λx11=>(Rs.ok (x10, x11))))))) λx4=>(Rs.ok (Vs [] x4))) λa1=>(Rs.bind (orR (Rs.bind (Rs.bind (Rs.ok a_1) λx12=>(Rs.ok (x12.length : Int))) λx13=>(Rs.bind (Rs.ok (0 : Int)) λx14=>(Rs.ok (decide (x13 = x14))))) (Rs.bind (Rs.bind (Rs.ok a_0) λx18=>(Rs.bind (Rs.bind (Rs.ok a1) λx17=>(Rs.ok (List.map (λ(kx : Int × Int)=>(kx.1, ())) x17))) λx19=>(noE (XI x18 x19)))) λx20=>(Rs.ok x20.isSome))) λx21=>(if x21 = true then Rs.bad else (Rs.bind (Rs.ok a_1) λx25=>(QJ x25 (λa23=>(Rs.bind (Rs.ok a_1) λx29=>(QJ x29 (λa27=>(Rs.bind (Rs.ok a1) λx34=>(Rs.bind (Rs.bind (Rs.bind (Rs.ok a_0) λx30=>(Rs.bind (Rs.ok a23) λx31=>(atR x30 x31))) λx32=>(Rs.bind (Rs.ok a27) λx33=>(atR x32 x33))) λx35=>(Dy x34 x35))))))))))))
noncomputable def Yq (a_0 : (List Int)) (a_1 : Int) : Rs (List Int):=(Rs.bind (Rs.bind (Rs.ok a_0) λx1=>(Rs.ok (Yl x1))) λx5=>(Ex x5 (λa3=>(Rs.bind (Rs.ok a3.2) λx6=>(Rs.bind (Rs.ok a_1) λx7=>(Rs.ok (decide (x6 = x7)))))) (λa3=>(Rs.ok a3.1))))
noncomputable def Zk (a_0 : (List Int)) (a_1 : Int) (a_2 : Int) : Rs (List Int):=(Rs.bind (Rs.bind (Rs.ok a_1) λx3=>(Rs.bind (Rs.ok a_2) λx4=>(Rs.ok (min x3 x4)))) λa1=>(Rs.bind (Rs.ok a_0) λx8=>(QJ x8 (λa6=>(Rs.bind (Rs.bind (Rs.ok a6) λx11=>(Rs.bind (Rs.bind (Rs.bind (Rs.ok a_1) λx9=>(Rs.bind (Rs.ok a_2) λx10=>(Rs.ok (x9, x10)))) λx13=>(Rs.ok [x13.1, x13.2])) λx12=>(Rs.ok (decide (x11 ∈ x12))))) λx14=>(if x14 = true then (Rs.ok a1) else (Rs.ok a6)))))))
noncomputable def YD (a_0 : (List (List Int))) : Rs (List (List Int)):=(Rs.bind (Rs.bind (Rs.bind (Rs.ok a_0) λx4=>(Rs.ok (x4.length : Int))) λx3=>(chk (0 <= x3 /\ x3 <= 1000) (Rs.ok (X6 0 x3)))) λa1=>(Rs.bind (Rs.bind (Rs.ok a_0) λx5=>(Rs.ok (Yl x5))) λx41=>(Rs.bind (forN x41 (a1) (λg8 a10=>(Rs.bind (Rs.ok a10.2) λx30=>(Rs.bind (forN x30 (g8) (λg14 a16=>(Rs.bind (Rs.bind (Rs.ok g14) λx25=>(Rs.bind (Rs.bind (Rs.ok g14) λx21=>(Rs.bind (Rs.ok a10.1) λx22=>(atR x21 x22))) λx26=>(Rs.bind (Rs.bind (Rs.ok g14) λx23=>(Rs.bind (Rs.ok a16) λx24=>(atR x23 x24))) λx27=>(noE (Zk x25 x26 x27))))) λa18=>(Rs.ok (a18))))) λg28=>(Rs.ok (g28)))))) λg31=>(Rs.bind (Rs.bind (Rs.ok g31) λx33=>(chk (x33.length < 64) (Rs.ok (Y3 (dd x33))))) λx37=>(QJ x37 (λa35=>(Rs.bind (Rs.ok g31) λx39=>(Rs.bind (Rs.ok a35) λx40=>(noE (Yq x39 x40))))))))))
noncomputable def Yg (a_0 : (List (List Int))) : Rs (Option (Int × Int)):=(Rs.bind (Rs.bind (Rs.ok a_0) λx1=>(Rs.ok (Yl x1))) λx20=>(Rs.bind (forC x20 () (λg4 a6=>(Rs.bind (Rs.bind (Rs.bind (Rs.ok a6.2) λx8=>(Rs.bind (Rs.ok a6.1) λx9=>(atR x8 x9))) λx10=>(Rs.bind (Rs.ok a6.1) λx11=>(Rs.ok (!(decide (x10 = x11)))))) λx12=>(if x12 = true then (Rs.bind (Rs.bind (Rs.bind (Rs.ok (1 : Int)) λx13=>(Rs.bind (Rs.ok a6.1) λx14=>(Rs.ok (x13, x14)))) λx15=>(Rs.ok (some x15))) λx17=>(Rs.ok (Ctl.ret x17))) else (Rs.bind (Rs.ok ()) λx16=>(Rs.ok (Ctl.nx x16))))))) (Qm λg18=>(Rs.ok none))))
noncomputable def YR (a_0 : (List Int)) : Rs (Option (Int × Int)):=(Rs.bind (Rs.bind (Rs.ok a_0) λx1=>(Rs.ok (Yl x1))) λx29=>(Rs.bind (forC x29 () (λg4 a6=>(Rs.bind (Rs.bind (Rs.ok a6.2) λx14=>(Rs.bind (Rs.bind (Rs.ok a_0) λx11=>(Rs.bind (Rs.bind (Rs.bind (Rs.ok a6.1) λx8=>(Rs.bind (Rs.ok (1 : Int)) λx9=>(Rs.ok (x8 + x9)))) λx10=>(Rs.ok (some x10))) λx12=>(Rs.bind (Rs.ok none) λx13=>(Rs.ok (Fh x11 x12 x13))))) λx15=>(Rs.ok (decide (x14 ∈ x15))))) λx16=>(if x16 = true then (Rs.bind (Rs.bind (Rs.bind (Rs.ok a6.1) λx22=>(Rs.bind (Rs.bind (Rs.ok a_0) λx19=>(Rs.bind (Rs.ok a6.2) λx20=>(Rs.bind (Rs.bind (Rs.ok a6.1) λx17=>(Rs.bind (Rs.ok (1 : Int)) λx18=>(Rs.ok (x17 + x18)))) λx21=>(IG x19 x20 x21)))) λx23=>(Rs.ok (x22, x23)))) λx24=>(Rs.ok (some x24))) λx26=>(Rs.ok (Ctl.ret x26))) else (Rs.bind (Rs.ok ()) λx25=>(Rs.ok (Ctl.nx x25))))))) (Qm λg27=>(Rs.ok none))))
noncomputable def Yf (a_0 : (List (List Int))) : Rs (Option (Int × Int × Int × Int)):=(Rs.bind (Rs.bind (Rs.bind (Rs.ok a_0) λx1=>(Rs.ok (x1.length : Int))) λx2=>(J5 0 x2)) λx32=>(Rs.bind (forC x32 () (λg5 a7=>(Rs.bind (Rs.bind (Rs.bind (Rs.ok a_0) λx15=>(QJ x15 (λa13=>(Rs.bind (Rs.ok a13) λx16=>(Rs.bind (Rs.ok a7) λx17=>(atR x16 x17)))))) λx18=>(noE (YR x18))) λa9=>(Rs.bind (Rs.bind (Rs.ok a9) λx19=>(Rs.ok x19.isSome)) λx20=>(if x20 = true then (Rs.bind (Rs.bind (Rs.bind (Rs.ok (2 : Int)) λx23=>(Rs.bind (Rs.ok a7) λx24=>(Rs.bind (Rs.bind (Rs.bind (Rs.ok a9) BC) λx21=>(Rs.ok x21.1)) λx25=>(Rs.bind (Rs.bind (Rs.bind (Rs.ok a9) BC) λx22=>(Rs.ok x22.2)) λx26=>(Rs.ok (x23, x24, x25, x26)))))) λx27=>(Rs.ok (some x27))) λx29=>(Rs.ok (Ctl.ret x29))) else (Rs.bind (Rs.ok ()) λx28=>(Rs.ok (Ctl.nx x28)))))))) (Qm λg30=>(Rs.ok none))))
noncomputable def X5 (a_0 : (List (List Int))) : Rs (Option (Int × Int × Int × Int)):=(Rs.bind (Rs.bind (Rs.ok a_0) λx1=>(Rs.ok (Yl x1))) λx57=>(Rs.bind (forC x57 () (λg4 a6=>(Rs.bind (Rs.bind (Rs.ok a6.2) λx8=>(Rs.ok (Yl x8))) λx54=>(Rs.bind (forC x54 () (λg11 a13=>(Rs.bind (Rs.bind (Rs.bind (Rs.ok a_0) λx15=>(Rs.ok (x15.length : Int))) λx16=>(J5 0 x16)) λx50=>(Rs.bind (forC x50 () (λg19 a21=>(Rs.bind (Rs.bind (Rs.bind (Rs.bind (Rs.ok a_0) λx23=>(Rs.bind (Rs.ok a13.2) λx24=>(atR x23 x24))) λx25=>(Rs.bind (Rs.ok a21) λx26=>(atR x25 x26))) λx37=>(Rs.bind (Rs.bind (Rs.bind (Rs.ok a_0) λx29=>(Rs.bind (Rs.bind (Rs.ok a6.2) λx27=>(Rs.bind (Rs.ok a21) λx28=>(atR x27 x28))) λx30=>(atR x29 x30))) λx35=>(Rs.bind (Rs.bind (Rs.bind (Rs.ok a_0) λx31=>(Rs.bind (Rs.ok a13.1) λx32=>(atR x31 x32))) λx33=>(Rs.bind (Rs.ok a21) λx34=>(atR x33 x34))) λx36=>(atR x35 x36))) λx38=>(Rs.ok (!(decide (x37 = x38)))))) λx39=>(if x39 = true then (Rs.bind (Rs.bind (Rs.bind (Rs.ok (3 : Int)) λx40=>(Rs.bind (Rs.ok a6.1) λx41=>(Rs.bind (Rs.ok a13.1) λx42=>(Rs.bind (Rs.ok a21) λx43=>(Rs.ok (x40, x41, x42, x43)))))) λx44=>(Rs.ok (some x44))) λx46=>(Rs.ok (Ctl.ret x46))) else (Rs.bind (Rs.ok ()) λx45=>(Rs.ok (Ctl.nx x45))))))) (Zv λg47=>(Rs.bind (Rs.ok ()) λx49=>(Rs.ok (Ctl.nx x49)))))))) (Zv λg51=>(Rs.bind (Rs.ok ()) λx53=>(Rs.ok (Ctl.nx x53)))))))) (Qm λg55=>(Rs.ok none))))
noncomputable def Qg (a_0 : (List (List Int))) : Rs (Option (List Int)):=(Rs.bind (Rs.bind (Rs.bind (Rs.ok a_0) λx4=>(noE (Yg x4))) λx5=>(Rs.ok (x5.map λp=>[p.1, p.2]))) λa1=>(Rs.bind (Rs.bind (Rs.bind (Rs.ok a1) λx6=>(Rs.ok x6.isNone)) λx7=>(if x7 = true then (Rs.bind (Rs.bind (Rs.bind (Rs.ok a_0) λx13=>(noE (Yf x13))) λx14=>(Rs.ok (x14.map λp=>[p.1, p.2.1, p.2.2.1, p.2.2.2]))) λa10=>(Rs.ok (a10))) else (Rs.ok (a1)))) λg16=>(Rs.bind (Rs.bind (Rs.bind (Rs.ok g16) λx17=>(Rs.ok x17.isNone)) λx18=>(if x18 = true then (Rs.bind (Rs.bind (Rs.bind (Rs.ok a_0) λx24=>(noE (X5 x24))) λx25=>(Rs.ok (x25.map λp=>[p.1, p.2.1, p.2.2.1, p.2.2.2]))) λa21=>(Rs.ok (a21))) else (Rs.ok (g16)))) λg27=>(Rs.ok g27))))
noncomputable def V3 (a_0 : (List (List Int))) (a_1 : Int) (a_2 : Int) : Rs Int:=(Rs.bind (Rs.bind (Rs.ok a_0) λx4=>(QJ x4 (λa2=>(Rs.bind (Rs.ok a2) λx5=>(Rs.bind (Rs.ok a_2) λx6=>(atR x5 x6)))))) λx7=>(Rs.bind (Rs.ok a_1) λx8=>(Bw x7 x8)))
noncomputable def ZI (a_0 : (List (List Int))) : Rs (List (List Int)):=(Rs.bind (Rs.bind (Rs.ok a_0) λx3=>(Rs.ok (x3.length : Int))) λa1=>(Rs.bind (Rs.bind (Rs.ok a1) λx4=>(J5 0 x4)) λx8=>(QJ x8 (λa6=>(Rs.bind (Rs.bind (Rs.ok a1) λx9=>(J5 0 x9)) λx13=>(QJ x13 (λa11=>(Rs.bind (Rs.ok a_0) λx15=>(Rs.bind (Rs.ok a6) λx16=>(Rs.bind (Rs.ok a11) λx17=>(noE (V3 x15 x16 x17))))))))))))
noncomputable def Vh (a_0 : (List Int)) (a_1 : Int) : Rs Int:=(Rs.bind (Rs.bind (Rs.ok a_1) λx2=>(Rs.bind (Rs.bind (Rs.ok a_0) λx1=>(Rs.ok (x1.length : Int))) λx3=>(Rs.ok (decide (x2 < x3))))) λx4=>(if x4 = true then (Rs.bind (Rs.ok a_0) λx5=>(Rs.bind (Rs.ok a_1) λx6=>(atR x5 x6))) else (Rs.bind (Rs.ok (5 : Int)) λa7=>(Rs.bind (Rs.bind (Rs.ok a_0) λx10=>(Rs.bind (Rs.ok none) λx11=>(Rs.bind (Rs.bind (Rs.ok (63 : Int)) λx9=>(Rs.ok (some x9))) λx12=>(Rs.ok (Fh x10 x11 x12))))) λx39=>(Rs.bind (forN x39 (a7) (λg15 a17=>(Rs.bind (Rs.bind (Rs.bind (Rs.bind (Rs.bind (Rs.ok g15) λx21=>(Rs.bind (Rs.ok (48271 : Int)) λx22=>(VG x21 x22))) λx25=>(Rs.bind (Rs.bind (Rs.ok a17) λx23=>(Rs.bind (Rs.ok (1000003 : Int)) λx24=>(JD x23 x24))) λx26=>(Rs.ok (x25 + x26)))) λx27=>(Rs.bind (Rs.ok (1 : Int)) λx28=>(Rs.ok (x27 + x28)))) λx29=>(Rs.bind (Rs.ok (2147483647 : Int)) λx30=>(JD x29 x30))) λa19=>(Rs.ok (a19))))) λg31=>(Rs.bind (Rs.bind (Rs.ok g31) λx35=>(Rs.bind (Rs.bind (Rs.ok (7919 : Int)) λx33=>(Rs.bind (Rs.ok a_1) λx34=>(VG x33 x34))) λx36=>(Rs.ok (x35 + x36)))) λx37=>(Rs.bind (Rs.ok (1000003 : Int)) λx38=>(JD x37 x38))))))))
noncomputable def Gc (a_0 : Int) (a_1 : Int) : Rs Int:=(Rs.bind (Rs.bind (Rs.bind (Rs.bind (Rs.bind (Rs.bind (Rs.ok a_0) λx3=>(Rs.bind (Rs.ok (2147483629 : Int)) λx4=>(JD x3 x4))) λx7=>(Rs.bind (Rs.bind (Rs.ok (1013 : Int)) λx5=>(Rs.bind (Rs.ok a_1) λx6=>(VG x5 x6))) λx8=>(Rs.ok (x7 + x8)))) λx9=>(Rs.bind (Rs.ok (7919 : Int)) λx10=>(Rs.ok (x9 + x10)))) λx11=>(Rs.bind (Rs.ok (3 : Int)) λx12=>(LE x11 x12))) λx13=>(Rs.bind (Rs.ok (2147483647 : Int)) λx14=>(JD x13 x14))) λa1=>(Rs.bind (Rs.bind (Rs.bind (Rs.bind (Rs.bind (Rs.ok a1) λx17=>(Rs.bind (Rs.ok (40699 : Int)) λx18=>(VG x17 x18))) λx23=>(Rs.bind (Rs.bind (Rs.bind (Rs.ok (3793 : Int)) λx19=>(Rs.bind (Rs.ok a_1) λx20=>(VG x19 x20))) λx21=>(Rs.bind (Rs.ok a_1) λx22=>(VG x21 x22))) λx24=>(Rs.ok (x23 + x24)))) λx25=>(Rs.bind (Rs.ok (11 : Int)) λx26=>(Rs.ok (x25 + x26)))) λx27=>(Rs.bind (Rs.ok (2147483399 : Int)) λx28=>(JD x27 x28))) λa15=>(Rs.bind (Rs.ok a15) λx29=>(Rs.bind (Rs.ok (101 : Int)) λx30=>(Ig x29 x30)))))
noncomputable def UI (a_0 : (List Int)) (a_1 : Int) (a_2 : (List Int)) : Rs (List Int):=(Rs.bind (Rs.bind (Rs.ok a_0) λx4=>(Rs.bind (Rs.ok a_1) λx5=>(noE (Vh x4 x5)))) λa1=>(Rs.bind (Rs.ok a1) λa6=>(Rs.bind (Rs.ok []) λa8=>(Rs.bind (Rs.bind (Rs.bind (Rs.ok a_2) λx11=>(Rs.ok (x11.length : Int))) λx12=>(J5 0 x12)) λx81=>(Rs.bind (forN x81 (a8, a6) (λg15 a17=>(Rs.bind (Rs.bind (Rs.bind (Rs.ok a1) λx21=>(Rs.bind (Rs.bind (Rs.ok (10 : Int)) λx19=>(Rs.bind (Rs.ok (18 : Int)) λx20=>(LE x19 x20))) λx22=>(Rs.ok (decide (x21 < x22))))) λx23=>(if x23 = true then (Rs.bind (Rs.bind (Rs.bind (Rs.ok a1) λx27=>(Rs.bind (Rs.ok a17) λx28=>(noE (Gc x27 x28)))) λx31=>(Rs.bind (Rs.bind (Rs.ok a_2) λx29=>(Rs.bind (Rs.ok a17) λx30=>(atR x29 x30))) λx32=>(JD x31 x32))) λa33=>(chk (g15.1.length < sizeLine) ((λa35=>(Rs.ok (a35, g15.2))) (g15.1 ++ [a33])))) else (Rs.bind (Rs.bind (Rs.bind (Rs.ok g15.2) λx36=>(Rs.bind (Rs.ok (0 : Int)) λx37=>(Rs.ok (decide (x37 < x36))))) λx38=>(if x38 = true then (Rs.bind (Rs.bind (Rs.ok g15.2) λx43=>(Rs.bind (Rs.bind (Rs.ok a_2) λx41=>(Rs.bind (Rs.ok a17) λx42=>(atR x41 x42))) λx44=>(JD x43 x44))) λa45=>(chk (g15.1.length < sizeLine) ((λa47=>(Rs.bind (Rs.bind (Rs.ok g15.2) λx52=>(Rs.bind (Rs.bind (Rs.ok a_2) λx50=>(Rs.bind (Rs.ok a17) λx51=>(atR x50 x51))) λx53=>(Ig x52 x53))) λa48=>(Rs.ok (a48, a47)))) (g15.1 ++ [a45])))) else (Rs.bind (Rs.bind (Rs.ok a_0) λx63=>(Rs.bind (Rs.bind (Rs.bind (Rs.bind (Rs.ok a_1) λx57=>(Rs.bind (Rs.ok (1 : Int)) λx58=>(Rs.ok (x57 + x58)))) λx59=>(Rs.bind (Rs.ok a17) λx60=>(Rs.ok (x59 + x60)))) λx61=>(Rs.bind (Rs.ok (63 : Int)) λx62=>(JD x61 x62))) λx64=>(noE (Vh x63 x64)))) λa54=>(Rs.bind (Rs.bind (Rs.bind (Rs.ok a54) λx66=>(Rs.bind (Rs.ok a17) λx67=>(noE (Gc x66 x67)))) λx70=>(Rs.bind (Rs.bind (Rs.ok a_2) λx68=>(Rs.bind (Rs.ok a17) λx69=>(atR x68 x69))) λx71=>(JD x70 x71))) λa72=>(chk (g15.1.length < sizeLine) ((λa74=>(Rs.ok (g15.2, a74))) (g15.1 ++ [a72]))))))) λg76=>(Rs.ok (g76.2, g76.1))))) λg78=>(Rs.ok (g78.1, g78.2))))) λg79=>(Rs.ok g79.1))))))
noncomputable def Zq (a_0 : Int) (a_1 : Int) (a_2 : Int) (a_3 : Int) (a_4 : Int) : Rs Int:=(Rs.bind (Rs.bind (Rs.ok a_1) λx3=>(Rs.bind (Rs.ok (2 : Int)) λx4=>(Ig x3 x4))) λa1=>(Rs.bind (Rs.bind (Rs.ok a_0) λx5=>(Rs.bind (Rs.ok (1 : Int)) λx6=>(Rs.ok (decide (x5 = x6))))) λx7=>(if x7 = true then (Rs.bind (Rs.bind (Rs.bind (Rs.ok (2 : Int)) λx8=>(Rs.bind (Rs.ok a_4) λx9=>(VG x8 x9))) λx10=>(Rs.bind (Rs.ok a_3) λx11=>(Rs.ok (x10 - x11)))) λx12=>(Rs.bind (Rs.ok a_1) λx13=>(JD x12 x13))) else (Rs.bind (Rs.bind (Rs.ok a_0) λx14=>(Rs.bind (Rs.ok (2 : Int)) λx15=>(Rs.ok (decide (x14 = x15))))) λx16=>(if x16 = true then (Rs.bind (Rs.bind (Rs.bind (Rs.ok a_2) λx17=>(Rs.bind (Rs.ok a_3) λx18=>(VG x17 x18))) λx23=>(Rs.bind (Rs.bind (Rs.bind (Rs.ok (1 : Int)) λx19=>(Rs.bind (Rs.ok a_2) λx20=>(Rs.ok (x19 - x20)))) λx21=>(Rs.bind (Rs.ok a_4) λx22=>(VG x21 x22))) λx24=>(Rs.ok (x23 + x24)))) λx25=>(Rs.bind (Rs.ok a_1) λx26=>(JD x25 x26))) else (Rs.bind (KJ (Rs.bind (Rs.ok a_0) λx27=>(Rs.bind (Rs.ok (3 : Int)) λx28=>(Rs.ok (decide (x27 = x28))))) (KJ (Rs.bind (Rs.ok a_1) λx29=>(Rs.bind (Rs.ok (2 : Int)) λx30=>(Rs.ok (decide (x30 < x29))))) (KJ (Rs.bind (Rs.ok a_3) λx31=>(Rs.bind (Rs.ok (2 : Int)) λx32=>(Rs.ok (decide (x31 < x32))))) (Rs.bind (Rs.ok a_4) λx35=>(Rs.bind (Rs.bind (Rs.ok a_1) λx33=>(Rs.bind (Rs.ok (1 : Int)) λx34=>(Rs.ok (x33 - x34)))) λx36=>(Rs.ok (decide (x35 = x36)))))))) λx37=>(if x37 = true then (Rs.bind (Rs.ok (1 : Int)) λx38=>(Rs.bind (Rs.ok a_3) λx39=>(Rs.ok (x38 - x39)))) else (Rs.bind (KJ (Rs.bind (Rs.ok a_0) λx40=>(Rs.bind (Rs.ok (6 : Int)) λx41=>(Rs.ok (decide (x40 = x41))))) (KJ (Rs.bind (Rs.ok a_3) λx44=>(Rs.bind (Rs.bind (Rs.ok a_1) λx42=>(Rs.bind (Rs.ok (1 : Int)) λx43=>(Rs.ok (x42 - x43)))) λx45=>(Rs.ok (decide (x44 < x45))))) (Rs.bind (Rs.ok a_4) λx48=>(Rs.bind (Rs.bind (Rs.ok a_1) λx46=>(Rs.bind (Rs.ok (1 : Int)) λx47=>(Rs.ok (x46 - x47)))) λx49=>(Rs.ok (decide (x48 = x49))))))) λx50=>(if x50 = true then (Rs.bind (Rs.bind (Rs.ok a_3) λx51=>(Rs.bind (Rs.ok (1 : Int)) λx52=>(Rs.ok (x51 + x52)))) λx55=>(Rs.bind (Rs.bind (Rs.ok a_1) λx53=>(Rs.bind (Rs.ok (1 : Int)) λx54=>(Rs.ok (x53 - x54)))) λx56=>(JD x55 x56))) else (Rs.bind (KJ (Rs.bind (Rs.ok a_0) λx57=>(Rs.bind (Rs.ok (4 : Int)) λx58=>(Rs.ok (decide (x57 = x58))))) (KJ (Rs.bind (Rs.ok a_3) λx59=>(Rs.bind (Rs.ok a1) λx60=>(Rs.ok (decide (x59 < x60))))) (Rs.bind (Rs.ok a_4) λx61=>(Rs.bind (Rs.ok a1) λx62=>(Rs.ok (decide (x61 < x62))))))) λx63=>(if x63 = true then (Rs.bind (Rs.bind (Rs.bind (Rs.ok (2 : Int)) λx64=>(Rs.bind (Rs.ok a_4) λx65=>(VG x64 x65))) λx66=>(Rs.bind (Rs.ok a_3) λx67=>(Rs.ok (x66 - x67)))) λx68=>(Rs.bind (Rs.ok a1) λx69=>(JD x68 x69))) else (Rs.bind (KJ (Rs.bind (Rs.ok a_0) λx70=>(Rs.bind (Rs.ok (4 : Int)) λx71=>(Rs.ok (decide (x70 = x71))))) (KJ (Rs.bind (Rs.ok a_3) λx72=>(Rs.bind (Rs.ok a1) λx73=>(Rs.ok (decide (x73 <= x72))))) (Rs.bind (Rs.ok a_4) λx74=>(Rs.bind (Rs.ok a1) λx75=>(Rs.ok (decide (x75 <= x74))))))) λx76=>(if x76 = true then (Rs.bind (Rs.ok a1) λx87=>(Rs.bind (Rs.bind (Rs.bind (Rs.bind (Rs.bind (Rs.ok (2 : Int)) λx77=>(Rs.bind (Rs.ok a_4) λx78=>(VG x77 x78))) λx79=>(Rs.bind (Rs.ok a_3) λx80=>(Rs.ok (x79 - x80)))) λx81=>(Rs.bind (Rs.ok a1) λx82=>(Rs.ok (x81 - x82)))) λx85=>(Rs.bind (Rs.bind (Rs.ok a_1) λx83=>(Rs.bind (Rs.ok a1) λx84=>(Rs.ok (x83 - x84)))) λx86=>(JD x85 x86))) λx88=>(Rs.ok (x87 + x88)))) else (Rs.ok a_3))))))))))))))
noncomputable def Qe (a_0 : Int) (a_1 : Int) : Rs Int:=(Rs.bind (Rs.bind (Rs.ok a_0) λx1=>(Rs.ok (x1.natAbs : Int))) λa3=>(Rs.bind (Rs.bind (Rs.ok a_1) λx2=>(Rs.ok (x2.natAbs : Int))) λa4=>(Rs.bind (QB (a3.natAbs + a4.natAbs + 2) (a3, a4) (λg9=>(Rs.bind (Rs.ok g9.2) λx11=>(Rs.bind (Rs.ok (0 : Int)) λx12=>(Rs.ok (decide (x12 < x11)))))) (λg9=>(Rs.bind (Rs.ok g9.2) λa15=>(Rs.bind (Rs.bind (Rs.ok g9.1) λx13=>(Rs.bind (Rs.ok g9.2) λx14=>(JD x13 x14))) λa16=>(Rs.ok (a15, a16)))))) λg19=>(Rs.ok g19.1))))
noncomputable def VJ (a_0 : Int) (a_1 : Int) (a_2 : Int) : Rs (List (List Int)):=(Rs.bind (KJ (Rs.bind (Rs.ok a_0) λx1=>(Rs.bind (Rs.ok (5 : Int)) λx2=>(Rs.ok (decide (x1 = x2))))) (Rs.bind (Rs.ok a_1) λx3=>(Rs.bind (Rs.ok (4 : Int)) λx4=>(Rs.ok (decide (x3 = x4)))))) λx5=>(if x5 = true then (Rs.bind (Rs.bind (Rs.bind (Rs.bind (Rs.ok (0 : Int)) λx14=>(Rs.bind (Rs.bind (Rs.ok (3 : Int)) λx12=>(Rs.bind (Rs.bind (Rs.ok (1 : Int)) λx10=>(Rs.bind (Rs.bind (Rs.ok (2 : Int)) λx8=>(Rs.bind (Rs.ok []) λx9=>(Rs.ok (x8 :: x9)))) λx11=>(Rs.ok (x10 :: x11)))) λx13=>(Rs.ok (x12 :: x13)))) λx15=>(Rs.ok (x14 :: x15)))) λx7=>(chk (x7.length <= sizeLine) (Rs.ok x7))) λx49=>(Rs.bind (Rs.bind (Rs.bind (Rs.bind (Rs.ok (2 : Int)) λx23=>(Rs.bind (Rs.bind (Rs.ok (1 : Int)) λx21=>(Rs.bind (Rs.bind (Rs.ok (3 : Int)) λx19=>(Rs.bind (Rs.bind (Rs.ok (0 : Int)) λx17=>(Rs.bind (Rs.ok []) λx18=>(Rs.ok (x17 :: x18)))) λx20=>(Rs.ok (x19 :: x20)))) λx22=>(Rs.ok (x21 :: x22)))) λx24=>(Rs.ok (x23 :: x24)))) λx16=>(chk (x16.length <= sizeLine) (Rs.ok x16))) λx47=>(Rs.bind (Rs.bind (Rs.bind (Rs.bind (Rs.ok (3 : Int)) λx32=>(Rs.bind (Rs.bind (Rs.ok (0 : Int)) λx30=>(Rs.bind (Rs.bind (Rs.ok (2 : Int)) λx28=>(Rs.bind (Rs.bind (Rs.ok (1 : Int)) λx26=>(Rs.bind (Rs.ok []) λx27=>(Rs.ok (x26 :: x27)))) λx29=>(Rs.ok (x28 :: x29)))) λx31=>(Rs.ok (x30 :: x31)))) λx33=>(Rs.ok (x32 :: x33)))) λx25=>(chk (x25.length <= sizeLine) (Rs.ok x25))) λx45=>(Rs.bind (Rs.bind (Rs.bind (Rs.bind (Rs.ok (1 : Int)) λx41=>(Rs.bind (Rs.bind (Rs.ok (2 : Int)) λx39=>(Rs.bind (Rs.bind (Rs.ok (0 : Int)) λx37=>(Rs.bind (Rs.bind (Rs.ok (3 : Int)) λx35=>(Rs.bind (Rs.ok []) λx36=>(Rs.ok (x35 :: x36)))) λx38=>(Rs.ok (x37 :: x38)))) λx40=>(Rs.ok (x39 :: x40)))) λx42=>(Rs.ok (x41 :: x42)))) λx34=>(chk (x34.length <= sizeLine) (Rs.ok x34))) λx43=>(Rs.bind (Rs.ok []) λx44=>(Rs.ok (x43 :: x44)))) λx46=>(Rs.ok (x45 :: x46)))) λx48=>(Rs.ok (x47 :: x48)))) λx50=>(Rs.ok (x49 :: x50)))) λx6=>(chk (x6.length <= sizeLine) (Rs.ok x6))) else (Rs.bind (QB (a_1.natAbs + 2) (a_2) (λg53=>(Rs.bind (Rs.bind (Rs.ok g53) λx56=>(Rs.bind (Rs.ok a_1) λx57=>(noE (Qe x56 x57)))) λx58=>(Rs.bind (Rs.ok (1 : Int)) λx59=>(Rs.ok (!(decide (x58 = x59))))))) (λg53=>(Rs.bind (Rs.bind (Rs.ok g53) λx62=>(Rs.bind (Rs.ok (1 : Int)) λx63=>(Rs.ok (x62 + x63)))) λa60=>(Rs.ok (a60))))) λg64=>(Rs.bind (Rs.ok []) λa66=>(Rs.bind (Rs.bind (Rs.ok a_1) λx69=>(J5 0 x69)) λx92=>(Rs.bind (forN x92 (a66) (λg72 a74=>(Rs.bind (Rs.bind (Rs.bind (Rs.ok a_1) λx76=>(J5 0 x76)) λx80=>(QJ x80 (λa78=>(Rs.bind (Rs.ok a_0) λx82=>(Rs.bind (Rs.ok a_1) λx83=>(Rs.bind (Rs.ok g64) λx84=>(Rs.bind (Rs.ok a74) λx85=>(Rs.bind (Rs.ok a78) λx86=>(noE (Zq x82 x83 x84 x85 x86)))))))))) λa87=>(chk (g72.length < sizeLine) ((λa89=>(Rs.ok (a89))) (g72 ++ [a87])))))) λg90=>(Rs.ok g90)))))))
noncomputable def Y9 (a_0 : (List Int)) (a_1 : Int) : Rs (List Int):=(Rs.bind (Rs.bind (Rs.ok a_1) λx4=>(chk (0 <= x4 /\ x4 <= 1000) (Rs.ok (X6 0 x4)))) λa1=>(Rs.bind (Rs.ok []) λa5=>(Rs.bind (Rs.bind (Rs.ok a_1) λx8=>(J5 0 x8)) λx29=>(Rs.bind (forN x29 (a5, a1) (λg11 a13=>(Rs.bind (Rs.bind (Rs.bind (Rs.ok a_0) λx15=>(Rs.bind (Rs.ok a13) λx16=>(atR x15 x16))) λx18=>(Rs.bind (Rs.bind (Rs.ok g11.2) λx17=>(Rs.ok (x17.length : Int))) λx19=>(JD x18 x19))) λx25=>(Rs.bind (Bu g11.2 x25) λp26=>(chk (g11.1.length < sizeLine) ((λa21 a22=>(Rs.ok (a22, a21))) p26.2 (g11.1 ++ [p26.1]))))))) λg27=>(Rs.ok g27.1)))))
noncomputable def Qk (a_0 : (List (List Int))) (a_1 : (List Int)) : Rs (List (List Int)):=(Rs.bind (Rs.bind (Rs.ok a_0) λx7=>(QJ x7 (λa5=>(Rs.bind (Rs.ok a5) λx8=>(Rs.ok x8))))) λa1=>(Rs.bind (Rs.bind (Rs.bind (Rs.ok a_0) λx9=>(Rs.ok (x9.length : Int))) λx10=>(J5 0 x10)) λx47=>(Rs.bind (forN x47 (a1) (λg13 a15=>(Rs.bind (Rs.bind (Rs.bind (Rs.ok a_0) λx17=>(Rs.ok (x17.length : Int))) λx18=>(J5 0 x18)) λx44=>(Rs.bind (forN x44 (g13) (λg21 a23=>(Rs.bind (Rs.bind (Rs.ok a_1) λx29=>(Rs.bind (Rs.bind (Rs.bind (Rs.ok a_0) λx25=>(Rs.bind (Rs.ok a15) λx26=>(atR x25 x26))) λx27=>(Rs.bind (Rs.ok a23) λx28=>(atR x27 x28))) λx30=>(atR x29 x30))) λx35=>(Rs.bind (Rs.bind (Rs.ok a_1) λx31=>(Rs.bind (Rs.ok a15) λx32=>(atR x31 x32))) λx36=>(Rs.bind (atR g21 x36) λx40=>(Rs.bind (Rs.bind (Rs.ok a_1) λx33=>(Rs.bind (Rs.ok a23) λx34=>(atR x33 x34))) λx37=>(Rs.bind (QA x40 x37 x35) λx41=>(Rs.bind (QA g21 x36 x41) λa38=>(Rs.ok (a38)))))))))) λg42=>(Rs.ok (g42)))))) λg45=>(Rs.ok g45))))
noncomputable def Qt (a_0 : (List Int)) (a_1 : Int) (a_2 : Int) : Rs (List (List Int)):=(Rs.bind (Rs.bind (Rs.ok a_0) λx20=>(Rs.bind (Rs.ok a_1) λx21=>(Rs.bind (Rs.bind (Rs.bind (Rs.bind (Rs.ok (7 : Int)) λx13=>(Rs.bind (Rs.bind (Rs.ok (24 : Int)) λx11=>(Rs.bind (Rs.bind (Rs.ok (6 : Int)) λx9=>(Rs.bind (Rs.bind (Rs.ok (2 : Int)) λx7=>(Rs.bind (Rs.ok []) λx8=>(Rs.ok (x7 :: x8)))) λx10=>(Rs.ok (x9 :: x10)))) λx12=>(Rs.ok (x11 :: x12)))) λx14=>(Rs.ok (x13 :: x14)))) λx6=>(chk (x6.length <= sizeLine) (Rs.ok x6))) λx4=>(Rs.bind (Rs.bind (Rs.bind (Rs.bind (Rs.ok (24 : Int)) λx18=>(Rs.bind (Rs.ok []) λx19=>(Rs.ok (x18 :: x19)))) λx17=>(chk (x17.length <= sizeLine) (Rs.ok x17))) λx15=>(Rs.bind (Rs.ok (24 : Int)) λx16=>(Bp x15 x16))) λx5=>(Bc x4 x5))) λx22=>(noE (UI x20 x21 x22))))) λa1=>(Rs.bind (Rs.bind (Rs.ok (1 : Int)) λx29=>(Rs.bind (Rs.bind (Rs.bind (Rs.ok a1) λx25=>(Rs.bind (Rs.ok (1 : Int)) λx26=>(atR x25 x26))) λx27=>(Rs.bind (Rs.ok a_2) λx28=>(JD x27 x28))) λx30=>(Rs.ok (x29 + x30)))) λa23=>(Rs.bind (Rs.bind (Rs.bind (Rs.ok a1) λx35=>(Rs.bind (Rs.ok (0 : Int)) λx36=>(atR x35 x36))) λx41=>(Rs.bind (Rs.ok a23) λx42=>(Rs.bind (Rs.bind (Rs.ok (2 : Int)) λx39=>(Rs.bind (Rs.bind (Rs.ok a1) λx37=>(Rs.bind (Rs.ok (2 : Int)) λx38=>(atR x37 x38))) λx40=>(Rs.ok (x39 + x40)))) λx43=>(noE (VJ x41 x42 x43))))) λa31=>(Rs.bind (Rs.bind (Rs.bind (Rs.ok a1) λx44=>(Rs.bind (Rs.ok (3 : Int)) λx45=>(atR x44 x45))) λx46=>(Rs.bind (Rs.ok (0 : Int)) λx47=>(Rs.ok (decide (x46 = x47))))) λx48=>(if x48 = true then (Rs.ok a31) else (Rs.bind (Rs.ok a31) λx57=>(Rs.bind (Rs.bind (Rs.bind (Rs.ok a1) λx52=>(Rs.bind (Rs.bind (Rs.ok (4 : Int)) λx51=>(Rs.ok (some x51))) λx53=>(Rs.bind (Rs.ok none) λx54=>(Rs.ok (Fh x52 x53 x54))))) λx55=>(Rs.bind (Rs.ok a23) λx56=>(noE (Y9 x55 x56)))) λx58=>(noE (Qk x57 x58)))))))))
noncomputable def V6 (a_0 : (List (List Int))) : Rs Bool:=(Rs.bind (Rs.bind (Rs.ok a_0) λx3=>(Rs.ok (x3.length : Int))) λa1=>(Rs.bind (Rs.bind (Rs.ok a1) λx4=>(J5 0 x4)) λx96=>(Rs.bind (forC x96 () (λg7 a9=>(Rs.bind (Rs.bind (Rs.bind (Rs.bind (Rs.ok a_0) λx11=>(Rs.bind (Rs.ok a9) λx12=>(atR x11 x12))) λx13=>(Rs.bind (Rs.ok a9) λx14=>(atR x13 x14))) λx15=>(Rs.bind (Rs.ok a9) λx16=>(Rs.ok (!(decide (x15 = x16)))))) λx17=>(if x17 = true then (Rs.bind (Rs.ok false) λx34=>(Rs.ok (Ctl.ret x34))) else (Rs.bind (Rs.bind (Rs.bind (Rs.bind (Rs.bind (Rs.ok a1) λx19=>(J5 0 x19)) λx23=>(QJ x23 (λa21=>(Rs.bind (Rs.bind (Rs.ok a_0) λx24=>(Rs.bind (Rs.ok a21) λx25=>(atR x24 x25))) λx26=>(Rs.bind (Rs.ok a9) λx27=>(atR x26 x27)))))) λx18=>(chk (x18.length < 64) (Rs.ok (Y3 x18)))) λx29=>(Rs.bind (Rs.bind (Rs.ok a1) λx28=>(chk (0 <= x28 /\ x28 <= 1000) (Rs.ok (X6 0 x28)))) λx30=>(Rs.ok (!(decide (x29 = x30)))))) λx31=>(if x31 = true then (Rs.bind (Rs.ok false) λx33=>(Rs.ok (Ctl.ret x33))) else (Rs.bind (Rs.ok ()) λx32=>(Rs.ok (Ctl.nx x32))))))))) (Qm λg35=>(Rs.bind (Rs.bind (Rs.ok a1) λx37=>(J5 0 x37)) λx95=>(Rs.bind (forC x95 () (λg40 a42=>(Rs.bind (Rs.bind (Rs.ok a1) λx44=>(J5 0 x44)) λx92=>(Rs.bind (forC x92 () (λg47 a49=>(Rs.bind (Rs.bind (Rs.ok a1) λx51=>(J5 0 x51)) λx88=>(Rs.bind (forC x88 () (λg54 a56=>(Rs.bind (Rs.bind (Rs.bind (Rs.ok a_0) λx64=>(Rs.bind (Rs.bind (Rs.bind (Rs.ok a_0) λx60=>(Rs.bind (Rs.ok a42) λx61=>(atR x60 x61))) λx62=>(Rs.bind (Rs.ok a49) λx63=>(atR x62 x63))) λx65=>(atR x64 x65))) λx66=>(Rs.bind (Rs.ok a56) λx67=>(atR x66 x67))) λa58=>(Rs.bind (Rs.bind (Rs.ok a58) λx80=>(Rs.bind (Rs.bind (Rs.bind (Rs.ok a_0) λx72=>(Rs.bind (Rs.bind (Rs.bind (Rs.ok a_0) λx68=>(Rs.bind (Rs.ok a42) λx69=>(atR x68 x69))) λx70=>(Rs.bind (Rs.ok a56) λx71=>(atR x70 x71))) λx73=>(atR x72 x73))) λx78=>(Rs.bind (Rs.bind (Rs.bind (Rs.ok a_0) λx74=>(Rs.bind (Rs.ok a49) λx75=>(atR x74 x75))) λx76=>(Rs.bind (Rs.ok a56) λx77=>(atR x76 x77))) λx79=>(atR x78 x79))) λx81=>(Rs.ok (!(decide (x80 = x81)))))) λx82=>(if x82 = true then (Rs.bind (Rs.ok false) λx84=>(Rs.ok (Ctl.ret x84))) else (Rs.bind (Rs.ok ()) λx83=>(Rs.ok (Ctl.nx x83)))))))) (Zv λg85=>(Rs.bind (Rs.ok ()) λx87=>(Rs.ok (Ctl.nx x87)))))))) (Zv λg89=>(Rs.bind (Rs.ok ()) λx91=>(Rs.ok (Ctl.nx x91)))))))) (Qm λg93=>(Rs.ok true))))))))
noncomputable def Ql (a_0 : (List (List Int))) : Rs (List (List Int)):=(Rs.bind (Rs.bind (Rs.bind (Rs.ok a_0) λx5=>(Rs.ok (x5.length : Int))) λx4=>(chk (0 <= x4 /\ x4 <= 1000) (Rs.ok (X6 0 x4)))) λa1=>(Rs.bind (Rs.bind (Rs.bind (Rs.ok a_0) λx6=>(Rs.ok (x6.length : Int))) λx7=>(J5 0 x7)) λx92=>(Rs.bind (forN x92 (a1) (λg10 a12=>(Rs.bind (Rs.bind (Rs.bind (Rs.ok a_0) λx14=>(Rs.ok (x14.length : Int))) λx15=>(J5 0 x15)) λx51=>(Rs.bind (forN x51 (g10) (λg18 a20=>(Rs.bind (Rs.bind (Rs.ok a_0) λx22=>(Rs.bind (Rs.ok a20) λx23=>(atR x22 x23))) λx48=>(Rs.bind (forN x48 (g18) (λg26 a28=>(Rs.bind (Rs.bind (Rs.bind (Rs.ok g26) λx32=>(Rs.bind (Rs.ok a20) λx33=>(atR x32 x33))) λx36=>(Rs.bind (Rs.bind (Rs.ok g26) λx34=>(Rs.bind (Rs.ok a28) λx35=>(atR x34 x35))) λx37=>(Rs.ok (min x36 x37)))) λa30=>(Rs.bind (Rs.ok a30) λx38=>(Rs.bind (Rs.ok a20) λx39=>(Rs.bind (QA g26 x39 x38) λa40=>(Rs.bind (Rs.ok a30) λx42=>(Rs.bind (Rs.ok a28) λx43=>(Rs.bind (QA a40 x43 x42) λa44=>(Rs.ok (a44))))))))))) λg46=>(Rs.ok (g46)))))) λg49=>(Rs.ok (g49)))))) λg52=>(Rs.bind (Rs.ok []) λa54=>(Rs.bind (Rs.bind (Rs.bind (Rs.ok a_0) λx57=>(Rs.ok (x57.length : Int))) λx58=>(J5 0 x58)) λx91=>(Rs.bind (forN x91 (a54) (λg61 a63=>(Rs.bind (Rs.bind (Rs.bind (Rs.bind (Rs.ok a_0) λx68=>(Rs.ok (x68.length : Int))) λx69=>(J5 0 x69)) λx73=>(Ex x73 (λa71=>(Rs.bind (Rs.bind (Rs.ok g52) λx74=>(Rs.bind (Rs.ok a71) λx75=>(atR x74 x75))) λx76=>(Rs.bind (Rs.ok a63) λx77=>(Rs.ok (decide (x76 = x77)))))) (λa71=>(Rs.ok a71)))) λa65=>(Rs.bind (Rs.bind (Rs.bind (Rs.bind (Rs.ok a65) λx78=>(Rs.ok (x78.length : Int))) λx79=>(Rs.bind (Rs.ok (0 : Int)) λx80=>(Rs.ok (decide (x80 < x79))))) λx81=>(if x81 = true then (Rs.bind (Rs.ok a65) λa84=>(chk (g61.length < sizeLine) ((λa86=>(Rs.ok (a86))) (g61 ++ [a84])))) else (Rs.ok (g61)))) λg88=>(Rs.ok (g88)))))) λg89=>(Rs.ok g89)))))))
noncomputable def V7 (a_0 : (List (List Int))) (a_1 : (List (List Int))) (a_2 : (List Int)) : Rs (List (List Int)):=(Rs.bind (Rs.bind (Rs.ok a_0) λx3=>(Rs.ok (x3.length : Int))) λa1=>(Rs.bind (Rs.bind (Rs.bind (Rs.ok a_2) λx4=>(Rs.bind (Rs.ok (0 : Int)) λx5=>(atR x4 x5))) λx6=>(Rs.bind (Rs.ok (0 : Int)) λx7=>(Rs.ok (decide (x6 = x7))))) λx8=>(if x8 = true then (Rs.bind (Rs.ok a_0) λx10=>(noE (ZI x10))) else (Rs.bind (Rs.bind (Rs.bind (Rs.ok a_2) λx11=>(Rs.bind (Rs.ok (0 : Int)) λx12=>(atR x11 x12))) λx13=>(Rs.bind (Rs.ok (1 : Int)) λx14=>(Rs.ok (decide (x13 = x14))))) λx15=>(if x15 = true then (Rs.bind (Rs.ok a_0) λx24=>(Rs.bind (Rs.bind (Rs.bind (Rs.ok a_2) λx19=>(Rs.bind (Rs.bind (Rs.ok (1 : Int)) λx18=>(Rs.ok (some x18))) λx20=>(Rs.bind (Rs.ok none) λx21=>(Rs.ok (Fh x19 x20 x21))))) λx22=>(Rs.bind (Rs.ok a1) λx23=>(noE (Y9 x22 x23)))) λx25=>(noE (Jp x24 x25)))) else (Rs.bind (KJ (Rs.bind (Rs.bind (Rs.ok a_2) λx26=>(Rs.bind (Rs.ok (0 : Int)) λx27=>(atR x26 x27))) λx28=>(Rs.bind (Rs.ok (2 : Int)) λx29=>(Rs.ok (decide (x28 = x29))))) (Rs.bind (Rs.bind (Rs.ok a1) λx31=>(Rs.bind (Rs.bind (Rs.ok a_1) λx30=>(Rs.ok (x30.length : Int))) λx32=>(Rs.ok (x31 + x32)))) λx33=>(Rs.bind (Rs.ok (10 : Int)) λx34=>(Rs.ok (decide (x33 <= x34)))))) λx35=>(if x35 = true then (Rs.bind (Rs.ok a_0) λx37=>(Rs.bind (Rs.ok a_1) λx38=>(noE (ZZ x37 x38)))) else (Rs.bind (KJ (Rs.bind (Rs.bind (Rs.ok a_2) λx39=>(Rs.bind (Rs.ok (0 : Int)) λx40=>(atR x39 x40))) λx41=>(Rs.bind (Rs.ok (3 : Int)) λx42=>(Rs.ok (decide (x41 = x42))))) (Rs.bind (Rs.bind (Rs.ok a1) λx44=>(Rs.bind (Rs.bind (Rs.ok a_1) λx43=>(Rs.ok (x43.length : Int))) λx45=>(VG x44 x45))) λx46=>(Rs.bind (Rs.ok (10 : Int)) λx47=>(Rs.ok (decide (x46 <= x47)))))) λx48=>(if x48 = true then (Rs.bind (Rs.ok a_0) λx50=>(Rs.bind (Rs.ok a_1) λx51=>(noE (Zm x50 x51)))) else (Rs.bind (Rs.bind (Rs.bind (Rs.ok a_2) λx52=>(Rs.bind (Rs.ok (0 : Int)) λx53=>(atR x52 x53))) λx54=>(Rs.bind (Rs.ok (4 : Int)) λx55=>(Rs.ok (decide (x54 = x55))))) λx56=>(if x56 = true then (Rs.bind (Rs.bind (Rs.bind (Rs.ok a_0) λx73=>(Rs.bind (Rs.bind (Rs.bind (Rs.bind (Rs.bind (Rs.ok a_2) λx61=>(Rs.bind (Rs.ok (1 : Int)) λx62=>(atR x61 x62))) λx63=>(Rs.bind (Rs.ok a1) λx64=>(JD x63 x64))) λx71=>(Rs.bind (Rs.bind (Rs.bind (Rs.bind (Rs.ok a_2) λx65=>(Rs.bind (Rs.ok (2 : Int)) λx66=>(atR x65 x66))) λx67=>(Rs.bind (Rs.ok a1) λx68=>(JD x67 x68))) λx69=>(Rs.bind (Rs.ok []) λx70=>(Rs.ok (x69 :: x70)))) λx72=>(Rs.ok (x71 :: x72)))) λx60=>(chk (x60.length <= sizeLine) (Rs.ok x60))) λx74=>(noE (Jf x73 x74)))) λx75=>(Rs.ok x75.1)) λa57=>(Rs.bind (Rs.ok a_0) λx77=>(Rs.bind (Rs.ok a57) λx78=>(noE (Jv x77 x78))))) else (Rs.bind (Rs.bind (Rs.bind (Rs.ok a1) λx80=>(Rs.bind (Rs.bind (Rs.ok a_1) λx79=>(Rs.ok (x79.length : Int))) λx81=>(Rs.ok (x80 + x81)))) λx82=>(Rs.bind (Rs.ok (10 : Int)) λx83=>(Rs.ok (decide (x82 <= x83))))) λx84=>(if x84 = true then (Rs.bind (Rs.ok a_1) λx86=>(Rs.bind (Rs.ok a_0) λx87=>(noE (ZZ x86 x87)))) else (Rs.bind (Rs.ok a_0) λx89=>(noE (ZI x89))))))))))))))))
noncomputable def Y5 (a_0 : (List (List Int))) (a_1 : (List (List Int))) : Rs Bool:=(Rs.bind (Rs.bind (Rs.ok a_0) λx2=>(noE (ZI x2))) λa5=>(Rs.bind (Rs.bind (Rs.ok a_1) λx4=>(noE (ZI x4))) λa6=>(Rs.bind (Rs.bind (Rs.bind (Rs.bind (Rs.ok a_0) λx11=>(Rs.bind (Rs.ok a_1) λx12=>(noE (ZZ x11 x12)))) λx13=>(noE (ZI x13))) λx17=>(Rs.bind (Rs.bind (Rs.ok a5) λx15=>(Rs.bind (Rs.ok a6) λx16=>(noE (ZZ x15 x16)))) λx18=>(Rs.ok (!(decide (x17 = x18)))))) λx19=>(if x19 = true then (Rs.ok false) else (Rs.bind (Rs.bind (Rs.bind (Rs.bind (Rs.ok a_0) λx22=>(Rs.bind (Rs.ok a_1) λx23=>(noE (Zm x22 x23)))) λx24=>(noE (ZI x24))) λx28=>(Rs.bind (Rs.bind (Rs.ok a5) λx26=>(Rs.bind (Rs.ok a6) λx27=>(noE (Zm x26 x27)))) λx29=>(Rs.ok (!(decide (x28 = x29)))))) λx30=>(if x30 = true then (Rs.ok false) else (Rs.bind (Rs.bind (Rs.bind (Rs.bind (Rs.ok a_0) λx33=>(Rs.bind (Rs.ok a_1) λx34=>(noE (ZZ x33 x34)))) λx37=>(Rs.bind (Rs.bind (Rs.bind (Rs.ok a_0) λx36=>(Rs.ok (x36.length : Int))) λx35=>(chk (0 <= x35 /\ x35 <= 1000) (Rs.ok (X6 0 x35)))) λx38=>(noE (Jv x37 x38)))) λx39=>(Rs.bind (Rs.ok a_0) λx40=>(Rs.ok (!(decide (x39 = x40)))))) λx41=>(if x41 = true then (Rs.ok false) else (Rs.bind (Rs.ok []) λa42=>(Rs.bind (Rs.bind (Rs.ok a_1) λx46=>(noE (YD x46))) λx87=>(Rs.bind (forN x87 (a42) (λg49 a51=>(Rs.bind (Rs.bind (Rs.ok a51) λx56=>(QJ x56 (λa54=>(Rs.bind (Rs.bind (Rs.ok a_0) λx57=>(Rs.ok (x57.length : Int))) λx58=>(Rs.bind (Rs.ok a54) λx59=>(Rs.ok (x58 + x59))))))) λa60=>(chk (g49.length < sizeLine) ((λa62=>(Rs.ok (a62))) (g49 ++ [a60])))))) λg63=>(Rs.bind (Rs.bind (Rs.bind (Rs.ok a_0) λx76=>(Rs.bind (Rs.ok a_1) λx77=>(noE (ZZ x76 x77)))) λx78=>(noE (YD x78))) λx85=>(Rs.bind (Rs.bind (Rs.bind (Rs.ok a_0) λx84=>(noE (YD x84))) λx79=>(Rs.bind (Rs.ok g63) λx80=>(Bc x79 x80))) λx86=>(Rs.ok (decide (x85 = x86))))))))))))))))
noncomputable def K6 (a_0 : (List Int)) : Rs Bool:=(Rs.bind (Rs.bind (Rs.ok a_0) λx4=>(Rs.bind (Rs.ok (0 : Int)) λx5=>(Rs.bind (Rs.ok (4 : Int)) λx6=>(noE (Qt x4 x5 x6))))) λa1=>(Rs.bind (Rs.bind (Rs.ok a_0) λx10=>(Rs.bind (Rs.ok (1 : Int)) λx11=>(Rs.bind (Rs.ok (4 : Int)) λx12=>(noE (Qt x10 x11 x12))))) λa7=>(Rs.bind (orR (Rs.bind (Rs.bind (Rs.ok a1) λx14=>(Rs.bind (Rs.ok a7) λx15=>(noE (Y5 x14 x15)))) λx16=>(Rs.ok (!x16))) (Rs.bind (Rs.bind (Rs.ok a7) λx18=>(Rs.bind (Rs.ok a1) λx19=>(noE (Y5 x18 x19)))) λx20=>(Rs.ok (!x20)))) λx21=>(if x21 = true then (Rs.ok false) else (Rs.bind (Rs.ok a1) λa22=>(Rs.bind (Rs.bind (Rs.bind (Rs.ok a_0) λx30=>(Rs.bind (Rs.ok (2 : Int)) λx31=>(Rs.bind (Rs.bind (Rs.bind (Rs.ok (6 : Int)) λx28=>(Rs.bind (Rs.ok []) λx29=>(Rs.ok (x28 :: x29)))) λx27=>(chk (x27.length <= sizeLine) (Rs.ok x27))) λx32=>(noE (UI x30 x31 x32))))) λx33=>(Rs.bind (Rs.ok (0 : Int)) λx34=>(atR x33 x34))) λa24=>(Rs.bind (Rs.bind (Rs.ok a24) λx35=>(J5 0 x35)) λx85=>(Rs.bind (forC x85 (a22) (λg38 a40=>(Rs.bind (Rs.bind (Rs.ok a_0) λx57=>(Rs.bind (Rs.bind (Rs.ok (3 : Int)) λx45=>(Rs.bind (Rs.ok a40) λx46=>(Rs.ok (x45 + x46)))) λx58=>(Rs.bind (Rs.bind (Rs.bind (Rs.bind (Rs.ok (6 : Int)) λx50=>(Rs.bind (Rs.ok []) λx51=>(Rs.ok (x50 :: x51)))) λx49=>(chk (x49.length <= sizeLine) (Rs.ok x49))) λx47=>(Rs.bind (Rs.bind (Rs.bind (Rs.bind (Rs.ok (5040 : Int)) λx55=>(Rs.bind (Rs.ok []) λx56=>(Rs.ok (x55 :: x56)))) λx54=>(chk (x54.length <= sizeLine) (Rs.ok x54))) λx52=>(Rs.bind (Rs.ok (10 : Int)) λx53=>(Bp x52 x53))) λx48=>(Bc x47 x48))) λx59=>(noE (UI x57 x58 x59))))) λa42=>(Rs.bind (Rs.bind (Rs.ok g38) λx63=>(Rs.bind (Rs.ok a7) λx64=>(Rs.bind (Rs.ok a42) λx65=>(noE (V7 x63 x64 x65))))) λa60=>(Rs.bind (orR (Rs.bind (Rs.bind (Rs.ok a60) λx67=>(noE (V6 x67))) λx68=>(Rs.ok (!x68))) (Rs.bind (Rs.bind (Rs.ok a60) λx70=>(noE (Qg x70))) λx71=>(Rs.ok x71.isSome))) λx72=>(if x72 = true then (Rs.bind (Rs.ok false) λx82=>(Rs.ok (Ctl.ret x82))) else (Rs.bind (Rs.bind (Rs.bind (Rs.ok a60) λx74=>(noE (YD x74))) λx77=>(Rs.bind (Rs.bind (Rs.ok a60) λx76=>(noE (Ql x76))) λx78=>(Rs.ok (!(decide (x77 = x78)))))) λx79=>(if x79 = true then (Rs.bind (Rs.ok false) λx81=>(Rs.ok (Ctl.ret x81))) else (Rs.bind (Rs.ok (a60)) λx80=>(Rs.ok (Ctl.nx x80))))))))))) (Qm λg83=>(Rs.ok true))))))))))
end My
namespace L2
open PySem
section
variable {α β γ ρ : Type}
theorem Rs.okb (a : α) (f : α -> Rs β) : (Rs.ok a).bind f = f a:=(Eq.refl (f a)).symm.symm
theorem Dt {f : α -> Rs β} {h : α -> β} : ∀ {as : List α}, (∀ a ∈ as, f a = .ok (h a)) -> GT as f = .ok (as.map h)
  | [], _=>rfl
  | a :: as, hf=>by
    show (f a).bind _ = _
    rw [hf a (by simp), Rs.ok_bind, Dt λb hb=>hf b (by simp [hb])]; rfl
theorem Y0 {f : α -> Rs β} {h : α -> β} {as : List α} (hl : as.length <= sizeLine) (hf : ∀ a ∈ as, f a = .ok (h a)) : QJ as f = .ok (as.map h):=by
  unfold QJ; rw [XL hl]; exact Dt hf
theorem CD {c : α -> Rs Bool} {f : α -> Rs β} {p : α -> Bool} {h : α -> β} : ∀ {as : List α}, (∀ a ∈ as, c a = .ok (p a)) -> (∀ a ∈ as, p a = true -> f a = .ok (h a)) -> G0 as c f = .ok ((as.filter p).map h)
  | [], _, _=>rfl
  | a :: as, hc, hf=>by
    show (c a).bind _ = _
    rw [hc a (by simp), Rs.ok_bind]
    have ih:=CD (as:=as) (λb hb=>hc b (by simp [hb])) λb hb=>hf b (by simp [hb])
    cases hp : p a with
    | false=>rw [if_neg (by simp), ih, List.filter_cons, hp]; rfl
    | true=>rw [if_pos rfl, hf a (by simp) hp, Rs.ok_bind, ih, List.filter_cons, hp]; rfl
theorem HH {c : α -> Rs Bool} {f : α -> Rs β} {p : α -> Bool} {h : α -> β} {as : List α} (hl : as.length <= sizeLine) (hc : ∀ a ∈ as, c a = .ok (p a)) (hf : ∀ a ∈ as, p a = true -> f a = .ok (h a)) : Ex as c f = .ok ((as.filter p).map h):=by
  unfold Ex; rw [XL hl]; exact CD hc hf
theorem Ki {f : γ -> α -> Rs γ} (P : Nat -> γ -> Prop) : ∀ (as : List α) (k : Nat) (g : γ), P k g -> (∀ i a g, as[i]? = some a -> P (k + i) g -> ∃ g', f g a = .ok g' /\ P (k + i + 1) g') -> ∃ g', forN as g f = .ok g' /\ P (k + as.length) g'
  | [], k, g, h0, _=>⟨g, rfl, h0⟩
  | a :: as, k, g, h0, hs=>by
    obtain ⟨g1, e1, p1⟩:=hs 0 a g rfl h0
    obtain ⟨g2, e2, p2⟩:=Ki P as (k + 1) g1 p1 λi b g hb hp=>by
      obtain ⟨g', e', p'⟩:=hs (i + 1) b g (by simpa using hb) (by rw [show k + (i + 1) = k + 1 + i by omega]; exact hp)
      exact ⟨g', e', by rw [show k + 1 + i + 1 = k + (i + 1) + 1 by omega]; exact p'⟩
    refine ⟨g2, ?_, by rw [List.length_cons, show k + (as.length + 1) = k + 1 + as.length by omega]; exact p2⟩
    show (f g a).bind _ = _
    rw [e1, Rs.ok_bind]; exact e2
theorem QN {f : γ -> α -> Rs γ} (P : Nat -> γ -> Prop) {as : List α} {g : γ} (h0 : P 0 g) (hs : ∀ i a g, as[i]? = some a -> P i g -> ∃ g', f g a = .ok g' /\ P (i + 1) g') : ∃ g', forN as g f = .ok g' /\ P as.length g':=by
  have:=Ki P as 0 g h0 (by simpa using hs)
  simpa using this
theorem Q2 {f : List β -> α -> Rs (List β)} {h : α -> β} : ∀ {as : List α} {g : List β}, g.length + as.length <= sizeLine -> (∀ g : List β, g.length < sizeLine -> ∀ a ∈ as, f g a = .ok (g ++ [h a])) -> forN as g f = .ok (g ++ as.map h)
  | [], g, _, _=>by simp [forN]
  | a :: as, g, hl, hf=>by
    show (f g a).bind _ = _
    rw [List.length_cons] at hl
    rw [hf g (by omega) a (by simp), Rs.ok_bind, Q2 (by simp; omega) λg hg b hb=>hf g hg b (by simp [hb])]
    simp
theorem YS {f : γ -> α -> Rs (Ctl ρ γ)} : ∀ {as : List α} {g : γ}, (∀ a ∈ as, f g a = .ok (.nx g)) -> forC as g f = .ok (.nx g)
  | [], _, _=>rfl
  | a :: as, g, hf=>by
    show (f g a).bind _ = _
    rw [hf a (by simp), Rs.ok_bind]
    exact YS λb hb=>hf b (by simp [hb])
theorem U6 {f : γ -> α -> Rs (Ctl ρ γ)} (P : Nat -> γ -> Prop) : ∀ (as : List α) (k : Nat) (g : γ), P k g -> (∀ i a g, as[i]? = some a -> P (k + i) g -> ∃ g', f g a = .ok (.nx g') /\ P (k + i + 1) g') -> ∃ g', forC as g f = .ok (.nx g') /\ P (k + as.length) g'
  | [], k, g, h0, _=>⟨g, rfl, h0⟩
  | a :: as, k, g, h0, hs=>by
    obtain ⟨g1, e1, p1⟩:=hs 0 a g rfl h0
    obtain ⟨g2, e2, p2⟩:=U6 P as (k + 1) g1 p1 λi b g hb hp=>by
      obtain ⟨g', e', p'⟩:=hs (i + 1) b g (by simpa using hb) (by rw [show k + (i + 1) = k + 1 + i by omega]; exact hp)
      exact ⟨g', e', by rw [show k + 1 + i + 1 = k + (i + 1) + 1 by omega]; exact p'⟩
    refine ⟨g2, ?_, by rw [List.length_cons, show k + (as.length + 1) = k + 1 + as.length by omega]; exact p2⟩
    show (f g a).bind _ = _
    rw [e1, Rs.ok_bind]; exact e2
theorem BV {f : γ -> α -> Rs (Ctl ρ γ)} (P : Nat -> γ -> Prop) {as : List α} {g : γ} (h0 : P 0 g) (hs : ∀ i a g, as[i]? = some a -> P i g -> ∃ g', f g a = .ok (.nx g') /\ P (i + 1) g') : ∃ g', forC as g f = .ok (.nx g') /\ P as.length g':=by
  have:=U6 P as 0 g h0 (by simpa using hs)
  simpa using this
theorem YN {a b : Int} (h : 0 < b) : JD a b = .ok (a % b):=XL h
theorem Jr {a b : Int} (h1 : -(2 ^ 64) < a) (h2 : a < 2 ^ 64) : VG a b = .ok (a * b):=XL (.inl ⟨h1, h2⟩)
theorem Vp {a b : Int} (h1 : -(2 ^ 64) < b) (h2 : b < 2 ^ 64) : VG a b = .ok (a * b):=XL (.inr ⟨h1, h2⟩)
theorem FR {a b : Int} (h : 0 < b) (h2 : b < 2 ^ 250) : Ig a b = .ok (a / b):=XL ⟨h, by
  have h3 : b.natAbs < 2 ^ 250:=by omega
  rcases Nat.eq_zero_or_pos b.natAbs with h0 | h0
  . omega
  . have := (Nat.log2_lt (by omega)).mpr h3
    omega⟩
theorem Em {a b : Int} (h0 : 0 <= b) (h1 : b <= 1000000) (h2 : -(2 ^ 64) < a) (h3 : a < 2 ^ 64) : LE a b = .ok (a ^ b.toNat):=XL ⟨h0, h1, by omega⟩
theorem ZM {as : List α} {i : Nat} {a : α} (h : as[i]? = some a) : atR as (i : Int) = .ok a:=by
  have hlt:=(List.getElem?_eq_some_iff.mp h).1
  unfold atR atI ixN
  rw [if_pos (by omega), if_pos (by omega)]
  simp [h]
theorem Il {as : List α} {i : Int} {a : α} (h0 : 0 <= i) (h : as[i.toNat]? = some a) : atR as i = .ok a:=by
  have : i = (i.toNat : Int):=by omega
  rw [this]; exact ZM h
theorem Qo {n : Nat} (h : n < 2 ^ 62) : J5 0 (n : Int) = .ok ((List.range n).map λ(i : Nat)=>(i : Int)):=by
  unfold J5
  rw [XL (by omega)]
  unfold X6
  congr 1
  rw [Int.sub_zero, Int.toNat_natCast]
  exact List.map_congr_left λi _=>by omega
theorem Q0 {n i : Nat} {a : Int} (h : ((List.range n).map λ(i : Nat)=>(i : Int))[i]? = some a) : a = (i : Int) /\ i < n:=by
  have hlt:=(List.getElem?_eq_some_iff.mp h).1
  simp only [List.length_map, List.length_range] at hlt
  rw [List.getElem?_map, List.getElem?_range hlt] at h
  exact ⟨(Option.some.inj h).symm, hlt⟩
theorem Ym {n : Nat} {a : Int} (h : a ∈ (List.range n).map λ(i : Nat)=>(i : Int)) : ∃ i : Nat, i < n /\ a = (i : Int):=by
  obtain ⟨i, hi, rfl⟩:=List.mem_map.mp h
  exact ⟨i, List.mem_range.mp hi, rfl⟩
theorem QU {n : Nat} : ((List.range n).map λ(i : Nat)=>(i : Int)).length = n:=by simp
theorem Ip {a : Bool} {b : Rs Bool} {c : Bool} (h : a = true -> b = .ok c) : KJ (.ok a) b = .ok (a && c):=by
  cases a with
  | false=>rfl
  | true=>
    show (if true = true then b else Rs.ok false) = _
    rw [if_pos rfl, h rfl]; rfl
theorem sz {n : Nat} (h : n <= 100000) : n <= sizeLine:=Nat.le_trans h (by decide)
theorem IZ {n : Nat} (h : n <= 100000) : n < sizeLine:=Nat.lt_of_le_of_lt h (by decide)
noncomputable def Ok (m : Rs β) (R : β -> Prop) : Prop:=∃ r, m = .ok r /\ R r
theorem Ok.pure {R : β -> Prop} {a : β} (h : R a) : Ok (.ok a) R:=⟨a, rfl, h⟩
theorem Ok.bind {m : Rs α} {f : α -> Rs β} {R : α -> Prop} {T : β -> Prop} (h : Ok m R) (hf : ∀ a, R a -> Ok (f a) T) : Ok (m.bind f) T:=by
  obtain ⟨a, e, ha⟩:=h
  rw [e]; exact hf a ha
theorem Ok.imp {m : Rs α} {R T : α -> Prop} (h : Ok m R) (hf : ∀ a, R a -> T a) : Ok m T:=by
  obtain ⟨a, e, ha⟩:=h
  exact ⟨a, e, hf a ha⟩
theorem Ok.noE {m : Rs α} {R : α -> Prop} (h : Ok m R) : Ok (noE m) R:=by
  obtain ⟨a, e, ha⟩:=h
  rw [e]; exact ⟨a, rfl, ha⟩
theorem Ok.chk {c : Prop} [Decidable c] {m : Rs α} {R : α -> Prop} (hc : c) (h : Ok m R) : Ok (chk c m) R:=by rw [XL hc]; exact h
theorem Ok.ite {b : Bool} {m n : Rs α} {R : α -> Prop} (h1 : b = true -> Ok m R) (h2 : b = false -> Ok n R) : Ok (if b = true then m else n) R:=by
  cases b with
  | true=>rw [if_pos rfl]; exact h1 rfl
  | false=>rw [if_neg Bool.false_ne_true]; exact h2 rfl
theorem Ok.forN {f : γ -> α -> Rs γ} (P : Nat -> γ -> Prop) {as : List α} {g : γ} (h0 : P 0 g) (hs : ∀ i a g, as[i]? = some a -> P i g -> Ok (f g a) (P (i + 1))) : Ok (forN as g f) (P as.length):=QN P h0 hs
theorem Ok.forC {f : γ -> α -> Rs (Ctl ρ γ)} (P : Nat -> γ -> Prop) {as : List α} {g : γ} (h0 : P 0 g) (hs : ∀ i a g, as[i]? = some a -> P i g -> ∃ g', f g a = .ok (.nx g') /\ P (i + 1) g') : Ok (forC as g f) (λc=>∃ g', c = .nx g' /\ P as.length g'):=by
  obtain ⟨g', e, h⟩:=BV P h0 hs
  exact ⟨_, e, g', rfl, h⟩
theorem Gx {f : γ -> Rs ρ} (g : γ) : Qm f (.nx g) = f g:=(Eq.refl (f g)).symm.symm
theorem DT {f : γ -> Rs ρ} (r : ρ) : Qm f (.ret r) = .ok r:=(Eq.refl (Rs.ok r)).symm.symm
theorem FW {δ : Type} {f : γ -> Rs (Ctl ρ δ)} (g : γ) : Zv f (.nx g) = f g:=(Eq.refl (f g)).symm.symm
theorem Fx {δ : Type} {f : γ -> Rs (Ctl ρ δ)} (r : ρ) : Zv f (.ret r) = .ok (.ret r):=(Eq.refl (Rs.ok (Ctl.ret r))).symm.symm
theorem Vx (a : α) : noE (Rs.ok a) = .ok a:=(Eq.refl (Rs.ok a)).symm.symm
theorem Ok.of {m : Rs α} {a : α} (h : m = .ok a) : Ok m (λb=>b = a):=⟨a, h, rfl⟩
theorem Ok.eq {m : Rs α} {a : α} (h : Ok m (λb=>b = a)) : m = .ok a:=by
  obtain ⟨b, e, rfl⟩:=h
  exact e
theorem Yc {m : Rs α} {a : α} (h : m = .ok a) : noE m = .ok a:=by rw [h]; rfl
end
end L2
namespace My
noncomputable def Yb (n : Nat) (f : Nat -> Nat -> Nat) (a : Nat) : List Int:=(List.range n).map λb=>(f a b : Int)
noncomputable def XA (n : Nat) (f : Nat -> Nat -> Nat) : List (List Int):=(List.range n).map (Yb n f)
theorem Xv (n : Nat) (f : Nat -> Nat -> Nat) (a : Nat) : (Yb n f a).length = n:=by simp [Yb]
theorem Xj (n : Nat) (f : Nat -> Nat -> Nat) : (XA n f).length = n:=by simp [XA]
theorem YI {n : Nat} {f : Nat -> Nat -> Nat} {a b : Nat} (h : b < n) : (Yb n f a)[b]? = some (f a b : Int):=by
  unfold Yb; rw [List.getElem?_map, List.getElem?_range h]; rfl
theorem Zn {n : Nat} {f : Nat -> Nat -> Nat} {a : Nat} (h : a < n) : (XA n f)[a]? = some (Yb n f a):=by
  unfold XA; rw [List.getElem?_map, List.getElem?_range h]; rfl
theorem B1 {n : Nat} {f : Nat -> Nat -> Nat} {a b : Nat} {v : Int} (h : (Yb n f a)[b]? = some v) : b < n /\ v = (f a b : Int):=by
  have hb : b < n:=by have:=(List.getElem?_eq_some_iff.mp h).1; rwa [Xv] at this
  rw [YI hb] at h
  exact ⟨hb, (Option.some.inj h).symm⟩
theorem JR {n : Nat} {f : Nat -> Nat -> Nat} {a : Nat} {r : List Int} (h : (XA n f)[a]? = some r) : a < n /\ r = Yb n f a:=by
  have hb : a < n:=by have:=(List.getElem?_eq_some_iff.mp h).1; rwa [Xj] at this
  rw [Zn hb] at h
  exact ⟨hb, (Option.some.inj h).symm⟩
theorem J9 {n : Nat} {f g : Nat -> Nat -> Nat} {a : Nat} (h : ∀ b, b < n -> f a b = g a b) : Yb n f a = Yb n g a:=by
  unfold Yb
  exact List.map_congr_left λb hb=>by rw [h b (List.mem_range.mp hb)]
theorem XZ {n : Nat} {f g : Nat -> Nat -> Nat} (h : ∀ a b, a < n -> b < n -> f a b = g a b) : XA n f = XA n g:=by
  unfold XA
  exact List.map_congr_left λa ha=>J9 λb hb=>h a b (List.mem_range.mp ha) hb
structure Col (n : Nat) (f : Nat -> Nat -> Nat) : Prop where
  lt : ∀ a b, a < n -> b < n -> f a b < n
  r2 : ∀ x y b, x < n -> y < n -> b < n -> f x b = f y b -> x = y
structure GoodF (n : Nat) (f : Nat -> Nat -> Nat) : Prop extends Col n f where
  r1 : ∀ a, a < n -> f a a = a
  r3 : ∀ a b c, a < n -> b < n -> c < n -> f (f a b) c = f (f a c) (f b c)
theorem GoodF.congr {n : Nat} {f g : Nat -> Nat -> Nat} (h : GoodF n f) (e : ∀ a b, a < n -> b < n -> g a b = f a b) : GoodF n g where
  lt a b ha hb:=by rw [e a b ha hb]; exact h.lt a b ha hb
  r2 x y b hx hy hb q:=by rw [e x b hx hb, e y b hy hb] at q; exact h.r2 x y b hx hy hb q
  r1 a ha:=by rw [e a a ha ha]; exact h.r1 a ha
  r3 a b c ha hb hc:=by
    rw [e a b ha hb, e a c ha hc, e b c hb hc, e _ c (h.lt a b ha hb) hc, e _ _ (h.lt a c ha hc) (h.lt b c hb hc)]
    exact h.r3 a b c ha hb hc
theorem Vr : ∀ (n : Nat) (p : Nat -> Nat), (∀ a, a < n -> p a < n) -> (∀ a b, a < n -> b < n -> p a = p b -> a = b) -> ∀ y, y < n -> ∃ x, x < n /\ p x = y
  | 0, _, _, _, y, hy=>absurd hy (Nat.not_lt_zero _)
  | n + 1, p, hl, hi, y, hy=>by
    by_cases hh : ∃ x, x < n + 1 /\ p x = y
    . exact hh
    . exfalso
      -- send n to y, and y's place away
      have hne : ∀ x, x < n + 1 -> p x ≠ y:=λx hx e=>hh ⟨x, hx, e⟩
      -- among the first n: p', which skips y
      let s : Nat -> Nat:=λv=>if v < y then v else v - 1
      have hs : ∀ a, a < n + 1 -> s (p a) < n:=λa ha=>by
        have h1:=hl a ha; have h2:=hne a ha
        show (if p a < y then p a else p a - 1) < n
        split <;> omega
      have hsi : ∀ a b, a < n + 1 -> b < n + 1 -> s (p a) = s (p b) -> a = b:=λa b ha hb e=>by
        have h1:=hne a ha; have h2:=hne b hb
        refine hi a b ha hb ?_
        have e' : (if p a < y then p a else p a - 1) = (if p b < y then p b else p b - 1):=e
        split at e' <;> split at e' <;> omega
      obtain ⟨x, hx, ex⟩:=Vr n (λa=>s (p a)) (λa ha=>hs a (by omega)) (λa b ha hb e=>hsi a b (by omega) (by omega) e) (s (p n)) (hs n (by omega))
      have:=hsi x n (by omega) (by omega) ex
      omega
structure PermN (n : Nat) (p q : Nat -> Nat) : Prop where
  lt : ∀ a, a < n -> p a < n
  qlt : ∀ a, a < n -> q a < n
  pq : ∀ a, a < n -> p (q a) = a
  qp : ∀ a, a < n -> q (p a) = a
theorem PermN.good {n : Nat} {p q : Nat -> Nat} {f : Nat -> Nat -> Nat} (h : PermN n p q) (g : GoodF n f) : GoodF n (λx y=>p (f (q x) (q y))) where
  lt a b ha hb:=h.lt _ (g.lt _ _ (h.qlt a ha) (h.qlt b hb))
  r2 x y b hx hy hb e:=by
    have e1 : q (p (f (q x) (q b))) = q (p (f (q y) (q b))):=congrArg q e
    rw [h.qp _ (g.lt _ _ (h.qlt x hx) (h.qlt b hb)), h.qp _ (g.lt _ _ (h.qlt y hy) (h.qlt b hb))] at e1
    have:=g.r2 _ _ _ (h.qlt x hx) (h.qlt y hy) (h.qlt b hb) e1
    rw [← h.pq x hx, ← h.pq y hy, this]
  r1 a ha:=by
    show p (f (q a) (q a)) = a
    rw [g.r1 _ (h.qlt a ha), h.pq a ha]
  r3 a b c ha hb hc:=by
    have l1:=g.lt _ _ (h.qlt a ha) (h.qlt b hb)
    have l2:=g.lt _ _ (h.qlt a ha) (h.qlt c hc)
    have l3:=g.lt _ _ (h.qlt b hb) (h.qlt c hc)
    show p (f (q (p (f (q a) (q b)))) (q c)) = p (f (q (p (f (q a) (q c)))) (q (p (f (q b) (q c)))))
    rw [h.qp _ l1, h.qp _ l2, h.qp _ l3, g.r3 _ _ _ (h.qlt a ha) (h.qlt b hb) (h.qlt c hc)]
theorem Ht {n : Nat} {p : Nat -> Nat} (hl : ∀ a, a < n -> p a < n) (hi : ∀ a b, a < n -> b < n -> p a = p b -> a = b) : ∃ q, PermN n p q:=by
  have ho:=Vr n p hl hi
  refine ⟨λy=>if h : y < n then Classical.choose (ho y h) else 0, hl, λa ha=>?_, λa ha=>?_, λa ha=>?_⟩
  . simp only [dif_pos ha]; exact (Classical.choose_spec (ho a ha)).1
  . simp only [dif_pos ha]; exact (Classical.choose_spec (ho a ha)).2
  . simp only [dif_pos (hl a ha)]
    have:=Classical.choose_spec (ho (p a) (hl a ha))
    exact hi _ _ this.1 ha this.2
theorem KK {A B n z : Int} (h : A - B = n * z) : A % n = B % n:=by
  have : A = B + n * z:=by omega
  rw [this, Int.add_mul_emod_self_left]
noncomputable def CY (k n a b : Int) : Int:=(k * a + (1 - k) * b) % n
noncomputable def Bb (k : Int) (n : Nat) (a b : Nat) : Nat:=(CY k n a b).toNat
theorem Yh {k : Int} {n : Nat} (hn : 0 < n) (a b : Nat) : ((Bb k n a b : Nat) : Int) = CY k n a b:=by
  unfold Bb
  have:=Int.emod_nonneg (k * a + (1 - k) * b) (show (n : Int) ≠ 0 by omega)
  unfold CY
  omega
theorem Uw {k : Int} {n : Nat} (hn : 0 < n) (hk : ∀ x : Int, (n : Int) ∣ k * x -> (n : Int) ∣ x) : GoodF n (Bb k n) where
  lt a b _ _:=by
    have h:=Yh (k:=k) hn a b
    have:=Int.emod_lt_of_pos (k * a + (1 - k) * b) (show 0 < (n : Int) by omega)
    unfold CY at h
    omega
  r1 a ha:=by
    have h:=Yh (k:=k) hn a a
    have e : k * (a : Int) + (1 - k) * a = a:=by grind
    unfold CY at h
    rw [e, Int.emod_eq_of_lt (by omega) (by omega)] at h
    omega
  r2 x y b hx hy hb e:=by
    have h1:=Yh (k:=k) hn x b
    have h2:=Yh (k:=k) hn y b
    rw [e, h2] at h1
    unfold CY at h1
    have:=Int.emod_eq_emod_iff_emod_sub_eq_zero.mp h1
    have hd : (n : Int) ∣ k * ((y : Int) - x):=by
      have:=Int.dvd_of_emod_eq_zero this
      have e2 : (k * (y : Int) + (1 - k) * b) - (k * x + (1 - k) * b) = k * ((y : Int) - x):=by grind
      rwa [e2] at this
    obtain ⟨z, hz⟩:=hk _ hd
    have hz1 : z < 1:=by
      apply Int.lt_of_mul_lt_mul_left (a:=(n : Int)) _ (by omega)
      omega
    have hz2 : -1 < z:=by
      apply Int.lt_of_mul_lt_mul_left (a:=(n : Int)) _ (by omega)
      omega
    have : z = 0:=by omega
    subst this
    omega
  r3 a b c _ _ _:=by
    have e1:=Yh (k:=k) hn a b
    have e2:=Yh (k:=k) hn a c
    have e3:=Yh (k:=k) hn b c
    have e4:=Yh (k:=k) hn (Bb k n a b) c
    have e5:=Yh (k:=k) hn (Bb k n a c) (Bb k n b c)
    have hh : CY k n (Bb k n a b : Nat) c = CY k n (Bb k n a c : Nat) (Bb k n b c : Nat):=by
      rw [e1, e2, e3]
      unfold CY
      have q1:=Int.emod_add_mul_ediv (k * (a : Int) + (1 - k) * b) n
      have q2:=Int.emod_add_mul_ediv (k * (a : Int) + (1 - k) * c) n
      have q3:=Int.emod_add_mul_ediv (k * (b : Int) + (1 - k) * c) n
      generalize (k * (a : Int) + (1 - k) * b) / n = d1 at q1
      generalize (k * (a : Int) + (1 - k) * c) / n = d2 at q2
      generalize (k * (b : Int) + (1 - k) * c) / n = d3 at q3
      generalize (k * (a : Int) + (1 - k) * b) % n = m1 at *
      generalize (k * (a : Int) + (1 - k) * c) % n = m2 at *
      generalize (k * (b : Int) + (1 - k) * c) % n = m3 at *
      refine KK (z:=-k * d1 + k * d2 + (1 - k) * d3) ?_
      grind
    omega
theorem Fi {k : Int} {n : Nat} (h : Int.gcd k n = 1) (x : Int) (hd : (n : Int) ∣ k * x) : (n : Int) ∣ x:=by
  have h1:=Int.natAbs_dvd_natAbs.mpr hd
  rw [Int.natAbs_mul, Int.natAbs_natCast] at h1
  have h2 : Nat.Coprime n k.natAbs:=by
    have : Nat.gcd k.natAbs n = 1:=h
    rw [Nat.gcd_comm] at this
    exact this
  exact Int.natAbs_dvd_natAbs.mp (by rw [Int.natAbs_natCast]; exact h2.dvd_of_dvd_mul_left h1)
theorem GU {n : Nat} (x : Int) (hd : (n : Int) ∣ (-1) * x) : (n : Int) ∣ x:=by
  have : (-1) * x = -x:=by omega
  rw [this] at hd
  exact Int.dvd_neg.mp hd
theorem Jd (n : Nat) : GoodF n (λa _=>a):=⟨⟨λ_ _ h _=>h, λ_ _ _ _ _ _ e=>e⟩, λ_ _=>rfl, λ_ _ _ _ _ _=>rfl⟩
theorem Km {n : Nat} {p : Nat -> Nat} (h1 : ∀ a, a < n -> p a < n) (h2 : ∀ a, a + 1 = n -> p a = a) (h3 : ∀ x y, x < n -> y < n -> p x = p y -> x = y) : GoodF n (λa b=>if b + 1 = n then p a else a) where
  lt a b ha hb:=by
    show (if b + 1 = n then p a else a) < n
    split
    . exact h1 a ha
    . exact ha
  r1 a ha:=by
    show (if a + 1 = n then p a else a) = a
    split
    . next h=>exact h2 a h
    . rfl
  r2 x y b hx hy hb e:=by
    have e : (if b + 1 = n then p x else x) = if b + 1 = n then p y else y:=e
    by_cases h : b + 1 = n
    . rw [if_pos h, if_pos h] at e; exact h3 x y hx hy e
    . rw [if_neg h, if_neg h] at e; exact e
  r3 a b c ha hb hc:=by
    show (if c + 1 = n then p (if b + 1 = n then p a else a) else if b + 1 = n then p a else a) = if (if c + 1 = n then p b else b) + 1 = n then p (if c + 1 = n then p a else a) else if c + 1 = n then p a else a
    by_cases h : c + 1 = n
    . rw [if_pos h, if_pos h, if_pos h]
      by_cases g : b + 1 = n
      . rw [if_pos g, h2 b g, if_pos g]
      . rw [if_neg g, if_neg λz => g ?_]
        have hp : p b = b:=by
          refine h3 _ _ (h1 b hb) hb (h2 _ z)
        rw [hp] at z
        exact z
    . rw [if_neg h, if_neg h, if_neg h]
theorem CJ (n : Nat) : GoodF n (λa b=>if 2 < n /\ a < 2 /\ b + 1 = n then 1 - a else a):=by
  by_cases hn : 2 < n
  . refine (Km (n := n) (p := λa => if a < 2 then 1 - a else a) (λa ha => ?_) (λa ha => if_neg (by omega)) λx y _ _ e => ?_).congr λa b _ _ => ?_
    . show (if a < 2 then 1 - a else a) < n
      split
      . omega
      . exact ha
    . have e : (if x < 2 then 1 - x else x) = if y < 2 then 1 - y else y := e
      by_cases h : x < 2
      . by_cases g : y < 2
        . rw [if_pos h, if_pos g] at e; clear hn; omega
        . rw [if_pos h, if_neg g] at e; clear hn; omega
      . by_cases g : y < 2
        . rw [if_neg h, if_pos g] at e; clear hn; omega
        . rw [if_neg h, if_neg g] at e; exact e
    . show (if 2 < n /\ a < 2 /\ b + 1 = n then 1 - a else a) = if b + 1 = n then (if a < 2 then 1 - a else a) else a
      by_cases g : b + 1 = n
      . rw [if_pos g]
        by_cases h : a < 2
        . rw [if_pos h, if_pos ⟨hn, h, g⟩]
        . rw [if_neg h, if_neg λz=>h z.2.1]
      . rw [if_neg g, if_neg λz=>g z.2.2]
  . exact (Jd n).congr λa b _ _=>if_neg λz=>hn z.1
theorem G5 (n : Nat) : GoodF n (λa b=>if a + 1 < n /\ b + 1 = n then (if a + 2 < n then a + 1 else 0) else a):=by
  refine (Km (n:=n) (p:=λa=>if a + 1 < n then (if a + 2 < n then a + 1 else 0) else a) (λa ha=>?_) (λa ha=>if_neg (by omega)) λx y hx hy e=>?_).congr λa b _ _=>?_
  . show (if a + 1 < n then (if a + 2 < n then a + 1 else 0) else a) < n
    split
    . split
      . assumption
      . exact Nat.lt_of_le_of_lt (Nat.zero_le _) ha
    . exact ha
  . have e : (if x + 1 < n then (if x + 2 < n then x + 1 else 0) else x) = if y + 1 < n then (if y + 2 < n then y + 1 else 0) else y := e
    by_cases h : x + 1 < n
    . rw [if_pos h] at e
      by_cases g : y + 1 < n
      . rw [if_pos g] at e
        by_cases h' : x + 2 < n
        . rw [if_pos h'] at e
          by_cases g' : y + 2 < n
          . rw [if_pos g'] at e; exact Nat.succ.inj e
          . rw [if_neg g'] at e; exact nomatch e
        . rw [if_neg h'] at e
          by_cases g' : y + 2 < n
          . rw [if_pos g'] at e; exact nomatch e
          . clear e hx hy; omega
      . rw [if_neg g] at e
        by_cases h' : x + 2 < n
        . rw [if_pos h'] at e; clear hx hy h; omega
        . rw [if_neg h'] at e; clear hx hy h'; omega
    . rw [if_neg h] at e
      by_cases g : y + 1 < n
      . rw [if_pos g] at e
        by_cases h' : y + 2 < n
        . rw [if_pos h'] at e; clear hx hy g; omega
        . rw [if_neg h'] at e; clear hx hy h'; omega
      . rw [if_neg g] at e; exact e
  . show (if a + 1 < n /\ b + 1 = n then (if a + 2 < n then a + 1 else 0) else a) = if b + 1 = n then (if a + 1 < n then (if a + 2 < n then a + 1 else 0) else a) else a
    by_cases g : b + 1 = n
    . rw [if_pos g]
      by_cases h : a + 1 < n
      . rw [if_pos h, if_pos ⟨h, g⟩]
      . rw [if_neg h, if_neg λz=>h z.1]
    . rw [if_neg g, if_neg λz=>g z.2]
noncomputable def Yt (h : Nat) (f g : Nat -> Nat -> Nat) (a b : Nat) : Nat:=if a < h /\ b < h then f a b else if h <= a /\ h <= b then h + g (a - h) (b - h) else a
theorem Z9 {h m : Nat} {f g : Nat -> Nat -> Nat} (F : GoodF h f) (G : GoodF m g) : GoodF (h + m) (Yt h f g):=by
  have s1 : ∀ a b, a < h -> b < h -> Yt h f g a b = f a b:=λa b ha hb=>by unfold Yt; rw [if_pos ⟨ha, hb⟩]
  have s2 : ∀ a b, Yt h f g (h + a) (h + b) = h + g a b:=λa b=>by unfold Yt; rw [if_neg (by omega), if_pos (by omega), Nat.add_sub_cancel_left, Nat.add_sub_cancel_left]
  have s3 : ∀ a b, a < h -> Yt h f g a (h + b) = a:=λa b ha=>by unfold Yt; rw [if_neg (by omega), if_neg (by omega)]
  have s4 : ∀ a b, b < h -> Yt h f g (h + a) b = h + a:=λa b ha=>by unfold Yt; rw [if_neg (by omega), if_neg (by omega)]
  have up : ∀ a, h <= a -> ∃ a', a = h + a':=λa ha=>⟨a - h, by omega⟩
  refine ⟨⟨λa b ha hb=>?_, λx y b hx hy hb e=>?_⟩, λa ha=>?_, λa b c ha hb hc=>?_⟩
  . by_cases h1 : a < h <;> by_cases h2 : b < h
    . rw [s1 a b h1 h2]; have:=F.lt a b h1 h2; omega
    . obtain ⟨b, rfl⟩:=up b (by omega); rw [s3 a b h1]; omega
    . obtain ⟨a, rfl⟩:=up a (by omega); rw [s4 a b h2]; omega
    . obtain ⟨a, rfl⟩ := up a (by omega); obtain ⟨b, rfl⟩ := up b (by omega)
      rw [s2]; have:=G.lt a b (by omega) (by omega); omega
  . by_cases h1 : x < h <;> by_cases h2 : y < h <;> by_cases h3 : b < h
    . rw [s1 _ _ h1 h3, s1 _ _ h2 h3] at e; exact F.r2 x y b h1 h2 h3 e
    . obtain ⟨b, rfl⟩:=up b (by omega); rw [s3 _ _ h1, s3 _ _ h2] at e; exact e
    . obtain ⟨y, rfl⟩:=up y (by omega); rw [s1 _ _ h1 h3, s4 _ _ h3] at e; have:=F.lt x b h1 h3; omega
    . obtain ⟨y, rfl⟩:=up y (by omega); obtain ⟨b, rfl⟩:=up b (by omega); rw [s3 _ _ h1, s2] at e; omega
    . obtain ⟨x, rfl⟩:=up x (by omega); rw [s4 _ _ h3, s1 _ _ h2 h3] at e; have:=F.lt y b h2 h3; omega
    . obtain ⟨x, rfl⟩:=up x (by omega); obtain ⟨b, rfl⟩:=up b (by omega); rw [s2, s3 _ _ h2] at e; omega
    . obtain ⟨x, rfl⟩:=up x (by omega); obtain ⟨y, rfl⟩:=up y (by omega); rw [s4 _ _ h3, s4 _ _ h3] at e; exact e
    . obtain ⟨x, rfl⟩ := up x (by omega); obtain ⟨y, rfl⟩ := up y (by omega); obtain ⟨b, rfl⟩ := up b (by omega)
      rw [s2, s2] at e
      rw [G.r2 x y b (by omega) (by omega) (by omega) (by omega)]
  . by_cases h1 : a < h
    . rw [s1 _ _ h1 h1, F.r1 a h1]
    . obtain ⟨a, rfl⟩:=up a (by omega); rw [s2, G.r1 a (by omega)]
  . by_cases h1 : a < h <;> by_cases h2 : b < h <;> by_cases h3 : c < h
    . rw [s1 a b h1 h2, s1 a c h1 h3, s1 b c h2 h3, s1 _ _ (F.lt a b h1 h2) h3, s1 _ _ (F.lt a c h1 h3) (F.lt b c h2 h3)]; exact F.r3 a b c h1 h2 h3
    . obtain ⟨c, rfl⟩ := up c (by omega)
      rw [s1 a b h1 h2, s3 a c h1, s3 b c h2, s3 _ c (F.lt a b h1 h2), s1 a b h1 h2]
    . obtain ⟨b, rfl⟩ := up b (by omega)
      rw [s3 a b h1, s4 b c h3, s1 a c h1 h3, s3 _ b (F.lt a c h1 h3)]
    . obtain ⟨b, rfl⟩ := up b (by omega); obtain ⟨c, rfl⟩ := up c (by omega)
      rw [s3 a b h1, s3 a c h1, s2 b c, s3 _ _ h1]
    . obtain ⟨a, rfl⟩ := up a (by omega)
      rw [s4 a b h2, s4 a c h3, s1 b c h2 h3, s4 _ _ (F.lt b c h2 h3)]
    . obtain ⟨a, rfl⟩ := up a (by omega); obtain ⟨c, rfl⟩ := up c (by omega)
      rw [s4 a b h2, s2 a c, s3 b c h2, s4 _ _ h2]
    . obtain ⟨a, rfl⟩ := up a (by omega); obtain ⟨b, rfl⟩ := up b (by omega)
      rw [s2 a b, s4 _ c h3, s4 a c h3, s4 b c h3, s2 a b]
    . obtain ⟨a, rfl⟩ := up a (by omega); obtain ⟨b, rfl⟩ := up b (by omega); obtain ⟨c, rfl⟩ := up c (by omega)
      rw [s2 a b, s2 a c, s2 b c, s2, s2, G.r3 a b c (by omega) (by omega) (by omega)]
noncomputable def Fs (way n k a b : Int) : Int:=
  if way = 1 then (2 * b - a) % n else if way = 2 then (k * a + (1 - k) * b) % n else if way = 3 /\ n > 2 /\ a < 2 /\ b = n - 1 then 1 - a else
  if way = 6 /\ a < n - 1 /\ b = n - 1 then (a + 1) % (n - 1) else if way = 4 /\ a < n / 2 /\ b < n / 2 then (2 * b - a) % (n / 2) else
  if way = 4 /\ a ≥ n / 2 /\ b ≥ n / 2 then n / 2 + (2 * b - a - n / 2) % (n - n / 2) else a
noncomputable def Kg (way k : Int) (n a b : Nat) : Nat:=(Fs way n k a b).toNat
theorem Us (n : Int) (a b : Int) : (2 * b - a) % n = CY (-1) n a b:=by
  unfold CY
  congr 1
  omega
theorem DA {way k : Int} {n : Nat} (hn : 0 < n) (hk : Int.gcd k n = 1) : GoodF n (Kg way k n) /\ ∀ a b, a < n -> b < n -> ((Kg way k n a b : Nat) : Int) = Fs way n k a b:=by
  suffices h : ∃ f, GoodF n f /\ ∀ a b, a < n -> b < n -> ((f a b : Nat) : Int) = Fs way n k a b by
    obtain ⟨f, g, e⟩:=h
    have e2 : ∀ a b, a < n -> b < n -> Kg way k n a b = f a b:=λa b ha hb=>by unfold Kg; rw [← e a b ha hb]; omega
    exact ⟨g.congr e2, λa b ha hb=>by rw [e2 a b ha hb]; exact e a b ha hb⟩
  unfold Fs
  by_cases w1 : way = 1
  . refine ⟨_, Uw (k := -1) hn GU, λa b ha hb => ?_⟩
    rw [if_pos w1, Yh hn, Us]
  by_cases w2 : way = 2
  . refine ⟨_, Uw (k := k) hn (Fi hk), λa b ha hb => ?_⟩
    rw [if_neg w1, if_pos w2, Yh hn]; rfl
  by_cases w3 : way = 3
  . refine ⟨_, CJ n, λa b ha hb => ?_⟩
    rw [if_neg w1, if_neg w2]
    by_cases c : 2 < n /\ a < 2 /\ b + 1 = n
    . rw [if_pos c, if_pos ⟨w3, by omega, by omega, by omega⟩]; omega
    . rw [if_neg c, if_neg (λz=>c ⟨by omega, by omega, by omega⟩), if_neg (λz=>by omega), if_neg (λz=>by omega), if_neg (λz=>by omega)]
  by_cases w6 : way = 6
  . refine ⟨_, G5 n, λa b ha hb => ?_⟩
    have n3 : ¬ (way = 3 /\ (n : Int) > 2 /\ (a : Int) < 2 /\ (b : Int) = n - 1):=λz=>w3 z.1
    by_cases c : a + 1 < n /\ b + 1 = n
    . have y6 : way = 6 /\ (a : Int) < n - 1 /\ (b : Int) = n - 1 := ⟨w6, by omega, by omega⟩
      rw [if_pos c, if_neg w1, if_neg w2, if_neg n3, if_pos y6]
      by_cases c2 : a + 2 < n
      . rw [if_pos c2, Int.emod_eq_of_lt (by omega) (by omega)]; omega
      . rw [if_neg c2]
        have : (a : Int) + 1 = (n : Int) - 1:=by omega
        rw [this, Int.emod_self]; rfl
    . rw [if_neg c, if_neg w1, if_neg w2, if_neg n3, if_neg (λz=>c ⟨by omega, by omega⟩), if_neg (λz=>by omega), if_neg (λz=>by omega)]
  by_cases w4 : way = 4
  . have hh : ∀ m : Nat, 0 < m -> GoodF m (Bb (-1) m) := λm hm => Uw hm GU
    by_cases h0 : n / 2 = 0
    . have hn1 : n = 1 := by omega
      subst hn1
      refine ⟨_, Jd 1, λa b ha hb=>?_⟩
      have : a = 0:=by omega
      have : b = 0:=by omega
      subst a b
      rw [if_neg w1, if_neg w2, if_neg (λz=>w3 z.1), if_neg (λz=>w6 z.1), if_neg (λz=>by omega), if_pos ⟨w4, by omega, by omega⟩]
      decide
    . have g := Z9 (hh (n / 2) (by omega)) (hh (n - n / 2) (by omega))
      rw [show n / 2 + (n - n / 2) = n by omega] at g
      refine ⟨_, g, λa b ha hb=>?_⟩
      have hc : ((n / 2 : Nat) : Int) = (n : Int) / 2:=by omega
      rw [if_neg w1, if_neg w2, if_neg (λz=>w3 z.1), if_neg (λz=>w6 z.1)]
      unfold Yt
      by_cases c1 : a < n / 2 /\ b < n / 2
      . rw [if_pos c1, if_pos ⟨w4, by omega, by omega⟩, Yh (by omega), ← Us, hc]
      . have m4 : ¬ (way = 4 /\ (a : Int) < (n : Int) / 2 /\ (b : Int) < (n : Int) / 2) := λz => c1 ⟨by omega, by omega⟩
        rw [if_neg c1, if_neg m4]
        by_cases c2 : n / 2 <= a /\ n / 2 <= b
        . have y4 : way = 4 /\ (a : Int) ≥ (n : Int) / 2 /\ (b : Int) ≥ (n : Int) / 2 := ⟨w4, by omega, by omega⟩
          rw [if_pos c2, if_pos y4]
          have hm : (((n - n / 2 : Nat)) : Int) = (n : Int) - (n : Int) / 2:=by omega
          have:=Yh (k:=-1) (n:=n - n / 2) (by omega) (a - n / 2) (b - n / 2)
          rw [← Us, hm] at this
          rw [show 2 * (b : Int) - a - (n : Int) / 2 = 2 * ((b - n / 2 : Nat) : Int) - ((a - n / 2 : Nat) : Int) by omega, ← this]
          omega
        . rw [if_neg c2, if_neg (λz=>c2 ⟨by omega, by omega⟩)]
  refine ⟨_, Jd n, λa b ha hb=>?_⟩
  rw [if_neg w1, if_neg w2, if_neg (λz=>w3 z.1), if_neg (λz=>w6 z.1), if_neg (λz=>w4 z.1), if_neg (λz=>w4 z.1)]
noncomputable def JB (a b : Nat) : Nat:=(([[0, 3, 1, 2], [2, 1, 3, 0], [3, 0, 2, 1], [1, 2, 0, 3]] : List (List Nat)).getD a []).getD b 0
theorem D0 : GoodF 4 JB:=by
  have h1 : ∀ a, a < 4 -> ∀ b, b < 4 -> JB a b < 4:=by decide +kernel
  have h2 : ∀ b, b < 4 -> ∀ x, x < 4 -> ∀ y, y < 4 -> JB x b = JB y b -> x = y:=by decide +kernel
  have h3 : ∀ a, a < 4 -> JB a a = a:=by decide +kernel
  have h4 : ∀ a, a < 4 -> ∀ b, b < 4 -> ∀ c, c < 4 -> JB (JB a b) c = JB (JB a c) (JB b c):=by decide +kernel
  exact ⟨⟨λa b ha hb=>h1 a ha b hb, λx y b hx hy hb=>h2 b hb x hx y hy⟩, h3, λa b c ha hb hc=>h4 a ha b hb c hc⟩
theorem B3 : XA 4 JB = [[0, 3, 1, 2], [2, 1, 3, 0], [3, 0, 2, 1], [1, 2, 0, 3]]:=by decide +kernel
end My
namespace My
open PySem L2
theorem Zs {n : Nat} {f : Nat -> Nat -> Nat} {a : Nat} (h : a < n) : atR (XA n f) (a : Int) = .ok (Yb n f a):=ZM (Zn h)
theorem Zz {n : Nat} {f : Nat -> Nat -> Nat} {a b : Nat} (h : b < n) : atR (Yb n f a) (b : Int) = .ok (f a b : Int):=ZM (YI h)
theorem Jh {α : Type} {as : List α} {i : Nat} {a : α} (h : i < as.length) : QA as (i : Int) a = .ok (as.set i a):=by
  unfold QA ixN
  rw [if_pos (by omega), if_pos (by omega)]
  simp
theorem Hq {n : Nat} {f : Nat -> Nat -> Nat} {a b v : Nat} : (Yb n f a).set b (v : Int) = Yb n (λx y=>if x = a /\ y = b then v else f x y) a:=by
  apply List.ext_getElem?
  intro j
  by_cases hj : j < n
  . rw [YI hj]
    by_cases e : j = b
    . subst e; rw [List.getElem?_set_self (by rw [Xv]; exact hj)]; simp
    . rw [List.getElem?_set_ne (λz=>e z.symm), YI hj]; simp [e]
  . rw [List.getElem?_eq_none (by rw [List.length_set, Xv]; omega), List.getElem?_eq_none (by rw [Xv]; omega)]
theorem DJ {n : Nat} {f : Nat -> Nat -> Nat} {a b v : Nat} (ha : a < n) : (XA n f).set a ((Yb n f a).set b (v : Int)) = XA n (λx y=>if x = a /\ y = b then v else f x y):=by
  apply List.ext_getElem?
  intro j
  by_cases hj : j < n
  . rw [Zn hj]
    by_cases e : j = a
    . subst e; rw [List.getElem?_set_self (by rw [Xj]; exact hj), Hq]
    . rw [List.getElem?_set_ne (λz => e z.symm), Zn hj]
      congr 1
      exact J9 λy _=>by simp [e]
  . rw [List.getElem?_eq_none (by rw [List.length_set, Xj]; omega), List.getElem?_eq_none (by rw [Xj]; omega)]
noncomputable def VO (n : Nat) (sp : List Int) (p q : Nat -> Nat) : Prop:=PermN n p q /\ sp = (List.range n).map λi=>((p i : Nat) : Int)
theorem VO.get {n : Nat} {sp : List Int} {p q : Nat -> Nat} (h : VO n sp p q) {i : Nat} (hi : i < n) : atR sp (i : Int) = .ok ((p i : Nat) : Int):=ZM (by rw [h.2, List.getElem?_map, List.getElem?_range hi]; rfl)
theorem IJ {as : List Int} {i : Nat} (h : i < as.length) (hl : as.length <= 100000) : Bu as (i : Int) = .ok (as[i], as.eraseIdx i):=by
  unfold Bu
  rw [XL (by omega)]
  have e : seqIndex? (i : Int) as.length = some i:=by
    unfold seqIndex?
    have h0 : ¬ ((i : Int) < 0):=by omega
    simp [h0, h]
  rw [e]
  simp [h]
theorem Bh {n : Nat} {sp : List Int} (h : sp.Perm ((List.range n).map λ(i : Nat)=>(i : Int))) : ∃ p q, VO n sp p q:=by
  have hl : sp.length = n:=by have:=h.length_eq; simpa using this
  have hlt : ∀ i, i < n -> ∃ k : Nat, k < n /\ sp[i]? = some (k : Int):=λi hi=>by
    have hm : sp[i]'(by omega) ∈ (List.range n).map λ(i : Nat)=>(i : Int):=h.mem_iff.mp (List.getElem_mem _)
    obtain ⟨k, hk, e⟩:=Ym hm
    exact ⟨k, hk, by rw [List.getElem?_eq_getElem (by omega), e]⟩
  let p : Nat -> Nat:=λi=>(sp[i]?.getD 0).toNat
  have hp : ∀ i, i < n -> p i < n /\ sp[i]? = some (p i : Int):=λi hi=>by
    obtain ⟨k, hk, e⟩:=hlt i hi
    have : p i = k:=by simp [p, e]
    rw [this]; exact ⟨hk, e⟩
  have nd : sp.Nodup:=h.nodup_iff.mpr (by
    rw [List.nodup_iff_pairwise_ne, List.pairwise_map]
    exact List.nodup_range.imp fun {a b} h e=>h (by omega))
  obtain ⟨q, hq⟩:=Ht (n:=n) (p:=p) (λa ha=>(hp a ha).1) λa b ha hb e=>by
    have h1:=(hp a ha).2
    have h2:=(hp b hb).2
    rw [← e] at h2
    exact (List.getElem?_inj (by omega) nd).mp (h1.trans h2.symm)
  refine ⟨p, q, hq, ?_⟩
  apply List.ext_getElem?
  intro i
  by_cases hi : i < n
  . rw [(hp i hi).2, List.getElem?_map, List.getElem?_range hi]; rfl
  . rw [List.getElem?_eq_none (by omega), List.getElem?_eq_none (by simp; omega)]
theorem VU : ∀ {as : List Int} {i : Nat} (h : i < as.length), (as[i] :: as.eraseIdx i).Perm as
  | a :: as, 0, _=>by simp
  | a :: as, i + 1, h=>by
    have:=VU (as:=as) (i:=i) (by simpa using h)
    simp only [List.getElem_cons_succ, List.eraseIdx_cons_succ]
    exact (List.Perm.swap _ _ _).trans (this.cons a)
theorem UA {α : Type} (as : List α) {k : Nat} (h : k <= as.length) : Fh as (some (k : Int)) none = as.drop k:=by
  unfold Fh
  rw [HT.sIx_nat, HT.sIx_none, Nat.min_eq_left h, List.take_of_length_le (by rw [List.length_drop]; omega)]
end My
namespace My
theorem mem_set {α : Type} : ∀ {l : List α} {j : Nat} {v x : α}, x ∈ l.set j v -> x ∈ l ∨ x = v
  | [], _, _, _, h=>by simp at h
  | a :: r, 0, v, x, h=>by
    rw [List.set_cons_zero] at h
    rcases List.mem_cons.mp h with h | h
    . exact .inr h
    . exact .inl (List.mem_cons_of_mem _ h)
  | a :: r, j + 1, v, x, h=>by
    rw [List.set_cons_succ] at h
    rcases List.mem_cons.mp h with h | h
    . exact .inl (by rw [h]; exact List.mem_cons_self)
    . rcases mem_set h with h | h
      . exact .inl (List.mem_cons_of_mem _ h)
      . exact .inr h
end My
namespace My
noncomputable def LI (S : Nat) : List Int:=(List.range S).map λ(k : Nat)=>(k : Int)
theorem BH {S : Nat} {x : Int} : x ∈ LI S ↔ 0 <= x /\ x < (S : Int):=by
  unfold LI
  rw [List.mem_map]
  constructor
  . rintro ⟨k, hk, rfl⟩
    have:=List.mem_range.mp hk
    omega
  . rintro ⟨h0, h1⟩
    exact ⟨x.toNat, List.mem_range.mpr (by omega), by omega⟩
theorem QV {α β : Type} {f : α -> β} : ∀ {l : List α}, (∀ a b, a ∈ l -> b ∈ l -> f a = f b -> a = b) -> l.Nodup -> (l.map f).Nodup
  | [], _, _=>List.nodup_nil
  | a :: r, h, nd=>by
    rw [List.map_cons, List.nodup_cons]
    refine ⟨λm=>?_, QV (λx y hx hy=>h x y (List.mem_cons_of_mem _ hx) (List.mem_cons_of_mem _ hy)) (List.nodup_cons.mp nd).2⟩
    obtain ⟨b, hb, e⟩:=List.mem_map.mp m
    have:=h b a (List.mem_cons_of_mem _ hb) List.mem_cons_self e
    exact (List.nodup_cons.mp nd).1 (by rw [← this]; exact hb)
theorem Fb (S : Nat) : (LI S).Nodup:=QV (λa b _ _ e=>by omega) List.nodup_range
theorem V2 {α : Type} [DecidableEq α] : ∀ {l m : List α}, l.Nodup -> m.Nodup -> (∀ x, x ∈ l ↔ x ∈ m) -> l.Perm m
  | [], m, _, _, h=>by
    cases m with
    | nil=>exact List.Perm.refl _
    | cons a r=>exact absurd ((h a).mpr List.mem_cons_self) (by simp)
  | a :: r, m, nl, nm, h=>by
    have ha : a ∈ m:=(h a).mp List.mem_cons_self
    have hp : m.Perm (a :: m.erase a):=List.perm_cons_erase ha
    refine List.Perm.trans (List.Perm.cons a ?_) hp.symm
    have nd2 : (a :: m.erase a).Nodup:=hp.nodup_iff.mp nm
    refine V2 (List.nodup_cons.mp nl).2 (List.nodup_cons.mp nd2).2 λx=>?_
    constructor
    . intro hx
      have hxa : x ≠ a:=λe=>(List.nodup_cons.mp nl).1 (by rw [← e]; exact hx)
      have : x ∈ a :: m.erase a:=hp.mem_iff.mp ((h x).mp (List.mem_cons_of_mem _ hx))
      exact (List.mem_cons.mp this).resolve_left hxa
    . intro hx
      have hxa : x ≠ a:=λe=>(List.nodup_cons.mp nd2).1 (e ▸ hx)
      have : x ∈ a :: r:=(h x).mpr (hp.mem_iff.mpr (List.mem_cons_of_mem _ hx))
      exact (List.mem_cons.mp this).resolve_left hxa
end My
namespace My
structure Done (S : Int) (seen : List Bool) (ps : List Int) : Prop where
  nd : ps.Nodup
  at' : ∀ p ∈ ps, 0 <= p /\ p < S /\ seen[p.toNat]? = some true
  of : ∀ q : Nat, seen[q]? = some true -> (q : Int) ∈ ps
theorem Done.none (S : Int) (n : Nat) : Done S (List.replicate n false) []:=
  ⟨List.nodup_nil, λp h=>by simp at h, λq h=>by
    rw [List.getElem?_replicate] at h
    split at h <;> cases h⟩
theorem B6 {l : List Bool} {j q : Nat} (h : l[q]? = some true) : (l.set j true)[q]? = some true:=by
  by_cases e : j = q
  . subst e
    rw [List.getElem?_set_self (List.getElem?_eq_some_iff.mp h).1]
  . rw [List.getElem?_set_ne e]; exact h
theorem Done.snoc {S : Int} {seen : List Bool} {ps : List Int} {a : Int} (h : Done S seen ps) (a0 : 0 <= a) (a1 : a < S) (e : seen[a.toNat]? = some false) : Done S (seen.set a.toNat true) (ps ++ [a]):=by
  have hl : a.toNat < seen.length:=(List.getElem?_eq_some_iff.mp e).1
  have hn : a ∉ ps:=λm=>by
    have:=(h.at' a m).2.2
    rw [e] at this; cases this
  refine ⟨?_, λp hp=>?_, λq hq=>?_⟩
  . rw [List.nodup_append]
    refine ⟨h.nd, by simp, λx hx y hy=>?_⟩
    rw [List.mem_singleton.mp hy]
    exact λe=>hn (e ▸ hx)
  . rcases List.mem_append.mp hp with hp | hp
    . obtain ⟨h1, h2, h3⟩ := h.at' p hp
      exact ⟨h1, h2, B6 h3⟩
    . rw [List.mem_singleton.mp hp]
      exact ⟨a0, a1, by rw [List.getElem?_set_self hl]⟩
  . by_cases hqa : a.toNat = q
    . exact List.mem_append_right _ (List.mem_singleton.mpr (by omega))
    . rw [List.getElem?_set_ne hqa] at hq
      exact List.mem_append_left _ (h.of q hq)
theorem Done.all {S : Int} {seen : List Bool} {ps : List Int} (h : Done S seen ps) (hl : seen.length = S.toNat) (h0 : 0 <= S) (ha : ∀ q : Nat, q < S.toNat -> seen[q]? = some true) : ps.Perm (LI S.toNat):=by
  refine V2 h.nd (Fb _) λx=>?_
  rw [BH]
  constructor
  . intro hx
    obtain ⟨h1, h2, _⟩:=h.at' x hx
    omega
  . rintro ⟨x0, x1⟩
    have:=h.of x.toNat (ha x.toNat (by omega))
    rw [show ((x.toNat : Nat) : Int) = x by omega] at this
    exact this
end My
namespace My
open PySem L2
theorem CK (ns : List Int) {p : Int} (hp : 0 <= p) : ∃ c, Vh ns p = .ok c:=by
  unfold Vh
  simp only [Rs.okb]
  by_cases h : p < (ns.length : Int)
  . rw [decide_eq_true h, if_pos rfl]
    have hl : p.toNat < ns.length:=by omega
    exact ⟨ns[p.toNat], Il hp (by simp [hl])⟩
  . rw [decide_eq_false h, if_neg Bool.false_ne_true]
    obtain ⟨g, e, _⟩:=QN (as:=Fh ns none (some 63)) (g:=(5 : Int)) (f:=λg15 a17=>(Rs.bind (Rs.bind (Rs.bind (Rs.bind (VG g15 48271) λx25=>(Rs.bind (JD a17 1000003) λx26=>(Rs.ok (x25 + x26)))) λx27=>Rs.ok (x27 + 1)) λx29=>JD x29 2147483647) λa19=>(Rs.ok (a19)))) (λ_ _=>True) True.intro λi a g _ _=>by
      rw [Vp (by decide) (by decide), Rs.ok_bind, YN (by decide), Rs.ok_bind, Rs.ok_bind, Rs.ok_bind, YN (by decide), Rs.ok_bind]
      exact ⟨_, rfl, True.intro⟩
    rw [e, Rs.ok_bind, Jr (by decide) (by decide), Rs.ok_bind, Rs.ok_bind, YN (by decide)]
    exact ⟨_, rfl⟩
theorem Et (c : Int) {k : Int} (h0 : 0 <= k) (h1 : k <= 100000) : ∃ y, Gc c k = .ok y /\ 0 <= y:=by
  unfold Gc
  simp only [Rs.okb]
  have hm : 0 <= c % 2147483629 /\ c % 2147483629 < 2147483629:=⟨Int.emod_nonneg _ (by decide), Int.emod_lt_of_pos _ (by decide)⟩
  rw [YN (by decide), Rs.ok_bind, Jr (by decide) (by decide), Rs.ok_bind, Rs.ok_bind, Rs.ok_bind, Em (by decide) (by decide) (by omega) (by omega), Rs.ok_bind, YN (by decide), Rs.ok_bind]
  rw [Vp (by decide) (by decide), Rs.ok_bind, Jr (by decide) (by decide), Rs.ok_bind, Vp (by omega) (by omega), Rs.ok_bind, Rs.ok_bind, Rs.ok_bind, YN (by decide), Rs.ok_bind, FR (by decide) (by decide)]
  exact ⟨_, rfl, Int.ediv_nonneg (Int.emod_nonneg _ (by decide)) (by decide)⟩
theorem CT (ns : List Int) {p : Int} (hp : 0 <= p) (sizes : List Int) (hl : sizes.length <= 100000) (hs : ∀ x ∈ sizes, 0 < x /\ x < 2 ^ 250) :
    Ok (UI ns p sizes) λr=>r.length = sizes.length /\ ∀ (i : Nat) x s, r[i]? = some x -> sizes[i]? = some s -> 0 <= x /\ x < s:=by
  obtain ⟨c, ec⟩:=CK ns hp
  unfold UI
  simp only [Rs.okb]
  rw [ec, show noE (Rs.ok c) = .ok c from rfl, Rs.ok_bind, Qo (by omega), Rs.ok_bind, Em (by decide) (by decide) (by decide) (by decide)]
  simp only [Rs.okb]
  have key : ∀ (i : Nat) (a : Int) (g : List Int × Int), ((List.range sizes.length).map λ(i : Nat)=>(i : Int))[i]? = some a -> (g.1.length = i /\ ∀ (j : Nat) x s, g.1[j]? = some x -> sizes[j]? = some s -> 0 <= x /\ x < s) -> ∀ y z : Int, ∀ s, sizes[i]? = some s -> 0 <= y /\ y < s -> ((g.1 ++ [y], z).1.length = i + 1 /\ ∀ (j : Nat) x s, (g.1 ++ [y], z).1[j]? = some x -> sizes[j]? = some s -> 0 <= x /\ x < s):=by
    intro i a g ha ⟨hg, hq⟩ y z s hs1 hy
    refine ⟨by simp [hg], λj x s' hx hs'=>?_⟩
    have hx : (g.1 ++ [y])[j]? = some x:=hx
    rcases Nat.lt_trichotomy j i with hj | hj | hj
    . rw [List.getElem?_append_left (by omega)] at hx; exact hq j x s' hx hs'
    . subst hj
      rw [List.getElem?_append_right (by omega), hg, Nat.sub_self] at hx
      have : y = x:=by simpa using hx
      rw [hs1] at hs'
      cases hs'
      rw [← this]; exact hy
    . rw [List.getElem?_eq_none (by simp; omega)] at hx; cases hx
  refine Ok.bind (Ok.forN (λi (g : List Int × Int)=>g.1.length = i /\ ∀ (j : Nat) x s, g.1[j]? = some x -> sizes[j]? = some s -> 0 <= x /\ x < s) ⟨rfl, λj x s h _=>by simp at h⟩ λi a g ha hg=>?_) (T:=λ(r : List Int)=>r.length = sizes.length /\ ∀ (i : Nat) x s, r[i]? = some x -> sizes[i]? = some s -> 0 <= x /\ x < s) λg ⟨hg, hq⟩=>?_
  . obtain ⟨rfl, hi⟩ := Q0 ha
    have hsz : sizes[i]? = some sizes[i]:=by simp [hi]
    have hsp:=hs _ (List.getElem_mem hi)
    have hgl : g.1.length < sizeLine:=IZ (by have:=hg.1; omega)
    by_cases hc : c < 10 ^ (18 : Int).toNat
    . rw [decide_eq_true hc, if_pos rfl]
      obtain ⟨y, ey, hy⟩:=Et c (k:=(i : Int)) (by omega) (by omega)
      rw [ey, show noE (Rs.ok y) = .ok y from rfl, Rs.ok_bind, ZM hsz, Rs.ok_bind, YN hsp.1, Rs.ok_bind, XL hgl]
      exact ⟨_, rfl, key i _ g ha hg _ _ _ hsz ⟨Int.emod_nonneg _ (by omega), Int.emod_lt_of_pos _ hsp.1⟩⟩
    . rw [decide_eq_false hc, if_neg Bool.false_ne_true]
      by_cases hq : 0 < g.2
      . rw [decide_eq_true hq, if_pos rfl, ZM hsz, Rs.ok_bind, YN hsp.1, Rs.ok_bind, XL hgl]
        simp only [Rs.okb]
        rw [FR hsp.1 hsp.2]
        exact ⟨_, rfl, key i _ g ha hg _ _ _ hsz ⟨Int.emod_nonneg _ (by omega), Int.emod_lt_of_pos _ hsp.1⟩⟩
      . rw [decide_eq_false hq, if_neg Bool.false_ne_true, YN (by decide), Rs.ok_bind]
        obtain ⟨c2, ec2⟩:=CK ns (p:=(p + 1 + (i : Int)) % 63) (Int.emod_nonneg _ (by decide))
        obtain ⟨y, ey, hy⟩:=Et c2 (k:=(i : Int)) (by omega) (by omega)
        rw [ec2, show noE (Rs.ok c2) = .ok c2 from rfl, Rs.ok_bind, ey, show noE (Rs.ok y) = .ok y from rfl, Rs.ok_bind, ZM hsz, Rs.ok_bind, YN hsp.1, Rs.ok_bind, XL hgl]
        exact ⟨_, rfl, key i _ g ha hg _ _ _ hsz ⟨Int.emod_nonneg _ (by omega), Int.emod_lt_of_pos _ hsp.1⟩⟩
  . rw [QU] at hg
    exact ⟨g.1, rfl, hg, hq⟩
theorem Gi {α : Type} {r : List α} {k : Int} {n : Nat} (e : k = (n : Int)) (h : n < r.length) : atR r k = .ok r[n]:=by
  subst e; exact ZM (by simp [h])
theorem JK {γ : Type} {c : γ -> Rs Bool} {f : γ -> Rs γ} (P : γ -> Prop) (μ : γ -> Nat) (hs : ∀ g, P g -> ∃ b, c g = .ok b /\ (b = true -> Ok (f g) λg'=>P g' /\ μ g' < μ g)) : ∀ (n : Nat) (g : γ), P g -> μ g < n -> Ok (QB n g c f) λg'=>P g' /\ c g' = .ok false
  | 0, _, _, h=>by omega
  | n + 1, g, hp, hm=>by
    obtain ⟨b, hb, h⟩:=hs g hp
    show Ok ((c g).bind _) _
    rw [hb, Rs.okb]
    cases b with
    | false=>rw [if_neg Bool.false_ne_true]; exact ⟨g, rfl, hp, hb⟩
    | true=>
      rw [if_pos rfl]
      exact Ok.bind (h rfl) λg' h'=>JK P μ hs n g' h'.1 (by omega)
theorem VN {r : List Int} {n : Nat} (hn : n <= 1000) (hr : n <= r.length) : Ok (Y9 r (n : Int)) λsp=>∃ p q, VO n sp p q:=by
  unfold Y9
  simp only [Rs.okb]
  rw [XL (by omega)]
  simp only [Rs.okb]
  rw [Qo (by omega)]
  simp only [Rs.okb]
  have e0 : X6 0 (n : Int) = (List.range n).map λ(i : Nat)=>(i : Int):=by
    unfold X6
    rw [Int.sub_zero, Int.toNat_natCast]
    exact List.map_congr_left λi _=>by omega
  refine Ok.bind (Ok.forN (λi (g : List Int × List Int)=>g.1.length = i /\ (g.1 ++ g.2).Perm ((List.range n).map λ(i : Nat)=>(i : Int))) ⟨rfl, by rw [e0]; exact List.Perm.refl _⟩ λi a g ha hg=>?_) λg hg=>?_
  . obtain ⟨rfl, hi⟩ := Q0 ha
    obtain ⟨h1, h2⟩:=hg
    have hl:=h2.length_eq
    simp only [List.length_append, List.length_map, List.length_range] at hl
    have hri : r[i]? = some r[i]:=by simp [show i < r.length by omega]
    have hpos : (0 : Int) < (g.2.length : Int):=by omega
    have hm1:=Int.emod_nonneg r[i] (show (g.2.length : Int) ≠ 0 by omega)
    have hm2:=Int.emod_lt_of_pos r[i] hpos
    rw [ZM hri, Rs.okb, YN hpos, Rs.okb]
    generalize hk : r[i] % (g.2.length : Int) = k at hm1 hm2
    obtain ⟨j, rfl⟩ : ∃ j : Nat, k = j:=⟨k.toNat, by omega⟩
    have hj : j < g.2.length:=by omega
    rw [IJ hj (by omega), Rs.okb, XL (IZ (by omega))]
    refine ⟨_, rfl, by simp [h1], ?_⟩
    refine List.Perm.trans ?_ h2
    show ((g.1 ++ [g.2[j]]) ++ g.2.eraseIdx j).Perm (g.1 ++ g.2)
    rw [List.append_assoc]
    exact (VU hj).append_left _
  . obtain ⟨h1, h2⟩ := hg
    rw [QU] at h1
    have hl:=h2.length_eq
    simp only [List.length_append, List.length_map, List.length_range] at hl
    have : g.2 = []:=List.length_eq_zero_iff.mp (by omega)
    rw [this, List.append_nil] at h2
    exact ⟨_, rfl, Bh h2⟩
theorem Cv {n : Nat} {f : Nat -> Nat -> Nat} {sp : List Int} {p q : Nat -> Nat} (hn : n <= 1000) (hf : ∀ a b, a < n -> b < n -> f a b < n) (hp : VO n sp p q) : Qk (XA n f) sp = .ok (XA n λx y=>p (f (q x) (q y))):=by
  have P:=hp.1
  unfold Qk
  simp only [Rs.okb]
  rw [Y0 (h:=λa=>a) (sz (by rw [Xj]; omega)) λa _=>rfl, Rs.okb]
  simp only [List.map_id', Xj]
  rw [Qo (by omega), Rs.okb]
  apply Ok.eq
  refine Ok.bind (Ok.forN (λi g=>g = XA n λx y=>if q x < i then p (f (q x) (q y)) else f x y) (XZ λx y _ _=>by simp) λi a g ha hg=>?_) λg hg=>⟨g, rfl, ?_⟩
  . obtain ⟨rfl, hi⟩ := Q0 ha
    subst hg
    simp only [Rs.okb]
    refine Ok.bind (Ok.forN (λj g=>g = XA n λx y=>if q x < i ∨ (q x = i /\ q y < j) then p (f (q x) (q y)) else f x y) (XZ λx y _ _=>by simp) λj b g hb hg=>?_) λg hg=>⟨g, rfl, ?_⟩
    . obtain ⟨rfl, hj⟩ := Q0 hb
      subst hg
      have hv:=hf i j hi hj
      rw [Zs hi, Rs.okb, Zz hj, Rs.okb, hp.get hv, Rs.okb, hp.get hi, Rs.okb, Zs (P.lt i hi), Rs.okb, hp.get hj, Rs.okb, Jh (by rw [Xv]; exact P.lt j hj), Rs.okb, Jh (by rw [Xj]; exact P.lt i hi), Rs.okb]
      refine ⟨_, rfl, ?_⟩
      rw [DJ (P.lt i hi)]
      refine XZ λx y hx hy=>?_
      by_cases e : x = p i /\ y = p j
      . rw [if_pos e, e.1, e.2, P.qp i hi, P.qp j hj, if_pos (by omega)]
      . rw [if_neg e]
        have : ¬ (q x = i /\ q y = j):=λ⟨e1, e2⟩=>e ⟨by rw [← e1, P.pq x hx], by rw [← e2, P.pq y hy]⟩
        by_cases c : q x < i ∨ (q x = i /\ q y < j)
        . rw [if_pos c, if_pos (by omega)]
        . rw [if_neg c, if_neg (by omega)]
    . subst hg
      rw [QU]
      refine XZ λx y hx hy=>?_
      have:=P.qlt y hy
      by_cases c : q x < i + 1
      . rw [if_pos c, if_pos (by omega)]
      . rw [if_neg c, if_neg (by omega)]
  . subst hg
    rw [QU]
    exact XZ λx y hx hy=>by rw [if_pos (P.qlt x hx)]
theorem Jl (a b : Bool) : KJ (.ok a) (.ok b) = .ok (a && b):=Ip λ_=>rfl
theorem Fy {way k : Int} {n a b : Nat} (hn : 0 < n) (h1 : n <= 1000) (ha : a < n) (hb : b < n) : Zq way (n : Int) k (a : Int) (b : Int) = .ok (Fs way n k a b):=by
  unfold Zq Fs
  simp only [Rs.okb, Jl, Bool.and_eq_true, decide_eq_true_eq, gt_iff_lt, ge_iff_le]
  rw [FR (by decide) (by decide)]
  simp only [Rs.okb, Jl, Bool.and_eq_true, decide_eq_true_eq]
  rw [Jr (a:=2) (by decide) (by decide), Vp (a:=k) (by omega) (by omega), Vp (a:=1 - k) (by omega) (by omega)]
  simp only [Rs.okb]
  by_cases c1 : way = 1
  . rw [if_pos c1, if_pos c1]; exact YN (by omega)
  rw [if_neg c1, if_neg c1]
  by_cases c2 : way = 2
  . rw [if_pos c2, if_pos c2]; exact YN (by omega)
  rw [if_neg c2, if_neg c2]
  by_cases c3 : way = 3 /\ 2 < (n : Int) /\ (a : Int) < 2 /\ (b : Int) = (n : Int) - 1
  . rw [if_pos c3, if_pos c3]
  rw [if_neg c3, if_neg c3]
  by_cases c4 : way = 6 /\ (a : Int) < (n : Int) - 1 /\ (b : Int) = (n : Int) - 1
  . rw [if_pos c4, if_pos c4]; exact YN (by omega)
  rw [if_neg c4, if_neg c4]
  by_cases c5 : way = 4 /\ (a : Int) < (n : Int) / 2 /\ (b : Int) < (n : Int) / 2
  . rw [if_pos c5, if_pos c5]; exact YN (by omega)
  rw [if_neg c5, if_neg c5]
  by_cases c6 : way = 4 /\ (n : Int) / 2 <= (a : Int) /\ (n : Int) / 2 <= (b : Int)
  . rw [if_pos c6, if_pos c6, YN (by omega), Rs.okb]
  rw [if_neg c6, if_neg c6]
theorem Kc (x y : Int) : Qe x y = .ok (Int.gcd x y : Int):=by
  unfold Qe
  simp only [Rs.okb]
  apply Ok.eq
  refine Ok.bind (JK (λg : Int × Int=>∃ u v : Nat, g = ((u : Int), (v : Int)) /\ Nat.gcd u v = Int.gcd x y) (λg=>g.2.toNat) (λg hg=>?_) _ ((x.natAbs : Int), (y.natAbs : Int)) ⟨x.natAbs, y.natAbs, rfl, rfl⟩ ?_) λg hg=>?_
  . obtain ⟨u, v, rfl, h⟩ := hg
    refine ⟨_, rfl, λc=>?_⟩
    have c' : (0 : Int) < (v : Int):=of_decide_eq_true c
    show Ok ((JD (u : Int) (v : Int)).bind _) _
    rw [YN c', Rs.okb]
    refine ⟨_, rfl, ⟨v, u % v, by rw [Int.natCast_emod], ?_⟩, ?_⟩
    . rw [← h, Nat.gcd_comm u v, Nat.gcd_rec v u, Nat.gcd_comm]
    . show ((u : Int) % (v : Int)).toNat < ((v : Int)).toNat
      have:=Int.emod_lt_of_pos (u : Int) c'
      have:=Int.emod_nonneg (u : Int) (show (v : Int) ≠ 0 by omega)
      omega
  . show ((y.natAbs : Int)).toNat < _
    omega
  . obtain ⟨⟨u, v, rfl, h⟩, hc⟩ := hg
    have hc' : ¬ (0 : Int) < (v : Int):=by
      have:=Rs.ok.inj hc
      simpa using this
    have : v = 0:=by omega
    subst this
    rw [Nat.gcd_zero_right] at h
    exact ⟨_, rfl, by show (u : Int) = _; rw [h]⟩
theorem Hi {n : Nat} {t z : Int} (h : t = 1 + (n : Int) * z) : Int.gcd t n = 1:=by
  have h1 : ((Int.gcd t n : Nat) : Int) ∣ t:=Int.gcd_dvd_left ..
  have h2 : ((Int.gcd t n : Nat) : Int) ∣ (n : Int):=Int.gcd_dvd_right ..
  have h3 : ((Int.gcd t n : Nat) : Int) ∣ 1:=by
    have : (1 : Int) = t - (n : Int) * z:=by omega
    rw [this]
    exact Int.dvd_sub h1 (Int.dvd_trans h2 (Int.dvd_mul_right ..))
  have h4:=Int.eq_one_of_dvd_one (by omega) h3
  omega
theorem HN {way k : Int} {n : Nat} (hn : 0 < n) (h1 : n <= 1000) : Ok (VJ way (n : Int) k) λt=>∃ f, GoodF n f /\ t = XA n f:=by
  unfold VJ
  simp only [Rs.okb, Jl, Bool.and_eq_true, decide_eq_true_eq]
  by_cases c5 : way = 5 /\ (n : Int) = 4
  . rw [if_pos c5]
    have hn : n = 4:=by omega
    subst hn
    exact ⟨[[0, 3, 1, 2], [2, 1, 3, 0], [3, 0, 2, 1], [1, 2, 0, 3]], rfl, JB, D0, B3.symm⟩
  rw [if_neg c5]
  have ht:=Int.emod_add_mul_ediv (1 - k) (n : Int)
  have ht0:=Int.emod_nonneg (1 - k) (show (n : Int) ≠ 0 by omega)
  have ht1:=Int.emod_lt_of_pos (1 - k) (show (0 : Int) < (n : Int) by omega)
  generalize hq : (1 - k) % (n : Int) = m at ht ht0 ht1
  have hcop : Int.gcd (k + m) n = 1:=Hi (z:=-((1 - k) / (n : Int))) (by rw [Int.mul_neg]; omega)
  refine Ok.bind (JK (λg : Int=>k <= g /\ g <= k + m) (λg=>(k + m - g).toNat) (λg hg=>?_) _ k ⟨Int.le_refl _, by omega⟩ ?_) λg hg=>?_
  . rw [Kc, Vx, Rs.okb]
    refine ⟨_, rfl, λc=>?_⟩
    have hne : g ≠ k + m:=λe=>by
      rw [e, hcop] at c
      exact absurd c (by decide)
    refine ⟨_, rfl, ⟨by omega, by omega⟩, ?_⟩
    show (k + m - (g + 1)).toNat < (k + m - g).toNat
    omega
  . show (k + m - k).toNat < _
    omega
  . obtain ⟨_, hc⟩ := hg
    rw [Kc, Vx, Rs.okb] at hc
    have hg1 : Int.gcd g n = 1:=by
      have:=Rs.ok.inj hc
      simp at this
      omega
    obtain ⟨gd, hce⟩:=DA (way:=way) (k:=g) (n:=n) hn hg1
    refine ⟨XA n (Kg way g n), ?_, _, gd, rfl⟩
    rw [Qo (by omega), Rs.okb]
    have hrow : ∀ a : Nat, a < n -> QJ ((List.range n).map λ(i : Nat)=>(i : Int)) (λb=>noE (Zq way (n : Int) g (a : Int) b)) = .ok (Yb n (Kg way g n) a):=λa ha=>by
      rw [Y0 (h:=λx=>((Kg way g n a x.toNat : Nat) : Int)) (sz (by simp; omega)) λx hx=>?_]
      . rw [List.map_map]; rfl
      . obtain ⟨b, hb, rfl⟩ := Ym hx
        rw [Fy hn h1 ha hb, Vx, Int.toNat_natCast, hce a b ha hb]
    rw [Q2 (h:=λx=>Yb n (Kg way g n) x.toNat) (sz (by simp; omega)) λl hl x hx=>?_]
    . rw [Rs.okb, List.nil_append, List.map_map]; rfl
    . obtain ⟨a, ha, rfl⟩ := Ym hx
      rw [Rs.okb, hrow a ha, Rs.okb, XL hl, Int.toNat_natCast]
theorem GS (ns : List Int) {p : Int} (hp : 0 <= p) {most : Nat} (h0 : 0 < most) (hm : most <= 24) : Ok (Qt ns p (most : Int)) λt=>∃ n f, 0 < n /\ n <= most /\ GoodF n f /\ t = XA n f:=by
  unfold Qt
  simp only [Rs.okb]
  rw [XL (sz (by simp))]
  simp only [Rs.okb]
  rw [XL (sz (by simp))]
  simp only [Rs.okb]
  rw [show Bp [(24 : Int)] 24 = .ok (List.replicate 24 24) from rfl]
  simp only [Rs.okb]
  rw [show Bc [(7 : Int), 24, 6, 2] (List.replicate 24 24) = .ok ([(7 : Int), 24, 6, 2] ++ List.replicate 24 24) from XL (sz (by simp))]
  simp only [Rs.okb]
  refine Ok.bind (Ok.noE (CT ns hp _ (by simp) λx hx=>?_)) λr hr=>?_
  . rw [List.mem_append] at hx
    rcases hx with h | h
    . simp only [List.mem_cons, List.not_mem_nil, or_false] at h
      rcases h with rfl | rfl | rfl | rfl <;> decide
    . rw [(List.mem_replicate.mp h).2]; decide
  obtain ⟨hl, hv⟩:=hr
  have hl' : r.length = 28:=by rw [hl]; simp
  clear hl hv
  rw [Gi (r:=r) (k:=0) (n:=0) rfl (by omega), Gi (r:=r) (k:=1) (n:=1) rfl (by omega), Gi (r:=r) (k:=2) (n:=2) rfl (by omega), Gi (r:=r) (k:=3) (n:=3) rfl (by omega)]
  simp only [Rs.okb, Jl]
  rw [YN (by omega)]
  simp only [Rs.okb]
  have a0:=Int.emod_nonneg r[1] (show (most : Int) ≠ 0 by omega)
  have a1:=Int.emod_lt_of_pos r[1] (show (0 : Int) < (most : Int) by omega)
  obtain ⟨s, es⟩ : ∃ s : Int, s = (1 : Int) + r[1] % (most : Int):=⟨_, rfl⟩
  rw [← es]
  have hs : 0 < s /\ s <= (most : Int):=by omega
  clear es
  obtain ⟨n, rfl⟩ : ∃ n : Nat, s = (n : Int):=⟨s.toNat, by omega⟩
  refine Ok.bind (Ok.noE (HN (by omega) (by omega))) λt ht=>?_
  obtain ⟨f, gd, rfl⟩:=ht
  refine Ok.ite (λ_=>⟨_, rfl, n, f, by omega, by omega, gd, rfl⟩) λ_=>?_
  rw [show Fh r (some 4) none = r.drop 4 from UA r (k:=4) (by omega)]
  refine Ok.bind (Ok.noE (VN (by omega) (by rw [List.length_drop]; omega))) λsp hsp=>?_
  obtain ⟨q, q', hq⟩:=hsp
  rw [Cv (by omega) gd.lt hq, Vx]
  exact ⟨_, rfl, n, _, by omega, by omega, hq.1.good gd, rfl⟩
section
variable {n : Nat}
theorem UB {α β : Type} {f : α -> β} : ∀ {l : List α}, (∀ a b, a ∈ l -> b ∈ l -> f a = f b -> a = b) -> l.Nodup -> (l.map f).Nodup
  | [], _, _=>List.nodup_nil
  | x :: l, h, hn=>by
    have h2:=List.nodup_cons.mp hn
    refine List.nodup_cons.mpr ⟨λhm=>?_, UB (λa b ha hb=>h a b (.tail _ ha) (.tail _ hb)) h2.2⟩
    obtain ⟨y, hy, e⟩:=List.mem_map.mp hm
    exact h2.1 ((h y x (.tail _ hy) (.head _) e) ▸ hy)
theorem F3 {α : Type} [DecidableEq α] : ∀ {l m : List α}, l.Nodup -> (∀ x ∈ l, x ∈ m) -> l.length <= m.length
  | [], m, _, _=>Nat.zero_le _
  | x :: l, m, h, hs=>by
    have hx:=hs x (.head _)
    have h2:=List.nodup_cons.mp h
    have:=F3 (l:=l) (m:=m.erase x) h2.2 λy hy=>(List.mem_erase_of_ne λe=>h2.1 (by rw [← e]; exact hy)).mpr (hs y (.tail _ hy))
    rw [List.length_erase_of_mem hx] at this
    have:=List.length_pos_of_mem hx
    rw [List.length_cons]
    omega
theorem Vq {l : List Int} (h : l.Nodup) (hl : l.length = n) (hr : ∀ x ∈ l, ∃ i : Nat, i < n /\ x = i) : l.Perm ((List.range n).map λ(i : Nat)=>(i : Int)):=by
  have hnd : ((List.range n).map λ(i : Nat)=>(i : Int)).Nodup:=List.Pairwise.map _ (λa b h e=>h (Int.ofNat.inj e)) List.nodup_range
  have hs : ∀ x ∈ l, x ∈ (List.range n).map λ(i : Nat)=>(i : Int):=λx hx=>by
    obtain ⟨i, hi, rfl⟩:=hr x hx
    exact List.mem_map.mpr ⟨i, List.mem_range.mpr hi, rfl⟩
  refine (List.perm_ext_iff_of_nodup h hnd).mpr λx=>⟨hs x, λhx=>?_⟩
  by_cases hm : x ∈ l
  . exact hm
  . have:=F3 (l:=x :: l) (m:=(List.range n).map λ(i : Nat)=>(i : Int)) (List.nodup_cons.mpr ⟨hm, h⟩) λy hy=>by
      rcases List.mem_cons.mp hy with z | z
      . rw [z]; exact hx
      . exact hs y z
    rw [List.length_cons, hl, List.length_map, List.length_range] at this
    exact absurd this (Nat.not_succ_le_self n)
end
theorem El (x : Int) : ∀ (l acc : List Int), x ∈ l.foldl PyProof.Rows.step_dedup acc ↔ x ∈ acc ∨ x ∈ l
  | [], acc=>by simp
  | y :: l, acc=>by
    rw [List.foldl_cons, El x l]
    unfold PyProof.Rows.step_dedup
    by_cases h : acc.any (· == y) = true
    . rw [if_pos h]
      obtain ⟨z, hz, e⟩:=List.any_eq_true.mp h
      rw [beq_iff_eq] at e
      subst e
      simp only [List.mem_cons]
      constructor
      . rintro (q | q)
        . exact .inl q
        . exact .inr (.inr q)
      . rintro (q | q | q)
        . exact .inl q
        . rw [q]; exact .inl hz
        . exact .inr q
    . rw [if_neg h]
      simp only [List.mem_append, List.mem_cons, List.not_mem_nil, or_false]
      constructor
      . rintro ((q | q) | q)
        . exact .inl q
        . exact .inr (.inl q)
        . exact .inr (.inr q)
      . rintro (q | q | q)
        . exact .inl (.inl q)
        . exact .inl (.inr q)
        . exact .inr q
theorem GM : ∀ (l acc : List Int), acc.Nodup -> (l.foldl PyProof.Rows.step_dedup acc).Nodup
  | [], acc, h=>h
  | y :: l, acc, h=>by
    rw [List.foldl_cons]
    refine GM l _ ?_
    unfold PyProof.Rows.step_dedup
    by_cases z : acc.any (· == y) = true
    . rw [if_pos z]; exact h
    . rw [if_neg z]
      refine List.nodup_append.mpr ⟨h, by simp, λu hu v hv e=>z (List.any_eq_true.mpr ⟨u, hu, ?_⟩)⟩
      rw [e, List.mem_singleton.mp hv]; exact beq_self_eq_true y
noncomputable def lst (n : Nat) (l : Nat -> Nat) : List Int:=Yb n (λ_ x=>l x) 0
theorem Qd {n : Nat} {l : Nat -> Nat} : lst n l = (List.range n).map λx=>((l x : Nat) : Int):=rfl
theorem KC {n : Nat} {l : Nat -> Nat} {x : Nat} (h : x < n) : atR (lst n l) (x : Int) = .ok ((l x : Nat) : Int):=Zz h
theorem Y6 {n : Nat} {l : Nat -> Nat} : (lst n l).length = n:=Xv _ _ _
theorem Dr {n : Nat} {l l' : Nat -> Nat} (h : ∀ x, x < n -> l x = l' x) : lst n l = lst n l':=by
  rw [Qd, Qd]
  exact List.map_congr_left λx hx=>by rw [h x (List.mem_range.mp hx)]
noncomputable def jn (l : Nat -> Nat) (p q : Nat) : Nat -> Nat:=λx=>if l x = p ∨ l x = q then min p q else l x
theorem Dl {n : Nat} {l : Nat -> Nat} {p q : Nat} (hn : n <= 1000) : Zk (lst n l) (p : Int) (q : Int) = .ok (lst n (jn l p q)):=by
  unfold Zk
  simp only [Rs.okb]
  rw [Y0 (h:=λa=>if a = (p : Int) ∨ a = (q : Int) then min (p : Int) (q : Int) else a) (sz (by rw [Y6]; omega)) λa _=>?_]
  . rw [Qd, Qd, List.map_map]
    refine congrArg _ (List.map_congr_left λx _=>?_)
    show (if ((l x : Nat) : Int) = (p : Int) ∨ ((l x : Nat) : Int) = (q : Int) then min (p : Int) (q : Int) else ((l x : Nat) : Int)) = ((jn l p q x : Nat) : Int)
    unfold jn
    by_cases h : l x = p ∨ l x = q
    . rw [if_pos h, if_pos (by omega)]; omega
    . rw [if_neg h, if_neg (by omega)]
  . by_cases h : a = (p : Int) ∨ a = (q : Int)
    . rw [if_pos h, decide_eq_true (by simpa using h), if_pos rfl]
    . rw [if_neg h, decide_eq_false (by simpa using h), if_neg Bool.false_ne_true]
structure UF (n : Nat) (E : Nat -> Nat -> Prop) (l : Nat -> Nat) : Prop where
  lt : ∀ x, x < n -> l x < n
  le : ∀ x, x < n -> l x <= x
  id : ∀ x, x < n -> l (l x) = l x
  eq : ∀ x y, E x y -> l x = l y
  con : ∀ P : Nat -> Prop, (∀ x y, E x y -> (P x ↔ P y)) -> ∀ x, x < n -> (P x ↔ P (l x))
theorem UF.congr {n : Nat} {E E' : Nat -> Nat -> Prop} {l : Nat -> Nat} (u : UF n E l) (h : ∀ x y, E x y ↔ E' x y) : UF n E' l:=
  ⟨u.lt, u.le, u.id, λx y e=>u.eq x y ((h x y).mpr e), λP hP=>u.con P λx y e=>hP x y ((h x y).mp e)⟩
theorem UF.join {n : Nat} {E : Nat -> Nat -> Prop} {l : Nat -> Nat} (u : UF n E l) {a c : Nat} (ha : a < n) (hc : c < n) : UF n (λx y=>E x y ∨ (x = a /\ y = c)) (jn l (l a) (l c)):=by
  have la:=u.lt a ha
  have lc:=u.lt c hc
  have ia:=u.id a ha
  have ic:=u.id c hc
  have hm : min (l a) (l c) = l a ∨ min (l a) (l c) = l c:=by omega
  have hlow : l (min (l a) (l c)) = min (l a) (l c):=by rcases hm with h | h <;> rw [h] <;> assumption
  refine ⟨λx hx=>?_, λx hx=>?_, λx hx=>?_, λx y e=>?_, λP hP x hx=>?_⟩
  . unfold jn; split
    . omega
    . exact u.lt x hx
  . have := u.le x hx
    unfold jn; split <;> omega
  . by_cases h : l x = l a ∨ l x = l c
    . have e1 : jn l (l a) (l c) x = min (l a) (l c) := if_pos h
      rw [e1]
      exact if_pos (by rw [hlow]; exact hm)
    . have e1 : jn l (l a) (l c) x = l x := if_neg h
      rw [e1]
      show (if l (l x) = l a ∨ l (l x) = l c then _ else _) = _
      rw [u.id x hx, if_neg h]
  . rcases e with e | ⟨rfl, rfl⟩
    . unfold jn; rw [u.eq x y e]
    . unfold jn; rw [if_pos (.inl rfl), if_pos (.inr rfl)]
  . have hE := u.con P λx y e => hP x y (.inl e)
    have h1:=hE a ha
    have h2:=hE c hc
    have h3:=hP a c (.inr ⟨rfl, rfl⟩)
    have h4 : P (l a) ↔ P (l c):=h1.symm.trans (h3.trans h2)
    have h5:=hE x hx
    unfold jn
    split
    . rename_i h
      rcases h with h | h <;> rcases hm with k | k <;> rw [k] <;> rw [h] at h5
      . exact h5
      . exact h5.trans h4
      . exact h5.trans h4.symm
      . exact h5
    . exact h5
section
variable {n : Nat} {g : Nat -> Nat -> Nat}
noncomputable def Lk (n : Nat) (g : Nat -> Nat -> Nat) (x y : Nat) : Prop:=x < n /\ ∃ b, b < n /\ y = g x b
theorem QS {α : Type} {as : List α} {i : Nat} {p : Int × α} (h : (Yl as)[i]? = some p) : p.1 = (i : Int) /\ as[i]? = some p.2:=by
  unfold Yl at h
  rw [List.getElem?_zip_eq_some] at h
  obtain ⟨h1, h2⟩:=h
  have hi : i < as.length:=(List.getElem?_eq_some_iff.mp h2).1
  rw [List.getElem?_map, List.getElem?_range hi] at h1
  exact ⟨(Option.some.inj h1).symm, h2⟩
theorem Qj {α : Type} {as : List α} : (Yl as).length = as.length:=by unfold Yl; simp
theorem Uy {a b : Nat} {x : Int} (h : (Yb n g a)[b]? = some x) : b < n /\ x = ((g a b : Nat) : Int):=by
  have hb : b < n:=by have:=(List.getElem?_eq_some_iff.mp h).1; rwa [Xv] at this
  rw [YI hb] at h
  exact ⟨hb, (Option.some.inj h).symm⟩
theorem Uf {a : Nat} {r : List Int} (h : (XA n g)[a]? = some r) : a < n /\ r = Yb n g a:=by
  have ha : a < n:=by have:=(List.getElem?_eq_some_iff.mp h).1; rwa [Xj] at this
  rw [Zn ha] at h
  exact ⟨ha, (Option.some.inj h).symm⟩
noncomputable def cls (n : Nat) (m : Nat -> Nat) (v : Int) : List Int:=((List.range n).filter λx=>decide (((m x : Nat) : Int) = v)).map λ(x : Nat)=>(x : Int)
theorem Gw {α β : Type} {p : α -> Rs Bool} {f : α -> Rs β} {q : α -> Bool} {h : α -> β} {as : List α} (hl : as.length <= sizeLine) (hp : ∀ a ∈ as, p a = .ok (q a)) (hf : ∀ a ∈ as, f a = .ok (h a)) : Ex as p f = .ok ((as.filter q).map h):=HH hl hp λa ha _=>hf a ha
theorem Fk {m : Nat -> Nat} {v : Int} (hn : n <= 1000) : Yq (lst n m) v = .ok (cls n m v):=by
  unfold Yq
  simp only [Rs.okb]
  have e0 : Ex (Yl (lst n m)) (λa3=>Rs.ok (decide (a3.2 = v))) (λa3=>Rs.ok a3.1) = .ok (((Yl (lst n m)).filter λa=>decide (a.2 = v)).map λa=>a.1):=Gw (sz (by rw [Qj, Y6]; omega)) (λ_ _=>rfl) (λ_ _=>rfl)
  rw [e0]
  unfold cls
  have e : Yl (lst n m) = (List.range n).map λ(x : Nat)=>((x : Int), ((m x : Nat) : Int)):=by
    apply List.ext_getElem?
    intro i
    by_cases hi : i < n
    . obtain ⟨p, hp⟩ : ∃ p, (Yl (lst n m))[i]? = some p := ⟨_, List.getElem?_eq_getElem (by rw [Qj, Y6]; exact hi)⟩
      obtain ⟨h1, h2⟩:=QS hp
      have h3 : (lst n m)[i]? = some ((m i : Nat) : Int):=YI hi
      rw [h3] at h2
      rw [hp, List.getElem?_map, List.getElem?_range hi]
      refine congrArg some (Prod.ext h1 (Option.some.inj h2).symm)
    . rw [List.getElem?_eq_none (by rw [Qj, Y6]; omega), List.getElem?_eq_none (by simp; omega)]
  rw [e, List.filter_map, List.map_map]
  rfl
theorem LP (hn : n <= 1000) (hg : ∀ a b, a < n -> b < n -> g a b < n) : Ok (forN (Yl (XA n g)) (lst n λx=>x) (λg8 a10=>(Rs.bind (forN a10.2 g8 (λg14 a16=>(Rs.bind (Rs.bind (atR g14 a10.1) λx26=>(Rs.bind (atR g14 a16) λx27=>(noE (Zk g14 x26 x27)))) λa18=>(Rs.ok a18)))) λg28=>(Rs.ok g28)))) λr=>∃ m, r = lst n m /\ UF n (Lk n g) m:=by
  have:=Ok.forN (as:=Yl (XA n g)) (g:=lst n λx=>x) (f:=λg8 a10=>(Rs.bind (forN a10.2 g8 (λg14 a16=>(Rs.bind (Rs.bind (atR g14 a10.1) λx26=>(Rs.bind (atR g14 a16) λx27=>(noE (Zk g14 x26 x27)))) λa18=>(Rs.ok a18)))) λg28=>(Rs.ok g28)))
    (λi r=>∃ m, r = lst n m /\ UF n (λx y=>x < i /\ Lk n g x y) m) ⟨λx=>x, rfl, λx hx=>hx, λx _=>Nat.le_refl _, λx _=>rfl, λx y e=>absurd e.1 (Nat.not_lt_zero _), λP _ x _=>Iff.rfl⟩ ?_
  . obtain ⟨r, e, m, h1, h2⟩ := this
    refine ⟨r, e, m, h1, h2.congr λx y=>?_⟩
    rw [Qj, Xj]
    exact ⟨λh=>h.2, λh=>⟨h.1, h⟩⟩
  . rintro i p r hp ⟨m, rfl, u⟩
    obtain ⟨h1, h2⟩:=QS hp
    obtain ⟨hi, h3⟩:=Uf h2
    rw [h1, h3]
    have:=Ok.forN (as:=Yb n g i) (g:=lst n m) (f:=λg14 a16=>(Rs.bind (Rs.bind (atR g14 (i : Int)) λx26=>(Rs.bind (atR g14 a16) λx27=>(noE (Zk g14 x26 x27)))) λa18=>(Rs.ok a18)))
      (λj r=>∃ m, r = lst n m /\ UF n (λx y=>(x < i /\ Lk n g x y) ∨ (x = i /\ ∃ b, b < j /\ b < n /\ y = g i b)) m) ⟨m, rfl, u.congr λx y=>⟨.inl, λh=>h.elim (λz=>z) λr9=>by obtain ⟨_, b, hb, _⟩:=r9; exact absurd hb (Nat.not_lt_zero _)⟩⟩ ?_
    . refine Ok.bind this λr hr => ?_
      obtain ⟨m', rfl, u'⟩:=hr
      refine ⟨_, rfl, m', rfl, u'.congr λx y=>?_⟩
      rw [Xv]
      constructor
      . rintro (⟨h, k⟩ | ⟨rfl, b, hb, _, rfl⟩)
        . exact ⟨by omega, k⟩
        . exact ⟨by omega, hi, b, hb, rfl⟩
      . rintro ⟨h, k, b, hb, rfl⟩
        by_cases hx : x = i
        . subst hx; exact .inr ⟨rfl, b, hb, hb, rfl⟩
        . exact .inl ⟨by omega, k, b, hb, rfl⟩
    . rintro j x r hx ⟨m, rfl, u⟩
      obtain ⟨hj, rfl⟩:=Uy hx
      have hc:=hg i j hi hj
      rw [KC hi, Rs.okb, KC hc, Rs.okb, Yc (Dl hn), Rs.okb]
      refine ⟨_, rfl, _, rfl, (u.join hi hc).congr λx y=>?_⟩
      constructor
      . rintro ((h | ⟨h, b, hb, k⟩) | ⟨rfl, rfl⟩)
        . exact .inl h
        . exact .inr ⟨h, b, by omega, k⟩
        . exact .inr ⟨rfl, j, by omega, hj, rfl⟩
      . rintro (h | ⟨h, b, hb, hbn, rfl⟩)
        . exact .inl (.inl h)
        . by_cases hbj : b = j
          . subst hbj; exact .inr ⟨h, rfl⟩
          . exact .inl (.inr ⟨h, b, by omega, hbn, rfl⟩)
end
section
variable {n : Nat} {g : Nat -> Nat -> Nat} {m : Nat -> Nat}
noncomputable def rl (L : Nat -> Nat) (a c : Nat) : Nat -> Nat:=λx=>if x = a ∨ x = c then min (L a) (L c) else L x
structure LK (n : Nat) (m L : Nat -> Nat) : Prop where
  lt : ∀ x, x < n -> L x < n
  cl : ∀ x, x < n -> m (L x) = m x
  ok : ∀ x, x < n -> L (m x) = m x
theorem LK.ge (u : UF n (Lk n g) m) {L : Nat -> Nat} (k : LK n m L) {x : Nat} (hx : x < n) : m x <= L x:=by
  rw [← k.cl x hx]; exact u.le _ (k.lt x hx)
theorem LK.step (u : UF n (Lk n g) m) {L : Nat -> Nat} (k : LK n m L) {a c : Nat} (ha : a < n) (hc : c < n) (e : m a = m c) :
    LK n m (rl L a c) /\ (∀ x, x < n -> L x = m x -> rl L a c x = m x) /\ ((L a = m a ∨ L c = m c) -> rl L a c a = m a /\ rl L a c c = m c):=by
  have hm : min (L a) (L c) = L a ∨ min (L a) (L c) = L c:=by omega
  have ga:=k.ge u ha
  have gc:=k.ge u hc
  have keep : ∀ x, x < n -> L x = m x -> rl L a c x = m x:=λx hx h=>by
    unfold rl
    split
    . rename_i z
      rcases z with rfl | rfl <;> omega
    . exact h
  refine ⟨⟨λx hx=>?_, λx hx=>?_, λx hx=>(keep _ (u.lt x hx) (by rw [u.id x hx]; exact k.ok x hx)).trans (u.id x hx)⟩, keep, λh=>?_⟩
  . unfold rl; split
    . have := k.lt a ha
      omega
    . exact k.lt x hx
  . unfold rl; split
    . rename_i z
      have e1:=k.cl a ha
      have e2:=k.cl c hc
      rcases z with rfl | rfl <;> rcases hm with h | h <;> rw [h] <;> omega
    . exact k.cl x hx
  . unfold rl
    rw [if_pos (.inl rfl), if_pos (.inr rfl)]
    omega
noncomputable def cnt (n : Nat) (m L : Nat -> Nat) : List Nat:=(List.range n).filter λx=>decide (L x = m x)
theorem J3 {L : Nat -> Nat} {x : Nat} : x ∈ cnt n m L ↔ x < n /\ L x = m x:=by unfold cnt; simp
theorem Ik {L : Nat -> Nat} : (cnt n m L).Nodup:=List.nodup_range.filter _
structure Rd1 (n : Nat) (g : Nat -> Nat -> Nat) (m L L1 : Nat -> Nat) : Prop where
  lk : LK n m L1
  keep : ∀ x, x < n -> L x = m x -> L1 x = m x
  go : ∀ x y, Lk n g x y -> (L x = m x ∨ L y = m y) -> L1 x = m x /\ L1 y = m y
theorem BW {l k : List Nat} (h : l.Nodup) (hs : ∀ x ∈ l, x ∈ k) : l.length <= k.length:=by
  induction l generalizing k with
  | nil=>exact Nat.zero_le _
  | cons x l ih=>
    have hx:=hs x (.head _)
    have h2:=List.nodup_cons.mp h
    have:=ih (k:=k.erase x) h2.2 λy hy=>(List.mem_erase_of_ne λe=>h2.1 (by rw [← e]; exact hy)).mpr (hs y (.tail _ hy))
    rw [List.length_erase_of_mem hx] at this
    have:=List.length_pos_of_mem hx
    rw [List.length_cons]
    omega
theorem Fr (u : UF n (Lk n g) m) (hg : ∀ a b, a < n -> b < n -> g a b < n) {L L1 : Nat -> Nat} (k : LK n m L) (r : Rd1 n g m L L1) {j : Nat} (h : (∀ x, x < n -> L x = m x) ∨ j <= (cnt n m L).length) : (∀ x, x < n -> L1 x = m x) ∨ j + 1 <= (cnt n m L1).length:=by
  by_cases hall : ∀ x, x < n -> L x = m x
  . exact .inl λx hx=>r.keep x hx (hall x hx)
  . have hj := h.resolve_left hall
    by_cases hinv : ∀ x y, Lk n g x y -> (L x = m x ↔ L y = m y)
    . exact absurd (λx hx=>(u.con (λx=>L x = m x) hinv x hx).mpr (by rw [u.id x hx]; exact k.ok x hx)) hall
    . right
      obtain ⟨x, hx⟩:=Classical.not_forall.mp hinv
      obtain ⟨y, hy⟩:=Classical.not_forall.mp hx
      obtain ⟨hl, hne⟩:=Classical.not_imp.mp hy
      have hxn : x < n:=hl.1
      have hyn : y < n:=by obtain ⟨h1, b, hb, rfl⟩:=hl; exact hg x b h1 hb
      have hnew : ∃ z, z < n /\ L z ≠ m z /\ L1 z = m z:=by
        by_cases h1 : L x = m x
        . exact ⟨y, hyn, λh2=>hne ⟨λ_=>h2, λ_=>h1⟩, (r.go x y hl (.inl h1)).2⟩
        . by_cases h2 : L y = m y
          . exact ⟨x, hxn, h1, (r.go x y hl (.inr h2)).1⟩
          . exact absurd ⟨λh=>absurd h h1, λh=>absurd h h2⟩ hne
      obtain ⟨z, hz, z1, z2⟩:=hnew
      have:=BW (l:=z :: cnt n m L) (k:=cnt n m L1) (List.nodup_cons.mpr ⟨λhm=>z1 (J3.mp hm).2, Ik⟩) λw hw=>by
        rcases List.mem_cons.mp hw with e | e
        . rw [e]; exact J3.mpr ⟨hz, z2⟩
        . obtain ⟨w1, w2⟩ := J3.mp e
          exact J3.mpr ⟨w1, r.keep w w1 w2⟩
      rw [List.length_cons] at this
      omega
theorem Ea {L : Nat -> Nat} {a c : Nat} (ha : a < n) (hc : c < n) : ((lst n L).set a ((min (L a) (L c) : Nat) : Int)).set c ((min (L a) (L c) : Nat) : Int) = lst n (rl L a c):=by
  apply List.ext_getElem?
  intro i
  by_cases hi : i < n
  . have e : (lst n (rl L a c))[i]? = some ((rl L a c i : Nat) : Int) := YI hi
    have e0 : (lst n L)[i]? = some ((L i : Nat) : Int):=YI hi
    rw [e]
    unfold rl
    by_cases h1 : i = c
    . subst h1
      rw [List.getElem?_set_self (by rw [List.length_set, Y6]; exact hi), if_pos (.inr rfl)]
    . rw [List.getElem?_set_ne (λz => h1 z.symm)]
      by_cases h2 : i = a
      . subst h2
        rw [List.getElem?_set_self (by rw [Y6]; exact hi), if_pos (.inl rfl)]
      . rw [List.getElem?_set_ne (λz=>h2 z.symm), e0, if_neg (by omega)]
  . rw [List.getElem?_eq_none (by rw [List.length_set, List.length_set, Y6]; omega), List.getElem?_eq_none (by rw [Y6]; omega)]
theorem B5 (hn : n <= 1000) (u : UF n (Lk n g) m) (hg : ∀ a b, a < n -> b < n -> g a b < n) {L : Nat -> Nat} (k : LK n m L) :
    Ok (forN ((List.range n).map λ(i : Nat)=>(i : Int)) (lst n L) (λg18 a20=>(Rs.bind (atR (XA n g) a20) λx48=>(Rs.bind (forN x48 g18 (λg26 a28=>(Rs.bind (Rs.bind (atR g26 a20) λx36=>(Rs.bind (atR g26 a28) λx37=>(Rs.ok (min x36 x37)))) λa30=>(Rs.bind (QA g26 a20 a30) λa40=>(Rs.bind (QA a40 a28 a30) λa44=>(Rs.ok a44)))))) λg46=>(Rs.ok g46)))))
      λr=>∃ L1, r = lst n L1 /\ Rd1 n g m L L1:=by
  have:=Ok.forN (as:=(List.range n).map λ(i : Nat)=>(i : Int)) (g:=lst n L) (f:=λg18 a20=>(Rs.bind (atR (XA n g) a20) λx48=>(Rs.bind (forN x48 g18 (λg26 a28=>(Rs.bind (Rs.bind (atR g26 a20) λx36=>(Rs.bind (atR g26 a28) λx37=>(Rs.ok (min x36 x37)))) λa30=>(Rs.bind (QA g26 a20 a30) λa40=>(Rs.bind (QA a40 a28 a30) λa44=>(Rs.ok a44)))))) λg46=>(Rs.ok g46))))
    (λi r=>∃ L1, r = lst n L1 /\ LK n m L1 /\ (∀ x, x < n -> L x = m x -> L1 x = m x) /\ ∀ x y, x < i -> Lk n g x y -> (L x = m x ∨ L y = m y) -> L1 x = m x /\ L1 y = m y) ⟨L, rfl, k, λ_ _ h=>h, λx y h=>absurd h (Nat.not_lt_zero _)⟩ ?_
  . obtain ⟨r, e, L1, h1, h2, h3, h4⟩ := this
    refine ⟨r, e, L1, h1, h2, h3, λx y hl=>h4 x y ?_ hl⟩
    rw [List.length_map, List.length_range]
    exact hl.1
  . rintro i x r hx ⟨L1, rfl, k1, h3, h4⟩
    have hi : i < n:=by have:=(List.getElem?_eq_some_iff.mp hx).1; simpa using this
    rw [List.getElem?_map, List.getElem?_range hi] at hx
    obtain rfl : (i : Int) = x:=Option.some.inj hx
    rw [Zs hi, Rs.okb]
    have:=Ok.forN (as:=Yb n g i) (g:=lst n L1) (f:=λg26 a28=>(Rs.bind (Rs.bind (atR g26 (i : Int)) λx36=>(Rs.bind (atR g26 a28) λx37=>(Rs.ok (min x36 x37)))) λa30=>(Rs.bind (QA g26 (i : Int) a30) λa40=>(Rs.bind (QA a40 a28 a30) λa44=>(Rs.ok a44)))))
      (λj r=>∃ L2, r = lst n L2 /\ LK n m L2 /\ (∀ x, x < n -> L1 x = m x -> L2 x = m x) /\ ∀ b, b < j -> b < n -> (L1 i = m i ∨ L1 (g i b) = m (g i b)) -> L2 i = m i /\ L2 (g i b) = m (g i b)) ⟨L1, rfl, k1, λ_ _ h=>h, λb h=>absurd h (Nat.not_lt_zero _)⟩ ?_
    . refine Ok.bind this λr hr => ?_
      obtain ⟨L2, rfl, k2, j3, j4⟩:=hr
      refine ⟨_, rfl, L2, rfl, k2, λx hx h=>j3 x hx (h3 x hx h), λx y hxi hl h=>?_⟩
      by_cases hxe : x = i
      . subst hxe
        obtain ⟨_, b, hb, rfl⟩:=hl
        refine j4 b (by rw [Xv]; exact hb) hb ?_
        rcases h with h | h
        . exact .inl (h3 x hi h)
        . exact .inr (h3 _ (hg x b hi hb) h)
      . have := h4 x y (by omega) hl h
        have hy : y < n:=by obtain ⟨h1, b, hb, rfl⟩:=hl; exact hg x b h1 hb
        exact ⟨j3 x hl.1 this.1, j3 y hy this.2⟩
    . rintro j x r hx ⟨L2, rfl, k2, j3, j4⟩
      obtain ⟨hj, rfl⟩:=Uy hx
      have hc:=hg i j hi hj
      obtain ⟨s1, s2, s3⟩:=k2.step u hi hc (u.eq i (g i j) ⟨hi, j, hj, rfl⟩)
      have em : min ((L2 i : Nat) : Int) ((L2 (g i j) : Nat) : Int) = ((min (L2 i) (L2 (g i j)) : Nat) : Int):=by omega
      rw [KC hi, Rs.okb, KC hc, Rs.okb, Rs.okb, em, Jh (by rw [Y6]; exact hi), Rs.okb, Jh (by rw [List.length_set, Y6]; exact hc), Rs.okb, Ea hi hc]
      refine ⟨_, rfl, _, rfl, s1, λx hx h=>s2 x hx (j3 x hx h), λb hb hbn h=>?_⟩
      by_cases hbj : b = j
      . subst hbj
        refine s3 ?_
        rcases h with h | h
        . exact .inl (j3 i hi h)
        . exact .inr (j3 _ hc h)
      . have := j4 b (by omega) hbn h
        exact ⟨s2 i hi this.1, s2 _ (hg i b hi hbn) this.2⟩
end
theorem Vl {α β : Type} {f : List β -> α -> Rs (List β)} {p : α -> Bool} {h : α -> β} : ∀ {as : List α} {g : List β}, g.length + as.length <= sizeLine -> (∀ g : List β, g.length < sizeLine -> ∀ a ∈ as, f g a = .ok (if p a = true then g ++ [h a] else g)) -> forN as g f = .ok (g ++ (as.filter p).map h)
  | [], g, _, _=>by rw [List.filter_nil, List.map_nil, List.append_nil]; rfl
  | a :: as, g, hl, hf=>by
    rw [List.length_cons] at hl
    show (f g a).bind _ = _
    rw [hf g (by omega) a (.head _), Rs.okb]
    have hrest : ∀ g : List β, g.length < sizeLine -> ∀ b ∈ as, f g b = .ok (if p b = true then g ++ [h b] else g):=λg hg b hb=>hf g hg b (.tail _ hb)
    cases hp : p a with
    | true=>
      rw [if_pos rfl, Vl (by simp; omega) hrest, List.filter_cons_of_pos hp, List.map_cons, List.append_assoc]
      rfl
    | false=>
      rw [if_neg Bool.false_ne_true, Vl (by omega) hrest, List.filter_cons_of_neg (by rw [hp]; exact Bool.false_ne_true)]
theorem Yp (n : Nat) : X6 0 (n : Int) = lst n λx=>x:=by
  unfold X6
  rw [show ((n : Int) - 0).toNat = n by omega, Qd]
  exact List.map_congr_left λi _=>Int.zero_add _
section
variable {n : Nat} {g : Nat -> Nat -> Nat} {m : Nat -> Nat}
noncomputable def Vf (n : Nat) (m : Nat -> Nat) : List Int:=((List.range n).map λ(i : Nat)=>(i : Int)).filter λv=>decide (0 < (cls n m v).length)
theorem Hf {v : Int} : 0 < (cls n m v).length ↔ ∃ x, x < n /\ ((m x : Nat) : Int) = v:=by
  unfold cls
  rw [List.length_map]
  constructor
  . intro h
    obtain ⟨x, hx⟩:=List.exists_mem_of_length_pos h
    have:=List.mem_filter.mp hx
    exact ⟨x, List.mem_range.mp this.1, of_decide_eq_true this.2⟩
  . rintro ⟨x, hx, e⟩
    exact List.length_pos_of_mem (List.mem_filter.mpr ⟨List.mem_range.mpr hx, decide_eq_true e⟩)
theorem BD (hm : ∀ x, x < n -> m x < n) : Y3 (dd (lst n m)) = Vf n m:=by
  have hnd : ((List.range n).map λ(i : Nat)=>(i : Int)).Nodup:=List.Pairwise.map _ (λa b h e=>h (Int.ofNat.inj e)) List.nodup_range
  refine (QG ?_ ?_).symm
  . refine (List.perm_ext_iff_of_nodup (hnd.filter _) (GM _ _ List.nodup_nil)).mpr λv => ?_
    rw [El, List.mem_filter, decide_eq_true_iff, Hf, Qd, List.mem_map, List.mem_map]
    simp only [List.not_mem_nil, false_or]
    constructor
    . rintro ⟨_, x, hx, e⟩; exact ⟨x, List.mem_range.mpr hx, e⟩
    . rintro ⟨x, hx, e⟩
      have hx:=List.mem_range.mp hx
      exact ⟨⟨m x, List.mem_range.mpr (hm x hx), e⟩, x, hx, e⟩
  . refine List.Pairwise.filter _ ?_
    exact List.Pairwise.map _ (λa b h=>Int.ofNat_le.mpr (Nat.le_of_lt h)) List.pairwise_lt_range
theorem Q3 (h24 : n <= 24) (hg : ∀ a b, a < n -> b < n -> g a b < n) : ∃ m, UF n (Lk n g) m /\ YD (XA n g) = .ok ((Vf n m).map (cls n m)):=by
  obtain ⟨r, e, m, rfl, u⟩:=LP (by omega) hg
  refine ⟨m, u, ?_⟩
  unfold YD
  simp only [Rs.okb]
  rw [Xj, XL (by omega), Rs.okb, Yp]
  rw [e, Rs.okb, Y6, XL (by omega), Rs.okb, BD u.lt]
  refine Y0 (sz ?_) λv _=>Yc (Fk (by omega))
  refine Nat.le_trans (List.length_filter_le ..) ?_
  simp
  omega
theorem Bf {v : Int} (hn : n <= 1000) : Ex ((List.range n).map λ(i : Nat)=>(i : Int)) (λa71=>(Rs.bind (atR (lst n m) a71) λx76=>Rs.ok (decide (x76 = v)))) (λa71=>Rs.ok a71) = .ok (cls n m v):=by
  rw [Gw (q:=λa=>decide (((m a.toNat : Nat) : Int) = v)) (h:=λa=>a) (sz (by simp; omega)) (λa ha=>?_) (λ_ _=>rfl), List.map_id', List.filter_map]
  . rfl
  . obtain ⟨i, hi, rfl⟩ := Ym ha
    rw [KC hi, Rs.okb]
    rfl
theorem DN (h24 : n <= 24) (h0 : 0 < n) (hg : ∀ a b, a < n -> b < n -> g a b < n) (u : UF n (Lk n g) m) : Ql (XA n g) = .ok ((Vf n m).map (cls n m)):=by
  unfold Ql
  simp only [Rs.okb]
  rw [Xj, XL (by omega), Rs.okb, Yp, Qo (by omega), Rs.okb]
  have hR:=Ok.forN (as:=(List.range n).map λ(i : Nat)=>(i : Int)) (g:=lst n λx=>x) (f:=λg10 _=>(Rs.bind (Rs.ok ((List.range n).map λ(i : Nat)=>(i : Int))) λx51=>(Rs.bind (forN x51 g10 (λg18 a20=>(Rs.bind (atR (XA n g) a20) λx48=>(Rs.bind (forN x48 g18 (λg26 a28=>(Rs.bind (Rs.bind (atR g26 a20) λx36=>(Rs.bind (atR g26 a28) λx37=>(Rs.ok (min x36 x37)))) λa30=>(Rs.bind (QA g26 a20 a30) λa40=>(Rs.bind (QA a40 a28 a30) λa44=>(Rs.ok a44)))))) λg46=>(Rs.ok g46))))) λg49=>(Rs.ok g49))))
    (λi r=>∃ L, r = lst n L /\ LK n m L /\ ((∀ x, x < n -> L x = m x) ∨ i + 1 <= (cnt n m L).length)) ⟨λx=>x, rfl, ⟨λx hx=>hx, λx _=>rfl, λx _=>rfl⟩, .inr (List.length_pos_of_mem (J3.mpr ⟨h0, by have:=u.le 0 h0; omega⟩))⟩ (λi x r _ hr=>by
      obtain ⟨L, rfl, k, hc⟩:=hr
      rw [Rs.okb]
      refine Ok.bind (B5 (by omega) u hg k) λr hr=>?_
      obtain ⟨L1, rfl, q⟩:=hr
      exact ⟨_, rfl, L1, rfl, q.lk, Fr u hg k q hc⟩)
  obtain ⟨r, e, L, rfl, _, hc⟩:=hR
  rw [e, Rs.okb]
  have hL : ∀ x, x < n -> L x = m x:=by
    rcases hc with h | h
    . exact h
    . have h1 : (cnt n m L).length <= n:=by
        have:=List.length_filter_le (λx=>decide (L x = m x)) (List.range n)
        rw [List.length_range] at this
        exact this
      rw [List.length_map, List.length_range] at h
      omega
  rw [Dr hL, Rs.okb]
  rw [Vl (p:=λv=>decide (0 < (cls n m v).length)) (h:=cls n m) (by simp; exact sz (by omega)) λr hr v hv=>?_, Rs.okb, List.nil_append]
  . rfl
  . rw [Rs.okb, Bf (by omega), Rs.okb]
    by_cases hp : 0 < (cls n m v).length
    . rw [decide_eq_true (show (0 : Int) < ((cls n m v).length : Int) by omega), if_pos rfl, XL hr, Rs.okb, if_pos (decide_eq_true hp)]
    . rw [decide_eq_false (show ¬ (0 : Int) < ((cls n m v).length : Int) by omega), if_neg Bool.false_ne_true, Rs.okb, if_neg (by simpa using hp)]
end
theorem Ks {a b : Int} (h : b <= a) : X2 a b = .ok ():=by
  unfold X2
  simp only [Rs.okb]
  rw [if_neg (show ¬ decide (a < b) = true by simpa using h)]
section
variable {n m : Nat} {f g : Nat -> Nat -> Nat}
theorem Eu {a : Int} {k : Nat} (h : k <= 1000) : Bp [a] (k : Int) = .ok (List.replicate k a):=by
  unfold Bp
  rw [XL ⟨by omega, by omega, by simpa using sz (by omega)⟩, Int.toNat_natCast]
  congr 1
  induction k with
  | zero=>rfl
  | succ k ih=>rw [List.replicate_succ, List.flatten_cons, ih (by omega)]; rfl
theorem Ef {as bs : List Int} (h : as.length + bs.length <= 100000) : Bc as bs = .ok (as ++ bs):=XL (sz h)
theorem Ew {α : Type} {as : List α} {p : Int × α} (h : p ∈ Yl as) : ∃ i : Nat, i < as.length /\ p.1 = (i : Int) /\ as[i]? = some p.2:=by
  obtain ⟨i, hi⟩:=List.mem_iff_getElem?.mp h
  obtain ⟨h1, h2⟩:=Kx hi
  exact ⟨i, (List.getElem?_eq_some_iff.mp h2).1, h1, h2⟩
theorem Db {α : Type} (as : List α) : (Yl as).length = as.length:=by
  unfold Yl
  simp
theorem EG {n : Nat} {f : Nat -> Nat -> Nat} {β : Type} {h : Int × List Int -> β} : (Yl (XA n f)).map h = (List.range n).map λ(i : Nat)=>h ((i : Int), Yb n f i):=by
  apply List.ext_getElem?
  intro i
  rw [List.getElem?_map, List.getElem?_map]
  by_cases hi : i < n
  . rw [List.getElem?_range hi, show (Yl (XA n f))[i]? = some ((i : Int), Yb n f i) by
      unfold Yl
      rw [Xj, List.getElem?_zip_eq_some]
      exact ⟨by rw [List.getElem?_map, List.getElem?_range hi]; rfl, Zn hi⟩]
    rfl
  . rw [List.getElem?_eq_none (by rw [Db, Xj]; omega), List.getElem?_eq_none (by simp; omega)]
    rfl
theorem Um (h : n + m <= 24) : ZZ (XA n f) (XA m g) = .ok (XA (n + m) (Yt n f g)):=by
  unfold ZZ
  simp only [Rs.okb]
  rw [Xj, Xj, Yc (Ks (by omega)), Rs.okb]
  rw [Y0 (h:=λa17=>a17.2 ++ List.replicate m a17.1) (by rw [Db, Xj]; exact sz (by omega))]
  . rw [Rs.okb]
    rw [Q2 (h:=λa32=>List.replicate n ((n : Int) + a32.1) ++ a32.2.map λa44=>(n : Int) + a44) (by simp [Db, Xj]; exact sz (by omega))]
    . rw [Rs.okb, EG, EG]
      congr 1
      unfold XA
      rw [List.range_add, List.map_append, List.map_map]
      congr 1
      . refine List.map_congr_left λa ha => ?_
        have ha:=List.mem_range.mp ha
        show Yb n f a ++ List.replicate m (a : Int) = _
        unfold Yb
        rw [List.range_add, List.map_append, List.map_map]
        congr 1
        . refine List.map_congr_left λb hb => ?_
          have hb:=List.mem_range.mp hb
          show ((f a b : Nat) : Int) = _
          unfold Yt
          rw [if_pos ⟨ha, hb⟩]
        . apply List.ext_getElem
          . simp
          intro i h1 h2
          simp only [List.getElem_replicate, List.getElem_map, List.getElem_range, Function.comp_apply]
          unfold Yt
          rw [if_neg (by omega), if_neg (by omega)]
      . refine List.map_congr_left λa ha => ?_
        have ha:=List.mem_range.mp ha
        show List.replicate n ((n : Int) + (a : Int)) ++ (Yb m g a).map _ = Yb (n + m) (Yt n f g) (n + a)
        unfold Yb
        rw [List.range_add, List.map_append, List.map_map, List.map_map]
        congr 1
        . apply List.ext_getElem
          . simp
          intro i h1 h2
          have hi : i < n:=by simpa using h1
          simp only [List.getElem_replicate, List.getElem_map, List.getElem_range]
          unfold Yt
          rw [if_neg (by omega), if_neg (by omega)]
          push_cast
          rfl
        . refine List.map_congr_left λb hb => ?_
          simp only [Function.comp_apply]
          unfold Yt
          rw [if_neg (by omega), if_pos (by omega), Nat.add_sub_cancel_left, Nat.add_sub_cancel_left]
          push_cast
          rfl
    . intro acc hacc a ha
      obtain ⟨i, hi, h1, h2⟩:=Ew ha
      obtain ⟨hi', hr⟩:=JR h2
      rw [XL (sz (by simp)), Rs.okb, Eu (by omega), Rs.okb, hr, Y0 (h:=λa44=>(n : Int) + a44) (by rw [Xv]; exact sz (by omega)) λ_ _=>rfl, Rs.okb]
      rw [Ef (by simp [Xv]; omega), Rs.okb, XL hacc]
  . intro a ha
    obtain ⟨i, hi, h1, h2⟩:=Ew ha
    obtain ⟨hi', hr⟩:=JR h2
    rw [XL (sz (by simp)), Rs.okb, Eu (by omega), Rs.okb, hr, Ef (by simp [Xv]; omega)]
end
noncomputable def prF (m : Nat) (f g : Nat -> Nat -> Nat) (x y : Nat) : Nat:=f (x / m) (y / m) * m + g (x % m) (y % m)
section
variable {n m : Nat} {f g : Nat -> Nat -> Nat}
theorem BP (hm : 0 < m) (hm2 : m <= 24) (hn : n <= 24) (hf : ∀ a b, a < n -> b < n -> f a b < n) (N : Nat) {i j : Nat} (hi : i < n) (hj : j < m) : Yi (Yb n f i) (Yb m g j) = .ok ((List.range (n * m)).map λy=>(prF m f g (i * m + j) y : Int)):=by
  unfold Yi
  simp only [Rs.okb]
  have step:=QN (f:=λ(g6 : List Int) (a8 : Int)=>((QJ (Yb m g j) λa11=>(VG a8 ((Yb m g j).length : Int)).bind λx17=>.ok (x17 + a11)).bind λa19=>chk (g6.length + a19.length <= sizeLine) ((λa21=>.ok a21) (g6 ++ a19))))
    (λk acc=>acc = (List.range (k * m)).map λy=>(prF m f g (i * m + j) y : Int)) (as:=Yb n f i) (g:=[]) (by simp) (by
    intro k c acc hc hacc
    obtain ⟨hk, hv⟩:=B1 hc
    have hlt:=hf i k hi hk
    refine ⟨_, ?_, rfl⟩
    rw [Y0 (h:=λa11=>c * (m : Int) + a11) (by rw [Xv]; exact sz (by omega)) λa _=>by
      rw [Xv, Jr (by rw [hv]; omega) (by rw [hv]; omega)]; rfl, Rs.okb]
    rw [XL (by rw [hacc]; simp only [List.length_map, List.length_range, Xv]; exact sz (by have:=Nat.mul_le_mul (Nat.le_of_lt (Nat.lt_of_lt_of_le hk hn)) hm2; omega))]
    show Rs.ok _ = _
    congr 1
    rw [hacc, Nat.succ_mul, List.range_add, List.map_append]
    congr 1
    unfold Yb
    rw [List.map_map, List.map_map]
    refine List.map_congr_left λb hb=>?_
    have hb' : b < m:=List.mem_range.mp hb
    simp only [Function.comp_apply]
    unfold prF
    have e1 : (k * m + b) / m = k:=by rw [Nat.mul_comm, Nat.mul_add_div hm, Nat.div_eq_of_lt hb']; omega
    have e2 : (k * m + b) % m = b:=by rw [Nat.mul_comm, Nat.mul_add_mod, Nat.mod_eq_of_lt hb']
    have e3 : (i * m + j) / m = i:=by rw [Nat.mul_comm, Nat.mul_add_div hm, Nat.div_eq_of_lt hj]; omega
    have e4 : (i * m + j) % m = j:=by rw [Nat.mul_comm, Nat.mul_add_mod, Nat.mod_eq_of_lt hj]
    rw [e1, e2, e3, e4, hv]
    push_cast
    rfl)
  obtain ⟨r, e, hr⟩:=step
  rw [e, Rs.okb, hr, Xv]
end
section
variable {n m : Nat} {f g : Nat -> Nat -> Nat}
theorem Mn (hn : n <= 24) : VG ((XA n f).length : Int) ((XA m g).length : Int) = .ok ((n * m : Nat) : Int):=by
  rw [Xj, Xj, Jr (by omega) (by omega)]
  rfl
theorem Vv (hm : 0 < m) (hn : n <= 24) (hm2 : m <= 24) (h : n * m <= 24) (hf : ∀ a b, a < n -> b < n -> f a b < n) : Zm (XA n f) (XA m g) = .ok (XA (n * m) (prF m f g)):=by
  unfold Zm
  simp only [Rs.okb]
  rw [Mn hn, Rs.okb, Yc (Ks (by omega)), Rs.okb]
  have step:=QN (f:=λ(g13 : List (List Int)) (a15 : List Int)=>(forN (XA m g) g13 λg19 a21=>(noE (Yi a15 a21)).bind λa26=>chk (g19.length < sizeLine) ((λa28=>.ok a28) (g19 ++ [a26]))).bind λg29=>.ok g29)
    (λk acc=>acc = (List.range (k * m)).map (Yb (n * m) (prF m f g))) (as:=XA n f) (g:=[]) (by simp) (by
    intro i row acc hrow hacc
    obtain ⟨hi, hv⟩:=JR hrow
    have step2:=QN (f:=λ(g19 : List (List Int)) (a21 : List Int)=>(noE (Yi row a21)).bind λa26=>chk (g19.length < sizeLine) ((λa28=>.ok a28) (g19 ++ [a26])))
      (λk acc=>acc = (List.range (i * m + k)).map (Yb (n * m) (prF m f g))) (as:=XA m g) (g:=acc) (by simpa using hacc) (by
      intro j row2 acc2 hrow2 hacc2
      obtain ⟨hj, hv2⟩:=JR hrow2
      refine ⟨_, ?_, rfl⟩
      rw [hv, hv2, BP hm hm2 hn hf 0 hi hj, Vx, Rs.okb, XL (by
        rw [hacc2]; simp only [List.length_map, List.length_range]
        have:=Nat.mul_le_mul (Nat.le_of_lt (Nat.lt_of_lt_of_le hi hn)) hm2
        exact IZ (by omega))]
      show Rs.ok _ = _
      rw [hacc2, ← Nat.add_assoc, List.range_succ, List.map_append]
      rfl)
    obtain ⟨r, e, hr⟩:=step2
    refine ⟨r, ?_, ?_⟩
    . rw [e]; rfl
    . rw [hr, Xj, Nat.succ_mul])
  obtain ⟨r, e, hr⟩:=step
  rw [e, Rs.okb, hr, Xj]
  rfl
end
noncomputable def dv (n : Nat) (f : Nat -> Nat -> Nat) (a b : Nat) : Nat:=((List.range n).findIdx? λx=>decide (f x b = a)).getD 0
section
variable {n : Nat} {f : Nat -> Nat -> Nat}
theorem Col.onto (C : Col n f) {a b : Nat} (ha : a < n) (hb : b < n) : ∃ x, x < n /\ f x b = a:=by
  have hp:=Vq (n:=n) (l:=(List.range n).map λx=>((f x b : Nat) : Int)) (UB (λx y hx hy e=>C.r2 x y b (List.mem_range.mp hx) (List.mem_range.mp hy) hb (Int.ofNat.inj e)) List.nodup_range) (by simp) λx hx=>by
    obtain ⟨y, hy, rfl⟩:=List.mem_map.mp hx
    exact ⟨_, C.lt y b (List.mem_range.mp hy) hb, rfl⟩
  have hm : (a : Int) ∈ (List.range n).map λx=>((f x b : Nat) : Int):=hp.mem_iff.mpr (List.mem_map.mpr ⟨a, List.mem_range.mpr ha, rfl⟩)
  obtain ⟨x, hx, e⟩:=List.mem_map.mp hm
  exact ⟨x, List.mem_range.mp hx, Int.ofNat.inj e⟩
theorem Zd (C : Col n f) {a b : Nat} (ha : a < n) (hb : b < n) : dv n f a b < n /\ f (dv n f a b) b = a /\ (List.range n).findIdx? (λx=>decide (f x b = a)) = some (dv n f a b):=by
  obtain ⟨x, hx, e⟩:=C.onto ha hb
  have hs : ((List.range n).findIdx? λx=>decide (f x b = a)).isSome = true:=by
    rw [List.findIdx?_isSome, List.any_eq_true]
    exact ⟨x, List.mem_range.mpr hx, decide_eq_true e⟩
  obtain ⟨j, hj⟩:=Option.isSome_iff_exists.mp hs
  have ed : dv n f a b = j:=by unfold dv; rw [hj]; rfl
  obtain ⟨h1, h2, _⟩:=List.findIdx?_eq_some_iff_getElem.mp hj
  rw [ed]
  refine ⟨by simpa using h1, ?_, hj⟩
  simpa using h2
theorem Vo (C : Col n f) {x b : Nat} (hx : x < n) (hb : b < n) : dv n f (f x b) b = x:=by
  obtain ⟨h1, h2, _⟩:=Zd C (C.lt x b hx hb) hb
  exact C.r2 _ _ b h1 hx hb h2
theorem ZF (F : GoodF n f) : GoodF n (dv n f) where
  lt a b ha hb:=(Zd F.toCol ha hb).1
  r2 x y b hx hy hb e:=by rw [← (Zd F.toCol hx hb).2.1, e, (Zd F.toCol hy hb).2.1]
  r1 a ha:=by
    have:=Vo F.toCol ha ha
    rwa [F.r1 a ha] at this
  r3 a b c ha hb hc:=by
    obtain ⟨u1, u2, _⟩:=Zd F.toCol ha hc
    obtain ⟨w1, w2, _⟩:=Zd F.toCol hb hc
    obtain ⟨t1, t2, _⟩:=Zd F.toCol u1 w1
    have h:=F.r3 _ _ c t1 w1 hc
    rw [t2, u2, w2] at h
    have h2:=F.lt _ c t1 hc
    have h3 : f (dv n f (dv n f a c) (dv n f b c)) c = dv n f a b:=by
      have:=Vo F.toCol h2 hb
      rw [← h] at this
      exact this.symm
    have:=Vo F.toCol t1 hc
    rw [h3] at this
    exact this
theorem E7 (C : Col n f) (hn : n <= 24) {a b : Nat} (ha : a < n) (hb : b < n) : V3 (XA n f) (a : Int) (b : Int) = .ok ((dv n f a b : Nat) : Int):=by
  unfold V3
  simp only [Rs.okb]
  have ec : QJ (XA n f) (λr=>atR r (b : Int)) = .ok ((List.range n).map λx=>((f x b : Nat) : Int)):=by
    unfold QJ
    rw [XL (sz (by rw [Xj]; omega))]
    unfold XA
    have : ∀ l : List Nat, GT (l.map (Yb n f)) (λr=>atR r (b : Int)) = .ok (l.map λx=>((f x b : Nat) : Int)):=by
      intro l
      induction l with
      | nil=>rfl
      | cons x l ih=>
        show (atR (Yb n f x) (b : Int)).bind _ = _
        rw [Zz hb, Rs.okb, ih]
        rfl
    exact this _
  rw [ec, Rs.okb]
  unfold Bw
  rw [List.findIdx?_map]
  have : ((λy=>decide (y = (a : Int))) ∘ λx=>((f x b : Nat) : Int)) = λx=>decide (f x b = a):=by
    funext x
    show decide (((f x b : Nat) : Int) = (a : Int)) = _
    rw [decide_eq_decide]
    omega
  rw [this, (Zd C ha hb).2.2]
theorem Ug {β : Type} {g : Int -> Rs β} {h : Nat -> β} (hn : n <= 1000) (hg : ∀ i, i < n -> g (i : Int) = .ok (h i)) : QJ ((List.range n).map λ(i : Nat)=>(i : Int)) g = .ok ((List.range n).map h):=by
  rw [Y0 (h:=λx=>h x.toNat) (sz (by simp; omega)) λa ha=>?_]
  . rw [List.map_map]; rfl
  . obtain ⟨i, hi, rfl⟩ := Ym ha
    exact hg i hi
theorem Va (C : Col n f) (hn : n <= 24) : ZI (XA n f) = .ok (XA n (dv n f)):=by
  unfold ZI
  simp only [Rs.okb]
  rw [Xj, Qo (by omega), Rs.okb]
  refine Ug (by omega) λa ha=>?_
  rw [Rs.okb]
  exact Ug (by omega) λb hb=>Yc (E7 C hn ha hb)
end
section
variable {n : Nat} {f : Nat -> Nat -> Nat}
theorem BY {sp : List Int} {p q : Nat -> Nat} (hn : n <= 1000) (hf : ∀ a b, a < n -> b < n -> f a b < n) (hp : VO n sp p q) : Jp (XA n f) sp = .ok (XA n λx y=>p (f (q x) (q y))):=by
  have P:=hp.1
  unfold Jp
  simp only [Rs.okb]
  rw [Y0 (h:=λa=>a) (sz (by rw [Xj]; omega)) λa _=>rfl, Rs.okb]
  simp only [List.map_id']
  apply Ok.eq
  refine Ok.bind (Ok.forN (λi g=>g = XA n λx y=>if q x < i then p (f (q x) (q y)) else f x y) (XZ λx y _ _=>by simp) λi a g ha hg=>?_) λg hg=>⟨g, rfl, ?_⟩
  . obtain ⟨e1, e2⟩ := QS ha
    obtain ⟨hi, e3⟩:=Uf e2
    rw [e1, e3]
    subst hg
    refine Ok.bind (Ok.forN (λj g=>g = XA n λx y=>if q x < i ∨ (q x = i /\ q y < j) then p (f (q x) (q y)) else f x y) (XZ λx y _ _=>by simp) λj b g hb hg=>?_) λg hg=>⟨g, rfl, ?_⟩
    . obtain ⟨d1, d2⟩ := QS hb
      obtain ⟨hj, d3⟩:=Uy d2
      rw [d1, d3]
      subst hg
      have hv:=hf i j hi hj
      rw [hp.get hv, Rs.okb, hp.get hi, Rs.okb, Zs (P.lt i hi), Rs.okb, hp.get hj, Rs.okb, Jh (by rw [Xv]; exact P.lt j hj), Rs.okb, Jh (by rw [Xj]; exact P.lt i hi), Rs.okb]
      refine ⟨_, rfl, ?_⟩
      rw [DJ (P.lt i hi)]
      refine XZ λx y hx hy=>?_
      by_cases e : x = p i /\ y = p j
      . rw [if_pos e, e.1, e.2, P.qp i hi, P.qp j hj, if_pos (by omega)]
      . rw [if_neg e]
        have : ¬ (q x = i /\ q y = j):=λ⟨e1, e2⟩=>e ⟨by rw [← e1, P.pq x hx], by rw [← e2, P.pq y hy]⟩
        by_cases c : q x < i ∨ (q x = i /\ q y < j)
        . rw [if_pos c, if_pos (by omega)]
        . rw [if_neg c, if_neg (by omega)]
    . subst hg
      rw [Qj, Xv]
      refine XZ λx y hx hy=>?_
      have:=P.qlt y hy
      by_cases c : q x < i + 1
      . rw [if_pos c, if_pos (by omega)]
      . rw [if_neg c, if_neg (by omega)]
  . subst hg
    rw [Qj, Xj]
    exact XZ λx y hx _=>by rw [if_pos (P.qlt x hx)]
theorem GZ {α : Type} {as : List α} {p : Int × α} (h : p ∈ Yl as) : ∃ i : Nat, p.1 = (i : Int) /\ as[i]? = some p.2:=by
  obtain ⟨i, hi⟩:=List.mem_iff_getElem?.mp h
  exact ⟨i, QS hi⟩
theorem IL (F : GoodF n f) : Yg (XA n f) = .ok none:=by
  unfold Yg
  simp only [Rs.okb]
  rw [YS]
  . rfl
  intro p hp
  obtain ⟨i, e1, e2⟩:=GZ hp
  obtain ⟨hi, e3⟩:=Uf e2
  rw [e1, e3, Zz hi, Rs.okb, F.r1 i hi, decide_eq_true rfl]
  rfl
theorem G8 {col : List Int} (h : col.Nodup) : YR col = .ok none:=by
  unfold YR
  simp only [Rs.okb]
  rw [YS]
  . rfl
  intro p hp
  obtain ⟨i, e1, e2⟩:=GZ hp
  obtain ⟨hi, e3⟩:=List.getElem?_eq_some_iff.mp e2
  rw [e1, show (i : Int) + 1 = ((i + 1 : Nat) : Int) by omega, UA col (k:=i + 1) (by omega), decide_eq_false λhm=>?_]
  . rfl
  . obtain ⟨j, hj⟩ := List.mem_iff_getElem?.mp hm
    rw [List.getElem?_drop] at hj
    have:=(List.getElem?_inj hi h).mp (e2.trans hj.symm)
    omega
theorem Iu (hn : n <= 24) {b : Nat} (hb : b < n) : QJ (XA n f) (λa13=>atR a13 (b : Int)) = .ok ((List.range n).map λx=>((f x b : Nat) : Int)):=by
  unfold QJ
  rw [XL (sz (by rw [Xj]; omega))]
  unfold XA
  have : ∀ l : List Nat, GT (l.map (Yb n f)) (λr=>atR r (b : Int)) = .ok (l.map λx=>((f x b : Nat) : Int)):=by
    intro l
    induction l with
    | nil=>rfl
    | cons x l ih=>
      show (atR (Yb n f x) (b : Int)).bind _ = _
      rw [Zz hb, Rs.okb, ih]
      rfl
  exact this _
theorem EA (F : GoodF n f) {b : Nat} (hb : b < n) : ((List.range n).map λx=>((f x b : Nat) : Int)).Nodup:=
  UB (λx y hx hy e=>F.r2 x y b (List.mem_range.mp hx) (List.mem_range.mp hy) hb (Int.ofNat.inj e)) List.nodup_range
theorem Lg (F : GoodF n f) (hn : n <= 24) : Yf (XA n f) = .ok none:=by
  unfold Yf
  simp only [Rs.okb]
  rw [Xj, Qo (by omega), Rs.okb, YS]
  . rfl
  intro x hx
  obtain ⟨b, hb, rfl⟩:=Ym hx
  rw [Iu hn hb, Rs.okb, Yc (G8 (EA F hb))]
  rfl
theorem Bm (F : GoodF n f) (hn : n <= 24) : X5 (XA n f) = .ok none:=by
  unfold X5
  simp only [Rs.okb]
  rw [YS]
  . rfl
  intro p hp
  obtain ⟨a, e1, e2⟩:=GZ hp
  obtain ⟨ha, e3⟩:=Uf e2
  rw [e1, e3, YS]
  . rfl
  intro p hp
  obtain ⟨b, d1, d2⟩:=GZ hp
  obtain ⟨hb, d3⟩:=Uy d2
  rw [d1, d3, Xj, Qo (by omega), Rs.okb, YS]
  . rfl
  intro x hx
  obtain ⟨c, hc, rfl⟩:=Ym hx
  simp only [Rs.okb, Zs (F.lt a b ha hb), Zz hc, Zs (F.lt a c ha hc), Zs hb, Zz (F.lt b c hb hc), F.r3 a b c ha hb hc]
  rfl
theorem DV (F : GoodF n f) (hn : n <= 24) : Qg (XA n f) = .ok none:=by
  unfold Qg
  simp only [Rs.okb]
  rw [Yc (IL F), Yc (Lg F hn), Yc (Bm F hn)]
  rfl
theorem E6 (F : GoodF n f) (hn : n <= 24) : V6 (XA n f) = .ok true:=by
  unfold V6
  simp only [Rs.okb]
  rw [Xj, Qo (by omega), Rs.okb, YS]
  . rw [Rs.okb, Gx, Rs.okb, YS]
    . rfl
    intro x hx
    obtain ⟨a, ha, rfl⟩:=Ym hx
    rw [Rs.okb, YS]
    . rfl
    intro x hx
    obtain ⟨b, hb, rfl⟩:=Ym hx
    rw [Rs.okb, YS]
    . rfl
    intro x hx
    obtain ⟨c, hc, rfl⟩:=Ym hx
    simp only [Rs.okb, Zs ha, Zz hb, Zs (F.lt a b ha hb), Zz hc, Zs (F.lt a c ha hc), Zs hb, Zz (F.lt b c hb hc), F.r3 a b c ha hb hc]
    rfl
  . intro x hx
    obtain ⟨a, ha, rfl⟩:=Ym hx
    have es : Y3 ((List.range n).map λx=>((f x a : Nat) : Int)) = X6 0 (n : Int):=by
      rw [Yp, Qd]
      refine (QG (List.Perm.symm (Vq (EA F ha) (by simp) λx hx=>?_)) ?_).symm
      . obtain ⟨y, hy, rfl⟩ := List.mem_map.mp hx
        exact ⟨_, F.lt y a (List.mem_range.mp hy) ha, rfl⟩
      . exact List.Pairwise.map _ (λa b h=>Int.ofNat_le.mpr (Nat.le_of_lt h)) List.pairwise_lt_range
    rw [Zs ha, Rs.okb, Zz ha, Rs.okb, F.r1 a ha, decide_eq_true rfl, Rs.okb, if_neg (by decide), Rs.okb, Ug (h:=λx=>((f x a : Nat) : Int)) (by omega) λi hi=>by rw [Zs hi, Rs.okb, Zz ha], Rs.okb, XL (by simp; omega), Rs.okb, es, XL (by omega), Rs.okb, decide_eq_true rfl]
    rfl
end
section
variable {n : Nat} {f : Nat -> Nat -> Nat}
noncomputable def fI (f : Nat -> Nat -> Nat) (a b : Int) : Int:=(f a.toNat b.toNat : Int)
noncomputable def In (n : Nat) (ks : List Int) : Prop:=∀ x ∈ ks, 0 <= x /\ x < (n : Int)
theorem Mz {a b : Int} (ha : 0 <= a /\ a < n) (hb : 0 <= b /\ b < n) : ((atR (XA n f) a).bind λr=>atR r b) = .ok (fI f a b):=by
  obtain ⟨i, rfl⟩ : ∃ i : Nat, a = i:=⟨a.toNat, by omega⟩
  obtain ⟨j, rfl⟩ : ∃ j : Nat, b = j:=⟨b.toNat, by omega⟩
  rw [Zs (by omega), Rs.okb, Zz (by omega)]
  rfl
theorem LL (hf : ∀ a b, a < n -> b < n -> f a b < n) {a b : Int} (ha : 0 <= a /\ a < n) (hb : 0 <= b /\ b < n) : 0 <= fI f a b /\ fI f a b < (n : Int):=by
  have:=hf a.toNat b.toNat (by omega) (by omega)
  unfold fI
  omega
theorem KB {α ρ : Type} {g : Unit -> α -> Rs (Ctl ρ Unit)} {P : α -> Prop} {R : ρ -> Prop} {as : List α} : (∀ a ∈ as, (g () a = .ok (.nx ()) /\ P a) ∨ ∃ r, g () a = .ok (.ret r) /\ R r) -> (forC as () g = .ok (.nx ()) /\ ∀ a ∈ as, P a) ∨ ∃ r, forC as () g = .ok (.ret r) /\ R r:=by
  induction as with
  | nil=>intro _; exact .inl ⟨rfl, λa h=>nomatch h⟩
  | cons a as ih=>
    intro h
    rcases h a List.mem_cons_self with ⟨e, p⟩ | ⟨r, e, hr⟩
    . rcases ih (λb hb => h b (List.mem_cons_of_mem _ hb)) with ⟨e2, p2⟩ | ⟨r, e2, hr⟩
      . exact .inl ⟨by show (g () a).bind _ = _; rw [e, Rs.okb]; exact e2, λb hb=>(List.mem_cons.mp hb).elim (λz=>z ▸ p) (p2 b)⟩
      . exact .inr ⟨r, by show (g () a).bind _ = _; rw [e, Rs.okb]; exact e2, hr⟩
    . exact .inr ⟨r, by show (g () a).bind _ = _; rw [e, Rs.okb], hr⟩
theorem Md {α ρ : Type} {g : Unit -> α -> Rs (Ctl ρ Unit)} {k : Unit -> Rs (Ctl ρ Unit)} {P : α -> Prop} {R : ρ -> Prop} {as : List α} (hk : k () = .ok (.nx ())) (h : ∀ a ∈ as, (g () a = .ok (.nx ()) /\ P a) ∨ ∃ r, g () a = .ok (.ret r) /\ R r) :
    ((forC as () g).bind (Zv k) = .ok (.nx ()) /\ ∀ a ∈ as, P a) ∨ ∃ r, (forC as () g).bind (Zv k) = .ok (.ret r) /\ R r:=by
  rcases KB h with ⟨e, p⟩ | ⟨r, e, hr⟩
  . exact .inl ⟨by rw [e, Rs.okb, FW, hk], p⟩
  . exact .inr ⟨r, by rw [e, Rs.okb, Fx], hr⟩
theorem Ma {α ρ : Type} {g : Unit -> α -> Rs (Ctl ρ Unit)} {k : Unit -> Rs ρ} {P : α -> Prop} {R T : ρ -> Prop} {as : List α} (h : ∀ a ∈ as, (g () a = .ok (.nx ()) /\ P a) ∨ ∃ r, g () a = .ok (.ret r) /\ R r) (h1 : (∀ a ∈ as, P a) -> Ok (k ()) T) (h2 : ∀ r, R r -> T r) : Ok ((forC as () g).bind (Qm k)) T:=by
  rcases KB h with ⟨e, p⟩ | ⟨r, e, hr⟩
  . rw [e, Rs.okb, Gx]; exact h1 p
  . rw [e, Rs.okb, DT]; exact .pure (h2 r hr)
noncomputable abbrev keys {α : Type} (d : List (Int × α)) : List Int:=d.map λkx=>kx.1
theorem DC {α : Type} (d : List (Int × α)) (x : Int) : (Qn d x).isSome = decide (x ∈ keys d):=by
  rw [Bool.eq_iff_iff, decide_eq_true_eq]
  unfold Qn
  rw [Option.isSome_map, List.find?_isSome, List.mem_map]
  simp
noncomputable def Bj (f : Nat -> Nat -> Nat) (ks : List Int) : Option (Int × Int × Int) -> Prop
  | none=>∀ a ∈ ks, ∀ b ∈ ks, fI f a b ∈ ks
  | some s=>s.2.1 ∈ ks /\ s.2.2 ∈ ks /\ s.1 = fI f s.2.1 s.2.2 /\ s.1 ∉ ks
theorem E2 {d : List (Int × Unit)} (hi : In n (keys d)) : Ok (XI (XA n f) d) (Bj f (keys d)):=by
  unfold XI
  simp only [Rs.okb]
  refine Ma (P:=λa=>∀ b ∈ keys d, fI f a b ∈ keys d) (R:=Bj f (keys d)) (λa ha=>Md rfl λb hb=>?_) (λp=>.pure p) λr hr=>hr
  rw [Mz (hi a ha) (hi b hb)]
  simp only [Rs.okb]
  rw [DC]
  by_cases c : fI f a b ∈ keys d
  . rw [decide_eq_true c]
    exact .inl ⟨rfl, c⟩
  . rw [decide_eq_false c]
    exact .inr ⟨_, rfl, ha, hb, rfl, c⟩
theorem EZ {α : Type} {d : List (Int × α)} (hi : In n (keys d)) : Ok (XI (XA n f) (d.map λkx=>(kx.1, ()))) (Bj f (keys d)):=by
  have e : keys (d.map λkx=>(kx.1, ())) = keys d:=by unfold keys; rw [List.map_map]; rfl
  have:=E2 (f:=f) (d:=d.map λkx=>(kx.1, ())) (by rw [e]; exact hi)
  rwa [e] at this
noncomputable def KF (ks : List Int) (x : Int) : List Int:=if x ∈ ks then ks else ks ++ [x]
theorem Vt {α : Type} (d : List (Int × α)) (k : Int) (v : α) : keys (Z4 d k v) = KF (keys d) k:=by
  unfold Z4 KF
  by_cases c : k ∈ keys d
  . rw [if_pos (by simpa using c), if_pos c]
    unfold keys
    rw [List.map_map]
    apply List.map_congr_left
    intro kv _
    show (if kv.1 = k then (kv.1, v) else kv).1 = kv.1
    split <;> rfl
  . rw [if_neg (by simpa using c), if_neg c]
    simp [keys]
theorem Fv {α : Type} (ps : List (Int × α)) : ∀ d, keys (Vs d ps) = (keys ps).foldl KF (keys d):=by
  induction ps with
  | nil=>intro d; rfl
  | cons p ps ih=>
    intro d
    show keys (Vs (Z4 d p.1 p.2) ps) = _
    rw [ih, Vt]
    rfl
structure Kn (n : Nat) (ks : List Int) : Prop where
  ins : In n ks
  nd : ks.Nodup
theorem Kn.add {ks : List Int} (h : Kn n ks) {x : Int} (hx : 0 <= x /\ x < (n : Int)) : Kn n (KF ks x):=by
  unfold KF
  by_cases c : x ∈ ks
  . rw [if_pos c]; exact h
  . rw [if_neg c]
    refine ⟨λy hy=>?_, ?_⟩
    . rcases List.mem_append.mp hy with hy | hy
      . exact h.ins y hy
      . rw [List.mem_singleton.mp hy]; exact hx
    . refine List.nodup_append.mpr ⟨h.nd, by simp, λa ha b hb e => c ?_⟩
      rw [← List.mem_singleton.mp hb, ← e]; exact ha
theorem Kn.all {some : List Int} : ∀ {ks : List Int}, Kn n ks -> In n some -> Kn n (some.foldl KF ks):=by
  induction some with
  | nil=>intro ks h _; exact h
  | cons x some ih=>intro ks h hi; exact ih (h.add (hi x List.mem_cons_self)) λy hy=>hi y (List.mem_cons_of_mem _ hy)
theorem Eh : ∀ (n : Nat) (l : List Nat), l.Nodup -> (∀ x ∈ l, x < n) -> l.length <= n
  | 0, l, _, h=>by
    cases l with
    | nil=>exact Nat.le_refl _
    | cons x l=>exact absurd (h x List.mem_cons_self) (Nat.not_lt_zero _)
  | n + 1, l, nd, h=>by
    have h1:=Eh n (l.erase n) (nd.erase n) λx hx=>by
      have:=nd.mem_erase_iff.mp hx
      have h2:=h x this.2
      have h3:=this.1
      omega
    rw [List.length_erase] at h1
    split at h1 <;> omega
theorem Kn.len {ks : List Int} (h : Kn n ks) : ks.length <= n:=by
  have:=Eh n (ks.map Int.toNat) (by
    have hn:=h.nd
    unfold List.Nodup at hn ⊢
    rw [List.pairwise_map]
    refine hn.imp_of_mem fun {a b} ha hb hab e=>hab ?_
    have h1:=h.ins a ha
    have h2:=h.ins b hb
    omega) λx hx=>by
      obtain ⟨y, hy, rfl⟩:=List.mem_map.mp hx
      have:=h.ins y hy
      omega
  rwa [List.length_map] at this
noncomputable def LO (f : Nat -> Nat -> Nat) (k : List Int) (s : Int × Int × Int) : Prop:=s.2.1 ∈ k /\ s.2.2 ∈ k /\ s.1 = fI f s.2.1 s.2.2 /\ s.1 ∉ k
noncomputable def Wk (f : Nat -> Nat -> Nat) : List Int -> List (Int × Int × Int) -> List Int -> Prop
  | k, [], k'=>k = k'
  | k, s :: ss, k'=>LO f k s /\ Wk f (k ++ [s.1]) ss k'
theorem Wk.snoc {ss : List (Int × Int × Int)} {s : Int × Int × Int} : ∀ {k k' : List Int}, Wk f k ss k' -> LO f k' s -> Wk f k (ss ++ [s]) (k' ++ [s.1]):=by
  induction ss with
  | nil=>intro k k' h g; cases h; exact ⟨g, rfl⟩
  | cons t ss ih=>intro k k' h g; exact ⟨h.1, ih h.2 g⟩
theorem Wk.len {ss : List (Int × Int × Int)} : ∀ {k k' : List Int}, Wk f k ss k' -> k'.length = k.length + ss.length:=by
  induction ss with
  | nil=>intro k k' h; cases h; rfl
  | cons t ss ih=>intro k k' h; rw [ih h.2]; simp; omega
theorem Ec {some : List Int} (hs : In n some) (hl : some.length <= 1000) (hn : n <= 24) (hf : ∀ a b, a < n -> b < n -> f a b < n) : Ok (Jf (XA n f) some) λr=>∃ ks, Kn n ks /\ Wk f (some.foldl KF []) r.2 ks /\ r.1 = Y3 ks /\ ∀ a ∈ ks, ∀ b ∈ ks, fI f a b ∈ ks:=by
  unfold Jf
  simp only [Rs.okb]
  rw [Y0 (h:=λa=>(a, true)) (sz (by omega)) λ_ _=>rfl, Rs.okb, Rs.okb]
  have hk0 : keys (Vs [] (some.map λa=>(a, true))) = some.foldl KF []:=by
    rw [Fv]
    unfold keys
    rw [List.map_map, show ((λkx : Int × Bool=>kx.1) ∘ λa : Int=>(a, true)) = id from rfl, List.map_id]
    rfl
  have K0 : Kn n (keys (Vs [] (some.map λa=>(a, true)))):=by
    rw [hk0]; exact Kn.all ⟨(λ_ h=>nomatch h), List.nodup_nil⟩ hs
  refine (EZ (f:=f) K0.ins).noE.bind λst hst=>?_
  refine (JK (P:=λg : List (Int × Bool) × Option (Int × Int × Int) × List (Int × Int × Int)=>Kn n (keys g.1) /\ Bj f (keys g.1) g.2.1 /\ Wk f (some.foldl KF []) g.2.2 (keys g.1)) (λg=>n - (keys g.1).length) ?_ _ (Vs [] (some.map λa=>(a, true)), st, []) ⟨K0, hst, hk0.symm⟩ ?_).bind ?_
  . rintro ⟨d, st, ss⟩ ⟨hk, hst, hw⟩
    refine ⟨st.isSome, rfl, λhb=>?_⟩
    cases st with
    | none=>cases hb
    | some s=>
      have hs : LO f (keys d) s:=hst
      have hle : (keys d).length <= n:=hk.len
      have hwl : (keys d).length = (some.foldl KF []).length + ss.length:=hw.len
      have hld : (keys d).length = d.length:=List.length_map ..
      have hfs : 0 <= s.1 /\ s.1 < (n : Int):=by rw [hs.2.2.1]; exact LL hf (hk.ins _ hs.1) (hk.ins _ hs.2.1)
      have hkd : keys (Z4 d s.1 true) = keys d ++ [s.1]:=by rw [Vt]; exact if_neg hs.2.2.2
      have hk2 : Kn n (keys (Z4 d s.1 true)):=by rw [Vt]; exact hk.add hfs
      show Ok ((Rs.bind (BC (Option.some s)) _)) _
      rw [show BC (Option.some s) = .ok s from rfl]
      simp only [Rs.okb]
      refine .chk (IZ (by show ss.length <= _; omega)) ?_
      refine .chk (IZ (by show d.length <= _; omega)) ?_
      refine (EZ (f:=f) hk2.ins).noE.bind λst2 hst2=>.pure ⟨⟨hk2, hst2, ?_⟩, ?_⟩
      . show Wk f _ (ss ++ [s]) (keys (Z4 d s.1 true))
        rw [hkd]
        exact hw.snoc hs
      . show n - (keys (Z4 d s.1 true)).length < n - (keys d).length
        have:=hk2.len
        rw [hkd, List.length_append, List.length_singleton] at this ⊢
        omega
  . rw [Xj]
    omega
  . rintro ⟨d, st, ss⟩ ⟨⟨hk, hst, hw⟩, hc⟩
    have hn' : st = none:=by
      have : st.isSome = false:=Rs.ok.inj hc
      cases st with
      | none=>rfl
      | some s=>cases this
    subst hn'
    have hle : (keys d).length <= n:=hk.len
    have hld : (keys d).length = d.length:=List.length_map ..
    show Ok ((chk (d.length < 64) (Rs.ok (Y3 (keys d)))).bind λx=>Rs.ok (x, ss)) _
    rw [XL (by omega), Rs.okb]
    exact .pure ⟨keys d, hk, hw, rfl, hst⟩
end
noncomputable def en : Nat -> List Int -> List (Int × Int)
  | _, []=>[]
  | k, x :: r=>(x, (k : Int)) :: en (k + 1) r
noncomputable def ix (D : List Int) (v : Int) : Int:=((D.findIdx? λb=>decide (b = v)).getD 0 : Nat)
theorem KW : ∀ (k : Nat) (D : List Int), (en k D).map (λkx=>kx.1) = D
  | _, []=>rfl
  | k, x :: r=>by rw [en, List.map_cons, KW (k + 1) r]
theorem Cn : ∀ (D : List Int) (k : Nat), (((List.range D.length).map λ(i : Nat)=>((k + i : Nat) : Int)).zip D).map (λa=>(a.2, a.1)) = en k D
  | [], k=>rfl
  | x :: r, k=>by
    rw [List.length_cons, List.range_succ_eq_map, List.map_cons, List.map_map, List.zip_cons_cons, List.map_cons, en, ← Cn r (k + 1)]
    have e : ((λ(i : Nat)=>((k + i : Nat) : Int)) ∘ Nat.succ) = λ(i : Nat)=>((k + 1 + i : Nat) : Int):=by
      funext i
      show ((k + (i + 1) : Nat) : Int) = _
      rw [Nat.add_assoc, Nat.add_comm 1 i]
    rw [e]
    rfl
theorem Bn (D : List Int) : (Yl D).map (λa=>(a.2, a.1)) = en 0 D:=by
  rw [← Cn D 0]
  unfold Yl
  have e : (λ(i : Nat)=>(i : Int)) = λ(i : Nat)=>((0 + i : Nat) : Int):=by funext i; rw [Nat.zero_add]
  rw [e]
theorem ED (x : Int) : ∀ (D : List Int) (k : Nat), Qn (en k D) x = (D.findIdx? λb=>decide (b = x)).map λi=>((k + i : Nat) : Int)
  | [], _=>rfl
  | y :: r, k=>by
    have ih:=ED x r (k + 1)
    unfold Qn at ih ⊢
    rw [en, List.find?_cons, List.findIdx?_cons]
    by_cases h : y = x
    . rw [decide_eq_true h]; rfl
    . rw [decide_eq_false h]
      dsimp only
      rw [if_neg Bool.false_ne_true, ih, Option.map_map]
      congr 1
      funext i
      show ((k + 1 + i : Nat) : Int) = ((k + (i + 1) : Nat) : Int)
      rw [Nat.add_assoc, Nat.add_comm 1 i]
theorem HJ {d : List (Int × Int)} {k v : Int} (h : k ∉ d.map λkx=>kx.1) : Z4 d k v = d ++ [(k, v)]:=by
  unfold Z4
  rw [if_neg]
  intro z
  obtain ⟨e, he, ek⟩:=List.any_eq_true.mp z
  exact h (List.mem_map.mpr ⟨e, he, of_decide_eq_true ek⟩)
theorem Vi : ∀ (ps d : List (Int × Int)), ((d ++ ps).map λkx=>kx.1).Nodup -> Vs d ps = d ++ ps
  | [], d, _=>(List.append_nil d).symm
  | p :: ps, d, h=>by
    have h' : ((d ++ [p] ++ ps).map λkx=>kx.1).Nodup:=by rw [List.append_assoc]; exact h
    have e : Z4 d p.1 p.2 = d ++ [p]:=HJ λhm=>by
      rw [List.map_append, List.map_cons] at h
      exact (List.nodup_append.mp h).2.2 _ hm p.1 (.head _) rfl
    show Vs (Z4 d p.1 p.2) ps = _
    rw [e, Vi ps _ h', List.append_assoc]
    rfl
theorem GG {D : List Int} {v : Int} (h : v ∈ D) : (D.findIdx? λb=>decide (b = v)) = some ((D.findIdx? λb=>decide (b = v)).getD 0):=by
  have hs : (D.findIdx? λb=>decide (b = v)).isSome = true:=by
    rw [List.findIdx?_isSome, List.any_eq_true]
    exact ⟨v, h, decide_eq_true rfl⟩
  obtain ⟨j, hj⟩:=Option.isSome_iff_exists.mp hs
  rw [hj]; rfl
theorem HV {D : List Int} {v : Int} (h : v ∈ D) : Qn (en 0 D) v = some (ix D v):=by
  rw [ED, GG h]
  unfold ix
  rw [GG h]
  show some (((0 + _ : Nat) : Int)) = _
  rw [Nat.zero_add]
structure Mem (n : Nat) (g : Nat -> Nat -> Nat) (D : List Int) : Prop where
  lt : ∀ x ∈ D, ∃ i : Nat, i < n /\ x = i
  ne : D ≠ []
  nd : D.Nodup
  cl : ∀ i j : Nat, (i : Int) ∈ D -> (j : Int) ∈ D -> ((g i j : Nat) : Int) ∈ D
  sz : D.length <= 1000
noncomputable def IY (g : Nat -> Nat -> Nat) (D : List Int) : List (List Int):=D.map λx=>D.map λy=>ix D (g x.toNat y.toNat : Nat)
section
variable {n : Nat} {g : Nat -> Nat -> Nat} {D : List Int}
theorem FZ (m : Mem n g D) : XI (XA n g) ((en 0 D).map λkx=>(kx.1, ())) = .ok none:=by
  have hk : keys (en 0 D) = D:=KW 0 D
  have hin : In n (keys (en 0 D)):=λx hx=>by
    rw [hk] at hx
    obtain ⟨i, hi, rfl⟩:=m.lt x hx
    omega
  obtain ⟨r, e, h⟩:=EZ (f:=g) (d:=en 0 D) hin
  rw [e]
  cases r with
  | none=>rfl
  | some s=>
    obtain ⟨h1, h2, h3, h4⟩:=h
    rw [hk] at h1 h2 h4
    obtain ⟨i, hi, ei⟩:=m.lt _ h1
    obtain ⟨j, hj, ej⟩:=m.lt _ h2
    rw [ei] at h1
    rw [ej] at h2
    refine absurd (m.cl i j h1 h2) ?_
    rw [h3, ei, ej] at h4
    exact h4
theorem Cy (m : Mem n g D) : Jv (XA n g) D = .ok (IY g D):=by
  unfold Jv
  simp only [Rs.okb]
  have e1 : QJ (Yl D) (λa7=>Rs.ok (a7.2, a7.1)) = .ok ((Yl D).map λa=>(a.2, a.1)):=Y0 (sz (by unfold Yl; simp; exact Nat.le_trans m.sz (by decide))) λa _=>rfl
  rw [e1, Rs.okb, Rs.okb, Bn, Vi _ _ (by rw [List.nil_append, KW]; exact m.nd), List.nil_append]
  have hl : (D.length : Int) ≠ 0:=λz=>m.ne (List.length_eq_zero_iff.mp (by omega))
  rw [decide_eq_false hl, Yc (FZ m)]
  show Rs.bind (Rs.ok false) _ = _
  rw [Rs.okb, if_neg Bool.false_ne_true]
  refine Y0 (sz (Nat.le_trans m.sz (by decide))) λx hx=>Y0 (sz (Nat.le_trans m.sz (by decide))) λy hy=>?_
  obtain ⟨i, hi, rfl⟩:=m.lt x hx
  obtain ⟨j, hj, rfl⟩:=m.lt y hy
  rw [Zs hi, Rs.okb, Zz hj, Rs.okb]
  unfold Dy
  rw [HV (m.cl i j hx hy)]
  rfl
end
section
variable {n m : Nat} {f g : Nat -> Nat -> Nat}
theorem B2 (T : GoodF n g) {D : List Int} (m : Mem n g D) : ∃ h, IY g D = XA D.length h /\ GoodF D.length h:=by
  let d : Nat -> Nat:=λi=>(D.getD i 0).toNat
  have hd : ∀ i, i < D.length -> D[i]? = some ((d i : Nat) : Int) /\ d i < n /\ ((d i : Nat) : Int) ∈ D:=λi hi=>by
    have h1 : D[i]? = some D[i]:=List.getElem?_eq_getElem hi
    obtain ⟨k, hk, e⟩:=m.lt _ (List.getElem_mem hi)
    have e2 : d i = k:=by show (D.getD i 0).toNat = k; rw [List.getD_eq_getElem?_getD, h1]; show (D[i]).toNat = k; rw [e]; rfl
    rw [e2]
    exact ⟨by rw [h1, e], hk, by rw [← e]; exact List.getElem_mem hi⟩
  have hinj : ∀ i j, i < D.length -> j < D.length -> d i = d j -> i = j:=λi j hi hj e=>by
    have h1:=(hd i hi).1
    have h2:=(hd j hj).1
    rw [← e, ← h1] at h2
    exact ((List.getElem?_inj hi m.nd).mp h2.symm)
  let h : Nat -> Nat -> Nat:=λi j=>(D.findIdx? λb=>decide (b = ((g (d i) (d j) : Nat) : Int))).getD 0
  have hh : ∀ i j, i < D.length -> j < D.length -> h i j < D.length /\ d (h i j) = g (d i) (d j):=λi j hi hj=>by
    have hm:=m.cl (d i) (d j) (hd i hi).2.2 (hd j hj).2.2
    have e:=GG hm
    obtain ⟨h1, h2, _⟩:=List.findIdx?_eq_some_iff_getElem.mp e
    refine ⟨h1, ?_⟩
    have h3:=(hd _ h1).1
    rw [List.getElem?_eq_getElem h1, of_decide_eq_true h2] at h3
    exact (Int.ofNat.inj (Option.some.inj h3)).symm
  refine ⟨h, ?_, ⟨⟨λa b ha hb=>(hh a b ha hb).1, λa a' b ha ha' hb e=>?_⟩, λb hb=>?_, λa b c ha hb hc=>?_⟩⟩
  . unfold IY
    apply List.ext_getElem?
    intro i
    by_cases hi : i < D.length
    . rw [Zn hi, List.getElem?_map, (hd i hi).1]
      show some _ = some _
      congr 1
      apply List.ext_getElem?
      intro j
      by_cases hj : j < D.length
      . rw [YI hj, List.getElem?_map, (hd j hj).1]
        rfl
      . rw [List.getElem?_eq_none (by simp; omega), List.getElem?_eq_none (by rw [Xv]; omega)]
    . rw [List.getElem?_eq_none (by simp; omega), List.getElem?_eq_none (by rw [Xj]; omega)]
  . refine hinj _ _ ha ha' (T.r2 _ _ (d b) (hd a ha).2.1 (hd a' ha').2.1 (hd b hb).2.1 ?_)
    rw [← (hh a b ha hb).2, ← (hh a' b ha' hb).2, e]
  . exact hinj _ _ (hh b b hb hb).1 hb (by rw [(hh b b hb hb).2, T.r1 _ (hd b hb).2.1])
  . have h1 := hh a b ha hb
    have h2:=hh a c ha hc
    have h3:=hh b c hb hc
    refine hinj _ _ (hh _ _ h1.1 hc).1 (hh _ _ h2.1 h3.1).1 ?_
    rw [(hh _ _ h1.1 hc).2, h1.2, (hh _ _ h2.1 h3.1).2, h2.2, h3.2]
    exact T.r3 _ _ _ (hd a ha).2.1 (hd b hb).2.1 (hd c hc).2.1
theorem Ic {a b : Nat} (h1 : a < n) (h2 : b < n) : Yt n f g a b = f a b:=if_pos ⟨h1, h2⟩
theorem Lo {a b : Nat} (h1 : ¬ a < n) (h2 : ¬ b < n) : Yt n f g a b = n + g (a - n) (b - n):=by unfold Yt; rw [if_neg (by omega), if_pos (by omega)]
theorem LH {a b : Nat} (h1 : a < n) (h2 : ¬ b < n) : Yt n f g a b = a:=by unfold Yt; rw [if_neg (by omega), if_neg (by omega)]
theorem LC {a b : Nat} (h1 : ¬ a < n) (h2 : b < n) : Yt n f g a b = a:=by unfold Yt; rw [if_neg (by omega), if_neg (by omega)]
theorem Dp (hf : ∀ a b, a < n -> b < n -> f a b < n) (hg : ∀ a b, a < m -> b < m -> g a b < m) {a b : Nat} (ha : a < n + m) (hb : b < n + m) : Yt n f g a b < n + m:=by
  by_cases h1 : a < n <;> by_cases h2 : b < n
  . rw [Ic h1 h2]; have:=hf a b h1 h2; omega
  . rw [LH h1 h2]; omega
  . rw [LC h1 h2]; omega
  . rw [Lo h1 h2]; have:=hg (a - n) (b - n) (by omega) (by omega); omega
theorem Dh (F : GoodF n f) (G : GoodF m g) {a b : Nat} (ha : a < n + m) (hb : b < n + m) : dv (n + m) (Yt n f g) a b = Yt n (dv n f) (dv m g) a b:=by
  have SG:=Z9 F G
  have hx:=Dp (ZF F).lt (ZF G).lt ha hb
  have e : Yt n f g (Yt n (dv n f) (dv m g) a b) b = a:=by
    by_cases h1 : a < n <;> by_cases h2 : b < n
    . obtain ⟨d1, d2, _⟩ := Zd F.toCol h1 h2
      rw [Ic (f:=dv n f) (g:=dv m g) h1 h2, Ic d1 h2, d2]
    . rw [LH (f:=dv n f) (g:=dv m g) h1 h2, LH h1 h2]
    . rw [LC (f:=dv n f) (g:=dv m g) h1 h2, LC h1 h2]
    . obtain ⟨d1, d2, _⟩ := Zd G.toCol (a := a - n) (b := b - n) (by omega) (by omega)
      rw [Lo (f:=dv n f) (g:=dv m g) h1 h2, Lo (by omega) h2, Nat.add_sub_cancel_left, d2]
      omega
  have:=Vo SG.toCol hx hb
  rw [e] at this
  exact this
theorem GB {u v : Nat} (hv : v < m) : (u * m + v) / m = u /\ (u * m + v) % m = v:=by
  have hm : 0 < m:=by omega
  constructor
  . rw [Nat.mul_comm, Nat.mul_add_div hm, Nat.div_eq_of_lt hv, Nat.add_zero]
  . rw [Nat.mul_comm, Nat.mul_add_mod, Nat.mod_eq_of_lt hv]
theorem Y1 {a : Nat} (hm : 0 < m) (ha : a < n * m) : a / m < n /\ a % m < m /\ a / m * m + a % m = a:=⟨Nat.div_lt_of_lt_mul (by rw [Nat.mul_comm]; exact ha), Nat.mod_lt _ hm, Nat.div_add_mod' a m⟩
theorem Bx {u v : Nat} (hu : u < n) (hv : v < m) : u * m + v < n * m:=by
  have : (u + 1) * m <= n * m:=Nat.mul_le_mul_right m hu
  rw [Nat.succ_mul] at this
  omega
theorem Uj (hm : 0 < m) (F : GoodF n f) (G : GoodF m g) : GoodF (n * m) (prF m f g):=by
  have A : ∀ a b, a < n * m -> b < n * m -> prF m f g a b / m = f (a / m) (b / m) /\ prF m f g a b % m = g (a % m) (b % m) /\ f (a / m) (b / m) < n /\ g (a % m) (b % m) < m:=λa b ha hb=>by
    obtain ⟨a1, a2, _⟩:=Y1 hm ha
    obtain ⟨b1, b2, _⟩:=Y1 hm hb
    have h2:=G.lt _ _ a2 b2
    obtain ⟨s1, s2⟩:=GB (u:=f (a / m) (b / m)) h2
    exact ⟨s1, s2, F.lt _ _ a1 b1, h2⟩
  have L : ∀ a b, a < n * m -> b < n * m -> prF m f g a b < n * m:=λa b ha hb=>Bx (A a b ha hb).2.2.1 (A a b ha hb).2.2.2
  refine ⟨⟨L, λx y b hx hy hb e=>?_⟩, λa ha=>?_, λa b c ha hb hc=>?_⟩
  . obtain ⟨x1, x2, x3⟩ := Y1 hm hx
    obtain ⟨y1, y2, y3⟩:=Y1 hm hy
    obtain ⟨b1, b2, _⟩:=Y1 hm hb
    have hX:=A x b hx hb
    have hY:=A y b hy hb
    rw [e] at hX
    have e1:=F.r2 _ _ _ x1 y1 b1 (hX.1.symm.trans hY.1)
    have e2:=G.r2 _ _ _ x2 y2 b2 (hX.2.1.symm.trans hY.2.1)
    rw [← x3, ← y3, e1, e2]
  . obtain ⟨a1, a2, a3⟩ := Y1 hm ha
    show f (a / m) (a / m) * m + g (a % m) (a % m) = a
    rw [F.r1 _ a1, G.r1 _ a2, a3]
  . obtain ⟨a1, a2, _⟩ := Y1 hm ha
    obtain ⟨b1, b2, _⟩:=Y1 hm hb
    obtain ⟨c1, c2, _⟩:=Y1 hm hc
    show f (prF m f g a b / m) (c / m) * m + g (prF m f g a b % m) (c % m) = f (prF m f g a c / m) (prF m f g b c / m) * m + g (prF m f g a c % m) (prF m f g b c % m)
    rw [(A a b ha hb).1, (A a b ha hb).2.1, (A a c ha hc).1, (A a c ha hc).2.1, (A b c hb hc).1, (A b c hb hc).2.1, F.r3 _ _ _ a1 b1 c1, G.r3 _ _ _ a2 b2 c2]
theorem Hg (hm : 0 < m) (F : GoodF n f) (G : GoodF m g) {a b : Nat} (ha : a < n * m) (hb : b < n * m) : dv (n * m) (prF m f g) a b = prF m (dv n f) (dv m g) a b:=by
  have PG:=Uj hm F G
  have hx:=(Uj hm (ZF F) (ZF G)).lt a b ha hb
  obtain ⟨a1, a2, a3⟩:=Y1 hm ha
  obtain ⟨b1, b2, _⟩:=Y1 hm hb
  obtain ⟨d1, d2, _⟩:=Zd F.toCol a1 b1
  obtain ⟨c1, c2, _⟩:=Zd G.toCol a2 b2
  have e : prF m f g (prF m (dv n f) (dv m g) a b) b = a:=by
    obtain ⟨s1, s2⟩:=GB (u:=dv n f (a / m) (b / m)) c1
    show f ((dv n f (a / m) (b / m) * m + dv m g (a % m) (b % m)) / m) (b / m) * m + g ((dv n f (a / m) (b / m) * m + dv m g (a % m) (b % m)) % m) (b % m) = a
    rw [s1, s2, d2, c2, a3]
  have:=Vo PG.toCol hx hb
  rw [e] at this
  exact this
theorem BJ {v : Nat} (hv : v < n) : ix (X6 0 (n : Int)) (v : Int) = (v : Int):=by
  have hm : (v : Int) ∈ X6 0 (n : Int):=by
    rw [Yp, Qd]
    exact List.mem_map.mpr ⟨v, List.mem_range.mpr hv, rfl⟩
  obtain ⟨h1, h2, _⟩:=List.findIdx?_eq_some_iff_getElem.mp (GG hm)
  unfold ix
  have h3 : (X6 0 (n : Int))[((X6 0 (n : Int)).findIdx? λb=>decide (b = (v : Int))).getD 0]? = some (v : Int):=by
    rw [List.getElem?_eq_getElem h1, of_decide_eq_true h2]
  generalize ((X6 0 (n : Int)).findIdx? λb=>decide (b = (v : Int))).getD 0 = k at *
  have hk : k < n:=by rw [Yp, Y6] at h1; exact h1
  rw [Yp] at h3
  have h4 : (lst n λx=>x)[k]? = some (k : Int):=YI hk
  rw [h4] at h3
  exact Option.some.inj h3
theorem CH (hn : n <= 1000) (hf : ∀ a b, a < n -> b < n -> f a b < n) (h0 : 0 < n) : Mem (n + m) (Yt n f g) (X6 0 (n : Int)) /\ IY (Yt n f g) (X6 0 (n : Int)) = XA n f:=by
  have hi : ∀ i j, i < n -> j < n -> Yt n f g i j = f i j:=λi j h1 h2=>Ic h1 h2
  have hmem : ∀ x, x ∈ X6 0 (n : Int) ↔ ∃ i : Nat, i < n /\ x = i:=λx=>by
    rw [Yp, Qd, List.mem_map]
    exact ⟨λr9=>by obtain ⟨i, h1, h2⟩:=r9; exact ⟨i, List.mem_range.mp h1, h2.symm⟩, λr9=>by obtain ⟨i, h1, h2⟩:=r9; exact ⟨i, List.mem_range.mpr h1, h2.symm⟩⟩
  refine ⟨⟨λx hx=>?_, λz=>?_, ?_, λi j h1 h2=>?_, ?_⟩, ?_⟩
  . obtain ⟨i, h1, h2⟩ := (hmem x).mp hx
    exact ⟨i, by omega, h2⟩
  . have := (hmem 0).mpr ⟨0, h0, rfl⟩
    rw [z] at this
    cases this
  . rw [Yp, Qd]
    exact List.Pairwise.map _ (λa b h e=>h (Int.ofNat.inj e)) List.nodup_range
  . obtain ⟨i', a1, a2⟩ := (hmem _).mp h1
    obtain ⟨j', b1, b2⟩:=(hmem _).mp h2
    have a3 : i = i':=by omega
    have b3 : j = j':=by omega
    subst a3 b3
    rw [hi i j a1 b1]
    exact (hmem _).mpr ⟨_, hf i j a1 b1, rfl⟩
  . rw [Yp, Y6]; exact hn
  . unfold IY
    have e : X6 0 (n : Int) = (List.range n).map λ(i : Nat)=>(i : Int):=by rw [Yp, Qd]
    rw [show (X6 0 (n : Int)).map (λx=>(X6 0 (n : Int)).map λy=>ix (X6 0 (n : Int)) ((Yt n f g x.toNat y.toNat : Nat) : Int)) = (List.range n).map λi=>(List.range n).map λj=>ix (X6 0 (n : Int)) ((Yt n f g i j : Nat) : Int) by
      rw [e, List.map_map]
      refine List.map_congr_left λi _=>?_
      show List.map _ _ = _
      rw [List.map_map]
      rfl]
    unfold XA Yb
    refine List.map_congr_left λi h1=>List.map_congr_left λj h2=>?_
    have h1:=List.mem_range.mp h1
    have h2:=List.mem_range.mp h2
    rw [hi i j h1 h2, BJ (hf i j h1 h2)]
end
section
variable {n m : Nat} {f g : Nat -> Nat -> Nat} {p q r : Nat -> Nat}
theorem UF.uniq {E : Nat -> Nat -> Prop} (u : UF n E p) (v : UF n E q) {x : Nat} (hx : x < n) : p x = q x:=by
  have h1 : q (p x) = q x:=((u.con (λy=>q y = q x) (λa b e=>by rw [v.eq a b e]) x hx).mp rfl)
  have h2 : p (q x) = p x:=((v.con (λy=>p y = p x) (λa b e=>by rw [u.eq a b e]) x hx).mp rfl)
  have h3:=v.le (p x) (u.lt x hx)
  have h4:=u.le (q x) (v.lt x hx)
  omega
noncomputable def cmb (n : Nat) (p q : Nat -> Nat) (x : Nat) : Nat:=if x < n then p x else n + q (x - n)
theorem IM (u : UF n (Lk n f) p) (v : UF m (Lk m g) q) (hf : ∀ a b, a < n -> b < n -> f a b < n) (hg : ∀ a b, a < m -> b < m -> g a b < m) : UF (n + m) (Lk (n + m) (Yt n f g)) (cmb n p q):=by
  have lo : ∀ x, x < n -> cmb n p q x = p x:=λx h=>if_pos h
  have hi : ∀ x, ¬ x < n -> cmb n p q x = n + q (x - n):=λx h=>if_neg h
  refine ⟨λx hx=>?_, λx hx=>?_, λx hx=>?_, λx y e=>?_, λP hP x hx=>?_⟩
  . by_cases h : x < n
    . rw [lo x h]; have:=u.lt x h; omega
    . rw [hi x h]; have:=v.lt (x - n) (by omega); omega
  . by_cases h : x < n
    . rw [lo x h]; exact u.le x h
    . rw [hi x h]; have:=v.le (x - n) (by omega); omega
  . by_cases h : x < n
    . rw [lo x h, lo _ (u.lt x h)]; exact u.id x h
    . rw [hi x h, hi _ (by omega), Nat.add_sub_cancel_left, v.id _ (by omega)]
  . obtain ⟨hx, b, hb, rfl⟩ := e
    by_cases h1 : x < n <;> by_cases h2 : b < n
    . rw [Ic h1 h2, lo x h1, lo _ (hf x b h1 h2)]
      exact u.eq x _ ⟨h1, b, h2, rfl⟩
    . rw [LH h1 h2]
    . rw [LC h1 h2]
    . rw [Lo h1 h2, hi x h1, hi _ (by omega), Nat.add_sub_cancel_left]
      exact congrArg _ (v.eq _ _ ⟨by omega, b - n, by omega, rfl⟩)
  . by_cases h : x < n
    . rw [lo x h]
      refine u.con P (λa b e=>hP a b ?_) x h
      obtain ⟨h1, c, h2, rfl⟩:=e
      exact ⟨by omega, c, by omega, (Ic h1 h2).symm⟩
    . rw [hi x h]
      have:=v.con (λz=>P (n + z)) (λa b e=>hP _ _ ?_) (x - n) (by omega)
      . rw [show n + (x - n) = x by omega] at this
        exact this
      . obtain ⟨h1, c, h2, rfl⟩ := e
        refine ⟨by omega, n + c, by omega, ?_⟩
        rw [Lo (by omega) (by omega), Nat.add_sub_cancel_left, Nat.add_sub_cancel_left]
theorem Qx : List.range (n + m) = List.range n ++ (List.range m).map (n + ·):=List.range_add ..
theorem Es {i : Nat} (h : i < n) : cls (n + m) (cmb n p q) (i : Int) = cls n p (i : Int):=by
  unfold cls
  rw [Qx, List.filter_append, List.map_append]
  have e1 : (List.range n).filter (λx=>decide (((cmb n p q x : Nat) : Int) = (i : Int))) = (List.range n).filter λx=>decide (((p x : Nat) : Int) = (i : Int)):=
    List.filter_congr λx hx=>by rw [show cmb n p q x = p x from if_pos (List.mem_range.mp hx)]
  have e2 : ((List.range m).map (n + ·)).filter (λx=>decide (((cmb n p q x : Nat) : Int) = (i : Int))) = []:=by
    rw [List.filter_eq_nil_iff]
    intro x hx
    obtain ⟨y, hy, rfl⟩:=List.mem_map.mp hx
    have : cmb n p q (n + y) = n + q (n + y - n):=if_neg (by omega)
    rw [this]
    simp
    omega
  rw [e1, e2, List.map_nil, List.append_nil]
theorem EE (hp : ∀ x, x < n -> p x < n) {j : Nat} : cls (n + m) (cmb n p q) ((n + j : Nat) : Int) = (cls m q (j : Int)).map λx=>(n : Int) + x:=by
  unfold cls
  rw [Qx, List.filter_append, List.map_append]
  have e1 : (List.range n).filter (λx=>decide (((cmb n p q x : Nat) : Int) = ((n + j : Nat) : Int))) = []:=by
    rw [List.filter_eq_nil_iff]
    intro x hx
    have hx:=List.mem_range.mp hx
    have:=hp x hx
    rw [show cmb n p q x = p x from if_pos hx]
    simp
    omega
  rw [e1, List.map_nil, List.nil_append, List.filter_map, List.map_map, List.map_map]
  have e2 : ((λx=>decide (((cmb n p q x : Nat) : Int) = ((n + j : Nat) : Int))) ∘ λx=>n + x) = λx=>decide (((q x : Nat) : Int) = (j : Int)):=by
    funext y
    show decide (((cmb n p q (n + y) : Nat) : Int) = ((n + j : Nat) : Int)) = _
    rw [show cmb n p q (n + y) = n + q (n + y - n) from if_neg (by omega), Nat.add_sub_cancel_left, decide_eq_decide]
    omega
  rw [e2]
  refine List.map_congr_left λx _=>?_
  show ((n + x : Nat) : Int) = (n : Int) + (x : Int)
  omega
theorem DB (hp : ∀ x, x < n -> p x < n) : (Vf (n + m) (cmb n p q)).map (cls (n + m) (cmb n p q)) = (Vf n p).map (cls n p) ++ ((Vf m q).map (cls m q)).map λl=>l.map λx=>(n : Int) + x:=by
  unfold Vf
  rw [Qx, List.map_append, List.filter_append, List.map_append]
  congr 1
  . have e : ((List.range n).map λ(i : Nat)=>(i : Int)).filter (λv=>decide (0 < (cls (n + m) (cmb n p q) v).length)) = ((List.range n).map λ(i : Nat)=>(i : Int)).filter λv=>decide (0 < (cls n p v).length):=
      List.filter_congr λv hv=>by
        obtain ⟨i, hi, rfl⟩:=List.mem_map.mp hv
        rw [Es (List.mem_range.mp hi)]
    rw [e]
    refine List.map_congr_left λv hv=>?_
    obtain ⟨i, hi, rfl⟩:=List.mem_map.mp (List.mem_filter.mp hv).1
    exact Es (List.mem_range.mp hi)
  . rw [List.map_map, List.filter_map, List.filter_map, List.map_map, List.map_map, List.map_map]
    have e : ((λv=>decide (0 < (cls (n + m) (cmb n p q) v).length)) ∘ ((λ(i : Nat)=>(i : Int)) ∘ λx=>n + x)) = ((λv=>decide (0 < (cls m q v).length)) ∘ λ(i : Nat)=>(i : Int)):=by
      funext j
      show decide (0 < (cls (n + m) (cmb n p q) ((n + j : Nat) : Int)).length) = decide (0 < (cls m q (j : Int)).length)
      rw [EE hp, List.length_map]
    rw [e]
    exact List.map_congr_left λj _=>EE hp
theorem K7 {l : Nat -> Nat} (h : ∀ x, x < n -> p x = l x) : (Vf n p).map (cls n p) = (Vf n l).map (cls n l):=by
  have e : ∀ v, cls n p v = cls n l v:=λv=>by
    unfold cls
    rw [List.filter_congr λx hx=>by rw [h x (List.mem_range.mp hx)]]
  have e2 : cls n p = cls n l:=funext e
  unfold Vf
  rw [e2]
theorem K4 (h24 : n + m <= 24) (hf : ∀ a b, a < n -> b < n -> f a b < n) (hg : ∀ a b, a < m -> b < m -> g a b < m) : ∃ A B, YD (XA n f) = .ok A /\ YD (XA m g) = .ok B /\ YD (XA (n + m) (Yt n f g)) = .ok (A ++ B.map λl=>l.map λx=>(n : Int) + x) /\ A.length <= 24 /\ B.length <= 24 /\ ∀ l ∈ B, l.length <= 24:=by
  obtain ⟨p, u, e1⟩:=Q3 (by omega) hf
  obtain ⟨q, v, e2⟩:=Q3 (by omega) hg
  obtain ⟨r, w, e3⟩:=Q3 h24 (λa b=>Dp hf hg)
  have hl : ∀ {k : Nat} {l : Nat -> Nat}, ((Vf k l).map (cls k l)).length <= k:=fun {k l}=>by
    rw [List.length_map]
    refine Nat.le_trans (List.length_filter_le ..) ?_
    simp
  refine ⟨_, _, e1, e2, ?_, Nat.le_trans hl (by omega), Nat.le_trans hl (by omega), λl hl=>?_⟩
  . rw [e3, ← DB u.lt, K7 λx hx=>w.uniq (IM u v hf hg) hx]
  . obtain ⟨y, _, rfl⟩ := List.mem_map.mp hl
    unfold cls
    rw [List.length_map]
    refine Nat.le_trans (List.length_filter_le ..) ?_
    rw [List.length_range]; omega
end
section
variable {n m : Nat} {f g : Nat -> Nat -> Nat}
theorem IQ (ks : List Int) (x : Int) : KF ks x ≠ []:=by
  unfold KF
  split
  . rename_i h
    intro z
    rw [z] at h
    cases h
  . simp
theorem Vb (hn : n <= 4) (hm : m <= 4) (n0 : 0 < n) (m0 : 0 < m) (F : GoodF n f) (G : GoodF m g) : Y5 (XA n f) (XA m g) = .ok true:=by
  have hnm : n * m <= 24:=Nat.le_trans (Nat.mul_le_mul hn hm) (by decide)
  have SG:=Z9 F G
  have PG:=Uj m0 F G
  have e1:=Yc (Va F.toCol (show n <= 24 by omega))
  have e2:=Yc (Va G.toCol (show m <= 24 by omega))
  have e3:=Yc (Um (f:=f) (g:=g) (show n + m <= 24 by omega))
  have e4:=Yc (Va SG.toCol (show n + m <= 24 by omega))
  have e5:=Yc (Um (f:=dv n f) (g:=dv m g) (show n + m <= 24 by omega))
  have e6:=Yc (Vv (g:=g) m0 (show n <= 24 by omega) (show m <= 24 by omega) hnm F.lt)
  have e7:=Yc (Va PG.toCol hnm)
  have e8:=Yc (Vv (g:=dv m g) m0 (show n <= 24 by omega) (show m <= 24 by omega) hnm (ZF F).lt)
  have d1 : XA (n + m) (dv (n + m) (Yt n f g)) = XA (n + m) (Yt n (dv n f) (dv m g)):=XZ λx y hx hy=>Dh F G hx hy
  have d2 : XA (n * m) (dv (n * m) (prF m f g)) = XA (n * m) (prF m (dv n f) (dv m g)):=XZ λx y hx hy=>Hg m0 F G hx hy
  obtain ⟨M, eM⟩:=CH (m:=m) (g:=g) (show n <= 1000 by omega) F.lt n0
  have e9:=Yc (Cy M)
  obtain ⟨A, B, o1, o2, o3, lA, lB, lL⟩:=K4 (show n + m <= 24 by omega) F.lt G.lt
  unfold Y5
  simp only [Rs.okb]
  simp only [e1, e2, e3, e4, e5, e6, e7, e8, Rs.okb, d1, d2, Xj]
  rw [if_neg (by simp), if_neg (by simp), XL (by omega), Rs.okb, e9, Rs.okb, eM]
  rw [decide_eq_true rfl, Rs.okb, if_neg (by decide), Yc o2, Rs.okb, Q2 (h:=λl=>l.map λx=>(n : Int) + x) (sz (by simp; omega)), Rs.okb, List.nil_append, Yc o3, Rs.okb, Yc o1, Rs.okb]
  . have ec : Bc A (B.map λl => l.map λx => (n : Int) + x) = .ok (A ++ B.map λl => l.map λx => (n : Int) + x) := XL (sz (by rw [List.length_map]; omega))
    rw [ec, Rs.okb, decide_eq_true rfl]
  . intro r hr l hl
    rw [Y0 (h:=λx=>(n : Int) + x) (sz (Nat.le_trans (lL l hl) (by decide))) λ_ _=>rfl, Rs.okb, XL hr]
noncomputable def Tb (t : List (List Int)) : Prop:=∃ n f, 0 < n /\ n <= 10 /\ GoodF n f /\ t = XA n f
theorem Dz (hn : n <= 10) (hm : m <= 4) (n0 : 0 < n) (m0 : 0 < m) (F : GoodF n f) (G : GoodF m g) {r : List Int} (hr : r.length = 11) : Ok (V7 (XA n f) (XA m g) r) Tb:=by
  have get : ∀ i, i < 11 -> r[i]? = some (r[i]!):=λi hi=>by rw [List.getElem?_eq_getElem (by omega), getElem!_pos r i (by omega)]
  have hn0 : (0 : Int) < (n : Int):=Int.natCast_pos.mpr n0
  have hd : Ok (noE (ZI (XA n f))) Tb:=Ok.noE ⟨_, Va F.toCol (by omega), n, _, n0, hn, ZF F, rfl⟩
  unfold V7
  simp only [Rs.okb]
  rw [show atR r 0 = .ok (r[0]!) from ZM (get 0 (by decide)), show atR r 1 = .ok (r[1]!) from ZM (get 1 (by decide)), show atR r 2 = .ok (r[2]!) from ZM (get 2 (by decide)), Xj, Xj]
  simp only [Rs.okb]
  refine Ok.ite (λ_=>hd) λ_=>Ok.ite (λ_=>?_) λ_=>?_
  . rw [show Fh r (some 1) none = r.drop 1 from UA r (k := 1) (by omega)]
    refine Ok.bind (Ok.noE (VN (by omega) (by rw [List.length_drop]; omega))) λsp hsp=>?_
    obtain ⟨p, q, hp⟩:=hsp
    exact Ok.noE ⟨_, BY (by omega) F.lt hp, n, _, n0, hn, hp.1.good F, rfl⟩
  rw [Jl, Rs.okb]
  refine Ok.ite (λhc=>?_) λ_=>?_
  . have h := of_decide_eq_true (Bool.and_eq_true_iff.mp hc).2
    exact Ok.noE ⟨_, Um (by omega), n + m, _, by omega, by omega, Z9 F G, rfl⟩
  have hmul : VG (n : Int) (m : Int) = .ok ((n * m : Nat) : Int):=by
    have:=Mn (n:=n) (m:=m) (f:=f) (g:=g) (by omega)
    rwa [Xj, Xj] at this
  rw [hmul, Rs.okb, Jl, Rs.okb]
  refine Ok.ite (λhc=>?_) λ_=>?_
  . have h := of_decide_eq_true (Bool.and_eq_true_iff.mp hc).2
    have h' : n * m <= 10:=by omega
    exact Ok.noE ⟨_, Vv m0 (by omega) (by omega) (by omega) F.lt, n * m, _, Nat.mul_pos n0 m0, h', Uj m0 F G, rfl⟩
  refine Ok.ite (λ_=>?_) λ_=>?_
  . rw [YN hn0, Rs.okb, YN hn0, Rs.okb, Rs.okb, Rs.okb, XL (sz (by simp)), Rs.okb]
    have b1:=Int.emod_nonneg r[1]! (Int.ne_of_gt hn0)
    have b2:=Int.emod_lt_of_pos r[1]! hn0
    have b3:=Int.emod_nonneg r[2]! (Int.ne_of_gt hn0)
    have b4:=Int.emod_lt_of_pos r[2]! hn0
    refine Ok.bind (R:=λD=>∃ ks, Kn n ks /\ ks ≠ [] /\ D = Y3 ks /\ ∀ a ∈ ks, ∀ b ∈ ks, fI f a b ∈ ks) (Ok.bind (Ok.noE (Ec (λx hx=>?_) (by simp) (by omega) F.lt)) λD hD=>?_) λD hD=>?_
    . simp only [List.mem_cons, List.not_mem_nil, or_false] at hx
      rcases hx with rfl | rfl <;> exact ⟨by assumption, by assumption⟩
    . obtain ⟨ks, h1, h2, h3, h4⟩ := hD
      refine ⟨_, rfl, ks, h1, λz=>?_, h3, h4⟩
      have:=h2.len
      rw [z] at this
      have h5 : (KF (KF [] (r[1]! % (n : Int))) (r[2]! % (n : Int))).length = 0:=by
        have h6 : (0 : Nat) = (KF (KF [] (r[1]! % (n : Int))) (r[2]! % (n : Int))).length + D.2.length:=this
        omega
      exact IQ _ _ (List.length_eq_zero_iff.mp h5)
    . obtain ⟨ks, h1, h2, rfl, h4⟩ := hD
      have hmem : ∀ x, x ∈ Y3 ks ↔ x ∈ ks:=λx=>(YE ks).mem_iff
      have M : Mem n f (Y3 ks):=by
        refine ⟨λx hx=>?_, λz=>?_, (YE ks).nodup_iff.mpr h1.nd, λi j hi hj=>?_, ?_⟩
        . have := h1.ins x ((hmem x).mp hx)
          exact ⟨x.toNat, by omega, by omega⟩
        . have := (YE ks).length_eq
          rw [z] at this
          exact h2 (List.length_eq_zero_iff.mp this.symm)
        . exact (hmem _).mpr (h4 _ ((hmem _).mp hi) _ ((hmem _).mp hj))
        . rw [(YE ks).length_eq]; have:=h1.len; omega
      obtain ⟨h, eh, GH⟩:=B2 F M
      refine Ok.noE ⟨_, Cy M, _, h, List.length_pos_iff.mpr M.ne, ?_, GH, eh⟩
      rw [(YE ks).length_eq]; have:=h1.len; omega
  refine Ok.ite (λhc=>?_) λ_=>hd
  have h:=of_decide_eq_true hc
  exact Ok.noE ⟨_, Um (by omega), m + n, _, by omega, by omega, Z9 G F, rfl⟩
end
theorem BQ (ns : List Int) (_ : ns.length <= 63) : K6 ns = .ok true:=by
  unfold K6
  simp only [Rs.okb]
  apply Ok.eq
  refine Ok.bind (Ok.noE (GS ns (p:=0) (by decide) (most:=4) (by decide) (by decide))) λt ht=>?_
  obtain ⟨n, f, n0, hn, F, rfl⟩:=ht
  refine Ok.bind (Ok.noE (GS ns (p:=1) (by decide) (most:=4) (by decide) (by decide))) λt ht=>?_
  obtain ⟨m, g, m0, hm, G, rfl⟩:=ht
  rw [Yc (Vb hn hm n0 m0 F G), Yc (Vb hm hn m0 n0 G F), Rs.okb, show orR (Rs.ok !true) (Rs.ok !true) = .ok false from rfl, Rs.okb, if_neg Bool.false_ne_true, XL (sz (by simp)), Rs.okb]
  refine Ok.bind (R:=λk=>0 <= k /\ k < 6) (Ok.bind (Ok.noE (CT ns (by decide) _ (by simp) λx hx=>?_)) λr hr=>?_) λk hk=>?_
  . rw [List.mem_singleton.mp hx]; exact ⟨by decide, by decide⟩
  . have h0 : r[0]? = some (r[0]'(by rw [hr.1]; exact Nat.one_pos)) := List.getElem?_eq_getElem _
    exact ⟨_, ZM h0, hr.2 0 _ 6 h0 rfl⟩
  obtain ⟨k, rfl⟩ : ∃ i : Nat, k = i:=⟨k.toNat, by omega⟩
  rw [Qo (by omega), Rs.okb]
  refine Ok.bind (Ok.forC (λ_ t=>Tb t) ⟨n, f, n0, by omega, F, rfl⟩ λi x t hx ht=>?_) λc hc=>?_
  . obtain ⟨n', f', n0', hn', F', rfl⟩ := ht
    obtain ⟨j, hj, rfl⟩:=Ym (List.mem_of_getElem? hx)
    rw [XL (sz (by simp)), Rs.okb, Rs.okb, show Bp [(5040 : Int)] 10 = .ok (List.replicate 10 5040) from rfl, Rs.okb, show Bc [(6 : Int)] (List.replicate 10 5040) = .ok ([(6 : Int)] ++ List.replicate 10 5040) from XL (sz (by simp)), Rs.okb]
    obtain ⟨r, er, hr⟩:=Ok.noE (CT ns (p:=3 + (j : Int)) (by omega) ([(6 : Int)] ++ List.replicate 10 5040) (by simp) λx hx=>by
      have : x = 6 ∨ x = 5040:=by
        simp only [List.mem_append, List.mem_cons, List.not_mem_nil, or_false, List.mem_replicate] at hx
        omega
      rcases this with rfl | rfl <;> exact ⟨by decide, by decide⟩)
    rw [er, Rs.okb]
    obtain ⟨t, et, n2, f2, h1, h2, h3, rfl⟩:=Ok.noE (Dz hn' hm n0' m0 F' G (r:=r) (by rw [hr.1]; simp))
    obtain ⟨p, u, e1⟩:=Q3 (show n2 <= 24 by omega) h3.lt
    have e2:=DN (show n2 <= 24 by omega) h1 h3.lt u
    refine ⟨XA n2 f2, ?_, n2, f2, h1, h2, h3, rfl⟩
    rw [et, Rs.okb, Yc (E6 h3 (by omega)), Yc (DV h3 (by omega)), Rs.okb, Rs.okb, show orR (Rs.ok !true) (Rs.ok (none : Option (List Int)).isSome) = .ok false from rfl, Rs.okb, if_neg Bool.false_ne_true, Yc e1, Rs.okb, Yc e2, Rs.okb, decide_eq_true rfl]
    rfl
  . obtain ⟨t, rfl, _⟩ := hc
    exact ⟨_, rfl, rfl⟩
noncomputable def top (i : Nat) : Stmt:=PySem.Challenge.pw_plait_k29_whole_made_tables.main.body.getD i (.Pass ⟨0, 0, 0, 0⟩)
noncomputable abbrev ZA : Stmt:=top 6
noncomputable abbrev U4 : Stmt:=top 8
noncomputable abbrev UJ : Stmt:=top 9
noncomputable abbrev Zw : Stmt:=top 10
noncomputable abbrev Ut : Stmt:=top 11
noncomputable abbrev Ux : Stmt:=top 13
noncomputable abbrev ZQ : Stmt:=top 14
noncomputable abbrev VM : Stmt:=top 15
noncomputable abbrev JE : Stmt:=top 16
noncomputable abbrev JN : Stmt:=top 17
noncomputable abbrev Y8 : Stmt:=top 18
noncomputable abbrev Ue : Stmt:=top 20
noncomputable abbrev Zr : Stmt:=top 21
noncomputable abbrev YU : Stmt:=top 22
noncomputable abbrev Z6 : Stmt:=top 23
noncomputable abbrev Y4 : Stmt:=top 24
noncomputable abbrev GX : Stmt:=top 25
noncomputable abbrev Kq : Stmt:=top 26
noncomputable abbrev Dg : Stmt:=top 28
noncomputable abbrev HM : Stmt:=top 29
noncomputable abbrev Hu : Stmt:=top 30
noncomputable abbrev VC : Stmt:=top 31
noncomputable abbrev Uc : Stmt:=top 32
noncomputable abbrev GK : Stmt:=top 33
noncomputable abbrev J7 : Stmt:=top 34
noncomputable abbrev JL : Stmt:=top 35
noncomputable abbrev KR : Stmt:=top 36
noncomputable abbrev GA : Stmt:=top 37
noncomputable abbrev JM : Stmt:=top 38
noncomputable abbrev Co : Stmt:=top 39
noncomputable abbrev Qf : Stmt:=top 40
noncomputable abbrev Ua : Stmt:=top 41
theorem US {X : Cx} : PE X (.List [.List [.Constant (.int 0) 0 ⟨156, 17, 156, 18⟩, .Constant (.int 3) 0 ⟨156, 20, 156, 21⟩, .Constant (.int 1) 0 ⟨156, 23, 156, 24⟩, .Constant (.int 2) 0 ⟨156, 26, 156, 27⟩] ⟨156, 16, 156, 28⟩, .List [.Constant (.int 2) 0 ⟨156, 31, 156, 32⟩, .Constant (.int 1) 0 ⟨156, 34, 156, 35⟩, .Constant (.int 3) 0 ⟨156, 37, 156, 38⟩, .Constant (.int 0) 0 ⟨156, 40, 156, 41⟩] ⟨156, 30, 156, 42⟩, .List [.Constant (.int 3) 0 ⟨156, 45, 156, 46⟩, .Constant (.int 0) 0 ⟨156, 48, 156, 49⟩, .Constant (.int 2) 0 ⟨156, 51, 156, 52⟩, .Constant (.int 1) 0 ⟨156, 54, 156, 55⟩] ⟨156, 44, 156, 56⟩, .List [.Constant (.int 1) 0 ⟨156, 59, 156, 60⟩, .Constant (.int 2) 0 ⟨156, 62, 156, 63⟩, .Constant (.int 0) 0 ⟨156, 65, 156, 66⟩, .Constant (.int 3) 0 ⟨156, 68, 156, 69⟩] ⟨156, 58, 156, 70⟩] ⟨156, 15, 156, 71⟩) (BE (XG (BE (XG (tC (.int 0)) (XG (tC (.int 3)) (XG (tC (.int 1)) (XG (tC (.int 2)) Z1))))) (XG (BE (XG (tC (.int 2)) (XG (tC (.int 1)) (XG (tC (.int 3)) (XG (tC (.int 0)) Z1))))) (XG (BE (XG (tC (.int 3)) (XG (tC (.int 0)) (XG (tC (.int 2)) (XG (tC (.int 1)) Z1))))) (XG (BE (XG (tC (.int 1)) (XG (tC (.int 2)) (XG (tC (.int 0)) (XG (tC (.int 3)) Z1))))) Z1))))):=by
  refine YG ?_
  refine Uu ?_ ?_
  . exact YG (Xd Xi (Xd Xi (Xd Xi (Xd Xi Xf))))
  refine Uu ?_ ?_
  . exact YG (Xd Xi (Xd Xi (Xd Xi (Xd Xi Xf))))
  refine Uu ?_ ?_
  . exact YG (Xd Xi (Xd Xi (Xd Xi (Xd Xi Xf))))
  refine Uu ?_ ?_
  . exact YG (Xd Xi (Xd Xi (Xd Xi (Xd Xi Xf))))
  exact Xf
noncomputable def B8 : Scope:={ kind:=PySem.ScopeKind.function, names:=[ (PySem.Str.ofString ".0", PySem.NameKind.local), (PySem.Str.ofString "a", PySem.NameKind.cell), (PySem.Str.ofString "members", PySem.NameKind.free), (PySem.Str.ofString "places", PySem.NameKind.free), (PySem.Str.ofString "table", PySem.NameKind.free)], isGenerator:=false, isCoroutine:=false, more:=[] : PySem.Scope }
noncomputable def C8 : Scope:={ kind:=PySem.ScopeKind.function, names:=[ (PySem.Str.ofString ".0", PySem.NameKind.local), (PySem.Str.ofString "a", PySem.NameKind.cell), (PySem.Str.ofString "range", PySem.NameKind.globalImplicit), (PySem.Str.ofString "size", PySem.NameKind.free), (PySem.Str.ofString "table", PySem.NameKind.free)], isGenerator:=false, isCoroutine:=false, more:=[] : PySem.Scope }
structure Blt (mg : Str -> Option Value) : Prop where
  b_abs : mg "abs" = none
  b_dict : mg "dict" = none
  b_enumerate : mg "enumerate" = none
  b_len : mg "len" = none
  b_list : mg "list" = none
  b_min : mg "min" = none
  b_range : mg "range" = none
  b_set : mg "set" = none
  b_sorted : mg "sorted" = none
  c_MOST_COLOURS : ∃ u, mg "MOST_COLOURS" = some u /\ Yk (.int 24) u
section
variable {P : Program} {w : World} {K : PySem.W.Frag} {mg : Str -> Option Value} {base : Heap}
theorem Ve : FnScope ["most", "size"] ["most", "size"] (Xh ZA):=⟨rfl, rfl, rfl, by decide +kernel, rfl, by decide +kernel, by decide +kernel⟩
theorem VB (D : Def K mg "refuse_above" ZA ["most", "size"])  (Z : Blt mg) : Fn P w K mg base 1 "refuse_above" ["most", "size"] (sp2 Xb Xb oU X2 K):=by
  refine YM D Ve (λvs H Q E h=>?_) (λf cdv A outer s H vs Q E hr h=>?_)
  . obtain ⟨v_0, v_1, a_0, a_1, b, rfl, _⟩:=h; rfl
  obtain ⟨v_0, v_1, a_0, a_1, b, rfl, h_0, h_1, hm, q⟩:=h
  have hu:=hu8 hr
  have hu1:=YJ hr
  refine ⟨_, (Xc (Yx (Xq Da (pv 1) (pv 0) (XB _))
      (Xc GN
      Xe)
      Xe)
    Xe), ?_⟩
  refine LM (J:=({ oo:=λx3=>[], ss:=λx3=>[some v_0, some v_1], sc:=λg4 x3=>(SC.add (SC.add SC.nil K Xb v_0 a_0) K Xb v_1 a_1) } : Jn (Unit) (Unit))) (K:=K) (S:=(SC.add (SC.add SC.nil K Xb v_0 a_0) K Xb v_1 a_1)) (σ:=[some v_0, some v_1]) 0 ?_ (SC.i (SC.i SC.t h_0) h_1) hm q (λ_ _=>rfl)
  unfold X2
  exact (I9 (Xn (K:=K) (Ka (Xa (r:=Xb) 1 rfl (λ_ s=>s.r)) (Xa (r:=Xb) 0 rfl (λ_ s=>s.l.r)))) (XF (J:=_) () () rfl rfl (λ_ s=>(SC.i (SC.i SC.t s.l.r) s.r))))
theorem Jq : FnScope ["one", "other", "first", "second", "told", "a", "row"] ["one", "other"] (Xh U4):=⟨rfl, rfl, rfl, by decide +kernel, rfl, by decide +kernel, by decide +kernel⟩
theorem Hh (D : Def K mg "side" U4 ["one", "other"]) (g_refuse_above : Fn P w K mg base 1 "refuse_above" ["most", "size"] (sp2 Xb Xb oU X2 K)) (Z : Blt mg) : Fn P w K mg base 2 "side" ["one", "other"] (sp2 (rV (rV Xb)) (rV (rV Xb)) (oL (oL (oF Xb))) ZZ K):=by
  refine YM D Jq (λvs H Q E h=>?_) (λf cdv A outer s H vs Q E hr h=>?_)
  . obtain ⟨v_0, v_1, a_0, a_1, b, rfl, _⟩:=h; rfl
  obtain ⟨v_0, v_1, a_0, a_1, b, rfl, h_0, h_1, hm, q⟩:=h
  have hu:=hu8 hr
  have hu1:=YJ hr
  refine ⟨_, (Xc (XD (i:=2) Jq.nd rfl (Or.inr rfl) (Xu (Xm K rfl) rfl Z.b_len PySem.boot_len (Xd (pv 0) Xf)))
    (Xc (XD (i:=3) Jq.nd rfl (Or.inr rfl) (Xu (Xm K rfl) rfl Z.b_len PySem.boot_len (Xd (pv 1) Xf)))
    (Xc (Y2 (XR g_refuse_above hr (by decide) (Xd (Ej Z.c_MOST_COLOURS rfl) (Xd (Xy Yn (pv 2) (pv 3)) Xf))))
    (Xc (Ul 4 (Xh U4) ["one", "other", "first", "second", "told", "a", "row"] ["a", "row"] [(3, "second")] rfl Jq.nd rfl rfl (Zt rfl Z.b_enumerate (pv 0)) (K2 (by decide) (by decide)) (λcl C s H ex E=>⟨Gf K rfl rfl (XS (Xo (i:=0) (show List.Nodup (["a", "row", "second"] : List Str) by decide +kernel) rfl (Or.inl rfl)) (XS (Xo (i:=1) (show List.Nodup (["a", "row", "second"] : List Str) by decide +kernel) rfl (Or.inl rfl)) Zp)), Yr, (Xy Kw (pv 1) (Xy GV (YG (Xd (pv 0) Xf)) (pv 2)))⟩))
    (Xc (X3 PassesOwn.never rfl (Zt rfl Z.b_enumerate (pv 1)) (QM rfl (XS (Xo (i:=5) Jq.nd rfl (Or.inl rfl)) (XS (Xo (i:=6) Jq.nd rfl (Or.inl rfl)) Zp)))
      (Xc (Y2 (QL PySem.F.plainAttrs_list PySem.F.slot_list_append PySem.F.type_list_append YH (pv 4) (Xd (Xy Kw (Xy GV (YG (Xd (Xy Yn (pv 2) (pv 5)) Xf)) (pv 2)) (YK (sc:=(Xh U4)) (N0:=["one", "other", "first", "second", "told", "a", "row"]) (tns:=["colour"]) (caps:=[(2, "first")]) rfl (X1 (K:=K) rfl (pv 6)) (YA (by decide)) (λcl C s H ex E=>⟨Xo (i:=0) (show List.Nodup (["colour", "first"] : List Str) by decide +kernel) rfl (Or.inl rfl), Yr, (Xy Yn (pv 1) (pv 0))⟩))) Xf)))
      Xe))
    (Xc (Xs (pv 4))
    Xe)))))), ?_⟩
  refine YL (S:=(SC.add (SC.add SC.nil K (rV (rV Xb)) v_0 a_0) K (rV (rV Xb)) v_1 a_1)) (σ:=[some v_0, some v_1, none, none, none, none, none]) 1 ?_ (SC.i (SC.i SC.t h_0) h_1) hm q rfl
  unfold ZZ
  exact (XV (K:=K) (r:=Xb) 2 (EvB.sh (XU (Xa (r:=(rV (rV Xb))) 0 rfl (λ_ s=>s.l.r)))) λa1 v2=>(XV (K:=K) (r:=Xb) 3 (EvB.sh (XU (Xa (r:=(rV (rV Xb))) 1 rfl (λ_ s=>s.l.r)))) λa4 v5=>(F1 (Ev.toB (XC (Xg 24) (X0 (Xa (r:=Xb) 2 rfl (λ_ s=>s.l.r)) (Xa (r:=Xb) 3 rfl (λ_ s=>s.r))))) (Yz (K:=K) (o:=(oL (oL (oF Xb)))) 4 0 (Yu (λ_=>tg2 0 1) (YB (Xp (r:=(rV (rV Xb))) 0 rfl (λ_ s=>s.l.l.l.r))) (λC17 a18 v19=>(Kd (EvS.ls (Xp (r:=(rV Xb)) 1 rfl (λ_ s=>s.r))) (Ev.ls (Gu (Ev.ls (Z0 (XE (Xp (r:=Xb) 0 rfl (λ_ s=>s.l.r)) Zf))) (Xa (r:=Xb) 2 rfl (λ_ s=>s.l.l.r))))))) (Nat.le_of_ble_eq_true rfl) λa13 v14 C15=>(YY (K:=K) (J:=({ oo:=λx29=>[x29.2.2.2], ss:=λx29=>[some v_0, some v_1, some v2, some v5, some x29.2.2.1, x29.1, x29.2.1], sc:=λg30 x29=>(SC.addO (SC.add (SC.add (SC.add (SC.add SC.nil K (rV (rV Xb)) v_0 a_0) K (rV (rV Xb)) v_1 a_1) K Xb v2 a1) K Xb v5 a4) K (oL (oL (oF Xb))) x29.2.2.1 g30 x29.2.2.2) } : Jn ((List (List Int))) (Option V × Option V × V × List XM))) (λ_=>tg2 5 6) ((none), (none), v14, C15) (a13) (YB (Xp (r:=(rV (rV Xb))) 1 rfl (λ_ s=>s.l.l.l.r))) rfl rfl (λ_ s=>(SC.i (SC.i (SC.i (SC.i (SC.i SC.t s.l.l.l.l.r) s.l.l.l.r) s.l.l.r) s.l.r) s.r)) (λg31 x32 a33 v34=>(QZ (K:=K) (o:=(oL (oF Xb))) (f:=λa52=>(Rs.ok (a52))) 4 0 rfl rfl rfl (λ_ s=>s.l.l.r) (Kd (Ev.ls (Gu (Ev.ls (Z0 (XE (EvB.sh (X0 (Xa (r:=Xb) 2 rfl (λ_ s=>s.l.l.l.l.r)) (Xa (r:=Xb) 5 rfl (λ_ s=>s.l.r)))) Zf))) (Xa (r:=Xb) 2 rfl (λ_ s=>s.l.l.l.l.r)))) (Ev.ls (Yu (λ_=>tg1 0) (XQ (Xp (r:=(rV Xb)) 6 rfl (λ_ s=>s.r))) (λC44 a45 v46=>(EvS.ev (EvB.sh (X0 (Xa (r:=Xb) 1 rfl (λ_ s=>s.l.l.l.l.l.r)) (Xa (r:=Xb) 0 rfl (λ_ s=>s.r))))))))) λa50 C51=>(XF (J:=_) ((some v34.1), (some v34.2), x32.2.2.1, C51) ((g31 ++ [a50])) rfl rfl (λ_ s=>(SC.i (SC.i (SC.i (SC.i (SC.i SC.t s.l.l.l.l.l.l.l.r) s.l.l.l.l.l.l.r) s.l.l.l.l.l.r) s.l.l.l.l.r) s.r))))) λg53 x54=>(Xt (Zh (o:=(oL (oL (oF Xb)))) 4 0 rfl rfl (λ_ s=>s.r))))))))
theorem ZP : FnScope ["above", "row", "told", "colour"] ["above", "row"] (Xh Zw):=⟨rfl, rfl, rfl, by decide +kernel, rfl, by decide +kernel, by decide +kernel⟩
theorem UL (D : Def K mg "paired_row" Zw ["above", "row"])  (Z : Blt mg) : Fn P w K mg base 1 "paired_row" ["above", "row"] (sp2 (rV Xb) (rV Xb) (oL (oF Xb)) Yi K):=by
  refine YM D ZP (λvs H Q E h=>?_) (λf cdv A outer s H vs Q E hr h=>?_)
  . obtain ⟨v_0, v_1, a_0, a_1, b, rfl, _⟩:=h; rfl
  obtain ⟨v_0, v_1, a_0, a_1, b, rfl, h_0, h_1, hm, q⟩:=h
  have hu:=hu8 hr
  have hu1:=YJ hr
  refine ⟨_, (Xc (XD (i:=2) ZP.nd rfl (Or.inl rfl) (YG Xf))
    (Xc (X3 PassesOwn.never rfl (X1 (K:=K) rfl (pv 0)) (Xo (i:=3) ZP.nd rfl (Or.inr rfl))
      (Xc (Y2 (QL PySem.F.plainAttrs_list PySem.F.slot_list_extend PySem.F.type_list_extend DX (pv 2) (Xd (YK (sc:=(Xh Zw)) (N0:=["above", "row", "told", "colour"]) (tns:=["lower"]) (caps:=[(3, "colour"), (1, "row")]) rfl (X1 (K:=K) rfl (pv 1)) (YA (by decide)) (λcl C s H ex E=>⟨Xo (i:=0) (show List.Nodup (["lower", "colour", "row"] : List Str) by decide +kernel) rfl (Or.inl rfl), Yr, (Xy Yn (Xy Zx (pv 1) (Xu (Xm K rfl) rfl Z.b_len PySem.boot_len (Xd (pv 2) Xf))) (pv 0))⟩)) Xf)))
      Xe))
    (Xc (Xs (pv 2))
    Xe))), ?_⟩
  refine YL (S:=(SC.add (SC.add SC.nil K (rV Xb) v_0 a_0) K (rV Xb) v_1 a_1)) (σ:=[some v_0, some v_1, none, none]) 1 ?_ (SC.i (SC.i SC.t h_0) h_1) hm q rfl
  unfold Yi
  exact (Yz (K:=K) (o:=(oL (oF Xb))) 2 0 (UW (o:=(oF Xb))) (Nat.le_of_ble_eq_true rfl) λa1 v2 C3=>(YY (K:=K) (J:=({ oo:=λx4=>[x4.2.2], ss:=λx4=>[some v_0, some v_1, some x4.2.1, x4.1], sc:=λg5 x4=>(SC.addO (SC.add (SC.add SC.nil K (rV Xb) v_0 a_0) K (rV Xb) v_1 a_1) K (oL (oF Xb)) x4.2.1 g5 x4.2.2) } : Jn ((List Int)) (Option V × V × List XM))) (λ_=>tg1 3) ((none), v2, C3) (a1) (XQ (Xp (r:=(rV Xb)) 0 rfl (λ_ s=>s.l.l.r))) rfl rfl (λ_ s=>(SC.i (SC.i (SC.i SC.t s.l.l.r) s.l.r) s.r)) (λg6 x7 a8 v9=>(Lh (K:=K) (o:=(oF Xb)) (f:=λa21=>(Rs.ok (a21))) 2 0 rfl rfl rfl (λ_ s=>s.l.r) (Yu (λ_=>tg1 0) (XQ (Xp (r:=(rV Xb)) 1 rfl (λ_ s=>s.l.l.r))) (λC10 a11 v12=>(EvS.ev (EvB.sh (X0 (YW (Xa (r:=Xb) 1 rfl (λ_ s=>s.l.r)) (XU (Xa (r:=(rV Xb)) 2 rfl (λ_ s=>s.l.l.l.r)))) (Xa (r:=Xb) 0 rfl (λ_ s=>s.r))))))) λa19 C20=>(XF (J:=_) ((some v9), x7.2.1, C20) ((g6 ++ a19)) rfl rfl (λ_ s=>(SC.i (SC.i (SC.i SC.t s.l.l.l.l.r) s.l.l.l.r) s.r))))) λg22 x23=>(Xt (Zh (o:=(oL (oF Xb))) 2 0 rfl rfl (λ_ s=>s.r)))))
theorem QQ : FnScope ["one", "other", "told", "above", "row"] ["one", "other"] (Xh UJ):=⟨rfl, rfl, rfl, by decide +kernel, rfl, by decide +kernel, by decide +kernel⟩
theorem CB (D : Def K mg "paired" UJ ["one", "other"]) (g_refuse_above : Fn P w K mg base 1 "refuse_above" ["most", "size"] (sp2 Xb Xb oU X2 K)) (g_paired_row : Fn P w K mg base 1 "paired_row" ["above", "row"] (sp2 (rV Xb) (rV Xb) (oL (oF Xb)) Yi K)) (Z : Blt mg) : Fn P w K mg base 2 "paired" ["one", "other"] (sp2 (rV (rV Xb)) (rV (rV Xb)) (oL (oL (oF Xb))) Zm K):=by
  refine YM D QQ (λvs H Q E h=>?_) (λf cdv A outer s H vs Q E hr h=>?_)
  . obtain ⟨v_0, v_1, a_0, a_1, b, rfl, _⟩:=h; rfl
  obtain ⟨v_0, v_1, a_0, a_1, b, rfl, h_0, h_1, hm, q⟩:=h
  have hu:=hu8 hr
  have hu1:=YJ hr
  refine ⟨_, (Xc (Y2 (XR g_refuse_above hr (by decide) (Xd (Ej Z.c_MOST_COLOURS rfl) (Xd (Xy Zx (Xu (Xm K rfl) rfl Z.b_len PySem.boot_len (Xd (pv 0) Xf)) (Xu (Xm K rfl) rfl Z.b_len PySem.boot_len (Xd (pv 1) Xf))) Xf))))
    (Xc (XD (i:=2) QQ.nd rfl (Or.inl rfl) (YG Xf))
    (Xc (X3 PassesOwn.never rfl (X1 (K:=K) rfl (pv 0)) (Xo (i:=3) QQ.nd rfl (Or.inl rfl))
      (Xc (X3 PassesOwn.never rfl (X1 (K:=K) rfl (pv 1)) (Xo (i:=4) QQ.nd rfl (Or.inl rfl))
        (Xc (Y2 (QL PySem.F.plainAttrs_list PySem.F.slot_list_append PySem.F.type_list_append YH (pv 2) (Xd (XR g_paired_row hr (by decide) (Xd (pv 3) (Xd (pv 4) Xf))) Xf)))
        Xe))
      Xe))
    (Xc (Xs (pv 2))
    Xe)))), ?_⟩
  refine YL (S:=(SC.add (SC.add SC.nil K (rV (rV Xb)) v_0 a_0) K (rV (rV Xb)) v_1 a_1)) (σ:=[some v_0, some v_1, none, none, none]) 1 ?_ (SC.i (SC.i SC.t h_0) h_1) hm q rfl
  unfold Zm
  exact (F1 (Ev.toB (XC (Xg 24) (YW (XU (Xa (r:=(rV (rV Xb))) 0 rfl (λ_ s=>s.l.r))) (XU (Xa (r:=(rV (rV Xb))) 1 rfl (λ_ s=>s.r)))))) (Yz (K:=K) (o:=(oL (oL (oF Xb)))) 2 0 (UW (o:=(oL (oF Xb)))) (Nat.le_of_ble_eq_true rfl) λa9 v10 C11=>(YY (K:=K) (J:=({ oo:=λx12=>[x12.2.2.2], ss:=λx12=>[some v_0, some v_1, some x12.2.2.1, x12.1, x12.2.1], sc:=λg13 x12=>(SC.addO (SC.add (SC.add SC.nil K (rV (rV Xb)) v_0 a_0) K (rV (rV Xb)) v_1 a_1) K (oL (oL (oF Xb))) x12.2.2.1 g13 x12.2.2.2) } : Jn ((List (List Int))) (Option V × Option V × V × List XM))) (λ_=>tg1 3) ((none), (none), v10, C11) (a9) (XQ (Xp (r:=(rV (rV Xb))) 0 rfl (λ_ s=>s.l.l.r))) rfl rfl (λ_ s=>(SC.i (SC.i (SC.i SC.t s.l.l.r) s.l.r) s.r)) (λg14 x15 a16 v17=>(YY (K:=K) (J:=({ oo:=λx18=>[x18.2.2], ss:=λx18=>[some v_0, some v_1, some x18.2.1, some v17, x18.1], sc:=λg19 x18=>(SC.addO (SC.add (SC.add (SC.add SC.nil K (rV (rV Xb)) v_0 a_0) K (rV (rV Xb)) v_1 a_1) K (rV Xb) v17 a16) K (oL (oL (oF Xb))) x18.2.1 g19 x18.2.2) } : Jn ((List (List Int))) (Option V × V × List XM))) (λ_=>tg1 4) ((x15.2.1), x15.2.2.1, x15.2.2.2) (g14) (XQ (Xp (r:=(rV (rV Xb))) 1 rfl (λ_ s=>s.l.l.r))) rfl rfl (λ_ s=>(SC.i (SC.i (SC.i (SC.i SC.t s.l.l.l.r) s.l.l.r) s.r) s.l.r)) (λg20 x21 a22 v23=>(QZ (K:=K) (o:=(oL (oF Xb))) (f:=λa29=>(Rs.ok (a29))) 2 0 rfl rfl rfl (λ_ s=>s.l.r) (XC (Xa (r:=(rV Xb)) 3 rfl (λ_ s=>s.l.l.r)) (Xa (r:=(rV Xb)) 4 rfl (λ_ s=>s.r))) λa27 C28=>(XF (J:=_) ((some v23), x21.2.1, C28) ((g20 ++ [a27])) rfl rfl (λ_ s=>(SC.i (SC.i (SC.i (SC.i SC.t s.l.l.l.l.l.r) s.l.l.l.l.r) s.l.l.l.r) s.r))))) λg30 x31=>(XF (J:=_) ((some v17), (x31.1), x31.2.1, x31.2.2) (g30) rfl rfl (λ_ s=>(SC.i (SC.i (SC.i SC.t s.l.l.l.r) s.l.l.r) s.r))))) λg33 x34=>(Xt (Zh (o:=(oL (oL (oF Xb)))) 2 0 rfl rfl (λ_ s=>s.r))))))
theorem Qi : FnScope ["table", "places", "told", "a", "row", "b", "colour"] ["table", "places"] (Xh Ut):=⟨rfl, rfl, rfl, by decide +kernel, rfl, by decide +kernel, by decide +kernel⟩
theorem BU (D : Def K mg "moved" Ut ["table", "places"])  (Z : Blt mg) : Fn P w K mg base 1 "moved" ["table", "places"] (sp2 (rV (rV Xb)) (rV Xb) (oL (oL (oF Xb))) Jp K):=by
  refine YM D Qi (λvs H Q E h=>?_) (λf cdv A outer s H vs Q E hr h=>?_)
  . obtain ⟨v_0, v_1, a_0, a_1, b, rfl, _⟩:=h; rfl
  obtain ⟨v_0, v_1, a_0, a_1, b, rfl, h_0, h_1, hm, q⟩:=h
  have hu:=hu8 hr
  have hu1:=YJ hr
  refine ⟨_, (Xc (Ul 2 (Xh Ut) ["table", "places", "told", "a", "row", "b", "colour"] ["row"] [] rfl Qi.nd rfl rfl (X1 (K:=K) rfl (pv 0)) (YA (by decide)) (λcl C s H ex E=>⟨Xo (i:=0) (show List.Nodup (["row"] : List Str) by decide +kernel) rfl (Or.inl rfl), Yr, (Z3 (Q4 K rfl) rfl Z.b_list PyProof.Rows.boot_list (Xd (pv 0) Xf))⟩))
    (Xc (X3 PassesOwn.never rfl (Zt rfl Z.b_enumerate (pv 0)) (QM rfl (XS (Xo (i:=3) Qi.nd rfl (Or.inl rfl)) (XS (Xo (i:=4) Qi.nd rfl (Or.inl rfl)) Zp)))
      (Xc (X3 PassesOwn.never rfl (Zt rfl Z.b_enumerate (pv 4)) (QM rfl (XS (Xo (i:=5) Qi.nd rfl (Or.inl rfl)) (XS (Xo (i:=6) Qi.nd rfl (Or.inl rfl)) Zp)))
        (Xc (GE (XJ (Xk K rfl) (pv 1) (pv 6) (λ_ _=>rfl)) (Gk (XJ (Xk K rfl) (pv 2) (XJ (Xk K rfl) (pv 1) (pv 3) (λ_ _=>rfl)) (λ_ _=>rfl)) (XJ (Xk K rfl) (pv 1) (pv 5) (λ_ _=>rfl)) JG))
        Xe))
      Xe))
    (Xc (Xs (pv 2))
    Xe))), ?_⟩
  refine YL (S:=(SC.add (SC.add SC.nil K (rV (rV Xb)) v_0 a_0) K (rV Xb) v_1 a_1)) (σ:=[some v_0, some v_1, none, none, none, none, none]) 1 ?_ (SC.i (SC.i SC.t h_0) h_1) hm q rfl
  unfold Jp
  exact (Yz (K:=K) (o:=(oL (oL (oF Xb)))) 2 0 (Yu (λ_=>tg1 0) (XQ (Xp (r:=(rV (rV Xb))) 0 rfl (λ_ s=>s.l.r))) (λC4 a5 v6=>(DP (EvS.ls (Xp (r:=(rV Xb)) 0 rfl (λ_ s=>s.r)))))) (Nat.le_of_ble_eq_true rfl) λa1 v2 C3=>(YY (K:=K) (J:=({ oo:=λx10=>[x10.2.2.2.2.2], ss:=λx10=>[some v_0, some v_1, some x10.2.2.2.2.1, x10.1, x10.2.1, x10.2.2.1, x10.2.2.2.1], sc:=λg11 x10=>(SC.addO (SC.add (SC.add SC.nil K (rV (rV Xb)) v_0 a_0) K (rV Xb) v_1 a_1) K (oL (oL (oF Xb))) x10.2.2.2.2.1 g11 x10.2.2.2.2.2) } : Jn ((List (List Int))) (Option V × Option V × Option V × Option V × V × List XM))) (λ_=>tg2 3 4) ((none), (none), (none), (none), v2, C3) (a1) (YB (Xp (r:=(rV (rV Xb))) 0 rfl (λ_ s=>s.l.l.r))) rfl rfl (λ_ s=>(SC.i (SC.i (SC.i SC.t s.l.l.r) s.l.r) s.r)) (λg12 x13 a14 v15=>(YY (K:=K) (J:=({ oo:=λx17=>[x17.2.2.2], ss:=λx17=>[some v_0, some v_1, some x17.2.2.1, some v15.1, some v15.2, x17.1, x17.2.1], sc:=λg18 x17=>(SC.addO (SC.add (SC.add (SC.add (SC.add SC.nil K (rV (rV Xb)) v_0 a_0) K (rV Xb) v_1 a_1) K Xb v15.1 a14.1) K (rV Xb) v15.2 a14.2) K (oL (oL (oF Xb))) x17.2.2.1 g18 x17.2.2.2) } : Jn ((List (List Int))) (Option V × Option V × V × List XM))) (λ_=>tg2 5 6) ((x13.2.2.1), (x13.2.2.2.1), x13.2.2.2.2.1, x13.2.2.2.2.2) (g12) (YB (Xp (r:=(rV Xb)) 4 rfl (λ_ s=>s.r))) rfl rfl (λ_ s=>(SC.i (SC.i (SC.i (SC.i (SC.i SC.t s.l.l.l.l.r) s.l.l.l.r) s.l.r) s.r) s.l.l.r)) (λg19 x20 a21 v22=>(Kl (K:=K) (r:=Xb) 2 0 rfl rfl (λ_ s=>s.l.l.r) (EvB.sh (Xr (Xa (r:=(rV Xb)) 1 rfl (λ_ s=>s.l.l.l.l.l.r)) (Xa (r:=Xb) 6 rfl (λ_ s=>s.r)))) (Xr (Xa (r:=(rV Xb)) 1 rfl (λ_ s=>s.l.l.l.l.l.r)) (Xa (r:=Xb) 3 rfl (λ_ s=>s.l.l.l.l.r))) (Xr (Xa (r:=(rV Xb)) 1 rfl (λ_ s=>s.l.l.l.l.l.r)) (Xa (r:=Xb) 5 rfl (λ_ s=>s.l.r))) λa32 C33=>(XF (J:=_) ((some v22.1), (some v22.2), x20.2.2.1, C33) (a32) rfl rfl (λ_ s=>(SC.i (SC.i (SC.i (SC.i (SC.i SC.t s.l.l.l.l.l.l.l.r) s.l.l.l.l.l.l.r) s.l.l.l.l.l.r) s.l.l.l.l.r) s.r))))) λg36 x37=>(XF (J:=_) ((some v15.1), (some v15.2), (x37.1), (x37.2.1), x37.2.2.1, x37.2.2.2) (g36) rfl rfl (λ_ s=>(SC.i (SC.i (SC.i SC.t s.l.l.l.l.r) s.l.l.l.r) s.r))))) λg39 x40=>(Xt (Zh (o:=(oL (oL (oF Xb)))) 2 0 rfl rfl (λ_ s=>s.r)))))
theorem ZE : FnScope ["table", "known", "a", "b"] ["table", "known"] (Xh ZQ):=⟨rfl, rfl, rfl, by decide +kernel, rfl, by decide +kernel, by decide +kernel⟩
theorem VE (D : Def K mg "step_beyond" ZQ ["table", "known"])  (Z : Blt mg) : Fn P w K mg base 1 "step_beyond" ["table", "known"] (sp2 (rV (rV Xb)) (rDf FH) (oF (Zu (rP3 Xb Xb Xb))) XI K):=by
  refine YM D ZE (λvs H Q E h=>?_) (λf cdv A outer s H vs Q E hr h=>?_)
  . obtain ⟨v_0, v_1, a_0, a_1, b, rfl, _⟩:=h; rfl
  obtain ⟨v_0, v_1, a_0, a_1, b, rfl, h_0, h_1, hm, q⟩:=h
  have hu:=hu8 hr
  have hu1:=YJ hr
  refine ⟨_, (Xc (X3 PassesOwn.never rfl (DR (pv 1)) (Xo (i:=2) ZE.nd rfl (Or.inl rfl))
      (Xc (X3 PassesOwn.never rfl (DR (pv 1)) (Xo (i:=3) ZE.nd rfl (Or.inl rfl))
        (Xc (Yx (Lf (FN hu1 (XJ (Xk K rfl) (XJ (Xk K rfl) (pv 0) (pv 2) (λ_ _=>rfl)) (pv 3) (λ_ _=>rfl)) (pv 1)))
          (Xc (Xs (QO (Xd (XJ (Xk K rfl) (XJ (Xk K rfl) (pv 0) (pv 2) (λ_ _=>rfl)) (pv 3) (λ_ _=>rfl)) (Xd (pv 2) (Xd (pv 3) Xf)))))
          Xe)
          Xe)
        Xe))
      Xe))
    (Xc (Xs Qc)
    Xe)), ?_⟩
  refine YL (S:=(SC.add (SC.add SC.nil K (rV (rV Xb)) v_0 a_0) K (rDf FH) v_1 a_1)) (σ:=[some v_0, some v_1, none, none]) 0 ?_ (SC.i (SC.i SC.t h_0) h_1) hm q rfl
  unfold XI
  exact (Z7 (K:=K) (J:=({ oo:=λx2=>[], ss:=λx2=>[some v_0, some v_1, x2.1, x2.2], sc:=λg3 x2=>(SC.add (SC.add SC.nil K (rV (rV Xb)) v_0 a_0) K (rDf FH) v_1 a_1) } : Jn (Unit) (Option V × Option V))) (λ_=>tg1 2) ((none), (none)) () (VS (Xp (r:=(rDf FH)) 1 rfl (λ_ s=>s.r))) rfl rfl (λ_ s=>(SC.i (SC.i SC.t s.l.r) s.r)) (λg4 x5 a6 v7=>(QW (K:=K) (J:=({ oo:=λx9=>[], ss:=λx9=>[some v_0, some v_1, some v7, x9], sc:=λg10 x9=>(SC.add (SC.add (SC.add SC.nil K (rV (rV Xb)) v_0 a_0) K (rDf FH) v_1 a_1) K Xb v7 a6) } : Jn (Unit) (Option V))) (λ_=>tg1 3) ((x5.2)) () (VS (Xp (r:=(rDf FH)) 1 rfl (λ_ s=>s.l.r))) rfl rfl (λ_ s=>(SC.i (SC.i (SC.i SC.t s.l.l.r) s.l.r) s.r)) (λg11 x12 a13 v14=>(ZC (FI (K:=K) (Ci (Xr (Xr (Xa (r:=(rV (rV Xb))) 0 rfl (λ_ s=>s.l.l.l.r)) (Xa (r:=Xb) 2 rfl (λ_ s=>s.l.r))) (Xa (r:=Xb) 3 rfl (λ_ s=>s.r))) (Xa (r:=(rDf FH)) 1 rfl (λ_ s=>s.l.l.r)))) (Xt (QH L9 (EvS.ev (Bq (EvB.sh (Xr (Xr (Xa (r:=(rV (rV Xb))) 0 rfl (λ_ s=>s.l.l.l.r)) (Xa (r:=Xb) 2 rfl (λ_ s=>s.l.r))) (Xa (r:=Xb) 3 rfl (λ_ s=>s.r)))) (Xp (r:=Xb) 2 rfl (λ_ s=>s.l.r)) (Xp (r:=Xb) 3 rfl (λ_ s=>s.r)))))) (ZL (XF (J:=_) ((some v14)) () rfl rfl (λ_ s=>(SC.i (SC.i (SC.i SC.t s.l.l.l.r) s.l.l.r) s.l.r)))))) λg32 x33=>(ZL (XF (J:=_) ((some v7), (x33)) () rfl rfl (λ_ s=>(SC.i (SC.i SC.t s.l.l.r) s.l.r)))))) λg36 x37=>(Xt J6))
theorem Q7 : FnScope ["table", "some", "known", "steps", "step"] ["table", "some"] (Xh Ux):=⟨rfl, rfl, rfl, by decide +kernel, rfl, by decide +kernel, by decide +kernel⟩
theorem BZ (D : Def K mg "grown" Ux ["table", "some"]) (g_step_beyond : Fn P w K mg base 1 "step_beyond" ["table", "known"] (sp2 (rV (rV Xb)) (rDf FH) (oF (Zu (rP3 Xb Xb Xb))) XI K)) (Z : Blt mg) : Fn P w K mg base 2 "grown" ["table", "some"] (sp2 (rV (rV Xb)) (rV Xb) (oT2 (oL (oF Xb)) (oL (oF (rP3 Xb Xb Xb)))) Jf K):=by
  refine YM D Q7 (λvs H Q E h=>?_) (λf cdv A outer s H vs Q E hr h=>?_)
  . obtain ⟨v_0, v_1, a_0, a_1, b, rfl, _⟩:=h; rfl
  obtain ⟨v_0, v_1, a_0, a_1, b, rfl, h_0, h_1, hm, q⟩:=h
  have hu:=hu8 hr
  have hu1:=YJ hr
  refine ⟨_, (Xc (XD (i:=2) Q7.nd rfl (Or.inl rfl) (Z3 (Jw K rfl rfl) rfl Z.b_dict PyProof.Rows.boot_dict (Xd (YK (sc:=(Xh Ux)) (N0:=["table", "some", "known", "steps", "step"]) (tns:=["colour"]) (caps:=[]) rfl (X1 (K:=K) rfl (pv 1)) (YA (by decide)) (λcl C s H ex E=>⟨Xo (i:=0) (show List.Nodup (["colour"] : List Str) by decide +kernel) rfl (Or.inl rfl), Yr, (QO (Xd (pv 0) (Xd Jb Xf)))⟩)) Xf)))
    (Xc (XD (i:=3) Q7.nd rfl (Or.inl rfl) (YG Xf))
    (Xc (XD (i:=4) Q7.nd rfl (Or.inl rfl) (E5 2 (XR g_step_beyond hr (by decide) (Xd (pv 0) (Xd (pv 2) Xf)))))
    (Xc (UO PassesOwn.never (Xq UN (pv 4) Qc (XB _))
      (Xc (Y2 (QL PySem.F.plainAttrs_list PySem.F.slot_list_append PySem.F.type_list_append YH (pv 3) (Xd (pv 4) Xf)))
      (Xc (EX hu1 (pv 2) (XJ (UK K rfl) (pv 4) Xi (λ_ _=>rfl)) Jb rfl)
      (Xc (XD (i:=4) Q7.nd rfl (Or.inl rfl) (E5 2 (XR g_step_beyond hr (by decide) (Xd (pv 0) (Xd (pv 2) Xf)))))
      Xe))))
    (Xc (Xs (QO (Xd (Xu (JV rfl) rfl Z.b_sorted PyProof.Rows.boot_sorted (Xd (pv 2) Xf)) (Xd (pv 3) Xf))))
    Xe))))), ?_⟩
  refine YL (S:=(SC.add (SC.add SC.nil K (rV (rV Xb)) v_0 a_0) K (rV Xb) v_1 a_1)) (σ:=[some v_0, some v_1, none, none, none]) 2 ?_ (SC.i (SC.i SC.t h_0) h_1) hm q rfl
  unfold Jf
  exact (Yz (K:=K) (o:=(oD Yw)) 2 1 (G3 (Ev.ls (Yu (λ_=>tg1 0) (XQ (Xp (r:=(rV Xb)) 1 rfl (λ_ s=>s.r))) (λC5 a6 v7=>(EvS.ev (QT (Xp (r:=Xb) 0 rfl (λ_ s=>s.r)) (EvB.sh (ZO true)))))))) (Nat.le_of_ble_eq_true rfl) λa1 v2 C3=>(Yz (K:=K) (o:=(oL (oF (rP3 Xb Xb Xb)))) 3 0 (UW (o:=(oF (rP3 Xb Xb Xb)))) (Nat.le_of_ble_eq_true rfl) λa11 v12 C13=>(XV (K:=K) (r:=(Zu (rP3 Xb Xb Xb))) 4 (EvB.sh (Ev.toB (UR (K:=K) (r:=Yw) 2 1 rfl rfl (λ_ s=>s.l.r) (λ_=>Vm) (XC (Xa (r:=(rV (rV Xb))) 0 rfl (λ_ s=>s.l.l.l.l.r)) (Uo (Xa (r:=(rDf Yw)) 2 rfl (λ_ s=>s.r))))))) λa14 v15=>(UP (J:=({ oo:=λx21=>[x21.2.2.2.2, x21.2.2.2.1], ss:=λx21=>[some v_0, some v_1, some x21.1, some x21.2.2.1, some x21.2.1], sc:=λg22 x21=>(SC.addO (SC.add (SC.addO (SC.add (SC.add SC.nil K (rV (rV Xb)) v_0 a_0) K (rV Xb) v_1 a_1) K (oD Yw) x21.1 g22.1 x21.2.2.2.1) K (Zu (rP3 Xb Xb Xb)) x21.2.1 g22.2.1) K (oL (oF (rP3 Xb Xb Xb))) x21.2.2.1 g22.2.2 x21.2.2.2.2) } : Jn ((List (Int × Bool)) × (Option (Int × Int × Int)) × (List (Int × Int × Int))) (V × V × V × List XM × List XM))) (a_0.length + 2) (v2, v15, v12, C3, C13) (a1, a14, a11) rfl rfl (λ_ s=>(SC.i (SC.i (SC.i (SC.i (SC.i SC.t s.l.l.l.l.r) s.l.l.l.r) s.l.l.r) s.r) s.l.r)) (λg23 x24=>(Xn (K:=K) (JI (tb:=tC .non) (Xa (r:=(Zu (rP3 Xb Xb Xb))) 4 rfl (λ_ s=>s.l.r))))) (λg23 x24=>(QZ (K:=K) (o:=(oF (rP3 Xb Xb Xb))) (f:=λa28=>(Rs.bind (Rs.ok true) λx30=>(Rs.bind (Rs.bind (Rs.bind (Rs.ok g23.2.1) BC) λx29=>(Rs.ok x29.1)) λx31=>(chk (g23.1.length < sizeLine) ((λa32=>(Rs.bind (Rs.bind (Rs.ok a_0) λx39=>(Rs.bind (Rs.bind (Rs.ok a32) λx38=>(Rs.ok (List.map (λ(kx : Int × Bool)=>(kx.1, ())) x38))) λx40=>(noE (XI x39 x40)))) λa34=>(Rs.ok (a32, a34, a28)))) (Z4 g23.1 x31 x30)))))) 3 0 rfl rfl rfl (λ_ s=>s.r) (EvB.flat (Gj (Xa (r:=(Zu (rP3 Xb Xb Xb))) 4 rfl (λ_ s=>s.l.r)))) λa26 C27=>(EK (K:=K) (r:=Yw) (f:=λa32=>(Rs.bind (Rs.bind (Rs.ok a_0) λx39=>(Rs.bind (Rs.bind (Rs.ok a32) λx38=>(Rs.ok (List.map (λ(kx : Int × Bool)=>(kx.1, ())) x38))) λx40=>(noE (XI x39 x40)))) λa34=>(Rs.ok (a32, a34, (g23.2.2 ++ [a26]))))) 2 1 rfl rfl (λ_ s=>s.l.l.l.r) (EvB.sh (ZO true)) (HC (Gj (Xa (r:=(Zu (rP3 Xb Xb Xb))) 4 rfl (λ_ s=>s.l.l.r)))) λa32 C33=>(XV (K:=K) (r:=(Zu (rP3 Xb Xb Xb))) 4 (EvB.sh (Ev.toB (UR (K:=K) (r:=Yw) 2 1 rfl rfl (λ_ s=>s.r) (λ_=>Vm) (XC (Xa (r:=(rV (rV Xb))) 0 rfl (λ_ s=>s.l.l.l.l.l.l.l.r)) (Uo (Xa (r:=(rDf Yw)) 2 rfl (λ_ s=>s.r))))))) λa34 v35=>(XF (J:=_) (x24.1, v35, x24.2.2.1, C33, C27) (a32, a34, (g23.2.2 ++ [a26])) rfl rfl (λ_ s=>(SC.i (SC.i (SC.i (SC.i (SC.i SC.t s.l.l.l.l.l.l.l.r) s.l.l.l.l.l.l.r) s.l.r) s.r) s.l.l.r))))))) λg41 x42=>(Xt (B0 (DW (K:=K) (o1:=(oD Yw)) 1 rfl (λ_ s=>s.l.l.r) (BI (Xa (r:=(rD Yw)) 2 rfl (λ_ s=>s.r)))) λ_=>(Zh (o:=(oL (oF (rP3 Xb Xb Xb)))) 3 1 rfl rfl (λ_ s=>s.r))))))))
theorem CN : FnScope ["table", "members", "places"] ["table", "members"] (Xh VM):=⟨rfl, rfl, rfl, by decide +kernel, rfl, by decide +kernel, by decide +kernel⟩
theorem Hy (D : Def K mg "part" VM ["table", "members"]) (g_step_beyond : Fn P w K mg base 1 "step_beyond" ["table", "known"] (sp2 (rV (rV Xb)) (rDf FH) (oF (Zu (rP3 Xb Xb Xb))) XI K)) (Z : Blt mg) : Fn P w K mg base 2 "part" ["table", "members"] (sp2 (rV (rV Xb)) (rV Xb) (oL (oL (oF Xb))) Jv K):=by
  refine YM D CN (λvs H Q E h=>?_) (λf cdv A outer s H vs Q E hr h=>?_)
  . obtain ⟨v_0, v_1, a_0, a_1, b, rfl, _⟩:=h; rfl
  obtain ⟨v_0, v_1, a_0, a_1, b, rfl, h_0, h_1, hm, q⟩:=h
  have hu:=hu8 hr
  have hu1:=YJ hr
  refine ⟨_, (Xc (XD (i:=2) CN.nd rfl (Or.inr rfl) (Z3 (Jw K rfl rfl) rfl Z.b_dict PyProof.Rows.boot_dict (Xd (YK (sc:=(Xh VM)) (N0:=["table", "members", "places"]) (tns:=["place", "member"]) (caps:=[]) rfl (Zt rfl Z.b_enumerate (pv 1)) (K2 (by decide) (by decide)) (λcl C s H ex E=>⟨Gf K rfl rfl (XS (Xo (i:=0) (show List.Nodup (["place", "member"] : List Str) by decide +kernel) rfl (Or.inl rfl)) (XS (Xo (i:=1) (show List.Nodup (["place", "member"] : List Str) by decide +kernel) rfl (Or.inl rfl)) Zp)), Yr, (QO (Xd (pv 1) (Xd (pv 0) Xf)))⟩)) Xf)))
    (Xc (Yx (PW.pt (HZ (Xq ZX (Xu (Xm K rfl) rfl Z.b_len PySem.boot_len (Xd (pv 1) Xf)) Xi (XB _)) (FY (Xq UN (E5 2 (XR g_step_beyond hr (by decide) (Xd (pv 0) (Xd (pv 2) Xf)))) Qc (XB _)))))
      (Xc GN
      Xe)
      Xe)
    (Xc (Xs (JH (sc:=(Xh VM)) (N0:=["table", "members", "places"]) (tns:=["a"]) (caps:=[(2, "places"), (0, "table"), (1, "members")]) rfl (X1 (K:=K) rfl (pv 1)) (YA (by decide)) (λcl C s H ex E=>⟨Xo (i:=0) (show List.Nodup (["a", "places", "table", "members"] : List Str) by decide +kernel) rfl (Or.inr rfl) (hf:=Or.inl rfl), Yr, (JH (sc:=(Ls B8 (Xh VM))) (N0:=["a", "places", "table", "members"]) (tns:=["b"]) (caps:=[(1, "places"), (2, "table"), (0, "a")]) rfl (X1 (K:=K) rfl (pv 3)) (YA (by decide)) (λcl C s H ex E=>⟨Xo (i:=0) (show List.Nodup (["b", "places", "table", "a"] : List Str) by decide +kernel) rfl (Or.inl rfl), Yr, (E4 hu1 (pv 1) (XJ (Xk K rfl) (XJ (Xk K rfl) (pv 2) (pv 3) (λ_ _=>rfl)) (pv 0) (λ_ _=>rfl)) (λ_ _=>rfl))⟩))⟩)))
    Xe))), ?_⟩
  refine YL (S:=(SC.add (SC.add SC.nil K (rV (rV Xb)) v_0 a_0) K (rV Xb) v_1 a_1)) (σ:=[some v_0, some v_1, none]) 1 ?_ (SC.i (SC.i SC.t h_0) h_1) hm q rfl
  unfold Jv
  exact (Yz (K:=K) (o:=(oD Xb)) 2 0 (G3 (Ev.ls (Yu (λ_=>tg2 0 1) (YB (Xp (r:=(rV Xb)) 1 rfl (λ_ s=>s.r))) (λC6 a7 v8=>(EvS.ev (QT (Xp (r:=Xb) 1 rfl (λ_ s=>s.r)) (Xp (r:=Xb) 0 rfl (λ_ s=>s.l.r)))))))) (Nat.le_of_ble_eq_true rfl) λa1 v2 C3=>(YQ (F8 (Xn (K:=K) (YT (XU (Xa (r:=(rV Xb)) 1 rfl (λ_ s=>s.l.r))) (Xg 0))) (Xn (K:=K) (JI (tb:=tC .non) (Ev.toB (UR (K:=K) (r:=Xb) 2 0 rfl rfl (λ_ s=>s.r) (λ_=>Vm) (XC (Xa (r:=(rV (rV Xb))) 0 rfl (λ_ s=>s.l.l.l.r)) (Uo (Xa (r:=(rDf Xb)) 2 rfl (λ_ s=>s.r))))))))) IT (Xt (Yu (λ_=>tg1 0) (XQ (Xp (r:=(rV Xb)) 1 rfl (λ_ s=>s.l.r))) (λC22 a23 v24=>(Yu (λ_=>tg1 0) (XQ (Xp (r:=(rV Xb)) 3 rfl (λ_ s=>s.l.l.r))) (λC26 a27 v28=>(EvS.ev (EvB.sh (BR (Qs (o:=(oD Xb)) 1 2 rfl rfl (λ_ s=>s.l.l.r)) (Xr (Xr (Xa (r:=(rV (rV Xb))) 2 rfl (λ_ s=>s.l.l.l.l.r)) (Xa (r:=Xb) 3 rfl (λ_ s=>s.l.r))) (Xa (r:=Xb) 0 rfl (λ_ s=>s.r)))))))))))))
theorem J4 : FnScope ["leasts", "least"] ["leasts", "least"] (Xh Y8):=⟨rfl, rfl, rfl, by decide +kernel, rfl, by decide +kernel, by decide +kernel⟩
theorem JX (D : Def K mg "colours_with" Y8 ["leasts", "least"])  (Z : Blt mg) : Fn P w K mg base 1 "colours_with" ["leasts", "least"] (sp2 (rV Xb) Xb (oL (oF Xb)) Yq K):=by
  refine YM D J4 (λvs H Q E h=>?_) (λf cdv A outer s H vs Q E hr h=>?_)
  . obtain ⟨v_0, v_1, a_0, a_1, b, rfl, _⟩:=h; rfl
  obtain ⟨v_0, v_1, a_0, a_1, b, rfl, h_0, h_1, hm, q⟩:=h
  have hu:=hu8 hr
  have hu1:=YJ hr
  refine ⟨_, (Xc (Xs (YK (sc:=(Xh Y8)) (N0:=["leasts", "least"]) (tns:=["colour", "found"]) (caps:=[(1, "least")]) rfl (Zt rfl Z.b_enumerate (pv 0)) (K2 (by decide) (by decide)) (λcl C s H ex E=>⟨Gf K rfl rfl (XS (Xo (i:=0) (show List.Nodup (["colour", "found", "least"] : List Str) by decide +kernel) rfl (Or.inl rfl)) (XS (Xo (i:=1) (show List.Nodup (["colour", "found", "least"] : List Str) by decide +kernel) rfl (Or.inl rfl)) Zp)), (FQ (Xq ZX (pv 1) (pv 2) (XB _))), (pv 0)⟩)))
    Xe), ?_⟩
  refine YL (S:=(SC.add (SC.add SC.nil K (rV Xb) v_0 a_0) K Xb v_1 a_1)) (σ:=[some v_0, some v_1]) 0 ?_ (SC.i (SC.i SC.t h_0) h_1) hm q rfl
  unfold Yq
  exact (Xt (Gv (λ_=>tg2 0 1) (YB (Xp (r:=(rV Xb)) 0 rfl (λ_ s=>s.l.r))) (λC2 a3 v4=>(Xn (K:=K) (YT (Xa (r:=Xb) 1 rfl (λ_ s=>s.r)) (Xa (r:=Xb) 2 rfl (λ_ s=>s.l.l.r))))) (λC2 a3 v4=>(EvS.ev (Xp (r:=Xb) 0 rfl (λ_ s=>s.l.r))))))
theorem UX : FnScope ["leasts", "one", "other", "low"] ["leasts", "one", "other"] (Xh JN):=⟨rfl, rfl, rfl, by decide +kernel, rfl, by decide +kernel, by decide +kernel⟩
theorem DF (D : Def K mg "joined" JN ["leasts", "one", "other"])  (Z : Blt mg) : Fn P w K mg base 1 "joined" ["leasts", "one", "other"] (sp3 (rV Xb) Xb Xb (oL (oF Xb)) Zk K):=by
  refine YM D UX (λvs H Q E h=>?_) (λf cdv A outer s H vs Q E hr h=>?_)
  . obtain ⟨v_0, v_1, v_2, a_0, a_1, a_2, b, rfl, _⟩:=h; rfl
  obtain ⟨v_0, v_1, v_2, a_0, a_1, a_2, b, rfl, h_0, h_1, h_2, hm, q⟩:=h
  have hu:=hu8 hr
  have hu1:=YJ hr
  refine ⟨_, (Xc (XD (i:=3) UX.nd rfl (Or.inr rfl) (Xu (Kb rfl) rfl Z.b_min PyProof.Rows.boot_min (Xd (pv 1) (Xd (pv 2) Xf))))
    (Xc (Xs (YK (sc:=(Xh JN)) (N0:=["leasts", "one", "other", "low"]) (tns:=["least"]) (caps:=[(1, "one"), (2, "other"), (3, "low")]) rfl (X1 (K:=K) rfl (pv 0)) (YA (by decide)) (λcl C s H ex E=>⟨Xo (i:=0) (show List.Nodup (["least", "one", "other", "low"] : List Str) by decide +kernel) rfl (Or.inl rfl), Yr, (B9 (Xq (Fm K rfl) (pv 0) (QO (Xd (pv 1) (Xd (pv 2) Xf))) rfl) (pv 3) (pv 0))⟩)))
    Xe)), ?_⟩
  refine YL (S:=(SC.add (SC.add (SC.add SC.nil K (rV Xb) v_0 a_0) K Xb v_1 a_1) K Xb v_2 a_2)) (σ:=[some v_0, some v_1, some v_2, none]) 0 ?_ (SC.i (SC.i (SC.i SC.t h_0) h_1) h_2) hm q rfl
  unfold Zk
  exact (XV (K:=K) (r:=Xb) 3 (EvB.sh (CG (Xa (r:=Xb) 1 rfl (λ_ s=>s.l.r)) (Xa (r:=Xb) 2 rfl (λ_ s=>s.r)))) λa1 v2=>(Xt (Yu (λ_=>tg1 0) (XQ (Xp (r:=(rV Xb)) 0 rfl (λ_ s=>s.l.l.l.r))) (λC5 a6 v7=>(LT (Xn (K:=K) (HB (Xa (r:=Xb) 0 rfl (λ_ s=>s.r)) (EL (Ev.toB (EvS.ev (QT (Xp (r:=Xb) 1 rfl (λ_ s=>s.l.l.l.r)) (Xp (r:=Xb) 2 rfl (λ_ s=>s.l.l.r)))))))) (EvS.ev (Xp (r:=Xb) 3 rfl (λ_ s=>s.l.r))) (EvS.ev (Xp (r:=Xb) 0 rfl (λ_ s=>s.r))))))))
theorem ZJ : FnScope ["table", "leasts", "a", "row", "colour"] ["table"] (Xh JE):=⟨rfl, rfl, rfl, by decide +kernel, rfl, by decide +kernel, by decide +kernel⟩
theorem Ct (D : Def K mg "orbits" JE ["table"]) (g_colours_with : Fn P w K mg base 1 "colours_with" ["leasts", "least"] (sp2 (rV Xb) Xb (oL (oF Xb)) Yq K)) (g_joined : Fn P w K mg base 1 "joined" ["leasts", "one", "other"] (sp3 (rV Xb) Xb Xb (oL (oF Xb)) Zk K)) (Z : Blt mg) : Fn P w K mg base 2 "orbits" ["table"] (sp1 (rV (rV Xb)) (oL (oL (oF Xb))) YD K):=by
  refine YM D ZJ (λvs H Q E h=>?_) (λf cdv A outer s H vs Q E hr h=>?_)
  . obtain ⟨v_0, a_0, b, rfl, _⟩:=h; rfl
  obtain ⟨v_0, a_0, b, rfl, h_0, hm, q⟩:=h
  have hu:=hu8 hr
  have hu1:=YJ hr
  refine ⟨_, (Xc (XD (i:=1) ZJ.nd rfl (Or.inr rfl) (Za rfl rfl rfl Z.b_list Z.b_range (Xd (Xu (Xm K rfl) rfl Z.b_len PySem.boot_len (Xd (pv 0) Xf)) Xf)))
    (Xc (X3 PassesOwn.never rfl (Zt rfl Z.b_enumerate (pv 0)) (QM rfl (XS (Xo (i:=2) ZJ.nd rfl (Or.inl rfl)) (XS (Xo (i:=3) ZJ.nd rfl (Or.inl rfl)) Zp)))
      (Xc (X3 PassesOwn.never rfl (X1 (K:=K) rfl (pv 3)) (Xo (i:=4) ZJ.nd rfl (Or.inl rfl))
        (Xc (XD (i:=1) ZJ.nd rfl (Or.inr rfl) (XR g_joined hr (by decide) (Xd (pv 1) (Xd (XJ (Xk K rfl) (pv 1) (pv 2) (λ_ _=>rfl)) (Xd (XJ (Xk K rfl) (pv 1) (pv 4) (λ_ _=>rfl)) Xf)))))
        Xe))
      Xe))
    (Xc (Xs (YK (sc:=(Xh JE)) (N0:=["table", "leasts", "a", "row", "colour"]) (tns:=["least"]) (caps:=[(1, "leasts")]) rfl (X1 (K:=K) rfl (Xu (Vn rfl) rfl Z.b_sorted PyProof.Rows.boot_sorted (Xd (Z3 (KU K rfl rfl) rfl Z.b_set PySem.Pv.boot_set (Xd (pv 1) Xf)) Xf))) (YA (by decide)) (λcl C s H ex E=>⟨Xo (i:=0) (show List.Nodup (["least", "leasts"] : List Str) by decide +kernel) rfl (Or.inl rfl), Yr, (XR g_colours_with hr (by decide) (Xd (pv 1) (Xd (pv 0) Xf)))⟩)))
    Xe))), ?_⟩
  refine YL (S:=(SC.add SC.nil K (rV (rV Xb)) v_0 a_0)) (σ:=[some v_0, none, none, none, none]) 0 ?_ (SC.i SC.t h_0) hm q rfl
  unfold YD
  exact (XV (K:=K) (r:=(rV Xb)) 1 (Ev.sh (Zc (XU (Xa (r:=(rV (rV Xb))) 0 rfl (λ_ s=>s.r))))) λa1 v2=>(YY (K:=K) (J:=({ oo:=λx6=>[], ss:=λx6=>[some v_0, some x6.2.2.2, x6.1, x6.2.1, x6.2.2.1], sc:=λg7 x6=>(SC.add (SC.add SC.nil K (rV (rV Xb)) v_0 a_0) K (rV Xb) x6.2.2.2 g7) } : Jn ((List Int)) (Option V × Option V × Option V × V))) (λ_=>tg2 2 3) ((none), (none), (none), v2) (a1) (YB (Xp (r:=(rV (rV Xb))) 0 rfl (λ_ s=>s.l.r))) rfl rfl (λ_ s=>(SC.i (SC.i SC.t s.l.r) s.r)) (λg8 x9 a10 v11=>(YY (K:=K) (J:=({ oo:=λx12=>[], ss:=λx12=>[some v_0, some x12.2, some v11.1, some v11.2, x12.1], sc:=λg13 x12=>(SC.add (SC.add (SC.add (SC.add SC.nil K (rV (rV Xb)) v_0 a_0) K Xb v11.1 a10.1) K (rV Xb) v11.2 a10.2) K (rV Xb) x12.2 g13) } : Jn ((List Int)) (Option V × V))) (λ_=>tg1 4) ((x9.2.2.1), x9.2.2.2) (g8) (XQ (Xp (r:=(rV Xb)) 3 rfl (λ_ s=>s.r))) rfl rfl (λ_ s=>(SC.i (SC.i (SC.i (SC.i SC.t s.l.l.l.r) s.l.r) s.r) s.l.l.r)) (λg14 x15 a16 v17=>(XV (K:=K) (r:=(rV Xb)) 1 (Ev.sh (Zl (Xa (r:=(rV Xb)) 1 rfl (λ_ s=>s.l.r)) (Xr (Xa (r:=(rV Xb)) 1 rfl (λ_ s=>s.l.r)) (Xa (r:=Xb) 2 rfl (λ_ s=>s.l.l.l.r))) (Xr (Xa (r:=(rV Xb)) 1 rfl (λ_ s=>s.l.r)) (Xa (r:=Xb) 4 rfl (λ_ s=>s.r))))) λa18 v19=>(XF (J:=_) ((some v17), v19) (a18) rfl rfl (λ_ s=>(SC.i (SC.i (SC.i (SC.i SC.t s.l.l.l.l.l.r) s.l.l.l.l.r) s.l.l.l.r) s.r))))) λg28 x29=>(XF (J:=_) ((some v11.1), (some v11.2), (x29.1), x29.2) (g28) rfl rfl (λ_ s=>(SC.i (SC.i SC.t s.l.l.l.r) s.r))))) λg31 x32=>(Xt (Yu (λ_=>tg1 0) (XQ (Ev.sh (B4 (EvS.ls (Xp (r:=(rV Xb)) 1 rfl (λ_ s=>s.r)))))) (λC34 a35 v36=>(XC (Xa (r:=(rV Xb)) 1 rfl (λ_ s=>s.l.r)) (Xa (r:=Xb) 0 rfl (λ_ s=>s.r))))))))
theorem Zi : FnScope ["table", "a", "row"] ["table"] (Xh Zr):=⟨rfl, rfl, rfl, by decide +kernel, rfl, by decide +kernel, by decide +kernel⟩
theorem Jy (D : Def K mg "breach_of_one" Zr ["table"])  (Z : Blt mg) : Fn P w K mg base 1 "breach_of_one" ["table"] (sp1 (rV (rV Xb)) (oF (Zu (rP2 Xb Xb))) Yg K):=by
  refine YM D Zi (λvs H Q E h=>?_) (λf cdv A outer s H vs Q E hr h=>?_)
  . obtain ⟨v_0, a_0, b, rfl, _⟩:=h; rfl
  obtain ⟨v_0, a_0, b, rfl, h_0, hm, q⟩:=h
  have hu:=hu8 hr
  have hu1:=YJ hr
  refine ⟨_, (Xc (X3 PassesOwn.never rfl (Zt rfl Z.b_enumerate (pv 0)) (QM rfl (XS (Xo (i:=1) Zi.nd rfl (Or.inl rfl)) (XS (Xo (i:=2) Zi.nd rfl (Or.inl rfl)) Zp)))
      (Xc (Yx (Xq Dw (XJ (Xk K rfl) (pv 2) (pv 1) (λ_ _=>rfl)) (pv 1) (XB _))
        (Xc (Xs (QO (Xd Xi (Xd (pv 1) Xf))))
        Xe)
        Xe)
      Xe))
    (Xc (Xs Qc)
    Xe)), ?_⟩
  refine YL (S:=(SC.add SC.nil K (rV (rV Xb)) v_0 a_0)) (σ:=[some v_0, none, none]) 0 ?_ (SC.i SC.t h_0) hm q rfl
  unfold Yg
  exact (Z7 (K:=K) (J:=({ oo:=λx2=>[], ss:=λx2=>[some v_0, x2.1, x2.2], sc:=λg3 x2=>(SC.add SC.nil K (rV (rV Xb)) v_0 a_0) } : Jn (Unit) (Option V × Option V))) (λ_=>tg2 1 2) ((none), (none)) () (YB (Xp (r:=(rV (rV Xb))) 0 rfl (λ_ s=>s.r))) rfl rfl (λ_ s=>(SC.i SC.t s.r)) (λg4 x5 a6 v7=>(ZC (Xn (K:=K) (KA (Xr (Xa (r:=(rV Xb)) 2 rfl (λ_ s=>s.r)) (Xa (r:=Xb) 1 rfl (λ_ s=>s.l.r))) (Xa (r:=Xb) 1 rfl (λ_ s=>s.l.r)))) (Xt (QH IR (EvS.ev (QT (EvB.sh (Xg 1)) (Xp (r:=Xb) 1 rfl (λ_ s=>s.l.r)))))) (ZL (XF (J:=_) ((some v7.1), (some v7.2)) () rfl rfl (λ_ s=>(SC.i SC.t s.l.l.r)))))) λg18 x19=>(Xt J6))
theorem ZV : FnScope ["column", "x", "colour"] ["column"] (Xh Z6):=⟨rfl, rfl, rfl, by decide +kernel, rfl, by decide +kernel, by decide +kernel⟩
theorem Ur (D : Def K mg "first_same" Z6 ["column"])  (Z : Blt mg) : Fn P w K mg base 1 "first_same" ["column"] (sp1 (rV Xb) (oF (Zu (rP2 Xb Xb))) YR K):=by
  refine YM D ZV (λvs H Q E h=>?_) (λf cdv A outer s H vs Q E hr h=>?_)
  . obtain ⟨v_0, a_0, b, rfl, _⟩:=h; rfl
  obtain ⟨v_0, a_0, b, rfl, h_0, hm, q⟩:=h
  have hu:=hu8 hr
  have hu1:=YJ hr
  refine ⟨_, (Xc (X3 PassesOwn.never rfl (Zt rfl Z.b_enumerate (pv 0)) (QM rfl (XS (Xo (i:=1) ZV.nd rfl (Or.inl rfl)) (XS (Xo (i:=2) ZV.nd rfl (Or.inl rfl)) Zp)))
      (Xc (Yx (Xq Kh (pv 2) (JS (JU K rfl) (pv 0) (Uh (Xy Yn (pv 1) Xi)) UC) rfl)
        (Xc (Xs (QO (Xd (pv 1) (Xd (QL PySem.F.plainAttrs_list PySem.F.slot_list_index PySem.F.type_list_index FX (pv 0) (Xd (pv 2) (Xd (Xy Yn (pv 1) Xi) Xf))) Xf))))
        Xe)
        Xe)
      Xe))
    (Xc (Xs Qc)
    Xe)), ?_⟩
  refine YL (S:=(SC.add SC.nil K (rV Xb) v_0 a_0)) (σ:=[some v_0, none, none]) 0 ?_ (SC.i SC.t h_0) hm q rfl
  unfold YR
  exact (Z7 (K:=K) (J:=({ oo:=λx2=>[], ss:=λx2=>[some v_0, x2.1, x2.2], sc:=λg3 x2=>(SC.add SC.nil K (rV Xb) v_0 a_0) } : Jn (Unit) (Option V × Option V))) (λ_=>tg2 1 2) ((none), (none)) () (YB (Xp (r:=(rV Xb)) 0 rfl (λ_ s=>s.r))) rfl rfl (λ_ s=>(SC.i SC.t s.r)) (λg4 x5 a6 v7=>(ZC (Xn (K:=K) (Lm (Xa (r:=Xb) 2 rfl (λ_ s=>s.r)) (Ev.toB (UH (EvS.ls (Xp (r:=(rV Xb)) 0 rfl (λ_ s=>s.l.l.r))) (JO (K:=K) (X0 (Xa (r:=Xb) 1 rfl (λ_ s=>s.l.r)) (Xg 1))) JF)))) (Xt (QH IR (EvS.ev (QT (Xp (r:=Xb) 1 rfl (λ_ s=>s.l.r)) (EvB.sh (Fc (Xa (r:=(rV Xb)) 0 rfl (λ_ s=>s.l.l.r)) (Xa (r:=Xb) 2 rfl (λ_ s=>s.r)) (X0 (Xa (r:=Xb) 1 rfl (λ_ s=>s.l.r)) (Xg 1)))))))) (ZL (XF (J:=_) ((some v7.1), (some v7.2)) () rfl rfl (λ_ s=>(SC.i SC.t s.l.l.r)))))) λg27 x28=>(Xt J6))
theorem Ze : FnScope ["table", "b", "pair"] ["table"] (Xh YU):=⟨rfl, rfl, rfl, by decide +kernel, rfl, by decide +kernel, by decide +kernel⟩
theorem JC (D : Def K mg "breach_of_two" YU ["table"]) (g_first_same : Fn P w K mg base 1 "first_same" ["column"] (sp1 (rV Xb) (oF (Zu (rP2 Xb Xb))) YR K)) (Z : Blt mg) : Fn P w K mg base 2 "breach_of_two" ["table"] (sp1 (rV (rV Xb)) (oF (Zu (rP4 Xb Xb Xb Xb))) Yf K):=by
  refine YM D Ze (λvs H Q E h=>?_) (λf cdv A outer s H vs Q E hr h=>?_)
  . obtain ⟨v_0, a_0, b, rfl, _⟩:=h; rfl
  obtain ⟨v_0, a_0, b, rfl, h_0, hm, q⟩:=h
  have hu:=hu8 hr
  have hu1:=YJ hr
  refine ⟨_, (Xc (X3 PassesOwn.never rfl (XN rfl Z.b_range (Xd (Xu (Xm K rfl) rfl Z.b_len PySem.boot_len (Xd (pv 0) Xf)) Xf)) (Xo (i:=1) Ze.nd rfl (Or.inr rfl))
      (Xc (XD (i:=2) Ze.nd rfl (Or.inl rfl) (XR g_first_same hr (by decide) (Xd (YK (sc:=(Xh YU)) (N0:=["table", "b", "pair"]) (tns:=["row"]) (caps:=[(1, "b")]) rfl (X1 (K:=K) rfl (pv 0)) (YA (by decide)) (λcl C s H ex E=>⟨Xo (i:=0) (show List.Nodup (["row", "b"] : List Str) by decide +kernel) rfl (Or.inl rfl), Yr, (XJ (Xk K rfl) (pv 0) (pv 1) (λ_ _=>rfl))⟩)) Xf)))
      (Xc (Yx (Xq UN (pv 2) Qc (XB _))
        (Xc (Xs (QO (Xd Xi (Xd (pv 1) (Xd (XJ (UK K rfl) (pv 2) Xi (λ_ _=>rfl)) (Xd (XJ (UK K rfl) (pv 2) Xi (λ_ _=>rfl)) Xf))))))
        Xe)
        Xe)
      Xe)))
    (Xc (Xs Qc)
    Xe)), ?_⟩
  refine YL (S:=(SC.add SC.nil K (rV (rV Xb)) v_0 a_0)) (σ:=[some v_0, none, none]) 0 ?_ (SC.i SC.t h_0) hm q rfl
  unfold Yf
  exact (Z7 (K:=K) (J:=({ oo:=λx3=>[], ss:=λx3=>[some v_0, x3.1, x3.2], sc:=λg4 x3=>(SC.add SC.nil K (rV (rV Xb)) v_0 a_0) } : Jn (Unit) (Option V × Option V))) (λ_=>tg1 1) ((none), (none)) () (Xz (XU (Xa (r:=(rV (rV Xb))) 0 rfl (λ_ s=>s.r)))) rfl rfl (λ_ s=>(SC.i SC.t s.r)) (λg5 x6 a7 v8=>(XV (K:=K) (r:=(Zu (rP2 Xb Xb))) 2 (EvB.sh (Ev.toB (X9 (Ev.toB (Yu (λ_=>tg1 0) (XQ (Xp (r:=(rV (rV Xb))) 0 rfl (λ_ s=>s.l.r))) (λC12 a13 v14=>(EvS.ev (EvB.sh (Xr (Xa (r:=(rV Xb)) 0 rfl (λ_ s=>s.r)) (Xa (r:=Xb) 1 rfl (λ_ s=>s.l.r))))))))))) λa9 v10=>(ZC (Xn (K:=K) (JI (tb:=tC .non) (Xa (r:=(Zu (rP2 Xb Xb))) 2 rfl (λ_ s=>s.r)))) (Xt (QH Ij (EvS.ev (Gp (EvB.sh (Xg 2)) (Xp (r:=Xb) 1 rfl (λ_ s=>s.l.r)) (EvB.sh (Hs (Gj (Xa (r:=(Zu (rP2 Xb Xb))) 2 rfl (λ_ s=>s.r))))) (EvB.sh (HQ (Gj (Xa (r:=(Zu (rP2 Xb Xb))) 2 rfl (λ_ s=>s.r))))))))) (ZL (XF (J:=_) ((some v8), (some v10)) () rfl rfl (λ_ s=>(SC.i SC.t s.l.l.r))))))) λg30 x31=>(Xt J6))
theorem XX : FnScope ["table", "a", "row", "b", "colour", "c"] ["table"] (Xh Y4):=⟨rfl, rfl, rfl, by decide +kernel, rfl, by decide +kernel, by decide +kernel⟩
theorem Q5 (D : Def K mg "breach_of_three" Y4 ["table"])  (Z : Blt mg) : Fn P w K mg base 1 "breach_of_three" ["table"] (sp1 (rV (rV Xb)) (oF (Zu (rP4 Xb Xb Xb Xb))) X5 K):=by
  refine YM D XX (λvs H Q E h=>?_) (λf cdv A outer s H vs Q E hr h=>?_)
  . obtain ⟨v_0, a_0, b, rfl, _⟩:=h; rfl
  obtain ⟨v_0, a_0, b, rfl, h_0, hm, q⟩:=h
  have hu:=hu8 hr
  have hu1:=YJ hr
  refine ⟨_, (Xc (X3 PassesOwn.never rfl (Zt rfl Z.b_enumerate (pv 0)) (QM rfl (XS (Xo (i:=1) XX.nd rfl (Or.inl rfl)) (XS (Xo (i:=2) XX.nd rfl (Or.inl rfl)) Zp)))
      (Xc (X3 PassesOwn.never rfl (Zt rfl Z.b_enumerate (pv 2)) (QM rfl (XS (Xo (i:=3) XX.nd rfl (Or.inl rfl)) (XS (Xo (i:=4) XX.nd rfl (Or.inl rfl)) Zp)))
        (Xc (X3 PassesOwn.never rfl (XN rfl Z.b_range (Xd (Xu (Xm K rfl) rfl Z.b_len PySem.boot_len (Xd (pv 0) Xf)) Xf)) (Xo (i:=5) XX.nd rfl (Or.inl rfl))
          (Xc (Yx (Xq Dw (XJ (Xk K rfl) (XJ (Xk K rfl) (pv 0) (pv 4) (λ_ _=>rfl)) (pv 5) (λ_ _=>rfl)) (XJ (Xk K rfl) (XJ (Xk K rfl) (pv 0) (XJ (Xk K rfl) (pv 2) (pv 5) (λ_ _=>rfl)) (λ_ _=>rfl)) (XJ (Xk K rfl) (XJ (Xk K rfl) (pv 0) (pv 3) (λ_ _=>rfl)) (pv 5) (λ_ _=>rfl)) (λ_ _=>rfl)) (XB _))
            (Xc (Xs (QO (Xd Xi (Xd (pv 1) (Xd (pv 3) (Xd (pv 5) Xf))))))
            Xe)
            Xe)
          Xe))
        Xe))
      Xe))
    (Xc (Xs Qc)
    Xe)), ?_⟩
  refine YL (S:=(SC.add SC.nil K (rV (rV Xb)) v_0 a_0)) (σ:=[some v_0, none, none, none, none, none]) 0 ?_ (SC.i SC.t h_0) hm q rfl
  unfold X5
  exact (Z7 (K:=K) (J:=({ oo:=λx2=>[], ss:=λx2=>[some v_0, x2.1, x2.2.1, x2.2.2.1, x2.2.2.2.1, x2.2.2.2.2], sc:=λg3 x2=>(SC.add SC.nil K (rV (rV Xb)) v_0 a_0) } : Jn (Unit) (Option V × Option V × Option V × Option V × Option V))) (λ_=>tg2 1 2) ((none), (none), (none), (none), (none)) () (YB (Xp (r:=(rV (rV Xb))) 0 rfl (λ_ s=>s.r))) rfl rfl (λ_ s=>(SC.i SC.t s.r)) (λg4 x5 a6 v7=>(QW (K:=K) (J:=({ oo:=λx9=>[], ss:=λx9=>[some v_0, some v7.1, some v7.2, x9.1, x9.2.1, x9.2.2], sc:=λg10 x9=>(SC.add (SC.add (SC.add SC.nil K (rV (rV Xb)) v_0 a_0) K Xb v7.1 a6.1) K (rV Xb) v7.2 a6.2) } : Jn (Unit) (Option V × Option V × Option V))) (λ_=>tg2 3 4) ((x5.2.2.1), (x5.2.2.2.1), (x5.2.2.2.2)) () (YB (Xp (r:=(rV Xb)) 2 rfl (λ_ s=>s.r))) rfl rfl (λ_ s=>(SC.i (SC.i (SC.i SC.t s.l.l.r) s.l.r) s.r)) (λg11 x12 a13 v14=>(QW (K:=K) (J:=({ oo:=λx17=>[], ss:=λx17=>[some v_0, some v7.1, some v7.2, some v14.1, some v14.2, x17], sc:=λg18 x17=>(SC.add (SC.add (SC.add (SC.add (SC.add SC.nil K (rV (rV Xb)) v_0 a_0) K Xb v7.1 a6.1) K (rV Xb) v7.2 a6.2) K Xb v14.1 a13.1) K Xb v14.2 a13.2) } : Jn (Unit) (Option V))) (λ_=>tg1 5) ((x12.2.2)) () (Xz (XU (Xa (r:=(rV (rV Xb))) 0 rfl (λ_ s=>s.l.l.l.l.r)))) rfl rfl (λ_ s=>(SC.i (SC.i (SC.i (SC.i (SC.i SC.t s.l.l.l.l.r) s.l.l.l.r) s.l.l.r) s.l.r) s.r)) (λg19 x20 a21 v22=>(ZC (Xn (K:=K) (KA (Xr (Xr (Xa (r:=(rV (rV Xb))) 0 rfl (λ_ s=>s.l.l.l.l.l.r)) (Xa (r:=Xb) 4 rfl (λ_ s=>s.l.r))) (Xa (r:=Xb) 5 rfl (λ_ s=>s.r))) (Xr (Xr (Xa (r:=(rV (rV Xb))) 0 rfl (λ_ s=>s.l.l.l.l.l.r)) (Xr (Xa (r:=(rV Xb)) 2 rfl (λ_ s=>s.l.l.l.r)) (Xa (r:=Xb) 5 rfl (λ_ s=>s.r)))) (Xr (Xr (Xa (r:=(rV (rV Xb))) 0 rfl (λ_ s=>s.l.l.l.l.l.r)) (Xa (r:=Xb) 3 rfl (λ_ s=>s.l.l.r))) (Xa (r:=Xb) 5 rfl (λ_ s=>s.r)))))) (Xt (QH Ij (EvS.ev (Gp (EvB.sh (Xg 3)) (Xp (r:=Xb) 1 rfl (λ_ s=>s.l.l.l.l.r)) (Xp (r:=Xb) 3 rfl (λ_ s=>s.l.l.r)) (Xp (r:=Xb) 5 rfl (λ_ s=>s.r)))))) (ZL (XF (J:=_) ((some v22)) () rfl rfl (λ_ s=>(SC.i (SC.i (SC.i (SC.i (SC.i SC.t s.l.l.l.l.l.r) s.l.l.l.l.r) s.l.l.l.r) s.l.l.r) s.l.r)))))) λg47 x48=>(ZL (XF (J:=_) ((some v14.1), (some v14.2), (x48)) () rfl rfl (λ_ s=>(SC.i (SC.i (SC.i SC.t s.l.l.l.l.r) s.l.l.l.r) s.l.l.r)))))) λg51 x52=>(ZL (XF (J:=_) ((some v7.1), (some v7.2), (x52.1), (x52.2.1), (x52.2.2)) () rfl rfl (λ_ s=>(SC.i SC.t s.l.l.r)))))) λg55 x56=>(Xt J6))
theorem Q6 : FnScope ["table", "wrong"] ["table"] (Xh Ue):=⟨rfl, rfl, rfl, by decide +kernel, rfl, by decide +kernel, by decide +kernel⟩
theorem Dd (D : Def K mg "broken" Ue ["table"]) (g_breach_of_one : Fn P w K mg base 1 "breach_of_one" ["table"] (sp1 (rV (rV Xb)) (oF (Zu (rP2 Xb Xb))) Yg K)) (g_breach_of_two : Fn P w K mg base 2 "breach_of_two" ["table"] (sp1 (rV (rV Xb)) (oF (Zu (rP4 Xb Xb Xb Xb))) Yf K)) (g_breach_of_three : Fn P w K mg base 1 "breach_of_three" ["table"] (sp1 (rV (rV Xb)) (oF (Zu (rP4 Xb Xb Xb Xb))) X5 K)) (Z : Blt mg) : Fn P w K mg base 3 "broken" ["table"] (sp1 (rV (rV Xb)) (oF (Zu (rPL Xb))) Qg K):=by
  refine YM D Q6 (λvs H Q E h=>?_) (λf cdv A outer s H vs Q E hr h=>?_)
  . obtain ⟨v_0, a_0, b, rfl, _⟩:=h; rfl
  obtain ⟨v_0, a_0, b, rfl, h_0, hm, q⟩:=h
  have hu:=hu8 hr
  have hu1:=YJ hr
  refine ⟨_, (Xc (XD (i:=1) Q6.nd rfl (Or.inl rfl) (XR g_breach_of_one hr (by decide) (Xd (pv 0) Xf)))
    (Xc (Yx (Xq Ei (pv 1) Qc (XB _))
      (Xc (XD (i:=1) Q6.nd rfl (Or.inl rfl) (XR g_breach_of_two hr (by decide) (Xd (pv 0) Xf)))
      Xe)
      Xe)
    (Xc (Yx (Xq Ei (pv 1) Qc (XB _))
      (Xc (XD (i:=1) Q6.nd rfl (Or.inl rfl) (XR g_breach_of_three hr (by decide) (Xd (pv 0) Xf)))
      Xe)
      Xe)
    (Xc (Xs (pv 1))
    Xe)))), ?_⟩
  refine YL (S:=(SC.add SC.nil K (rV (rV Xb)) v_0 a_0)) (σ:=[some v_0, none]) 0 ?_ (SC.i SC.t h_0) hm q rfl
  unfold Qg
  exact (XV (K:=K) (r:=(Zu (rPL Xb))) 1 (Ev.sh (Bv (X9 (Xa (r:=(rV (rV Xb))) 0 rfl (λ_ s=>s.r))))) λa1 v2=>(Vk (J:=({ oo:=λx8=>[], ss:=λx8=>[some v_0, some x8], sc:=λg9 x8=>(SC.add (SC.add SC.nil K (rV (rV Xb)) v_0 a_0) K (Zu (rPL Xb)) x8 g9) } : Jn ((Option (List Int))) (V))) (Kr (Fd:=FNd ({ oo:=λx8=>[], ss:=λx8=>[some v_0, some x8], sc:=λg9 x8=>(SC.add (SC.add SC.nil K (rV (rV Xb)) v_0 a_0) K (Zu (rPL Xb)) x8 g9) } : Jn ((Option (List Int))) (V))) (Xn (K:=K) (Ce (tb:=tC .non) (Xa (r:=(Zu (rPL Xb))) 1 rfl (λ_ s=>s.r)))) (XV (K:=K) (r:=(Zu (rPL Xb))) 1 (Ev.sh (Gz (X9 (Xa (r:=(rV (rV Xb))) 0 rfl (λ_ s=>s.l.r))))) λa10 v11=>(XF (J:=_) (v11) (a10) rfl rfl (λ_ s=>(SC.i (SC.i SC.t s.l.l.r) s.r)))) (XF (J:=_) (v2) (a1) rfl rfl (λ_ s=>(SC.i (SC.i SC.t s.l.r) s.r)))) λg16 x15=>(Vk (J:=({ oo:=λx19=>[], ss:=λx19=>[some v_0, some x19], sc:=λg20 x19=>(SC.add (SC.add SC.nil K (rV (rV Xb)) v_0 a_0) K (Zu (rPL Xb)) x19 g20) } : Jn ((Option (List Int))) (V))) (Kr (Fd:=FNd ({ oo:=λx19=>[], ss:=λx19=>[some v_0, some x19], sc:=λg20 x19=>(SC.add (SC.add SC.nil K (rV (rV Xb)) v_0 a_0) K (Zu (rPL Xb)) x19 g20) } : Jn ((Option (List Int))) (V))) (Xn (K:=K) (Ce (tb:=tC .non) (Xa (r:=(Zu (rPL Xb))) 1 rfl (λ_ s=>s.r)))) (XV (K:=K) (r:=(Zu (rPL Xb))) 1 (Ev.sh (Gz (X9 (Xa (r:=(rV (rV Xb))) 0 rfl (λ_ s=>s.l.r))))) λa21 v22=>(XF (J:=_) (v22) (a21) rfl rfl (λ_ s=>(SC.i (SC.i SC.t s.l.l.r) s.r)))) (XF (J:=_) (x15) (g16) rfl rfl (λ_ s=>(SC.i (SC.i SC.t s.l.r) s.r)))) λg27 x26=>(Xt (EvS.ev (Xp (r:=(Zu (rPL Xb))) 1 rfl (λ_ s=>s.r)))))))
theorem E1 : FnScope ["table", "a", "b"] ["table", "a", "b"] (Xh GX):=⟨rfl, rfl, rfl, by decide +kernel, rfl, by decide +kernel, by decide +kernel⟩
theorem HX (D : Def K mg "back" GX ["table", "a", "b"])  (Z : Blt mg) : Fn P w K mg base 1 "back" ["table", "a", "b"] (sp3 (rV (rV Xb)) Xb Xb (oF Xb) V3 K):=by
  refine YM D E1 (λvs H Q E h=>?_) (λf cdv A outer s H vs Q E hr h=>?_)
  . obtain ⟨v_0, v_1, v_2, a_0, a_1, a_2, b, rfl, _⟩:=h; rfl
  obtain ⟨v_0, v_1, v_2, a_0, a_1, a_2, b, rfl, h_0, h_1, h_2, hm, q⟩:=h
  have hu:=hu8 hr
  have hu1:=YJ hr
  refine ⟨_, (Xc (Xs (Lv (K:=K) rfl PySem.F.plainAttrs_list PySem.F.slot_list_index PySem.F.type_list_index (CU K rfl) (YK (sc:=(Xh GX)) (N0:=["table", "a", "b"]) (tns:=["row"]) (caps:=[(2, "b")]) rfl (X1 (K:=K) rfl (pv 0)) (YA (by decide)) (λcl C s H ex E=>⟨Xo (i:=0) (show List.Nodup (["row", "b"] : List Str) by decide +kernel) rfl (Or.inl rfl), Yr, (XJ (Xk K rfl) (pv 0) (pv 1) (λ_ _=>rfl))⟩)) (Xd (pv 1) Xf)))
    Xe), ?_⟩
  refine YL (S:=(SC.add (SC.add (SC.add SC.nil K (rV (rV Xb)) v_0 a_0) K Xb v_1 a_1) K Xb v_2 a_2)) (σ:=[some v_0, some v_1, some v_2]) 0 ?_ (SC.i (SC.i (SC.i SC.t h_0) h_1) h_2) hm q rfl
  unfold V3
  exact (Xt (EvS.ev (EvB.sh (DE (Ev.toB (Yu (λ_=>tg1 0) (XQ (Xp (r:=(rV (rV Xb))) 0 rfl (λ_ s=>s.l.l.r))) (λC1 a2 v3=>(EvS.ev (EvB.sh (Xr (Xa (r:=(rV Xb)) 0 rfl (λ_ s=>s.r)) (Xa (r:=Xb) 1 rfl (λ_ s=>s.l.r)))))))) (Xa (r:=Xb) 1 rfl (λ_ s=>s.l.r))))))
theorem CS : FnScope ["table", "size"] ["table"] (Xh Kq):=⟨rfl, rfl, rfl, by decide +kernel, rfl, by decide +kernel, by decide +kernel⟩
theorem HW (D : Def K mg "dual" Kq ["table"]) (g_back : Fn P w K mg base 1 "back" ["table", "a", "b"] (sp3 (rV (rV Xb)) Xb Xb (oF Xb) V3 K)) (Z : Blt mg) : Fn P w K mg base 2 "dual" ["table"] (sp1 (rV (rV Xb)) (oL (oL (oF Xb))) ZI K):=by
  refine YM D CS (λvs H Q E h=>?_) (λf cdv A outer s H vs Q E hr h=>?_)
  . obtain ⟨v_0, a_0, b, rfl, _⟩:=h; rfl
  obtain ⟨v_0, a_0, b, rfl, h_0, hm, q⟩:=h
  have hu:=hu8 hr
  have hu1:=YJ hr
  refine ⟨_, (Xc (XD (i:=1) CS.nd rfl (Or.inr rfl) (Xu (Xm K rfl) rfl Z.b_len PySem.boot_len (Xd (pv 0) Xf)))
    (Xc (Xs (JH (sc:=(Xh Kq)) (N0:=["table", "size"]) (tns:=["a"]) (caps:=[(0, "table"), (1, "size")]) rfl (XN rfl Z.b_range (Xd (pv 1) Xf)) (YA (by decide)) (λcl C s H ex E=>⟨Xo (i:=0) (show List.Nodup (["a", "table", "size"] : List Str) by decide +kernel) rfl (Or.inr rfl) (hf:=Or.inl rfl), Yr, (JH (sc:=(Ls C8 (Xh Kq))) (N0:=["a", "table", "size"]) (tns:=["b"]) (caps:=[(1, "table"), (0, "a")]) rfl (XN rfl Z.b_range (Xd (pv 2) Xf)) (YA (by decide)) (λcl C s H ex E=>⟨Xo (i:=0) (show List.Nodup (["b", "table", "a"] : List Str) by decide +kernel) rfl (Or.inl rfl), Yr, (XR g_back hr (by decide) (Xd (pv 1) (Xd (pv 2) (Xd (pv 0) Xf))))⟩))⟩)))
    Xe)), ?_⟩
  refine YL (S:=(SC.add SC.nil K (rV (rV Xb)) v_0 a_0)) (σ:=[some v_0, none]) 0 ?_ (SC.i SC.t h_0) hm q rfl
  unfold ZI
  exact (XV (K:=K) (r:=Xb) 1 (EvB.sh (XU (Xa (r:=(rV (rV Xb))) 0 rfl (λ_ s=>s.r)))) λa1 v2=>(Xt (Yu (λ_=>tg1 0) (Xz (Xa (r:=Xb) 1 rfl (λ_ s=>s.r))) (λC5 a6 v7=>(Yu (λ_=>tg1 0) (Xz (Xa (r:=Xb) 2 rfl (λ_ s=>s.l.r))) (λC10 a11 v12=>(Zl (Xa (r:=(rV (rV Xb))) 1 rfl (λ_ s=>s.l.l.l.r)) (Xa (r:=Xb) 2 rfl (λ_ s=>s.l.r)) (Xa (r:=Xb) 0 rfl (λ_ s=>s.r)))))))))
theorem UG : FnScope ["_law_script", "_law_place", "_law_seed", "_law_cell_here"] ["_law_script", "_law_place"] (Xh Dg):=⟨rfl, rfl, rfl, by decide +kernel, rfl, by decide +kernel, by decide +kernel⟩
theorem EI (D : Def K mg "_law_cell" Dg ["_law_script", "_law_place"])  (Z : Blt mg) : Fn P w K mg base 1 "_law_cell" ["_law_script", "_law_place"] (sp2 (rL Xb) Xb (oF Xb) Vh K):=by
  refine YM D UG (λvs H Q E h=>?_) (λf cdv A outer s H vs Q E hr h=>?_)
  . obtain ⟨v_0, v_1, a_0, a_1, b, rfl, _⟩:=h; rfl
  obtain ⟨v_0, v_1, a_0, a_1, b, rfl, h_0, h_1, hm, q⟩:=h
  have hu:=hu8 hr
  have hu1:=YJ hr
  refine ⟨_, (Xc (Yx (Xq G9 (pv 1) (Xu (Xm K rfl) rfl Z.b_len PySem.boot_len (Xd (pv 0) Xf)) (XB _))
      (Xc (Xs (XJ (Xk K rfl) (pv 0) (pv 1) (λ_ _=>rfl)))
      Xe)
      Xe)
    (Xc (XD (i:=2) UG.nd rfl (Or.inl rfl) Xi)
    (Xc (X3 PassesOwn.never rfl (X1 (K:=K) rfl (JS (JU K rfl) (pv 0) UC (Uh Xi))) (Xo (i:=3) UG.nd rfl (Or.inl rfl))
      (Xc (XD (i:=2) UG.nd rfl (Or.inl rfl) (Xy YO (Xy Yn (Xy Yn (Xy Zx (pv 2) Xi) (Xy YO (pv 3) Xi)) Xi) Xi))
      Xe))
    (Xc (Xs (Xy YO (Xy Yn (pv 2) (Xy Zx Xi (pv 1))) Xi))
    Xe)))), ?_⟩
  refine YL (S:=(SC.add (SC.add SC.nil K (rL Xb) v_0 a_0) K Xb v_1 a_1)) (σ:=[some v_0, some v_1, none, none]) 0 ?_ (SC.i (SC.i SC.t h_0) h_1) hm q rfl
  unfold Vh
  exact (YQ (Xn (K:=K) (V1 (Xa (r:=Xb) 1 rfl (λ_ s=>s.r)) (Ed (Xa (r:=(rL Xb)) 0 rfl (λ_ s=>s.l.r))))) (Xt (EvS.ev (EvB.sh (Hv (Xa (r:=(rL Xb)) 0 rfl (λ_ s=>s.l.r)) (Xa (r:=Xb) 1 rfl (λ_ s=>s.r)))))) (XV (K:=K) (r:=Xb) 2 (EvB.sh (Xg 5)) λa7 v8=>(YY (K:=K) (J:=({ oo:=λx13=>[], ss:=λx13=>[some v_0, some v_1, some x13.2, x13.1], sc:=λg14 x13=>(SC.add (SC.add (SC.add SC.nil K (rL Xb) v_0 a_0) K Xb v_1 a_1) K Xb x13.2 g14) } : Jn (Int) (Option V × V))) (λ_=>tg1 3) ((none), v8) (a7) (XQ (Ev.sh (CF (Xa (r:=(rL Xb)) 0 rfl (λ_ s=>s.l.l.r)) JF (JO (K:=K) (Xg 63))))) rfl rfl (λ_ s=>(SC.i (SC.i (SC.i SC.t s.l.l.r) s.l.r) s.r)) (λg15 x16 a17 v18=>(XV (K:=K) (r:=Xb) 2 (EvB.sh (Ye (X0 (X0 (YW (Xa (r:=Xb) 2 rfl (λ_ s=>s.l.r)) (Xg 48271)) (Ye (Xa (r:=Xb) 3 rfl (λ_ s=>s.r)) (Xg 1000003))) (Xg 1)) (Xg 2147483647))) λa19 v20=>(XF (J:=_) ((some v18), v20) (a19) rfl rfl (λ_ s=>(SC.i (SC.i (SC.i SC.t s.l.l.l.l.r) s.l.l.l.r) s.r))))) λg31 x32=>(Xt (EvS.ev (EvB.sh (Ye (X0 (Xa (r:=Xb) 2 rfl (λ_ s=>s.r)) (YW (Xg 7919) (Xa (r:=Xb) 1 rfl (λ_ s=>s.l.r)))) (Xg 1000003))))))))
theorem Du : FnScope ["_law_cell_here", "_law_k", "_law_one", "_law_two"] ["_law_cell_here", "_law_k"] (Xh HM):=⟨rfl, rfl, rfl, by decide +kernel, rfl, by decide +kernel, by decide +kernel⟩
theorem Ll (D : Def K mg "_law_mix" HM ["_law_cell_here", "_law_k"])  (Z : Blt mg) : Fn P w K mg base 1 "_law_mix" ["_law_cell_here", "_law_k"] (sp2 Xb Xb (oF Xb) Gc K):=by
  refine YM D Du (λvs H Q E h=>?_) (λf cdv A outer s H vs Q E hr h=>?_)
  . obtain ⟨v_0, v_1, a_0, a_1, b, rfl, _⟩:=h; rfl
  obtain ⟨v_0, v_1, a_0, a_1, b, rfl, h_0, h_1, hm, q⟩:=h
  have hu:=hu8 hr
  have hu1:=YJ hr
  refine ⟨_, (Xc (XD (i:=2) Du.nd rfl (Or.inl rfl) (Xy YO (Xy En (Xy Yn (Xy Yn (Xy YO (pv 0) Xi) (Xy Zx Xi (pv 1))) Xi) Xi) Xi))
    (Xc (XD (i:=3) Du.nd rfl (Or.inl rfl) (Xy YO (Xy Yn (Xy Yn (Xy Zx (pv 2) Xi) (Xy Zx (Xy Zx Xi (pv 1)) (pv 1))) Xi) Xi))
    (Xc (Xs (Xy Ub (pv 3) Xi))
    Xe))), ?_⟩
  refine YL (S:=(SC.add (SC.add SC.nil K Xb v_0 a_0) K Xb v_1 a_1)) (σ:=[some v_0, some v_1, none, none]) 0 ?_ (SC.i (SC.i SC.t h_0) h_1) hm q rfl
  unfold Gc
  exact (XV (K:=K) (r:=Xb) 2 (EvB.sh (Ye (DZ (X0 (X0 (Ye (Xa (r:=Xb) 0 rfl (λ_ s=>s.l.r)) (Xg 2147483629)) (YW (Xg 1013) (Xa (r:=Xb) 1 rfl (λ_ s=>s.r)))) (Xg 7919)) (Xg 3)) (Xg 2147483647))) λa1 v2=>(XV (K:=K) (r:=Xb) 3 (EvB.sh (Ye (X0 (X0 (YW (Xa (r:=Xb) 2 rfl (λ_ s=>s.r)) (Xg 40699)) (YW (YW (Xg 3793) (Xa (r:=Xb) 1 rfl (λ_ s=>s.l.r))) (Xa (r:=Xb) 1 rfl (λ_ s=>s.l.r)))) (Xg 11)) (Xg 2147483399))) λa15 v16=>(Xt (EvS.ev (EvB.sh (KO (Xa (r:=Xb) 3 rfl (λ_ s=>s.r)) (Xg 101)))))))
theorem Vd : FnScope ["_law_script", "_law_place", "_law_sizes", "_law_cell_here", "_law_left", "_law_some", "_law_k", "_law_other"] ["_law_script", "_law_place", "_law_sizes"] (Xh Hu):=⟨rfl, rfl, rfl, by decide +kernel, rfl, by decide +kernel, by decide +kernel⟩
theorem IU (D : Def K mg "_law_row" Hu ["_law_script", "_law_place", "_law_sizes"]) (g_cell : Fn P w K mg base 1 "_law_cell" ["_law_script", "_law_place"] (sp2 (rL Xb) Xb (oF Xb) Vh K)) (g_mix : Fn P w K mg base 1 "_law_mix" ["_law_cell_here", "_law_k"] (sp2 Xb Xb (oF Xb) Gc K)) (Z : Blt mg) : Fn P w K mg base 2 "_law_row" ["_law_script", "_law_place", "_law_sizes"] (sp3 (rL Xb) Xb (rV Xb) (oL (oF Xb)) UI K):=by
  refine YM D Vd (λvs H Q E h=>?_) (λf cdv A outer s H vs Q E hr h=>?_)
  . obtain ⟨v_0, v_1, v_2, a_0, a_1, a_2, b, rfl, _⟩:=h; rfl
  obtain ⟨v_0, v_1, v_2, a_0, a_1, a_2, b, rfl, h_0, h_1, h_2, hm, q⟩:=h
  have hu:=hu8 hr
  have hu1:=YJ hr
  refine ⟨_, (Xc (XD (i:=3) Vd.nd rfl (Or.inl rfl) (XR g_cell hr (by decide) (Xd (pv 0) (Xd (pv 1) Xf))))
    (Xc (XD (i:=4) Vd.nd rfl (Or.inl rfl) (pv 3))
    (Xc (XD (i:=5) Vd.nd rfl (Or.inl rfl) (YG Xf))
    (Xc (X3 PassesOwn.never rfl (XN rfl Z.b_range (Xd (Xu (Xm K rfl) rfl Z.b_len PySem.boot_len (Xd (pv 2) Xf)) Xf)) (Xo (i:=6) Vd.nd rfl (Or.inl rfl))
      (Xc (Yx (Xq G9 (pv 3) (Xy En Xi Xi) (XB _))
        (Xc (Y2 (QL PySem.F.plainAttrs_list PySem.F.slot_list_append PySem.F.type_list_append YH (pv 5) (Xd (Xy YO (XR g_mix hr (by decide) (Xd (pv 3) (Xd (pv 6) Xf))) (XJ (Xk K rfl) (pv 2) (pv 6) (λ_ _=>rfl))) Xf)))
        Xe)
        (Xc (Yx (Xq Da (pv 4) Xi (XB _))
          (Xc (Y2 (QL PySem.F.plainAttrs_list PySem.F.slot_list_append PySem.F.type_list_append YH (pv 5) (Xd (Xy YO (pv 4) (XJ (Xk K rfl) (pv 2) (pv 6) (λ_ _=>rfl))) Xf)))
          (Xc (XD (i:=4) Vd.nd rfl (Or.inl rfl) (Xy Ub (pv 4) (XJ (Xk K rfl) (pv 2) (pv 6) (λ_ _=>rfl))))
          Xe))
          (Xc (XD (i:=7) Vd.nd rfl (Or.inl rfl) (XR g_cell hr (by decide) (Xd (pv 0) (Xd (Xy YO (Xy Yn (Xy Yn (pv 1) Xi) (pv 6)) Xi) Xf))))
          (Xc (Y2 (QL PySem.F.plainAttrs_list PySem.F.slot_list_append PySem.F.type_list_append YH (pv 5) (Xd (Xy YO (XR g_mix hr (by decide) (Xd (pv 7) (Xd (pv 6) Xf))) (XJ (Xk K rfl) (pv 2) (pv 6) (λ_ _=>rfl))) Xf)))
          Xe)))
        Xe))
      Xe))
    (Xc (Xs (pv 5))
    Xe))))), ?_⟩
  refine YL (S:=(SC.add (SC.add (SC.add SC.nil K (rL Xb) v_0 a_0) K Xb v_1 a_1) K (rV Xb) v_2 a_2)) (σ:=[some v_0, some v_1, some v_2, none, none, none, none, none]) 1 ?_ (SC.i (SC.i (SC.i SC.t h_0) h_1) h_2) hm q rfl
  unfold UI
  exact (XV (K:=K) (r:=Xb) 3 (EvB.sh (Ev.toB (XC (Xa (r:=(rL Xb)) 0 rfl (λ_ s=>s.l.l.r)) (Xa (r:=Xb) 1 rfl (λ_ s=>s.l.r))))) λa1 v2=>(XV (K:=K) (r:=Xb) 4 (Xp (r:=Xb) 3 rfl (λ_ s=>s.r)) λa6 v7=>(Yz (K:=K) (o:=(oL (oF Xb))) 5 0 (UW (o:=(oF Xb))) (Nat.le_of_ble_eq_true rfl) λa8 v9 C10=>(YY (K:=K) (J:=({ oo:=λx13=>[x13.2.2.2.2], ss:=λx13=>[some v_0, some v_1, some v_2, some v2, some x13.2.2.1, some x13.2.1, x13.1, x13.2.2.2.1], sc:=λg14 x13=>(SC.add (SC.addO (SC.add (SC.add (SC.add (SC.add SC.nil K (rL Xb) v_0 a_0) K Xb v_1 a_1) K (rV Xb) v_2 a_2) K Xb v2 a1) K (oL (oF Xb)) x13.2.1 g14.1 x13.2.2.2.2) K Xb x13.2.2.1 g14.2) } : Jn ((List Int) × Int) (Option V × V × V × Option V × List XM))) (λ_=>tg1 6) ((none), v9, v7, (none), C10) (a8, a6) (Xz (XU (Xa (r:=(rV Xb)) 2 rfl (λ_ s=>s.l.l.l.r)))) rfl rfl (λ_ s=>(SC.i (SC.i (SC.i (SC.i (SC.i (SC.i SC.t s.l.l.l.l.l.r) s.l.l.l.l.r) s.l.l.l.r) s.l.l.r) s.r) s.l.r)) (λg15 x16 a17 v18=>(Vk (J:=({ oo:=λx24=>[x24.2.2.2], ss:=λx24=>[some v_0, some v_1, some v_2, some v2, some x24.2.1, some x24.1, some v18, x24.2.2.1], sc:=λg25 x24=>(SC.add (SC.addO (SC.add (SC.add (SC.add (SC.add (SC.add SC.nil K (rL Xb) v_0 a_0) K Xb v_1 a_1) K (rV Xb) v_2 a_2) K Xb v2 a1) K Xb v18 a17) K (oL (oF Xb)) x24.1 g25.1 x24.2.2.2) K Xb x24.2.1 g25.2) } : Jn ((List Int) × Int) (V × V × Option V × List XM))) (Kr (Fd:=FNd ({ oo:=λx24=>[x24.2.2.2], ss:=λx24=>[some v_0, some v_1, some v_2, some v2, some x24.2.1, some x24.1, some v18, x24.2.2.1], sc:=λg25 x24=>(SC.add (SC.addO (SC.add (SC.add (SC.add (SC.add (SC.add SC.nil K (rL Xb) v_0 a_0) K Xb v_1 a_1) K (rV Xb) v_2 a_2) K Xb v2 a1) K Xb v18 a17) K (oL (oF Xb)) x24.1 g25.1 x24.2.2.2) K Xb x24.2.1 g25.2) } : Jn ((List Int) × Int) (V × V × Option V × List XM))) (Xn (K:=K) (V1 (Xa (r:=Xb) 3 rfl (λ_ s=>s.l.l.l.r)) (DZ (Xg 10) (Xg 18)))) (QZ (K:=K) (o:=(oF Xb)) (f:=λa35=>(Rs.ok (a35, g15.2))) 5 0 rfl rfl rfl (λ_ s=>s.l.l.r) (EvS.ev (EvB.sh (Ye (Ev.toB (XC (Xa (r:=Xb) 3 rfl (λ_ s=>s.l.l.l.r)) (Xa (r:=Xb) 6 rfl (λ_ s=>s.r)))) (Xr (Xa (r:=(rV Xb)) 2 rfl (λ_ s=>s.l.l.l.l.r)) (Xa (r:=Xb) 6 rfl (λ_ s=>s.r)))))) λa33 C34=>(XF (J:=_) (x16.2.1, x16.2.2.1, (x16.2.2.2.1), C34) ((g15.1 ++ [a33]), g15.2) rfl rfl (λ_ s=>(SC.i (SC.i (SC.i (SC.i (SC.i (SC.i (SC.i SC.t s.l.l.l.l.l.l.l.r) s.l.l.l.l.l.l.r) s.l.l.l.l.l.r) s.l.l.l.l.r) s.l.r) s.r) s.l.l.r)))) (Vk (J:=({ oo:=λx39=>[x39.2.2.2], ss:=λx39=>[some v_0, some v_1, some v_2, some v2, some x39.1, some x39.2.2.1, some v18, x39.2.1], sc:=λg40 x39=>(SC.addO (SC.add (SC.add (SC.add (SC.add (SC.add (SC.add SC.nil K (rL Xb) v_0 a_0) K Xb v_1 a_1) K (rV Xb) v_2 a_2) K Xb v2 a1) K Xb v18 a17) K Xb x39.1 g40.1) K (oL (oF Xb)) x39.2.2.1 g40.2 x39.2.2.2) } : Jn (Int × (List Int)) (V × Option V × V × List XM))) (Kr (Fd:=FNd ({ oo:=λx39=>[x39.2.2.2], ss:=λx39=>[some v_0, some v_1, some v_2, some v2, some x39.1, some x39.2.2.1, some v18, x39.2.1], sc:=λg40 x39=>(SC.addO (SC.add (SC.add (SC.add (SC.add (SC.add (SC.add SC.nil K (rL Xb) v_0 a_0) K Xb v_1 a_1) K (rV Xb) v_2 a_2) K Xb v2 a1) K Xb v18 a17) K Xb x39.1 g40.1) K (oL (oF Xb)) x39.2.2.1 g40.2 x39.2.2.2) } : Jn (Int × (List Int)) (V × Option V × V × List XM))) (Xn (K:=K) (Ka (Xa (r:=Xb) 4 rfl (λ_ s=>s.l.r)) (Xg 0))) (QZ (K:=K) (o:=(oF Xb)) (f:=λa47=>(Rs.bind (Rs.bind (Rs.ok g15.2) λx52=>(Rs.bind (Rs.bind (Rs.ok a_2) λx50=>(Rs.bind (Rs.ok a17) λx51=>(atR x50 x51))) λx53=>(Ig x52 x53))) λa48=>(Rs.ok (a48, a47)))) 5 0 rfl rfl rfl (λ_ s=>s.l.l.r) (EvS.ev (EvB.sh (Ye (Xa (r:=Xb) 4 rfl (λ_ s=>s.l.r)) (Xr (Xa (r:=(rV Xb)) 2 rfl (λ_ s=>s.l.l.l.l.r)) (Xa (r:=Xb) 6 rfl (λ_ s=>s.r)))))) λa45 C46=>(XV (K:=K) (r:=Xb) 4 (EvB.sh (KO (Xa (r:=Xb) 4 rfl (λ_ s=>s.l.l.r)) (Xr (Xa (r:=(rV Xb)) 2 rfl (λ_ s=>s.l.l.l.l.l.r)) (Xa (r:=Xb) 6 rfl (λ_ s=>s.l.r))))) λa48 v49=>(XF (J:=_) (v49, (x16.2.2.2.1), x16.2.1, C46) (a48, (g15.1 ++ [a45])) rfl rfl (λ_ s=>(SC.i (SC.i (SC.i (SC.i (SC.i (SC.i (SC.i SC.t s.l.l.l.l.l.l.l.l.r) s.l.l.l.l.l.l.l.r) s.l.l.l.l.l.l.r) s.l.l.l.l.l.r) s.l.l.r) s.r) s.l.r))))) (XV (K:=K) (r:=Xb) 7 (EvB.sh (Ev.toB (XC (Xa (r:=(rL Xb)) 0 rfl (λ_ s=>s.l.l.l.l.l.l.r)) (Ye (X0 (X0 (Xa (r:=Xb) 1 rfl (λ_ s=>s.l.l.l.l.l.r)) (Xg 1)) (Xa (r:=Xb) 6 rfl (λ_ s=>s.r))) (Xg 63))))) λa54 v55=>(QZ (K:=K) (o:=(oF Xb)) (f:=λa74=>(Rs.ok (g15.2, a74))) 5 0 rfl rfl rfl (λ_ s=>s.l.l.l.r) (EvS.ev (EvB.sh (Ye (Ev.toB (XC (Xa (r:=Xb) 7 rfl (λ_ s=>s.r)) (Xa (r:=Xb) 6 rfl (λ_ s=>s.l.r)))) (Xr (Xa (r:=(rV Xb)) 2 rfl (λ_ s=>s.l.l.l.l.l.r)) (Xa (r:=Xb) 6 rfl (λ_ s=>s.l.r)))))) λa72 C73=>(XF (J:=_) (x16.2.2.1, (some v55), x16.2.1, C73) (g15.2, (g15.1 ++ [a72])) rfl rfl (λ_ s=>(SC.i (SC.i (SC.i (SC.i (SC.i (SC.i (SC.i SC.t s.l.l.l.l.l.l.l.l.r) s.l.l.l.l.l.l.l.r) s.l.l.l.l.l.l.r) s.l.l.l.l.l.r) s.l.l.r) s.l.l.l.r) s.r)))))) λg76 x75=>(XF (J:=_) (x75.2.2.1, x75.1, (x75.2.1), x75.2.2.2) (g76.2, g76.1) rfl rfl (λ_ s=>(SC.i (SC.i (SC.i (SC.i (SC.i (SC.i (SC.i SC.t s.l.l.l.l.l.l.r) s.l.l.l.l.l.r) s.l.l.l.l.r) s.l.l.l.r) s.l.l.r) s.r) s.l.r))))) λg78 x77=>(XF (J:=_) ((some v18), x77.1, x77.2.1, (x77.2.2.1), x77.2.2.2) (g78.1, g78.2) rfl rfl (λ_ s=>(SC.i (SC.i (SC.i (SC.i (SC.i (SC.i SC.t s.l.l.l.l.l.l.r) s.l.l.l.l.l.r) s.l.l.l.l.r) s.l.l.l.r) s.l.r) s.r))))) λg79 x80=>(Xt (Zh (o:=(oL (oF Xb))) 5 0 rfl rfl (λ_ s=>s.l.r)))))))
theorem V5 : FnScope ["_law_way", "_law_size", "_law_factor", "_law_a", "_law_b", "_law_half"] ["_law_way", "_law_size", "_law_factor", "_law_a", "_law_b"] (Xh VC):=⟨rfl, rfl, rfl, by decide +kernel, rfl, by decide +kernel, by decide +kernel⟩
theorem G6 (D : Def K mg "_law_cell_of" VC ["_law_way", "_law_size", "_law_factor", "_law_a", "_law_b"])  (Z : Blt mg) : Fn P w K mg base 1 "_law_cell_of" ["_law_way", "_law_size", "_law_factor", "_law_a", "_law_b"] (sp5 Xb Xb Xb Xb Xb (oF Xb) Zq K):=by
  refine YM D V5 (λvs H Q E h=>?_) (λf cdv A outer s H vs Q E hr h=>?_)
  . obtain ⟨v_0, v_1, v_2, v_3, v_4, a_0, a_1, a_2, a_3, a_4, b, rfl, _⟩:=h; rfl
  obtain ⟨v_0, v_1, v_2, v_3, v_4, a_0, a_1, a_2, a_3, a_4, b, rfl, h_0, h_1, h_2, h_3, h_4, hm, q⟩:=h
  have hu:=hu8 hr
  have hu1:=YJ hr
  refine ⟨_, (Xc (XD (i:=5) V5.nd rfl (Or.inl rfl) (Xy Ub (pv 1) Xi))
    (Xc (Yx (Xq ZX (pv 0) Xi (XB _))
      (Xc (Xs (Xy YO (Xy Z2 (Xy Zx Xi (pv 4)) (pv 3)) (pv 1)))
      Xe)
      Xe)
    (Xc (Yx (Xq ZX (pv 0) Xi (XB _))
      (Xc (Xs (Xy YO (Xy Yn (Xy Zx (pv 2) (pv 3)) (Xy Zx (Xy Z2 Xi (pv 2)) (pv 4))) (pv 1)))
      Xe)
      Xe)
    (Xc (Yx (PW.pt (ZY (Xq ZX (pv 0) Xi (XB _)) (ZY (Xq Da (pv 1) Xi (XB _)) (ZY (Xq G9 (pv 3) Xi (XB _)) (Qw (Xq ZX (pv 4) (Xy Z2 (pv 1) Xi) (XB _)))))))
      (Xc (Xs (Xy Z2 Xi (pv 3)))
      Xe)
      Xe)
    (Xc (Yx (PW.pt (ZY (Xq ZX (pv 0) Xi (XB _)) (ZY (Xq G9 (pv 3) (Xy Z2 (pv 1) Xi) (XB _)) (Qw (Xq ZX (pv 4) (Xy Z2 (pv 1) Xi) (XB _))))))
      (Xc (Xs (Xy YO (Xy Yn (pv 3) Xi) (Xy Z2 (pv 1) Xi)))
      Xe)
      Xe)
    (Xc (Yx (PW.pt (ZY (Xq ZX (pv 0) Xi (XB _)) (ZY (Xq G9 (pv 3) (pv 5) (XB _)) (Qw (Xq G9 (pv 4) (pv 5) (XB _))))))
      (Xc (Xs (Xy YO (Xy Z2 (Xy Zx Xi (pv 4)) (pv 3)) (pv 5)))
      Xe)
      Xe)
    (Xc (Yx (PW.pt (ZY (Xq ZX (pv 0) Xi (XB _)) (ZY (Xq IA (pv 3) (pv 5) (XB _)) (Qw (Xq IA (pv 4) (pv 5) (XB _))))))
      (Xc (Xs (Xy Yn (pv 5) (Xy YO (Xy Z2 (Xy Z2 (Xy Zx Xi (pv 4)) (pv 3)) (pv 5)) (Xy Z2 (pv 1) (pv 5)))))
      Xe)
      Xe)
    (Xc (Xs (pv 3))
    Xe)))))))), ?_⟩
  refine YL (S:=(SC.add (SC.add (SC.add (SC.add (SC.add SC.nil K Xb v_0 a_0) K Xb v_1 a_1) K Xb v_2 a_2) K Xb v_3 a_3) K Xb v_4 a_4)) (σ:=[some v_0, some v_1, some v_2, some v_3, some v_4, none]) 0 ?_ (SC.i (SC.i (SC.i (SC.i (SC.i SC.t h_0) h_1) h_2) h_3) h_4) hm q rfl
  unfold Zq
  exact (XV (K:=K) (r:=Xb) 5 (EvB.sh (KO (Xa (r:=Xb) 1 rfl (λ_ s=>s.l.l.l.r)) (Xg 2))) λa1 v2=>(YQ (Xn (K:=K) (YT (Xa (r:=Xb) 0 rfl (λ_ s=>s.l.l.l.l.l.r)) (Xg 1))) (Xt (EvS.ev (EvB.sh (Ye (Zo (YW (Xg 2) (Xa (r:=Xb) 4 rfl (λ_ s=>s.l.r))) (Xa (r:=Xb) 3 rfl (λ_ s=>s.l.l.r))) (Xa (r:=Xb) 1 rfl (λ_ s=>s.l.l.l.l.r)))))) (YQ (Xn (K:=K) (YT (Xa (r:=Xb) 0 rfl (λ_ s=>s.l.l.l.l.l.r)) (Xg 2))) (Xt (EvS.ev (EvB.sh (Ye (X0 (YW (Xa (r:=Xb) 2 rfl (λ_ s=>s.l.l.l.r)) (Xa (r:=Xb) 3 rfl (λ_ s=>s.l.l.r))) (YW (Zo (Xg 1) (Xa (r:=Xb) 2 rfl (λ_ s=>s.l.l.l.r))) (Xa (r:=Xb) 4 rfl (λ_ s=>s.l.r)))) (Xa (r:=Xb) 1 rfl (λ_ s=>s.l.l.l.l.r)))))) (YQ (Zg (Xn (K:=K) (YT (Xa (r:=Xb) 0 rfl (λ_ s=>s.l.l.l.l.l.r)) (Xg 3))) (Zg (Xn (K:=K) (Ka (Xa (r:=Xb) 1 rfl (λ_ s=>s.l.l.l.l.r)) (Xg 2))) (Zg (Xn (K:=K) (V1 (Xa (r:=Xb) 3 rfl (λ_ s=>s.l.l.r)) (Xg 2))) (Xn (K:=K) (YT (Xa (r:=Xb) 4 rfl (λ_ s=>s.l.r)) (Zo (Xa (r:=Xb) 1 rfl (λ_ s=>s.l.l.l.l.r)) (Xg 1))))))) (Xt (EvS.ev (EvB.sh (Zo (Xg 1) (Xa (r:=Xb) 3 rfl (λ_ s=>s.l.l.r)))))) (YQ (Zg (Xn (K:=K) (YT (Xa (r:=Xb) 0 rfl (λ_ s=>s.l.l.l.l.l.r)) (Xg 6))) (Zg (Xn (K:=K) (V1 (Xa (r:=Xb) 3 rfl (λ_ s=>s.l.l.r)) (Zo (Xa (r:=Xb) 1 rfl (λ_ s=>s.l.l.l.l.r)) (Xg 1)))) (Xn (K:=K) (YT (Xa (r:=Xb) 4 rfl (λ_ s=>s.l.r)) (Zo (Xa (r:=Xb) 1 rfl (λ_ s=>s.l.l.l.l.r)) (Xg 1)))))) (Xt (EvS.ev (EvB.sh (Ye (X0 (Xa (r:=Xb) 3 rfl (λ_ s=>s.l.l.r)) (Xg 1)) (Zo (Xa (r:=Xb) 1 rfl (λ_ s=>s.l.l.l.l.r)) (Xg 1)))))) (YQ (Zg (Xn (K:=K) (YT (Xa (r:=Xb) 0 rfl (λ_ s=>s.l.l.l.l.l.r)) (Xg 4))) (Zg (Xn (K:=K) (V1 (Xa (r:=Xb) 3 rfl (λ_ s=>s.l.l.r)) (Xa (r:=Xb) 5 rfl (λ_ s=>s.r)))) (Xn (K:=K) (V1 (Xa (r:=Xb) 4 rfl (λ_ s=>s.l.r)) (Xa (r:=Xb) 5 rfl (λ_ s=>s.r)))))) (Xt (EvS.ev (EvB.sh (Ye (Zo (YW (Xg 2) (Xa (r:=Xb) 4 rfl (λ_ s=>s.l.r))) (Xa (r:=Xb) 3 rfl (λ_ s=>s.l.l.r))) (Xa (r:=Xb) 5 rfl (λ_ s=>s.r)))))) (YQ (Zg (Xn (K:=K) (YT (Xa (r:=Xb) 0 rfl (λ_ s=>s.l.l.l.l.l.r)) (Xg 4))) (Zg (Xn (K:=K) (Ey (Xa (r:=Xb) 3 rfl (λ_ s=>s.l.l.r)) (Xa (r:=Xb) 5 rfl (λ_ s=>s.r)))) (Xn (K:=K) (Ey (Xa (r:=Xb) 4 rfl (λ_ s=>s.l.r)) (Xa (r:=Xb) 5 rfl (λ_ s=>s.r)))))) (Xt (EvS.ev (EvB.sh (X0 (Xa (r:=Xb) 5 rfl (λ_ s=>s.r)) (Ye (Zo (Zo (YW (Xg 2) (Xa (r:=Xb) 4 rfl (λ_ s=>s.l.r))) (Xa (r:=Xb) 3 rfl (λ_ s=>s.l.l.r))) (Xa (r:=Xb) 5 rfl (λ_ s=>s.r))) (Zo (Xa (r:=Xb) 1 rfl (λ_ s=>s.l.l.l.l.r)) (Xa (r:=Xb) 5 rfl (λ_ s=>s.r)))))))) (Xt (EvS.ev (Xp (r:=Xb) 3 rfl (λ_ s=>s.l.l.r)))))))))))
theorem Vc : FnScope ["_law_one", "_law_other"] ["_law_one", "_law_other"] (Xh Uc):=⟨rfl, rfl, rfl, by decide +kernel, rfl, by decide +kernel, by decide +kernel⟩
theorem Dx (D : Def K mg "_law_common" Uc ["_law_one", "_law_other"])  (Z : Blt mg) : Fn P w K mg base 1 "_law_common" ["_law_one", "_law_other"] (sp2 Xb Xb (oF Xb) Qe K):=by
  refine YM D Vc (λvs H Q E h=>?_) (λf cdv A outer s H vs Q E hr h=>?_)
  . obtain ⟨v_0, v_1, a_0, a_1, b, rfl, _⟩:=h; rfl
  obtain ⟨v_0, v_1, a_0, a_1, b, rfl, h_0, h_1, hm, q⟩:=h
  have hu:=hu8 hr
  have hu1:=YJ hr
  refine ⟨_, (Xc (Do (i:=0) (j:=1) rfl Vc.nd rfl rfl (by decide) rfl rfl (Xd (Xu GY rfl Z.b_abs PyProof.Rows.boot_abs (Xd (pv 0) Xf)) (Xd (Xu GY rfl Z.b_abs PyProof.Rows.boot_abs (Xd (pv 1) Xf)) Xf)) rfl)
    (Xc (UO PassesOwn.never (Xq Da (pv 1) Xi (XB _))
      (Xc (Do (i:=0) (j:=1) rfl Vc.nd rfl rfl (by decide) rfl rfl (Xd (pv 1) (Xd (Xy YO (pv 0) (pv 1)) Xf)) rfl)
      Xe))
    (Xc (Xs (pv 0))
    Xe))), ?_⟩
  refine YL (S:=(SC.add (SC.add SC.nil K Xb v_0 a_0) K Xb v_1 a_1)) (σ:=[some v_0, some v_1]) 0 ?_ (SC.i (SC.i SC.t h_0) h_1) hm q rfl
  unfold Qe
  exact (F5 (K:=K) 0 1 (EvB.sh (FV (Xa (r:=Xb) 0 rfl (λ_ s=>s.l.r)))) (EvB.sh (FV (Xa (r:=Xb) 1 rfl (λ_ s=>s.r)))) λa3 a4 v5 v6=>(UP (J:=({ oo:=λx7=>[], ss:=λx7=>[some x7.1, some x7.2], sc:=λg8 x7=>(SC.add (SC.add SC.nil K Xb x7.1 g8.1) K Xb x7.2 g8.2) } : Jn (Int × Int) (V × V))) (a3.natAbs + a4.natAbs + 2) (v5, v6) (a3, a4) rfl rfl (λ_ s=>(SC.i (SC.i SC.t s.l.r) s.r)) (λg9 x10=>(Xn (K:=K) (Ka (Xa (r:=Xb) 1 rfl (λ_ s=>s.r)) (Xg 0)))) (λg9 x10=>(F5 (K:=K) 0 1 (Xp (r:=Xb) 1 rfl (λ_ s=>s.r)) (EvB.sh (Ye (Xa (r:=Xb) 0 rfl (λ_ s=>s.l.r)) (Xa (r:=Xb) 1 rfl (λ_ s=>s.r)))) λa15 a16 v17 v18=>(XF (J:=_) (v17, v18) (a15, a16) rfl rfl (λ_ s=>(SC.i (SC.i SC.t s.l.r) s.r))))) λg19 x20=>(Xt (EvS.ev (Xp (r:=Xb) 0 rfl (λ_ s=>s.l.r))))))
theorem V8 : FnScope ["_law_way", "_law_size", "_law_factor", "_law_some", "_law_a"] ["_law_way", "_law_size", "_law_factor"] (Xh GK):=⟨rfl, rfl, rfl, by decide +kernel, rfl, by decide +kernel, by decide +kernel⟩
theorem Hz (D : Def K mg "_law_made" GK ["_law_way", "_law_size", "_law_factor"]) (g_common : Fn P w K mg base 1 "_law_common" ["_law_one", "_law_other"] (sp2 Xb Xb (oF Xb) Qe K)) (g_cell_of : Fn P w K mg base 1 "_law_cell_of" ["_law_way", "_law_size", "_law_factor", "_law_a", "_law_b"] (sp5 Xb Xb Xb Xb Xb (oF Xb) Zq K)) (Z : Blt mg) : Fn P w K mg base 2 "_law_made" ["_law_way", "_law_size", "_law_factor"] (sp3 Xb Xb Xb (oL (oL (oF Xb))) VJ K):=by
  refine YM D V8 (λvs H Q E h=>?_) (λf cdv A outer s H vs Q E hr h=>?_)
  . obtain ⟨v_0, v_1, v_2, a_0, a_1, a_2, b, rfl, _⟩:=h; rfl
  obtain ⟨v_0, v_1, v_2, a_0, a_1, a_2, b, rfl, h_0, h_1, h_2, hm, q⟩:=h
  have hu:=hu8 hr
  have hu1:=YJ hr
  refine ⟨_, (Xc (Yx (PW.pt (ZY (Xq ZX (pv 0) Xi (XB _)) (Qw (Xq ZX (pv 1) Xi (XB _)))))
      (@Xc _ _ _ _ _ (@Xs _ _ _ _ (@US _))
      Xe)
      Xe)
    (Xc (UO PassesOwn.never (Xq Dw (XR g_common hr (by decide) (Xd (pv 2) (Xd (pv 1) Xf))) Xi (XB _))
      (Xc (XD (i:=2) V8.nd rfl (Or.inr rfl) (Xy Yn (pv 2) Xi))
      Xe))
    (Xc (XD (i:=3) V8.nd rfl (Or.inl rfl) (YG Xf))
    (Xc (X3 PassesOwn.never rfl (XN rfl Z.b_range (Xd (pv 1) Xf)) (Xo (i:=4) V8.nd rfl (Or.inr rfl))
      (Xc (Y2 (QL PySem.F.plainAttrs_list PySem.F.slot_list_append PySem.F.type_list_append YH (pv 3) (Xd (YK (sc:=(Xh GK)) (N0:=["_law_way", "_law_size", "_law_factor", "_law_some", "_law_a"]) (tns:=["_law_b"]) (caps:=[(0, "_law_way"), (1, "_law_size"), (2, "_law_factor"), (4, "_law_a")]) rfl (XN rfl Z.b_range (Xd (pv 1) Xf)) (YA (by decide)) (λcl C s H ex E=>⟨Xo (i:=0) (show List.Nodup (["_law_b", "_law_way", "_law_size", "_law_factor", "_law_a"] : List Str) by decide +kernel) rfl (Or.inl rfl), Yr, (XR g_cell_of hr (by decide) (Xd (pv 1) (Xd (pv 2) (Xd (pv 3) (Xd (pv 4) (Xd (pv 0) Xf))))))⟩)) Xf)))
      Xe))
    (Xc (Xs (pv 3))
    Xe))))), ?_⟩
  refine YL (S:=(SC.add (SC.add (SC.add SC.nil K Xb v_0 a_0) K Xb v_1 a_1) K Xb v_2 a_2)) (σ:=[some v_0, some v_1, some v_2, none, none]) 1 ?_ (SC.i (SC.i (SC.i SC.t h_0) h_1) h_2) hm q rfl
  unfold VJ
  exact (YQ (Zg (Xn (K:=K) (YT (Xa (r:=Xb) 0 rfl (λ_ s=>s.l.l.r)) (Xg 5))) (Xn (K:=K) (YT (Xa (r:=Xb) 1 rfl (λ_ s=>s.l.r)) (Xg 4)))) (Xt (EM (QX (Z0 (XE (EvB.sh (Xg 0)) (XE (EvB.sh (Xg 3)) (XE (EvB.sh (Xg 1)) (XE (EvB.sh (Xg 2)) Zf))))) λ_=>(QX (Z0 (XE (EvB.sh (Xg 2)) (XE (EvB.sh (Xg 1)) (XE (EvB.sh (Xg 3)) (XE (EvB.sh (Xg 0)) Zf))))) λ_=>(QX (Z0 (XE (EvB.sh (Xg 3)) (XE (EvB.sh (Xg 0)) (XE (EvB.sh (Xg 2)) (XE (EvB.sh (Xg 1)) Zf))))) λ_=>(QX (Z0 (XE (EvB.sh (Xg 1)) (XE (EvB.sh (Xg 2)) (XE (EvB.sh (Xg 0)) (XE (EvB.sh (Xg 3)) Zf))))) λ_=>BM)))))) (UP (J:=({ oo:=λx51=>[[]], ss:=λx51=>[some v_0, some v_1, some x51, none, none], sc:=λg52 x51=>(SC.add (SC.add (SC.add SC.nil K Xb v_0 a_0) K Xb v_1 a_1) K Xb x51 g52) } : Jn (Int) (V))) (a_1.natAbs + 2) (v_2) (a_2) rfl rfl (λ_ s=>(SC.i (SC.i (SC.i SC.t s.l.l.r) s.l.r) s.r)) (λg53 x54=>(Xn (K:=K) (KA (Ev.toB (XC (Xa (r:=Xb) 2 rfl (λ_ s=>s.r)) (Xa (r:=Xb) 1 rfl (λ_ s=>s.l.r)))) (Xg 1)))) (λg53 x54=>(XV (K:=K) (r:=Xb) 2 (EvB.sh (X0 (Xa (r:=Xb) 2 rfl (λ_ s=>s.r)) (Xg 1))) λa60 v61=>(XF (J:=_) (v61) (a60) rfl rfl (λ_ s=>(SC.i (SC.i (SC.i SC.t s.l.l.l.r) s.l.l.r) s.r))))) λg64 x65=>(Yz (K:=K) (o:=(oL (oL (oF Xb)))) 3 0 (UW (o:=(oL (oF Xb)))) (Nat.le_of_ble_eq_true rfl) λa66 v67 C68=>(YY (K:=K) (J:=({ oo:=λx70=>[x70.2.2], ss:=λx70=>[some v_0, some v_1, some x65, some x70.2.1, x70.1], sc:=λg71 x70=>(SC.addO (SC.add (SC.add (SC.add SC.nil K Xb v_0 a_0) K Xb v_1 a_1) K Xb x65 g64) K (oL (oL (oF Xb))) x70.2.1 g71 x70.2.2) } : Jn ((List (List Int))) (Option V × V × List XM))) (λ_=>tg1 4) ((none), v67, C68) (a66) (Xz (Xa (r:=Xb) 1 rfl (λ_ s=>s.l.l.r))) rfl rfl (λ_ s=>(SC.i (SC.i (SC.i (SC.i SC.t s.l.l.l.r) s.l.l.r) s.l.r) s.r)) (λg72 x73 a74 v75=>(QZ (K:=K) (o:=(oL (oF Xb))) (f:=λa89=>(Rs.ok (a89))) 3 0 rfl rfl rfl (λ_ s=>s.l.r) (Yu (λ_=>tg1 0) (Xz (Xa (r:=Xb) 1 rfl (λ_ s=>s.l.l.l.r))) (λC77 a78 v79=>(By (Xa (r:=Xb) 1 rfl (λ_ s=>s.l.l.l.l.l.r)) (Xa (r:=Xb) 2 rfl (λ_ s=>s.l.l.l.l.r)) (Xa (r:=Xb) 3 rfl (λ_ s=>s.l.l.l.r)) (Xa (r:=Xb) 4 rfl (λ_ s=>s.l.r)) (Xa (r:=Xb) 0 rfl (λ_ s=>s.r))))) λa87 C88=>(XF (J:=_) ((some v75), x73.2.1, C88) ((g72 ++ [a87])) rfl rfl (λ_ s=>(SC.i (SC.i (SC.i (SC.i SC.t s.l.l.l.l.l.r) s.l.l.l.l.r) s.l.l.l.r) s.r))))) λg90 x91=>(Xt (Zh (o:=(oL (oL (oF Xb)))) 3 0 rfl rfl (λ_ s=>s.r)))))))
theorem Qh : FnScope ["_law_some", "_law_count", "_law_left", "_law_found", "_law_k"] ["_law_some", "_law_count"] (Xh J7):=⟨rfl, rfl, rfl, by decide +kernel, rfl, by decide +kernel, by decide +kernel⟩
theorem Ff (D : Def K mg "_law_ordered" J7 ["_law_some", "_law_count"])  (Z : Blt mg) : Fn P w K mg base 1 "_law_ordered" ["_law_some", "_law_count"] (sp2 (rV Xb) Xb (oL (oF Xb)) Y9 K):=by
  refine YM D Qh (λvs H Q E h=>?_) (λf cdv A outer s H vs Q E hr h=>?_)
  . obtain ⟨v_0, v_1, a_0, a_1, b, rfl, _⟩:=h; rfl
  obtain ⟨v_0, v_1, a_0, a_1, b, rfl, h_0, h_1, hm, q⟩:=h
  have hu:=hu8 hr
  have hu1:=YJ hr
  refine ⟨_, (Xc (XD (i:=2) Qh.nd rfl (Or.inl rfl) (Za rfl rfl rfl Z.b_list Z.b_range (Xd (pv 1) Xf)))
    (Xc (XD (i:=3) Qh.nd rfl (Or.inl rfl) (YG Xf))
    (Xc (X3 PassesOwn.never rfl (XN rfl Z.b_range (Xd (pv 1) Xf)) (Xo (i:=4) Qh.nd rfl (Or.inl rfl))
      (Xc (Y2 (QL PySem.F.plainAttrs_list PySem.F.slot_list_append PySem.F.type_list_append YH (pv 3) (Xd (QL PySem.F.plainAttrs_list PySem.F.slot_list_pop PySem.F.type_list_pop Bg (pv 2) (Xd (Xy YO (XJ (Xk K rfl) (pv 0) (pv 4) (λ_ _=>rfl)) (Xu (Xm K rfl) rfl Z.b_len PySem.boot_len (Xd (pv 2) Xf))) Xf)) Xf)))
      Xe))
    (Xc (Xs (pv 3))
    Xe)))), ?_⟩
  refine YL (S:=(SC.add (SC.add SC.nil K (rV Xb) v_0 a_0) K Xb v_1 a_1)) (σ:=[some v_0, some v_1, none, none, none]) 2 ?_ (SC.i (SC.i SC.t h_0) h_1) hm q rfl
  unfold Y9
  exact (Yz (K:=K) (o:=(oL (oF Xb))) 2 1 (Zc (Xa (r:=Xb) 1 rfl (λ_ s=>s.r))) (Nat.le_of_ble_eq_true rfl) λa1 v2 C3=>(Yz (K:=K) (o:=(oL (oF Xb))) 3 0 (UW (o:=(oF Xb))) (Nat.le_of_ble_eq_true rfl) λa5 v6 C7=>(YY (K:=K) (J:=({ oo:=λx9=>[x9.2.2.2.1, x9.2.2.2.2], ss:=λx9=>[some v_0, some v_1, some x9.2.2.1, some x9.2.1, x9.1], sc:=λg10 x9=>(SC.addO (SC.addO (SC.add (SC.add SC.nil K (rV Xb) v_0 a_0) K Xb v_1 a_1) K (oL (oF Xb)) x9.2.1 g10.1 x9.2.2.2.1) K (oL (oF Xb)) x9.2.2.1 g10.2 x9.2.2.2.2) } : Jn ((List Int) × (List Int)) (Option V × V × V × List XM × List XM))) (λ_=>tg1 4) ((none), v6, v2, C7, C3) (a5, a1) (Xz (Xa (r:=Xb) 1 rfl (λ_ s=>s.l.l.r))) rfl rfl (λ_ s=>(SC.i (SC.i (SC.i (SC.i SC.t s.l.l.l.r) s.l.l.r) s.r) s.l.r)) (λg11 x12 a13 v14=>(BL (K:=K) (r:=Xb) (f:=λa21 a22=>(Rs.ok (a22, a21))) 2 1 3 0 (by decide) rfl rfl (λ_ s=>s.l.r) rfl rfl (λ_ s=>s.l.l.r) (Ye (Xr (Xa (r:=(rV Xb)) 0 rfl (λ_ s=>s.l.l.l.l.r)) (Xa (r:=Xb) 4 rfl (λ_ s=>s.r))) (XU (Qs (o:=(oL (oF Xb))) 2 1 rfl rfl (λ_ s=>s.l.r)))) λa20 a21 C23 C24=>(XF (J:=_) ((some v14), x12.2.1, x12.2.2.1, C24, C23) ((g11.1 ++ [a20]), a21) rfl rfl (λ_ s=>(SC.i (SC.i (SC.i (SC.i SC.t s.l.l.l.l.l.l.r) s.l.l.l.l.l.r) s.r) s.l.r))))) λg27 x28=>(Xt (Zh (o:=(oL (oF Xb))) 3 0 rfl rfl (λ_ s=>s.l.r))))))
theorem QD : FnScope ["_law_some", "_law_spots", "_law_found", "_law_a", "_law_b"] ["_law_some", "_law_spots"] (Xh JL):=⟨rfl, rfl, rfl, by decide +kernel, rfl, by decide +kernel, by decide +kernel⟩
theorem DM (D : Def K mg "_law_relaid" JL ["_law_some", "_law_spots"])  (Z : Blt mg) : Fn P w K mg base 1 "_law_relaid" ["_law_some", "_law_spots"] (sp2 (rV (rV Xb)) (rV Xb) (oL (oL (oF Xb))) Qk K):=by
  refine YM D QD (λvs H Q E h=>?_) (λf cdv A outer s H vs Q E hr h=>?_)
  . obtain ⟨v_0, v_1, a_0, a_1, b, rfl, _⟩:=h; rfl
  obtain ⟨v_0, v_1, a_0, a_1, b, rfl, h_0, h_1, hm, q⟩:=h
  have hu:=hu8 hr
  have hu1:=YJ hr
  refine ⟨_, (Xc (Ul 2 (Xh JL) ["_law_some", "_law_spots", "_law_found", "_law_a", "_law_b"] ["_law_line"] [] rfl QD.nd rfl rfl (X1 (K:=K) rfl (pv 0)) (YA (by decide)) (λcl C s H ex E=>⟨Xo (i:=0) (show List.Nodup (["_law_line"] : List Str) by decide +kernel) rfl (Or.inl rfl), Yr, (Z3 (Q4 K rfl) rfl Z.b_list PyProof.Rows.boot_list (Xd (pv 0) Xf))⟩))
    (Xc (X3 PassesOwn.never rfl (XN rfl Z.b_range (Xd (Xu (Xm K rfl) rfl Z.b_len PySem.boot_len (Xd (pv 0) Xf)) Xf)) (Xo (i:=3) QD.nd rfl (Or.inl rfl))
      (Xc (X3 PassesOwn.never rfl (XN rfl Z.b_range (Xd (Xu (Xm K rfl) rfl Z.b_len PySem.boot_len (Xd (pv 0) Xf)) Xf)) (Xo (i:=4) QD.nd rfl (Or.inl rfl))
        (Xc (GE (XJ (Xk K rfl) (pv 1) (XJ (Xk K rfl) (XJ (Xk K rfl) (pv 0) (pv 3) (λ_ _=>rfl)) (pv 4) (λ_ _=>rfl)) (λ_ _=>rfl)) (Gk (XJ (Xk K rfl) (pv 2) (XJ (Xk K rfl) (pv 1) (pv 3) (λ_ _=>rfl)) (λ_ _=>rfl)) (XJ (Xk K rfl) (pv 1) (pv 4) (λ_ _=>rfl)) JG))
        Xe))
      Xe))
    (Xc (Xs (pv 2))
    Xe))), ?_⟩
  refine YL (S:=(SC.add (SC.add SC.nil K (rV (rV Xb)) v_0 a_0) K (rV Xb) v_1 a_1)) (σ:=[some v_0, some v_1, none, none, none]) 1 ?_ (SC.i (SC.i SC.t h_0) h_1) hm q rfl
  unfold Qk
  exact (Yz (K:=K) (o:=(oL (oL (oF Xb)))) 2 0 (Yu (λ_=>tg1 0) (XQ (Xp (r:=(rV (rV Xb))) 0 rfl (λ_ s=>s.l.r))) (λC4 a5 v6=>(DP (EvS.ls (Xp (r:=(rV Xb)) 0 rfl (λ_ s=>s.r)))))) (Nat.le_of_ble_eq_true rfl) λa1 v2 C3=>(YY (K:=K) (J:=({ oo:=λx11=>[x11.2.2.2], ss:=λx11=>[some v_0, some v_1, some x11.2.2.1, x11.1, x11.2.1], sc:=λg12 x11=>(SC.addO (SC.add (SC.add SC.nil K (rV (rV Xb)) v_0 a_0) K (rV Xb) v_1 a_1) K (oL (oL (oF Xb))) x11.2.2.1 g12 x11.2.2.2) } : Jn ((List (List Int))) (Option V × Option V × V × List XM))) (λ_=>tg1 3) ((none), (none), v2, C3) (a1) (Xz (XU (Xa (r:=(rV (rV Xb))) 0 rfl (λ_ s=>s.l.l.r)))) rfl rfl (λ_ s=>(SC.i (SC.i (SC.i SC.t s.l.l.r) s.l.r) s.r)) (λg13 x14 a15 v16=>(YY (K:=K) (J:=({ oo:=λx19=>[x19.2.2], ss:=λx19=>[some v_0, some v_1, some x19.2.1, some v16, x19.1], sc:=λg20 x19=>(SC.addO (SC.add (SC.add (SC.add SC.nil K (rV (rV Xb)) v_0 a_0) K (rV Xb) v_1 a_1) K Xb v16 a15) K (oL (oL (oF Xb))) x19.2.1 g20 x19.2.2) } : Jn ((List (List Int))) (Option V × V × List XM))) (λ_=>tg1 4) ((x14.2.1), x14.2.2.1, x14.2.2.2) (g13) (Xz (XU (Xa (r:=(rV (rV Xb))) 0 rfl (λ_ s=>s.l.l.l.r)))) rfl rfl (λ_ s=>(SC.i (SC.i (SC.i (SC.i SC.t s.l.l.l.r) s.l.l.r) s.r) s.l.r)) (λg21 x22 a23 v24=>(Kl (K:=K) (r:=Xb) 2 0 rfl rfl (λ_ s=>s.l.r) (EvB.sh (Xr (Xa (r:=(rV Xb)) 1 rfl (λ_ s=>s.l.l.l.r)) (Xr (Xr (Xa (r:=(rV (rV Xb))) 0 rfl (λ_ s=>s.l.l.l.l.r)) (Xa (r:=Xb) 3 rfl (λ_ s=>s.l.l.r))) (Xa (r:=Xb) 4 rfl (λ_ s=>s.r))))) (Xr (Xa (r:=(rV Xb)) 1 rfl (λ_ s=>s.l.l.l.r)) (Xa (r:=Xb) 3 rfl (λ_ s=>s.l.l.r))) (Xr (Xa (r:=(rV Xb)) 1 rfl (λ_ s=>s.l.l.l.r)) (Xa (r:=Xb) 4 rfl (λ_ s=>s.r))) λa38 C39=>(XF (J:=_) ((some v24), x22.2.1, C39) (a38) rfl rfl (λ_ s=>(SC.i (SC.i (SC.i (SC.i SC.t s.l.l.l.l.l.r) s.l.l.l.l.r) s.l.l.l.r) s.r))))) λg42 x43=>(XF (J:=_) ((some v16), (x43.1), x43.2.1, x43.2.2) (g42) rfl rfl (λ_ s=>(SC.i (SC.i (SC.i SC.t s.l.l.l.r) s.l.l.r) s.r))))) λg45 x46=>(Xt (Zh (o:=(oL (oL (oF Xb)))) 2 0 rfl rfl (λ_ s=>s.r)))))
theorem JP : FnScope ["_law_script", "_law_place", "_law_most", "_law_some", "_law_size", "_law_found"] ["_law_script", "_law_place", "_law_most"] (Xh KR):=⟨rfl, rfl, rfl, by decide +kernel, rfl, by decide +kernel, by decide +kernel⟩
theorem B7 (D : Def K mg "_law_table" KR ["_law_script", "_law_place", "_law_most"]) (g_row : Fn P w K mg base 2 "_law_row" ["_law_script", "_law_place", "_law_sizes"] (sp3 (rL Xb) Xb (rV Xb) (oL (oF Xb)) UI K)) (g_made : Fn P w K mg base 2 "_law_made" ["_law_way", "_law_size", "_law_factor"] (sp3 Xb Xb Xb (oL (oL (oF Xb))) VJ K)) (g_relaid : Fn P w K mg base 1 "_law_relaid" ["_law_some", "_law_spots"] (sp2 (rV (rV Xb)) (rV Xb) (oL (oL (oF Xb))) Qk K)) (g_ordered : Fn P w K mg base 1 "_law_ordered" ["_law_some", "_law_count"] (sp2 (rV Xb) Xb (oL (oF Xb)) Y9 K)) (Z : Blt mg) : Fn P w K mg base 3 "_law_table" ["_law_script", "_law_place", "_law_most"] (sp3 (rL Xb) Xb Xb (oL (oL (oF Xb))) Qt K):=by
  refine YM D JP (λvs H Q E h=>?_) (λf cdv A outer s H vs Q E hr h=>?_)
  . obtain ⟨v_0, v_1, v_2, a_0, a_1, a_2, b, rfl, _⟩:=h; rfl
  obtain ⟨v_0, v_1, v_2, a_0, a_1, a_2, b, rfl, h_0, h_1, h_2, hm, q⟩:=h
  have hu:=hu8 hr
  have hu1:=YJ hr
  refine ⟨_, (Xc (XD (i:=3) JP.nd rfl (Or.inl rfl) (XR g_row hr (by decide) (Xd (pv 0) (Xd (pv 1) (Xd (Xy Kw (YG (Xd Xi (Xd Xi (Xd Xi (Xd Xi Xf))))) (Xy GV (YG (Xd Xi Xf)) Xi)) Xf)))))
    (Xc (XD (i:=4) JP.nd rfl (Or.inl rfl) (Xy Yn Xi (Xy YO (XJ (Xk K rfl) (pv 3) Xi (λ_ _=>rfl)) (pv 2))))
    (Xc (XD (i:=5) JP.nd rfl (Or.inl rfl) (XR g_made hr (by decide) (Xd (XJ (Xk K rfl) (pv 3) Xi (λ_ _=>rfl)) (Xd (pv 4) (Xd (Xy Yn Xi (XJ (Xk K rfl) (pv 3) Xi (λ_ _=>rfl))) Xf)))))
    (Xc (Yx (Xq ZX (XJ (Xk K rfl) (pv 3) Xi (λ_ _=>rfl)) Xi (XB _))
      (Xc (Xs (pv 5))
      Xe)
      Xe)
    (Xc (Xs (XR g_relaid hr (by decide) (Xd (pv 5) (Xd (XR g_ordered hr (by decide) (Xd (JS (JU K rfl) (pv 3) (Uh Xi) UC) (Xd (pv 4) Xf))) Xf))))
    Xe))))), ?_⟩
  refine YL (S:=(SC.add (SC.add (SC.add SC.nil K (rL Xb) v_0 a_0) K Xb v_1 a_1) K Xb v_2 a_2)) (σ:=[some v_0, some v_1, some v_2, none, none, none]) 1 ?_ (SC.i (SC.i (SC.i SC.t h_0) h_1) h_2) hm q rfl
  unfold Qt
  exact (XV (K:=K) (r:=(rV Xb)) 3 (Ev.sh (Zl (Xa (r:=(rL Xb)) 0 rfl (λ_ s=>s.l.l.r)) (Xa (r:=Xb) 1 rfl (λ_ s=>s.l.r)) (Ev.toB (Kd (Ev.ls (Z0 (XE (EvB.sh (Xg 7)) (XE (EvB.sh (Xg 24)) (XE (EvB.sh (Xg 6)) (XE (EvB.sh (Xg 2)) Zf)))))) (Ev.ls (Gu (Ev.ls (Z0 (XE (EvB.sh (Xg 24)) Zf))) (Xg 24))))))) λa1 v2=>(XV (K:=K) (r:=Xb) 4 (EvB.sh (X0 (Xg 1) (Ye (Xr (Xa (r:=(rV Xb)) 3 rfl (λ_ s=>s.r)) (Xg 1)) (Xa (r:=Xb) 2 rfl (λ_ s=>s.l.r))))) λa23 v24=>(Yz (K:=K) (o:=(oL (oL (oF Xb)))) 5 0 (Zl (Xr (Xa (r:=(rV Xb)) 3 rfl (λ_ s=>s.l.r)) (Xg 0)) (Xa (r:=Xb) 4 rfl (λ_ s=>s.r)) (X0 (Xg 2) (Xr (Xa (r:=(rV Xb)) 3 rfl (λ_ s=>s.l.r)) (Xg 2)))) (Nat.le_of_ble_eq_true rfl) λa31 v32 C33=>(YQ (Xn (K:=K) (YT (Xr (Xa (r:=(rV Xb)) 3 rfl (λ_ s=>s.l.l.r)) (Xg 3)) (Xg 0))) (Xt (Zh (o:=(oL (oL (oF Xb)))) 5 0 rfl rfl (λ_ s=>s.r))) (Xt (XC (Qs (o:=(oL (oL (oF Xb)))) 5 0 rfl rfl (λ_ s=>s.r)) (Ev.toB (XC (Ev.toB (UH (EvS.ls (Xp (r:=(rV Xb)) 3 rfl (λ_ s=>s.l.l.r))) (JO (K:=K) (Xg 4)) JF)) (Xa (r:=Xb) 4 rfl (λ_ s=>s.l.r))))))))))
theorem Qr : FnScope ["_law_table_here", "_law_count", "_law_a", "_law_b", "_law_c", "_law_one"] ["_law_table_here"] (Xh GA):=⟨rfl, rfl, rfl, by decide +kernel, rfl, by decide +kernel, by decide +kernel⟩
theorem Hc (D : Def K mg "_law_good" GA ["_law_table_here"])  (Z : Blt mg) : Fn P w K mg base 1 "_law_good" ["_law_table_here"] (sp1 (rV (rV Xb)) (oF Yw) V6 K):=by
  refine YM D Qr (λvs H Q E h=>?_) (λf cdv A outer s H vs Q E hr h=>?_)
  . obtain ⟨v_0, a_0, b, rfl, _⟩:=h; rfl
  obtain ⟨v_0, a_0, b, rfl, h_0, hm, q⟩:=h
  have hu:=hu8 hr
  have hu1:=YJ hr
  refine ⟨_, (Xc (XD (i:=1) Qr.nd rfl (Or.inl rfl) (Xu (Xm K rfl) rfl Z.b_len PySem.boot_len (Xd (pv 0) Xf)))
    (Xc (X3 PassesOwn.never rfl (XN rfl Z.b_range (Xd (pv 1) Xf)) (Xo (i:=2) Qr.nd rfl (Or.inr rfl))
      (Xc (Yx (Xq Dw (XJ (Xk K rfl) (XJ (Xk K rfl) (pv 0) (pv 2) (λ_ _=>rfl)) (pv 2) (λ_ _=>rfl)) (pv 2) (XB _))
        (Xc (Xs Jb)
        Xe)
        Xe)
      (Xc (Yx (Xq (Kt (Cq eq_int) (Fw (by decide) hu)) (Xu (VI K rfl) rfl Z.b_sorted PyProof.Rows.boot_sorted (Xd (YK (sc:=(Xh GA)) (N0:=["_law_table_here", "_law_count", "_law_a", "_law_b", "_law_c", "_law_one"]) (tns:=["_law_x"]) (caps:=[(0, "_law_table_here"), (2, "_law_a")]) rfl (XN rfl Z.b_range (Xd (pv 1) Xf)) (YA (by decide)) (λcl C s H ex E=>⟨Xo (i:=0) (show List.Nodup (["_law_x", "_law_table_here", "_law_a"] : List Str) by decide +kernel) rfl (Or.inl rfl), Yr, (XJ (Xk K rfl) (XJ (Xk K rfl) (pv 1) (pv 0) (λ_ _=>rfl)) (pv 2) (λ_ _=>rfl))⟩)) Xf)) (Za rfl rfl rfl Z.b_list Z.b_range (Xd (pv 1) Xf)) (XB _))
        (Xc (Xs Jb)
        Xe)
        Xe)
      Xe)))
    (Xc (X3 PassesOwn.never rfl (XN rfl Z.b_range (Xd (pv 1) Xf)) (Xo (i:=2) Qr.nd rfl (Or.inr rfl))
      (Xc (X3 PassesOwn.never rfl (XN rfl Z.b_range (Xd (pv 1) Xf)) (Xo (i:=3) Qr.nd rfl (Or.inl rfl))
        (Xc (X3 PassesOwn.never rfl (XN rfl Z.b_range (Xd (pv 1) Xf)) (Xo (i:=4) Qr.nd rfl (Or.inl rfl))
          (Xc (XD (i:=5) Qr.nd rfl (Or.inl rfl) (XJ (Xk K rfl) (XJ (Xk K rfl) (pv 0) (XJ (Xk K rfl) (XJ (Xk K rfl) (pv 0) (pv 2) (λ_ _=>rfl)) (pv 3) (λ_ _=>rfl)) (λ_ _=>rfl)) (pv 4) (λ_ _=>rfl)))
          (Xc (Yx (Xq Dw (pv 5) (XJ (Xk K rfl) (XJ (Xk K rfl) (pv 0) (XJ (Xk K rfl) (XJ (Xk K rfl) (pv 0) (pv 2) (λ_ _=>rfl)) (pv 4) (λ_ _=>rfl)) (λ_ _=>rfl)) (XJ (Xk K rfl) (XJ (Xk K rfl) (pv 0) (pv 3) (λ_ _=>rfl)) (pv 4) (λ_ _=>rfl)) (λ_ _=>rfl)) (XB _))
            (Xc (Xs Jb)
            Xe)
            Xe)
          Xe)))
        Xe))
      Xe))
    (Xc (Xs Jb)
    Xe)))), ?_⟩
  refine YL (S:=(SC.add SC.nil K (rV (rV Xb)) v_0 a_0)) (σ:=[some v_0, none, none, none, none, none]) 0 ?_ (SC.i SC.t h_0) hm q rfl
  unfold V6
  exact (XV (K:=K) (r:=Xb) 1 (EvB.sh (XU (Xa (r:=(rV (rV Xb))) 0 rfl (λ_ s=>s.r)))) λa1 v2=>(Z7 (K:=K) (J:=({ oo:=λx5=>[], ss:=λx5=>[some v_0, some v2, x5, none, none, none], sc:=λg6 x5=>(SC.add (SC.add SC.nil K (rV (rV Xb)) v_0 a_0) K Xb v2 a1) } : Jn (Unit) (Option V))) (λ_=>tg1 2) ((none)) () (Xz (Xa (r:=Xb) 1 rfl (λ_ s=>s.r))) rfl rfl (λ_ s=>(SC.i (SC.i SC.t s.l.r) s.r)) (λg7 x8 a9 v10=>(ZC (Xn (K:=K) (KA (Xr (Xr (Xa (r:=(rV (rV Xb))) 0 rfl (λ_ s=>s.l.l.r)) (Xa (r:=Xb) 2 rfl (λ_ s=>s.r))) (Xa (r:=Xb) 2 rfl (λ_ s=>s.r))) (Xa (r:=Xb) 2 rfl (λ_ s=>s.r)))) (Xt (EvS.ev (EvB.sh (ZO false)))) (ZC (Xn (K:=K) (Vu (Ev.toB (BA (Ev.ls (Yu (λ_=>tg1 0) (Xz (Xa (r:=Xb) 1 rfl (λ_ s=>s.l.r))) (λC20 a21 v22=>(EvS.ev (EvB.sh (Xr (Xr (Xa (r:=(rV (rV Xb))) 1 rfl (λ_ s=>s.l.l.l.r)) (Xa (r:=Xb) 0 rfl (λ_ s=>s.r))) (Xa (r:=Xb) 2 rfl (λ_ s=>s.l.r)))))))))) (Ev.toB (Zc (Xa (r:=Xb) 1 rfl (λ_ s=>s.l.r)))))) (Xt (EvS.ev (EvB.sh (ZO false)))) (ZL (XF (J:=_) ((some v10)) () rfl rfl (λ_ s=>(SC.i (SC.i SC.t s.l.l.r) s.l.r))))))) λg35 x36=>(Z7 (K:=K) (J:=({ oo:=λx38=>[], ss:=λx38=>[some v_0, some v2, x38.1, x38.2.1, x38.2.2.1, x38.2.2.2], sc:=λg39 x38=>(SC.add (SC.add SC.nil K (rV (rV Xb)) v_0 a_0) K Xb v2 a1) } : Jn (Unit) (Option V × Option V × Option V × Option V))) (λ_=>tg1 2) ((x36), (none), (none), (none)) () (Xz (Xa (r:=Xb) 1 rfl (λ_ s=>s.r))) rfl rfl (λ_ s=>(SC.i (SC.i SC.t s.l.r) s.r)) (λg40 x41 a42 v43=>(QW (K:=K) (J:=({ oo:=λx45=>[], ss:=λx45=>[some v_0, some v2, some v43, x45.1, x45.2.1, x45.2.2], sc:=λg46 x45=>(SC.add (SC.add (SC.add SC.nil K (rV (rV Xb)) v_0 a_0) K Xb v2 a1) K Xb v43 a42) } : Jn (Unit) (Option V × Option V × Option V))) (λ_=>tg1 3) ((x41.2.1), (x41.2.2.1), (x41.2.2.2)) () (Xz (Xa (r:=Xb) 1 rfl (λ_ s=>s.l.r))) rfl rfl (λ_ s=>(SC.i (SC.i (SC.i SC.t s.l.l.r) s.l.r) s.r)) (λg47 x48 a49 v50=>(QW (K:=K) (J:=({ oo:=λx52=>[], ss:=λx52=>[some v_0, some v2, some v43, some v50, x52.1, x52.2], sc:=λg53 x52=>(SC.add (SC.add (SC.add (SC.add SC.nil K (rV (rV Xb)) v_0 a_0) K Xb v2 a1) K Xb v43 a42) K Xb v50 a49) } : Jn (Unit) (Option V × Option V))) (λ_=>tg1 4) ((x48.2.1), (x48.2.2)) () (Xz (Xa (r:=Xb) 1 rfl (λ_ s=>s.l.l.r))) rfl rfl (λ_ s=>(SC.i (SC.i (SC.i (SC.i SC.t s.l.l.l.r) s.l.l.r) s.l.r) s.r)) (λg54 x55 a56 v57=>(XV (K:=K) (r:=Xb) 5 (EvB.sh (Xr (Xr (Xa (r:=(rV (rV Xb))) 0 rfl (λ_ s=>s.l.l.l.l.r)) (Xr (Xr (Xa (r:=(rV (rV Xb))) 0 rfl (λ_ s=>s.l.l.l.l.r)) (Xa (r:=Xb) 2 rfl (λ_ s=>s.l.l.r))) (Xa (r:=Xb) 3 rfl (λ_ s=>s.l.r)))) (Xa (r:=Xb) 4 rfl (λ_ s=>s.r)))) λa58 v59=>(ZC (Xn (K:=K) (KA (Xa (r:=Xb) 5 rfl (λ_ s=>s.r)) (Xr (Xr (Xa (r:=(rV (rV Xb))) 0 rfl (λ_ s=>s.l.l.l.l.l.r)) (Xr (Xr (Xa (r:=(rV (rV Xb))) 0 rfl (λ_ s=>s.l.l.l.l.l.r)) (Xa (r:=Xb) 2 rfl (λ_ s=>s.l.l.l.r))) (Xa (r:=Xb) 4 rfl (λ_ s=>s.l.r)))) (Xr (Xr (Xa (r:=(rV (rV Xb))) 0 rfl (λ_ s=>s.l.l.l.l.l.r)) (Xa (r:=Xb) 3 rfl (λ_ s=>s.l.l.r))) (Xa (r:=Xb) 4 rfl (λ_ s=>s.l.r)))))) (Xt (EvS.ev (EvB.sh (ZO false)))) (ZL (XF (J:=_) ((some v57), (some v59)) () rfl rfl (λ_ s=>(SC.i (SC.i (SC.i (SC.i SC.t s.l.l.l.l.l.r) s.l.l.l.l.r) s.l.l.l.r) s.l.l.r))))))) λg85 x86=>(ZL (XF (J:=_) ((some v50), (x86.1), (x86.2)) () rfl rfl (λ_ s=>(SC.i (SC.i (SC.i SC.t s.l.l.l.r) s.l.l.r) s.l.r)))))) λg89 x90=>(ZL (XF (J:=_) ((some v43), (x90.1), (x90.2.1), (x90.2.2)) () rfl rfl (λ_ s=>(SC.i (SC.i SC.t s.l.l.r) s.l.r)))))) λg93 x94=>(Xt (EvS.ev (EvB.sh (ZO true)))))))
theorem YX : FnScope ["_law_table_here", "_law_lows", "_law_k", "_law_a", "_law_colour", "_law_low", "_law_found", "_law_one", "_law_linked_here"] ["_law_table_here"] (Xh JM):=⟨rfl, rfl, rfl, by decide +kernel, rfl, by decide +kernel, by decide +kernel⟩
theorem FM (D : Def K mg "_law_linked" JM ["_law_table_here"])  (Z : Blt mg) : Fn P w K mg base 1 "_law_linked" ["_law_table_here"] (sp1 (rV (rV Xb)) (oL (oL (oF Xb))) Ql K):=by
  refine YM D YX (λvs H Q E h=>?_) (λf cdv A outer s H vs Q E hr h=>?_)
  . obtain ⟨v_0, a_0, b, rfl, _⟩:=h; rfl
  obtain ⟨v_0, a_0, b, rfl, h_0, hm, q⟩:=h
  have hu:=hu8 hr
  have hu1:=YJ hr
  refine ⟨_, (Xc (XD (i:=1) YX.nd rfl (Or.inr rfl) (Za rfl rfl rfl Z.b_list Z.b_range (Xd (Xu (Xm K rfl) rfl Z.b_len PySem.boot_len (Xd (pv 0) Xf)) Xf)))
    (Xc (X3 PassesOwn.never rfl (XN rfl Z.b_range (Xd (Xu (Xm K rfl) rfl Z.b_len PySem.boot_len (Xd (pv 0) Xf)) Xf)) (Xo (i:=2) YX.nd rfl (Or.inl rfl))
      (Xc (X3 PassesOwn.never rfl (XN rfl Z.b_range (Xd (Xu (Xm K rfl) rfl Z.b_len PySem.boot_len (Xd (pv 0) Xf)) Xf)) (Xo (i:=3) YX.nd rfl (Or.inl rfl))
        (Xc (X3 PassesOwn.never rfl (X1 (K:=K) rfl (XJ (Xk K rfl) (pv 0) (pv 3) (λ_ _=>rfl))) (Xo (i:=4) YX.nd rfl (Or.inl rfl))
          (Xc (XD (i:=5) YX.nd rfl (Or.inl rfl) (Xu (Kb rfl) rfl Z.b_min PyProof.Rows.boot_min (Xd (XJ (Xk K rfl) (pv 1) (pv 3) (λ_ _=>rfl)) (Xd (XJ (Xk K rfl) (pv 1) (pv 4) (λ_ _=>rfl)) Xf))))
          (Xc (GE (pv 5) (Gk (pv 1) (pv 3) JG))
          (Xc (GE (pv 5) (Gk (pv 1) (pv 4) JG))
          Xe))))
        Xe))
      Xe))
    (Xc (XD (i:=6) YX.nd rfl (Or.inl rfl) (YG Xf))
    (Xc (X3 PassesOwn.never rfl (XN rfl Z.b_range (Xd (Xu (Xm K rfl) rfl Z.b_len PySem.boot_len (Xd (pv 0) Xf)) Xf)) (Xo (i:=7) YX.nd rfl (Or.inr rfl))
      (Xc (Ul 8 (Xh JM) ["_law_table_here", "_law_lows", "_law_k", "_law_a", "_law_colour", "_law_low", "_law_found", "_law_one", "_law_linked_here"] ["_law_a"] [(1, "_law_lows"), (7, "_law_one")] rfl YX.nd rfl rfl (XN rfl Z.b_range (Xd (Xu (Xm K rfl) rfl Z.b_len PySem.boot_len (Xd (pv 0) Xf)) Xf)) (YA (by decide)) (λcl C s H ex E=>⟨Xo (i:=0) (show List.Nodup (["_law_a", "_law_lows", "_law_one"] : List Str) by decide +kernel) rfl (Or.inl rfl), (FQ (Xq ZX (XJ (Xk K rfl) (pv 1) (pv 0) (λ_ _=>rfl)) (pv 2) (XB _))), (pv 0)⟩))
      (Xc (Yx (Xq Da (Xu (Xm K rfl) rfl Z.b_len PySem.boot_len (Xd (pv 8) Xf)) Xi (XB _))
        (Xc (Y2 (QL PySem.F.plainAttrs_list PySem.F.slot_list_append PySem.F.type_list_append YH (pv 6) (Xd (pv 8) Xf)))
        Xe)
        Xe)
      Xe)))
    (Xc (Xs (pv 6))
    Xe))))), ?_⟩
  refine YL (S:=(SC.add SC.nil K (rV (rV Xb)) v_0 a_0)) (σ:=[some v_0, none, none, none, none, none, none, none, none]) 3 ?_ (SC.i SC.t h_0) hm q rfl
  unfold Ql
  exact (Yz (K:=K) (o:=(oL (oF Xb))) 1 1 (Zc (XU (Xa (r:=(rV (rV Xb))) 0 rfl (λ_ s=>s.r)))) (Nat.le_of_ble_eq_true rfl) λa1 v2 C3=>(YY (K:=K) (J:=({ oo:=λx8=>[[], x8.2.2.2.2.2, []], ss:=λx8=>[some v_0, some x8.2.2.2.2.1, x8.1, x8.2.1, x8.2.2.1, x8.2.2.2.1, none, none, none], sc:=λg9 x8=>(SC.addO (SC.add SC.nil K (rV (rV Xb)) v_0 a_0) K (oL (oF Xb)) x8.2.2.2.2.1 g9 x8.2.2.2.2.2) } : Jn ((List Int)) (Option V × Option V × Option V × Option V × V × List XM))) (λ_=>tg1 2) ((none), (none), (none), (none), v2, C3) (a1) (Xz (XU (Xa (r:=(rV (rV Xb))) 0 rfl (λ_ s=>s.l.r)))) rfl rfl (λ_ s=>(SC.i (SC.i SC.t s.l.r) s.r)) (λg10 x11 a12 v13=>(YY (K:=K) (J:=({ oo:=λx16=>[[], x16.2.2.2.2, []], ss:=λx16=>[some v_0, some x16.2.2.2.1, some v13, x16.1, x16.2.1, x16.2.2.1, none, none, none], sc:=λg17 x16=>(SC.addO (SC.add (SC.add SC.nil K (rV (rV Xb)) v_0 a_0) K Xb v13 a12) K (oL (oF Xb)) x16.2.2.2.1 g17 x16.2.2.2.2) } : Jn ((List Int)) (Option V × Option V × Option V × V × List XM))) (λ_=>tg1 3) ((x11.2.1), (x11.2.2.1), (x11.2.2.2.1), x11.2.2.2.2.1, x11.2.2.2.2.2) (g10) (Xz (XU (Xa (r:=(rV (rV Xb))) 0 rfl (λ_ s=>s.l.l.r)))) rfl rfl (λ_ s=>(SC.i (SC.i (SC.i SC.t s.l.l.r) s.r) s.l.r)) (λg18 x19 a20 v21=>(YY (K:=K) (J:=({ oo:=λx24=>[[], x24.2.2.2, []], ss:=λx24=>[some v_0, some x24.2.2.1, some v13, some v21, x24.1, x24.2.1, none, none, none], sc:=λg25 x24=>(SC.addO (SC.add (SC.add (SC.add SC.nil K (rV (rV Xb)) v_0 a_0) K Xb v13 a12) K Xb v21 a20) K (oL (oF Xb)) x24.2.2.1 g25 x24.2.2.2) } : Jn ((List Int)) (Option V × Option V × V × List XM))) (λ_=>tg1 4) ((x19.2.1), (x19.2.2.1), x19.2.2.2.1, x19.2.2.2.2) (g18) (XQ (Le (EvS.ls (Xp (r:=(rV (rV Xb))) 0 rfl (λ_ s=>s.l.l.l.r))) (Xa (r:=Xb) 3 rfl (λ_ s=>s.r)))) rfl rfl (λ_ s=>(SC.i (SC.i (SC.i (SC.i SC.t s.l.l.l.r) s.l.l.r) s.r) s.l.r)) (λg26 x27 a28 v29=>(XV (K:=K) (r:=Xb) 5 (EvB.sh (CG (Xr (Qs (o:=(oL (oF Xb))) 1 1 rfl rfl (λ_ s=>s.l.r)) (Xa (r:=Xb) 3 rfl (λ_ s=>s.l.l.r))) (Xr (Qs (o:=(oL (oF Xb))) 1 1 rfl rfl (λ_ s=>s.l.r)) (Xa (r:=Xb) 4 rfl (λ_ s=>s.r))))) λa30 v31=>(GC (K:=K) (o:=(oF Xb)) 1 1 rfl rfl (λ_ s=>s.l.l.r) (EvS.ev (Xp (r:=Xb) 5 rfl (λ_ s=>s.r))) (λ_=>(Xa (r:=Xb) 3 rfl (λ_ s=>s.l.l.l.r))) λa40 C41=>(GC (K:=K) (o:=(oF Xb)) 1 1 rfl rfl (λ_ s=>s.r) (EvS.ev (Xp (r:=Xb) 5 rfl (λ_ s=>s.l.r))) (λ_=>(Xa (r:=Xb) 4 rfl (λ_ s=>s.l.l.r))) λa44 C45=>(XF (J:=_) ((some v29), (some v31), x27.2.2.1, C45) (a44) rfl rfl (λ_ s=>(SC.i (SC.i (SC.i (SC.i SC.t s.l.l.l.l.l.l.l.r) s.l.l.l.l.l.l.r) s.l.l.l.l.l.r) s.r))))))) λg46 x47=>(XF (J:=_) ((some v21), (x47.1), (x47.2.1), x47.2.2.1, x47.2.2.2) (g46) rfl rfl (λ_ s=>(SC.i (SC.i (SC.i SC.t s.l.l.l.r) s.l.l.r) s.r))))) λg49 x50=>(XF (J:=_) ((some v13), (x50.1), (x50.2.1), (x50.2.2.1), x50.2.2.2.1, x50.2.2.2.2) (g49) rfl rfl (λ_ s=>(SC.i (SC.i SC.t s.l.l.r) s.r))))) λg52 x53=>(Yz (K:=K) (o:=(oL (oL (oF Xb)))) 6 0 (UW (o:=(oL (oF Xb)))) (Nat.le_of_ble_eq_true rfl) λa54 v55 C56=>(YY (K:=K) (J:=({ oo:=λx59=>[x59.2.2.2, x53.2.2.2.2.2, []], ss:=λx59=>[some v_0, some x53.2.2.2.2.1, x53.1, x53.2.1, x53.2.2.1, x53.2.2.2.1, some x59.2.2.1, x59.1, x59.2.1], sc:=λg60 x59=>(SC.addO (SC.addO (SC.add SC.nil K (rV (rV Xb)) v_0 a_0) K (oL (oF Xb)) x53.2.2.2.2.1 g52 x53.2.2.2.2.2) K (oL (oL (oF Xb))) x59.2.2.1 g60 x59.2.2.2) } : Jn ((List (List Int))) (Option V × Option V × V × List XM))) (λ_=>tg1 7) ((none), (none), v55, C56) (a54) (Xz (XU (Xa (r:=(rV (rV Xb))) 0 rfl (λ_ s=>s.l.l.r)))) rfl rfl (λ_ s=>(SC.i (SC.i (SC.i SC.t s.l.l.r) s.l.r) s.r)) (λg61 x62 a63 v64=>(Yz (K:=K) (o:=(oL (oF Xb))) 8 2 (Gv (λ_=>tg1 0) (Xz (XU (Xa (r:=(rV (rV Xb))) 0 rfl (λ_ s=>s.l.l.l.r)))) (λC70 a71 v72=>(Xn (K:=K) (YT (Xr (Qs (o:=(oL (oF Xb))) 1 2 rfl rfl (λ_ s=>s.l.l.l.r)) (Xa (r:=Xb) 0 rfl (λ_ s=>s.r))) (Xa (r:=Xb) 2 rfl (λ_ s=>s.l.r))))) (λC70 a71 v72=>(EvS.ev (Xp (r:=Xb) 0 rfl (λ_ s=>s.r))))) (Nat.le_of_ble_eq_true rfl) λa65 v66 C67=>(Vk (J:=({ oo:=λx82=>[x82.2.2, x53.2.2.2.2.2, []], ss:=λx82=>[some v_0, some x53.2.2.2.2.1, x53.1, x53.2.1, x53.2.2.1, x53.2.2.2.1, some x82.1, some v64, x82.2.1], sc:=λg83 x82=>(SC.addO (SC.add (SC.addO (SC.add SC.nil K (rV (rV Xb)) v_0 a_0) K (oL (oF Xb)) x53.2.2.2.2.1 g52 x53.2.2.2.2.2) K Xb v64 a63) K (oL (oL (oF Xb))) x82.1 g83 x82.2.2) } : Jn ((List (List Int))) (V × Option V × List XM))) (Kr (Fd:=FNd ({ oo:=λx82=>[x82.2.2, x53.2.2.2.2.2, []], ss:=λx82=>[some v_0, some x53.2.2.2.2.1, x53.1, x53.2.1, x53.2.2.1, x53.2.2.2.1, some x82.1, some v64, x82.2.1], sc:=λg83 x82=>(SC.addO (SC.add (SC.addO (SC.add SC.nil K (rV (rV Xb)) v_0 a_0) K (oL (oF Xb)) x53.2.2.2.2.1 g52 x53.2.2.2.2.2) K Xb v64 a63) K (oL (oL (oF Xb))) x82.1 g83 x82.2.2) } : Jn ((List (List Int))) (V × Option V × List XM))) (Xn (K:=K) (Ka (XU (Qs (o:=(oL (oF Xb))) 8 2 rfl rfl (λ_ s=>s.r))) (Xg 0))) (QZ (K:=K) (o:=(oL (oF Xb))) (f:=λa86=>(Rs.ok (a86))) 6 0 rfl rfl rfl (λ_ s=>s.l.l.r) (Zh (o:=(oL (oF Xb))) 8 2 rfl rfl (λ_ s=>s.r)) λa84 C85=>(XF (J:=_) (x62.2.2.1, (some v66), C85) ((g61 ++ [a84])) rfl rfl (λ_ s=>(SC.i (SC.i (SC.i (SC.i SC.t s.l.l.l.l.l.r) s.l.l.l.l.r) s.l.l.r) s.r)))) (Hb 2 (XF (J:=_) (x62.2.2.1, (some v66), x62.2.2.2) (g61) rfl rfl (λ_ s=>(SC.i (SC.i (SC.i (SC.i SC.t s.l.l.l.l.r) s.l.l.l.r) s.l.r) s.l.l.r))))) λg88 x87=>(XF (J:=_) ((some v64), (x87.2.1), x87.1, x87.2.2) (g88) rfl rfl (λ_ s=>(SC.i (SC.i (SC.i SC.t s.l.l.l.r) s.l.l.r) s.r)))))) λg89 x90=>(Xt (Zh (o:=(oL (oL (oF Xb)))) 6 0 rfl rfl (λ_ s=>s.r)))))))
theorem KY : FnScope ["_law_table_here", "_law_other", "_law_some", "_law_size", "_law_members"] ["_law_table_here", "_law_other", "_law_some"] (Xh Co):=⟨rfl, rfl, rfl, by decide +kernel, rfl, by decide +kernel, by decide +kernel⟩
theorem HK (D : Def K mg "_law_step" Co ["_law_table_here", "_law_other", "_law_some"]) (g_dual : Fn P w K mg base 2 "dual" ["table"] (sp1 (rV (rV Xb)) (oL (oL (oF Xb))) ZI K)) (g_moved : Fn P w K mg base 1 "moved" ["table", "places"] (sp2 (rV (rV Xb)) (rV Xb) (oL (oL (oF Xb))) Jp K)) (g_side : Fn P w K mg base 2 "side" ["one", "other"] (sp2 (rV (rV Xb)) (rV (rV Xb)) (oL (oL (oF Xb))) ZZ K)) (g_paired : Fn P w K mg base 2 "paired" ["one", "other"] (sp2 (rV (rV Xb)) (rV (rV Xb)) (oL (oL (oF Xb))) Zm K)) (g_part : Fn P w K mg base 2 "part" ["table", "members"] (sp2 (rV (rV Xb)) (rV Xb) (oL (oL (oF Xb))) Jv K)) (g_ordered : Fn P w K mg base 1 "_law_ordered" ["_law_some", "_law_count"] (sp2 (rV Xb) Xb (oL (oF Xb)) Y9 K)) (g_grown : Fn P w K mg base 2 "grown" ["table", "some"] (sp2 (rV (rV Xb)) (rV Xb) (oT2 (oL (oF Xb)) (oL (oF (rP3 Xb Xb Xb)))) Jf K)) (Z : Blt mg) : Fn P w K mg base 3 "_law_step" ["_law_table_here", "_law_other", "_law_some"] (sp3 (rV (rV Xb)) (rV (rV Xb)) (rV Xb) (oL (oL (oF Xb))) V7 K):=by
  refine YM D KY (λvs H Q E h=>?_) (λf cdv A outer s H vs Q E hr h=>?_)
  . obtain ⟨v_0, v_1, v_2, a_0, a_1, a_2, b, rfl, _⟩:=h; rfl
  obtain ⟨v_0, v_1, v_2, a_0, a_1, a_2, b, rfl, h_0, h_1, h_2, hm, q⟩:=h
  have hu:=hu8 hr
  have hu1:=YJ hr
  refine ⟨_, (Xc (XD (i:=3) KY.nd rfl (Or.inl rfl) (Xu (Xm K rfl) rfl Z.b_len PySem.boot_len (Xd (pv 0) Xf)))
    (Xc (Yx (Xq ZX (XJ (Xk K rfl) (pv 2) Xi (λ_ _=>rfl)) Xi (XB _))
      (Xc (Xs (XR g_dual hr (by decide) (Xd (pv 0) Xf)))
      Xe)
      Xe)
    (Xc (Yx (Xq ZX (XJ (Xk K rfl) (pv 2) Xi (λ_ _=>rfl)) Xi (XB _))
      (Xc (Xs (XR g_moved hr (by decide) (Xd (pv 0) (Xd (XR g_ordered hr (by decide) (Xd (JS (JU K rfl) (pv 2) (Uh Xi) UC) (Xd (pv 3) Xf))) Xf))))
      Xe)
      Xe)
    (Xc (Yx (PW.pt (ZY (Xq ZX (XJ (Xk K rfl) (pv 2) Xi (λ_ _=>rfl)) Xi (XB _)) (Qw (Xq HR (Xy Yn (pv 3) (Xu (Xm K rfl) rfl Z.b_len PySem.boot_len (Xd (pv 1) Xf))) Xi (XB _)))))
      (Xc (Xs (XR g_side hr (by decide) (Xd (pv 0) (Xd (pv 1) Xf))))
      Xe)
      Xe)
    (Xc (Yx (PW.pt (ZY (Xq ZX (XJ (Xk K rfl) (pv 2) Xi (λ_ _=>rfl)) Xi (XB _)) (Qw (Xq HR (Xy Zx (pv 3) (Xu (Xm K rfl) rfl Z.b_len PySem.boot_len (Xd (pv 1) Xf))) Xi (XB _)))))
      (Xc (Xs (XR g_paired hr (by decide) (Xd (pv 0) (Xd (pv 1) Xf))))
      Xe)
      Xe)
    (Xc (Yx (Xq ZX (XJ (Xk K rfl) (pv 2) Xi (λ_ _=>rfl)) Xi (XB _))
      (Xc (XD (i:=4) KY.nd rfl (Or.inl rfl) (XJ (UK K rfl) (XR g_grown hr (by decide) (Xd (pv 0) (Xd (YG (Xd (Xy YO (XJ (Xk K rfl) (pv 2) Xi (λ_ _=>rfl)) (pv 3)) (Xd (Xy YO (XJ (Xk K rfl) (pv 2) Xi (λ_ _=>rfl)) (pv 3)) Xf))) Xf JY))) Xi (λ_ _=>rfl)))
      (Xc (Xs (XR g_part hr (by decide) (Xd (pv 0) (Xd (pv 4) Xf))))
      Xe))
      Xe)
    (Xc (Yx (Xq HR (Xy Yn (pv 3) (Xu (Xm K rfl) rfl Z.b_len PySem.boot_len (Xd (pv 1) Xf))) Xi (XB _))
      (Xc (Xs (XR g_side hr (by decide) (Xd (pv 1) (Xd (pv 0) Xf))))
      Xe)
      Xe)
    (Xc (Xs (XR g_dual hr (by decide) (Xd (pv 0) Xf)))
    Xe)))))))), ?_⟩
  refine YL (S:=(SC.add (SC.add (SC.add SC.nil K (rV (rV Xb)) v_0 a_0) K (rV (rV Xb)) v_1 a_1) K (rV Xb) v_2 a_2)) (σ:=[some v_0, some v_1, some v_2, none, none]) 0 ?_ (SC.i (SC.i (SC.i SC.t h_0) h_1) h_2) hm q rfl
  unfold V7
  exact (XV (K:=K) (r:=Xb) 3 (EvB.sh (XU (Xa (r:=(rV (rV Xb))) 0 rfl (λ_ s=>s.l.l.r)))) λa1 v2=>(YQ (Xn (K:=K) (YT (Xr (Xa (r:=(rV Xb)) 2 rfl (λ_ s=>s.l.r)) (Xg 0)) (Xg 0))) (Xt (X9 (Xa (r:=(rV (rV Xb))) 0 rfl (λ_ s=>s.l.l.l.r)))) (YQ (Xn (K:=K) (YT (Xr (Xa (r:=(rV Xb)) 2 rfl (λ_ s=>s.l.r)) (Xg 0)) (Xg 1))) (Xt (XC (Xa (r:=(rV (rV Xb))) 0 rfl (λ_ s=>s.l.l.l.r)) (Ev.toB (XC (Ev.toB (UH (EvS.ls (Xp (r:=(rV Xb)) 2 rfl (λ_ s=>s.l.r))) (JO (K:=K) (Xg 1)) JF)) (Xa (r:=Xb) 3 rfl (λ_ s=>s.r)))))) (YQ (Zg (Xn (K:=K) (YT (Xr (Xa (r:=(rV Xb)) 2 rfl (λ_ s=>s.l.r)) (Xg 0)) (Xg 2))) (Xn (K:=K) (DS (X0 (Xa (r:=Xb) 3 rfl (λ_ s=>s.r)) (XU (Xa (r:=(rV (rV Xb))) 1 rfl (λ_ s=>s.l.l.r)))) (Xg 10)))) (Xt (XC (Xa (r:=(rV (rV Xb))) 0 rfl (λ_ s=>s.l.l.l.r)) (Xa (r:=(rV (rV Xb))) 1 rfl (λ_ s=>s.l.l.r)))) (YQ (Zg (Xn (K:=K) (YT (Xr (Xa (r:=(rV Xb)) 2 rfl (λ_ s=>s.l.r)) (Xg 0)) (Xg 3))) (Xn (K:=K) (DS (YW (Xa (r:=Xb) 3 rfl (λ_ s=>s.r)) (XU (Xa (r:=(rV (rV Xb))) 1 rfl (λ_ s=>s.l.l.r)))) (Xg 10)))) (Xt (XC (Xa (r:=(rV (rV Xb))) 0 rfl (λ_ s=>s.l.l.l.r)) (Xa (r:=(rV (rV Xb))) 1 rfl (λ_ s=>s.l.l.r)))) (YQ (Xn (K:=K) (YT (Xr (Xa (r:=(rV Xb)) 2 rfl (λ_ s=>s.l.r)) (Xg 0)) (Xg 4))) (XV (K:=K) (r:=(rV Xb)) 4 (EH (Ev.sh (XC (Xa (r:=(rV (rV Xb))) 0 rfl (λ_ s=>s.l.l.l.r)) (Ev.toB (Z0 (XE (EvB.sh (Ye (Xr (Xa (r:=(rV Xb)) 2 rfl (λ_ s=>s.l.r)) (Xg 1)) (Xa (r:=Xb) 3 rfl (λ_ s=>s.r)))) (XE (EvB.sh (Ye (Xr (Xa (r:=(rV Xb)) 2 rfl (λ_ s=>s.l.r)) (Xg 2)) (Xa (r:=Xb) 3 rfl (λ_ s=>s.r)))) Zf))))))) λa57 v58=>(Xt (XC (Xa (r:=(rV (rV Xb))) 0 rfl (λ_ s=>s.l.l.l.l.r)) (Xa (r:=(rV Xb)) 4 rfl (λ_ s=>s.r))))) (YQ (Xn (K:=K) (DS (X0 (Xa (r:=Xb) 3 rfl (λ_ s=>s.r)) (XU (Xa (r:=(rV (rV Xb))) 1 rfl (λ_ s=>s.l.l.r)))) (Xg 10))) (Xt (XC (Xa (r:=(rV (rV Xb))) 1 rfl (λ_ s=>s.l.l.r)) (Xa (r:=(rV (rV Xb))) 0 rfl (λ_ s=>s.l.l.l.r)))) (Xt (X9 (Xa (r:=(rV (rV Xb))) 0 rfl (λ_ s=>s.l.l.l.r)))))))))))
theorem ZU : FnScope ["_law_one", "_law_other", "_law_back_one", "_law_back_other", "_law_raised", "_law_line"] ["_law_one", "_law_other"] (Xh Qf):=⟨rfl, rfl, rfl, by decide +kernel, rfl, by decide +kernel, by decide +kernel⟩
theorem K3 (D : Def K mg "_law_joined" Qf ["_law_one", "_law_other"]) (g_orbits : Fn P w K mg base 2 "orbits" ["table"] (sp1 (rV (rV Xb)) (oL (oL (oF Xb))) YD K)) (g_dual : Fn P w K mg base 2 "dual" ["table"] (sp1 (rV (rV Xb)) (oL (oL (oF Xb))) ZI K)) (g_side : Fn P w K mg base 2 "side" ["one", "other"] (sp2 (rV (rV Xb)) (rV (rV Xb)) (oL (oL (oF Xb))) ZZ K)) (g_paired : Fn P w K mg base 2 "paired" ["one", "other"] (sp2 (rV (rV Xb)) (rV (rV Xb)) (oL (oL (oF Xb))) Zm K)) (g_part : Fn P w K mg base 2 "part" ["table", "members"] (sp2 (rV (rV Xb)) (rV Xb) (oL (oL (oF Xb))) Jv K)) (Z : Blt mg) : Fn P w K mg base 3 "_law_joined" ["_law_one", "_law_other"] (sp2 (rV (rV Xb)) (rV (rV Xb)) (oF Yw) Y5 K):=by
  refine YM D ZU (λvs H Q E h=>?_) (λf cdv A outer s H vs Q E hr h=>?_)
  . obtain ⟨v_0, v_1, a_0, a_1, b, rfl, _⟩:=h; rfl
  obtain ⟨v_0, v_1, a_0, a_1, b, rfl, h_0, h_1, hm, q⟩:=h
  have hu:=hu8 hr
  have hu1:=YJ hr
  refine ⟨_, (Xc (Do (i:=2) (j:=3) rfl ZU.nd rfl rfl (by decide) rfl rfl (Xd (XR g_dual hr (by decide) (Xd (pv 0) Xf)) (Xd (XR g_dual hr (by decide) (Xd (pv 1) Xf)) Xf)) rfl)
    (Xc (Yx (Xq (Kt (Cq (Cq eq_int)) (Fw (by decide) hu)) (XR g_dual hr (by decide) (Xd (XR g_side hr (by decide) (Xd (pv 0) (Xd (pv 1) Xf))) Xf)) (XR g_side hr (by decide) (Xd (pv 2) (Xd (pv 3) Xf))) (XB _))
      (Xc (Xs Jb)
      Xe)
      Xe)
    (Xc (Yx (Xq (Kt (Cq (Cq eq_int)) (Fw (by decide) hu)) (XR g_dual hr (by decide) (Xd (XR g_paired hr (by decide) (Xd (pv 0) (Xd (pv 1) Xf))) Xf)) (XR g_paired hr (by decide) (Xd (pv 2) (Xd (pv 3) Xf))) (XB _))
      (Xc (Xs Jb)
      Xe)
      Xe)
    (Xc (Yx (Xq (Kt (Cq (Cq eq_int)) (Fw (by decide) hu)) (XR g_part hr (by decide) (Xd (XR g_side hr (by decide) (Xd (pv 0) (Xd (pv 1) Xf))) (Xd (Za rfl rfl rfl Z.b_list Z.b_range (Xd (Xu (Xm K rfl) rfl Z.b_len PySem.boot_len (Xd (pv 0) Xf)) Xf)) Xf))) (pv 0) (XB _))
      (Xc (Xs Jb)
      Xe)
      Xe)
    (Xc (XD (i:=4) ZU.nd rfl (Or.inl rfl) (YG Xf))
    (Xc (X3 PassesOwn.never rfl (X1 (K:=K) rfl (XR g_orbits hr (by decide) (Xd (pv 1) Xf))) (Xo (i:=5) ZU.nd rfl (Or.inl rfl))
      (Xc (Y2 (QL PySem.F.plainAttrs_list PySem.F.slot_list_append PySem.F.type_list_append YH (pv 4) (Xd (YK (sc:=(Xh Qf)) (N0:=["_law_one", "_law_other", "_law_back_one", "_law_back_other", "_law_raised", "_law_line"]) (tns:=["_law_colour"]) (caps:=[(0, "_law_one")]) rfl (X1 (K:=K) rfl (pv 5)) (YA (by decide)) (λcl C s H ex E=>⟨Xo (i:=0) (show List.Nodup (["_law_colour", "_law_one"] : List Str) by decide +kernel) rfl (Or.inl rfl), Yr, (Xy Yn (Xu (Xm K rfl) rfl Z.b_len PySem.boot_len (Xd (pv 1) Xf)) (pv 0))⟩)) Xf)))
      Xe))
    (Xc (Xs (Hn (Lu (Cq (Cq eq_int)) (Fw (by decide) hu)) (XR g_orbits hr (by decide) (Xd (XR g_side hr (by decide) (Xd (pv 0) (Xd (pv 1) Xf))) Xf)) (Xy Kw (XR g_orbits hr (by decide) (Xd (pv 0) Xf)) (pv 4)) (XB _)))
    Xe))))))), ?_⟩
  refine YL (S:=(SC.add (SC.add SC.nil K (rV (rV Xb)) v_0 a_0) K (rV (rV Xb)) v_1 a_1)) (σ:=[some v_0, some v_1, none, none, none, none]) 1 ?_ (SC.i (SC.i SC.t h_0) h_1) hm q rfl
  unfold Y5
  exact (F5 (K:=K) 2 3 (Ev.sh (X9 (Xa (r:=(rV (rV Xb))) 0 rfl (λ_ s=>s.l.r)))) (Ev.sh (X9 (Xa (r:=(rV (rV Xb))) 1 rfl (λ_ s=>s.r)))) λa5 a6 v7 v8=>(YQ (Xn (K:=K) (Vu (Ev.toB (X9 (Ev.toB (XC (Xa (r:=(rV (rV Xb))) 0 rfl (λ_ s=>s.l.l.l.r)) (Xa (r:=(rV (rV Xb))) 1 rfl (λ_ s=>s.l.l.r)))))) (Ev.toB (XC (Xa (r:=(rV (rV Xb))) 2 rfl (λ_ s=>s.l.r)) (Xa (r:=(rV (rV Xb))) 3 rfl (λ_ s=>s.r)))))) (Xt (EvS.ev (EvB.sh (ZO false)))) (YQ (Xn (K:=K) (Vu (Ev.toB (X9 (Ev.toB (XC (Xa (r:=(rV (rV Xb))) 0 rfl (λ_ s=>s.l.l.l.r)) (Xa (r:=(rV (rV Xb))) 1 rfl (λ_ s=>s.l.l.r)))))) (Ev.toB (XC (Xa (r:=(rV (rV Xb))) 2 rfl (λ_ s=>s.l.r)) (Xa (r:=(rV (rV Xb))) 3 rfl (λ_ s=>s.r)))))) (Xt (EvS.ev (EvB.sh (ZO false)))) (YQ (Xn (K:=K) (Vu (Ev.toB (XC (Ev.toB (XC (Xa (r:=(rV (rV Xb))) 0 rfl (λ_ s=>s.l.l.l.r)) (Xa (r:=(rV (rV Xb))) 1 rfl (λ_ s=>s.l.l.r)))) (Ev.toB (Zc (XU (Xa (r:=(rV (rV Xb))) 0 rfl (λ_ s=>s.l.l.l.r))))))) (Xa (r:=(rV (rV Xb))) 0 rfl (λ_ s=>s.l.l.l.r)))) (Xt (EvS.ev (EvB.sh (ZO false)))) (Yz (K:=K) (o:=(oL (oL (oF Xb)))) 4 0 (UW (o:=(oL (oF Xb)))) (Nat.le_of_ble_eq_true rfl) λa42 v43 C44=>(YY (K:=K) (J:=({ oo:=λx47=>[x47.2.2], ss:=λx47=>[some v_0, some v_1, some v7, some v8, some x47.2.1, x47.1], sc:=λg48 x47=>(SC.addO (SC.add (SC.add (SC.add (SC.add SC.nil K (rV (rV Xb)) v_0 a_0) K (rV (rV Xb)) v_1 a_1) K (rV (rV Xb)) v7 a5) K (rV (rV Xb)) v8 a6) K (oL (oL (oF Xb))) x47.2.1 g48 x47.2.2) } : Jn ((List (List Int))) (Option V × V × List XM))) (λ_=>tg1 5) ((none), v43, C44) (a42) (XQ (Ev.sh (X9 (Xa (r:=(rV (rV Xb))) 1 rfl (λ_ s=>s.l.l.l.r))))) rfl rfl (λ_ s=>(SC.i (SC.i (SC.i (SC.i (SC.i SC.t s.l.l.l.l.r) s.l.l.l.r) s.l.l.r) s.l.r) s.r)) (λg49 x50 a51 v52=>(QZ (K:=K) (o:=(oL (oF Xb))) (f:=λa62=>(Rs.ok (a62))) 4 0 rfl rfl rfl (λ_ s=>s.l.r) (Yu (λ_=>tg1 0) (XQ (Xp (r:=(rV Xb)) 5 rfl (λ_ s=>s.r))) (λC53 a54 v55=>(EvS.ev (EvB.sh (X0 (XU (Xa (r:=(rV (rV Xb))) 1 rfl (λ_ s=>s.l.l.l.l.l.l.r))) (Xa (r:=Xb) 0 rfl (λ_ s=>s.r))))))) λa60 C61=>(XF (J:=_) ((some v52), x50.2.1, C61) ((g49 ++ [a60])) rfl rfl (λ_ s=>(SC.i (SC.i (SC.i (SC.i (SC.i SC.t s.l.l.l.l.l.l.r) s.l.l.l.l.l.r) s.l.l.l.l.r) s.l.l.l.r) s.r))))) λg63 x64=>(Xt (EvS.ev (EvB.sh (Ev.toB (DW (K:=K) (o1:=(oL (oL (oF Xb)))) 0 rfl (λ_ s=>s.r) (EvB.flat (Hk (Ev.toB (X9 (Ev.toB (XC (Xa (r:=(rV (rV Xb))) 0 rfl (λ_ s=>s.l.l.l.l.l.r)) (Xa (r:=(rV (rV Xb))) 1 rfl (λ_ s=>s.l.l.l.l.r)))))) (Ev.toB (Kd (EvS.ls (Ev.sh (X9 (Xa (r:=(rV (rV Xb))) 0 rfl (λ_ s=>s.l.l.l.l.l.r))))) (EvS.ls (Xp (r:=(rV (rV Xb))) 4 rfl (λ_ s=>s.r))))))))))))))))))
theorem Ju : FnScope ["_law_script", "_law_one", "_law_other", "_law_table_here", "_law_steps", "_law_k", "_law_some"] ["_law_script"] (Xh Ua):=⟨rfl, rfl, rfl, by decide +kernel, rfl, by decide +kernel, by decide +kernel⟩
theorem Lc {f : Addr} {fd : FuncData} (F : Fun K "law" "law" Ua f fd) (g_table : Fn P w K mg base 3 "_law_table" ["_law_script", "_law_place", "_law_most"] (sp3 (rL Xb) Xb Xb (oL (oL (oF Xb))) Qt K)) (g_row : Fn P w K mg base 2 "_law_row" ["_law_script", "_law_place", "_law_sizes"] (sp3 (rL Xb) Xb (rV Xb) (oL (oF Xb)) UI K)) (g_step : Fn P w K mg base 3 "_law_step" ["_law_table_here", "_law_other", "_law_some"] (sp3 (rV (rV Xb)) (rV (rV Xb)) (rV Xb) (oL (oL (oF Xb))) V7 K)) (g_l_joined : Fn P w K mg base 3 "_law_joined" ["_law_one", "_law_other"] (sp2 (rV (rV Xb)) (rV (rV Xb)) (oF Yw) Y5 K)) (g_orbits : Fn P w K mg base 2 "orbits" ["table"] (sp1 (rV (rV Xb)) (oL (oL (oF Xb))) YD K)) (g_linked : Fn P w K mg base 1 "_law_linked" ["_law_table_here"] (sp1 (rV (rV Xb)) (oL (oL (oF Xb))) Ql K)) (g_good : Fn P w K mg base 1 "_law_good" ["_law_table_here"] (sp1 (rV (rV Xb)) (oF Yw) V6 K)) (g_broken : Fn P w K mg base 3 "broken" ["table"] (sp1 (rV (rV Xb)) (oF (Zu (rPL Xb))) Qg K)) (Z : Blt mg) : FnOk P w K mg base CX0 4 f fd ["_law_script"] (sp1 (rL Xb) (oF Yw) K6 K):=by
  refine F.ok Ju (λvs H Q E h=>?_) (λcdv A outer s H vs Q E hr h=>?_)
  . obtain ⟨v_0, a_0, b, rfl, _⟩:=h; rfl
  obtain ⟨v_0, a_0, b, rfl, h_0, hm, q⟩:=h
  have hu:=hu8 hr
  have hu1:=YJ hr
  refine ⟨_, (Xc (XD (i:=1) Ju.nd rfl (Or.inl rfl) (XR g_table hr (by decide) (Xd (pv 0) (Xd Xi (Xd Xi Xf)))))
    (Xc (XD (i:=2) Ju.nd rfl (Or.inl rfl) (XR g_table hr (by decide) (Xd (pv 0) (Xd Xi (Xd Xi Xf)))))
    (Xc (Yx (PW.pt (HZ (Df (F4 (XR g_l_joined hr (by decide) (Xd (pv 1) (Xd (pv 2) Xf))))) (FY (Df (F4 (XR g_l_joined hr (by decide) (Xd (pv 2) (Xd (pv 1) Xf))))))))
      (Xc (Xs Jb)
      Xe)
      Xe)
    (Xc (XD (i:=3) Ju.nd rfl (Or.inl rfl) (pv 1))
    (Xc (XD (i:=4) Ju.nd rfl (Or.inl rfl) (XJ (Xk K rfl) (XR g_row hr (by decide) (Xd (pv 0) (Xd Xi (Xd (YG (Xd Xi Xf)) Xf JY)))) Xi (λ_ _=>rfl)))
    (Xc (X3 PassesOwn.never rfl (XN rfl Z.b_range (Xd (pv 4) Xf)) (Xo (i:=5) Ju.nd rfl (Or.inl rfl))
      (Xc (XD (i:=6) Ju.nd rfl (Or.inl rfl) (XR g_row hr (by decide) (Xd (pv 0) (Xd (Xy Yn Xi (pv 5)) (Xd (Xy Kw (YG (Xd Xi Xf)) (Xy GV (YG (Xd Xi Xf)) Xi)) Xf)))))
      (Xc (XD (i:=3) Ju.nd rfl (Or.inl rfl) (XR g_step hr (by decide) (Xd (pv 3) (Xd (pv 2) (Xd (pv 6) Xf)))))
      (Xc (Yx (PW.pt (HZ (Df (F4 (XR g_good hr (by decide) (Xd (pv 3) Xf)))) (FY (Xq UN (XR g_broken hr (by decide) (Xd (pv 3) Xf)) Qc (XB _)))))
        (Xc (Xs Jb)
        Xe)
        Xe)
      (Xc (Yx (Xq (Kt (Cq (Cq eq_int)) (Fw (by decide) hu)) (XR g_orbits hr (by decide) (Xd (pv 3) Xf)) (XR g_linked hr (by decide) (Xd (pv 3) Xf)) (XB _))
        (Xc (Xs Jb)
        Xe)
        Xe)
      Xe)))))
    (Xc (Xs Jb)
    Xe))))))), ?_⟩
  refine YL (S:=(SC.add SC.nil K (rL Xb) v_0 a_0)) (σ:=[some v_0, none, none, none, none, none, none]) 0 ?_ (SC.i SC.t h_0) hm q rfl
  unfold K6
  exact (XV (K:=K) (r:=(rV (rV Xb))) 1 (Ev.sh (Zl (Xa (r:=(rL Xb)) 0 rfl (λ_ s=>s.r)) (Xg 0) (Xg 4))) λa1 v2=>(XV (K:=K) (r:=(rV (rV Xb))) 2 (Ev.sh (Zl (Xa (r:=(rL Xb)) 0 rfl (λ_ s=>s.l.r)) (Xg 1) (Xg 4))) λa7 v8=>(YQ (F8 (KS (FI (K:=K) (Ev.toB (XC (Xa (r:=(rV (rV Xb))) 1 rfl (λ_ s=>s.l.r)) (Xa (r:=(rV (rV Xb))) 2 rfl (λ_ s=>s.r)))))) (KS (FI (K:=K) (Ev.toB (XC (Xa (r:=(rV (rV Xb))) 2 rfl (λ_ s=>s.r)) (Xa (r:=(rV (rV Xb))) 1 rfl (λ_ s=>s.l.r))))))) (Xt (EvS.ev (EvB.sh (ZO false)))) (XV (K:=K) (r:=(rV (rV Xb))) 3 (Xp (r:=(rV (rV Xb))) 1 rfl (λ_ s=>s.l.r)) λa22 v23=>(XV (K:=K) (r:=Xb) 4 (EvB.sh (Xr (Ev.toB (Zl (Xa (r:=(rL Xb)) 0 rfl (λ_ s=>s.l.l.l.r)) (Xg 2) (Ev.toB (Z0 (XE (EvB.sh (Xg 6)) Zf))))) (Xg 0))) λa24 v25=>(Z7 (K:=K) (J:=({ oo:=λx36=>[], ss:=λx36=>[some v_0, some v2, some v8, some x36.2.2, some v25, x36.1, x36.2.1], sc:=λg37 x36=>(SC.add (SC.add (SC.add (SC.add (SC.add SC.nil K (rL Xb) v_0 a_0) K (rV (rV Xb)) v2 a1) K (rV (rV Xb)) v8 a7) K Xb v25 a24) K (rV (rV Xb)) x36.2.2 g37) } : Jn ((List (List Int))) (Option V × Option V × V))) (λ_=>tg1 5) ((none), (none), v23) (a22) (Xz (Xa (r:=Xb) 4 rfl (λ_ s=>s.r))) rfl rfl (λ_ s=>(SC.i (SC.i (SC.i (SC.i (SC.i SC.t s.l.l.l.l.r) s.l.l.l.r) s.l.l.r) s.r) s.l.r)) (λg38 x39 a40 v41=>(XV (K:=K) (r:=(rV Xb)) 6 (Ev.sh (Zl (Xa (r:=(rL Xb)) 0 rfl (λ_ s=>s.l.l.l.l.l.r)) (X0 (Xg 3) (Xa (r:=Xb) 5 rfl (λ_ s=>s.r))) (Ev.toB (Kd (Ev.ls (Z0 (XE (EvB.sh (Xg 6)) Zf))) (Ev.ls (Gu (Ev.ls (Z0 (XE (EvB.sh (Xg 5040)) Zf))) (Xg 10))))))) λa42 v43=>(XV (K:=K) (r:=(rV (rV Xb))) 3 (Ev.sh (Zl (Xa (r:=(rV (rV Xb))) 3 rfl (λ_ s=>s.l.l.r)) (Xa (r:=(rV (rV Xb))) 2 rfl (λ_ s=>s.l.l.l.l.r)) (Xa (r:=(rV Xb)) 6 rfl (λ_ s=>s.r)))) λa60 v61=>(ZC (F8 (KS (FI (K:=K) (Ev.toB (X9 (Xa (r:=(rV (rV Xb))) 3 rfl (λ_ s=>s.r)))))) (Xn (K:=K) (JI (tb:=tC .non) (Ev.toB (X9 (Xa (r:=(rV (rV Xb))) 3 rfl (λ_ s=>s.r))))))) (Xt (EvS.ev (EvB.sh (ZO false)))) (ZC (Xn (K:=K) (Vu (Ev.toB (X9 (Xa (r:=(rV (rV Xb))) 3 rfl (λ_ s=>s.r)))) (Ev.toB (X9 (Xa (r:=(rV (rV Xb))) 3 rfl (λ_ s=>s.r)))))) (Xt (EvS.ev (EvB.sh (ZO false)))) (ZL (XF (J:=_) ((some v41), (some v43), v61) (a60) rfl rfl (λ_ s=>(SC.i (SC.i (SC.i (SC.i (SC.i SC.t s.l.l.l.l.l.l.l.r) s.l.l.l.l.l.l.r) s.l.l.l.l.l.r) s.l.l.l.l.r) s.r))))))))) λg83 x84=>(Xt (EvS.ev (EvB.sh (ZO true))))))))))
end
theorem Bi {K : PySem.W.Frag} {mg : Str -> Option Value} {h : Heap} (X : K.In h) (G : h.Ns mainGlobals mg) {x p0 : Str} {st : Stmt} {f : Addr} {oc : Value} {od an : Option Addr} {osl : Array (Option Value)} {kV doc pm cdv ct : Value} (hb : ∀ (kV doc pm : Value) (an : Option Addr) (cdv ct u0 : Value), bindArgs (PySem.W.fnOf x x (YZ st) (YF st) (Xh st) .none kV doc pm an cdv ct) ⟨[u0], []⟩ = pure ([p0].zip [u0])) (a : PySem.W.nsIn K mainGlobals x = some (some (.ref f))) (l : K.lookup f = some ⟨oc, od, .func (PySem.W.fnOf x x (YZ st) (YF st) (Xh st) .none kV doc pm an cdv ct), osl⟩) (c : PySem.W.codeIn K cdv x = true) (k : PySem.W.keepIn K (.ref f) = true) : Def K mg x st [p0]:=⟨f, _, QI l c k, (QI l c k).binds λ_ _ _ _ _ _ us hl=>(by obtain ⟨_, rfl⟩:=IX hl; exact hb ..), PySem.W.mg_of X G a⟩
theorem K9 {K : PySem.W.Frag} {mg : Str -> Option Value} {h : Heap} (X : K.In h) (G : h.Ns mainGlobals mg) {x p0 p1 : Str} {st : Stmt} {f : Addr} {oc : Value} {od an : Option Addr} {osl : Array (Option Value)} {kV doc pm cdv ct : Value} (hb : ∀ (kV doc pm : Value) (an : Option Addr) (cdv ct u0 u1 : Value), bindArgs (PySem.W.fnOf x x (YZ st) (YF st) (Xh st) .none kV doc pm an cdv ct) ⟨[u0, u1], []⟩ = pure ([p0, p1].zip [u0, u1])) (a : PySem.W.nsIn K mainGlobals x = some (some (.ref f))) (l : K.lookup f = some ⟨oc, od, .func (PySem.W.fnOf x x (YZ st) (YF st) (Xh st) .none kV doc pm an cdv ct), osl⟩) (c : PySem.W.codeIn K cdv x = true) (k : PySem.W.keepIn K (.ref f) = true) : Def K mg x st [p0, p1]:=⟨f, _, QI l c k, (QI l c k).binds λ_ _ _ _ _ _ us hl=>(by obtain ⟨_, _, rfl⟩:=Lp hl; exact hb ..), PySem.W.mg_of X G a⟩
theorem Ia {K : PySem.W.Frag} {mg : Str -> Option Value} {h : Heap} (X : K.In h) (G : h.Ns mainGlobals mg) {x p0 p1 p2 : Str} {st : Stmt} {f : Addr} {oc : Value} {od an : Option Addr} {osl : Array (Option Value)} {kV doc pm cdv ct : Value} (hb : ∀ (kV doc pm : Value) (an : Option Addr) (cdv ct u0 u1 u2 : Value), bindArgs (PySem.W.fnOf x x (YZ st) (YF st) (Xh st) .none kV doc pm an cdv ct) ⟨[u0, u1, u2], []⟩ = pure ([p0, p1, p2].zip [u0, u1, u2])) (a : PySem.W.nsIn K mainGlobals x = some (some (.ref f))) (l : K.lookup f = some ⟨oc, od, .func (PySem.W.fnOf x x (YZ st) (YF st) (Xh st) .none kV doc pm an cdv ct), osl⟩) (c : PySem.W.codeIn K cdv x = true) (k : PySem.W.keepIn K (.ref f) = true) : Def K mg x st [p0, p1, p2]:=⟨f, _, QI l c k, (QI l c k).binds λ_ _ _ _ _ _ us hl=>(by obtain ⟨_, _, _, rfl⟩:=Ir hl; exact hb ..), PySem.W.mg_of X G a⟩
theorem Mx {K : PySem.W.Frag} {mg : Str -> Option Value} {h : Heap} (X : K.In h) (G : h.Ns mainGlobals mg) {x p0 p1 p2 p3 p4 : Str} {st : Stmt} {f : Addr} {oc : Value} {od an : Option Addr} {osl : Array (Option Value)} {kV doc pm cdv ct : Value} (hb : ∀ (kV doc pm : Value) (an : Option Addr) (cdv ct u0 u1 u2 u3 u4 : Value), bindArgs (PySem.W.fnOf x x (YZ st) (YF st) (Xh st) .none kV doc pm an cdv ct) ⟨[u0, u1, u2, u3, u4], []⟩ = pure ([p0, p1, p2, p3, p4].zip [u0, u1, u2, u3, u4])) (a : PySem.W.nsIn K mainGlobals x = some (some (.ref f))) (l : K.lookup f = some ⟨oc, od, .func (PySem.W.fnOf x x (YZ st) (YF st) (Xh st) .none kV doc pm an cdv ct), osl⟩) (c : PySem.W.codeIn K cdv x = true) (k : PySem.W.keepIn K (.ref f) = true) : Def K mg x st [p0, p1, p2, p3, p4]:=⟨f, _, QI l c k, (QI l c k).binds λ_ _ _ _ _ _ us hl=>(by obtain ⟨_, _, _, _, _, rfl⟩:=L8 hl; exact hb ..), PySem.W.mg_of X G a⟩
theorem IC {l : PySem.W.OpenLaw} {w : World} {K : PySem.W.Frag} {h : Heap} {mg : Str -> Option Value} {fa f : Addr} {tk0 : Tok} (X : K.In h) (G : h.Ns mainGlobals mg) (hfa : mg "law" = some (.ref fa)) {od an : Option Addr} {sl : Array (Option Value)} {oc kV dc pm cd ct : Value}
    (D1 : Def K mg "refuse_above" ZA ["most", "size"])
    (D2 : Def K mg "side" U4 ["one", "other"])
    (D3 : Def K mg "paired" UJ ["one", "other"])
    (D4 : Def K mg "paired_row" Zw ["above", "row"])
    (D5 : Def K mg "moved" Ut ["table", "places"])
    (D6 : Def K mg "grown" Ux ["table", "some"])
    (D7 : Def K mg "step_beyond" ZQ ["table", "known"])
    (D8 : Def K mg "part" VM ["table", "members"])
    (D9 : Def K mg "orbits" JE ["table"])
    (D10 : Def K mg "joined" JN ["leasts", "one", "other"])
    (D11 : Def K mg "colours_with" Y8 ["leasts", "least"])
    (D12 : Def K mg "broken" Ue ["table"])
    (D13 : Def K mg "breach_of_one" Zr ["table"])
    (D14 : Def K mg "breach_of_two" YU ["table"])
    (D15 : Def K mg "first_same" Z6 ["column"])
    (D16 : Def K mg "breach_of_three" Y4 ["table"])
    (D17 : Def K mg "back" GX ["table", "a", "b"])
    (D18 : Def K mg "dual" Kq ["table"])
    (D19 : Def K mg "_law_cell" Dg ["_law_script", "_law_place"])
    (D20 : Def K mg "_law_mix" HM ["_law_cell_here", "_law_k"])
    (D21 : Def K mg "_law_row" Hu ["_law_script", "_law_place", "_law_sizes"])
    (D22 : Def K mg "_law_cell_of" VC ["_law_way", "_law_size", "_law_factor", "_law_a", "_law_b"])
    (D23 : Def K mg "_law_common" Uc ["_law_one", "_law_other"])
    (D24 : Def K mg "_law_made" GK ["_law_way", "_law_size", "_law_factor"])
    (D25 : Def K mg "_law_ordered" J7 ["_law_some", "_law_count"])
    (D26 : Def K mg "_law_relaid" JL ["_law_some", "_law_spots"])
    (D27 : Def K mg "_law_table" KR ["_law_script", "_law_place", "_law_most"])
    (D28 : Def K mg "_law_good" GA ["_law_table_here"])
    (D29 : Def K mg "_law_linked" JM ["_law_table_here"])
    (D30 : Def K mg "_law_step" Co ["_law_table_here", "_law_other", "_law_some"])
    (D31 : Def K mg "_law_joined" Qf ["_law_one", "_law_other"])
    (a : PySem.W.nsIn K mainGlobals "law" = some (some (.ref f))) (l0 : K.lookup f = some ⟨oc, od, .func (PySem.W.fnOf "law" "law" (YZ Ua) (YF Ua) (Xh Ua) .none kV dc pm an cd ct), sl⟩) (c : PySem.W.codeIn K cd "law" = true) (k : PySem.W.keepIn K (.ref f) = true)
    (z1 : PySem.W.nsIn K mainGlobals "abs" = some none)
    (z2 : PySem.W.nsIn K mainGlobals "dict" = some none)
    (z3 : PySem.W.nsIn K mainGlobals "enumerate" = some none)
    (z4 : PySem.W.nsIn K mainGlobals "len" = some none)
    (z5 : PySem.W.nsIn K mainGlobals "list" = some none)
    (z6 : PySem.W.nsIn K mainGlobals "min" = some none)
    (z7 : PySem.W.nsIn K mainGlobals "range" = some none)
    (z8 : PySem.W.nsIn K mainGlobals "set" = some none)
    (z9 : PySem.W.nsIn K mainGlobals "sorted" = some none)
    (w0 : PySem.W.nsIn K mainGlobals "MOST_COLOURS" = some (some (.int 24 tk0)))
    : ∃ fd : FuncData, (∀ (s : Shared) (v : Value), BindsTo s fd ⟨[v], []⟩ [("_law_script", v)]) /\ ∀ base : Heap, K.In base -> base.Ns mainGlobals mg -> FnOk l.prog w K mg base CX0 4 fa fd ["_law_script"] (sp1 (rL Xb) (oF Yw) K6 K):=by
  have e:=hfa.symm.trans (PySem.W.mg_of X G a)
  cases e
  have N : ∀ {x : Str}, PySem.W.nsIn K mainGlobals x = some none -> mg x = none:=λz=>PySem.W.mg_none_of X G z
  have Z : Blt mg:=⟨N z1, N z2, N z3, N z4, N z5, N z6, N z7, N z8, N z9, ⟨_, PySem.W.mg_of X G w0, _, rfl⟩⟩
  refine ⟨PySem.W.fnOf "law" "law" (YZ Ua) (YF Ua) (Xh Ua) .none kV dc pm an cd ct, λs v=>.of_eq rfl, λbase _ _=>?_⟩
  have g_cell:=EI (P:=l.prog) (w:=w) (base:=base) D19  Z
  have g_mix:=Ll (P:=l.prog) (w:=w) (base:=base) D20  Z
  have g_row:=IU (P:=l.prog) (w:=w) (base:=base) D21 g_cell g_mix Z
  have g_common:=Dx (P:=l.prog) (w:=w) (base:=base) D23  Z
  have g_cell_of:=G6 (P:=l.prog) (w:=w) (base:=base) D22  Z
  have g_made:=Hz (P:=l.prog) (w:=w) (base:=base) D24 g_common g_cell_of Z
  have g_relaid:=DM (P:=l.prog) (w:=w) (base:=base) D26  Z
  have g_ordered:=Ff (P:=l.prog) (w:=w) (base:=base) D25  Z
  have g_table:=B7 (P:=l.prog) (w:=w) (base:=base) D27 g_row g_made g_relaid g_ordered Z
  have g_back:=HX (P:=l.prog) (w:=w) (base:=base) D17  Z
  have g_dual:=HW (P:=l.prog) (w:=w) (base:=base) D18 g_back Z
  have g_moved:=BU (P:=l.prog) (w:=w) (base:=base) D5  Z
  have g_refuse_above:=VB (P:=l.prog) (w:=w) (base:=base) D1  Z
  have g_side:=Hh (P:=l.prog) (w:=w) (base:=base) D2 g_refuse_above Z
  have g_paired_row:=UL (P:=l.prog) (w:=w) (base:=base) D4  Z
  have g_paired:=CB (P:=l.prog) (w:=w) (base:=base) D3 g_refuse_above g_paired_row Z
  have g_step_beyond:=VE (P:=l.prog) (w:=w) (base:=base) D7  Z
  have g_part:=Hy (P:=l.prog) (w:=w) (base:=base) D8 g_step_beyond Z
  have g_grown:=BZ (P:=l.prog) (w:=w) (base:=base) D6 g_step_beyond Z
  have g_step:=HK (P:=l.prog) (w:=w) (base:=base) D30 g_dual g_moved g_side g_paired g_part g_ordered g_grown Z
  have g_colours_with:=JX (P:=l.prog) (w:=w) (base:=base) D11  Z
  have g_joined:=DF (P:=l.prog) (w:=w) (base:=base) D10  Z
  have g_orbits:=Ct (P:=l.prog) (w:=w) (base:=base) D9 g_colours_with g_joined Z
  have g_l_joined:=K3 (P:=l.prog) (w:=w) (base:=base) D31 g_orbits g_dual g_side g_paired g_part Z
  have g_linked:=FM (P:=l.prog) (w:=w) (base:=base) D29  Z
  have g_good:=Hc (P:=l.prog) (w:=w) (base:=base) D28  Z
  have g_breach_of_one:=Jy (P:=l.prog) (w:=w) (base:=base) D13  Z
  have g_first_same:=Ur (P:=l.prog) (w:=w) (base:=base) D15  Z
  have g_breach_of_two:=JC (P:=l.prog) (w:=w) (base:=base) D14 g_first_same Z
  have g_breach_of_three:=Q5 (P:=l.prog) (w:=w) (base:=base) D16  Z
  have g_broken:=Dd (P:=l.prog) (w:=w) (base:=base) D12 g_breach_of_one g_breach_of_two g_breach_of_three Z
  exact Lc (P:=l.prog) (w:=w) (base:=base) (QI (st:=Ua) l0 c k) g_table g_row g_step g_l_joined g_orbits g_linked g_good g_broken Z
theorem Mu {l : PySem.W.OpenLaw} {q : Program} {loose : List Str} {XP : (Str -> Option Value) -> Heap -> Prop} {YP : World -> Heap -> Prop} {d : DefRec} {K : Params -> PySem.W.Frag} (hn : l.most = some 63) (hdf : d.params.defaults = [])
    (hY : ∀ (w : World) (h : Heap), YP w h -> (K w.params).In h)
    (F : ∀ (w : World) (mg : Str -> Option Value) (fa : Addr) (h : Heap), (K w.params).In h -> h.Ns mainGlobals mg -> mg d.name = some (.ref fa) ->
      ∃ fd : FuncData, (∀ (s : Shared) (u : Value), BindsTo s fd ⟨[u], []⟩ [("_law_script", u)]) /\ ∀ base : Heap, (K w.params).In base -> base.Ns mainGlobals mg -> FnOk l.prog w (K w.params) mg base CX0 4 fa fd ["_law_script"] (sp1 (rL Xb) (oF Yw) K6 (K w.params))) :
    PySem.W.WalkO q loose XP YP l.row.toRowW d [] (λf vs=>PySem.call f vs):=
  L2.HD (n:=63) (k:=4) (x:="_law_script") (CX:=λ_=>CX0) (sp:=λw=>sp1 (rL Xb) (oF Yw) K6 (K w.params)) hn (by decide) hdf ⟨rfl, by decide, by decide⟩ hY F (λ_ _ a ns hl _ hS=>⟨.ref a, ns, true, rfl, ⟨a, _, rfl, hS, KH ns⟩, BQ ns hl, λv C H' w m ho=>ho.2⟩) λ_ _ _ _ _ z=>z
end My
open PySem PySem.W PyProof.Rows
set_option maxRecDepth 100000 in
set_option maxHeartbeats 0 in
theorem PySem.Challenge.cw_plait_k29_whole_made_tables_holds : PySem.Challenge.rw_plait_k29_whole_made_tables.Holds := by
  w_on; o_law; k_head; (case hw => w_witness2)
  k_fill
  refine My.Mu (l := PySem.Challenge.rw_plait_k29_whole_made_tables) rfl rfl (fun w h Y => PySem.W.kIn_of Y) ?F
  case F =>
    intro w mg fa h KX G hmg
    refine' My.IC KX G hmg (My.K9 KX G (by intros; rfl) ?a1 ?l1 ?c1 ?k1) (My.K9 KX G (by intros; rfl) ?a2 ?l2 ?c2 ?k2) (My.K9 KX G (by intros; rfl) ?a3 ?l3 ?c3 ?k3) (My.K9 KX G (by intros; rfl) ?a4 ?l4 ?c4 ?k4) (My.K9 KX G (by intros; rfl) ?a5 ?l5 ?c5 ?k5) (My.K9 KX G (by intros; rfl) ?a6 ?l6 ?c6 ?k6) (My.K9 KX G (by intros; rfl) ?a7 ?l7 ?c7 ?k7) (My.K9 KX G (by intros; rfl) ?a8 ?l8 ?c8 ?k8) (My.Bi KX G (by intros; rfl) ?a9 ?l9 ?c9 ?k9) (My.Ia KX G (by intros; rfl) ?a10 ?l10 ?c10 ?k10) (My.K9 KX G (by intros; rfl) ?a11 ?l11 ?c11 ?k11) (My.Bi KX G (by intros; rfl) ?a12 ?l12 ?c12 ?k12) (My.Bi KX G (by intros; rfl) ?a13 ?l13 ?c13 ?k13) (My.Bi KX G (by intros; rfl) ?a14 ?l14 ?c14 ?k14) (My.Bi KX G (by intros; rfl) ?a15 ?l15 ?c15 ?k15) (My.Bi KX G (by intros; rfl) ?a16 ?l16 ?c16 ?k16) (My.Ia KX G (by intros; rfl) ?a17 ?l17 ?c17 ?k17) (My.Bi KX G (by intros; rfl) ?a18 ?l18 ?c18 ?k18) (My.K9 KX G (by intros; rfl) ?a19 ?l19 ?c19 ?k19) (My.K9 KX G (by intros; rfl) ?a20 ?l20 ?c20 ?k20) (My.Ia KX G (by intros; rfl) ?a21 ?l21 ?c21 ?k21) (My.Mx KX G (by intros; rfl) ?a22 ?l22 ?c22 ?k22) (My.K9 KX G (by intros; rfl) ?a23 ?l23 ?c23 ?k23) (My.Ia KX G (by intros; rfl) ?a24 ?l24 ?c24 ?k24) (My.K9 KX G (by intros; rfl) ?a25 ?l25 ?c25 ?k25) (My.K9 KX G (by intros; rfl) ?a26 ?l26 ?c26 ?k26) (My.Ia KX G (by intros; rfl) ?a27 ?l27 ?c27 ?k27) (My.Bi KX G (by intros; rfl) ?a28 ?l28 ?c28 ?k28) (My.Bi KX G (by intros; rfl) ?a29 ?l29 ?c29 ?k29) (My.Ia KX G (by intros; rfl) ?a30 ?l30 ?c30 ?k30) (My.K9 KX G (by intros; rfl) ?a31 ?l31 ?c31 ?k31) ?a32 ?l32 ?c32 ?k32 ?z1 ?z2 ?z3 ?z4 ?z5 ?z6 ?z7 ?z8 ?z9 ?w0
    (case a1 => k_is); (case l1 => k_is); (case c1 => k_is); (case k1 => k_is); (case a2 => k_is); (case l2 => k_is); (case c2 => k_is); (case k2 => k_is); (case a3 => k_is); (case l3 => k_is); (case c3 => k_is); (case k3 => k_is); (case a4 => k_is); (case l4 => k_is); (case c4 => k_is); (case k4 => k_is); (case a5 => k_is); (case l5 => k_is); (case c5 => k_is); (case k5 => k_is); (case a6 => k_is); (case l6 => k_is); (case c6 => k_is); (case k6 => k_is); (case a7 => k_is); (case l7 => k_is); (case c7 => k_is); (case k7 => k_is); (case a8 => k_is); (case l8 => k_is); (case c8 => k_is); (case k8 => k_is); (case a9 => k_is); (case l9 => k_is); (case c9 => k_is); (case k9 => k_is); (case a10 => k_is); (case l10 => k_is); (case c10 => k_is); (case k10 => k_is); (case a11 => k_is); (case l11 => k_is); (case c11 => k_is); (case k11 => k_is); (case a12 => k_is); (case l12 => k_is); (case c12 => k_is); (case k12 => k_is); (case a13 => k_is); (case l13 => k_is); (case c13 => k_is); (case k13 => k_is); (case a14 => k_is); (case l14 => k_is); (case c14 => k_is); (case k14 => k_is); (case a15 => k_is); (case l15 => k_is); (case c15 => k_is); (case k15 => k_is); (case a16 => k_is); (case l16 => k_is); (case c16 => k_is); (case k16 => k_is); (case a17 => k_is); (case l17 => k_is); (case c17 => k_is); (case k17 => k_is); (case a18 => k_is); (case l18 => k_is); (case c18 => k_is); (case k18 => k_is); (case a19 => k_is); (case l19 => k_is); (case c19 => k_is); (case k19 => k_is); (case a20 => k_is); (case l20 => k_is); (case c20 => k_is); (case k20 => k_is); (case a21 => k_is); (case l21 => k_is); (case c21 => k_is); (case k21 => k_is); (case a22 => k_is); (case l22 => k_is); (case c22 => k_is); (case k22 => k_is); (case a23 => k_is); (case l23 => k_is); (case c23 => k_is); (case k23 => k_is); (case a24 => k_is); (case l24 => k_is); (case c24 => k_is); (case k24 => k_is); (case a25 => k_is); (case l25 => k_is); (case c25 => k_is); (case k25 => k_is); (case a26 => k_is); (case l26 => k_is); (case c26 => k_is); (case k26 => k_is); (case a27 => k_is); (case l27 => k_is); (case c27 => k_is); (case k27 => k_is); (case a28 => k_is); (case l28 => k_is); (case c28 => k_is); (case k28 => k_is); (case a29 => k_is); (case l29 => k_is); (case c29 => k_is); (case k29 => k_is); (case a30 => k_is); (case l30 => k_is); (case c30 => k_is); (case k30 => k_is); (case a31 => k_is); (case l31 => k_is); (case c31 => k_is); (case k31 => k_is); (case a32 => k_is); (case l32 => k_is); (case c32 => k_is); (case k32 => k_is); (case z1 => k_is); (case z2 => k_is); (case z3 => k_is); (case z4 => k_is); (case z5 => k_is); (case z6 => k_is); (case z7 => k_is); (case z8 => k_is); (case z9 => k_is); (case w0 => k_is)
