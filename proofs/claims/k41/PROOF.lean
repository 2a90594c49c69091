import PyProof.Rows.All
import Wide.All
import OpenK.AllK
import Wide.FinOn
import Lean
import PyProof.EqAt
import PyProof.EqKinds
import PyProof.TupleCall
import PySem.Challenge.RW_plait_k41_all_of_up_to_three
set_option Elab.async false
set_option linter.all false
set_option maxRecDepth 100000
namespace L2
open PySem PySem.Spec PyProof.Rows
noncomputable abbrev Key:=Sum Int Str
noncomputable def BH : Key -> Value -> Bool
  | .inl k, v=>Value.isInt k v
  | .inr x, v=>Value.isStrOf x v
noncomputable def HF (w : World) : Key -> Int
  | .inl k=>hashInt k
  | .inr x=>hashStr w x
theorem X6 : ∀ {k : Key} {v : Value}, BH k v = true -> (∃ i t, k = Sum.inl i /\ v = Value.int i t) ∨ (∃ x t, k = Sum.inr x /\ v = Value.str x t)
  | .inl i, v, h=>by
    obtain ⟨t, e⟩:=Value.isInt_shape (k:=i) (v:=v) h
    exact .inl ⟨i, t, rfl, e⟩
  | .inr x, v, h=>by
    obtain ⟨t, e⟩:=Value.isStrOf_shape (x:=x) (v:=v) h
    exact .inr ⟨x, t, rfl, e⟩
theorem B1 (a b : Int) : decide ((Sum.inl a : Key) = Sum.inl b) = (a == b):=by
  by_cases e : a = b
  . subst e; simp
  . have h : ¬ (Sum.inl a : Key) = Sum.inl b := fun q => e (Sum.inl.inj q)
    rw [decide_eq_false h]
    exact (beq_eq_false_iff_ne.mpr e).symm
theorem Ep (a b : Str) : decide ((Sum.inr a : Key) = Sum.inr b) = decide (a = b):=by
  by_cases e : a = b
  . subst e; simp
  . have h : ¬ (Sum.inr a : Key) = Sum.inr b := fun q => e (Sum.inr.inj q)
    rw [decide_eq_false h, decide_eq_false e]
theorem BM (a : Int) (b : Str) : decide ((Sum.inl a : Key) = Sum.inr b) = false:=decide_eq_false (fun q=>nomatch q)
theorem BN (a : Str) (b : Int) : decide ((Sum.inr a : Key) = Sum.inl b) = false:=decide_eq_false (fun q=>nomatch q)
noncomputable def Gr (prog : Program) (w : World) : PySem.KeyKind prog w Key where
  is:=BH
  hash:=HF w
  inj:=fun v a b ha hb=>by
    rcases X6 ha with ⟨i, t, rfl, rfl⟩ | ⟨x, t, rfl, rfl⟩
    . rcases X6 hb with ⟨j, u, rfl, e⟩ | ⟨y, u, rfl, e⟩
      . injection e with e1 _; rw [e1]
      . exact nomatch e
    . rcases X6 hb with ⟨j, u, rfl, e⟩ | ⟨y, u, rfl, e⟩
      . exact nomatch e
      . injection e with e1 _; rw [e1]
  byValue := fun k v h => by
    rcases X6 h with ⟨i, t, rfl, rfl⟩ | ⟨x, t, rfl, rfl⟩ <;> rfl
  pyHash:=fun hv h=>by
    rcases X6 hv with ⟨i, t, rfl, rfl⟩ | ⟨x, t, rfl, rfl⟩
    . exact wpAny_pyHash_int h
    . exact wpAny_pyHash_str h
  eqBool:=fun hu hv h=>by
    rcases X6 hu with ⟨i, t, rfl, rfl⟩ | ⟨x, t, rfl, rfl⟩
    . rcases X6 hv with ⟨j, u, rfl, rfl⟩ | ⟨y, u, rfl, rfl⟩
      . rw [B1] at h; exact wpAny_eqBool_int h
      . rw [BM] at h; exact SeqAt.EqAt.int_str i t y u _ _ _ _ h
    . rcases X6 hv with ⟨j, u, rfl, rfl⟩ | ⟨y, u, rfl, rfl⟩
      . rw [BN] at h; exact SeqAt.EqAt.str_int x t j u _ _ _ _ h
      . rw [Ep] at h; exact wpAny_eqBool_str h
  «strs»:=fun k x t v h=>by
    rcases X6 h with ⟨i, u, rfl, e⟩ | ⟨y, u, rfl, e⟩
    . exact nomatch e
    . injection e with e1 _
      subst e1
      cases v <;> rfl
end L2
namespace L2
open PySem PySem.Spec PyProof.Rows
inductive V where
  | non | bl (b : Bool) | int (i : Int) | str (x : Str) | byt (b : Array UInt8) | flt (b : UInt64) | ref (a : Addr) | ty (n : String)
  deriving DecidableEq
noncomputable def X2 : V -> Value -> Prop
  | .non, u=>u = Value.none
  | .bl b, u=>u = Value.bool b
  | .int i, u=>∃ t, u = Value.int i t
  | .str x, u=>∃ t, u = Value.str x t
  | .byt b, u=>∃ t, u = Value.bytes b t
  | .flt b, u=>∃ t, u = Value.float b t
  | .ref a, u=>u = Value.ref a
  | .ty n, u=>u = Value.type n
noncomputable abbrev XV : List V -> List Value -> Prop:=Paired X2
theorem XV.length {xs : List V} {us : List Value} (r : XV xs us) : xs.length = us.length:=Paired.length r
theorem XV.get : ∀ {xs : List V} {us : List Value} {i : Nat} {x : V}, XV xs us -> xs[i]? = some x -> ∃ u, us[i]? = some u /\ X2 x u
  | _, _, _, _, .nil, e=>by simp at e
  | _, _, 0, _, .cons r _, e=>by simp at e; subst e; exact ⟨_, rfl, r⟩
  | _, _, i + 1, x, .cons _ t, e=>by
    obtain ⟨u, h1, h2⟩:=XV.get (i:=i) (x:=x) t (by simpa using e)
    exact ⟨u, by simpa using h1, h2⟩
theorem XV.set {x : V} {u : Value} (r : X2 x u) : ∀ {xs : List V} {us : List Value} (i : Nat), XV xs us -> XV (xs.set i x) (us.set i u)
  | _, _, _, .nil=>.nil
  | _, _, 0, .cons _ t=>.cons r t
  | _, _, i + 1, .cons q t=>.cons q (XV.set r i t)
theorem XV.append : ∀ {xs ys : List V} {us ws : List Value}, XV xs us -> XV ys ws -> XV (xs ++ ys) (us ++ ws)
  | _, _, _, _, .nil, s=>s
  | _, _, _, _, .cons r t, s=>.cons r (XV.append t s)
theorem XV.take : ∀ {xs : List V} {us : List Value} (n : Nat), XV xs us -> XV (xs.take n) (us.take n)
  | _, _, 0, _=>.nil
  | _, _, _ + 1, .nil=>.nil
  | _, _, n + 1, .cons r t=>.cons r (XV.take n t)
theorem XV.drop : ∀ {xs : List V} {us : List Value} (n : Nat), XV xs us -> XV (xs.drop n) (us.drop n)
  | _, _, 0, r=>r
  | _, _, _ + 1, .nil=>.nil
  | _, _, n + 1, .cons _ t=>XV.drop n t
noncomputable def FI : Option V -> Option Value -> Prop
  | some v, some u=>X2 v u
  | none, none=>True
  | _, _=>False
noncomputable def KV {κ : Type} : List (κ × V) -> List (κ × Value) -> Prop:=Paired fun (p : κ × V) (q : κ × Value)=>p.1 = q.1 /\ X2 p.2 q.2
noncomputable def kV : Key -> V
  | .inl i=>.int i
  | .inr x=>.str x
inductive HO where
  /-- a list -/
  | lst (xs : List V)
  /-- a tuple (never changes) -/
  | tup (xs : List V)
  /-- a dict whose keys are ints and texts; one whose keys are tuples of ints and texts (the empty one is both) -/
  | dK (kvs : List (Key × V)) | dT (kvs : List (List Key × V))
  /-- a set of ints: its members, its size -/
  | set (S : Int -> Bool) (n : Nat)
  /-- an instance of the class at C, its dict at dx, its attributes -/
  | ins (C dx : Addr) (fs : List (Str × V))
  /-- the dict of the instance at x -/
  | own (x : Addr)
  /-- the dict of an exception -/
  | xd (fs : List (Str × V))
  /-- a bound method, f of x -/
  | met (f x : Addr)
  /-- a range object lo, lo + 1, .. below hi -/
  | rng (lo hi : Int)
  /-- a thing that is known to the object (the script; a dict while a loop walks it): read, never written while it is so -/
  | frz (o : Obj) (u : HO)
  /-- a code object's table -/
  | tbl (ps : Array Value)
  /-- any other thing, by what is true of its one object (a def of one's own: SetO a S n:=HO.ext fun h=>..) -/
  | ext (φ : Heap -> Prop)
noncomputable abbrev Hp:=Addr -> Option HO
noncomputable def upd (H : Hp) (a : Addr) (o : HO) : Hp:=fun b=>if b = a then some o else H b
theorem Yt {H : Hp} {a : Addr} {o : HO} : upd H a o a = some o:=by unfold upd; rw [if_pos rfl]
theorem XB {H : Hp} {a b : Addr} {o : HO} (h : b ≠ a) : upd H a o b = H b:=by unfold upd; rw [if_neg h]
theorem XH {H : Hp} {a b : Addr} {o : HO} (h : H a = some o) (h' : H b = none) : a ≠ b:=by
  intro e; subst e; rw [h] at h'; cases h'
section
variable (P : Program) (w : World)
noncomputable def YS (H : Hp) (h : Heap) (a : Addr) : HO -> Prop
  | .lst xs=>xs.length <= sizeLine /\ ∃ (its : List Value) (n : Nat), XV xs its /\ h.get? a = some { cls:=.type "list", data:=.seq its.toArray n }
  | .tup xs=>xs.length <= sizeLine /\ ∃ its : List Value, XV xs its /\ IsTup h a its.toArray
  | .dK kvs=>kvs.length <= sizeLine /\ (a == sysModules) = false /\ ∃ vs, KV kvs vs /\ h.DictOf (Gr P w) a vs
  | .dT kvs=>kvs.length <= sizeLine /\ (a == sysModules) = false /\ ∃ xs : List (List Key × Addr × Value),
      Paired (fun (p : List Key × V) (q : List Key × Addr × Value)=>p.1 = q.1 /\ H q.2.1 = some (.tup (p.1.map kV)) /\ X2 p.2 q.2.2) kvs xs /\
      ∃ o es ep, h.get? a = some o /\ o.ExactDict /\ o.data = .dict es ep /\ es.toList = xs.map (entryOfKey (tupleKind (Gr P w))) /\ (xs.map (·.1)).Nodup
  | .set S n=>h.SetOf (intKind P w) a S n
  | .ins C dx fs=>H dx = some (.own a) /\ fs.length <= 1000 /\ dx ≠ a /\ h.get? a = some (PySem.W.instObj C dx) /\
      ∃ mA, h.Ns1 dx mA /\ (∀ f, FI (fs.lookup f) (mA f)) /\ PySem.Within mA (fs.map (·.1))
  | .own _=>∃ o, h.get? a = some o
  | .xd fs=>∃ mA, h.Ns1 a mA /\ ∀ f, FI (fs.lookup f) (mA f)
  | .rng lo hi=>∃ t u v, h.get? a = some { cls:=.type "range", data:=.fields #[.int lo t, .int hi u, .int 1 v] }
  | .frz o u=>h.get? a = some o /\ YS H h a u
  | .tbl ps=>h.get? a = some { cls:=.none, data:=.fields ps }
  | .met f x=>h.get? a = some (PySem.W.methodObj (.ref f) (.ref x))
  | .ext φ=>φ h /\ (∃ o, h.get? a = some o) /\ ∀ h1 h2 : Heap, φ h1 -> (∀ o, h1.get? a = some o -> h2.get? a = some o) -> φ h2
noncomputable def HOk (H : Hp) (h : Heap) : Prop:=∀ a o, H a = some o -> YS P w H h a o
end
section
variable {P : Program} {w : World} {H H' : Hp} {h h' : Heap} {a : Addr} {o : HO}
theorem YS.lt (x : YS P w H h a o) : a < h.objs.size:=by
  cases o with
  | lst xs=>obtain ⟨_, _, _, _, e⟩:=x; exact Heap.lt_size e
  | tup xs=>obtain ⟨_, _, _, p⟩:=x; exact p.lt
  | dK kvs=>obtain ⟨_, _, _, _, o, _, _, e, _⟩:=x; exact Heap.lt_size e
  | dT kvs=>obtain ⟨_, _, _, _, o, _, _, e, _⟩:=x; exact Heap.lt_size e
  | set S n=>obtain ⟨o, _, _, _, e, _⟩:=x; exact Heap.lt_size e
  | ins C dx fs=>obtain ⟨_, _, _, e, _⟩:=x; exact Heap.lt_size e
  | own y=>obtain ⟨_, e⟩:=x; exact Heap.lt_size e
  | xd fs=>obtain ⟨_, ⟨_, _, _, e, _⟩, _⟩:=x; exact Heap.lt_size e
  | rng lo hi=>obtain ⟨_, _, _, e⟩:=x; exact Heap.lt_size e
  | frz ob u=>obtain ⟨e, _⟩:=x; exact Heap.lt_size e
  | tbl ps=>exact Heap.lt_size (show h.get? a = some _ from x)
  | met f y=>exact Heap.lt_size (show h.get? a = some _ from x)
  | ext φ=>obtain ⟨_, ⟨_, e⟩, _⟩:=x; exact Heap.lt_size e
theorem Paired.mapP {α β : Type} {F G : α -> β -> Prop} : ∀ {l₁ : List α} {l₂ : List β}, Paired F l₁ l₂ -> (∀ a b, F a b -> G a b) -> Paired G l₁ l₂
  | _, _, .nil, _=>.nil
  | _, _, .cons r t, f=>.cons (f _ _ r) (Paired.mapP t f)
theorem YS.stay (x : YS P w H h a o) (k : ∀ b u, (b = a ∨ H b = some (.own a)) -> h.get? b = some u -> h'.get? b = some u)
    (ho : ∀ b, H b = some (.own a) -> H' b = some (.own a)) (ht : ∀ b xs, H b = some (.tup xs) -> H' b = some (.tup xs)) : YS P w H' h' a o:=by
  induction o with
  | lst xs=>obtain ⟨z, its, n, r, e⟩:=x; exact ⟨z, its, n, r, k _ _ (.inl rfl) e⟩
  | tup xs=>obtain ⟨z, its, r, ob, e, c⟩:=x; exact ⟨z, its, r, ob, k _ _ (.inl rfl) e, c⟩
  | dK kvs=>obtain ⟨z, y, vs, r, ob, es, ep, e, c⟩:=x; exact ⟨z, y, vs, r, ob, es, ep, k _ _ (.inl rfl) e, c⟩
  | dT kvs=>
    obtain ⟨z, y, xs, r, ob, es, ep, e, c⟩:=x
    exact ⟨z, y, xs, Paired.mapP r fun p q z=>⟨z.1, ht _ _ z.2.1, z.2.2⟩, ob, es, ep, k _ _ (.inl rfl) e, c⟩
  | set S n=>obtain ⟨ob, es, ep, t, e, c⟩:=x; exact ⟨ob, es, ep, t, k _ _ (.inl rfl) e, c⟩
  | ins C dx fs=>
    obtain ⟨d, z, ne, e, mA, ⟨od, es, ep, e2, c⟩, r⟩:=x
    exact ⟨ho _ d, z, ne, k _ _ (.inl rfl) e, mA, ⟨od, es, ep, k _ _ (.inr d) e2, c⟩, r⟩
  | own y=>obtain ⟨ob, e⟩:=x; exact ⟨ob, k _ _ (.inl rfl) e⟩
  | xd fs=>obtain ⟨mA, ⟨od, es, ep, e, c⟩, r⟩:=x; exact ⟨mA, ⟨od, es, ep, k _ _ (.inl rfl) e, c⟩, r⟩
  | rng lo hi=>obtain ⟨t, u, v, e⟩:=x; exact ⟨t, u, v, k _ _ (.inl rfl) e⟩
  | frz ob u ih=>obtain ⟨e, q⟩:=x; exact ⟨k _ _ (.inl rfl) e, ih q⟩
  | tbl ps=>
    have e : h.get? a = some { cls:=.none, data:=.fields ps }:=x
    show h'.get? a = some { cls:=.none, data:=.fields ps }
    exact k a _ (.inl rfl) e
  | met f y=>
    have e : h.get? a = some (PySem.W.methodObj (.ref f) (.ref y)):=x
    show h'.get? a = some (PySem.W.methodObj (.ref f) (.ref y))
    exact k a _ (.inl rfl) e
  | ext φ=>obtain ⟨p, ⟨o, e⟩, st⟩:=x; exact ⟨st _ _ p fun o q=>k _ _ (.inl rfl) q, ⟨o, k _ _ (.inl rfl) e⟩, st⟩
theorem HOk.lt (x : HOk P w H h) (e : H a = some o) : a < h.objs.size:=(x a o e).lt
theorem HOk.fresh (x : HOk P w H h) (e : h.objs.size <= a) : H a = none:=by
  cases q : H a with
  | none=>rfl
  | some u=>exact absurd (Nat.lt_of_lt_of_le (x.lt q) e) (Nat.lt_irrefl _)
theorem HOk.kept (x : HOk P w H h) (k : ∀ b u, h.get? b = some u -> h'.get? b = some u) : HOk P w H h':=fun a o e=>
  (x a o e).stay (fun b u _ q=>k b u q) (fun _ q=>q) fun _ _ q=>q
theorem HOk.laid (x : HOk P w H h) (k : ∀ b u, h.get? b = some u -> h'.get? b = some u) (hp : h.objs.size <= a) (new : YS P w (upd H a o) h' a o) : HOk P w (upd H a o) h':=fun b u e=>by
  have hn:=x.fresh hp
  by_cases hb : b = a
  . subst hb; rw [Yt] at e; cases e; exact new
  . rw [XB hb] at e
    exact (x b u e).stay (fun c v _ q=>k c v q) (fun c q=>by rw [XB (XH q hn)]; exact q) fun c xs q=>by rw [XB (XH q hn)]; exact q
end
noncomputable def Rd (H : Hp) (a : Addr) (u : HO) : Prop:=H a = some u ∨ ∃ o, H a = some (.frz o u)
theorem Rd.of {H : Hp} {a : Addr} {u : HO} (h : H a = some u) : Rd H a u:=.inl h
theorem Rd.ok {P : Program} {w : World} {H : Hp} {h : Heap} {a : Addr} {u : HO} (r : Rd H a u) (x : HOk P w H h) : YS P w H h a u:=by
  rcases r with r | ⟨o, r⟩
  . exact x a u r
  . obtain ⟨_, q⟩ := x a _ r
    exact q
noncomputable def Mut : Option HO -> Prop
  | some (.lst _)=>True
  | some (.dK _)=>True
  | some (.dT _)=>True
  | some (.set _ _)=>True
  | some (.ins _ _ _)=>True
  | some (.ext _)=>True
  | _=>False
section
variable {P : Program} {w : World} {H : Hp} {h h' : Heap} {x e : Addr} {o' : HO}
theorem HOk.write (ok : HOk P w H h) (mu : Mut (H x)) (he : e = x ∨ H e = some (.own x)) (k : ∀ b u, b ≠ e -> h.get? b = some u -> h'.get? b = some u) (heo : ∃ u, h'.get? e = some u)
    (new : YS P w (upd H x o') h' x o') : HOk P w (upd H x o') h':=fun b u q=>by
  have nown : ∀ c y, H c = some (.own y) -> c ≠ x:=fun c y r z=>by subst z; rw [r] at mu; exact mu
  have ntup : ∀ c xs, H c = some (.tup xs) -> c ≠ x:=fun c xs r z=>by subst z; rw [r] at mu; exact mu
  by_cases hb : b = x
  . subst hb; rw [Yt] at q; cases q; exact new
  . rw [XB hb] at q
    by_cases hbe : b = e
    . have q' : H b = some (.own x):=by
        rcases he with z | z
        . exact absurd (hbe.trans z) hb
        . rw [hbe]; exact z
      rw [q] at q'; cases q'
      obtain ⟨v, hv⟩:=heo
      exact ⟨v, by rw [hbe]; exact hv⟩
    . refine (ok b u q).stay (fun c v hc r => k c v ?_ r) (fun c r => by rw [XB (nown c b r)]; exact r) fun c xs r => by rw [XB (ntup c xs r)]; exact r
      rcases hc with rfl | hc
      . exact hbe
      . rintro rfl
        rcases he with z | z
        . exact nown c b hc z
        . rw [hc] at z; cases z; exact hb rfl
end
structure Un (fs ex : List Addr) (H H' : Hp) (h h' : Heap) : Prop where
  keep : ∀ b o, h.get? b = some o -> H b = none -> b ∉ fs -> b ∉ ex -> h'.get? b = some o
  slot : ∀ b o, h.get? b = some o -> H b = none -> b ∈ fs -> b ∉ ex -> ∃ sl, h'.get? b = some { o with slots:=sl }
  free : ∀ b o, h.get? b = some o -> H b = none -> b ∉ ex -> H' b = none
  there : ∀ b o, h.get? b = some o -> b ∉ ex -> ∃ o', h'.get? b = some o'
  tups : ∀ b xs, H b = some (.tup xs) -> H' b = some (.tup xs)
  frzs : ∀ b o u, H b = some (.frz o u) -> H' b = some (.frz o u)
  tbls : ∀ b ps, H b = some (.tbl ps) -> ∃ more, H' b = some (.tbl (ps ++ more))
section
variable {fs fs' ex ex' : List Addr} {H H1 H2 : Hp} {h h1 h2 h' : Heap} {a x e : Addr} {o : HO}
theorem Un.any (u : Un fs ex H H1 h h1) {b : Addr} {ob : Obj} (q : h.get? b = some ob) (n : H b = none) (hx : b ∉ ex) : ∃ sl, h1.get? b = some { ob with slots:=sl }:=by
  by_cases hb : b ∈ fs
  . exact u.slot b ob q n hb hx
  . exact ⟨ob.slots, u.keep b ob q n hb hx⟩
theorem Un.trans (a : Un fs ex H H1 h h1) (b : Un fs ex H1 H2 h1 h2) : Un fs ex H H2 h h2 where
  keep:=fun c ob q n hc hx=>b.keep c ob (a.keep c ob q n hc hx) (a.free c ob q n hx) hc hx
  slot:=fun c ob q n hc hx=>by
    obtain ⟨sl, e1⟩:=a.slot c ob q n hc hx
    obtain ⟨sl', e2⟩:=b.slot c _ e1 (a.free c ob q n hx) hc hx
    exact ⟨sl', e2⟩
  free:=fun c ob q n hx=>by
    obtain ⟨o', e1⟩:=a.there c ob q hx
    exact b.free c o' e1 (a.free c ob q n hx) hx
  there:=fun c ob q hx=>by
    obtain ⟨o', e1⟩:=a.there c ob q hx
    exact b.there c o' e1 hx
  tups:=fun c xs q=>b.tups c xs (a.tups c xs q)
  frzs:=fun c ob xs q=>b.frzs c ob xs (a.frzs c ob xs q)
  tbls:=fun c ps q=>by
    obtain ⟨m1, e1⟩:=a.tbls c ps q
    obtain ⟨m2, e2⟩:=b.tbls c _ e1
    exact ⟨m1 ++ m2, by rw [e2, Array.append_assoc]⟩
theorem Un.kept (k : ∀ b u, h.get? b = some u -> h'.get? b = some u) : Un fs ex H H h h':=
  ⟨fun b ob q _ _ _=>k b ob q, fun b ob q _ _ _=>⟨ob.slots, k b ob q⟩, fun _ _ _ n _=>n, fun b ob q _=>⟨ob, k b ob q⟩, fun _ _ q=>q, fun _ _ _ q=>q, fun _ ps q=>⟨#[], by rw [q]; simp⟩⟩
theorem Un.refl : Un fs ex H H h h:=Un.kept fun _ _ q=>q
theorem Un.laid (k : ∀ b u, h.get? b = some u -> h'.get? b = some u) (hp : h.objs.size <= a) (hn : H a = none) : Un fs ex H (upd H a o) h h' where
  keep:=fun b u q _ _ _=>k b u q
  slot:=fun b u q _ _ _=>⟨u.slots, k b u q⟩
  free:=fun b u q n _=>by rw [XB (Nat.ne_of_lt (Nat.lt_of_lt_of_le (Heap.lt_size q) hp))]; exact n
  there:=fun b u q _=>⟨u, k b u q⟩
  tups:=fun b xs q=>by rw [XB (XH q hn)]; exact q
  frzs:=fun b u xs q=>by rw [XB (XH q hn)]; exact q
  tbls:=fun b ps q=>⟨#[], by rw [XB (XH q hn), q]; simp⟩
theorem Un.write (mu : Mut (H x)) (he : e = x ∨ H e = some (.own x)) (k : ∀ b u, b ≠ e -> h.get? b = some u -> h'.get? b = some u) (heo : ∃ u, h'.get? e = some u) : Un fs ex H (upd H x o) h h':=by
  have hx : ∀ b, H b = none -> b ≠ x:=fun b n z=>by subst z; rw [n] at mu; exact mu
  have hb : ∀ b, H b = none -> b ≠ e:=fun b n z=>by
    subst z
    rcases he with r | r
    . exact hx b n r
    . rw [n] at r; cases r
  have hm : ∀ b u, H b = some u -> ¬ Mut (some u) -> b ≠ x:=fun b u q nm z=>by subst z; rw [q] at mu; exact nm mu
  refine ⟨fun b u q n _ _=>k b u (hb b n) q, fun b u q n _ _=>⟨u.slots, k b u (hb b n) q⟩, fun b u q n _=>by rw [XB (hx b n)]; exact n, fun b u q _=>?_,
    fun b xs q=>by rw [XB (hm b _ q fun z=>z)]; exact q, fun b u xs q=>by rw [XB (hm b _ q fun z=>z)]; exact q, fun b ps q=>⟨#[], by rw [XB (hm b _ q fun z=>z), q]; simp⟩⟩
  by_cases hbe : b = e
  . subst hbe; exact heo
  . exact ⟨u, k b u hbe q⟩
theorem Un.mono (u : Un fs ex H H1 h h1) (hs : ∀ b ∈ fs, b ∈ fs') (hx : ∀ b ∈ ex, b ∈ ex') : Un fs' ex' H H1 h h1:=
  ⟨fun b ob q n hb he=>u.keep b ob q n (fun z=>hb (hs b z)) fun z=>he (hx b z), fun _ _ q n _ he=>u.any q n fun z=>he (hx _ z), fun b ob q n he=>u.free b ob q n fun z=>he (hx b z), fun b ob q he=>u.there b ob q fun z=>he (hx b z), u.tups, u.frzs, u.tbls⟩
end
noncomputable def trk (h : Heap) (H : Hp) : List Addr:=(List.range h.objs.size).filter fun a=>(H a).isSome
noncomputable def Ff (h : Heap) (H : Hp) : Heap:=PySem.W.hideAll h (trk h H)
theorem GP (h : Heap) (H : Hp) : (Ff h H).objs.size = h.objs.size:=PySem.W.hideAll_size _ _
theorem UN {h : Heap} {H : Hp} {b : Addr} {o : Obj} (e : h.get? b = some o) (n : H b = none) : (Ff h H).get? b = some o:=
  PySem.W.hideAll_get _ e fun hm=>by
    have q : (H b).isSome = true:=(List.mem_filter.mp hm).2
    rw [n] at q; simp at q
theorem Cz {h : Heap} {H : Hp} {b : Addr} {o : Obj} (e : (Ff h H).get? b = some o) : h.get? b = some o /\ H b = none:=by
  have e' : h.get? b = some o:=PySem.W.of_hideAll (trk h H) e
  refine ⟨e', ?_⟩
  cases q : H b with
  | none=>rfl
  | some x=>
    have hm : b ∈ trk h H:=List.mem_filter.mpr ⟨List.mem_range.mpr (Heap.lt_size e'), by simp [q]⟩
    have z : (Ff h H).get? b = none:=PySem.W.hideAll_none (trk h H) hm
    rw [z] at e; cases e
noncomputable def Cu (g h : Heap) (L : Addr) : List (Addr × Obj):=(List.range h.objs.size).filterMap fun a=>if a = L ∨ (g.get? a).isSome = true then none else (h.get? a).map fun o=>(a, o)
noncomputable def YL (g h : Heap) (L d : Addr) : List (Addr × Obj):=(Cu g h L).filter fun p=>decide (p.1 ≠ d)
end L2
namespace L2
open PySem PySem.Spec PyProof.Rows
structure Mod (K : PySem.W.Frag) (mg : Str -> Option Value) (base : Heap) : Prop where
  kin : K.In base
  glob : base.Ns mainGlobals mg
  blt : ∃ mb, base.Ns builtinsNs mb /\ ∀ x : Str, x ≠ "__name__" -> mb x = bootBuiltins x
  nolimit : base.NoLimit
structure Cx where
  prog : Program
  w : World
  K : PySem.W.Frag
  mg : Str -> Option Value
  base : Heap
  A : Around
  N : List Str
  s₀ : Shared
  H₀ : Hp
  env : Env
  outer : List Env
  stack : List Env
  ex : List Addr
  fn : Str -> Bool
  calm : Bool
  pn : List (Addr × Obj)
  xe : Value -> Shared -> Prop
noncomputable def frs (l : List Env) : List Addr:=l.filterMap (·.frame)
noncomputable abbrev Cx.fs (X : Cx) : List Addr:=frs X.outer
noncomputable def Vis (sc : Scope) (x : Str) : Prop:=sc.names.lookup x = some .local ∨ sc.names.lookup x = some .cell ∨ sc.names.lookup x = some .free
noncomputable def Loc (sc : Scope) (x : Str) : Prop:=sc.names.lookup x = some .local ∨ sc.names.lookup x = some .cell
noncomputable def HA (env : Env) (h : Heap) (m : Str -> Option Value) (x : Str) (u : Value) : Prop:=
  (env.kindOf x = some .local /\ m x = some u) ∨ ((env.kindOf x = some .cell ∨ env.kindOf x = some .free) /\ ∃ c, env.cells.lookup x = some c /\ h.IsCell c (some u))
structure Cx.Ok (X : Cx) : Prop where
  mod : Mod X.K X.mg X.base
  kind : X.env.scope.kind = .function
  glob : X.env.globals = mainGlobals
  blt : X.env.builtins = builtinsNs
  above : X.s₀.heap.objs.size <= X.env.locals
  inj : ∀ x y c, X.env.cells.lookup x = some c -> X.env.cells.lookup y = some c -> x = y
  has : ∀ x, (X.env.kindOf x = some .cell ∨ X.env.kindOf x = some .free) -> ∃ c, X.env.cells.lookup x = some c
  cab : ∀ x c, X.fn x = true -> X.env.cells.lookup x = some c -> X.s₀.heap.objs.size <= c
  hd : X.calm = true -> X.A.handled = none
  frames : X.A.frames = some X.stack
  stk : X.stack = X.outer ∨ (X.stack = X.env :: X.outer /\ X.env.frame = some X.env.locals)
  exf : ∀ b ∈ X.ex, b ≠ X.env.locals /\ ∀ x c, X.env.cells.lookup x = some c -> c ≠ b
  bs : ∀ b o, X.base.get? b = some o -> X.s₀.heap.get? b = some o /\ X.H₀ b = none
  bsz : X.base.objs.size <= X.s₀.heap.objs.size
  noex : ∀ b o, X.base.get? b = some o -> b ∉ X.ex
  exfs : ∀ b ∈ X.ex, b ∉ X.fs
  funs : X.s₀.heap.FunFrames X.base X.outer
  frf : ∀ b ∈ X.fs, X.H₀ b = none
structure Inv (X : Cx) (pins : List (Addr × Obj)) (σ : List (Option V)) (H : Hp) (s : Shared) : Prop where
  ok : X.Ok
  os : s.os = X.s₀.os
  bare : AllBare s.gens
  base : Un X.fs X.ex X.H₀ H X.s₀.heap s.heap
  loc : ∃ m, s.heap.Ns X.env.locals m /\ ∀ (i : Nat) (x : Str) (v : V), X.N[i]? = some x -> σ[i]? = some (some v) -> Vis X.env.scope x -> ∃ u, X2 v u /\ HA X.env s.heap m x u
  cell : ∀ x c, X.env.cells.lookup x = some c -> ∃ v, s.heap.IsCell c v
  free : H X.env.locals = none
  freeC : ∀ x c, X.env.cells.lookup x = some c -> H c = none
  pin : ∀ p ∈ X.pn ++ pins, s.heap.get? p.1 = some p.2 /\ H p.1 = none /\ p.1 ≠ X.env.locals /\ p.1 ∉ X.fs /\ ∀ v, p.2.data ≠ .cell v
  hok : HOk X.prog X.w H s.heap
  len : σ.length = X.N.length
section
variable {X : Cx} {pins : List (Addr × Obj)} {σ : List (Option V)} {H H' : Hp} {s : Shared} {h' : Heap}
theorem Cx.Ok.nofr (ok : X.Ok) {b : Addr} {o : Obj} (e : X.base.get? b = some o) : b ∉ X.fs:=fun hb=>by
  have:=(ok.funs.mem hb).1
  rw [e] at this; cases this
theorem Inv.bs (I : Inv X pins σ H s) : ∀ b o, X.base.get? b = some o -> s.heap.get? b = some o /\ H b = none:=fun b o e=>
  ⟨I.base.keep b o (I.ok.bs b o e).1 (I.ok.bs b o e).2 (I.ok.nofr e) (I.ok.noex b o e), I.base.free b o (I.ok.bs b o e).1 (I.ok.bs b o e).2 (I.ok.noex b o e)⟩
theorem Inv.bk (I : Inv X pins σ H s) : ∀ b o, X.base.get? b = some o -> s.heap.get? b = some o:=fun b o e=>(I.bs b o e).1
theorem Inv.mod (I : Inv X pins σ H s) : Mod X.K X.mg X.base:=I.ok.mod
theorem Inv.kIn (I : Inv X pins σ H s) : X.K.In s.heap:=I.ok.mod.kin.keeps I.bk
theorem Inv.nolimit (I : Inv X pins σ H s) : s.heap.NoLimit:=I.ok.mod.nolimit.keeps I.bk
theorem Inv.lt (I : Inv X pins σ H s) : X.env.locals < s.heap.objs.size:=let ⟨_, hn, _⟩:=I.loc; hn.lt
theorem Inv.sz (I : Inv X pins σ H s) : X.s₀.heap.objs.size <= s.heap.objs.size:=Nat.le_trans I.ok.above (Nat.le_of_lt I.lt)
theorem Inv.nofs (I : Inv X pins σ H s) {a : Addr} (h : s.heap.objs.size <= a) : a ∉ X.fs:=fun hb=>by
  obtain ⟨_, o, ho, _⟩:=I.ok.funs.mem hb
  exact absurd (Nat.lt_of_lt_of_le (Heap.lt_size ho) (Nat.le_trans I.sz h)) (Nat.lt_irrefl _)
theorem Inv.cne (I : Inv X pins σ H s) : ∀ x c, X.env.cells.lookup x = some c -> c ≠ X.env.locals:=fun x c e z=>by
  obtain ⟨v, o, ho, hd⟩:=I.cell x c e
  obtain ⟨m, ⟨o', es, ep, ho', hd', _⟩, _⟩:=I.loc
  rw [z, ho'] at ho; cases ho; rw [hd'] at hd; cases hd
theorem Inv.funs (I : Inv X pins σ H s) : s.heap.FunFrames X.base X.outer:=by
  have all : ∀ (l : List Env), (∀ b ∈ frs l, b ∈ X.fs) -> X.s₀.heap.FunFrames X.base l -> s.heap.FunFrames X.base l:=by
    intro l
    induction l with
    | nil=>intro _ _; trivial
    | cons env r ih=>
      intro hs hl
      obtain ⟨hk, ⟨L, o, hf, hn, ho, hd⟩, hr⟩:=hl
      have hL : L ∈ X.fs:=hs L (by unfold frs; rw [List.filterMap_cons, hf]; exact List.mem_cons_self)
      obtain ⟨sl, e⟩:=I.base.slot L o ho (I.ok.frf L hL) hL fun z=>I.ok.exfs L z hL
      exact ⟨hk, ⟨L, _, hf, hn, e, hd⟩, ih (fun b hb=>hs b (by unfold frs; rw [List.filterMap_cons, hf]; exact List.mem_cons_of_mem _ hb)) hr⟩
  exact all X.outer (fun _ hb=>hb) I.ok.funs
theorem Inv.stack (I : Inv X pins σ H s) : s.heap.FunFrames X.base X.stack:=by
  rcases I.ok.stk with e | ⟨e, hf⟩
  . rw [e]; exact I.funs
  . rw [e]
    obtain ⟨m, hn, _⟩:=I.loc
    refine .cons (by rw [I.ok.kind]; decide) hf hn ?_ I.funs
    exact Heap.get?_none_of_le (Nat.le_trans I.ok.bsz I.ok.above)
theorem Inv.stkSub (I : Inv X pins σ H s) : ∀ b ∈ frs X.stack, b ∈ X.env.locals :: X.fs:=fun b hb=>by
  rcases I.ok.stk with e | ⟨e, hf⟩
  . rw [e] at hb; exact List.mem_cons_of_mem _ hb
  . rw [e] at hb
    unfold frs at hb
    rw [List.filterMap_cons, hf] at hb
    exact hb
theorem Inv.stkFree (I : Inv X pins σ H s) : ∀ b ∈ frs X.stack, H b = none:=fun b hb=>by
  rcases List.mem_cons.mp (I.stkSub b hb) with e | hb
  . rw [e]; exact I.free
  . obtain ⟨_, o, ho, _⟩ := I.ok.funs.mem hb
    exact I.base.free b o ho (I.ok.frf b hb) fun z=>I.ok.exfs b z hb
theorem Inv.step {g' : Array GenState} {t' : Nat} {d' : Drawn} {ch : List Addr} (I : Inv X pins σ H s)
    (hch : ∀ b ∈ ch, (b ∈ X.ex ∨ X.s₀.heap.objs.size <= b) /\ b ≠ X.env.locals /\ (∀ x c, X.env.cells.lookup x = some c -> c ≠ b) /\ ∀ p ∈ X.pn ++ pins, p.1 ≠ b)
    (keep : ∀ b o, b ≠ X.env.locals -> b ∉ X.fs -> b ∉ ch -> s.heap.get? b = some o -> H b = none -> h'.get? b = some o)
    (slot : ∀ b o, b ≠ X.env.locals -> b ∈ X.fs -> b ∉ ch -> s.heap.get? b = some o -> H b = none -> ∃ sl, h'.get? b = some { o with slots:=sl }) (free : ∀ b o, b ∉ ch -> s.heap.get? b = some o -> H b = none -> H' b = none)
    (there : ∀ b o, b ∉ ch -> s.heap.get? b = some o -> ∃ o', h'.get? b = some o')
    (tups : ∀ b xs, H b = some (.tup xs) -> H' b = some (.tup xs)) (frzs : ∀ b o u, H b = some (.frz o u) -> H' b = some (.frz o u)) (tbls : ∀ b ps, H b = some (.tbl ps) -> ∃ more, H' b = some (.tbl (ps ++ more)))
    (ns : ∀ m, s.heap.Ns X.env.locals m -> h'.Ns X.env.locals m) (hok : HOk X.prog X.w H' h') (hg : AllBare g') :
    Inv X pins σ H' { s with heap:=h', gens:=g', drawn:=d', toks:=t' }:=by
  have neL : ∀ b o, X.s₀.heap.get? b = some o -> b ≠ X.env.locals:=fun b o e=>Nat.ne_of_lt (Nat.lt_of_lt_of_le (Heap.lt_size e) I.ok.above)
  have neC : ∀ b o, X.s₀.heap.get? b = some o -> b ∉ X.ex -> b ∉ ch:=fun b o e hx hb=>by
    rcases (hch b hb).1 with z | z
    . exact hx z
    . exact absurd (Nat.lt_of_lt_of_le (Heap.lt_size e) z) (Nat.lt_irrefl _)
  have cellK : ∀ x c, X.env.cells.lookup x = some c -> ∀ v, s.heap.IsCell c v -> h'.IsCell c v:=fun x c e v ⟨o, ho, hd⟩=>by
    have nch : c ∉ ch:=fun z=>(hch c z).2.2.1 x c e rfl
    by_cases hc : c ∈ X.fs
    . obtain ⟨sl, q⟩ := slot c o (I.cne x c e) hc nch ho (I.freeC x c e)
      exact ⟨_, q, hd⟩
    . exact ⟨o, keep c o (I.cne x c e) hc nch ho (I.freeC x c e), hd⟩
  refine ⟨I.ok, I.os, hg, ⟨fun b o e n hb hx=>?_, fun b o e n hb hx=>?_, fun b o e n hx=>?_, fun b o e hx=>?_, fun b xs e=>tups b xs (I.base.tups b xs e), fun b o xs e=>frzs b o xs (I.base.frzs b o xs e), fun b ps e=>?_⟩, ?_, fun x c e=>?_, ?_, fun x c e=>?_, fun p hp=>?_, hok, I.len⟩
  . exact keep b o (neL b o e) hb (neC b o e hx) (I.base.keep b o e n hb hx) (I.base.free b o e n hx)
  . obtain ⟨sl, e1⟩ := I.base.slot b o e n hb hx
    obtain ⟨sl', e2⟩:=slot b _ (neL b o e) hb (neC b o e hx) e1 (I.base.free b o e n hx)
    exact ⟨sl', e2⟩
  . obtain ⟨o', e1⟩ := I.base.there b o e hx
    exact free b o' (neC b o e hx) e1 (I.base.free b o e n hx)
  . obtain ⟨o', e1⟩ := I.base.there b o e hx
    exact there b o' (neC b o e hx) e1
  . obtain ⟨m1, e1⟩ := I.base.tbls b ps e
    obtain ⟨m2, e2⟩:=tbls b _ e1
    exact ⟨m1 ++ m2, by rw [e2, Array.append_assoc]⟩
  . obtain ⟨m, hn, hl⟩ := I.loc
    refine ⟨m, ns m hn, fun i x v e1 e2 e3=>?_⟩
    obtain ⟨u, r, l⟩:=hl i x v e1 e2 e3
    refine ⟨u, r, ?_⟩
    rcases l with l | ⟨k, c, e, z⟩
    . exact .inl l
    . exact .inr ⟨k, c, e, cellK x c e _ z⟩
  . obtain ⟨v, z⟩ := I.cell x c e
    exact ⟨v, cellK x c e v z⟩
  . obtain ⟨m, ⟨o, _, _, ho, _⟩, _⟩ := I.loc
    exact free _ o (fun z=>(hch _ z).2.1 rfl) ho I.free
  . obtain ⟨v, o, ho, hd⟩ := I.cell x c e
    exact free c o (fun z=>(hch c z).2.2.1 x c e rfl) ho (I.freeC x c e)
  . obtain ⟨e, n, ne, nf, d⟩ := I.pin p hp
    have nch : p.1 ∉ ch:=fun z=>(hch p.1 z).2.2.2 p hp rfl
    exact ⟨keep p.1 p.2 ne nf nch e n, free p.1 p.2 nch e n, ne, nf, d⟩
theorem Inv.un {t' : Nat} (I : Inv X pins σ H s) (u : Un X.fs [] H H' s.heap h') (hok : HOk X.prog X.w H' h') : Inv X pins σ H' { s with heap:=h', toks:=t' }:=by
  obtain ⟨m, ⟨o, es, ep, ho, r⟩, _⟩:=id I.loc
  obtain ⟨sl, hL⟩:=u.any ho I.free (by simp)
  exact I.step (g':=s.gens) (d':=s.drawn) (ch:=[]) (fun _ z=>nomatch z) (fun b o _ hb _ e n=>u.keep b o e n hb (by simp)) (fun b o _ hb _ e n=>u.slot b o e n hb (by simp)) (fun b o _ e n=>u.free b o e n (by simp)) (fun b o _ e=>u.there b o e (by simp)) u.tups u.frzs u.tbls (fun m' hm=>by
    obtain ⟨o', es', ep', ho', r'⟩:=hm
    rw [ho] at ho'; cases ho'
    exact ⟨_, es', ep', hL, r'⟩) hok I.bare
theorem Inv.call {g' : Array GenState} {t' : Nat} {d' : Drawn} {ch : List Addr} (I : Inv X pins σ H s) (u : Un (frs X.stack) ch H H' s.heap h') (hok : HOk X.prog X.w H' h') (hg : AllBare g')
    (hch : ∀ b ∈ ch, (b ∈ X.ex ∨ X.s₀.heap.objs.size <= b) /\ b ≠ X.env.locals /\ (∀ x c, X.env.cells.lookup x = some c -> c ≠ b) /\ ∀ p ∈ X.pn ++ pins, p.1 ≠ b) :
    Inv X pins σ H' { s with heap:=h', gens:=g', drawn:=d', toks:=t' }:=by
  obtain ⟨m, ⟨o, es, ep, ho, r⟩, _⟩:=id I.loc
  obtain ⟨sl, hL⟩:=u.any ho I.free fun z=>(hch _ z).2.1 rfl
  exact I.step (ch:=ch) hch (fun b o hL hb hc e n=>u.keep b o e n (fun z=>(List.mem_cons.mp (I.stkSub b z)).elim hL hb) hc) (fun b o _ _ hc e n=>u.any e n hc) (fun b o hc e n=>u.free b o e n hc) (fun b o hc e=>u.there b o e hc) u.tups u.frzs u.tbls (fun m' hm=>by
    obtain ⟨o', es', ep', ho', r'⟩:=hm
    rw [ho] at ho'; cases ho'
    exact ⟨_, es', ep', hL, r'⟩) hok hg
theorem Inv.turned {t' : Nat} {it : Addr} (I : Inv X pins σ H s) (k : ∀ b o, b ≠ it -> s.heap.get? b = some o -> h'.get? b = some o) (hn : H it = none) (hL : it ≠ X.env.locals)
    (h1 : it ∈ X.ex ∨ X.s₀.heap.objs.size <= it) (h2 : ∀ x c, X.env.cells.lookup x = some c -> c ≠ it) (h3 : ∀ p ∈ X.pn ++ pins, p.1 ≠ it) : Inv X pins σ H { s with heap:=h', toks:=t' }:=by
  have nit : ∀ b u, H b = some u -> b ≠ it:=fun b u e z=>by rw [z, hn] at e; cases e
  refine I.step (g':=s.gens) (d':=s.drawn) (ch:=[it]) (fun b hb=>?_) (fun b o _ _ hc e _=>k b o (fun z=>hc (by simp [z])) e) (fun b o _ _ hc e _=>⟨o.slots, k b o (fun z=>hc (by simp [z])) e⟩) (fun _ _ _ _ n=>n)
    (fun b o hc e=>⟨o, k b o (fun z=>hc (by simp [z])) e⟩) (fun _ _ e=>e) (fun _ _ _ e=>e) (fun b ps e=>⟨#[], by rw [e]; simp⟩) (fun m hm=>?_) (fun b u e=>?_) I.bare
  . have e : b = it := by simpa using hb
    subst e
    exact ⟨h1, hL, h2, h3⟩
  . obtain ⟨o, es, ep, ho, r⟩ := hm
    exact ⟨o, es, ep, k _ o (Ne.symm hL) ho, r⟩
  . refine (I.hok b u e).stay (fun c v hc q => k c v ?_ q) (fun _ q => q) fun _ _ q => q
    rcases hc with z | z
    . rw [z]; exact nit b u e
    . exact nit c _ z
theorem Inv.tok (I : Inv X pins σ H s) (t : Nat) : Inv X pins σ H { s with toks:=t }:=I.un (h':=s.heap) (t':=t) Un.refl I.hok
theorem Inv.kept {t' : Nat} (I : Inv X pins σ H s) (k : ∀ b u, s.heap.get? b = some u -> h'.get? b = some u) : Inv X pins σ H { s with heap:=h', toks:=t' }:=I.un (Un.kept k) (I.hok.kept k)
theorem Inv.laid {a : Addr} {o : HO} {t' : Nat} (I : Inv X pins σ H s) (k : ∀ b u, s.heap.get? b = some u -> h'.get? b = some u) (hp : s.heap.objs.size <= a) (new : YS X.prog X.w (upd H a o) h' a o) :
    Inv X pins σ (upd H a o) { s with heap:=h', toks:=t' }:=I.un (Un.laid k hp (I.hok.fresh hp)) (I.hok.laid k hp new)
theorem Inv.write {x e : Addr} {o : HO} {t' : Nat} (I : Inv X pins σ H s) (mu : Mut (H x)) (he : e = x ∨ H e = some (.own x)) (k : ∀ b u, b ≠ e -> s.heap.get? b = some u -> h'.get? b = some u) (heo : ∃ u, h'.get? e = some u)
    (new : YS X.prog X.w (upd H x o) h' x o) : Inv X pins σ (upd H x o) { s with heap:=h', toks:=t' }:=I.un (Un.write mu he k heo) (I.hok.write mu he k heo new)
theorem Inv.weak {σ' : List (Option V)} (I : Inv X pins σ H s) (hl : σ'.length = σ.length) (w : ∀ (i : Nat) v, σ'[i]? = some (some v) -> σ[i]? = some (some v)) : Inv X pins σ' H s:=
  ⟨I.ok, I.os, I.bare, I.base, let ⟨m, hn, hl'⟩:=I.loc; ⟨m, hn, fun i x v e1 e2 e3=>hl' i x v e1 (w i v e2) e3⟩, I.cell, I.free, I.freeC, I.pin, I.hok, hl.trans I.len⟩
theorem Inv.pins_of {pins' : List (Addr × Obj)} (I : Inv X pins σ H s) (h : ∀ p ∈ pins', s.heap.get? p.1 = some p.2 /\ H p.1 = none /\ p.1 ≠ X.env.locals /\ p.1 ∉ X.fs /\ ∀ v, p.2.data ≠ .cell v) : Inv X pins' σ H s:=
  ⟨I.ok, I.os, I.bare, I.base, I.loc, I.cell, I.free, I.freeC, fun p hp=>(List.mem_append.mp hp).elim (fun z=>I.pin p (List.mem_append_left _ z)) (h p), I.hok, I.len⟩
theorem U2 {N : List Str} (hN : N.Nodup) {i j : Nat} {x : Str} (a : N[i]? = some x) (b : N[j]? = some x) : i = j:=by
  obtain ⟨h1, e1⟩:=List.getElem?_eq_some_iff.mp a
  obtain ⟨h2, e2⟩:=List.getElem?_eq_some_iff.mp b
  exact (List.getElem_inj hN).mp (e1.trans e2.symm)
theorem V2 {M : Model} {A : Around} {E : Value -> Shared -> Prop} {i : Nat} {x : Str} {v : V} {u : Value} {Q : Unit -> Shared -> Prop} (I : Inv X pins σ H s) (hN : X.N.Nodup) (hi : X.N[i]? = some x) (hx : Loc X.env.scope x) (r : X2 v u)
    (h : ∀ s', Inv X pins (σ.set i (some v)) H s' -> (∃ a, Heap.SameBut a s.heap s'.heap /\ (a = X.env.locals ∨ X.env.cells.lookup x = some a)) -> Q () s') (hf : X.fn x = true ∨ X.env.scope.names.lookup x = some .local:=by first | exact .inl rfl | exact .inr rfl | assumption) : wpAny M A (storeName X.env x u) Q E s:=by
  obtain ⟨m, hn, hl⟩:=id I.loc
  have hcls : (X.env.scope.kind == .class || (X.env.scope.kind == .module && X.env.locals != X.env.globals)) = false:=by rw [I.ok.kind]; rfl
  have hiσ : i < σ.length:=by rw [I.len]; exact (List.getElem?_eq_some_iff.mp hi).1
  have cne:=I.cne
  have tracked : ∀ {a : Addr} {h' : Heap}, (∃ o, s.heap.get? a = some o /\ H a = none) -> Heap.SameBut a s.heap h' -> HOk X.prog X.w H h':=fun {a h'} ha hs b ob e=>by
    obtain ⟨_, _, hfree⟩:=ha
    refine (I.hok b ob e).stay (fun c w' hc q=>(hs.2 c ?_).trans q) (fun _ q=>q) fun _ _ q=>q
    rintro rfl
    rcases hc with rfl | hc
    . rw [hfree] at e; cases e
    . rw [hfree] at hc; cases hc
  rcases hx with hk | hk
  . refine wpAny_storeName_local hk hn (fun h' hn' hs => ?_) hcls
    obtain ⟨oL, _, _, hoL, _⟩:=id hn
    refine h _ ⟨I.ok, I.os, I.bare, ⟨fun b o e n hb hx=>?_, fun b o e n hb hx=>?_, I.base.free, fun b o e hx=>?_, I.base.tups, I.base.frzs, I.base.tbls⟩, ⟨_, hn', fun j y v' e1 e2 e3=>?_⟩, fun y c e=>?_, I.free, I.freeC, fun p hp=>?_, tracked ⟨oL, hoL, I.free⟩ hs, by simpa using I.len⟩ ⟨_, hs, .inl rfl⟩
    . exact (hs.2 b (Nat.ne_of_lt (Nat.lt_of_lt_of_le (Heap.lt_size e) I.ok.above))).trans (I.base.keep b o e n hb hx)
    . obtain ⟨sl, e1⟩ := I.base.slot b o e n hb hx
      exact ⟨sl, (hs.2 b (Nat.ne_of_lt (Nat.lt_of_lt_of_le (Heap.lt_size e) I.ok.above))).trans e1⟩
    . obtain ⟨o', e1⟩ := I.base.there b o e hx
      exact ⟨o', (hs.2 b (Nat.ne_of_lt (Nat.lt_of_lt_of_le (Heap.lt_size e) I.ok.above))).trans e1⟩
    . by_cases hj : j = i
      . subst hj
        rw [hi] at e1; cases e1
        rw [List.getElem?_set_self hiσ] at e2
        cases e2
        exact ⟨u, r, .inl ⟨hk, by simp⟩⟩
      . rw [List.getElem?_set_ne (Ne.symm hj)] at e2
        obtain ⟨u', r', q⟩:=hl j y v' e1 e2 e3
        refine ⟨u', r', ?_⟩
        rcases q with ⟨k, e⟩ | ⟨k, c, e, z⟩
        . refine .inl ⟨k, ?_⟩
          have : y ≠ x:=fun e=>hj (U2 hN e1 (e ▸ hi))
          simp [this, e]
        . exact .inr ⟨k, c, e, z.sameBut hs (cne y c e)⟩
    . obtain ⟨w', z⟩ := I.cell y c e
      exact ⟨w', z.sameBut hs (cne y c e)⟩
    . obtain ⟨e, n, ne, nf, d⟩ := I.pin p hp
      exact ⟨(hs.2 p.1 ne).trans e, n, ne, nf, d⟩
  . have hfn : X.fn x = true:=by
      rcases hf with z | z
      . exact z
      . rw [z] at hk; cases hk
    obtain ⟨c, hc⟩:=I.ok.has x (.inl hk)
    obtain ⟨w', z⟩:=I.cell x c hc
    refine wpAny_storeName_cell I.ok.kind hk hc z (fun h' hc' hs=>?_)
    obtain ⟨oc, hoc, hocd⟩:=id z
    refine h { s with heap:=h' } ⟨I.ok, I.os, I.bare, ⟨fun b o e n hb hx=>?_, fun b o e n hb hx=>?_, I.base.free, fun b o e hx=>?_, I.base.tups, I.base.frzs, I.base.tbls⟩, ⟨m, hn.sameBut hs (Ne.symm (cne x c hc)), fun j y v' e1 e2 e3=>?_⟩, fun y c' e=>?_, I.free, I.freeC, fun p hp=>?_, tracked ⟨oc, hoc, I.freeC x c hc⟩ hs, by simpa using I.len⟩ ⟨c, hs, .inr hc⟩
    . exact (hs.2 b (Nat.ne_of_lt (Nat.lt_of_lt_of_le (Heap.lt_size e) (I.ok.cab x c hfn hc)))).trans (I.base.keep b o e n hb hx)
    . obtain ⟨sl, e1⟩ := I.base.slot b o e n hb hx
      exact ⟨sl, (hs.2 b (Nat.ne_of_lt (Nat.lt_of_lt_of_le (Heap.lt_size e) (I.ok.cab x c hfn hc)))).trans e1⟩
    . obtain ⟨o', e1⟩ := I.base.there b o e hx
      exact ⟨o', (hs.2 b (Nat.ne_of_lt (Nat.lt_of_lt_of_le (Heap.lt_size e) (I.ok.cab x c hfn hc)))).trans e1⟩
    . by_cases hj : j = i
      . subst hj
        rw [hi] at e1; cases e1
        rw [List.getElem?_set_self hiσ] at e2
        cases e2
        exact ⟨u, r, .inr ⟨.inl hk, c, hc, hc'⟩⟩
      . rw [List.getElem?_set_ne (Ne.symm hj)] at e2
        obtain ⟨u', r', q⟩:=hl j y v' e1 e2 e3
        refine ⟨u', r', ?_⟩
        rcases q with q | ⟨k, c', e, z'⟩
        . exact .inl q
        . refine .inr ⟨k, c', e, z'.sameBut hs ?_⟩
          rintro rfl
          exact hj (U2 hN e1 (I.ok.inj _ _ _ e hc ▸ hi))
    . by_cases hcc : c' = c
      . subst hcc; exact ⟨_, hc'⟩
      . obtain ⟨w2, z2⟩ := I.cell y c' e
        exact ⟨w2, z2.sameBut hs hcc⟩
    . obtain ⟨e, n, ne, nf, d⟩ := I.pin p hp
      refine ⟨(hs.2 p.1 ?_).trans e, n, ne, nf, d⟩
      intro q
      rw [q, hoc] at e
      have q' : oc = p.2:=Option.some.inj e
      exact d w' (by rw [← q']; exact hocd)
theorem QL {M : Model} {A : Around} {E : Value -> Shared -> Prop} {i : Nat} {x : Str} {v : V} {u : Value} {Q : Unit -> Shared -> Prop} (I : Inv X pins σ H s) (hN : X.N.Nodup) (hi : X.N[i]? = some x) (hx : Loc X.env.scope x) (r : X2 v u)
    (h : ∀ s', Inv X pins (σ.set i (some v)) H s' -> Q () s') (hf : X.fn x = true ∨ X.env.scope.names.lookup x = some .local:=by first | exact .inl rfl | exact .inr rfl | assumption) : wpAny M A (storeName X.env x u) Q E s:=
  V2 I hN hi hx r (fun s' I' _=>h s' I') hf
theorem Inv.call' {s' : Shared} {ch : List Addr} (I : Inv X pins σ H s) (ho : s'.os = s.os) (u : Un (frs X.stack) ch H H' s.heap s'.heap) (hok : HOk X.prog X.w H' s'.heap) (hg : AllBare s'.gens)
    (hch : ∀ b ∈ ch, (b ∈ X.ex ∨ X.s₀.heap.objs.size <= b) /\ b ≠ X.env.locals /\ (∀ x c, X.env.cells.lookup x = some c -> c ≠ b) /\ ∀ p ∈ X.pn ++ pins, p.1 ≠ b) : Inv X pins σ H' s':=by
  obtain ⟨h', g', d', t', o'⟩:=s'
  have e : o' = s.os:=ho
  subst e
  exact I.call (g':=g') (t':=t') (d':=d') u hok hg hch
end
noncomputable abbrev XK:=Value -> Option Addr -> Hp -> Prop
noncomputable abbrev St:=List (Option V)
noncomputable abbrev VK:=V -> Hp -> Prop
noncomputable abbrev TE:=St -> Hp -> VK -> Prop
noncomputable abbrev TT:=St -> Hp -> (Bool -> Hp -> Prop) -> Prop
noncomputable abbrev TA:=St -> Hp -> (List V -> Hp -> Prop) -> Prop
structure Ends where
  nx : St -> Hp -> Prop
  rt : VK
  bk : St -> Hp -> Prop:=fun _ _=>False
  ct : St -> Hp -> Prop:=fun _ _=>False
noncomputable abbrev TS:=Ends -> St -> Hp -> Prop
noncomputable def EP (X : Cx) (pins : List (Addr × Obj)) (σ : St) (Q : VK) (u : Value) (s' : Shared) : Prop:=∃ v H', Inv X pins σ H' s' /\ X2 v u /\ Q v H'
noncomputable def TP (X : Cx) (pins : List (Addr × Obj)) (σ : St) (Q : Bool -> Hp -> Prop) (b : Bool) (s' : Shared) : Prop:=∃ H', Inv X pins σ H' s' /\ Q b H'
noncomputable def AP (X : Cx) (pins : List (Addr × Obj)) (σ : St) (Q : List V -> Hp -> Prop) (us : List Value) (s' : Shared) : Prop:=∃ vs H', Inv X pins σ H' s' /\ XV vs us /\ Q vs H'
noncomputable def SP (X : Cx) (pins : List (Addr × Obj)) (D : Ends) (f : Flow) (s' : Shared) : Prop:=
  match f with
  | .next=>∃ σ' H', Inv X pins σ' H' s' /\ D.nx σ' H'
  | .brk=>∃ σ' H', Inv X pins σ' H' s' /\ D.bk σ' H'
  | .cont=>∃ σ' H', Inv X pins σ' H' s' /\ D.ct σ' H'
  | .ret u=>∃ v σ' H', Inv X pins σ' H' s' /\ X2 v u /\ D.rt v H'
noncomputable def PE (X : Cx) (e : Expr) (t : TE) : Prop:=
  ∀ (pins : List (Addr × Obj)) (s : Shared) (σ : St) (H : Hp) (Q : VK), Inv X pins σ H s -> t σ H Q -> wpAny (model X.prog X.w) X.A (eval e X.env) (EP X pins σ Q) X.xe s
noncomputable def PT (X : Cx) (e : Expr) (t : TT) : Prop:=
  ∀ (pins : List (Addr × Obj)) (s : Shared) (σ : St) (H : Hp) (Q : Bool -> Hp -> Prop), Inv X pins σ H s -> t σ H Q -> wpAny (model X.prog X.w) X.A (isTrue e X.env (eval e X.env)) (TP X pins σ Q) X.xe s
noncomputable def PW (X : Cx) (e : Expr) (t : TT) : Prop:=
  ∀ (whole : Sem Value) (pins : List (Addr × Obj)) (s : Shared) (σ : St) (H : Hp) (Q : Bool -> Hp -> Prop), Inv X pins σ H s -> t σ H Q -> wpAny (model X.prog X.w) X.A (isTrue e X.env whole) (TP X pins σ Q) X.xe s
theorem PW.pt {X : Cx} {e : Expr} {t : TT} (h : PW X e t) : PT X e t:=h _
noncomputable def PA (X : Cx) (es : List Expr) (t : TA) : Prop:=
  ∀ (pos : Pos) (pins : List (Addr × Obj)) (s : Shared) (σ : St) (H : Hp) (Q : List V -> Hp -> Prop), Inv X pins σ H s -> t σ H Q -> wpAny (model X.prog X.w) X.A (spliced (backTo pos (starEach es X.env))) (AP X pins σ Q) X.xe s
noncomputable def PS (X : Cx) (st : Stmt) (t : TS) : Prop:=
  ∀ (pins : List (Addr × Obj)) (s : Shared) (σ : St) (H : Hp) (D : Ends), Inv X pins σ H s -> t D σ H -> wpAny (model X.prog X.w) X.A (exec st X.env) (SP X pins D) X.xe s
noncomputable def PSs (X : Cx) (st : List Stmt) (t : TS) : Prop:=
  ∀ (pins : List (Addr × Obj)) (s : Shared) (σ : St) (H : Hp) (D : Ends), Inv X pins σ H s -> t D σ H -> wpAny (model X.prog X.w) X.A (execs st X.env) (SP X pins D) X.xe s
theorem thn {α : Type} {t : Sem α} {Q Q' : α -> Shared -> Prop} {M : Model} {A : Around} {E : Value -> Shared -> Prop} {s : Shared} (h : wpAny M A t Q E s) (hQ : ∀ a s, Q a s -> Q' a s) : wpAny M A t Q' E s:=wpAny_mono h hQ fun _ _ x=>x
end L2
namespace L2
open PySem PySem.Spec PyProof.Rows
section
variable {X : Cx}
noncomputable def QY (i : Nat) : TE:=fun σ H Q=>∃ v, σ[i]? = some (some v) /\ Q v H
noncomputable def tC (v : V) : TE:=fun _ H Q=>Q v H
theorem Bp {i : Nat} {x : Str} {pos : Pos} (hN : X.N[i]? = some x) (hv : Vis X.env.scope x) (hd : (x == ("__debug__" : Str)) = false:=by decide) (hcd : (x == ("__classdict__" : Str)) = false:=by decide) : PE X (.Name x pos) (QY i):=by
  intro pins s σ H Q I h
  obtain ⟨v, e, h⟩:=h
  obtain ⟨m, hn, hl⟩:=I.loc
  obtain ⟨u, r, l⟩:=hl i x v hN e hv
  have fin : EP X pins σ Q u s:=⟨v, H, I, r, h⟩
  rcases l with ⟨hk, hm⟩ | ⟨hk, c, hc, hcell⟩
  . exact wpAny_Name (wpAny_loadName_local I.ok.kind hk hn hm fin) hd
  . rcases hk with hk | hk
    . exact wpAny_Name (wpAny_loadName_cell I.ok.kind hk hc hcell fin) hd
    . exact wpAny_Name (wpAny_loadName_free I.ok.kind hk hc hcell fin hcd) hd
theorem Xh {i j pos} : PE X (.Constant (.int i) j pos) (tC (.int i)):=fun _ _ _ H _ I h=>wpAny_Constant_int ⟨.int i, H, I.tok _, ⟨_, rfl⟩, h⟩
theorem ZY {b j pos} : PE X (.Constant (.bool b) j pos) (tC (.bl b)):=fun _ _ _ H _ I h=>Constant_bool ⟨.bl b, H, I, rfl, h⟩
theorem QB {j pos} : PE X (.Constant .none j pos) (tC .non):=fun _ _ _ H _ I h=>Constant_none ⟨.non, H, I, rfl, h⟩
noncomputable def Gl (X : Cx) (x : Str) : Prop:=X.env.kindOf x = some .globalImplicit
theorem Gz {E : Value -> Shared -> Prop} {pins : List (Addr × Obj)} {s : Shared} {σ : St} {H : Hp} {x : Str} {u : Value} {pos : Pos} {Q : Value -> Shared -> Prop} (I : Inv X pins σ H s) (hg : Gl X x) (hm : X.mg x = some u) (h : Q u s)
    (hd : (x == ("__debug__" : Str)) = false:=by decide) : wpAny (model X.prog X.w) X.A (eval (.Name x pos) X.env) Q E s:=
  Calls.Name_function_global I.ok.kind hg (Calls.loadGlobal_global (by rw [I.ok.glob]; exact I.mod.glob.keeps I.bk) hm h) hd
theorem Q3 {E : Value -> Shared -> Prop} {pins : List (Addr × Obj)} {s : Shared} {σ : St} {H : Hp} {x : Str} {u : Value} {pos : Pos} {Q : Value -> Shared -> Prop} (I : Inv X pins σ H s) (hg : Gl X x) (hm : X.mg x = none) (hv : bootBuiltins x = some u) (h : Q u s)
    (hn : x ≠ "__name__":=by decide) (hd : (x == ("__debug__" : Str)) = false:=by decide) : wpAny (model X.prog X.w) X.A (eval (.Name x pos) X.env) Q E s:=by
  obtain ⟨mb, h1, h2⟩:=I.mod.blt
  exact Calls.Name_function_global I.ok.kind hg (Calls.loadGlobal_builtin (by rw [I.ok.glob]; exact I.mod.glob.keeps I.bk) hm (by rw [I.ok.blt]; exact h1.keeps I.bk) ((h2 x hn).trans hv) h) hd
theorem Cd {x : Str} {v : V} {u : Value} {pos : Pos} (hg : Gl X x) (hm : X.mg x = some u) (r : X2 v u) (hd : (x == ("__debug__" : Str)) = false:=by decide) : PE X (.Name x pos) (tC v):=
  fun _ _ _ H _ I h=>Gz I hg hm ⟨v, H, I, r, h⟩ hd
theorem Jq {x : Str} {v : V} {u : Value} {pos : Pos} (hg : Gl X x) (hm : X.mg x = none) (hv : bootBuiltins x = some u) (r : X2 v u) (hn : x ≠ "__name__":=by decide) (hd : (x == ("__debug__" : Str)) = false:=by decide) : PE X (.Name x pos) (tC v):=
  fun _ _ _ H _ I h=>Q3 I hg hm hv ⟨v, H, I, r, h⟩ hn hd
variable {a b : Expr} {ta tb : TE} {pos : Pos}
noncomputable def tB (t : TE) : TT:=fun σ H Q=>t σ H fun x H1=>∃ c, x = .bl c /\ Q c H1
theorem QD {e : Expr} {t : TE} (h : PE X e t) (he : ∀ whole, isTrue e X.env whole = (do let v ← whole; standAt e.pos; holding [v] (truthy v)):=by intro _; rfl) : PT X e (tB t):=by
  intro pins s σ H Q I hw
  refine isTrue_plain (thn (h pins s σ H _ I hw) fun v s1 ⟨x, H1, I1, r1, q1⟩=>?_) (he _)
  obtain ⟨d, rfl, q⟩:=q1
  cases r1
  exact wpAny_truthy_bool ⟨H1, I1, q⟩
variable {tA tB' : TT} {YL : List Expr}
noncomputable def Hd (t u : TT) : TT:=fun σ H Q=>t σ H fun c H1=>if c = true then u σ H1 Q else Q false H1
noncomputable def tOr (t u : TT) : TT:=fun σ H Q=>t σ H fun c H1=>if c = true then Q true H1 else u σ H1 Q
noncomputable def EW (t : TT) : TT:=fun σ H Q=>t σ H fun c H1=>Q (!c) H1
theorem Qu (ha : PT X a tA) : PW X (.BoolOp .And [a] pos) tA:=by
  intro wh pins s σ H Q I h
  refine isTrue_and (thn (ha pins s σ H Q I h) fun c s1 e=>?_)
  cases c with
  | true=>exact isTrue_and_nil e
  | false=>exact e
theorem V8 (ha : PT X a tA) : PW X (.BoolOp .Or [a] pos) tA:=by
  intro wh pins s σ H Q I h
  refine isTrue_or (thn (ha pins s σ H Q I h) fun c s1 e=>?_)
  cases c with
  | false=>exact isTrue_or_nil e
  | true=>exact e
theorem ZN (ha : PT X a tA) (hb : PW X (.BoolOp .And (b :: YL) pos) tB') : PW X (.BoolOp .And (a :: b :: YL) pos) (Hd tA tB'):=by
  intro wh pins s σ H Q I h
  refine isTrue_and (thn (ha pins s σ H _ I h) fun c s1 ⟨H1, I1, q1⟩=>?_)
  cases c with
  | true=>exact hb wh pins s1 σ H1 Q I1 q1
  | false=>exact ⟨H1, I1, q1⟩
theorem G6 (ha : PT X a tA) (hb : PW X (.BoolOp .Or (b :: YL) pos) tB') : PW X (.BoolOp .Or (a :: b :: YL) pos) (tOr tA tB'):=by
  intro wh pins s σ H Q I h
  refine isTrue_or (thn (ha pins s σ H _ I h) fun c s1 ⟨H1, I1, q1⟩=>?_)
  cases c with
  | true=>exact ⟨H1, I1, q1⟩
  | false=>exact hb wh pins s1 σ H1 Q I1 q1
theorem Qt (ha : PT X a tA) : PT X (.UnaryOp .Not a pos) (EW tA):=by
  intro pins s σ H Q I h
  exact isTrue_not (ha pins s σ H (fun c H1=>Q (!c) H1) I h)
noncomputable def B8 (ta tb : TE) : TE:=fun σ H Q=>ta σ H fun x H1=>∃ c, x = .bl c /\ if c = true then tb σ H1 Q else Q (.bl false) H1
noncomputable def BK (ta : TE) : TE:=fun σ H Q=>ta σ H fun x H1=>∃ c, x = .bl c /\ Q (.bl (!c)) H1
theorem Dx {op} {t : TE} (h : PE X a t) : PE X (.BoolOp op [a] pos) t:=fun pins s σ H Q I hw=>BoolOp_one (h pins s σ H Q I hw)
theorem Gp (ha : PE X a ta) (hb : PE X (.BoolOp .And (b :: YL) pos) tb) : PE X (.BoolOp .And (a :: b :: YL) pos) (B8 ta tb):=by
  intro pins s σ H Q I h
  refine BoolOp_and (thn (ha pins s σ H _ I h) fun v s1 ⟨x, H1, I1, r1, q1⟩=>?_)
  obtain ⟨c, rfl, q1⟩:=q1
  cases r1
  refine wpAny_truthy_bool ?_
  cases c with
  | true=>exact hb pins s1 σ H1 Q I1 q1
  | false=>exact ⟨.bl false, H1, I1, rfl, q1⟩
theorem BD (ha : PE X a ta) : PE X (.UnaryOp .Not a pos) (BK ta):=by
  intro pins s σ H Q I h
  refine UnaryOp_ (thn (ha pins s σ H _ I h) fun v s1 ⟨x, H1, I1, r1, q1⟩=>?_)
  obtain ⟨c, rfl, q1⟩:=q1
  cases r1
  exact not_of (wpAny_truthy_bool ⟨.bl (!c), H1, I1, rfl, q1⟩)
end
end L2
namespace L2
open PySem PySem.Spec PyProof.Rows
noncomputable def SqL (K : PySem.W.Frag) (H : Hp) (a : Addr) (xs : List V) : Prop:=
  Rd H a (.lst xs) ∨
    ∃ (o : Obj) (its : Array Value) (n : Nat), K.lookup a = some o /\ o.cls = .type "list" /\ o.dict = none /\ o.data = .seq its n /\ its.size <= sizeLine /\ XV xs its.toList
noncomputable def SqT (K : PySem.W.Frag) (H : Hp) (a : Addr) (xs : List V) : Prop:=
  Rd H a (.tup xs) ∨
    ∃ (o : Obj) (its : Array Value) (n : Nat), K.lookup a = some o /\ o.cls = .type "tuple" /\ o.data = .seq its n /\ its.size <= sizeLine /\ XV xs its.toList
noncomputable def HE : Value -> Option V
  | .none=>some .non
  | .bool b=>some (.bl b)
  | .int i _=>some (.int i)
  | .str x _=>some (.str x)
  | .bytes b _=>some (.byt b)
  | .float b _=>some (.flt b)
  | .ref a=>some (.ref a)
  | .type n=>some (.ty n)
  | _=>none
theorem X2.abs {x : V} {u : Value} (r : X2 x u) : HE u = some x:=by
  cases x with
  | non=>cases r; rfl
  | bl _=>cases r; rfl
  | int _=>obtain ⟨t, rfl⟩:=r; rfl
  | str _=>obtain ⟨t, rfl⟩:=r; rfl
  | byt _=>obtain ⟨t, rfl⟩:=r; rfl
  | flt _=>obtain ⟨t, rfl⟩:=r; rfl
  | ref _=>cases r; rfl
  | ty _=>cases r; rfl
theorem X2.inj {x y : V} {u : Value} (r : X2 x u) (q : X2 y u) : x = y:=Option.some.inj (r.abs.symm.trans q.abs)
theorem XV.inj : ∀ {xs ys : List V} {us : List Value}, XV xs us -> XV ys us -> xs = ys
  | _, _, _, .nil, .nil=>rfl
  | _, _, _, .cons r t, .cons r' t'=>by rw [r.inj r', XV.inj t t']
section
variable {X : Cx} {pins : List (Addr × Obj)} {σ : St} {H : Hp} {s : Shared} {a : Addr} {xs ys : List V}
theorem SqL.of {K : PySem.W.Frag} (h : H a = some (.lst xs)) : SqL K H a xs:=.inl (.inl h)
theorem SqT.of {K : PySem.W.Frag} (h : H a = some (.tup xs)) : SqT K H a xs:=.inl (.inl h)
theorem Inv.list (I : Inv X pins σ H s) (h : SqL X.K H a xs) : ∃ its : List Value, XV xs its /\ PlainL s.heap a its.toArray /\ xs.length <= sizeLine:=by
  rcases h with h | ⟨o, its, n, hk, hc, hd, hs, hz, r⟩
  . obtain ⟨z, its, n, r, e⟩ := h.ok I.hok
    exact ⟨its, r, ⟨_, n, e, rfl, rfl, rfl⟩, z⟩
  . refine ⟨its.toList, r, ⟨o, n, I.kIn a o hk, hc, hd, by simpa using hs⟩, ?_⟩
    have e:=r.length
    simp only [Array.length_toList] at e
    omega
theorem Inv.tuple (I : Inv X pins σ H s) (h : SqT X.K H a xs) : ∃ its : List Value, XV xs its /\ IsTup s.heap a its.toArray /\ xs.length <= sizeLine:=by
  rcases h with h | ⟨o, its, n, hk, hc, hs, hz, r⟩
  . obtain ⟨z, its, r, p⟩ := h.ok I.hok
    exact ⟨its, r, p, z⟩
  . refine ⟨its.toList, r, ⟨o, I.kIn a o hk, hc, n, by simpa using hs⟩, ?_⟩
    have e:=r.length
    simp only [Array.length_toList] at e
    omega
theorem Inv.list_inj (I : Inv X pins σ H s) (h : SqL X.K H a xs) (h' : SqL X.K H a ys) : xs = ys:=by
  obtain ⟨its, r, ⟨o, n, e, _, _, d⟩, _⟩:=I.list h
  obtain ⟨its', r', ⟨o', n', e', _, _, d'⟩, _⟩:=I.list h'
  rw [e] at e'; cases e'
  rw [d] at d'
  injection d' with d1 _
  have : its = its':=by simpa using congrArg Array.toList d1
  subst this
  exact r.inj r'
end
noncomputable abbrev Cx.wish (X : Cx) (E : Value -> Shared -> Prop) : Cx:={ X with xe:=E }
noncomputable abbrev Cx.nox (X : Cx) : Cx:=X.wish fun _ _=>False
theorem Cx.Ok.wish {X : Cx} (ok : X.Ok) (E : Value -> Shared -> Prop) : (X.wish E).Ok:=
  ⟨ok.mod, ok.kind, ok.glob, ok.blt, ok.above, ok.inj, ok.has, ok.cab, ok.hd, ok.frames, ok.stk, ok.exf, ok.bs, ok.bsz, ok.noex, ok.exfs, ok.funs, ok.frf⟩
theorem Cx.Ok.unwish {X : Cx} {E : Value -> Shared -> Prop} (ok : (X.wish E).Ok) : X.Ok:=
  ⟨ok.mod, ok.kind, ok.glob, ok.blt, ok.above, ok.inj, ok.has, ok.cab, ok.hd, ok.frames, ok.stk, ok.exf, ok.bs, ok.bsz, ok.noex, ok.exfs, ok.funs, ok.frf⟩
section
variable {X : Cx} {pins : List (Addr × Obj)} {σ : St} {H : Hp} {s : Shared} {E : Value -> Shared -> Prop}
theorem Inv.wish (I : Inv X pins σ H s) (E : Value -> Shared -> Prop) : Inv (X.wish E) pins σ H s:=⟨I.ok.wish E, I.os, I.bare, I.base, I.loc, I.cell, I.free, I.freeC, I.pin, I.hok, I.len⟩
theorem Inv.unwish (I : Inv (X.wish E) pins σ H s) : Inv X pins σ H s:=⟨I.ok.unwish, I.os, I.bare, I.base, I.loc, I.cell, I.free, I.freeC, I.pin, I.hok, I.len⟩
theorem SP.unwish {D : Ends} {f : Flow} {s' : Shared} (h : SP (X.wish E) pins D f s') : SP X pins D f s':=by
  cases f with
  | next=>obtain ⟨σ', H', I, q⟩:=h; exact ⟨σ', H', I.unwish, q⟩
  | brk=>obtain ⟨σ', H', I, q⟩:=h; exact ⟨σ', H', I.unwish, q⟩
  | cont=>obtain ⟨σ', H', I, q⟩:=h; exact ⟨σ', H', I.unwish, q⟩
  | ret u=>obtain ⟨v, σ', H', I, r, q⟩:=h; exact ⟨v, σ', H', I.unwish, r, q⟩
theorem PE.nox {e : Expr} {t : TE} (h : PE X.nox e t) : PE X e t:=fun pins s σ H Q I hw=>
  wpAny_mono (h pins s σ H Q (I.wish _) hw) (fun _ _ ⟨v, H', I', r, q⟩=>⟨v, H', I'.unwish, r, q⟩) fun _ _ z=>False.elim z
theorem PT.nox {e : Expr} {t : TT} (h : PT X.nox e t) : PT X e t:=fun pins s σ H Q I hw=>
  wpAny_mono (h pins s σ H Q (I.wish _) hw) (fun _ _ ⟨H', I', q⟩=>⟨H', I'.unwish, q⟩) fun _ _ z=>False.elim z
theorem PSs.nox {st : List Stmt} {t : TS} (h : PSs X.nox st t) : PSs X st t:=fun pins s σ H D I hw=>
  wpAny_mono (h pins s σ H D (I.wish _) hw) (fun _ _ q=>q.unwish) fun _ _ z=>False.elim z
end
section
variable {X : Cx} {st : Stmt} {YL : List Stmt} {t u : TS} {e : Expr} {te : TE} {pos : Pos}
noncomputable def ZX : TS:=fun D σ H=>D.nx σ H
noncomputable def ZE (t u : TS) : TS:=fun D σ H=>t { D with nx:=u D } σ H
theorem Xe : PSs X [] ZX:=fun _ _ σ H _ I h=>wpAny_execs_nil ⟨σ, H, I, h⟩
theorem Xb (h1 : PS X st t) (h2 : PSs X YL u) : PSs X (st :: YL) (ZE t u):=by
  intro pins s σ H D I h
  refine wpAny_execs_cons (thn (h1 pins s σ H { D with nx:=u D } I h) fun f s1 q=>?_)
  cases f with
  | next=>
    obtain ⟨σ', H', I', q⟩:=q
    exact h2 pins s1 σ' H' D I' q
  | ret v=>exact q
  | brk=>exact q
  | cont=>exact q
theorem Inv.quiet {pins : List (Addr × Obj)} {σ : St} {H : Hp} {s : Shared} (I : Inv X pins σ H s) : interactive X.env = false:=by simp [interactive, I.ok.kind]
noncomputable def VA (te : TE) : TS:=fun D σ H=>te σ H fun _ H1=>D.nx σ H1
theorem YX (he : PE X e te) (hs : swapsWith e none pos.line X.env = pure false:=by rfl) : PS X (.Expr e pos) (VA te):=by
  intro pins s σ H D I h
  exact wpAny_Expr_any (thn (he pins s σ H _ I h) fun v s1 ⟨x, H1, I1, r1, q1⟩=>⟨σ, H1, I1, q1⟩) I.quiet hs
noncomputable def Bj (te : TE) : TS:=fun D σ H=>te σ H D.rt
theorem Xr (he : PE X e te) : PS X (.Return (some e) pos) (Bj te):=by
  intro pins s σ H D I h
  exact wpAny_Return_some (thn (he pins s σ H _ I h) fun v s1 ⟨x, H1, I1, r1, q1⟩=>⟨x, σ, H1, I1, r1, q1⟩)
noncomputable def Cb (c : TT) (t u : TS) : TS:=fun D σ H=>c σ H fun b H1=>if b = true then t D σ H1 else u D σ H1
theorem Ym {c : Expr} {a b : List Stmt} {tc : TT} (hc : PT X c tc) (ha : PSs X a t) (hb : PSs X b u) : PS X (.If c a b pos) (Cb tc t u):=by
  intro pins s σ H D I h
  refine wpAny_If (thn (hc pins s σ H _ I h) fun d s1 ⟨H1, I1, q1⟩=>?_)
  cases d with
  | true=>exact ha pins s1 σ H1 D I1 q1
  | false=>exact hb pins s1 σ H1 D I1 q1
noncomputable def Eh : TS:=fun _ _ _=>False
theorem FV : PS X st Eh:=fun _ _ _ _ _ _ h=>h.elim
end
noncomputable abbrev TG:=V -> St -> Hp -> (St -> Hp -> Prop) -> Prop
noncomputable abbrev TGs:=List V -> St -> Hp -> (St -> Hp -> Prop) -> Prop
noncomputable def PG (X : Cx) (target : Expr) (t : TG) : Prop:=
  ∀ (pins : List (Addr × Obj)) (s : Shared) (σ : St) (H : Hp) (v : V) (u : Value) (Q : St -> Hp -> Prop), Inv X pins σ H s -> X2 v u -> t v σ H Q ->
    wpAny (model X.prog X.w) X.A (assign target X.env u) (fun _ s'=>∃ σ' H', Inv X pins σ' H' s' /\ Q σ' H') X.xe s
noncomputable def PGs (X : Cx) (ts : List Expr) (t : TGs) : Prop:=
  ∀ (pins : List (Addr × Obj)) (s : Shared) (σ : St) (H : Hp) (vs : List V) (us : List Value) (Q : St -> Hp -> Prop), Inv X pins σ H s -> XV vs us -> t vs σ H Q ->
    wpAny (model X.prog X.w) X.A (assignInOrder ((assignEach ts X.env).map (·.2)) us) (fun _ s'=>∃ σ' H', Inv X pins σ' H' s' /\ Q σ' H') X.xe s
noncomputable abbrev EV:=V -> V -> V -> Hp -> (Hp -> Prop) -> Prop
noncomputable def Hr (X : Cx) (t : EV) : Prop:=
  ∀ (pins : List (Addr × Obj)) (s : Shared) (σ : St) (H : Hp) (o i v : V) (ov iv u : Value) (Q : Hp -> Prop), Inv X pins σ H s -> X2 o ov -> X2 i iv -> X2 v u -> t o i v H Q ->
    wpAny (model X.prog X.w) X.A (setItem ov iv u) (fun _ s'=>∃ H', Inv X pins σ H' s' /\ Q H') X.xe s
section
variable {X : Cx} {pos : Pos}
noncomputable def ZW (i : Nat) : TG:=fun v σ H Q=>Q (σ.set i (some v)) H
theorem Xn {i : Nat} {x : Str} (hN : X.N.Nodup) (hi : X.N[i]? = some x) (hx : Loc X.env.scope x) (hf : X.fn x = true ∨ X.env.scope.names.lookup x = some .local:=by first | exact .inl rfl | exact .inr rfl | assumption) : PG X (.Name x pos) (ZW i):=by
  intro pins s σ H v u Q I r h
  exact wpAny_assign_Name (QL I hN hi hx r (fun s' I'=>⟨_, H, I', h⟩) hf)
noncomputable def Hc : TGs:=fun vs σ H Q=>vs = [] /\ Q σ H
noncomputable def Bc (t : TG) (u : TGs) : TGs:=fun vs σ H Q=>∃ v r, vs = v :: r /\ t v σ H fun σ' H'=>u r σ' H' Q
theorem J4 : PGs X [] Hc:=by
  intro pins s σ H vs us Q I r h
  obtain ⟨e, h⟩:=h
  subst e
  cases r
  exact assignInOrder_nil ⟨σ, H, I, h⟩
theorem Zd {e : Expr} {es : List Expr} {t : TG} {u : TGs} (h1 : PG X e t) (h2 : PGs X es u)
    (hs : (assignEach (e :: es) X.env).map (·.2) = assign e X.env :: (assignEach es X.env).map (·.2):=by rfl) : PGs X (e :: es) (Bc t u):=by
  intro pins s σ H vs us Q I r h
  obtain ⟨v, vr, e1, h⟩:=h
  subst e1
  cases r with
  | cons r rr=>
    rw [hs]
    refine assignInOrder_cons (thn (h1 pins s σ H _ _ _ I r h) fun _ s1 ⟨σ1, H1, I1, q1⟩=>?_)
    exact h2 pins s1 σ1 H1 _ _ Q I1 rr q1
noncomputable def Hj (K : PySem.W.Frag) (n : Nat) (t : TGs) : TG:=fun v σ H Q=>∃ a xs, v = .ref a /\ SqT K H a xs /\ xs.length = n /\ t xs σ H Q
theorem U5 {es : List Expr} {k : Nat} {t : TGs} {n : Nat} (hc : X.calm = true) (h : PGs X es t)
    (hn : (assignEach es X.env).length = n:=by rfl) (hst : (assignEach es X.env).findIdx? (·.1) = none:=by rfl) : PG X (.Tuple es k pos) (Hj X.K n t):=by
  intro pins s σ H v u Q I r hw
  obtain ⟨a, xs, e1, hq, hl, hw⟩:=hw
  subst e1
  cases r
  obtain ⟨its, rv, ht, hz⟩:=I.tuple hq
  refine assign_Tuple_tuple (I.ok.hd hc) ht (by simp [hn, ← hl, rv.length]) hst fun h' hx=>?_
  have I1 : Inv X pins σ H { s with heap:=h' }:=I.kept (t':=s.toks) fun b o e=>hx b o (Nat.ne_of_lt (Heap.lt_size e)) e
  exact h pins _ σ H xs _ Q I1 (by simpa using rv) hw
noncomputable def Hl (to ti : TE) (t : EV) : TG:=fun v σ H Q=>to σ H fun o H1=>ti σ H1 fun i H2=>t o i v H2 fun H3=>Q σ H3
theorem BO {o i : Expr} {to ti : TE} {t : EV} (ho : PE X o to) (hi : PE X i ti) (hs : Hr X t)
    (ha : ∀ v, assign (.Subscript o i pos) X.env v = (do
      let ov ← holding [v] (eval o X.env)
      let iv ← holding [v, ov] (eval i X.env)
      standAt pos
      holding [v, ov, iv] (setItem ov iv v)
      release [v, ov, iv] []):=by intro _; rfl) : PG X (.Subscript o i pos) (Hl to ti t):=by
  intro pins s σ H v u Q I r h
  rw [ha]
  refine wpAny_bind (wpAny_holding (thn (ho pins s σ H _ I h) fun ov s1 ⟨x, H1, I1, r1, q1⟩=>?_))
  refine wpAny_bind (wpAny_holding (thn (hi pins s1 σ H1 _ I1 q1) fun iv s2 ⟨y, H2, I2, r2, q2⟩=>?_))
  refine wpAny_bind (wpAny_standAt (wpAny_bind (wpAny_holding (thn (hs pins s2 σ H2 x y v ov iv u _ I2 r1 r2 r q2) fun _ s3 ⟨H3, I3, q3⟩=>?_))))
  exact wpAny_release ⟨σ, H3, I3, q3⟩
noncomputable def Bh (te : TE) (g : TG) : TS:=fun D σ H=>te σ H fun x H1=>g x σ H1 D.nx
theorem Bs {tg e : Expr} {te : TE} {g : TG} (he : PE X e te) (hg : PG X tg g) (hs : swapsWithSole [tg] e pos.line X.env = pure false:=by rfl) (hw : swappedStores [tg] e X.env = pure none:=by rfl)
    (h1 : (assignEach [tg] X.env).map (·.2) = [assign tg X.env]:=by rfl) : PS X (.Assign [tg] e pos) (Bh te g):=by
  intro pins s σ H D I h
  refine wpAny_Assign_stores (thn (he pins s σ H _ I h) fun v s1 ⟨x, H1, I1, r1, q1⟩=>?_) hs hw
  rw [h1]
  exact thn (hg pins s1 σ H1 x v _ I1 r1 q1) fun _ s2 q=>q
theorem XI {i : Nat} {x : Str} {e : Expr} {te : TE} {pos' : Pos} (hN : X.N.Nodup) (hi : X.N[i]? = some x) (hx : Loc X.env.scope x) (he : PE X e te) (hs : swapsWith e (some (.Name x pos')) pos.line X.env = pure false:=by rfl) (hf : X.fn x = true ∨ X.env.scope.names.lookup x = some .local:=by first | exact .inl rfl | exact .inr rfl | assumption) :
    PS X (.Assign [.Name x pos'] e pos) (Bh te (ZW i)):=by
  intro pins s σ H D I h
  refine wpAny_Assign_Name (thn (he pins s σ H _ I h) fun v s1 ⟨y, H1, I1, r1, q1⟩=>?_) hs
  exact QL I1 hN hi hx r1 (fun s2 I2=>⟨_, H1, I2, q1⟩) hf
noncomputable def Hn (i j : Nat) (ta : TA) : TS:=fun D σ H=>ta σ H fun vs H1=>∃ v w, vs = [v, w] /\ D.nx ((σ.set i (some v)).set j (some w)) H1
theorem Dt {i j : Nat} {x y : Str} {a b : Expr} {ta : TA} {px py pt : Pos} {kt k2 pt2} (hc : X.calm = true) (hN : X.N.Nodup) (hi : X.N[i]? = some x) (hj : X.N[j]? = some y) (hij : i ≠ j)
    (hx : X.env.scope.names.lookup x = some .local) (hy : X.env.scope.names.lookup y = some .local) (ha : PA X [a, b] ta)
    (hw : swappedStores [.Tuple [.Name x px, .Name y py] kt pt] (.Tuple [a, b] k2 pt2) X.env = pure (some [x, y]))
    (hs : swapsWithSole [.Tuple [.Name x px, .Name y py] kt pt] (.Tuple [a, b] k2 pt2) pos.line X.env = pure false:=by rfl) :
    PS X (.Assign [.Tuple [.Name x px, .Name y py] kt pt] (.Tuple [a, b] k2 pt2) pos) (Hn i j ta):=by
  intro pins s σ H D I h
  rw [exec_Assign_arm]
  refine wpAny_bind (wpAny_standAt ?_)
  rw [hs]
  refine wpAny_bind (wpAny_pure ?_)
  rw [if_neg (by decide)]
  refine wpAny_bind (Tuple_ (thn (ha _ pins s σ H _ I h) fun us s1 ⟨vs, H1, I1, r1, q1⟩=>?_))
  obtain ⟨v, w, e1, q1⟩:=q1
  subst e1
  obtain ⟨u1, u2, rfl, rv, rw'⟩ : ∃ u1 u2, us = [u1, u2] /\ X2 v u1 /\ X2 w u2:=by
    cases r1 with
    | cons p q=>
      cases q with
      | cons p' q'=>
        cases q'
        exact ⟨_, _, rfl, p, p'⟩
  refine wpAny_newObj_type ?_ (by show 2 <= sizeLine; decide)
  have I2 : Inv X pins σ H1 { s1 with heap:=s1.heap.push { cls:=.type "tuple", data:=.seq [u1, u2].toArray } }:=I1.kept (t':=s1.toks) fun b o e=>Heap.get?_push_of_some _ e
  rw [hw]
  refine wpAny_bind (wpAny_pure ?_)
  show wpAny (model X.prog X.w) X.A (do rule "assign.swapped-stores"; let items ← unpackItems (.ref s1.heap.objs.size) 2 none; assignInOrder [fun v=>bindName X.env y v, fun v=>bindName X.env x v] items.reverse; pure Flow.next) _ _ _
  refine wpAny_bind (wpAny_rule (wpAny_bind (unpackItems_tuple (items:=#[u1, u2]) (I.ok.hd hc) (IsTup.new s1.heap _) fun h' hx'=>?_)))
  have I3:=I2.kept (h':=h') (t':=s1.toks) fun b o e=>hx' b o (Nat.ne_of_lt (Heap.lt_size e)) e
  show wpAny _ _ (assignInOrder [fun v=>bindName X.env y v, fun v=>bindName X.env x v] [u2, u1] >>= fun _=>pure Flow.next) _ _ _
  refine wpAny_bind (assignInOrder_cons (wpAny_bindName (QL I3 hN hj (.inl hy) rw' (fun s2 I4=>?_) (.inr hy))))
  refine assignInOrder_cons (wpAny_bindName (QL I4 hN hi (.inl hx) rv (fun s3 I5=>assignInOrder_nil (wpAny_pure ?_)) (.inr hx)))
  rw [List.set_comm _ _ (Ne.symm hij)] at I5
  exact ⟨_, H1, I5, q1⟩
end
section
variable {X : Cx} {pos : Pos}
noncomputable def DK (c : TT) (tb : TS) : TS:=fun D σ H=>∃ W : Nat -> St -> Hp -> Prop, (∃ m, W m σ H) /\ ∀ m σ H, W m σ H ->
  c σ H fun b H1=>if b = true then ∃ N : St -> Hp -> Prop, (∀ σ' H', N σ' H' -> ∃ m', m' < m /\ W m' σ' H') /\ tb { D with nx:=N, ct:=N, bk:=D.nx } σ H1 else D.nx σ H1
theorem Kd {c : Expr} {body : List Stmt} {tc : TT} {tb : TS} (hp : PassesOwn (model X.prog X.w) X.A X.env X.xe) (hc : PT X c tc) (hb : PSs X body tb) : PS X (.While c body [] pos) (DK tc tb):=by
  intro pins s σ H D I h
  obtain ⟨W, ⟨m0, w0⟩, turn⟩:=h
  refine wpAny_While (codeAny_whileLoop (fun n s'=>∃ σ' H', Inv X pins σ' H' s' /\ W n σ' H') ?_ m0 ⟨σ, H, I, w0⟩)
  rintro n s1 ⟨σ1, H1, I1, w1⟩
  refine wpAny_passesOwn hp (thn (hc pins s1 σ1 H1 _ I1 (turn n σ1 H1 w1)) fun b s2 ⟨H2, I2, q2⟩=>?_)
  cases b with
  | true=>
    obtain ⟨N, hN, q2⟩:=q2
    rw [if_pos rfl]
    refine wpAny_passesOwn hp (thn (hb pins s2 σ1 H2 _ I2 q2) fun f s3 q3=>?_)
    cases f with
    | next=>
      obtain ⟨σ3, H3, I3, n3⟩:=q3
      obtain ⟨m', hm, w3⟩:=hN σ3 H3 n3
      exact ⟨m', hm, σ3, H3, I3, w3⟩
    | cont=>
      obtain ⟨σ3, H3, I3, n3⟩:=q3
      obtain ⟨m', hm, w3⟩:=hN σ3 H3 n3
      exact ⟨m', hm, σ3, H3, I3, w3⟩
    | brk=>exact q3
    | ret v=>exact q3
  | false=>
    rw [if_neg Bool.false_ne_true]
    exact wpAny_execs_nil ⟨σ1, H2, I2, q2⟩
end
structure It where
  go : Nat -> Hp -> Prop
  yld : Nat -> Hp -> V -> Hp -> Prop
  stop : Nat -> Hp -> Prop
noncomputable def UC (X : Cx) (pins : List (Addr × Obj)) (H : Hp) (b : Addr) : Prop:=
  H b = none /\ b ≠ X.env.locals /\ b ∉ X.fs /\ (b ∈ X.ex ∨ X.s₀.heap.objs.size <= b) /\ (∀ x c, X.env.cells.lookup x = some c -> c ≠ b) /\ ∀ p ∈ X.pn ++ pins, p.1 ≠ b
theorem Inv.fpOk {X : Cx} {pins : List (Addr × Obj)} {σ : St} {H H' : Hp} {s : Shared} {b : Addr} (I : Inv X pins σ H s) (hb : s.heap.objs.size <= b) (hn : H' b = none) : UC X pins H' b:=by
  refine ⟨hn, Nat.ne_of_gt (Nat.lt_of_lt_of_le I.lt hb), I.nofs hb, .inr (Nat.le_trans I.sz hb), fun x c e z=>?_, fun p hp z=>?_⟩
  . obtain ⟨v, q⟩ := I.cell x c e
    exact absurd (Nat.lt_of_lt_of_le q.lt (by rw [z]; exact hb)) (Nat.lt_irrefl _)
  . exact absurd (Nat.lt_of_lt_of_le (Heap.lt_size (I.pin p hp).1) (by rw [z]; exact hb)) (Nat.lt_irrefl _)
structure Turn (P : Program) (w : World) (K : PySem.W.Frag) (tg : Expr) (J : It) (fp : List Addr) (it : Addr) (tn : Nat -> Heap -> Prop) : Prop where
  mem : it ∈ fp
  obj : ∀ i h, tn i h -> ∀ b ∈ fp, ∃ o, h.get? b = some o /\ ∀ v, o.data ≠ .cell v
  keep : ∀ i h h', tn i h -> (∀ b ∈ fp, ∀ o, h.get? b = some o -> h'.get? b = some o) -> tn i h'
  item : ∀ (X : Cx), X.prog = P -> X.w = w -> X.K = K -> X.calm = true -> ∀ (i : Nat) (pins : List (Addr × Obj)) (s : Shared) (σ : St) (H : Hp) (E : Value -> Shared -> Prop), Inv X pins σ H s -> (∀ b ∈ fp, UC X pins H b) -> tn i s.heap -> J.go i H ->
    wpAny (model P w) X.A (pyNext (.ref it)) (fun r s1=>∃ u, r = some u /\
      wpAny (model P w) X.A (letOwnedTupleGo tg (.ref it) u) (fun _ s2=>∃ x H', Inv X pins σ H' s2 /\ X2 x u /\ J.yld i H x H' /\ tn (i + 1) s2.heap /\ ∀ b ∈ fp, H' b = none) E s1) E s
  done : ∀ (X : Cx), X.prog = P -> X.w = w -> X.K = K -> X.calm = true -> ∀ (i : Nat) (pins : List (Addr × Obj)) (s : Shared) (σ : St) (H : Hp) (E : Value -> Shared -> Prop), Inv X pins σ H s -> (∀ b ∈ fp, UC X pins H b) -> tn i s.heap -> J.stop i H ->
    wpAny (model P w) X.A (pyNext (.ref it)) (fun r s1=>r = none /\ Inv X pins σ H s1) E s
  self : ∀ (A : Around) (i : Nat) (s : Shared) (Q : Value -> Shared -> Prop) (E : Value -> Shared -> Prop), tn i s.heap -> Q (.ref it) s -> wpAny (model P w) A (pyIter (.ref it)) Q E s
noncomputable abbrev TI:=St -> Hp -> (It -> Hp -> Prop) -> Prop
noncomputable def PIE (X : Cx) (pins : List (Addr × Obj)) (σ : St) (tg : Expr) (R : It -> Hp -> Prop) (itv : Value) (s2 : Shared) : Prop:=
  ∃ (it : Addr) (fp : List Addr) (tn : Nat -> Heap -> Prop) (J : It) (H' : Hp), itv = .ref it /\ Inv X pins σ H' s2 /\ Turn X.prog X.w X.K tg J fp it tn /\ tn 0 s2.heap /\ (∀ b ∈ fp, UC X pins H' b) /\ R J H'
noncomputable def PI (X : Cx) (tg iter : Expr) (wi : TI) : Prop:=
  ∀ (pins : List (Addr × Obj)) (s : Shared) (σ : St) (H : Hp) (R : It -> Hp -> Prop), Inv X pins σ H s -> wi σ H R ->
    wpAny (model X.prog X.w) X.A (eval iter X.env) (fun v s1=>wpAny (model X.prog X.w) X.A (pyIter v) (PIE X pins σ tg R) X.xe s1) X.xe s
theorem Ef {M : Model} {A : Around} {E : Value -> Shared -> Prop} {s : Shared} {tg : Expr} {it : Addr} {u : Value} {o : Obj} {n : String} {vs : Array Value} {Q : Unit -> Shared -> Prop} (ho : s.heap.get? it = some o) (hc : o.cls = .type n) (hd : o.data = .fields vs)
    (hn : ["enumerate", "zip", "dict_itemiterator", "dict_reverseitemiterator", "odict_iterator", "itertools.zip_longest", "itertools.pairwise"].contains n = false) (hQ : Q () s) : wpAny M A (letOwnedTupleGo tg (.ref it) u) Q E s:=by
  unfold letOwnedTupleGo
  cases tg <;> first
    | exact wpAny_pure hQ
    | (cases u <;> first
        | exact wpAny_pure hQ
        | (refine wpAny_bind (wpAny_load ho ?_)
           rw [hc, hd]
           show wpAny M A (if (["enumerate", "zip", "dict_itemiterator", "dict_reverseitemiterator", "odict_iterator", "itertools.zip_longest", "itertools.pairwise"].contains n && vs[0]? == some (rawInt _)) = true then _ else _) Q E s
           rw [if_neg (by intro h; rw [hn, Bool.false_and] at h; cases h)]
           exact wpAny_pure hQ))
noncomputable def Itl (K : PySem.W.Frag) (a : Addr) : It:=
  ⟨fun i H=>∃ xs x, SqL K H a xs /\ xs[i]? = some x, fun i H x H'=>H' = H /\ ∀ xs, SqL K H a xs -> xs[i]? = some x, fun i H=>∃ xs, SqL K H a xs /\ xs.length <= i⟩
noncomputable def Itr (lo : Int) (n : Nat) : It:=⟨fun i _=>i < n, fun i H x H'=>H' = H /\ x = .int (lo + i), fun i _=>n <= i⟩
theorem K2 {P : Program} {w : World} {K : PySem.W.Frag} {tg : Expr} (a it : Addr) : Turn P w K tg (Itl K a) [it] it (fun i h=>h.IsListIter it a i) where
  mem:=by simp
  obj:=fun i h st b hb=>by
    have e : b = it:=by simpa using hb
    subst e
    obtain ⟨o, e, c, d⟩:=st
    exact ⟨o, e, fun v z=>by rw [d] at z; cases z⟩
  keep:=fun i h h' st k=>st.at fun o e=>k it (by simp) o e
  item:=by
    intro X hP hw hK hc i pins s σ H E I hf st hg
    subst hP hw hK
    obtain ⟨xs, x, hq, hx⟩:=hg
    obtain ⟨its, rv, p, hz⟩:=I.list hq
    obtain ⟨u, hu, ru⟩:=rv.get hx
    obtain ⟨f0, f1, f2, f3, f4, f5⟩:=hf it (by simp)
    refine wpAny_pyNext_list_item st p.isList (x:=u) (by simpa using hu) fun h' st' sb=>?_
    have I1 : Inv X pins σ H { s with heap:=h' }:=I.turned (t':=s.toks) (fun b o hb e=>(sb.2 b hb).trans e) f0 f1 f3 f4 f5
    obtain ⟨o, e, c, d⟩:=id st'
    exact ⟨u, rfl, Ef (s:={ s with heap:=h' }) e c d (by decide) ⟨x, H, I1, ru, ⟨rfl, fun ys hy=>by rw [I.list_inj hy hq]; exact hx⟩, st', fun b hb=>(hf b hb).1⟩⟩
  done:=by
    intro X hP hw hK hc i pins s σ H E I hf st hg
    subst hP hw hK
    obtain ⟨xs, hq, hx⟩:=hg
    obtain ⟨its, rv, p, hz⟩:=I.list hq
    obtain ⟨f0, f1, f2, f3, f4, f5⟩:=hf it (by simp)
    have hl:=rv.length
    exact wpAny_pyNext_list_end (I.ok.hd hc) st p.isList (by simp; omega) fun h' eb=>⟨rfl, I.turned (t':=s.toks) (fun b o hb e=>eb b o hb e) f0 f1 f3 f4 f5⟩
  self:=fun _ _ _ _ _ st h=>wpAny_pyIter_listiter st h
theorem KA {P : Program} {w : World} {K : PySem.W.Frag} {tg : Expr} (it : Addr) (lo : Int) (n : Nat) : Turn P w K tg (Itr lo n) [it] it (fun i h=>IsRangeIter h it (lo + (i : Nat) * 1) ((n : Int) - (i : Nat)) 1) where
  mem:=by simp
  obj:=fun i h st b hb=>by
    have e : b = it:=by simpa using hb
    subst e
    exact ⟨_, st, fun v z=>by
      have z' : Data.fields _ = Data.cell v:=z
      cases z'⟩
  keep:=fun i h h' st k=>k it (by simp) _ st
  item:=by
    intro X hP hw hK hc i pins s σ H E I hf st hg
    subst hP hw hK
    obtain ⟨f0, f1, f2, f3, f4, f5⟩:=hf it (by simp)
    have W:=Walks.range (prog:=X.prog) (w:=X.w) (I.ok.hd hc) it lo 1 n
    refine W.item i s _ _ hg st fun v h' tk hv st' kk=>?_
    obtain ⟨t, rfl⟩:=hv
    have I1 : Inv X pins σ H { s with heap:=h', toks:=tk }:=I.turned (fun b o hb e=>kk b o (by simpa using hb) e) f0 f1 f3 f4 f5
    refine ⟨_, rfl, Ef (s:={ s with heap:=h', toks:=tk }) (n:="range_iterator") st' rfl rfl (by decide) ⟨.int (lo + i), H, I1, ⟨t, ?_⟩, ⟨rfl, rfl⟩, st', fun b hb=>(hf b hb).1⟩⟩
    rw [Int.mul_one]
  done:=by
    intro X hP hw hK hc i pins s σ H E I hf st hg
    subst hP hw hK
    obtain ⟨f0, f1, f2, f3, f4, f5⟩:=hf it (by simp)
    exact wpAny_pyNext_range_end (I.ok.hd hc) st (by have : n <= i:=hg; omega) fun h' eb=>⟨rfl, I.turned (t':=s.toks) (fun b o hb e=>eb b o hb e) f0 f1 f3 f4 f5⟩
  self:=fun _ _ _ _ _ st h=>wpAny_pyIter_rangeiter st h
end L2
namespace L2
open PySem PySem.Spec PyProof.Rows
section
variable {X : Cx} {tg : Expr}
noncomputable def J9 (K : PySem.W.Frag) (tl : TE) : TI:=fun σ H R=>tl σ H fun x H1=>∃ a, x = .ref a /\ (∃ xs, SqL K H1 a xs) /\ R (Itl K a) H1
theorem Cm {l : Expr} {tl : TE} (hl : PE X l tl) : PI X tg l (J9 X.K tl):=by
  intro pins s σ H R I h
  refine thn (hl pins s σ H _ I h) fun v s1 ⟨x, H1, I1, r1, q1⟩=>?_
  obtain ⟨a, e, ⟨xs, hq⟩, q⟩:=q1
  subst e
  cases r1
  obtain ⟨its, rv, p, hz⟩:=I1.list hq
  refine wpAny_pyIter_list p.isList ?_
  refine ⟨s1.heap.objs.size, [s1.heap.objs.size], _, _, H1, rfl, I1.kept (t':=s1.toks) fun b o e=>Heap.get?_push_of_some _ e, K2 a _, ⟨_, Heap.get?_push_size _ rfl, rfl, rfl⟩, fun b hb=>?_, q⟩
  have e : b = s1.heap.objs.size:=by simpa using hb
  subst e
  exact I1.fpOk (Nat.le_refl _) (I1.hok.fresh (Nat.le_refl _))
theorem FK {pins : List (Addr × Obj)} {σ : St} {H : Hp} {s : Shared} {R : It -> Hp -> Prop} {E : Value -> Shared -> Prop} {lo hi : Int} {t u v : Tok} {tk : Nat} (I : Inv X pins σ H s) (h1 : -(2 ^ 62) <= lo) (h2 : lo < 2 ^ 62) (h3 : -(2 ^ 62) <= hi) (h4 : hi < 2 ^ 62)
    (q : R (Itr lo (hi - lo).toNat) H) : wpAny (model X.prog X.w) X.A (pyIter (.ref s.heap.objs.size)) (PIE X pins σ tg R) E { s with heap:=s.heap.push { cls:=.type "range", data:=.fields #[.int lo t, .int hi u, .int 1 v] }, toks:=tk }:=by
  refine wpAny_pyIter_range (IsRange.new ..) (small_one h1 h2 h3 h4) ?_
  have I1 : Inv X pins σ H { s with heap:=s.heap.push { cls:=.type "range", data:=.fields #[.int lo t, .int hi u, .int 1 v] }, toks:=tk }:=I.kept fun b o e=>Heap.get?_push_of_some _ e
  refine ⟨(s.heap.push { cls:=.type "range", data:=.fields #[.int lo t, .int hi u, .int 1 v] }).objs.size, [(s.heap.push { cls:=.type "range", data:=.fields #[.int lo t, .int hi u, .int 1 v] }).objs.size], _, _, H, rfl,
    I1.kept (t':=tk) fun b o e=>Heap.get?_push_of_some _ e, KA _ lo (hi - lo).toNat, ?_, fun b hb=>?_, q⟩
  . have e1 : lo + ((0 : Nat) : Int) * 1 = lo := by simp
    have e2 : (((hi - lo).toNat : Nat) : Int) - ((0 : Nat) : Int) = Builtin.Range.rangeSize lo hi 1:=by rw [rangeSize_one]; split <;> omega
    show IsRangeIter _ _ (lo + ((0 : Nat) : Int) * 1) ((((hi - lo).toNat : Nat) : Int) - ((0 : Nat) : Int)) 1
    rw [e1, e2]
    exact Heap.get?_push_size _ rfl
  . have e : b = (s.heap.push { cls := .type "range", data := .fields #[.int lo t, .int hi u, .int 1 v] }).objs.size := by simpa using hb
    subst e
    exact I1.fpOk (Nat.le_refl _) (I1.hok.fresh (Nat.le_refl _))
noncomputable def BY (ta : TA) : TI:=fun σ H R=>ta σ H fun vs H1=>∃ j : Int, vs = [.int j] /\ -(2 ^ 62) <= j /\ j < 2 ^ 62 /\ R (Itr 0 j.toNat) H1
theorem XD {a : Expr} {ta : TA} {p pos : Pos} (hg : Gl X "range") (hm : X.mg "range" = none) (ha : PA X [a] ta) (hs : starEach [a] X.env = [(false, eval a X.env)]:=by rfl) : PI X tg (.Call (.Name "range" p) [a] [] pos) (BY ta):=by
  intro pins s σ H R I h
  refine Call_ (Q3 I hg hm boot_range (PyProof.Rows.callWith_type1 (thn (ha pos pins s σ H _ I h) fun us s1 ⟨vs, H1, I1, r1, q1⟩=>?_) hs rfl))
  obtain ⟨j, e, q1, q2, q⟩:=q1
  subst e
  cases r1 with
  | cons r rr=>
    cases rr
    obtain ⟨t, rfl⟩:=r
    exact call_range_1 (FK I1 (by omega) (by omega) q1 q2 (by simpa using q))
noncomputable def De (wi : TI) (g : TG) (tb : TS) : TS:=fun D σ H=>wi σ H fun J H1=>∃ W : Nat -> Nat -> St -> Hp -> Prop, (∃ m, W 0 m σ H1) /\ ∀ i m σ H, W i m σ H ->
  (J.stop i H /\ D.nx σ H) ∨ (J.go i H /\ ∃ N : St -> Hp -> Prop, (∀ σ' H', N σ' H' -> ∃ m', m' < m /\ W (i + 1) m' σ' H') /\ ∀ x H', J.yld i H x H' -> g x σ H' fun σ2 H2=>tb { D with nx:=N, ct:=N, bk:=D.nx } σ2 H2)
noncomputable def VN (fp : List Addr) (h : Heap) : List (Addr × Obj):=fp.filterMap fun b=>(h.get? b).map fun o=>(b, o)
theorem Qz {fp : List Addr} {h : Heap} {b : Addr} {o : Obj} (hb : b ∈ fp) (e : h.get? b = some o) : (b, o) ∈ VN fp h:=List.mem_filterMap.mpr ⟨b, hb, by rw [e]; rfl⟩
theorem GO {fp : List Addr} {h : Heap} {p : Addr × Obj} (hp : p ∈ VN fp h) : p.1 ∈ fp /\ h.get? p.1 = some p.2:=by
  obtain ⟨b, hb, e⟩:=List.mem_filterMap.mp hp
  cases q : h.get? b with
  | none=>rw [q] at e; cases e
  | some o=>
    rw [q] at e
    have e' : (b, o) = p:=Option.some.inj e
    subst e'
    exact ⟨hb, q⟩
theorem Inv.pinned {pins : List (Addr × Obj)} {σ : St} {H : Hp} {s : Shared} {fp : List Addr} (I : Inv X pins σ H s) (hf : ∀ b ∈ fp, UC X pins H b) (ho : ∀ b ∈ fp, ∃ o, s.heap.get? b = some o /\ ∀ v, o.data ≠ .cell v) : Inv X (pins ++ VN fp s.heap) σ H s:=
  I.pins_of fun p hp=>(List.mem_append.mp hp).elim (fun z=>I.pin p (List.mem_append_right _ z)) fun z=>by
    obtain ⟨hb, e⟩:=GO z
    obtain ⟨f0, f1, f2, _⟩:=hf p.1 hb
    obtain ⟨o, e', d⟩:=ho p.1 hb
    rw [e] at e'; cases e'
    exact ⟨e, f0, f1, f2, d⟩
theorem Inv.unpinned {pins pl : List (Addr × Obj)} {σ : St} {H : Hp} {s : Shared} (I : Inv X (pins ++ pl) σ H s) : Inv X pins σ H s:=I.pins_of fun p hp=>I.pin p (List.mem_append_right _ (List.mem_append_left _ hp))
theorem XT {iter : Expr} {body : List Stmt} {wi : TI} {g : TG} {tb : TS} {pos : Pos} (hp : PassesOwn (model X.prog X.w) X.A X.env X.xe) (hc : X.calm = true) (hi : PI X tg iter wi) (hg : PG X tg g) (hb : PSs X body tb)
    (hs : ∀ x, foldedSetIterable iter X.env x = pure x:=by intro _; rfl) : PS X (.For tg iter body [] pos) (De wi g tb):=by
  intro pins s σ H D I h
  refine wpAny_For (thn (hi pins s σ H _ I h) fun v s1 h1=>thn h1 fun itv s2 h2=>?_) hs
  obtain ⟨it, fp, tn, J, H2, e, I2, T, st2, f2, W, ⟨m0, w0⟩, turn⟩:=h2
  subst e
  -- what stays true of the iterator's objects through the loop
  have stat : ∀ {H' : Hp}, (∀ b ∈ fp, H' b = none) -> ∀ b ∈ fp, UC X pins H' b:=fun hn b hb=>⟨hn b hb, (f2 b hb).2⟩
  refine codeAny_forLoop_any (fun n s'=>∃ i σ' H', Inv X pins σ' H' s' /\ tn i s'.heap /\ (∀ b ∈ fp, H' b = none) /\ W i n σ' H') ?_ m0 ⟨0, σ, H2, I2, st2, fun b hb=>(f2 b hb).1, w0⟩
  rintro n s3 ⟨i, σ3, H3, I3, st3, fr3, w3⟩
  rcases turn i n σ3 H3 w3 with ⟨stop, qn⟩ | ⟨go, N, hN, step⟩
  . refine wpAny_passesOwn hp (thn (T.done X rfl rfl rfl hc i pins s3 σ3 H3 X.xe I3 (stat fr3) st3 stop) fun r s4 ⟨hr, I4⟩ => ?_)
    subst hr
    exact wpAny_execs_nil ⟨σ3, H3, I4, qn⟩
  . refine wpAny_passesOwn hp (thn (T.item X rfl rfl rfl hc i pins s3 σ3 H3 X.xe I3 (stat fr3) st3 go) fun r s4 ⟨u, hr, h4⟩ => ?_)
    subst hr
    refine wpAny_passesOwn hp (thn h4 fun _ s5 ⟨x, H5, I5, r5, y5, st5, fr5⟩=>?_)
    have I5':=I5.pinned (stat fr5) (T.obj _ _ st5)
    refine wpAny_passesOwn hp (thn (hg _ s5 σ3 H5 x u _ I5' r5 (step x H5 y5)) fun _ s6 ⟨σ6, H6, I6, q6⟩=>?_)
    refine wpAny_passesOwn hp (thn (hb _ s6 σ6 H6 _ I6 q6) fun f s7 q7=>?_)
    have again : ∀ {σ7 : St} {H7 : Hp}, Inv X (pins ++ VN fp s5.heap) σ7 H7 s7 -> N σ7 H7 -> ∃ m, m < n /\ ∃ i σ' H', Inv X pins σ' H' s7 /\ tn i s7.heap /\ (∀ b ∈ fp, H' b = none) /\ W i m σ' H':=fun {σ7 H7} I7 n7=>by
      obtain ⟨m', hm, w7⟩:=hN σ7 H7 n7
      refine ⟨m', hm, i + 1, σ7, H7, I7.unpinned, T.keep _ _ _ st5 fun b hb o e=>(I7.pin (b, o) (List.mem_append_right _ (List.mem_append_right _ (Qz hb e)))).1, fun b hb=>?_, w7⟩
      obtain ⟨o, e, d⟩:=T.obj _ _ st5 b hb
      exact (I7.pin (b, o) (List.mem_append_right _ (List.mem_append_right _ (Qz hb e)))).2.1
    cases f with
    | next=>obtain ⟨σ7, H7, I7, n7⟩:=q7; exact again I7 n7
    | cont=>obtain ⟨σ7, H7, I7, n7⟩:=q7; exact again I7 n7
    | brk=>obtain ⟨σ7, H7, I7, q7⟩:=q7; exact ⟨σ7, H7, I7.unpinned, q7⟩
    | ret v=>obtain ⟨x7, σ7, H7, I7, r7, q7⟩:=q7; exact ⟨x7, σ7, H7, I7.unpinned, r7, q7⟩
end
theorem QQ {K : PySem.W.Frag} {a : Addr} {xs : List V} {g : TG} {tb : TS} {D : Ends} {σ : St} {H : Hp} (Pv : Nat -> St -> Hp -> Prop) (h0 : Pv 0 σ H) (hl : ∀ i σ H, i <= xs.length -> Pv i σ H -> SqL K H a xs)
    (hs : ∀ i x σ H, xs[i]? = some x -> Pv i σ H -> g x σ H fun σ2 H2=>tb { D with nx:=Pv (i + 1), ct:=Pv (i + 1), bk:=D.nx } σ2 H2) (hd : ∀ σ H, Pv xs.length σ H -> D.nx σ H) :
    ∃ W : Nat -> Nat -> St -> Hp -> Prop, (∃ m, W 0 m σ H) /\ ∀ i m σ H, W i m σ H ->
      ((Itl K a).stop i H /\ D.nx σ H) ∨ ((Itl K a).go i H /\ ∃ N : St -> Hp -> Prop, (∀ σ' H', N σ' H' -> ∃ m', m' < m /\ W (i + 1) m' σ' H') /\ ∀ x H', (Itl K a).yld i H x H' -> g x σ H' fun σ2 H2=>tb { D with nx:=N, ct:=N, bk:=D.nx } σ2 H2):=by
  refine ⟨fun i m σ H=>m = xs.length - i /\ i <= xs.length /\ Pv i σ H, ⟨xs.length, by simp, Nat.zero_le _, h0⟩, ?_⟩
  rintro i m σ H ⟨rfl, hi, p⟩
  have q:=hl i σ H hi p
  by_cases hlt : i < xs.length
  . refine .inr ⟨⟨xs, xs[i], q, by simp [hlt]⟩, Pv (i + 1), fun σ' H' p' => ⟨xs.length - (i + 1), by omega, rfl, hlt, p'⟩, fun x H' y => ?_⟩
    obtain ⟨e, y⟩:=y
    subst e
    exact hs i x σ _ (y xs q) p
  . have e : i = xs.length := by omega
    subst e
    exact .inl ⟨⟨xs, q, Nat.le_refl _⟩, hd σ H p⟩
end L2
namespace L2
open PySem PySem.Spec PyProof.Rows
noncomputable abbrev R2:=V -> V -> Hp -> VK -> Prop
noncomputable def OpR (X : Cx) (f : Value -> Value -> Sem Value) (r : R2) : Prop:=
  ∀ (pins : List (Addr × Obj)) (s : Shared) (σ : St) (H : Hp) (x y : V) (v u : Value) (Q : VK), Inv X pins σ H s -> X2 x v -> X2 y u -> r x y H Q ->
    wpAny (model X.prog X.w) X.A (f v u) (EP X pins σ Q) X.xe s
noncomputable def Qi (X : Cx) (f : Value) (r : List V -> Hp -> VK -> Prop) : Prop:=
  ∀ (pins : List (Addr × Obj)) (s : Shared) (σ : St) (H : Hp) (xs : List V) (us : List Value) (Q : VK), Inv X pins σ H s -> XV xs us -> r xs H Q ->
    wpAny (model X.prog X.w) X.A (call f us) (EP X pins σ Q) X.xe s
noncomputable def tOp (r : R2) (ta tb : TE) : TE:=fun σ H Q=>ta σ H fun x H1=>tb σ H1 fun y H2=>r x y H2 Q
noncomputable def rI (C : Int -> Int -> Prop) (g : Int -> Int -> V) : R2:=fun x y H Q=>∃ i j, x = .int i /\ y = .int j /\ C i j /\ Q (g i j) H
noncomputable def rI0 (g : Int -> Int -> V) : R2:=fun x y H Q=>∃ i j, x = .int i /\ y = .int j /\ Q (g i j) H
section
variable {X : Cx} {a b c : Expr} {ta tb tc : TE} {pos : Pos}
theorem E7 (ha : PE X a ta) (hb : PE X b tb) {pins : List (Addr × Obj)} {s : Shared} {σ : St} {H : Hp} {R : V -> V -> Hp -> Prop} (I : Inv X pins σ H s)
    (h : ta σ H fun x H1=>tb σ H1 fun y H2=>R x y H2) {Q : Value -> Shared -> Prop} {f : Value -> Value -> Sem Value}
    (hf : ∀ v u s2 x y H2, Inv X pins σ H2 s2 -> X2 x v -> X2 y u -> R x y H2 -> wpAny (model X.prog X.w) X.A (f v u) Q X.xe s2) :
    wpAny (model X.prog X.w) X.A (eval a X.env) (fun v s₁=>wpAny (model X.prog X.w) X.A (eval b X.env) (fun u s₂=>wpAny (model X.prog X.w) X.A (f v u) Q X.xe s₂) X.xe s₁) X.xe s:=by
  refine thn (ha pins s σ H _ I h) fun v s1 ⟨x, H1, I1, r1, q1⟩=>?_
  refine thn (hb pins s1 σ H1 _ I1 q1) fun u s2 ⟨y, H2, I2, r2, q2⟩=>?_
  exact hf v u s2 x y H2 I2 r1 r2 q2
theorem Xs {op : Operator} {r : R2} (ho : OpR X (binaryOp op) r) (ha : PE X a ta) (hb : PE X b tb) : PE X (.BinOp a op b pos) (tOp r ta tb):=by
  intro pins s σ H Q I h
  exact wpAny_BinOp (E7 ha hb I h fun v u s2 x y H2 I2 rx ry q=>ho pins s2 σ H2 x y v u Q I2 rx ry q)
theorem opI {f : Value -> Value -> Sem Value} {C : Int -> Int -> Prop} {g : Int -> Int -> Int}
    (rule : ∀ (i j : Int) (t u : Tok) (s : Shared) (Q : Value -> Shared -> Prop) (E : Value -> Shared -> Prop), C i j -> Q (.int (g i j) s.toks) { s with toks:=s.toks + 1 } -> wpAny (model X.prog X.w) X.A (f (.int i t) (.int j u)) Q E s) :
    OpR X f (rI C fun i j=>.int (g i j)):=by
  intro pins s σ H x y v u Q I rx ry h
  obtain ⟨i, j, rfl, rfl, hc, q⟩:=h
  obtain ⟨t, rfl⟩:=rx
  obtain ⟨t', rfl⟩:=ry
  exact rule i j t t' s _ _ hc ⟨.int (g i j), H, I.tok _, ⟨_, rfl⟩, q⟩
theorem Ho {f : Value -> Value -> Sem Value} {g : Int -> Int -> Int}
    (rule : ∀ (i j : Int) (t u : Tok) (s : Shared) (Q : Value -> Shared -> Prop) (E : Value -> Shared -> Prop), Q (.int (g i j) s.toks) { s with toks:=s.toks + 1 } -> wpAny (model X.prog X.w) X.A (f (.int i t) (.int j u)) Q E s) :
    OpR X f (rI0 fun i j=>.int (g i j)):=by
  intro pins s σ H x y v u Q I rx ry h
  obtain ⟨i, j, rfl, rfl, q⟩:=h
  obtain ⟨t, rfl⟩:=rx
  obtain ⟨t', rfl⟩:=ry
  exact rule i j t t' s _ _ ⟨.int (g i j), H, I.tok _, ⟨_, rfl⟩, q⟩
theorem E4 {f : Value -> Value -> Sem Value} {g : Int -> Int -> Bool}
    (rule : ∀ (i j : Int) (t u : Tok) (s : Shared) (Q : Value -> Shared -> Prop) (E : Value -> Shared -> Prop), Q (.bool (g i j)) s -> wpAny (model X.prog X.w) X.A (f (.int i t) (.int j u)) Q E s) :
    OpR X f (rI0 fun i j=>.bl (g i j)):=by
  intro pins s σ H x y v u Q I rx ry h
  obtain ⟨i, j, rfl, rfl, q⟩:=h
  obtain ⟨t, rfl⟩:=rx
  obtain ⟨t', rfl⟩:=ry
  exact rule i j t t' s _ _ ⟨.bl (g i j), H, I, rfl, q⟩
noncomputable def Hf (i j : Int) : Prop:=0 <= j /\ j <= 1000000 /\ i.natAbs < 2 ^ 64
noncomputable def EE (i j : Int) : Prop:=(-(2 ^ 64) < i /\ i < 2 ^ 64) ∨ (-(2 ^ 64) < j /\ j < 2 ^ 64)
theorem EE.ok {i j : Int} (h : EE i j) : IntMulOk i j:=by
  rcases h with ⟨h1, h2⟩ | ⟨h1, h2⟩
  . exact .of_left (intBits_le_64 h1 h2)
  . exact .of_right (intBits_le_64 h1 h2)
theorem Yl : OpR X (binaryOp .Add) (rI0 fun i j=>.int (i + j)):=Ho fun _ _ _ _ _ _ _ q=>add_int q
theorem ZC : OpR X (binaryOp .Sub) (rI0 fun i j=>.int (i - j)):=Ho fun _ _ _ _ _ _ _ q=>sub_int q
theorem ZB : OpR X (binaryOp .Mult) (rI EE fun i j=>.int (i * j)):=opI fun _ _ _ _ _ _ _ hc q=>mul_int q hc.ok
theorem Yu : OpR X (binaryOp .Mod) (rI (fun _ j=>0 < j) fun i j=>.int (i % j)):=opI fun i j _ _ _ _ _ hc q=>by
  have h1 : (0 : Int) < j:=hc
  exact mod_int' (by omega) (by rw [Int.fmod_eq_emod_of_nonneg i (by omega)]; exact q)
theorem DE : OpR X (binaryOp .Pow) (rI Hf fun i j=>.int (i ^ j.toNat)):=opI fun _ _ _ _ _ _ _ hc q=>pow_int_small hc.1 hc.2.1 hc.2.2 q
end
noncomputable def EL : V -> V -> Bool
  | .non, .non=>true | .non, .int _=>true | .int _, .non=>true | .non, .bl _=>true | .bl _, .non=>true | .non, .str _=>true | .str _, .non=>true
  | .int _, .int _=>true | .bl _, .bl _=>true | .str _, .str _=>true | .byt _, .byt _=>true
  | .int _, .str _=>true | .str _, .int _=>true | .bl _, .str _=>true | .str _, .bl _=>true
  | _, _=>false
noncomputable def rEq : R2:=fun x y H Q=>EL x y = true /\ Q (.bl (decide (x = y))) H
noncomputable def rNe : R2:=fun x y H Q=>EL x y = true /\ Q (.bl (!decide (x = y))) H
theorem K1 {i j : Int} : decide (V.int i = V.int j) = (i == j):=by
  rw [Bool.eq_iff_iff]
  simp
theorem DM {i j : Bool} : decide (V.bl i = V.bl j) = (i == j):=by
  rw [Bool.eq_iff_iff]
  simp
theorem Gh {i j : Str} : decide (V.str i = V.str j) = (i == j):=by
  rw [Bool.eq_iff_iff]
  simp
theorem G0 {i j : Array UInt8} : decide (V.byt i = V.byt j) = (i.toList == j.toList):=by
  rw [Bool.eq_iff_iff]
  cases i
  cases j
  simp
section
variable {X : Cx} {a b c : Expr} {ta tb tc : TE} {pos : Pos}
theorem XS {pins : List (Addr × Obj)} {σ : St} {H : Hp} {s : Shared} {Q : VK} {k k' : Bool} (I : Inv X pins σ H s) (q : Q (.bl k) H) (e : k = k') : EP X pins σ Q (.bool k') s:=by
  subst e
  exact ⟨.bl k, H, I, rfl, q⟩
theorem Z0 : OpR X (compareOp .Eq) rEq:=by
  intro pins s σ H x y v u Q I rx ry h
  obtain ⟨hs, q⟩:=h
  cases x with
  | non=>
    cases rx
    cases y with
    | non=>cases ry; exact PySem.EqNone.eq_none_none (XS I q (by simp))
    | bl j=>cases ry; exact PySem.EqNone.eq_none_bool (XS I q (by simp))
    | int j=>obtain ⟨t', rfl⟩:=ry; exact PySem.EqNone.eq_none_int (XS I q (by simp))
    | str j=>obtain ⟨t', rfl⟩:=ry; exact PySem.EqNone.eq_none_str (XS I q (by simp))
    | _=>exact absurd (show false = true from hs) Bool.false_ne_true
  | bl i=>
    cases rx
    cases y with
    | non=>cases ry; exact PySem.EqNone.eq_bool_none (XS I q (by simp))
    | bl j=>cases ry; exact eq_bool (XS I q DM)
    | str j=>obtain ⟨t', rfl⟩:=ry; exact PySem.EqMixed.eq_bool_str (XS I q (by simp))
    | _=>exact absurd (show false = true from hs) Bool.false_ne_true
  | int i=>
    obtain ⟨t, rfl⟩:=rx
    cases y with
    | non=>cases ry; exact PySem.EqNone.eq_int_none (XS I q (by simp))
    | int j=>obtain ⟨t', rfl⟩:=ry; exact eq_int (XS I q K1)
    | str j=>obtain ⟨t', rfl⟩:=ry; exact PySem.EqMixed.eq_int_str (XS I q (by simp))
    | _=>exact absurd (show false = true from hs) Bool.false_ne_true
  | str i=>
    obtain ⟨t, rfl⟩:=rx
    cases y with
    | non=>cases ry; exact PySem.EqNone.eq_str_none (XS I q (by simp))
    | bl j=>cases ry; exact PySem.EqMixed.eq_str_bool (XS I q (by simp))
    | int j=>obtain ⟨t', rfl⟩:=ry; exact PySem.EqMixed.eq_str_int (XS I q (by simp))
    | str j=>obtain ⟨t', rfl⟩:=ry; exact eq_str (XS I q Gh)
    | _=>exact absurd (show false = true from hs) Bool.false_ne_true
  | byt i=>
    obtain ⟨t, rfl⟩:=rx
    cases y with
    | byt j=>obtain ⟨t', rfl⟩:=ry; exact PySem.W.eq_bytes (XS I q G0)
    | _=>exact absurd (show false = true from hs) Bool.false_ne_true
  | _=>cases y <;> exact absurd (show false = true from hs) Bool.false_ne_true
theorem Vj : OpR X (compareOp .NotEq) rNe:=by
  intro pins s σ H x y v u Q I rx ry h
  obtain ⟨hs, q⟩:=h
  cases x with
  | non=>
    cases rx
    cases y with
    | non=>cases ry; exact PySem.EqNone.ne_none_none (XS I q (by simp))
    | bl j=>cases ry; exact PySem.EqNone.ne_none_bool (XS I q (by simp))
    | int j=>obtain ⟨t', rfl⟩:=ry; exact PySem.EqNone.ne_none_int (XS I q (by simp))
    | str j=>obtain ⟨t', rfl⟩:=ry; exact PySem.EqNone.ne_none_str (XS I q (by simp))
    | _=>exact absurd (show false = true from hs) Bool.false_ne_true
  | bl i=>
    cases rx
    cases y with
    | non=>cases ry; exact PySem.EqNone.ne_bool_none (XS I q (by simp))
    | bl j=>cases ry; exact ne_bool (XS I q (congrArg not DM))
    | str j=>obtain ⟨t', rfl⟩:=ry; exact PySem.EqMixed.ne_bool_str (XS I q (by simp))
    | _=>exact absurd (show false = true from hs) Bool.false_ne_true
  | int i=>
    obtain ⟨t, rfl⟩:=rx
    cases y with
    | non=>cases ry; exact PySem.EqNone.ne_int_none (XS I q (by simp))
    | int j=>obtain ⟨t', rfl⟩:=ry; exact ne_int (XS I q (congrArg not K1))
    | str j=>obtain ⟨t', rfl⟩:=ry; exact PySem.EqMixed.ne_int_str (XS I q (by simp))
    | _=>exact absurd (show false = true from hs) Bool.false_ne_true
  | str i=>
    obtain ⟨t, rfl⟩:=rx
    cases y with
    | non=>cases ry; exact PySem.EqNone.ne_str_none (XS I q (by simp))
    | bl j=>cases ry; exact PySem.EqMixed.ne_str_bool (XS I q (by simp))
    | int j=>obtain ⟨t', rfl⟩:=ry; exact PySem.EqMixed.ne_str_int (XS I q (by simp))
    | str j=>obtain ⟨t', rfl⟩:=ry; exact ne_str (XS I q (congrArg not Gh))
    | _=>exact absurd (show false = true from hs) Bool.false_ne_true
  | byt i=>
    obtain ⟨t, rfl⟩:=rx
    cases y with
    | byt j=>obtain ⟨t', rfl⟩:=ry; exact PySem.W.ne_bytes (XS I q (congrArg not G0))
    | _=>exact absurd (show false = true from hs) Bool.false_ne_true
  | _=>cases y <;> exact absurd (show false = true from hs) Bool.false_ne_true
theorem Kv : OpR X (compareOp .Lt) (rI0 fun i j=>.bl (decide (i < j))):=E4 fun _ _ _ _ _ _ _ q=>lt_int q
theorem KP : OpR X (compareOp .Gt) (rI0 fun i j=>.bl (decide (j < i))):=E4 fun _ _ _ _ _ _ _ q=>gt_int q
theorem B4 : OpR X (compareOp .GtE) (rI0 fun i j=>.bl (decide (j <= i))):=E4 fun _ _ _ _ _ _ _ q=>ge_int q
theorem Gq : OpR X (compareOp .Is) (fun x y H Q=>y = .non /\ Q (.bl (decide (x = .non))) H):=by
  intro pins s σ H x y v u Q I rx ry h
  obtain ⟨rfl, q⟩:=h
  cases ry
  refine is_none_gen (XS I q ?_)
  cases x <;> first
    | (cases rx; rfl)
    | (obtain ⟨t, rfl⟩:=rx; rfl)
theorem CV : OpR X (compareOp .IsNot) (fun x y H Q=>y = .non /\ Q (.bl (!decide (x = .non))) H):=by
  intro pins s σ H x y v u Q I rx ry h
  obtain ⟨rfl, q⟩:=h
  cases ry
  refine isnot_none_gen (XS I q ?_)
  cases x <;> first
    | (cases rx; rfl)
    | (obtain ⟨t, rfl⟩:=rx; rfl)
theorem OpR.or {f : Value -> Value -> Sem Value} {r r' : R2} (h : OpR X f r) (h' : OpR X f r') : OpR X f (fun x y H Q=>r x y H Q ∨ r' x y H Q):=by
  intro pins s σ H x y v u Q I rx ry q
  rcases q with q | q
  . exact h pins s σ H x y v u Q I rx ry q
  . exact h' pins s σ H x y v u Q I rx ry q
theorem Xz (b : Expr) {op : CmpOp} (h : op ≠ .In:=by decide) (h2 : op ≠ .NotIn:=by decide) : behindInMarks op b = false:=by
  have e1 : (op == CmpOp.In) = false:=by cases op <;> first | rfl | exact absurd rfl h
  have e2 : (op == CmpOp.NotIn) = false:=by cases op <;> first | rfl | exact absurd rfl h2
  cases b <;> simp [behindInMarks, e1, e2]
theorem Vf {op : CmpOp} {r : R2} (ho : OpR X (compareOp op) r) (ha : PE X a ta) (hb : PE X b tb) (hm : behindInMarks op b = false) : PE X (.Compare a [op] [b] pos) (tOp r ta tb):=by
  intro pins s σ H Q I h
  exact wpAny_Compare1 (E7 ha hb I h fun v u s2 x y H2 I2 rx ry q=>ho pins s2 σ H2 x y v u Q I2 rx ry q) hm
noncomputable def BI (t : TE) : TT:=fun σ H Q=>t σ H fun x H'=>∃ k, x = .bl k /\ Q k H'
theorem Xo {op : CmpOp} {r : R2} (ho : OpR X (compareOp op) r) (ha : PE X a ta) (hb : PE X b tb) (hm : behindInMarks op b = false) : PT X (.Compare a [op] [b] pos) (BI (tOp r ta tb)):=by
  intro pins s σ H Q I h
  refine wpAny_isTrue_Compare1 (thn (ha pins s σ H _ I h) fun v s1 ⟨x, H1, I1, r1, q1⟩=>thn (hb pins s1 σ H1 _ I1 q1) fun u s2 ⟨y, H2, I2, r2, q2⟩=>
    thn (ho pins s2 σ H2 x y v u _ I2 r1 r2 q2) fun c s3 ⟨z, H3, I3, r3, k, e, q3⟩=>?_) hm
  subst e
  cases r3
  exact wpAny_truthy_bool ⟨H3, I3, q3⟩
theorem U6 : (sizeLine : Nat) < 2 ^ 63:=by rw [sizeLine_eq]; decide
theorem GS {x : V} {us : List Value} (r : XV [x] us) : ∃ u, us = [u] /\ X2 x u:=by
  cases r with
  | cons r1 r2=>cases r2; exact ⟨_, rfl, r1⟩
theorem U0 : Qi X (.builtin "abs") (fun xs H Q=>∃ i, xs = [.int i] /\ Q (.int (if i < 0 then -i else i)) H):=by
  intro pins s σ H xs us Q I r h
  obtain ⟨i, rfl, q⟩:=h
  obtain ⟨u, rfl, t, rfl⟩:=GS r
  exact call_abs_int fun u tk=>⟨.int (if i < 0 then -i else i), H, I.tok _, ⟨_, rfl⟩, q⟩
end
end L2
namespace L2
open PySem PySem.Spec PyProof.Rows
structure ObjM (h : Heap) (x dx C : Addr) (mA : Str -> Option Value) : Prop where
  obj : h.get? x = some (PySem.W.instObj C dx)
  ns : h.Ns1 dx mA
  ne : dx ≠ x
theorem KW {h : Heap} {dx : Addr} {mA : Str -> Option Value} (n : h.Ns1 dx mA) : ∃ od, h.get? dx = some od /\ ∀ name, PySem.W.lookIn name od = some (mA name):=by
  obtain ⟨o, es, ep, ho, hd, hk, _, hm⟩:=n
  refine ⟨o, ho, fun name=>?_⟩
  have e:=hm name
  unfold nsFind findBy at e
  rw [← Array.find?_toList] at e
  unfold PySem.W.lookIn
  rw [hd]
  dsimp only
  split
  . rename_i y q
    rw [q] at e
    exact congrArg some e
  . rename_i q
    rw [q] at e
    have a : es.toList.any (·.refKey) = false:=by
      rw [List.any_eq_false]
      intro y hy
      obtain ⟨z, t, hkey⟩:=hk y (Array.mem_toList_iff.mp hy)
      simp [DictEntry.refKey, hkey]
    have a' : ¬ es.toList.any (·.refKey) = true:=by rw [a]; exact Bool.false_ne_true
    rw [if_neg a']
    exact congrArg some e
theorem ObjM.look {h : Heap} {x dx C : Addr} {mA : Str -> Option Value} (I : ObjM h x dx C mA) : ∃ od, PySem.W.InstAt h x (PySem.W.instObj C dx) C (some od) /\ ∀ name, PySem.W.lookIn name od = some (mA name):=
  let ⟨od, ho, hl⟩:=KW I.ns
  ⟨od, ⟨I.obj, rfl, rfl, ho⟩, hl⟩
section
variable {prog : Program} {w : World} {A : Around} {E : Value -> Shared -> Prop} {s : Shared} {K : PySem.W.Frag} {x dx C f : Addr} {mA : Str -> Option Value} {name : Str} {v : Value}
end
section
variable {P : Program} {w : World} {H H' : Hp} {h h' : Heap} {a C dx : Addr} {fs fs' : List (Str × V)}
theorem Ct (hok : HOk P w H h) (e : H a = some (.ins C dx fs)) : ∃ mA, ObjM h a dx C mA /\ (∀ f, FI (fs.lookup f) (mA f)) /\ PySem.Within mA (fs.map (·.1)) /\ fs.length <= 1000 /\ H dx = some (.own a):=by
  obtain ⟨d, z, ne, ob, mA, n, r, q⟩:=(show YS P w H h a (.ins C dx fs) from hok a _ e)
  exact ⟨mA, ⟨ob, n, ne⟩, r, q, z, d⟩
end
structure Cls (K : PySem.W.Frag) (C : Addr) : Prop where
  pg : PySem.W.plainGet K C Str.empty = true
  hd : PySem.W.hasDictIn K C = true
  po : PySem.W.plainOver K C = true
  sa : PySem.W.findIn K (.ref C) "__setattr__" = some (some (.builtin "object.__setattr__"))
theorem Cls.get {K : PySem.W.Frag} {C : Addr} (c : Cls K C) (f : Str) : PySem.W.plainGet K C f = true:=c.pg
section
variable {X : Cx} {pins : List (Addr × Obj)} {σ : St} {H : Hp} {s : Shared} {a C dx : Addr} {fs : List (Str × V)} {f : Str} {v : V} {A : Around} {E : Value -> Shared -> Prop}
theorem Inv.made (I : Inv X pins σ H s) : Inv X pins σ (upd (upd H s.heap.objs.size (.own (s.heap.objs.size + 1))) (s.heap.objs.size + 1) (.ins C s.heap.objs.size []))
    { s with heap:=(s.heap.push PySem.W.emptyDict).push (PySem.W.instObj C s.heap.objs.size) }:=by
  have e1 : (s.heap.push PySem.W.emptyDict).get? s.heap.objs.size = some PySem.W.emptyDict:=Heap.get?_push_size s.heap rfl
  have e2 : ((s.heap.push PySem.W.emptyDict).push (PySem.W.instObj C s.heap.objs.size)).get? (s.heap.objs.size + 1) = some (PySem.W.instObj C s.heap.objs.size):=by
    have:=Heap.get?_push_size (s.heap.push PySem.W.emptyDict) (o:=PySem.W.instObj C s.heap.objs.size) rfl
    rwa [Heap.size_push] at this
  have e3 : (s.heap.push PySem.W.emptyDict).Ns s.heap.objs.size (fun _=>none):=⟨PySem.W.emptyDict, #[], _, e1, rfl, (fun e he=>absurd he (by simp)), fun _=>rfl⟩
  have I1:=I.laid (a:=s.heap.objs.size) (o:=.own (s.heap.objs.size + 1)) (h':=s.heap.push PySem.W.emptyDict) (t':=s.toks) (fun b u q=>Heap.get?_push_of_some _ q) (Nat.le_refl _) ⟨_, e1⟩
  refine I1.laid (a:=s.heap.objs.size + 1) (o:=.ins C s.heap.objs.size []) (t':=s.toks) (fun b u q=>Heap.get?_push_of_some _ q) (Nat.le_of_eq (Heap.size_push _ _)) ?_
  have ne : s.heap.objs.size ≠ s.heap.objs.size + 1:=Nat.ne_of_lt (Nat.lt_succ_self _)
  refine ⟨by rw [XB ne, Yt], Nat.zero_le _, ne, e2, fun _=>none, (Heap.Ns1.of_empty e3).at fun o q=>Heap.get?_push_of_some _ q, fun _=>True.intro, fun y hy=>absurd rfl hy⟩
end
section
variable {X : Cx} {o e value : Expr} {f : Str} {pos pos' tpos : Pos} {ta tv : TE}
end
section
variable {X : Cx} {pins : List (Addr × Obj)} {σ : St} {H : Hp} {s : Shared} {A : Around} {E : Value -> Shared -> Prop} {Q : Value -> Shared -> Prop} {c : Value} {b : Bool}
inductive TyOf (K : PySem.W.Frag) (H : Hp) : V -> Value -> Prop where
  | non : TyOf K H .non (.type "NoneType")
  | bl (x : Bool) : TyOf K H (.bl x) (.type "bool")
  | int (i : Int) : TyOf K H (.int i) (.type "int")
  | str (x : Str) : TyOf K H (.str x) (.type "str")
  | flt (x : UInt64) : TyOf K H (.flt x) (.type "float")
  | lst {a : Addr} {xs : List V} (e : H a = some (.lst xs)) : TyOf K H (.ref a) (.type "list")
  | frz {a : Addr} {o : Obj} {xs : List V} (e : H a = some (.frz o (.lst xs))) : TyOf K H (.ref a) (.type "list")
  | tup {a : Addr} {xs : List V} (e : H a = some (.tup xs)) : TyOf K H (.ref a) (.type "tuple")
  | dK {a : Addr} {kvs : List (Key × V)} (e : H a = some (.dK kvs)) : TyOf K H (.ref a) (.type "dict")
  | dT {a : Addr} {kvs : List (List Key × V)} (e : H a = some (.dT kvs)) : TyOf K H (.ref a) (.type "dict")
  | ins {a C dx : Addr} {fs : List (Str × V)} (e : H a = some (.ins C dx fs)) (cl : Cls K C) (ha : PySem.W.findIn K (.ref C) "__class__" = some (some (.builtin "object.__class__")))
      (hn : PySem.W.specialIn K (.builtin "object.__class__") "__get__" = some (some (.builtin "getset_descriptor.__get__"))) (htk : PySem.W.takesIn K (.builtin "object.__class__") = some true)
      (hm : PySem.W.mroIn K C (.type "object") = some true) : TyOf K H (.ref a) (.ref C)
theorem GV {x : V} {u t : Value} (I : Inv X pins σ H s) (rx : X2 x u) (ty : TyOf X.K H x t) (e : PySem.W.kitOne X.K t c = some b) (h : ∀ tk, Q (.bool b) { s with toks:=tk }) :
    wpAny (model X.prog X.w) A (call (.builtin "isinstance") [u, c]) Q E s:=by
  cases ty with
  | non=>cases (show u = Value.none from rx); exact PySem.W.kia_one PySem.W.kitx_none I.kIn True.intro e (fun z=>nomatch z) h
  | bl y=>cases (show u = Value.bool y from rx); exact PySem.W.kia_one PySem.W.kitx_bool I.kIn True.intro e (fun z=>nomatch z) h
  | int i=>obtain ⟨t, q⟩:=(show ∃ t, u = Value.int i t from rx); cases q; exact PySem.W.kia_one PySem.W.kitx_int I.kIn True.intro e (fun z=>nomatch z) h
  | str y=>obtain ⟨t, q⟩:=(show ∃ t, u = Value.str y t from rx); cases q; exact PySem.W.kia_one PySem.W.kitx_str I.kIn True.intro e (fun z=>nomatch z) h
  | flt y=>obtain ⟨t, q⟩:=(show ∃ t, u = Value.float y t from rx); cases q; exact PySem.W.kia_one PySem.W.kitx_float I.kIn True.intro e (fun z=>nomatch z) h
  | @lst a xs ea=>
    cases (show u = Value.ref a from rx)
    obtain ⟨_, _, n, _, h1⟩:=(show YS X.prog X.w H s.heap a (.lst xs) from I.hok a _ ea)
    exact PySem.W.kia_one PySem.W.kitx_list I.kIn ⟨_, h1, rfl⟩ e (fun z=>nomatch z) h
  | @frz a ob xs ea=>
    cases (show u = Value.ref a from rx)
    obtain ⟨_, _, _, n, _, h1⟩:=(show YS X.prog X.w H s.heap a (.frz ob (.lst xs)) from I.hok a _ ea)
    exact PySem.W.kia_one PySem.W.kitx_list I.kIn ⟨_, h1, rfl⟩ e (fun z=>nomatch z) h
  | @tup a xs ea=>
    cases (show u = Value.ref a from rx)
    obtain ⟨_, _, _, p⟩:=(show YS X.prog X.w H s.heap a (.tup xs) from I.hok a _ ea)
    obtain ⟨o, h1, h2, _⟩:=p
    exact PySem.W.kia_one PySem.W.kitx_tuple I.kIn ⟨o, h1, h2⟩ e (fun z=>nomatch z) h
  | @dK a kvs ea=>
    cases (show u = Value.ref a from rx)
    obtain ⟨_, _, vs, _, p⟩:=(show YS X.prog X.w H s.heap a (.dK kvs) from I.hok a _ ea)
    obtain ⟨o, es, ep, h1, h2, _⟩:=p
    exact PySem.W.kia_one PySem.W.kitx_dict I.kIn ⟨o, h1, h2.1⟩ e (fun z=>nomatch z) h
  | @dT a kvs ea=>
    cases (show u = Value.ref a from rx)
    obtain ⟨_, _, xs, _, o, es, ep, h1, h2, _⟩:=(show YS X.prog X.w H s.heap a (.dT kvs) from I.hok a _ ea)
    exact PySem.W.kia_one PySem.W.kitx_dict I.kIn ⟨o, h1, h2.1⟩ e (fun z=>nomatch z) h
  | @ins a C dx fs ea cl ha hn htk hm=>
    cases (show u = Value.ref a from rx)
    obtain ⟨mA, O, _⟩:=Ct I.hok ea
    obtain ⟨od, J, _⟩:=O.look
    exact PySem.W.kia_one (PySem.W.kitx_own (cl.get _) cl.hd ha hn htk hm) I.kIn J e (fun z=>nomatch z) h
end
end L2
namespace L2
open PySem PySem.Spec PyProof.Rows
structure Room (k : Nat) (A : Around) : Prop where
  hd : A.handled = none
  dp : A.depth + 3 * k + 5 < recursionLimit
  un : A.units + 16 * k + 200 < cLine
theorem Room.mono {j k : Nat} {A : Around} (r : Room k A) (h : j <= k) : Room j A:=⟨r.hd, by have:=r.dp; omega, by have:=r.un; omega⟩
theorem Room.deeper {k : Nat} {A : Around} (r : Room (k + 1) A) (env : Env) : Room k (A.deeper env):=
  ⟨r.hd, by have:=r.dp; show A.depth + 1 + 3 * k + 5 < _; omega, by have:=r.un; show A.units + 3 + 16 * k + 200 < _; omega⟩
theorem Room.in1 {k : Nat} {A : Around} (r : Room (k + 1) A) : Room k A.in1:=
  ⟨r.hd, by have:=r.dp; show A.depth + 3 * k + 5 < _; omega, by have:=r.un; show A.units + 1 + 16 * k + 200 < _; omega⟩
theorem Room.depth {k : Nat} {A : Around} (r : Room k A) : A.depth < recursionLimit:=by have:=r.dp; omega
theorem Room.units {k : Nat} {A : Around} (r : Room k A) : A.units + 64 < cLine:=by have:=r.un; omega
noncomputable def ZF : TA:=fun _ H Q=>Q [] H
noncomputable def Xx (ta : TE) (tr : TA) : TA:=fun σ H Q=>ta σ H fun x H1=>tr σ H1 fun xs H2=>Q (x :: xs) H2
section
variable {X : Cx} {e : Expr} {es : List Expr} {te : TE} {t : TA} {pos : Pos}
theorem Xg : PA X [] ZF:=fun _ _ _ _ H Q I h=>Calls.spliced_nil ⟨[], H, I, .nil, h⟩
theorem Xd (ha : PE X e te) (hr : PA X es t) (hs : starEach (e :: es) X.env = (false, eval e X.env) :: starEach es X.env:=by rfl) : PA X (e :: es) (Xx te t):=by
  intro pos pins s σ H Q I h
  rw [hs]
  show wpAny _ _ (spliced ((false, eval e X.env) :: backTo pos (starEach es X.env))) _ _ s
  refine Calls.spliced_cons (thn (ha pins s σ H _ I h) fun u s1 ⟨x, H1, I1, r1, q1⟩=>?_)
  exact thn (hr pos pins s1 σ H1 _ I1 q1) fun us s2 ⟨xs, H2, I2, r2, q2⟩=>⟨x :: xs, H2, I2, .cons r1 r2, q2⟩
noncomputable def E6 (t : TA) : TE:=fun σ H Q=>t σ H fun xs H1=>xs.length <= sizeLine /\ ∀ p, H1 p = none -> Q (.ref p) (upd H1 p (.tup xs))
noncomputable def Fk (t : TA) : TE:=fun σ H Q=>t σ H fun xs H1=>xs.length <= sizeLine /\ ∀ p, H1 p = none -> Q (.ref p) (upd H1 p (.lst xs))
theorem UM {x1} (h : PA X es t) : PE X (.Tuple es x1 pos) (E6 t):=by
  intro pins s σ H Q I hq
  refine wpAny_Tuple_spliced (thn (h pos pins s σ H _ I hq) fun us s1 ⟨xs, H1, I1, r, z, q⟩=>⟨by rw [← r.length]; exact z, ?_⟩)
  have hf : H1 s1.heap.objs.size = none:=I1.hok.fresh (Nat.le_refl _)
  refine ⟨.ref s1.heap.objs.size, upd H1 s1.heap.objs.size (.tup xs), I1.laid (t':=s1.toks) (fun b u e=>Heap.get?_push_of_some _ e) (Nat.le_refl _) ?_, rfl, q _ hf⟩
  exact ⟨z, us, r, ⟨_, Heap.get?_push_size _ rfl, rfl, _, rfl⟩⟩
theorem Yn (h : PA X es t) : PE X (.List es pos) (Fk t):=by
  intro pins s σ H Q I hq
  refine wpAny_List_spliced (thn (h pos pins s σ H _ I hq) fun us s1 ⟨xs, H1, I1, r, z, q⟩=>⟨by rw [← r.length]; exact z, ?_⟩)
  have hf : H1 s1.heap.objs.size = none:=I1.hok.fresh (Nat.le_refl _)
  refine ⟨.ref s1.heap.objs.size, upd H1 s1.heap.objs.size (.lst xs), I1.laid (t':=s1.toks) (fun b u e=>Heap.get?_push_of_some _ e) (Nat.le_refl _) ?_, rfl, q _ hf⟩
  exact ⟨z, us, 0, r, Heap.get?_push_size _ rfl⟩
end
noncomputable abbrev Sp:=List V -> Hp -> VK -> XK -> Prop
noncomputable abbrev CXT:=List Env -> Hp -> Shared -> XK -> Value -> Shared -> Prop
structure Env0 (P : Program) (w : World) (K : PySem.W.Frag) (mg : Str -> Option Value) (base : Heap) (A : Around) (outer : List Env) (s : Shared) (H : Hp) : Prop where
  frames : A.frames = some outer
  mod : Mod K mg base
  bs : ∀ b o, base.get? b = some o -> s.heap.get? b = some o /\ H b = none
  bsz : base.objs.size <= s.heap.objs.size
  funs : s.heap.FunFrames base outer
  frf : ∀ b ∈ frs outer, H b = none
  hok : HOk P w H s.heap
  bare : AllBare s.gens
noncomputable def CE (outer : List Env) (P : Program) (w : World) (H : Hp) (s : Shared) (Q : VK) (u : Value) (s' : Shared) : Prop:=
  ∃ v H', s'.os = s.os /\ AllBare s'.gens /\ Un (frs outer) [] H H' s.heap s'.heap /\ HOk P w H' s'.heap /\ X2 v u /\ Q v H'
noncomputable def CR (CX : CXT) (outer : List Env) (P : Program) (w : World) (H : Hp) (s : Shared) (Q : VK) (E : XK) (r : Result) (s' : Shared) : Prop:=
  match r with
  | .ok (.ret u)=>CE outer P w H s Q u s'
  | .ok _=>False
  | .error e=>CX outer H s E e s'
structure FnOk (P : Program) (w : World) (K : PySem.W.Frag) (mg : Str -> Option Value) (base : Heap) (CX : CXT) (k : Nat) (f : Addr) (fd : FuncData) (ps : List Str) (sp : Sp) : Prop where
  len : ∀ vs H Q E, sp vs H Q E -> vs.length = ps.length
  run : ∀ (A : Around) (outer : List Env) (s : Shared) (H : Hp) (args : Args) (us : List Value) (vs : List V) (Q : VK) (E : XK), Room k A -> Env0 P w K mg base A outer s H -> BindsTo s fd args (ps.zip us) -> XV vs us -> sp vs H Q E ->
    codeAny (model P w) A (.call (.ref f) args) (CR CX outer P w H s Q E) s
theorem FnOk.mono {P : Program} {w : World} {K : PySem.W.Frag} {mg : Str -> Option Value} {base : Heap} {CX : CXT} {j k : Nat} {f : Addr} {fd : FuncData} {ps : List Str} {sp : Sp} (F : FnOk P w K mg base CX j f fd ps sp) (h : j <= k) :
    FnOk P w K mg base CX k f fd ps sp:=⟨F.len, fun A outer s H args us vs Q E hr=>F.run A outer s H args us vs Q E (hr.mono h)⟩
theorem FnOk.imp {P : Program} {w : World} {K : PySem.W.Frag} {mg : Str -> Option Value} {base : Heap} {CX : CXT} {k : Nat} {f : Addr} {fd : FuncData} {ps : List Str} {sp sp' : Sp} (F : FnOk P w K mg base CX k f fd ps sp)
    (h : ∀ vs H Q E, sp' vs H Q E -> sp vs H Q E) : FnOk P w K mg base CX k f fd ps sp':=
  ⟨fun vs H Q E q=>F.len vs H Q E (h _ _ _ _ q), fun A outer s H args us vs Q E hr he hb hv hs=>F.run A outer s H args us vs Q E hr he hb hv (h _ _ _ _ hs)⟩
theorem Env0.in1 {P : Program} {w : World} {K : PySem.W.Frag} {mg : Str -> Option Value} {base : Heap} {A : Around} {outer : List Env} {s : Shared} {H : Hp} (e : Env0 P w K mg base A outer s H) :
    Env0 P w K mg base A.in1 outer s H:=⟨e.frames, e.mod, e.bs, e.bsz, e.funs, e.frf, e.hok, e.bare⟩
section
variable {X : Cx} {pins : List (Addr × Obj)} {σ : St} {H : Hp} {s s' : Shared}
theorem Inv.env0 (I : Inv X pins σ H s) : Env0 X.prog X.w X.K X.mg X.base X.A X.stack s H:=
  ⟨I.ok.frames, I.ok.mod, I.bs, Nat.le_trans I.ok.bsz I.sz, I.stack, I.stkFree, I.hok, I.bare⟩
theorem Inv.after {Q : VK} {u : Value} (I : Inv X pins σ H s) (h : CE X.stack X.prog X.w H s Q u s') : EP X pins σ Q u s':=by
  obtain ⟨v, H', os, bare, un, hok, r, q⟩:=h
  obtain ⟨hh, g, d, t, os'⟩:=s'
  obtain rfl : os' = s.os:=os
  exact ⟨v, H', I.call (h':=hh) (g':=g) (d':=d) (t':=t) (ch:=[]) un hok bare (fun b z=>absurd z (by simp)), r, q⟩
end
noncomputable def JZ (sp : Sp) (dvs : List V) (E : XK) (t : TA) : TE:=fun σ H Q=>t σ H fun vs H1=>sp (vs ++ dvs) H1 Q E
noncomputable def UE (K : PySem.W.Frag) (fd : FuncData) (ps : List Str) (ds : List Value) : Prop:=
  ∀ (s : Shared) (us : List Value), K.In s.heap -> (us ++ ds).length = ps.length -> BindsTo s fd ⟨us, []⟩ (ps.zip (us ++ ds))
theorem UE.all {K : PySem.W.Frag} {fd : FuncData} {ps : List Str} (h : ∀ us : List Value, us.length = ps.length -> bindArgs fd ⟨us, []⟩ = pure (ps.zip us)) : UE K fd ps []:=fun s us _ hl=>by
  rw [List.append_nil] at hl ⊢
  exact .of_eq (h us hl)
noncomputable def KO (CX : CXT) (X : Cx) (E : XK) : Prop:=∀ (pins : List (Addr × Obj)) (σ : St) (H : Hp) (s : Shared) (e : Value) (s' : Shared), Inv X pins σ H s -> CX X.stack H s E e s' -> X.xe e s'
section
variable {X : Cx} {CX : CXT} {k : Nat} {f C : Addr} {fd : FuncData} {ps : List Str} {sp : Sp} {dvs : List V} {ds : List Value} {E : XK} {x m : Str} {p pos apos : Pos} {e o : Expr} {es : List Expr} {ta : TE} {t : TA}
theorem Bo {pins : List (Addr × Obj)} {σ : St} {H : Hp} {s : Shared} {Q : VK} {us : List Value} {vs : List V} (F : FnOk X.prog X.w X.K X.mg X.base CX k f fd ps sp) (hr : Room k X.A) (hb : UE X.K fd ps ds) (hd : XV dvs ds) (hx : KO CX X E)
    (I : Inv X pins σ H s) (r : XV vs us) (h : sp (vs ++ dvs) H Q E) : wpAny (model X.prog X.w) X.A (call (.ref f) us) (EP X pins σ Q) X.xe s:=by
  have r2 : XV (vs ++ dvs) (us ++ ds):=r.append hd
  have hl : (us ++ ds).length = ps.length:=by rw [← r2.length]; exact F.len _ _ _ _ h
  refine wpAny_call (codeAny_mono (F.run X.A X.stack s H ⟨us, []⟩ (us ++ ds) (vs ++ dvs) Q E hr I.env0 (hb s us I.kIn hl) r2 h) fun r s' hq=>?_)
  cases r with
  | error e=>exact hx pins σ H s e s' I hq
  | ok fl=>
    cases fl with
    | ret u=>exact I.after hq
    | next=>exact False.elim hq
    | brk=>exact False.elim hq
    | cont=>exact False.elim hq
theorem DW (F : FnOk X.prog X.w X.K X.mg X.base CX k f fd ps sp) (hr : Room k X.A) (hg : Gl X x) (hm : X.mg x = some (.ref f)) (hk : PySem.W.keepIn X.K (.ref f) = true) (hb : UE X.K fd ps ds) (hd : XV dvs ds) (hx : KO CX X E)
    (ha : PA X (e :: es) t) (hdb : (x == ("__debug__" : Str)) = false:=by decide) (he : starEach (e :: es) X.env = (false, eval e X.env) :: starEach es X.env:=by rfl) (hpl : (backTo pos (starEach es X.env)).any (·.1) = false:=by rfl) :
    PE X (.Call (.Name x p) (e :: es) [] pos) (JZ sp dvs E t):=by
  intro pins s σ H Q I h
  refine wpAny_Call_Name_kw (Gz I hg hm ?_ hdb)
  refine PySem.W.callWith_K (h₀:=X.base) I.ok.mod.kin hk (thn (ha pos pins s σ H _ I h) fun us s1 ⟨vs, H1, I1, r, q⟩=>⟨I1.kIn, ?_⟩) he hpl
  exact Bo F hr hb hd hx I1 r q
end
section
variable {X : Cx} {CX : CXT} {k : Nat} {f C : Addr} {fd : FuncData} {ps ks : List Str} {sp : Sp} {E : XK} {x m : Str} {p pos apos kpos : Pos} {e o : Expr} {es : List Expr} {kws : List Keyword} {te ta : TE} {t tk : TA} {nm : Option Str}
variable {g : List Value -> List Value -> List Value} {gV : List V -> List V -> List V}
end
structure FnScope (N P : List Str) (sc : Scope) : Prop where
  kind : sc.kind = .function
  co : sc.isCoroutine = false
  gen : sc.isGenerator = false
  nd : N.Nodup
  pre : N.take P.length = P
  par : ∀ x ∈ P, sc.names.lookup x = some .local ∨ sc.names.lookup x = some .cell
  nofree : ∀ y ∈ sc.names, y.2 ≠ .free
theorem V1 {kindOf : Str -> Option NameKind} {x : Str} : ∀ {binds : List (Str × Value)} {m : Str -> Option Value}, (∀ v, (x, v) ∉ binds) -> bindL kindOf binds m x = m x
  | [], _, _=>rfl
  | (n, v) :: r, m, h=>by
    unfold bindL
    rw [V1 fun w hw=>h w (List.mem_cons_of_mem _ hw)]
    split
    . have : x ≠ n := by rintro rfl; exact h v List.mem_cons_self
      simp [this]
    . rfl
theorem Ub {kindOf : Str -> Option NameKind} {x : Str} : ∀ {binds : List (Str × Value)} {m : Str -> Option Value}, (∀ v, (x, v) ∉ binds) -> bindC kindOf binds m x = m x
  | [], _, _=>rfl
  | (n, v) :: r, m, h=>by
    unfold bindC
    rw [Ub fun w hw=>h w (List.mem_cons_of_mem _ hw)]
    split
    . rfl
    . have : x ≠ n := by rintro rfl; exact h v List.mem_cons_self
      simp [this]
theorem VY {kindOf : Str -> Option NameKind} {x : Str} {v : Value} : ∀ {P : List Str} {vs : List Value} {i : Nat} {m : Str -> Option Value}, P.Nodup -> P[i]? = some x -> vs[i]? = some v -> kindOf x = some .local ->
    bindL kindOf (P.zip vs) m x = some v
  | [], _, _, _, _, h, _, _=>by simp at h
  | _ :: _, [], _, _, _, _, h, _=>by simp at h
  | p :: P, w :: vs, 0, m, nd, h1, h2, hk=>by
    simp at h1 h2; subst h1; subst h2
    show bindL kindOf ((p, w) :: P.zip vs) m p = _
    unfold bindL
    rw [V1 fun v hv=>(List.nodup_cons.mp nd).1 (List.of_mem_zip hv).1, if_pos hk]
    simp
  | p :: P, w :: vs, i + 1, m, nd, h1, h2, hk=>by
    show bindL kindOf ((p, w) :: P.zip vs) m x = _
    unfold bindL
    exact VY (i:=i) (List.nodup_cons.mp nd).2 (by simpa using h1) (by simpa using h2) hk
theorem V9 {kindOf : Str -> Option NameKind} {x : Str} {v : Value} : ∀ {P : List Str} {vs : List Value} {i : Nat} {m : Str -> Option Value}, P.Nodup -> P[i]? = some x -> vs[i]? = some v -> kindOf x ≠ some .local ->
    bindC kindOf (P.zip vs) m x = some v
  | [], _, _, _, _, h, _, _=>by simp at h
  | _ :: _, [], _, _, _, _, h, _=>by simp at h
  | p :: P, w :: vs, 0, m, nd, h1, h2, hk=>by
    simp at h1 h2; subst h1; subst h2
    show bindC kindOf ((p, w) :: P.zip vs) m p = _
    unfold bindC
    rw [Ub fun v hv=>(List.nodup_cons.mp nd).1 (List.of_mem_zip hv).1, if_neg hk]
    simp
  | p :: P, w :: vs, i + 1, m, nd, h1, h2, hk=>by
    show bindC kindOf ((p, w) :: P.zip vs) m x = _
    unfold bindC
    exact V9 (i:=i) (List.nodup_cons.mp nd).2 (by simpa using h1) (by simpa using h2) hk
noncomputable def J7 (N : List Str) (vs : List V) : St:=vs.map some ++ List.replicate (N.length - vs.length) none
noncomputable def Cg (CX : CXT) (P : Program) (w : World) (K : PySem.W.Frag) (mg : Str -> Option Value) (base : Heap) (N : List Str) (qual : Str) (scope : Scope) (f : Addr) (cd : Value) (A : Around) (outer : List Env) (s : Shared) (H : Hp) (E : XK) : Cx where
  prog:=P
  w:=w
  K:=K
  mg:=mg
  base:=base
  A:=A.deeper (envOfC qual scope s.heap.objs.size f cd)
  N:=N
  s₀:=s
  H₀:=H
  env:=envOfC qual scope s.heap.objs.size f cd
  outer:=outer
  stack:=envOfC qual scope s.heap.objs.size f cd :: outer
  ex:=[]
  calm:=true
  fn:=fun _=>true
  pn:=[]
  xe:=fun e s'=>wpAny (model P w) (A.deeper (envOfC qual scope s.heap.objs.size f cd)) (leaving (envOfC qual scope s.heap.objs.size f cd) e) (fun _ s''=>CX outer H s E e s'') (fun e' s''=>CX outer H s E e' s'') s'
theorem Ka {sc : Scope} {n : Nat} {x : Str} (h : sc.names.lookup x = some .cell) : ∃ c, (cellsFrom n sc.names []).lookup x = some c:=by
  have q:=PySem.W.cellsFrom_some sc.names n [] (.inl h)
  exact Option.isSome_iff_exists.mp q
theorem G3 {CX : CXT} {P : Program} {w : World} {K : PySem.W.Frag} {mg : Str -> Option Value} {base : Heap} {N ps : List Str} {qual : Str} {scope : Scope} {f : Addr} {cd : Value} {A : Around} {outer : List Env} {s s1 : Shared} {H : Hp} {E : XK} {us : List Value} {vs : List V}
    (S : FnScope N ps scope) (hd : A.handled = none) (e0 : Env0 P w K mg base A outer s H) (hl : vs.length = ps.length) (r : XV vs us)
    (x : InCallC s s.heap.objs.size (bindL (envOfC qual scope s.heap.objs.size f cd).kindOf (ps.zip us) fun _=>none) (cellsFrom (s.heap.objs.size + 1) scope.names []) (bindC (envOfC qual scope s.heap.objs.size f cd).kindOf (ps.zip us) fun _=>none) s1) :
    Inv (Cg CX P w K mg base N qual scope f cd A outer s H E) [] (J7 N vs) H s1:=by
  have hpl : ps.length <= N.length:=by have:=congrArg List.length S.pre; rw [List.length_take] at this; omega
  obtain ⟨h1, tk, rfl, hk⟩:=x.done
  have noA : ∀ b : Addr, b ∉ (Cg CX P w K mg base N qual scope f cd A outer s H E).ex:=fun b z=>absurd (show b ∈ ([] : List Addr) from z) (by simp)
  refine ⟨⟨e0.mod, S.kind, rfl, rfl, Nat.le_refl _, fun y z c h1 h2=>?_, fun y hy=>?_, fun y c _ h=>?_, fun _=>hd, Around.frames_deeper e0.frames, .inr ⟨rfl, rfl⟩, fun b z=>absurd z (noA b), e0.bs, e0.bsz, fun b _ _=>noA b, fun b z=>absurd z (noA b), e0.funs, e0.frf⟩,
    rfl, e0.bare, Un.kept hk, ⟨_, x.toInCall.ns, fun i y v h1 h2 h3=>?_⟩, fun y c h=>⟨_, x.cell y c h⟩, e0.hok.fresh (Nat.le_refl _), fun y c h=>?_, fun p hp=>absurd (show p ∈ ([] : List (Addr × Obj)) from hp) (by simp), e0.hok.kept hk, ?_⟩
  . exact name_of_addr x.apart (PySem.mem_of_lookup h1) (PySem.mem_of_lookup h2)
  . have hy : scope.names.lookup y = some .cell ∨ scope.names.lookup y = some .free := hy
    rcases hy with hy | hy
    . exact Ka hy
    . exact absurd rfl (S.nofree _ (PySem.mem_of_lookup hy))
  . exact Nat.le_of_lt (x.above y c (PySem.mem_of_lookup h))
  . have hi : i < vs.length:=by
      unfold J7 at h2
      by_cases hi : i < vs.length
      . exact hi
      . rw [List.getElem?_append_right (by simpa using hi)] at h2
        rw [List.getElem?_replicate] at h2
        split at h2 <;> cases h2
    have ha : vs[i]? = some v:=by
      unfold J7 at h2
      rw [List.getElem?_append_left (by simpa using hi), List.getElem?_map] at h2
      cases e : vs[i]? with
      | none=>rw [e] at h2; cases h2
      | some a=>rw [e] at h2; cases h2; rfl
    obtain ⟨u, hu, rv⟩:=r.get ha
    have hp : ps[i]? = some y:=by
      rw [← S.pre, List.getElem?_take_of_lt (by omega)]; exact h1
    have ndP : ps.Nodup:=by rw [← S.pre]; exact S.nd.sublist (List.take_sublist _ _)
    refine ⟨u, rv, ?_⟩
    rcases S.par y (List.mem_of_getElem? hp) with k | k
    . exact .inl ⟨k, VY ndP hp hu k⟩
    . obtain ⟨c, e⟩ := Ka (n := s.heap.objs.size + 1) k
      refine .inr ⟨.inl k, c, e, ?_⟩
      have q:=x.cell y c e
      rw [V9 ndP hp hu (by show scope.names.lookup y ≠ _; rw [k]; decide)] at q
      exact q
  . exact e0.hok.fresh (Nat.le_of_lt (x.above y c (PySem.mem_of_lookup h)))
  . unfold J7
    show _ = N.length
    rw [List.length_append, List.length_map, List.length_replicate]
    omega
theorem EN {CX : CXT} {P : Program} {w : World} {K : PySem.W.Frag} {mg : Str -> Option Value} {base : Heap} {k : Nat} {f : Addr} {name qual : Str} {params : Arguments} {body : List Stmt} {scope : Scope} {dV kV doc pm cdv ct oc : Value} {an od : Option Addr}
    {osl : Array (Option Value)} {N ps : List Str} {sp : Sp} (lk : K.lookup f = some ⟨oc, od, .func (PySem.W.fnOf name qual params body scope dV kV doc pm an cdv ct), osl⟩) (hcd : PySem.W.codeIn K cdv qual = true) (S : FnScope N ps scope)
    (len : ∀ vs H Q E, sp vs H Q E -> vs.length = ps.length)
    (hbody : ∀ (A : Around) (outer : List Env) (s : Shared) (H : Hp) (vs : List V) (Q : VK) (E : XK), Room k (A.deeper (envOfC qual scope s.heap.objs.size f cdv)) -> sp vs H Q E ->
      ∃ t, PSs (Cg CX P w K mg base N qual scope f cdv A outer s H E) body t /\ t { nx:=fun _ H'=>Q .non H', rt:=Q } (J7 N vs) H) :
    FnOk P w K mg base CX (k + 1) f (PySem.W.fnOf name qual params body scope dV kV doc pm an cdv ct) ps sp:=by
  refine ⟨len, fun A outer s H args us vs Q E hr e0 hb r hsp=>?_⟩
  have hl:=len _ _ _ _ hsp
  have KX : K.In s.heap:=e0.mod.kin.keeps fun b o e=>(e0.bs b o e).1
  have lim : s.heap.NoLimit:=e0.mod.nolimit.keeps fun b o e=>(e0.bs b o e).1
  have hkind : ∀ y ∈ ps.zip us, scope.names.lookup y.1 = some .local ∨ (scope.names.lookup y.1 = some .cell /\ ((cellsFrom (s.heap.objs.size + 1) scope.names []).lookup y.1).isSome = true):=fun ⟨n, v⟩ hy=>by
    rcases S.par n (List.of_mem_zip hy).1 with q | q
    . exact .inl q
    . exact .inr ⟨q, PySem.W.cellsFrom_some _ _ _ (.inl q)⟩
  refine codeAny_call_function hr.depth (KX _ _ lk) rfl S.co S.gen rfl (PySem.W.codeRec_of KX hcd) (hb _ _ _ _ ?_)
  refine wpAny_newFunctionEnv_cells S.kind hkind fun env he s1 x=>?_
  subst he
  refine ⟨lim.keeps x.toInCall.keep, codeAny_func ?_⟩
  obtain ⟨t, ht, hq⟩:=hbody A outer s H vs Q E (hr.deeper _) hsp
  have I : Inv (Cg CX P w K mg base N qual scope f cdv A outer s H E) [] (J7 N vs) H s1:=G3 S hr.hd e0 hl r x
  refine wpAny_mono (ht [] s1 (J7 N vs) H _ I hq) (fun fl s' hs=>?_) fun e s' hs=>hs
  have fin : ∀ {σ' : St} {H' : Hp} {v : V} {u : Value}, Inv (Cg CX P w K mg base N qual scope f cdv A outer s H E) [] σ' H' s' -> X2 v u -> Q v H' -> CE outer P w H s Q u s':=
    fun {σ' H' v u} J rv q=>⟨v, H', J.os, J.bare, J.base, J.hok, rv, q⟩
  cases fl with
  | ret u=>
    obtain ⟨v, σ', H', J, rv, q⟩:=hs
    exact fin J rv q
  | next=>
    obtain ⟨σ', H', J, q⟩:=hs
    exact fin (v:=V.non) (u:=Value.none) J rfl q
  | brk=>
    obtain ⟨_, _, _, q⟩:=hs
    exact False.elim q
  | cont=>
    obtain ⟨_, _, _, q⟩:=hs
    exact False.elim q
end L2
namespace L2
open PySem PySem.Spec PyProof.Rows
section
variable {X : Cx} {x : Str} {p pos : Pos} {e : Expr} {es : List Expr} {t : TA} {id T : String} {r : List V -> Hp -> VK -> Prop}
noncomputable def tCB (r : List V -> Hp -> VK -> Prop) (t : TA) : TE:=fun σ H Q=>t σ H fun vs H1=>r vs H1 Q
theorem Xy (hc : Qi X (.builtin id) r) (hg : Gl X x) (hm : X.mg x = none) (hv : bootBuiltins x = some (.builtin id)) (ha : PA X (e :: es) t) (hn : x ≠ "__name__":=by decide) (hdb : (x == ("__debug__" : Str)) = false:=by decide)
    (he : starEach (e :: es) X.env = (false, eval e X.env) :: starEach es X.env:=by rfl) (hpl : (backTo pos (starEach es X.env)).any (·.1) = false:=by rfl) : PE X (.Call (.Name x p) (e :: es) [] pos) (tCB r t):=by
  intro pins s σ H Q I h
  refine wpAny_Call_Name_kw (Q3 I hg hm hv ?_ hn hdb)
  exact PyProof.Rows.callWith_builtin1 (thn (ha pos pins s σ H _ I h) fun us s1 ⟨vs, H1, I1, r1, q1⟩=>hc pins s1 σ H1 vs us Q I1 r1 q1) he hpl
theorem KY (hc : Qi X (.type T) r) (hg : Gl X x) (hm : X.mg x = none) (hv : bootBuiltins x = some (.type T)) (ha : PA X (e :: es) t) (hn : x ≠ "__name__":=by decide) (hdb : (x == ("__debug__" : Str)) = false:=by decide)
    (he : starEach (e :: es) X.env = (false, eval e X.env) :: starEach es X.env:=by rfl) (hpl : (backTo pos (starEach es X.env)).any (·.1) = false:=by rfl) : PE X (.Call (.Name x p) (e :: es) [] pos) (tCB r t):=by
  intro pins s σ H Q I h
  refine wpAny_Call_Name_kw (Q3 I hg hm hv ?_ hn hdb)
  exact PyProof.Rows.callWith_type1 (thn (ha pos pins s σ H _ I h) fun us s1 ⟨vs, H1, I1, r1, q1⟩=>hc pins s1 σ H1 vs us Q I1 r1 q1) he hpl
end
end L2
namespace HT
open PySem PyProof.Rows
section
open PySem.SeqAt
open PySem.AutoSeq1 (wpAny_loadPart')
open PySem.MeetsSeq PySem.MeetsSeq2 PySem.MeetsSeq3
end
section
variable {prog : Program} {w : World} {A : Around} {E : Value -> Shared -> Prop} {s : Shared}
noncomputable def sIx (n d : Nat) : Option Int -> Nat
  | none=>d
  | some v=>if v < 0 then (v + (n : Int)).toNat else min v.toNat n
theorem sIx_none (n d : Nat) : sIx n d none = d:=rfl
theorem sIx_nat (n d k : Nat) : sIx n d (some (k : Int)) = min k n:=by
  show (if (k : Int) < 0 then ((k : Int) + (n : Int)).toNat else min (k : Int).toNat n) = min k n
  rw [if_neg (by omega), Int.toNat_natCast]
end
end HT
namespace L2
open PySem PySem.Spec PyProof.Rows
noncomputable abbrev TO:=St -> Hp -> (Option Int -> Hp -> Prop) -> Prop
noncomputable def PO (X : Cx) (e : Option Expr) (t : TO) : Prop:=
  ∀ (pins : List (Addr × Obj)) (s : Shared) (σ : St) (H : Hp) (Q : Option Int -> Hp -> Prop), Inv X pins σ H s -> t σ H Q ->
    wpAny (model X.prog X.w) X.A (evalPart e X.env) (fun u s'=>∃ o H', Inv X pins σ H' s' /\ IsPart u o /\ Q o H') X.xe s
noncomputable def Ga : TO:=fun _ H Q=>Q none H
noncomputable def B0 (t : TE) : TO:=fun σ H Q=>t σ H fun x H1=>∃ i, x = .int i /\ Q (some i) H1
section
variable {X : Cx} {e : Expr} {te : TE} {lo hi : Option Expr} {tl th : TO} {pos p2 : Pos}
theorem Ui : PO X none Ga:=by
  intro pins s σ H Q I h
  rw [evalPart_none]
  exact wpAny_pure ⟨none, H, I, .none, h⟩
theorem UF (h : PE X e te) : PO X (some e) (B0 te):=by
  intro pins s σ H Q I hw
  rw [evalPart_some]
  refine thn (h pins s σ H _ I hw) fun u s1 ⟨x, H1, I1, r1, q1⟩=>?_
  obtain ⟨i, rfl, q⟩:=q1
  obtain ⟨t, rfl⟩:=r1
  exact ⟨some i, H1, I1, .int i t, q⟩
noncomputable def SlR (X : Cx) (r : V -> Option Int -> Option Int -> Hp -> VK -> Prop) : Prop:=
  ∀ (pins : List (Addr × Obj)) (s : Shared) (σ : St) (H : Hp) (x : V) (v vl vu : Value) (lo hi : Option Int) (sl : Addr) (Q : VK), Inv X pins σ H s -> X2 x v -> s.heap.IsSliceOf sl vl vu .none -> IsPart vl lo -> IsPart vu hi -> r x lo hi H Q ->
    ∃ T id, typeLookup (.type T) "__getitem__" = pure (some (.builtin id)) /\ s.TypeIs v T /\ wpAny (model X.prog X.w) X.A (getItem v (.ref sl)) (EP X pins σ Q) X.xe s
theorem SlR.or {r r' : V -> Option Int -> Option Int -> Hp -> VK -> Prop} (h : SlR X r) (h' : SlR X r') : SlR X (fun x lo hi H Q=>r x lo hi H Q ∨ r' x lo hi H Q):=by
  intro pins s σ H x v vl vu lo hi sl Q I rx hs pl pu q
  rcases q with q | q
  . exact h pins s σ H x v vl vu lo hi sl Q I rx hs pl pu q
  . exact h' pins s σ H x v vl vu lo hi sl Q I rx hs pl pu q
noncomputable def tSl (r : V -> Option Int -> Option Int -> Hp -> VK -> Prop) (te : TE) (tl th : TO) : TE:=fun σ H Q=>te σ H fun x H1=>tl σ H1 fun l H2=>th σ H2 fun u H3=>r x l u H3 Q
theorem Vx {r : V -> Option Int -> Option Int -> Hp -> VK -> Prop} (hr : SlR X r) (he : PE X e te) (hl : PO X lo tl) (hu : PO X hi th) : PE X (.Subscript e (.Slice lo hi none p2) pos) (tSl r te tl th):=by
  intro pins s σ H Q I h
  refine Subscript_ (thn (he pins s σ H _ I h) fun v s1 ⟨x, H1, I1, r1, q1⟩=>?_)
  refine wpAny_Slice (thn (hl pins s1 σ H1 _ I1 q1) fun vl s2 ⟨l, H2, I2, pl, q2⟩=>thn (hu pins s2 σ H2 _ I2 q2) fun vu s3 ⟨u, H3, I3, pu, q3⟩=>?_)
  rw [evalPart_none]
  refine wpAny_pure ?_
  have I4 : Inv X pins σ H3 { s3 with heap:=s3.heap.push { cls:=.type "slice", data:=.fields #[vl, vu, .none] } }:=I3.kept (t':=s3.toks) fun b ob q=>Heap.get?_push_of_some _ q
  obtain ⟨T, id, hT, ht, hg⟩:=hr pins { s3 with heap:=s3.heap.push { cls:=.type "slice", data:=.fields #[vl, vu, .none] } } σ H3 x v vl vu l u s3.heap.objs.size Q I4 r1 (Heap.IsSliceOf.new ..) pl pu q3
  show wpAny (model X.prog X.w) X.A (subscriptTail e (.Slice lo hi none p2) v (.ref s3.heap.objs.size)) (EP X pins σ Q) X.xe { s3 with heap:=s3.heap.push { cls:=.type "slice", data:=.fields #[vl, vu, .none] } }
  exact tail_any (ops:=[.ref s3.heap.objs.size, v]) ht hT hg (by with_unfolding_all rfl)
noncomputable def Be (xs : List V) (lo hi : Option Int) : List V:=(xs.drop (HT.sIx xs.length 0 lo)).take (HT.sIx xs.length xs.length hi - HT.sIx xs.length 0 lo)
theorem Uy (xs : List V) (lo hi : Option Int) : (Be xs lo hi).length <= xs.length:=by
  unfold Be
  rw [List.length_take, List.length_drop]
  omega
end
end L2
namespace L2
open PySem PySem.Spec PyProof.Rows
noncomputable def ixN (n : Nat) (i : Int) : Option Nat:=if 0 <= i then (if i < n then some i.toNat else none) else if -(n : Int) <= i then some (i + n).toNat else none
noncomputable def atI {α : Type} (xs : List α) (i : Int) : Option α:=(ixN xs.length i).bind fun j=>xs[j]?
theorem G7 {n : Nat} {i : Int} {j : Nat} (h : ixN n i = some j) : seqIndex? i n = some j /\ j < n /\ -(n : Int) <= i /\ i < n:=by
  unfold ixN at h
  by_cases h0 : 0 <= i
  . rw [if_pos h0] at h
    by_cases h1 : i < n
    . rw [if_pos h1] at h
      have e : i.toNat = j:=Option.some.inj h
      exact ⟨by rw [seqIndex_of h0 h1, e], by omega, by omega, h1⟩
    . rw [if_neg h1] at h; cases h
  . rw [if_neg h0] at h
    by_cases h1 : -(n : Int) <= i
    . rw [if_pos h1] at h
      have e : (i + n).toNat = j:=Option.some.inj h
      exact ⟨by rw [seqIndex_neg (by omega) h1, e], by omega, h1, by omega⟩
    . rw [if_neg h1] at h; cases h
theorem KZ {α : Type} {xs : List α} {i : Int} {v : α} (h : atI xs i = some v) : ∃ j, seqIndex? i xs.length = some j /\ xs[j]? = some v /\ j < xs.length /\ -(xs.length : Int) <= i /\ i < xs.length:=by
  unfold atI at h
  cases e : ixN xs.length i with
  | none=>rw [e] at h; cases h
  | some j=>
    rw [e] at h
    obtain ⟨h1, h2, h3, h4⟩:=G7 e
    exact ⟨j, h1, h, h2, h3, h4⟩
noncomputable def Cp (b : Expr) : Prop:=∀ o i, subscripted b false o i = operate [o, i] (getItem o i)
noncomputable def IxR (X : Cx) (r : R2) : Prop:=
  ∀ (value slice : Expr) (pins : List (Addr × Obj)) (s : Shared) (σ : St) (H : Hp) (x y : V) (v u : Value) (Q : VK), Inv X pins σ H s -> X2 x v -> X2 y u -> r x y H Q ->
    subscripted slice false v u = operate [v, u] (getItem v u) -> wpAny (model X.prog X.w) X.A (subscriptTail value slice v u) (EP X pins σ Q) X.xe s
noncomputable def MtR (X : Cx) (id : String) (r : V -> List V -> Hp -> VK -> Prop) : Prop:=
  ∀ (pins : List (Addr × Obj)) (s : Shared) (σ : St) (H : Hp) (x : V) (xs : List V) (v : Value) (us : List Value) (Q : VK), Inv X pins σ H s -> X2 x v -> XV xs us -> r x xs H Q ->
    wpAny (model X.prog X.w) X.A (call (.builtin id) (v :: us)) (EP X pins σ Q) X.xe s
section
variable {X : Cx} {a b : Expr} {ta tb : TE} {pos : Pos}
theorem IxR.or {r r' : R2} (h : IxR X r) (h' : IxR X r') : IxR X (fun x y H Q=>r x y H Q ∨ r' x y H Q):=by
  intro value slice pins s σ H x y v u Q I rx ry q hs
  rcases q with q | q
  . exact h value slice pins s σ H x y v u Q I rx ry q hs
  . exact h' value slice pins s σ H x y v u Q I rx ry q hs
theorem MtR.or {id : String} {r r' : V -> List V -> Hp -> VK -> Prop} (h : MtR X id r) (h' : MtR X id r') : MtR X id (fun x xs H Q=>r x xs H Q ∨ r' x xs H Q):=by
  intro pins s σ H x xs v us Q I rx rs q
  rcases q with q | q
  . exact h pins s σ H x xs v us Q I rx rs q
  . exact h' pins s σ H x xs v us Q I rx rs q
theorem XR {r : R2} (hr : IxR X r) (ha : PE X a ta) (hb : PE X b tb) (hs : Cp b) : PE X (.Subscript a b pos) (tOp r ta tb):=by
  intro pins s σ H Q I h
  exact Subscript_ (E7 ha hb I h fun v u s2 x y H2 I2 rx ry q=>hr a b pins s2 σ H2 x y v u Q I2 rx ry q (hs _ _))
noncomputable def BE (K : PySem.W.Frag) : R2:=fun x y H Q=>∃ p xs i v, x = .ref p /\ y = .int i /\ SqL K H p xs /\ atI xs i = some v /\ Q v H
noncomputable def EC (K : PySem.W.Frag) : R2:=fun x y H Q=>∃ p xs i v, x = .ref p /\ y = .int i /\ SqT K H p xs /\ atI xs i = some v /\ Q v H
theorem CA : IxR X (BE X.K):=by
  intro value slice pins s σ H x y v u Q I rx ry h hs
  obtain ⟨p, xs, i, z, rfl, rfl, hq, he, q⟩:=h
  cases rx
  obtain ⟨t, rfl⟩:=ry
  obtain ⟨its, r, pl, hz⟩:=I.list hq
  obtain ⟨j, h1, h2, h3, h4, h5⟩:=KZ he
  obtain ⟨w, ew, rw'⟩:=r.get h2
  have hl:=r.length
  have hn:=U6
  have fin : EP X pins σ Q w s:=⟨z, H, I, rw', q⟩
  by_cases h0 : 0 <= i
  . have hj : i.toNat = j:=by
      rw [seqIndex_of h0 h5] at h1
      exact Option.some.inj h1
    exact item_listR pl.isList h0 (by omega) (by rw [hj]; simpa using ew) fin hs
  . have hj : (i + (its.toArray.size : Int)).toNat = j:=by
      rw [seqIndex_neg (by omega) h4] at h1
      rw [List.size_toArray, ← hl]
      exact Option.some.inj h1
    exact subscriptTail_builtinR (x:=w) pl.isList.typeIs slot_list_getitem.lookup
      (wpAny_getItem_list_neg (Q:=fun r s'=>r = w /\ EP X pins σ Q r s') pl.isList (by omega) (by rw [List.size_toArray] <;> omega) (by omega) (by rw [hj]; simpa using ew) ⟨rfl, fin⟩) hs
theorem Bw : IxR X (EC X.K):=by
  intro value slice pins s σ H x y v u Q I rx ry h hs
  obtain ⟨p, xs, i, z, rfl, rfl, hq, he, q⟩:=h
  cases rx
  obtain ⟨t, rfl⟩:=ry
  obtain ⟨its, r, pl, hz⟩:=I.tuple hq
  obtain ⟨j, h1, h2, h3, h4, h5⟩:=KZ he
  obtain ⟨w, ew, rw'⟩:=r.get h2
  have hl:=r.length
  have hn:=U6
  have fin : EP X pins σ Q w s:=⟨z, H, I, rw', q⟩
  exact subscriptTail_builtinR (x:=w) pl.typeIs slot_tuple_getitem.lookup
    (getItem_tuple (j:=j) (Q:=fun r s'=>r = w /\ EP X pins σ Q r s') pl (by omega) (by omega) (by rw [List.size_toArray, ← hl]; exact h1) (by simpa using ew) ⟨rfl, fin⟩) hs
theorem KC (its : List Value) (n j : Nat) (u : Value) : Obj.mapSeq (·.setIfInBounds j u) { cls:=.type "list", data:=.seq its.toArray n } = { cls:=.type "list", data:=.seq (its.set j u).toArray n }:=by
  simp [Obj.mapSeq]
theorem Inv.lst {pins : List (Addr × Obj)} {σ : St} {H : Hp} {s : Shared} {p : Addr} {xs : List V} (I : Inv X pins σ H s) (h : H p = some (.lst xs)) :
    ∃ (its : List Value) (n : Nat), XV xs its /\ s.heap.get? p = some { cls:=.type "list", data:=.seq its.toArray n } /\ xs.length <= sizeLine:=by
  obtain ⟨z, its, n, r, e⟩:=I.hok p _ h
  exact ⟨its, n, r, e, z⟩
theorem Inv.lstUpd {pins : List (Addr × Obj)} {σ : St} {H : Hp} {s : Shared} {p : Addr} {xs ys : List V} {its its' : List Value} {n n' : Nat} {f : Obj -> Obj} (I : Inv X pins σ H s) (h : H p = some (.lst xs))
    (ho : s.heap.get? p = some { cls:=.type "list", data:=.seq its.toArray n }) (hf : f { cls:=.type "list", data:=.seq its.toArray n } = { cls:=.type "list", data:=.seq its'.toArray n' }) (r : XV ys its') (hz : ys.length <= sizeLine) (t : Nat) :
    Inv X pins σ (upd H p (.lst ys)) { s with heap:=s.heap.update p f, toks:=t }:=by
  have e : (s.heap.update p f).get? p = some { cls:=.type "list", data:=.seq its'.toArray n' }:=by
    rw [Heap.get?_update_self f ho (by rw [hf] <;> rfl), hf]
  refine I.write (x:=p) (e:=p) (by rw [h]; trivial) (.inl rfl) (fun b u hb q=>(Heap.get?_update_other _ _ (Ne.symm hb)).trans q) ⟨_, e⟩ ?_
  exact ⟨hz, its', n', r, e⟩
noncomputable def Eb : V -> V -> V -> Hp -> (Hp -> Prop) -> Prop:=fun o i v H Q=>∃ p xs k j, o = .ref p /\ i = .int k /\ H p = some (.lst xs) /\ ixN xs.length k = some j /\ Q (upd H p (.lst (xs.set j v)))
theorem FC : Hr X Eb:=by
  intro pins s σ H o i v ov iv u Q I ro ri rv h
  obtain ⟨p, xs, k, j, rfl, rfl, hp, hj, q⟩:=h
  cases ro
  obtain ⟨t, rfl⟩:=ri
  obtain ⟨its, n, r, ho, hz⟩:=I.lst hp
  obtain ⟨h1, h2, h3, h4⟩:=G7 hj
  have hl:=r.length
  have hn:=U6
  have I' : Inv X pins σ (upd H p (.lst (xs.set j v))) { s with heap:=s.heap.update p (Obj.mapSeq (·.setIfInBounds j u)) }:=
    I.lstUpd hp ho (KC its n j u) (r.set rv j) (by rw [List.length_set]; exact hz) s.toks
  by_cases h0 : 0 <= k
  . have hk : k.toNat = j:=by
      rw [seqIndex_of h0 h4] at h1
      exact Option.some.inj h1
    exact PySem.W.ki_setAt ho h0 (by omega) (by rw [List.size_toArray, ← hl]; exact h4) (by rw [hk]; exact ⟨_, I', q⟩)
  . have hk : (k + (its.toArray.size : Int)).toNat = j:=by
      rw [seqIndex_neg (by omega) h3] at h1
      rw [List.size_toArray, ← hl]
      exact Option.some.inj h1
    exact PySem.W.ki_setBack ho (by omega) (by rw [List.size_toArray, ← hl]; exact h3) (by omega) (by rw [hk]; exact ⟨_, I', q⟩)
theorem VL (lo hi : Option Int) (n : Nat) : (sliceBounds lo hi none n).1 = ((HT.sIx n 0 lo : Nat) : Int) /\ (sliceBounds lo hi none n).2.1 = ((HT.sIx n n hi : Nat) : Int) /\ (sliceBounds lo hi none n).2.2 = 1:=by
  refine ⟨?_, ?_, rfl⟩
  . cases lo with
    | none=>simp [sliceBounds, HT.sIx]
    | some i=>
      simp only [sliceBounds, HT.sIx, Option.getD_none, show (1 : Int) > 0 by decide, if_true]
      by_cases h : i < 0
      . simp only [h, if_true] <;> omega
      . simp only [h, if_false] <;> omega
  . cases hi with
    | none=>simp [sliceBounds, HT.sIx]
    | some i=>
      simp only [sliceBounds, HT.sIx, Option.getD_none, show (1 : Int) > 0 by decide, if_true]
      by_cases h : i < 0
      . simp only [h, if_true] <;> omega
      . simp only [h, if_false] <;> omega
theorem JY (its : List Value) (lo hi : Option Int) : slicePick its.toArray lo hi none = ((its.drop (HT.sIx its.length 0 lo)).take (HT.sIx its.length its.length hi - HT.sIx its.length 0 lo)).toArray:=by
  obtain ⟨h1, h2, h3⟩:=VL lo hi its.toArray.size
  unfold slicePick
  rw [h1, h2, h3]
  simp only [sliceRange_one, pick_run, List.size_toArray] <;> rfl
noncomputable def EB (K : PySem.W.Frag) : V -> Option Int -> Option Int -> Hp -> VK -> Prop:=fun x lo hi H Q=>∃ a xs, x = .ref a /\ SqL K H a xs /\ ∀ p, H p = none -> Q (.ref p) (upd H p (.lst (Be xs lo hi)))
theorem CF : SlR X (EB X.K):=by
  intro pins s σ H x v vl vu lo hi sl Q I rx hs pl pu h
  obtain ⟨a, xs, rfl, hx, q⟩:=h
  cases rx
  obtain ⟨its, r, ht, hz⟩:=I.list hx
  have hlen:=r.length
  refine ⟨"list", _, slot_list_getitem.lookup, ht.isList.typeIs, ?_⟩
  refine wpAny_getItem_list_slice ht.isList hs pl pu .none (by simp) ?_ (by rw [List.size_toArray] <;> omega)
  rw [JY, ← hlen]
  refine ⟨.ref s.heap.objs.size, _, I.laid (t':=s.toks) (o:=.lst (Be xs lo hi)) (fun b ob q=>Heap.get?_push_of_some _ q) (Nat.le_refl _) ?_, rfl, q _ (I.hok.fresh (Nat.le_refl _))⟩
  exact ⟨Nat.le_trans (Uy xs lo hi) hz, _, 0, (r.drop (HT.sIx xs.length 0 lo)).take (HT.sIx xs.length xs.length hi - HT.sIx xs.length 0 lo), Heap.get?_push_size _ rfl⟩
noncomputable def QJ : V -> Bool
  | .non=>true
  | .bl _=>true
  | .int _=>true
  | .str _=>true
  | _=>false
noncomputable def eqV : V -> V -> Bool
  | .non, .non=>true
  | .bl a, .bl b=>a == b
  | .bl a, .int b=>(if a then 1 else 0) == b
  | .int a, .bl b=>a == (if b then 1 else 0)
  | .int a, .int b=>a == b
  | .str a, .str b=>a == b
  | _, _=>false
theorem BA {A : Around} {s : Shared} {y x : V} {u v : Value} (ry : X2 y u) (rx : X2 x v) (fy : QJ y = true) (fx : QJ x = true) : SeqAt.EqAt A s u v (eqV y x):=by
  cases y with
  | non=>
    cases ry
    cases x with
    | non=>cases rx; exact SeqAt.EqAt.same _
    | bl b=>cases rx; exact SeqAt.EqAt.none_bool b
    | int b=>obtain ⟨t, rfl⟩:=rx; exact SeqAt.EqAt.none_int b t
    | str b=>obtain ⟨t, rfl⟩:=rx; exact SeqAt.EqAt.none_str b t
    | _=>exact absurd (show false = true from fx) Bool.false_ne_true
  | bl a=>
    cases ry
    cases x with
    | non=>cases rx; exact SeqAt.EqAt.bool_none a
    | bl b=>cases rx; exact SeqAt.EqAt.bool_bool a b
    | int b=>obtain ⟨t, rfl⟩:=rx; exact SeqAt.EqAt.bool_int a b t
    | str b=>obtain ⟨t, rfl⟩:=rx; exact SeqAt.EqAt.bool_str a b t
    | _=>exact absurd (show false = true from fx) Bool.false_ne_true
  | int a=>
    obtain ⟨t', rfl⟩:=ry
    cases x with
    | non=>cases rx; exact SeqAt.EqAt.int_none a t'
    | bl b=>cases rx; exact SeqAt.EqAt.int_bool a t' b
    | int b=>obtain ⟨t, rfl⟩:=rx; exact SeqAt.EqAt.int_int a t' b t
    | str b=>obtain ⟨t, rfl⟩:=rx; exact SeqAt.EqAt.int_str a t' b t
    | _=>exact absurd (show false = true from fx) Bool.false_ne_true
  | str a=>
    obtain ⟨t', rfl⟩:=ry
    cases x with
    | non=>cases rx; exact SeqAt.EqAt.str_none a t'
    | bl b=>cases rx; exact SeqAt.EqAt.str_bool a t' b
    | int b=>obtain ⟨t, rfl⟩:=rx; exact SeqAt.EqAt.str_int a t' b t
    | str b=>obtain ⟨t, rfl⟩:=rx; exact SeqAt.EqAt.str_str a t' b t
    | _=>exact absurd (show false = true from fx) Bool.false_ne_true
  | _=>exact absurd (show false = true from fy) Bool.false_ne_true
noncomputable def eqU (x : V) (u : Value) : Bool:=match u with
  | .none=>eqV .non x
  | .bool b=>eqV (.bl b) x
  | .int i _=>eqV (.int i) x
  | .str z _=>eqV (.str z) x
  | _=>false
theorem G8 {x y : V} {u : Value} (r : X2 y u) (f : QJ y = true) : eqU x u = eqV y x:=by
  cases y with
  | non=>cases r; rfl
  | bl b=>cases r; rfl
  | int i=>obtain ⟨t, rfl⟩:=r; rfl
  | str z=>obtain ⟨t, rfl⟩:=r; rfl
  | _=>exact absurd (show false = true from f) Bool.false_ne_true
theorem Jx {x : V} : ∀ {xs : List V} {us : List Value}, XV xs us -> xs.all QJ = true -> us.any (eqU x) = xs.any fun y=>eqV y x
  | _, _, .nil, _=>rfl
  | y :: xs, u :: us, .cons r t, f=>by
    rw [List.all_cons, Bool.and_eq_true] at f
    rw [List.any_cons, List.any_cons, G8 r f.1, Jx t f.2]
theorem ZQ {A : Around} {s : Shared} {x : V} {v : Value} (rx : X2 x v) (fx : QJ x = true) : ∀ {xs : List V} {us : List Value}, XV xs us -> xs.all QJ = true -> ∀ u ∈ us, SeqAt.EqAt A s u v (eqU x u)
  | _, _, .nil, _=>fun u hu=>by cases hu
  | y :: xs, u :: us, .cons r t, f=>fun u' hu=>by
    rw [List.all_cons, Bool.and_eq_true] at f
    rcases List.mem_cons.mp hu with rfl | hu
    . rw [G8 r f.1]; exact BA r rx f.1 fx
    . exact ZQ rx fx t f.2 u' hu
noncomputable def inV (x : V) (xs : List V) : Bool:=xs.any fun y=>eqV y x
noncomputable def rIn (K : PySem.W.Frag) (neg : Bool) : R2:=fun x y H Q=>∃ p xs, y = .ref p /\ (SqL K H p xs ∨ SqT K H p xs) /\ QJ x = true /\ xs.all QJ = true /\ Q (.bl (if neg then !inV x xs else inV x xs)) H
theorem GK : OpR X (compareOp .In) (rIn X.K false):=by
  intro pins s σ H x y v u Q I rx ry h
  obtain ⟨p, xs, rfl, hq, fx, fs, q⟩:=h
  cases ry
  rcases hq with hq | hq
  . obtain ⟨its, r, pl, hz⟩ := I.list hq
    refine SeqAt.in_listAt (eqU x) pl.isList (fun w hw=>ZQ rx fx r fs w (by simpa using hw)) ⟨.bl _, H, I, rfl, ?_⟩
    rw [show its.toArray.any (eqU x) = its.any (eqU x) by simp, Jx r fs]
    exact q
  . obtain ⟨its, r, pl, hz⟩ := I.tuple hq
    refine SeqAt.in_tupleAt (eqU x) pl (fun w hw=>ZQ rx fx r fs w (by simpa using hw)) ⟨.bl _, H, I, rfl, ?_⟩
    rw [show its.toArray.any (eqU x) = its.any (eqU x) by simp, Jx r fs]
    exact q
theorem Uc : OpR X (compareOp .NotIn) (rIn X.K true):=by
  intro pins s σ H x y v u Q I rx ry h
  obtain ⟨p, xs, rfl, hq, fx, fs, q⟩:=h
  cases ry
  rcases hq with hq | hq
  . obtain ⟨its, r, pl, hz⟩ := I.list hq
    refine SeqAt.notIn_listAt (eqU x) pl.isList (fun w hw=>ZQ rx fx r fs w (by simpa using hw)) ⟨.bl _, H, I, rfl, ?_⟩
    rw [show its.toArray.any (eqU x) = its.any (eqU x) by simp, Jx r fs]
    exact q
  . obtain ⟨its, r, pl, hz⟩ := I.tuple hq
    refine SeqAt.notIn_tupleAt (eqU x) pl (fun w hw=>ZQ rx fx r fs w (by simpa using hw)) ⟨.bl _, H, I, rfl, ?_⟩
    rw [show its.toArray.any (eqU x) = its.any (eqU x) by simp, Jx r fs]
    exact q
theorem VJ : Qi X (.builtin "len") (fun xs H Q=>∃ p ys, xs = [.ref p] /\ (SqL X.K H p ys ∨ SqT X.K H p ys) /\ Q (.int ys.length) H):=by
  intro pins s σ H xs us Q I r h
  obtain ⟨p, ys, rfl, hq, q⟩:=h
  obtain ⟨u, rfl, rx⟩:=GS r
  cases rx
  have hn:=U6
  rcases hq with hq | hq
  . obtain ⟨its, r', pl, hz⟩ := I.list hq
    have hlen:=r'.length
    exact Calls.call_len_list pl.isList (by simp only [List.size_toArray] <;> omega) ⟨.int ys.length, H, I.tok _, ⟨s.toks + 1, by rw [List.size_toArray, hlen]⟩, q⟩
  . obtain ⟨its, r', pl, hz⟩ := I.tuple hq
    have hlen:=r'.length
    exact len_tuple pl (by simp only [List.size_toArray] <;> omega) ⟨.int ys.length, H, I.tok _, ⟨s.toks + 1, by rw [List.size_toArray, hlen]⟩, q⟩
theorem Qi.or {f : Value} {r r' : List V -> Hp -> VK -> Prop} (h : Qi X f r) (h' : Qi X f r') : Qi X f (fun xs H Q=>r xs H Q ∨ r' xs H Q):=by
  intro pins s σ H xs us Q I rs q
  rcases q with q | q
  . exact h pins s σ H xs us Q I rs q
  . exact h' pins s σ H xs us Q I rs q
theorem VW : Qi X (.type "list") (fun xs H Q=>∃ p ys, xs = [.ref p] /\ (SqL X.K H p ys ∨ SqT X.K H p ys) /\ ∀ l, H l = none -> Q (.ref l) (upd H l (.lst ys))):=by
  intro pins s σ H xs us Q I r h
  obtain ⟨p, ys, rfl, hq, q⟩:=h
  obtain ⟨u, rfl, rx⟩:=GS r
  cases rx
  have fin : ∀ (its : List Value), XV ys its -> ys.length <= sizeLine -> ∀ (h' : Heap) (c' : Nat), (∀ b o', s.heap.get? b = some o' -> h'.get? b = some o') ->
      h'.get? s.heap.objs.size = some { cls:=.type "list", dict:=none, data:=.seq its.toArray c', slots:=#[] } -> EP X pins σ Q (.ref s.heap.objs.size) { s with heap:=h' }:=fun its r' hz h' c' kp e=>
    ⟨.ref s.heap.objs.size, _, I.laid (t':=s.toks) kp (Nat.le_refl _) (show YS X.prog X.w _ h' _ (.lst ys) from ⟨hz, its, c', r', e⟩), rfl, q _ (I.hok.fresh (Nat.le_refl _))⟩
  rcases hq with hq | hq
  . obtain ⟨its, r', pl, hz⟩ := I.list hq
    have hlen:=r'.length
    obtain ⟨o, ho, hc, n, hd⟩:=pl.isList
    exact call_list_seq p (.inl rfl) ho hc hd (fun h' c' kp e=>fin its r' hz h' c' kp e) (by simp only [List.size_toArray] <;> omega)
  . obtain ⟨its, r', pl, hz⟩ := I.tuple hq
    have hlen:=r'.length
    obtain ⟨o, ho, hc, n, hd⟩:=pl
    exact call_list_seq p (.inr rfl) ho hc hd (fun h' c' kp e=>fin its r' hz h' c' kp e) (by simp only [List.size_toArray] <;> omega)
noncomputable def tyV (K : PySem.W.Frag) (T : String) (x : V) (H : Hp) : Prop:=match x with
  | .str _=>T = "str"
  | .int _=>T = "int"
  | .ref p=>(T = "list" /\ ∃ xs, SqL K H p xs) ∨ (T = "tuple" /\ ∃ o, K.lookup p = some o /\ o.cls = .type "tuple" /\ o.dict = none) ∨
      (T = "dict" /\ ((∃ kvs, H p = some (.dK kvs)) ∨ ∃ kvs, H p = some (.dT kvs))) ∨ (T = "set" /\ ∃ S n, H p = some (.set S n))
  | _=>False
theorem DH {pins : List (Addr × Obj)} {σ : St} {H : Hp} {s : Shared} {T : String} {x : V} {v : Value} (I : Inv X pins σ H s) (r : X2 x v) (ty : tyV X.K T x H) :
    s.TypeIs v T /\ ∀ a, v = .ref a -> ∃ ob, s.heap.get? a = some ob /\ ob.dict = none:=by
  cases x with
  | str z=>
    obtain ⟨t, rfl⟩:=r
    cases (show T = "str" from ty)
    exact ⟨typeIs_str s z t, fun _ e=>nomatch e⟩
  | int i=>
    obtain ⟨t, rfl⟩:=r
    cases (show T = "int" from ty)
    exact ⟨typeIs_int s i t, fun _ e=>nomatch e⟩
  | ref p=>
    cases r
    rcases ty with ⟨rfl, xs, hq⟩ | ⟨rfl, o, hk, hc, hd⟩ | ⟨rfl, hk⟩ | ⟨rfl, S, n, hk⟩
    . obtain ⟨its, _, pl, _⟩ := I.list hq
      refine ⟨pl.isList.typeIs, fun a e=>?_⟩
      cases e
      obtain ⟨o, n, e, c, hd, _⟩:=pl
      exact ⟨o, e, hd⟩
    . refine ⟨⟨o, I.kIn p o hk, hc⟩, fun a e => ?_⟩
      cases e
      exact ⟨o, I.kIn _ o hk, hd⟩
    . have z : ∃ o, s.heap.get? p = some o /\ o.ExactDict:=by
        rcases hk with ⟨kvs, hk⟩ | ⟨kvs, hk⟩
        . obtain ⟨_, _, _, _, o, _, _, e, ex, _⟩ := I.hok p _ hk
          exact ⟨o, e, ex⟩
        . obtain ⟨_, _, _, _, o, _, _, e, ex, _⟩ := I.hok p _ hk
          exact ⟨o, e, ex⟩
      obtain ⟨o, e, ex⟩:=z
      refine ⟨⟨o, e, ex.1⟩, fun a e2=>?_⟩
      cases e2
      exact ⟨o, e, ex.2.1⟩
    . obtain ⟨o, _, _, _, e, ex, _⟩ := I.hok p _ hk
      refine ⟨⟨o, e, ex.1⟩, fun a e2=>?_⟩
      cases e2
      exact ⟨o, e, ex.2.1⟩
  | _=>exact False.elim ty
noncomputable def Hs (K : PySem.W.Frag) (T : String) (r : V -> List V -> Hp -> VK -> Prop) (to : TE) : TE:=fun σ H Q=>to σ H fun x H1=>tyV K T x H1 /\ r x [] H1 Q
noncomputable def tBM (K : PySem.W.Frag) (T : String) (r : V -> List V -> Hp -> VK -> Prop) (to : TE) (t : TA) : TE:=fun σ H Q=>to σ H fun x H1=>tyV K T x H1 /\ t σ H1 fun xs H2=>r x xs H2 Q
variable {o e : Expr} {es : List Expr} {to : TE} {t : TA} {name : Str} {apos cpos : Pos} {T id : String} {r : V -> List V -> Hp -> VK -> Prop}
theorem Bn (pa : PlainAttrs T) (slot : Slot T name id) (hty : typeOf (.builtin id) = pure (.type "method_descriptor")) (hm : MtR X id r) (ho : PE X o to)
    (hbase : attributeBase o name X.env (eval o X.env) = eval o X.env:=by rfl) (hline : (apos.endLine == cpos.line) = true:=by rfl) : PE X (.Call (.Attribute o name apos) [] [] cpos) (Hs X.K T r to):=by
  intro pins s σ H Q I h
  refine wpAny_Call_method0_late hbase hline (thn (ho pins s σ H _ I h) fun v s1 ⟨x, H1, I1, r1, ty, q1⟩=>?_)
  obtain ⟨h1, h2⟩:=DH I1 r1 ty
  exact ⟨T, id, pa, slot, hty, h1, h2, Calls.callWith_builtin rfl (PySem.evalArgs_none (hm pins s1 σ H1 x [] v [] Q I1 r1 .nil q1))⟩
theorem Q8 (pa : PlainAttrs T) (slot : Slot T name id) (hty : typeOf (.builtin id) = pure (.type "method_descriptor")) (hm : MtR X id r) (ho : PE X o to) (ha : PA X (e :: es) t)
    (hbase : attributeBase o name X.env (eval o X.env) = eval o X.env:=by rfl)
    (hfew : ((backTo cpos (starEach (e :: es) X.env)).all (fun x=>!x.1) && (backToKw cpos (keywordEach [] X.env)).all (fun x=>x.1.isSome)
      && decide ((e :: es).length + ([] : List Keyword).length + (if ([] : List Keyword).isEmpty then 0 else 1) < 30)) = true:=by rfl)
    (hline : (apos.endLine == cpos.line) = true:=by rfl) (hs : starEach (e :: es) X.env = (false, eval e X.env) :: starEach es X.env:=by rfl) (hplain : (backTo cpos (starEach es X.env)).any (·.1) = false:=by rfl) :
    PE X (.Call (.Attribute o name apos) (e :: es) [] cpos) (tBM X.K T r to t):=by
  intro pins s σ H Q I h
  refine wpAny_Call_method_late hbase hfew hline rfl (thn (ho pins s σ H _ I h) fun v s1 ⟨x, H1, I1, r1, ty, q1⟩=>?_)
  obtain ⟨h1, h2⟩:=DH I1 r1 ty
  refine ⟨T, id, pa, slot, hty, h1, h2, ?_⟩
  have hA:=ha cpos pins s1 σ H1 _ I1 q1
  rw [hs] at hA ⊢
  refine Calls.callWith_builtin (by show (false || (backTo cpos (starEach es X.env)).any (·.1)) = false; rw [hplain] <;> rfl) (Calls.evalArgs_plain ?_)
  exact thn hA fun us s2 ⟨vs, H2, I2, r2, q2⟩=>hm pins s2 σ H2 x vs v us Q I2 r1 r2 q2
/- xs.append(e), list.index on a module's tuple .. are MtR facts of 06m -/
end
end L2
namespace L2
open PySem PySem.Spec PyProof.Rows
noncomputable def MtM (X : Cx) (id : String) (r : V -> List V -> Hp -> VK -> Prop) : Prop:=
  ∀ (pins : List (Addr × Obj)) (s : Shared) (σ : St) (H : Hp) (x : V) (xs : List V) (v : Value) (us : List Value) (Q : VK), Inv X pins σ H s -> X2 x v -> XV xs us -> r x xs H Q ->
    wpAny (model X.prog X.w) X.A (call (.builtin id) (v :: us)) (EP X pins σ Q) X.xe s
theorem XV.one : ∀ {x : V} {us : List Value}, XV [x] us -> ∃ u, us = [u] /\ X2 x u:=fun {x us} h=>by
  cases h with
  | cons r t=>
    cases t
    exact ⟨_, rfl, r⟩
theorem XV.two : ∀ {x y : V} {us : List Value}, XV [x, y] us -> ∃ u v, us = [u, v] /\ X2 x u /\ X2 y v:=fun {x y us} h=>by
  cases h with
  | cons r t=>
    cases t with
    | cons q t=>
      cases t
      exact ⟨_, _, rfl, r, q⟩
theorem XV.zero : ∀ {us : List Value}, XV [] us -> us = []
  | _, .nil=>rfl
theorem XV.dropLast {xs : List V} {us : List Value} (h : XV xs us) : XV xs.dropLast us.dropLast:=by
  induction h with
  | nil=>exact .nil
  | cons r t ih=>
    cases t with
    | nil=>exact .nil
    | cons q t'=>exact .cons r ih
theorem XV.eraseIdx : ∀ {xs : List V} {us : List Value} (i : Nat), XV xs us -> XV (xs.eraseIdx i) (us.eraseIdx i)
  | _, _, _, .nil=>.nil
  | _, _, 0, .cons _ t=>t
  | _, _, i + 1, .cons r t=>.cons r (XV.eraseIdx i t)
theorem XV.reverse {xs : List V} {us : List Value} (h : XV xs us) : XV xs.reverse us.reverse:=by
  induction h with
  | nil=>exact .nil
  | cons r t ih=>rw [List.reverse_cons, List.reverse_cons]; exact XV.append ih (.cons r .nil)
theorem XV.rep {xs : List V} {us : List Value} (h : XV xs us) : ∀ k : Nat, XV (List.replicate k xs).flatten (List.replicate k us).flatten
  | 0=>.nil
  | k + 1=>by
    rw [List.replicate_succ, List.replicate_succ, List.flatten_cons, List.flatten_cons]
    exact XV.append h (XV.rep h k)
theorem Kx {α : Type} (l : List α) : l.eraseIdx (l.length - 1) = l.dropLast:=by
  induction l with
  | nil=>rfl
  | cons a r ih=>
    cases r with
    | nil=>rfl
    | cons b r=>
      have e : (a :: b :: r).length - 1 = ((b :: r).length - 1) + 1:=by
        have h1 : (a :: b :: r).length = r.length + 2:=rfl
        have h2 : (b :: r).length = r.length + 1:=rfl
        omega
      rw [e, List.eraseIdx_cons_succ, ih]
      all_goals rfl
theorem VP {α : Type} : ∀ (l : List α) (i : Nat), (l.eraseIdx i).length <= l.length
  | [], _=>Nat.le_refl _
  | _ :: _, 0=>Nat.le_succ _
  | _ :: r, i + 1=>Nat.succ_le_succ (VP r i)
theorem V3 (its : List Value) : ∀ (k : Nat) (acc : List Value),
    List.foldl (fun x1 x2=>x1 ++ x2) acc.toArray (List.replicate k its.toArray) = (acc ++ (List.replicate k its).flatten).toArray
  | 0, acc=>by simp
  | k + 1, acc=>by
    have e : acc.toArray ++ its.toArray = (acc ++ its).toArray:=by simp
    have e2 : (acc ++ its) ++ (List.replicate k its).flatten = acc ++ (List.replicate (k + 1) its).flatten:=by
      rw [List.replicate_succ, List.flatten_cons, List.append_assoc]
    rw [← e2, ← V3 its k (acc ++ its), ← e, List.replicate_succ, List.foldl_cons]
section
variable {X : Cx} {pins : List (Addr × Obj)} {σ : St} {H : Hp} {s : Shared} {l b : Addr} {xs ys zs : List V}
theorem Inv.lset {its its' : List Value} {n : Nat} {f : Array Value -> Array Value} {t' : Nat} (I : Inv X pins σ H s) (hH : H l = some (.lst xs))
    (e : s.heap.get? l = some { cls:=.type "list", data:=.seq its.toArray n }) (hf : f its.toArray = its'.toArray) (hv : XV ys its') (hz : ys.length <= sizeLine) :
    Inv X pins σ (upd H l (.lst ys)) { s with heap:=s.heap.update l (Obj.mapSeq f), toks:=t' }:=by
  have q:=PySem.IsL.update e f
  rw [hf] at q
  refine I.write (x:=l) (e:=l) (by rw [hH]; exact trivial) (.inl rfl) (fun b' u hb hu=>(Heap.get?_update_other s.heap (Obj.mapSeq f) (Ne.symm hb)).trans hu) ⟨_, q⟩ ?_
  exact ⟨hz, its', _, hv, q⟩
theorem Inv.lnew {its : List Value} {t' : Nat} (I : Inv X pins σ H s) (hv : XV ys its) (hz : ys.length <= sizeLine) :
    Inv X pins σ (upd H s.heap.objs.size (.lst ys)) { s with heap:=s.heap.push { cls:=.type "list", data:=.seq its.toArray }, toks:=t' }:=
  I.laid (fun _ _ q=>Heap.get?_push_of_some _ q) (Nat.le_refl _) ⟨hz, its, 0, hv, Heap.get?_push_size _ rfl⟩
theorem Inv.fresh (I : Inv X pins σ H s) : H s.heap.objs.size = none:=I.hok.fresh (Nat.le_refl _)
theorem Inv.lstM (I : Inv X pins σ H s) (hH : H l = some (.lst xs)) : xs.length <= sizeLine /\ ∃ (its : List Value) (n : Nat), XV xs its /\ xs.length = its.length /\ s.heap.get? l = some { cls:=.type "list", data:=.seq its.toArray n }:=by
  obtain ⟨z, its, n, r, e⟩:=I.hok l _ hH
  exact ⟨z, its, n, r, r.length, e⟩
theorem Kg {n : Nat} (h : n <= sizeLine) : Builtin.List.listTooLong n = false:=by
  unfold Builtin.List.listTooLong
  exact decide_eq_false (by omega)
end
section
variable {X : Cx}
noncomputable def Q5 : V -> List V -> Hp -> VK -> Prop:=fun x vs H Q=>∃ l xs y, x = .ref l /\ vs = [y] /\ H l = some (.lst xs) /\ xs.length < sizeLine /\ Q .non (upd H l (.lst (xs ++ [y])))
theorem YG : MtM X "list.append" Q5:=by
  intro pins s σ H x vs v us Q I rx rv h
  obtain ⟨l, xs, y, rfl, rfl, hH, hz, q⟩:=h
  cases rx
  obtain ⟨u, rfl, ru⟩:=rv.one
  obtain ⟨z, its, n, r, hl, e⟩:=I.lstM hH
  refine call_meets F.slot_list_append ⟨_, e, rfl⟩ F.entry_list_append (F.args_list_append_2 _ _) (PySem.list_append l its.toArray n u (by rw [List.size_toArray]; omega)) ⟨e, ?_⟩
  refine ⟨.non, _, I.lset (its':=its ++ [u]) hH e (by simp) (r.append (.cons ru .nil)) ?_, rfl, q⟩
  rw [List.length_append, List.length_singleton]
  omega
noncomputable def K9 : V -> List V -> Hp -> VK -> Prop:=fun x vs H Q=>∃ l b xs zs, x = .ref l /\ vs = [.ref b] /\ H l = some (.lst xs) /\ H b = some (.lst zs) /\ xs.length + zs.length <= sizeLine /\ Q .non (upd H l (.lst (xs ++ zs)))
theorem Gc : MtM X "list.extend" K9:=by
  intro pins s σ H x vs v us Q I rx rv h
  obtain ⟨l, b, xs, zs, rfl, rfl, hH, hB, hz, q⟩:=h
  cases rx
  obtain ⟨u, rfl, ru⟩:=rv.one
  cases ru
  obtain ⟨z, its, n, r, hl, e⟩:=I.lstM hH
  obtain ⟨z2, its2, n2, r2, hl2, e2⟩:=I.lstM hB
  have hsz : its.toArray.size + its2.toArray.size <= sizeLine:=by rw [List.size_toArray, List.size_toArray]; omega
  have hlong : ¬ (!its.toArray.isEmpty && Builtin.List.listTooLong (its.toArray.size + its2.toArray.size)) = true:=by
    rw [Kg hsz, Bool.and_false]
    exact Bool.false_ne_true
  refine call_meets F.slot_list_extend ⟨_, e, rfl⟩ F.entry_list_extend (F.args_list_extend_2 _ _)
    (AutoSeq1.list_extend_list_list_0 l its.toArray n b its2.toArray n2 hlong (by rw [List.size_toArray]; omega) (by omega)) ⟨e, e2, ?_⟩
  refine ⟨.non, _, I.lset (its':=its ++ its2) hH e (by simp) (r.append r2) ?_, rfl, q⟩
  rw [List.length_append]
  omega
noncomputable def Ha : V -> List V -> Hp -> VK -> Prop:=fun x vs H Q=>∃ l xs y, x = .ref l /\ vs = [] /\ H l = some (.lst xs) /\ xs[xs.length - 1]? = some y /\ Q y (upd H l (.lst xs.dropLast))
theorem Eg : MtM X "list.pop" Ha:=by
  intro pins s σ H x vs v us Q I rx rv h
  obtain ⟨l, xs, y, rfl, rfl, hH, hy, q⟩:=h
  cases rx
  have hus:=rv.zero
  subst hus
  obtain ⟨z, its, n, r, hl, e⟩:=I.lstM hH
  obtain ⟨u, hu, ru⟩:=r.get hy
  have hy' : its.toArray[its.toArray.size - 1]? = some u:=by
    show its.toArray[its.length - 1]? = some u
    rw [← Array.getElem?_toList, ← hl]
    exact hu
  refine call_meets F.slot_list_pop ⟨_, e, rfl⟩ F.entry_list_pop (F.args_list_pop_1 _) (MeetsSeq.list_pop_last l its.toArray n u hy' (by rw [List.size_toArray]; omega)) ⟨e, ?_⟩
  refine ⟨y, _, I.lset (its':=its.dropLast) hH e ?_ r.dropLast ?_, ru, q⟩
  . show its.toArray.eraseIdxIfInBounds (its.toArray.size - 1) = its.dropLast.toArray
    rw [List.size_toArray, List.eraseIdxIfInBounds_toArray, Kx]
  . rw [List.length_dropLast]
    omega
noncomputable def GF : V -> List V -> Hp -> VK -> Prop:=fun x vs H Q=>∃ l xs i k y, x = .ref l /\ vs = [.int i] /\ H l = some (.lst xs) /\ -(2 ^ 63) <= i /\ i < 2 ^ 63 /\ seqIndex? i xs.length = some k /\ xs[k]? = some y /\ Q y (upd H l (.lst (xs.eraseIdx k)))
theorem FG : MtM X "list.pop" GF:=by
  intro pins s σ H x vs v us Q I rx rv h
  obtain ⟨l, xs, i, k, y, rfl, rfl, hH, h1, h2, hk, hy, q⟩:=h
  cases rx
  obtain ⟨u, rfl, ru⟩:=rv.one
  obtain ⟨t, rfl⟩:=ru
  obtain ⟨z, its, n, r, hl, e⟩:=I.lstM hH
  obtain ⟨w, hw, rw'⟩:=r.get hy
  refine call_meets F.slot_list_pop ⟨_, e, rfl⟩ F.entry_list_pop (F.args_list_pop_2 _ _)
    (MeetsSeq.list_pop_at l its.toArray n i t k w (fitsIndex_both h1 h2) (by rw [List.size_toArray, ← hl]; exact hk) (by rw [← Array.getElem?_toList]; exact hw) (by rw [List.size_toArray]; omega)) ⟨e, ?_⟩
  refine ⟨y, _, I.lset (its':=its.eraseIdx k) hH e ?_ (r.eraseIdx k) ?_, rw', q⟩
  . show its.toArray.eraseIdxIfInBounds k = (its.eraseIdx k).toArray
    rw [List.eraseIdxIfInBounds_toArray]
  . have := VP xs k
    omega
noncomputable def E9 : R2:=fun x y H Q=>∃ l b xs zs, x = .ref l /\ y = .ref b /\ H l = some (.lst xs) /\ H b = some (.lst zs) /\ xs.length + zs.length <= sizeLine /\ ∀ p, H p = none -> Q (.ref p) (upd H p (.lst (xs ++ zs)))
theorem UJ : OpR X (binaryOp .Add) E9:=by
  intro pins s σ H x y v u Q I rx ry h
  obtain ⟨l, b, xs, zs, rfl, rfl, hH, hB, hz, q⟩:=h
  cases rx
  cases ry
  obtain ⟨z, its, n, r, hl, e⟩:=I.lstM hH
  obtain ⟨z2, its2, n2, r2, hl2, e2⟩:=I.lstM hB
  refine PySem.P.add_list e e2 ?_ (by rw [List.size_toArray, List.size_toArray]; omega)
  have ea : its.toArray ++ its2.toArray = (its ++ its2).toArray:=by simp
  rw [ea]
  exact ⟨.ref _, _, I.lnew (t':=s.toks) (r.append r2) (by rw [List.length_append]; omega), rfl, q _ I.fresh⟩
noncomputable def Hq : R2:=fun x y H Q=>∃ l k xs, x = .ref l /\ y = .int k /\ H l = some (.lst xs) /\ -(2 ^ 63) <= k /\ k < 2 ^ 63 /\ xs.length * k.toNat <= sizeLine /\
  ∀ p, H p = none -> Q (.ref p) (upd H p (.lst (List.replicate k.toNat xs).flatten))
theorem DQ {α : Type} (xs : List α) (k : Nat) : (List.replicate k xs).flatten.length = k * xs.length:=by
  induction k with
  | zero=>simp
  | succ k ih=>rw [List.replicate_succ, List.flatten_cons, List.length_append, ih, Nat.succ_mul, Nat.add_comm]
theorem DL : OpR X (binaryOp .Mult) Hq:=by
  intro pins s σ H x y v u Q I rx ry h
  obtain ⟨l, k, xs, rfl, rfl, hH, h1, h2, hz, q⟩:=h
  cases rx
  obtain ⟨t, rfl⟩:=ry
  obtain ⟨z, its, n, r, hl, e⟩:=I.lstM hH
  have hlen : its.toArray.size * k.toNat <= sizeLine:=by rw [List.size_toArray, ← hl]; exact hz
  have hcap : ¬ its.toArray.size * k.toNat > (2 ^ 63 - 1) / 8:=by
    have : (sizeLine : Nat) <= (2 ^ 63 - 1) / 8:=by decide
    omega
  have hfit : ¬ (!Builtin.List.listFitsIndex k) = true:=by
    rw [fitsIndex_both h1 h2]
    exact Bool.false_ne_true
  have hlong : ¬ Builtin.List.listTooLong (its.toArray.size * k.toNat) = true:=by
    rw [Kg hlen]
    exact Bool.false_ne_true
  have hnew : List.foldl (fun x1 x2=>x1 ++ x2) #[] (List.replicate (if its.toArray.isEmpty = true then 0 else k.toNat) its.toArray) = (List.replicate k.toNat its).flatten.toArray:=by
    have f0 : ∀ m : Nat, List.foldl (fun x1 x2=>x1 ++ x2) #[] (List.replicate m its.toArray) = (List.replicate m its).flatten.toArray:=fun m=>by
      have:=V3 its m []
      rw [List.nil_append] at this
      exact this
    rw [f0]
    cases its with
    | nil=>simp
    | cons a r'=>rw [if_neg (by simp)]
  refine wpAny_binaryOp_repeat_ref (T:="list") (U:="int") (by decide) ⟨_, e, rfl⟩ (fun s'=>typeIs_int s' k t) noFill_list_mul F.fills_int_mul F.slot_int_rmul repeat_list F.slot_int_index.lookup
    (call_meets F.slot_int_rmul (typeIs_int s k t) F.entry_int_rmul (F.args_int_rmul_2 _ _) (int___rmul___int_list k t l its.toArray n)
      ⟨e, rfl, ⟨_, e, rfl⟩, call_meets F.slot_list_mul ⟨_, e, rfl⟩ F.entry_list_mul (F.args_list_mul_2 _ _) (AutoListH.list___mul___list_int_3 l its.toArray n k t hfit hcap hlong) ⟨e, ?_⟩⟩)
  rw [hnew]
  exact ⟨.ref _, _, I.lnew (t':=s.toks) (r.rep k.toNat) (by rw [DQ, Nat.mul_comm]; exact hz), rfl, q _ I.fresh⟩
end
section
variable {prog : Program} {w : World} {A : Around} {E : Value -> Shared -> Prop} {s : Shared}
end
section
variable {X : Cx}
end
end L2
namespace Att
open PySem PySem.W PySem.Calls PyProof.Rows
theorem Jo {P : Params} {h : Heap} : ∀ (ns : List Int) (vs : List Value), WellAll P h vs (ns.map WData.int) -> IntsAre vs ns:=by
  intro ns
  induction ns with
  | nil=>
    intro vs w
    rw [List.map_nil] at w
    cases w
    exact .nil
  | cons n ns ih=>
    intro vs w
    rw [List.map_cons] at w
    cases w with
    | cons a b=>
      cases a
      exact .cons _ _ (ih _ b)
theorem Gv {l : OpenLaw} {n : Nat} (hn : l.most = some n) {P : Params} {h : Heap} {args : List WData} {vals : List Value}
    (hpre : l.row.toRowW.claim.pre args = true) (hwl : WellAll P h vals args) :
    ∃ a vs ns, vals = [Value.ref a] /\ args = [WData.list (ns.map WData.int)] /\ h.get? a = some { cls:=.type "list", data:=.seq vs.toArray } /\ IntsAre vs ns /\ ns.length <= n:=by
  have hsh : WShape.hasAll [] args [.list .int] = true:=(pre_splitW hpre).1
  have hc : l.pre.holds [] { args:=args } = true:=(pre_splitW hpre).2
  obtain ⟨d, r, rfl, h1, h2⟩:=hasAllW_cons hsh
  obtain rfl:=hasAllW_nil h2
  obtain ⟨xs, rfl, h3⟩:=hasW_list h1
  obtain ⟨ns, rfl⟩:=items_int h3
  have hlen : ns.length <= n:=by
    unfold OpenLaw.pre at hc
    have h4 : (WTm.not (.lt (.lit (.int (n : Int))) (.len (.arg 0)))).holds [] { args:=[.list (ns.map .int)] } = true:=by
      have h4:=(holds_andW hc).1
      rw [hn] at h4
      exact h4
    have h5:=condW_of h4 (w_not (w_lt w_lit (w_len_list (w_arg rfl))))
    rw [List.length_map] at h5
    refine Nat.le_of_not_lt fun q=>?_
    have q' : (n : Int) < ((ns.length : Nat) : Int):=by omega
    first
      | (rw [decide_eq_true q'] at h5; exact absurd h5 (by decide))
      | (simp at h5; omega)
  cases hwl with
  | cons w1 w2=>
    cases w2
    cases w1 with
    | list ho hall=>exact ⟨_, _, ns, rfl, rfl, ho, Jo ns _ hall, hlen⟩
theorem Gf (l : OpenLaw) (args : List WData) : l.row.toRowW.claim.post args (.bool true) args = true:=
  postW_of (r:=l.row.toRowW) (X:=(true == true))
    (show WShape.has [] (.bool true) .bool = true by first | rfl | decide | simp [WShape.has, WShape.arms, WShape.armsAll])
    (show (WTm.eq .res (.lit (.bool true))).value [] { args:=args, res:=some (.bool true), after:=args } = some (.bool (true == true)) from w_eq_bool (w_res rfl) w_lit) rfl
theorem attach_call {l : OpenLaw} {n : Nat} {q : Program} {loose : List Str} {XP : (Str -> Option Value) -> Heap -> Prop} {YP : World -> Heap -> Prop} {d : DefRec}
    (hn : l.most = some n) (hdf : d.params.defaults = [])
    (call : ∀ (w : World) (s₀ s₁ : Shared) (mg mb : Str -> Option Value) (fa : Addr) (o : Obj) (pm cd doc : Value) (a : Addr) (vs : List Value) (ns : List Int),
      Ground q loose [] XP w s₀ mg mb s₁.heap -> YP w s₁.heap ->
      s₁.heap.get? fa = some o -> o.data = .func (docDef d.name d.params d.body d.scope pm cd doc) -> s₁.heap.CodeRec cd d.name -> mg d.name = some (.ref fa) ->
      s₁.heap.get? a = some { cls:=.type "list", data:=.seq vs.toArray } -> IntsAre vs ns -> ns.length <= n -> s₁.gens = #[] ->
      codeAny (model l.prog w) callerA (.call (.ref fa) ⟨[.ref a], []⟩) (fun r s'=>r = .ok (.ret (.bool true)) /\ OldK s₁.heap s'.heap /\ s'.os = s₁.os /\ AllBare s'.gens) s₁) :
    WalkO q loose XP YP l.row.toRowW d [] (fun f vs=>PySem.call f vs):=by
  intro w s₀ s₁ mg mb G Y fa o pm cd doc dV kV ho hd hcd hD hmg hg args vals as hpre hlay hrd hwl hlo
  obtain rfl : dV = .none:=Dflts.none hD hdf
  obtain rfl : kV = .none:=Dflts.noKw hD
  obtain ⟨a, vs, ns, rfl, rfl, hobj, hints, hlen⟩:=Gv hn hpre hwl
  refine enter_call (codeAny_mono (call w s₀ s₁ mg mb fa o pm cd doc a vs ns G Y ho (fd_plain hd) hcd hmg hobj hints hlen hg) fun r s' hq=>?_)
  obtain ⟨rfl, h2, h3, h4⟩:=hq
  exact ⟨.inl ⟨.bool true, .bool true, [], rfl, fun _=>rfl, .bool true, Gf l _, fun _=>⟨List.Pairwise.nil, fun _ hm=>(nomatch hm)⟩⟩, h2, h3, h4⟩
section
variable {prog : Program} {w : World} {A : Around} {E : Value -> Shared -> Prop} {s : Shared} {K : Frag}
noncomputable def He (h : Heap) (L d : Addr) : List (Addr × Obj):=(List.range h.objs.size).filterMap fun a=>if a = L ∨ a = d then none else (h.get? a).map fun o=>(a, o)
end
end Att
namespace L2
open PySem PySem.Spec PyProof.Rows
theorem Q1 : ∀ {vs : List Value} {ns : List Int}, IntsAre vs ns -> XV (ns.map V.int) vs
  | _, _, .nil=>.nil
  | _, _, .cons n t h=>.cons ⟨t, rfl⟩ (Q1 h)
noncomputable def EQ (H : Hp) : Prop:=∀ b, H b = none ∨ ∃ o xs, H b = some (.frz o (.lst xs))
theorem Dj {P : Program} {w : World} {K : PySem.W.Frag} {mg mb : Str -> Option Value} {CX : CXT} {k : Nat} {fa a : Addr} {fd : FuncData} {x : Str} {sp : Sp} {s₁ : Shared} {vs : List Value} {ns : List Int}
    (KX : K.In s₁.heap) (hns : s₁.heap.Ns mainGlobals mg) (hb : s₁.heap.Ns builtinsNs mb) (hbb : ∀ x : Str, x ≠ "__name__" -> mb x = bootBuiltins x) (hlim : s₁.heap.NoLimit) (hg : s₁.gens = #[])
    (ha : s₁.heap.get? a = some { cls:=.type "list", data:=.seq vs.toArray }) (hi : IntsAre vs ns) (hl : ns.length <= sizeLine) (hr : Room k callerA)
    (F : ∀ base : Heap, K.In base -> base.Ns mainGlobals mg -> FnOk P w K mg base CX k fa fd [x] sp) (hbind : ∀ (s : Shared) (u : Value), BindsTo s fd ⟨[u], []⟩ [(x, u)])
    (hsp : ∀ H : Hp, EQ H -> SqL K H a (ns.map V.int) -> sp [.ref a] H (fun v _=>v = .bl true) fun _ _ _=>False)
    (hCX : ∀ H e s', CX [] H s₁ (fun _ _ _=>False) e s' -> False) :
    codeAny (model P w) callerA (.call (.ref fa) ⟨[.ref a], []⟩) (fun r s'=>r = .ok (.ret (.bool true)) /\ OldK s₁.heap s'.heap /\ s'.os = s₁.os /\ AllBare s'.gens) s₁:=by
  have rv:=Q1 hi
  have lenV:=hi.length
  -- from an abstract heap in which nothing but the script may be tracked
  have core : ∀ H : Hp, EQ H -> SqL K H a (ns.map V.int) -> HOk P w H s₁.heap -> (∀ b, H b ≠ none -> b = a) -> (H a ≠ none -> K.lookup a = none) ->
      codeAny (model P w) callerA (.call (.ref fa) ⟨[.ref a], []⟩) (fun r s'=>r = .ok (.ret (.bool true)) /\ OldK s₁.heap s'.heap /\ s'.os = s₁.os /\ AllBare s'.gens) s₁:=by
    intro H hO hS hok hA hK
    have base_of : ∀ {b : Addr} {o : Obj}, s₁.heap.get? b = some o -> H b = none -> (Ff s₁.heap H).get? b = some o:=fun e n=>UN e n
    have noA : ∀ {b : Addr} {o : Obj} {es : Array DictEntry} {ep : Nat}, s₁.heap.get? b = some o -> o.data = .dict es ep -> H b = none:=fun {b o es ep} e d=>by
      cases q : H b with
      | none=>rfl
      | some u=>
        have e' : b = a:=hA b (by rw [q]; simp)
        subst e'
        rw [ha] at e; cases e
        have d' : Data.seq vs.toArray _ = Data.dict es ep:=d
        cases d'
    have nsK : ∀ {b : Addr} {m : Str -> Option Value}, s₁.heap.Ns b m -> (Ff s₁.heap H).Ns b m:=fun {b m} ⟨o, es, ep, e, d, r⟩=>⟨o, es, ep, base_of e (noA e d), d, r⟩
    have hKb : K.In (Ff s₁.heap H):=fun b o e=>base_of (KX b o e) (by
      cases q : H b with
      | none=>rfl
      | some u=>
        have e' : b = a:=hA b (by rw [q]; simp)
        subst e'
        rw [hK (by rw [q]; simp)] at e; cases e)
    have hM : Mod K mg (Ff s₁.heap H):=⟨hKb, nsK hns, ⟨mb, nsK hb, hbb⟩, let ⟨mc, h1, h2⟩:=hlim; ⟨mc, nsK h1, h2⟩⟩
    have e0 : Env0 P w K mg (Ff s₁.heap H) callerA [] s₁ H:=⟨rfl, hM, fun b o e=>Cz e, Nat.le_of_eq (GP _ _), trivial, fun b hb=>absurd (show b ∈ ([] : List Addr) from hb) (by simp), hok, .of_eq hg⟩
    refine codeAny_mono ((F _ hKb (nsK hns)).run callerA [] s₁ H ⟨[.ref a], []⟩ [.ref a] [.ref a] _ _ hr e0 (hbind s₁ (.ref a)) (.cons rfl .nil) (hsp H hO hS)) fun r s' h=>?_
    cases r with
    | error e=>exact (hCX H e s' h).elim
    | ok fl=>
      cases fl with
      | next=>exact False.elim h
      | brk=>exact False.elim h
      | cont=>exact False.elim h
      | ret u=>
        obtain ⟨v, H', os, bare, un, hok', r', q⟩:=h
        have q' : v = .bl true:=q
        subst q'
        obtain rfl : u = Value.bool true:=r'
        refine ⟨rfl, OldK.of_keep fun b o e=>?_, os, bare⟩
        cases q : H b with
        | none=>exact un.keep b o e q (by intro z; exact absurd (show b ∈ ([] : List Addr) from z) (by simp)) (by simp)
        | some u=>
          rcases hO b with z | ⟨ob, xs, z⟩
          . rw [q] at z; cases z
          . have z2 := un.frzs b ob _ z
            obtain ⟨e1, _⟩:=hok b _ z
            obtain ⟨e2, _⟩:=hok' b _ z2
            rw [e] at e1; cases e1
            exact e2
  cases hk : K.lookup a with
  | some o=>
    -- the script is one of the module's own objects
    have e:=KX a o hk
    rw [ha] at e
    cases e
    refine core (fun _=>none) (fun _=>.inl rfl) (.inr ⟨_, vs.toArray, _, hk, rfl, rfl, rfl, by rw [List.size_toArray, lenV]; exact hl, by simpa using rv⟩) (fun b u z=>by have z' : (none : Option HO) = some u:=z; cases z') (fun b z=>absurd rfl z) fun z=>absurd rfl z
  | none=>
    refine core (fun b=>if b = a then some (.frz { cls:=.type "list", data:=.seq vs.toArray } (.lst (ns.map V.int))) else none) (fun b=>?_) (.inl (.inr ⟨{ cls:=.type "list", data:=.seq vs.toArray }, if_pos rfl⟩)) (fun b u z=>?_) (fun b z=>?_) fun _=>hk
    . by_cases hb : b = a
      . exact .inr ⟨_, _, if_pos hb⟩
      . exact .inl (if_neg hb)
    . by_cases hb : b = a
      . have z' := (if_pos hb).symm.trans z
        cases z'
        subst hb
        exact ⟨ha, by rw [List.length_map]; exact hl, vs, _, rv, ha⟩
      . have z' := (if_neg hb).symm.trans z
        cases z'
    . by_cases hb : b = a
      . exact hb
      . exact absurd (if_neg hb) z
end L2
namespace L2
open PySem PySem.Spec PyProof.Rows
theorem DV {l : PySem.W.OpenLaw} {n k : Nat} {q : Program} {loose : List Str} {XP : (Str -> Option Value) -> Heap -> Prop} {YP : World -> Heap -> Prop} {d : DefRec} {K : Params -> PySem.W.Frag} {CX : World -> CXT} {sp : World -> Sp} {x : Str}
    (hn : l.most = some n) (hn2 : n <= sizeLine) (hdf : d.params.defaults = []) (hr : Room k callerA)
    (hY : ∀ (w : World) (h : Heap), YP w h -> (K w.params).In h)
    (F : ∀ (w : World) (mg : Str -> Option Value) (fa : Addr) (h : Heap), (K w.params).In h -> h.Ns mainGlobals mg -> mg d.name = some (.ref fa) ->
      ∃ fd : FuncData, (∀ (s : Shared) (u : Value), BindsTo s fd ⟨[u], []⟩ [(x, u)]) /\
        ∀ base : Heap, (K w.params).In base -> base.Ns mainGlobals mg -> FnOk l.prog w (K w.params) mg base (CX w) k fa fd [x] (sp w))
    (hsp : ∀ (w : World) (H : Hp) (a : Addr) (ns : List Int), ns.length <= n -> EQ H -> SqL (K w.params) H a (ns.map V.int) -> sp w [.ref a] H (fun v _=>v = .bl true) fun _ _ _=>False)
    (hCX : ∀ (w : World) (H : Hp) (s : Shared) (e : Value) (s' : Shared), CX w [] H s (fun _ _ _=>False) e s' -> False) :
    PySem.W.WalkO q loose XP YP l.row.toRowW d [] (fun f vs=>PySem.call f vs):=by
  refine Att.attach_call hn hdf fun w s₀ s₁ mg mb fa o pm cd doc a vs ns G Y ho hd hcd hmg hobj hints hlen hg=>?_
  have KX:=hY w _ Y
  obtain ⟨fd, hb, hF⟩:=F w mg fa _ KX G.T.g hmg
  exact Dj KX G.T.g G.T.b G.T.builtins G.T.nolimit hg hobj hints (Nat.le_trans hlen hn2) hr hF hb (fun H hO hS=>hsp w H a ns hlen hO hS) fun H e s'=>hCX w H s₁ e s'
end L2
namespace L2
open PySem PySem.Spec PyProof.Rows
noncomputable def YB (s : Stmt) : Arguments:=match s with
  | .FunctionDef _ a _ _ _ _ _ _ _ _=>a
  | _=>{ posonlyargs:=[], args:=[], vararg:=none, kwonlyargs:=[], kw_defaults:=[], kwarg:=none, defaults:=[] }
noncomputable def Yk (s : Stmt) : List Stmt:=match s with
  | .FunctionDef _ _ b _ _ _ _ _ _ _=>b
  | _=>[]
noncomputable def Xi (s : Stmt) : Scope:=match s with
  | .FunctionDef _ _ _ _ _ _ sc _ _ _=>sc
  | _=>{ kind:=.function, names:=[], isGenerator:=false, isCoroutine:=false }
noncomputable abbrev CX0 : CXT:=fun _ _ _ _ _ _=>False
noncomputable abbrev E0 : XK:=fun _ _ _=>False
theorem EO {X : Cx} : KO CX0 X E0:=fun _ _ _ _ _ _ _ h=>h.elim
structure Fun (K : PySem.W.Frag) (x qual : Str) (st : Stmt) (f : Addr) (fd : FuncData) : Prop where
  ex : ∃ (oc : Value) (od : Option Addr) (kV doc pm : Value) (an : Option Addr) (cdv ct : Value) (osl : Array (Option Value)),
    fd = PySem.W.fnOf x qual (YB st) (Yk st) (Xi st) .none kV doc pm an cdv ct /\ K.lookup f = some ⟨oc, od, .func fd, osl⟩ /\ PySem.W.codeIn K cdv qual = true
  kp : PySem.W.keepIn K (.ref f) = true
section
variable {P : Program} {w : World} {K : PySem.W.Frag} {mg : Str -> Option Value} {base : Heap}
theorem Fun.ok {x qual : Str} {st : Stmt} {f : Addr} {fd : FuncData} {N ps : List Str} {k : Nat} {sp : Sp} (F : Fun K x qual st f fd) (S : FnScope N ps (Xi st)) (len : ∀ vs H Q E, sp vs H Q E -> vs.length = ps.length)
    (hbody : ∀ (cdv : Value) (A : Around) (outer : List Env) (s : Shared) (H : Hp) (vs : List V) (Q : VK) (E : XK), Room k (A.deeper (envOfC qual (Xi st) s.heap.objs.size f cdv)) -> sp vs H Q E ->
      ∃ t, PSs (Cg CX0 P w K mg base N qual (Xi st) f cdv A outer s H E).nox (Yk st) t /\ t { nx:=fun _ H'=>Q .non H', rt:=Q } (J7 N vs) H) : FnOk P w K mg base CX0 (k + 1) f fd ps sp:=by
  obtain ⟨oc, od, kV, doc, pm, an, cdv, ct, osl, rfl, lk, hcd⟩:=F.ex
  refine EN lk hcd S len fun A outer s H vs Q E hr hsp=>?_
  obtain ⟨t, h, q⟩:=hbody cdv A outer s H vs Q E hr hsp
  exact ⟨t, h.nox, q⟩
theorem Fun.binds {x qual : Str} {st : Stmt} {f : Addr} {fd : FuncData} {ps : List Str} (F : Fun K x qual st f fd)
    (h : ∀ (kV doc pm : Value) (an : Option Addr) (cdv ct : Value) (us : List Value), us.length = ps.length -> bindArgs (PySem.W.fnOf x qual (YB st) (Yk st) (Xi st) .none kV doc pm an cdv ct) ⟨us, []⟩ = pure (ps.zip us)) : UE K fd ps []:=by
  obtain ⟨oc, od, kV, doc, pm, an, cdv, ct, osl, rfl, lk, hcd⟩:=F.ex
  exact .all (h kV doc pm an cdv ct)
theorem Qm {x qual : Str} {st : Stmt} {f : Addr} {oc : Value} {od an : Option Addr} {osl : Array (Option Value)} {kV doc pm cdv ct : Value} (l : K.lookup f = some ⟨oc, od, .func (PySem.W.fnOf x qual (YB st) (Yk st) (Xi st) .none kV doc pm an cdv ct), osl⟩)
    (c : PySem.W.codeIn K cdv qual = true) (k : PySem.W.keepIn K (.ref f) = true) : Fun K x qual st f (PySem.W.fnOf x qual (YB st) (Yk st) (Xi st) .none kV doc pm an cdv ct):=⟨⟨oc, od, kV, doc, pm, an, cdv, ct, osl, rfl, l, c⟩, k⟩
end
theorem YE {A : Around} {k : Nat} (hr : Room k A) : A.units + 1 < cLine:=Nat.lt_of_le_of_lt (Nat.add_le_add_left (by decide : 1 <= 64) _) hr.units
theorem G5 {n : Nat} (h : n <= 1000) : n < sizeLine:=Nat.lt_of_le_of_lt h (by decide)
section
variable {X : Cx}
theorem pv (i : Nat) {x : Str} {pos : Pos} (hN : X.N[i]? = some x:=by rfl) (hv : Vis X.env.scope x:=by first | exact Or.inl rfl | exact Or.inr (Or.inl rfl) | exact Or.inr (Or.inr rfl)) (hd : (x == ("__debug__" : Str)) = false:=by decide)
    (hcd : (x == ("__classdict__" : Str)) = false:=by decide) : PE X (.Name x pos) (QY i):=Bp hN hv hd hcd
end
noncomputable def Xm (H H' : Hp) : Prop:=∀ b o, H b = some o -> H' b = some o
theorem Xm.refl (H : Hp) : Xm H H:=fun _ _ h=>h
theorem Xm.trans {H H1 H2 : Hp} (a : Xm H H1) (b : Xm H1 H2) : Xm H H2:=fun c o h=>b c o (a c o h)
theorem Xm.free {H H' : Hp} (e : Xm H H') {l : Addr} (h : H' l = Option.none) : H l = Option.none:=by
  cases q : H l with
  | none=>rfl
  | some o=>
    rw [e l o q] at h
    cases h
theorem Xm.seq {K : PySem.W.Frag} {H H' : Hp} {a : Addr} {xs : List V} (e : Xm H H') (h : SqL K H a xs) : SqL K H' a xs:=by
  rcases h with (h | ⟨o, h⟩) | h
  . exact .inl (.inl (e _ _ h))
  . exact .inl (.inr ⟨o, e _ _ h⟩)
  . exact .inr h
end L2
namespace L2
open PySem PySem.Spec PyProof.Rows
section
variable {κ : Type} [DecidableEq κ]
noncomputable def KH (kvs : List (κ × V)) (k : κ) : Option V:=(kvs.find? fun kv=>decide (kv.1 = k)).map (·.2)
noncomputable def Dk (kvs : List (κ × V)) (k : κ) (v : V) : List (κ × V):=
  if (kvs.any fun kv=>decide (kv.1 = k)) = true then kvs.map (fun kv=>if kv.1 = k then (kv.1, v) else kv) else kvs ++ [(k, v)]
noncomputable def B5 (kvs : List (κ × V)) (k : κ) : List (κ × V):=kvs.filter fun kv=>decide (kv.1 ≠ k)
theorem Vs {p : κ × V} {r : List (κ × V)} {k : κ} (e : p.1 = k) : KH (p :: r) k = some p.2:=by simp [KH, List.find?_cons, e]
theorem Vu {p : κ × V} {r : List (κ × V)} {k : κ} (e : ¬ p.1 = k) : KH (p :: r) k = KH r k:=by simp [KH, List.find?_cons, e]
theorem UZ (k : κ) : ∀ kvs : List (κ × V), (kvs.any fun kv=>decide (kv.1 = k)) = (KH kvs k).isSome
  | []=>rfl
  | p :: r=>by
    rw [List.any_cons]
    by_cases e : p.1 = k
    . simp only [Vs e, decide_eq_true e, Bool.true_or, Option.isSome_some]
    . rw [Vu e, decide_eq_false e, Bool.false_or]; exact UZ k r
theorem FI.isSome_eq {o : Option V} {u : Option Value} (r : FI o u) : o.isSome = u.isSome:=by
  cases o with
  | none=>cases u with
    | none=>rfl
    | some _=>exact (show False from r).elim
  | some _=>cases u with
    | none=>exact (show False from r).elim
    | some _=>rfl
theorem FI.getD {o : Option V} {u : Option Value} {d : V} {d' : Value} (r : FI o u) (rd : X2 d d') : X2 (o.getD d) (u.getD d'):=by
  cases o with
  | none=>cases u with
    | none=>exact rd
    | some _=>exact (show False from r).elim
  | some _=>cases u with
    | none=>exact (show False from r).elim
    | some _=>exact r
theorem KV.val {kvs : List (κ × V)} {vs : List (κ × Value)} (r : KV kvs vs) (k : κ) : FI (KH kvs k) (valueAt vs k):=by
  unfold KV at r
  induction r with
  | nil=>exact True.intro
  | @cons p q ps qs h t ih=>
    obtain ⟨h1, h2⟩:=h
    by_cases e : p.1 = k
    . have e' : q.1 = k := h1.symm.trans e
      have b : valueAt (q :: qs) k = some q.2:=by simp [valueAt, List.find?_cons, e']
      rw [Vs e, b]; exact h2
    . have e' : ¬ q.1 = k := fun z => e (h1.trans z)
      have b : valueAt (q :: qs) k = valueAt qs k:=by simp [valueAt, List.find?_cons, e']
      rw [Vu e, b]; exact ih
theorem KV.any {kvs : List (κ × V)} {vs : List (κ × Value)} (r : KV kvs vs) (k : κ) : (kvs.any fun kv=>decide (kv.1 = k)) = vs.any fun kv=>decide (kv.1 = k):=by
  unfold KV at r
  induction r with
  | nil=>rfl
  | cons h t ih=>rw [List.any_cons, List.any_cons, ih, h.1]
theorem KV.repl {kvs : List (κ × V)} {vs : List (κ × Value)} (r : KV kvs vs) (k : κ) {y : V} {u : Value} (ry : X2 y u) :
    KV (kvs.map fun kv=>if kv.1 = k then (kv.1, y) else kv) (vs.map fun kv=>if kv.1 = k then (kv.1, u) else kv):=by
  unfold KV at r ⊢
  induction r with
  | nil=>exact .nil
  | @cons p q ps qs h t ih=>
    rw [List.map_cons, List.map_cons]
    refine .cons ?_ ih
    obtain ⟨h1, h2⟩:=h
    by_cases e : p.1 = k
    . rw [if_pos e, if_pos (h1.symm.trans e)]; exact ⟨h1, ry⟩
    . rw [if_neg e, if_neg (fun z=>e (h1.trans z))]; exact ⟨h1, h2⟩
theorem KV.put {kvs : List (κ × V)} {vs : List (κ × Value)} (r : KV kvs vs) (k : κ) {y : V} {u : Value} (ry : X2 y u) : KV (Dk kvs k y) (stored vs k u):=by
  unfold Dk stored
  rw [r.any k]
  by_cases e : (vs.any fun kv=>decide (kv.1 = k)) = true
  . rw [if_pos e, if_pos e]; exact r.repl k ry
  . rw [if_neg e, if_neg e]; exact Paired.snoc r ⟨rfl, ry⟩
theorem KV.drop {kvs : List (κ × V)} {vs : List (κ × Value)} (r : KV kvs vs) (k : κ) : KV (B5 kvs k) (without vs k):=by
  unfold KV at r ⊢
  unfold B5 without
  induction r with
  | nil=>exact .nil
  | @cons p q ps qs h t ih=>
    obtain ⟨h1, h2⟩:=h
    rw [List.filter_cons, List.filter_cons]
    by_cases e : p.1 = k
    . have a : ¬ decide (p.1 ≠ k) = true := by simp [e]
      have b : ¬ decide (q.1 ≠ k) = true:=by simp [h1.symm.trans e]
      rw [if_neg a, if_neg b]; exact ih
    . have e' : ¬ q.1 = k := fun z => e (h1.trans z)
      have a : decide (p.1 ≠ k) = true:=by simp [e]
      have b : decide (q.1 ≠ k) = true:=by simp [e']
      rw [if_pos a, if_pos b]; exact .cons ⟨h1, h2⟩ ih
theorem KV.keys {kvs : List (κ × V)} {vs : List (κ × Value)} (r : KV kvs vs) : kvs.map (·.1) = vs.map (·.1):=by
  unfold KV at r
  induction r with
  | nil=>rfl
  | cons h t ih=>rw [List.map_cons, List.map_cons, ih, h.1]
theorem KV.length {kvs : List (κ × V)} {vs : List (κ × Value)} (r : KV kvs vs) : kvs.length = vs.length:=Paired.length r
end
noncomputable abbrev KT (H : Hp) : List (List Key × V) -> List (List Key × Addr × Value) -> Prop:=Paired fun p q=>p.1 = q.1 /\ H q.2.1 = some (.tup (p.1.map kV)) /\ X2 p.2 q.2.2
theorem KT.val {H : Hp} {kvs : List (List Key × V)} {xs : List (List Key × Addr × Value)} (r : KT H kvs xs) (k : List Key) : FI (KH kvs k) ((atKey xs k).map (·.2)):=by
  induction r with
  | nil=>exact True.intro
  | @cons p q ps qs h t ih=>
    obtain ⟨h1, _, h2⟩:=h
    by_cases e : p.1 = k
    . have e' : q.1 = k := h1.symm.trans e
      have b : atKey (q :: qs) k = some q.2:=by simp [atKey, List.find?_cons, e']
      rw [Vs e, b]; exact h2
    . have e' : ¬ q.1 = k := fun z => e (h1.trans z)
      have b : atKey (q :: qs) k = atKey qs k:=by simp [atKey, List.find?_cons, e']
      rw [Vu e, b]; exact ih
theorem KT.repl {H : Hp} {kvs : List (List Key × V)} {xs : List (List Key × Addr × Value)} (r : KT H kvs xs) (k : List Key) {y : V} {u : Value} (ry : X2 y u) :
    KT H (kvs.map fun kv=>if kv.1 = k then (kv.1, y) else kv) (xs.map (putAt k u)):=by
  induction r with
  | nil=>exact .nil
  | @cons p q ps qs h t ih=>
    rw [List.map_cons, List.map_cons]
    refine .cons ?_ ih
    obtain ⟨h1, h2, h3⟩:=h
    unfold putAt
    by_cases e : p.1 = k
    . rw [if_pos e, if_pos (h1.symm.trans e)]; exact ⟨h1, h2, ry⟩
    . rw [if_neg e, if_neg (fun z=>e (h1.trans z))]; exact ⟨h1, h2, h3⟩
theorem KT.put {H : Hp} {kvs : List (List Key × V)} {xs : List (List Key × Addr × Value)} (r : KT H kvs xs) (k : List Key) {b : Addr} {y : V} {u : Value} (hb : H b = some (.tup (k.map kV))) (ry : X2 y u) :
    KT H (Dk kvs k y) (storedH xs k b u):=by
  have e : (kvs.any fun kv=>decide (kv.1 = k)) = (atKey xs k).isSome:=by
    rw [UZ, (r.val k).isSome_eq, Option.isSome_map]
  unfold Dk storedH
  rw [e]
  by_cases q : (atKey xs k).isSome = true
  . rw [if_pos q, if_pos q]; exact r.repl k ry
  . rw [if_neg q, if_neg q]; exact Paired.snoc r ⟨rfl, hb, ry⟩
theorem KT.keeps {H H' : Hp} {kvs : List (List Key × V)} {xs : List (List Key × Addr × Value)} (r : KT H kvs xs) (ht : ∀ b ys, H b = some (.tup ys) -> H' b = some (.tup ys)) : KT H' kvs xs:=
  Paired.mapP r fun _ _ z=>⟨z.1, ht _ _ z.2.1, z.2.2⟩
section
variable {P : Program} {w : World} {H : Hp} {h : Heap} {a : Addr}
end
noncomputable def Eu (H : Hp) (a : Addr) (y : V) (r : Option V) : Prop:=
  (∃ kvs k, Rd H a (.dK kvs) /\ y = kV k /\ r = KH kvs k) ∨ ∃ kvs k b, Rd H a (.dT kvs) /\ y = .ref b /\ H b = some (.tup (k.map kV)) /\ r = KH kvs k
noncomputable def Ew (H : Hp) (a : Addr) (y v : V) (H' : Hp) : Prop:=
  (∃ kvs k, H a = some (.dK kvs) /\ y = kV k /\ kvs.length < sizeLine /\ H' = upd H a (.dK (Dk kvs k v))) ∨
  ∃ kvs k b, H a = some (.dT kvs) /\ y = .ref b /\ H b = some (.tup (k.map kV)) /\ kvs.length < sizeLine /\ H' = upd H a (.dT (Dk kvs k v))
theorem Eu.k {H : Hp} {a : Addr} {kvs : List (Key × V)} {k : Key} (e : H a = some (.dK kvs)) : Eu H a (kV k) (KH kvs k):=.inl ⟨kvs, k, .inl e, rfl, rfl⟩
theorem Eu.t {H : Hp} {a b : Addr} {kvs : List (List Key × V)} {k : List Key} (e : H a = some (.dT kvs)) (eb : H b = some (.tup (k.map kV))) : Eu H a (.ref b) (KH kvs k):=.inr ⟨kvs, k, b, .inl e, rfl, eb, rfl⟩
theorem Ew.k {H : Hp} {a : Addr} {kvs : List (Key × V)} {k : Key} {v : V} (e : H a = some (.dK kvs)) (hl : kvs.length < sizeLine) : Ew H a (kV k) v (upd H a (.dK (Dk kvs k v))):=.inl ⟨kvs, k, e, rfl, hl, rfl⟩
theorem Ew.t {H : Hp} {a b : Addr} {kvs : List (List Key × V)} {k : List Key} {v : V} (e : H a = some (.dT kvs)) (eb : H b = some (.tup (k.map kV))) (hl : kvs.length < sizeLine) :
    Ew H a (.ref b) v (upd H a (.dT (Dk kvs k v))):=.inr ⟨kvs, k, b, e, rfl, eb, hl, rfl⟩
section
variable {X : Cx} {pins : List (Addr × Obj)} {σ : St} {H : Hp} {s : Shared} {a : Addr} {y v : V} {u r : Value} {o : Option V} {A : Around} {E : Value -> Shared -> Prop}
end
section
variable {X : Cx} {pins : List (Addr × Obj)} {σ : St} {H : Hp} {s : Shared} {a : Addr} {kvs : List (Key × V)} {k : Key} {u : Value} {A : Around} {E : Value -> Shared -> Prop}
end
section
variable {X : Cx} {o i e value : Expr} {pos pos' tpos : Pos} {td ty tv : TE}
end
section
variable {X : Cx} {pos : Pos}
end
section
variable {X : Cx} {pins : List (Addr × Obj)} {σ : St} {H : Hp} {s : Shared} {a : Addr} {y d : V} {u r : Value} {o : Option V} {A : Around} {E : Value -> Shared -> Prop}
end
section
variable {X : Cx} {o e f : Expr} {apos cpos : Pos} {td ty tx : TE}
end
section
variable {X : Cx} {pins : List (Addr × Obj)} {σ : St} {H : Hp} {s : Shared} {a : Addr} {kvs : List (Key × V)} {A : Around} {E : Value -> Shared -> Prop}
end
section
variable {X : Cx} {pins : List (Addr × Obj)} {σ : St} {H : Hp} {s : Shared} {a : Addr} {y : V} {u : Value} {A : Around} {E : Value -> Shared -> Prop}
end
end L2
namespace L2
open PySem PySem.Spec PyProof.Rows
section
variable {X : Cx}
end
section
variable {κ : Type} [DecidableEq κ]
end
end L2
namespace L2
open PySem PySem.Spec PyProof.Rows
theorem GT {env : Env} : ∀ (names : List (Str × NameKind)), (∀ x ∈ names, x.2 = NameKind.free -> ∃ c, env.cells.lookup x.1 = some c) ->
    ∀ cs : List (Str × Addr), (∀ x c, cs.lookup x = some c -> env.cells.lookup x = some c) ->
    ∃ cl : List (Str × Addr), (forIn names cs (fun (x : Str × NameKind) (r : List (Str × Addr))=>(if (x.2 == NameKind.free) = true then do let a ← cellOf env x.1; pure (ForInStep.yield ((x.1, a) :: r)) else pure (ForInStep.yield r) : Sem (ForInStep (List (Str × Addr)))))) = (pure cl : Sem (List (Str × Addr))) /\
      (∀ x c, cl.lookup x = some c -> env.cells.lookup x = some c) /\ (∀ x, ((x, NameKind.free) ∈ names ∨ ∃ c, cs.lookup x = some c) -> ∃ c, cl.lookup x = some c)
  | [], _, cs, hs=>⟨cs, by rw [List.forIn_nil], hs, fun x h=>h.elim (fun z=>nomatch z) id⟩
  | (n, k) :: r, hf, cs, hs=>by
    have hr : ∀ x ∈ r, x.2 = NameKind.free -> ∃ c, env.cells.lookup x.1 = some c:=fun x hx=>hf x (List.mem_cons_of_mem _ hx)
    by_cases hk : k = NameKind.free
    . subst hk
      obtain ⟨a, ha⟩:=hf (n, NameKind.free) List.mem_cons_self rfl
      have hs' : ∀ x c, ((n, a) :: cs).lookup x = some c -> env.cells.lookup x = some c:=fun x c h=>by
        rw [List.lookup_cons] at h
        by_cases hx : x = n
        . subst hx
          simp only [beq_self_eq_true] at h
          rw [← h]; exact ha
        . have : (x == n) = false := beq_eq_false_iff_ne.mpr hx
          rw [this] at h
          exact hs x c h
      obtain ⟨cl, e, h1, h2⟩:=GT r hr ((n, a) :: cs) hs'
      refine ⟨cl, ?_, h1, fun x h=>h2 x ?_⟩
      . rw [List.forIn_cons]
        have e1 : cellOf env n = pure a:=by unfold cellOf; rw [show env.cells.lookup n = some a from ha]
        simp only [beq_self_eq_true, if_true, e1]
        exact e
      . rcases h with h | ⟨c, h⟩
        . rcases List.mem_cons.mp h with h | h
          . have : x = n := congrArg Prod.fst h
            subst this
            exact .inr ⟨a, by rw [List.lookup_cons]; simp⟩
          . exact .inl h
        . by_cases hx : x = n
          . subst hx; exact .inr ⟨a, by rw [List.lookup_cons]; simp⟩
          . exact .inr ⟨c, by rw [List.lookup_cons, beq_eq_false_iff_ne.mpr hx]; exact h⟩
    . obtain ⟨cl, e, h1, h2⟩ := GT r hr cs hs
      refine ⟨cl, ?_, h1, fun x h=>h2 x ?_⟩
      . rw [List.forIn_cons]
        have hb : (k == NameKind.free) = false:=by simpa using hk
        simp only [hb, Bool.false_eq_true, if_false]
        exact e
      . rcases h with h | h
        . rcases List.mem_cons.mp h with h | h
          . exact absurd (congrArg Prod.snd h).symm hk
          . exact .inl h
        . exact .inr h
theorem UH {scope : Scope} {env : Env} (hf : ∀ x ∈ scope.names, x.2 = NameKind.free -> ∃ c, env.cells.lookup x.1 = some c) :
    ∃ cl : List (Str × Addr), closureFor scope env = pure cl /\ (∀ x c, cl.lookup x = some c -> env.cells.lookup x = some c) /\ (∀ x, (x, NameKind.free) ∈ scope.names -> ∃ c, cl.lookup x = some c):=by
  obtain ⟨cl, e, h1, h2⟩:=GT scope.names hf [] (fun x c h=>by simp at h)
  refine ⟨cl, ?_, h1, fun x h=>h2 x (.inl h)⟩
  unfold closureFor
  show ((forIn scope.names [] (fun (x : Str × NameKind) (r : List (Str × Addr))=>(if (x.2 == NameKind.free) = true then do let a ← cellOf env x.1; pure (ForInStep.yield ((x.1, a) :: r)) else pure (ForInStep.yield r) : Sem (ForInStep (List (Str × Addr)))))) >>= fun s=>pure s) = pure cl
  rw [e]
  rfl
theorem Z9 {env : Env} : ∀ {names : List (Str × NameKind)} {x : Str} {k : NameKind}, (∀ y ∈ names, y.2 ≠ NameKind.cell) ->
    (names.map fun (n, k)=>if (k == NameKind.free && env.scope.kind == .function && env.kindOf n == some .cell) then (n, NameKind.cell) else (n, k)).lookup x = some k -> (k = .cell ∨ k = .free) -> (x, NameKind.free) ∈ names
  | [], _, _, _, h, _=>by simp at h
  | (n, kk) :: r, x, k, hc, h, hk=>by
    have ih:=@Z9 env r x k (fun y hy=>hc y (List.mem_cons_of_mem _ hy))
    have hh:=hc (n, kk) List.mem_cons_self
    simp only [List.map_cons] at h
    by_cases hcond : (kk == NameKind.free && env.scope.kind == .function && env.kindOf n == some .cell) = true
    . rw [if_pos hcond, List.lookup_cons] at h
      have hfree : kk = NameKind.free:=by
        rw [Bool.and_eq_true, Bool.and_eq_true] at hcond
        simpa using hcond.1.1
      cases hx : x == n with
      | true=>
        have : x = n:=by simpa using hx
        subst this; subst hfree
        exact List.mem_cons_self
      | false=>rw [hx] at h; exact List.mem_cons_of_mem _ (ih h hk)
    . rw [if_neg hcond, List.lookup_cons] at h
      cases hx : x == n with
      | true=>
        rw [hx] at h
        have hkk : kk = k:=Option.some.inj h
        have : x = n:=by simpa using hx
        subst this; subst hkk
        rcases hk with z | z
        . exact absurd z hh
        . subst z; exact List.mem_cons_self
      | false=>rw [hx] at h; exact List.mem_cons_of_mem _ (ih h hk)
theorem ZI {env : Env} : ∀ {names : List (Str × NameKind)} {x : Str}, names.lookup x = some .free ->
    let l:=(names.map fun (n, k)=>if (k == NameKind.free && env.scope.kind == .function && env.kindOf n == some .cell) then (n, NameKind.cell) else (n, k))
    l.lookup x = some .cell ∨ l.lookup x = some .free
  | [], _, h=>by simp at h
  | (n, kk) :: r, x, h=>by
    have ih:=@ZI env r x
    simp only [List.map_cons]
    rw [List.lookup_cons] at h
    by_cases hcond : (kk == NameKind.free && env.scope.kind == .function && env.kindOf n == some .cell) = true
    . rw [if_pos hcond, List.lookup_cons]
      cases hx : x == n with
      | true=>exact .inl rfl
      | false=>rw [hx] at h; exact ih h
    . rw [if_neg hcond, List.lookup_cons]
      cases hx : x == n with
      | true=>rw [hx] at h; exact .inr h
      | false=>rw [hx] at h; exact ih h
noncomputable abbrev Cx.comp (X : Cx) (N : List Str) (scope : Scope) (cl : List (Str × Addr)) (C : Addr) (s : Shared) (H : Hp) (ex : List Addr) (E : Value -> Shared -> Prop) : Cx:=
  { X with N:=N, s₀:=s, H₀:=H, env:=compEnvC scope cl C X.env, outer:=X.stack, ex:=ex, fn:=fun _=>false, pn:=[], xe:=E }
noncomputable def PTs (X : Cx) (ifs : List Expr) (t : TT) : Prop:=
  ∀ (pins : List (Addr × Obj)) (s : Shared) (σ : St) (H : Hp) (Q : Bool -> Hp -> Prop), Inv X pins σ H s -> t σ H Q ->
    wpAny (model X.prog X.w) X.A (forIn ifs true fun c r=>if r = true then do let ok ← isTrue c X.env (eval c X.env); pure (ForInStep.yield ok) else pure (ForInStep.yield r)) (TP X pins σ Q) X.xe s
noncomputable def JX : TT:=fun _ H Q=>Q true H
theorem BX {σ : St} {H : Hp} {A B : Hp -> Prop} (h : A H) : JX σ H fun c H5=>if c = true then A H5 else B H5:=by
  show if true = true then A H else B H
  rw [if_pos rfl]
  exact h
theorem Zy {X : Cx} : PTs X [] JX:=fun _ _ _ H _ I h=>wpAny_tests_nil ⟨H, I, h⟩
theorem GX {X : Cx} {c : Expr} {t : TT} (h : PT X c t) : PTs X [c] t:=fun pins s σ H Q I hw=>wpAny_tests_one (h pins s σ H Q I hw)
noncomputable def Jc (n : Nat) (g : TG) : Prop:=∀ x σ H Q, g x σ H Q -> g x σ H fun σ2 H2=>Q σ2 H2 /\ σ2.length = σ.length /\ ∀ i, n <= i -> σ2[i]? = σ[i]?
theorem Y3 {n i : Nat} (h : i < n) : Jc n (ZW i):=fun x σ H Q q=>⟨q, by simp, fun j hj=>by rw [List.getElem?_set_ne (by lia)]⟩
noncomputable def Ys (n : Nat) (caps : List (Nat × Str)) (σ : St) : St:=List.replicate n none ++ caps.map fun p=>(σ[p.1]?).join
noncomputable def FQ (g : TG) (tt : TT) (te : TE) (σ : St) (Q : VK) (J : It) (W : Nat -> Nat -> List V -> Hp -> Prop) : Prop:=
  ∀ i m ys H2, W i m ys H2 -> ys.length <= sizeLine /\
    ((J.stop i H2 /\ ∀ p, H2 p = none -> Q (.ref p) (upd H2 p (.lst ys))) ∨
    (J.go i H2 /\ ∃ N : List V -> Hp -> Prop, (∀ ys' H', N ys' H' -> ∃ m', m' < m /\ W (i + 1) m' ys' H') /\ ∀ x H3, J.yld i H2 x H3 -> g x σ H3 fun σ4 H4=>tt σ4 H4 fun c H5=>
      if c = true then te σ4 H5 fun v H6=>N (ys ++ [v]) H6 else N ys H5))
noncomputable def GD (n : Nat) (caps : List (Nat × Str)) (g : TG) (tt : TT) (te : TE) (σ : St) (Q : VK) (J : It) (H1 : Hp) : Prop:=
  ∃ W : Nat -> Nat -> List V -> Hp -> Prop, (∃ m, W 0 m [] H1) /\ FQ g tt te (Ys n caps σ) Q J W
noncomputable def VG (n : Nat) (caps : List (Nat × Str)) (wi : TI) (g : TG) (tt : TT) (te : TE) : TE:=fun σ H Q=>wi σ H fun J H1=>GD n caps g tt te σ Q J H1
noncomputable def VD (sc scope : Scope) (N0 tns : List Str) (caps : List (Nat × Str)) : Bool:=
  scope.kind == .function && scope.names.all (fun y=>!(y.2 == .cell)) && scope.names.all (fun y=>!(y.2 == .local) || scope.names.lookup y.1 == some .local) &&
  scope.names.all (fun y=>!(y.2 == .free) || sc.names.lookup y.1 == some .cell) && caps.all (fun p=>N0[p.1]? == some p.2 && sc.names.lookup p.2 == some .cell && scope.names.lookup p.2 == some .free)
theorem VU {α : Type} {p : α} {P : Prop} (h : p ∈ ([] : List α)) : P:=nomatch h
noncomputable def B9 (M : Model) (A : Around) (elt tg : Expr) (ifs : List Expr) (acc : Value) (env : Env) (E : Value -> Shared -> Prop) (K : Shared -> Prop) (v : Value) (s : Shared) : Prop:=
  wpAny M A (assign tg env v) (fun _ s₂=>wpAny M A (forIn ifs true fun c r=>if r = true then do let ok ← isTrue c env (eval c env); pure (ForInStep.yield ok) else pure (ForInStep.yield r)) (fun ok s₃=>
    if ok = true then wpAny M A (eval elt env) (fun x s₄=>wpAny M A (call (.builtin "list.append") [acc, x]) (fun _ s₅=>K s₅) E s₄) E s₃ else K s₃) E s₂) E s
noncomputable def EM (M : Model) (A : Around) (elt tg : Expr) (ifs : List Expr) (it acc : Value) (env : Env) (E : Value -> Shared -> Prop) (Rn K : Shared -> Prop) (s : Shared) : Prop:=
  wpAny M A (pyNext it) (fun r s₁=>r = none /\ Rn s₁ ∨ ∃ v, r = some v /\ wpAny M A (letOwnedTupleGo tg it v) (fun _ s₁=>B9 M A elt tg ifs acc env E K v s₁) E s₁) E s
section
variable {prog : Program} {w : World} {A : Around} {R : Result -> Shared -> Prop} {s : Shared}
theorem VS {elt target iter : Expr} {ifs : List Expr} {scope : Scope} {pos : Pos} {it acc : Value} {env : Env} {E : Value -> Shared -> Prop} (I : Nat -> Shared -> Prop) (hE : (notedBy (model prog w) A env fun e s'=>R (.error e) s') = E)
    (turn : ∀ n s, I n s -> EM (model prog w) A elt target ifs it acc env E (fun s=>R (.ok .next) s) (fun s=>∃ m, m < n /\ I m s) s) (n : Nat) (h : I n s) :
    codeAny (model prog w) A (.compLoop (.ListComp elt [⟨target, iter, ifs, 0⟩] scope pos) 0 it acc env) R s:=by
  subst hE
  refine codeAny_loop rfl I (fun n s hI=>?_) n h
  show wpAny _ A ((compTurn (.ListComp elt [⟨target, iter, ifs, 0⟩] scope pos) 0 it acc env).onRaise (fun x=>do noteFrame x env; theTreesLotGoes x)) _ _ s
  refine wpAny_noted ?_
  rw [compTurn_list]
  refine wpAny_bind (wpAny_standAt (wpAny_bind (thn (turn n s hI) fun r s₁ h₁=>?_)))
  rcases h₁ with ⟨rfl, h₁⟩ | ⟨v, rfl, h₁⟩
  . exact wpAny_pure h₁
  . refine wpAny_bind (thn h₁ fun _ s₁' h₁' => wpAny_bind (thn h₁' fun _ s₂ h₂ => wpAny_bind (thn h₂ fun ok s₃ h₃ => ?_)))
    cases ok with
    | false=>exact wpAny_pure ⟨rfl, h₃⟩
    | true=>exact wpAny_bind (wpAny_bind (thn h₃ fun x s₄ h₄=>wpAny_bind (thn h₄ fun _ s₅ h₅=>wpAny_pure (wpAny_pure ⟨rfl, h₅⟩))))
end
noncomputable def lob (its : List Value) (k : Nat) : Obj:={ cls:=.type "list", data:=.seq (List.toArray its) k }
structure CIn (Y : Cx) (tn : Nat -> Heap -> Prop) (fp : List Addr) (D : Addr) (σ : St) (i : Nat) (H : Hp) (o : Obj) (s : Shared) : Prop where
  I : Inv Y [] σ H s
  t : tn i s.heap
  f : ∀ b ∈ fp, H b = none
  l : s.heap.get? D = some o
  n : H D = none
inductive CI (Y : Cx) (tn : Nat -> Heap -> Prop) (fp : List Addr) (D : Addr) (σ : St) (W : Nat -> Nat -> List V -> Hp -> Prop) (m : Nat) (s : Shared) : Prop
  | mk (i : Nat) (H : Hp) (ys : List V) (its : List Value) (k : Nat) (c : CIn Y tn fp D σ i H (lob its k) s) (r : XV ys its) (w : W i m ys H)
structure CAt (Y : Cx) (fp : List Addr) (D : Addr) : Prop where
  calm : Y.calm = true
  pn : Y.pn = []
  ne : D ≠ Y.env.locals
  fs : D ∉ Y.fs
  sz : Y.s₀.heap.objs.size <= D
  cl : ∀ x c, Y.env.cells.lookup x = some c -> c ≠ D
  fpn : ∀ b ∈ fp, b ≠ D
  ok : ∀ b ∈ fp, ∀ H : Hp, H b = none -> UC Y [] H b
section
variable {Y : Cx} {tn : Nat -> Heap -> Prop} {fp : List Addr} {D it : Addr} {σ : St} {tg elt iter : Expr} {ifs : List Expr} {J : It} {g : TG} {tt : TT} {te : TE} {n i : Nat} {H : Hp} {s : Shared} {o : Obj} {Kn : Shared -> Prop}
theorem CAt.pins (c : CAt Y fp D) (hn : ∀ b ∈ fp, H b = none) : ∀ b ∈ fp, UC Y [(D, o)] H b:=fun b hb=>
  have z:=c.ok b hb H (hn b hb)
  ⟨z.1, z.2.1, z.2.2.1, z.2.2.2.1, z.2.2.2.2.1, fun p hp e=>by
    rw [c.pn] at hp
    cases List.mem_singleton.mp hp
    exact c.fpn b hb e.symm⟩
theorem UL (T : Turn Y.prog Y.w Y.K tg J fp it tn) {h5 : Heap} (t : tn i h5) (I : Inv Y ([(D, o)] ++ VN fp h5) σ H s) : CIn Y tn fp D σ i H o s:=
  have p:=I.pin (D, o) (List.mem_append_right _ (.head _))
  have q : ∀ b ∈ fp, ∀ o', h5.get? b = some o' -> s.heap.get? b = some o' /\ H b = none:=fun b hb o' e=>have z:=I.pin (b, o') (List.mem_append_right _ (.tail _ (Qz hb e))); ⟨z.1, z.2.1⟩
  ⟨I.pins_of (pins':=[]) fun _ h=>VU h, T.keep _ _ _ t fun b hb o' e=>(q b hb o' e).1, fun b hb=>(T.obj _ _ t b hb).elim fun o' e=>(q b hb o' e.1).2, p.1, p.2.1⟩
theorem Hu (T : Turn Y.prog Y.w Y.K tg J fp it tn) (a : CAt Y fp D) {its : List Value} {k : Nat} {v : Value} {E : Value -> Shared -> Prop} (c : CIn Y tn fp D σ i H (lob its k) s) (hz : its.length <= sizeLine)
    (hQ : ∀ k' s', CIn Y tn fp D σ i H (lob (its ++ [v]) k') s' -> Kn s') : wpAny (model Y.prog Y.w) Y.A (call (.builtin "list.append") [.ref D, v]) (fun _ s=>Kn s) E s:=by
  refine call_meets F.slot_list_append ⟨_, c.l, rfl⟩ F.entry_list_append (F.args_list_append_2 _ _) (PySem.list_append D (List.toArray its) k v hz) ⟨c.l, ?_⟩
  have q : ∃ k', PySem.IsL (s.heap.update D (Obj.mapSeq (·.push v))) D ((List.toArray its).push v) k':=⟨_, PySem.IsL.update c.l (·.push v)⟩
  rw [List.push_toArray] at q
  obtain ⟨k', q⟩:=q
  exact hQ k' _ ⟨c.I.turned (t':=s.toks) (h':=s.heap.update D (Obj.mapSeq (·.push v))) (it:=D) (fun b o hb' e=>(Heap.get?_update_other s.heap _ (Ne.symm hb')).trans e) c.n a.ne (.inr a.sz) a.cl (fun p hp=>by rw [a.pn] at hp; exact VU hp),
    T.keep _ _ _ c.t fun b hb o e=>(Heap.get?_update_other s.heap _ (Ne.symm (a.fpn b hb))).trans e, c.f, q, c.n⟩
theorem F4 {acc : Value} {pins : List (Addr × Obj)} {N : List V -> Hp -> Prop} {ys : List V} {x : V} {u : Value} (hg : PG Y tg g) (ht : PTs Y ifs tt) (he : PE Y elt te) (hG : Jc n g) (h0 : ∀ (j : Nat) v, σ[j]? = some (some v) -> n <= j)
    (I : Inv Y pins σ H s) (r : X2 x u) (st : g x σ H fun σ4 H4=>tt σ4 H4 fun c H5=>if c = true then te σ4 H5 fun v H6=>N (ys ++ [v]) H6 else N ys H5)
    (hF : ∀ H7 s7, Inv Y pins σ H7 s7 -> N ys H7 -> Kn s7) (hT : ∀ H8 s8 y v, Inv Y pins σ H8 s8 -> X2 y v -> N (ys ++ [y]) H8 -> wpAny (model Y.prog Y.w) Y.A (call (.builtin "list.append") [acc, v]) (fun _ s=>Kn s) Y.xe s8) :
    B9 (model Y.prog Y.w) Y.A elt tg ifs acc Y.env Y.xe Kn u s:=by
  refine thn (hg _ s _ H x u _ I r (hG _ _ _ _ st)) fun _ s6 ⟨σ6, H6, I6, q6, l6, k6⟩=>?_
  have wk : ∀ (j : Nat) v, σ[j]? = some (some v) -> σ6[j]? = some (some v):=fun j v e=>(k6 j (h0 j v e)).trans e
  refine thn (ht _ s6 σ6 H6 _ I6 q6) fun c s7 ⟨H7, I7, q7⟩=>?_
  cases c with
  | false=>exact hF _ _ (I7.weak l6.symm wk) q7
  | true=>exact thn (he _ s7 σ6 H7 _ I7 q7) fun v8 s8 ⟨y8, H8, I8, r8, n8⟩=>hT _ _ _ _ (I8.weak l6.symm wk) r8 n8
theorem JS {scope : Scope} {pos : Pos} {Q : V -> Hp -> Prop} {R : Result -> Shared -> Prop} (hE : (notedBy (model Y.prog Y.w) Y.A Y.env fun e s'=>R (.error e) s') = Y.xe)
    (T : Turn Y.prog Y.w Y.K tg J fp it tn) (hG : Jc n g) (hg : PG Y tg g) (ht : PTs Y ifs tt) (he : PE Y elt te) (a : CAt Y fp D) (h0 : ∀ (j : Nat) v, σ[j]? = some (some v) -> n <= j)
    {W : Nat -> Nat -> List V -> Hp -> Prop} (turn : FQ g tt te σ Q J W)
    (hEnd : ∀ ys its k H3 s4, Inv Y [(D, lob its k)] σ H3 s4 -> XV ys its -> ys.length <= sizeLine -> Q (.ref D) (upd H3 D (.lst ys)) -> R (.ok .next) s4) {m0 : Nat} (hi : CI Y tn fp D σ W m0 s) :
    codeAny (model Y.prog Y.w) Y.A (.compLoop (.ListComp elt [⟨tg, iter, ifs, 0⟩] scope pos) 0 (.ref it) (.ref D) Y.env) R s:=by
  refine VS (CI Y tn fp D σ W) hE (fun m s3 c=>?_) m0 hi
  cases c with
  | mk i H3 ys its k c rv w3=>
  have I3 : Inv Y [(D, lob its k)] σ H3 s3:=c.I.pins_of fun p hp=>List.mem_singleton.mp hp ▸ ⟨c.l, c.n, a.ne, a.fs, fun _ z=>by cases z⟩
  have t:=turn i m ys H3 w3
  refine t.2.elim (fun q=>?_) fun q=>?_
  . exact thn (T.done Y rfl rfl rfl a.calm i _ s3 _ H3 Y.xe I3 (a.pins c.f) c.t q.1) fun r s4 h=>.inl ⟨h.1, hEnd ys its k H3 s4 h.2 rv t.1 (q.2 D c.n)⟩
  . refine q.2.elim fun NN h => ?_
    refine thn (T.item Y rfl rfl rfl a.calm i _ s3 _ H3 Y.xe I3 (a.pins c.f) c.t q.1) fun r s4 h4=>.inr (h4.elim fun u h4=>⟨u, h4.1, thn h4.2 fun _ s5 h5=>h5.elim fun x h5=>h5.elim fun H5 h5=>?_⟩)
    exact F4 hg ht he hG h0 (h5.1.pinned (a.pins h5.2.2.2.2) (T.obj _ _ h5.2.2.2.1)) h5.2.1 (h.2 x H5 h5.2.2.1)
      (fun H7 s7 I7 q7=>(h.1 _ _ q7).elim fun m' z=>⟨m', z.1, .mk (i + 1) H7 ys its k (UL T h5.2.2.2.1 I7) rv z.2⟩)
      fun H8 s8 y v I8 r8 q8=>(h.1 _ _ q8).elim fun m' z=>Hu T a (UL T h5.2.2.2.1 I8) (rv.length ▸ t.1) fun k' s' c'=>⟨m', z.1, .mk (i + 1) H8 (ys ++ [y]) (its ++ [v]) k' c' (rv.append (.cons r8 .nil)) z.2⟩
end
section
variable {X : Cx} {elt tg iter : Expr} {ifs : List Expr} {scope sc : Scope} {pos : Pos} {n : Nat} {tns : List Str} {caps : List (Nat × Str)} {wi : TI} {g : TG} {tt : TT} {te : TE}
structure CompEnd (X : Cx) (pins : List (Addr × Obj)) (σ : St) (H3 : Hp) (D C : Addr) (ys : List V) (s' : Shared) : Prop where
  inv : Inv X pins σ (upd H3 D (.lst ys)) s'
  fresh : H3 D = none
  fp : UC X pins (upd H3 D (.lst ys)) C
  ns : ∃ m, s'.heap.Ns C m
theorem UT {pins : List (Addr × Obj)} {σ σ' : St} {H H3 : Hp} {s s4 : Shared} {D C : Addr} {fp : List Addr} {its : List Value} {k : Nat} {ys : List V} {Y : Cx} (I : Inv X pins σ H s) (hf : ∀ b ∈ fp, UC X pins H b) (hD : s.heap.objs.size <= D) (hDlt : D < C)
    (I4 : Inv Y [(D, lob its k)] σ' H3 s4) (hos : s4.os = s.os) (u : Un (frs X.stack) fp H H3 s.heap s4.heap) (hok : HOk X.prog X.w H3 s4.heap) (hC : Y.env.locals = C) (rv : XV ys its) (hz : ys.length <= sizeLine) : CompEnd X pins σ H3 D C ys s4:=by
  subst hC
  have p:=I4.pin (D, lob its k) (List.mem_append_right _ (.head _))
  have hDn : H3 D = none:=p.2.1
  have up : ∀ {b : Addr} {o : HO}, H3 b = some o -> upd H3 D (.lst ys) b = some o:=fun e=>(XB (XH e hDn)).trans e
  refine ⟨I.call' (ch:=fp) hos ⟨u.keep, u.slot, fun b o e nn hx=>(XB (Nat.ne_of_lt (Nat.lt_of_lt_of_le (Heap.lt_size e) hD))).trans (u.free b o e nn hx), u.there, fun b xs e=>up (u.tups b xs e), fun b o xs e=>up (u.frzs b o xs e), fun b ps e=>(u.tbls b ps e).elim fun more z=>⟨more, up z⟩⟩ (fun a o e=>?_) I4.bare fun b hb=>have z:=hf b hb; ⟨z.2.2.2.1, z.2.1, z.2.2.2.2.1, z.2.2.2.2.2⟩, hDn, I.fpOk (Nat.le_trans hD (Nat.le_of_lt hDlt)) ((XB (Nat.ne_of_gt hDlt)).trans I4.free), I4.loc.elim fun m z=>⟨m, z.1⟩⟩
  by_cases ha : a = D
  . subst ha
    rw [Yt] at e; cases e
    exact ⟨hz, its, k, rv, p.1⟩
  . rw [XB ha] at e
    exact (hok a o e).stay (fun b u _ q=>q) (fun b q=>up q) fun b xs q=>up q
noncomputable def Hy (X : Cx) (elt tg iter : Expr) (ifs : List Expr) (scope : Scope) (pos : Pos) (it : Value) (cl : List (Str × Addr)) (RR : Value -> Addr -> Result -> Shared -> Prop) (E : Value -> Shared -> Prop) (s : Shared) : Prop:=
  wpAny (model X.prog X.w) X.A (newList []) (fun acc s₃=>wpAny (model X.prog X.w) X.A (newFunctionEnv scope X.env.globals cl [] X.env.qual none .none (some X.env)) (fun cenv s₄=>
      codeAny (model X.prog X.w) X.A (.compStart (.ListComp elt [⟨tg, iter, ifs, 0⟩] scope pos) 0 it acc { cenv with scope:=relabel scope X.env }) (RR acc cenv.locals) s₄) E s₃) E s
theorem Je {σ : St} {i : Nat} {v : V} (e : (Ys n caps σ)[i]? = some (some v)) : n <= i /\ ∃ p, caps[i - n]? = some p /\ σ[p.1]? = some (some v):=by
  unfold Ys at e
  by_cases h : i < n
  . rw [List.getElem?_append_left (by simpa using h), List.getElem?_replicate, if_pos h] at e
    cases e
  . have hi := Nat.le_of_not_lt h
    rw [List.getElem?_append_right (by simpa using hi), List.length_replicate, List.getElem?_map] at e
    refine ⟨hi, ?_⟩
    cases hcp : caps[i - n]? with
    | none=>rw [hcp] at e; cases e
    | some p=>
      rw [hcp] at e
      exact ⟨p, rfl, Option.join_eq_some_iff.mp (Option.some.inj e)⟩
structure COk (X : Cx) (scope : Scope) (caps : List (Nat × Str)) : Prop where
  kind : scope.kind = .function
  cell : ∀ y ∈ scope.names, y.2 ≠ NameKind.cell
  loc : ∀ y ∈ scope.names, y.2 = .local -> scope.names.lookup y.1 = some .local
  free : ∀ y ∈ scope.names, y.2 = .free -> X.env.scope.names.lookup y.1 = some .cell
  caps : ∀ p ∈ caps, (X.N[p.1]? = some p.2 /\ X.env.scope.names.lookup p.2 = some .cell) /\ scope.names.lookup p.2 = some .free
theorem COk.of {N0 : List Str} (hsc : X.env.scope = sc) (hN0 : X.N = N0) (ok : VD sc scope N0 tns caps = true) : COk X scope caps:=by
  subst hsc
  subst hN0
  unfold VD at ok
  simp only [Bool.and_eq_true, List.all_eq_true, beq_iff_eq, Bool.or_eq_true, Bool.not_eq_true', beq_eq_false_iff_ne] at ok
  exact ⟨ok.1.1.1.1, ok.1.1.1.2, fun y hy e=>(ok.1.1.2 y hy).resolve_left (absurd e), fun y hy e=>(ok.1.2 y hy).resolve_left (absurd e), ok.2⟩
section
variable {pins : List (Addr × Obj)} {σ : St} {H : Hp} {s : Shared} {fp : List Addr} {cl : List (Str × Addr)} {C : Addr} {E : Value -> Shared -> Prop} {N : List Str} {h₁ : Heap}
theorem CL (ok : COk X scope caps) (I : Inv X pins σ H s) (hf : ∀ b ∈ fp, UC X pins H b) (hlt : ∀ b ∈ fp, b < s.heap.objs.size)
    (hsub : ∀ x c, cl.lookup x = some c -> X.env.cells.lookup x = some c) (hall : ∀ x, (x, NameKind.free) ∈ scope.names -> ∃ c, cl.lookup x = some c) (hC : s.heap.objs.size < C) : (X.comp N scope cl C s H fp E).Ok:=
  ⟨I.ok.mod, ok.kind, I.ok.glob, I.ok.blt, Nat.le_of_lt hC, fun x y c h1 h2=>I.ok.inj x y c (hsub x c h1) (hsub y c h2), fun x hx=>hall x (hx.elim (fun z=>Z9 ok.cell z (.inl rfl)) fun z=>Z9 ok.cell z (.inr rfl)), (fun x c hx=>by cases hx), I.ok.hd, I.ok.frames, .inl rfl,
    fun b hb=>⟨Nat.ne_of_lt (Nat.lt_trans (hlt b hb) hC), fun x c e=>(hf b hb).2.2.2.2.1 x c (hsub x c e)⟩, I.bs, Nat.le_trans I.ok.bsz I.sz, fun b o e hb=>(hf b hb).2.2.2.1.elim (I.ok.noex b o e) fun z=>absurd (Nat.lt_of_lt_of_le (Heap.lt_size e) (Nat.le_trans I.ok.bsz z)) (Nat.lt_irrefl _),
    fun b hb hz=>(List.mem_cons.mp (I.stkSub b hz)).elim (hf b hb).2.1 (hf b hb).2.2.1, I.stack, I.stkFree⟩
theorem FZ (okc : COk X scope caps) (hn : tns.length = n) (ok : (X.comp (tns ++ caps.map (·.2)) scope cl C s H fp E).Ok) (I : Inv X pins σ H s)
    (hsub : ∀ x c, cl.lookup x = some c -> X.env.cells.lookup x = some c) (hall : ∀ x, (x, NameKind.free) ∈ scope.names -> ∃ c, cl.lookup x = some c) (hC : s.heap.objs.size < C) (hns : h₁.Ns C fun _=>none) (old : ∀ b o, s.heap.get? b = some o -> h₁.get? b = some o) {tk : Nat} :
    Inv (X.comp (tns ++ caps.map (·.2)) scope cl C s H fp E) [] (Ys n caps σ) H { s with heap:=h₁, toks:=tk }:=by
  refine ⟨ok, rfl, I.bare, Un.kept old, ⟨_, hns, fun i x v e1 e2 _=>?_⟩, fun x c e=>(I.cell x c (hsub x c e)).elim fun v z=>z.elim fun o z=>⟨v, o, old _ _ z.1, z.2⟩, I.hok.fresh (Nat.le_of_lt hC), fun x c e=>I.freeC x c (hsub x c e), fun p hp=>VU (α:=Addr × Obj) hp, I.hok.kept old, by simp [Ys, hn]⟩
  obtain ⟨hi, p, hp, hσ⟩:=Je e2
  have e1' : (tns ++ caps.map (·.2))[i]? = some x:=e1
  rw [List.getElem?_append_right (hn ▸ hi), hn, List.getElem?_map, hp] at e1'
  cases Option.some.inj e1'
  have p5:=okc.caps p (List.mem_of_getElem? hp)
  obtain ⟨m, hm, hl⟩:=I.loc
  obtain ⟨u, r, l⟩:=hl p.1 p.2 v p5.1.1 hσ (.inr (.inl p5.1.2))
  refine ⟨u, r, .inr ?_⟩
  rcases l with ⟨k, _⟩ | ⟨k, c, e, z⟩
  . cases p5.1.2.symm.trans k
  . obtain ⟨c', e'⟩ := hall p.2 (PySem.mem_of_lookup p5.2)
    cases e.symm.trans (hsub _ _ e')
    exact ⟨ZI (env:=X.env) p5.2, c, e', z.elim fun o z=>⟨o, old _ _ z.1, z.2⟩⟩
variable {J : It} {it : Addr} {tn : Nat -> Heap -> Prop} {Q : V -> Hp -> Prop} {RR : Value -> Addr -> Result -> Shared -> Prop} {W : Nat -> Nat -> List V -> Hp -> Prop} {m0 : Nat}
theorem CW (ok : COk X scope caps) (hc : X.calm = true) (hn : tns.length = n) (hG : Jc n g)
    (hb : ∀ cl C s H ex E, PG (X.comp (tns ++ caps.map (·.2)) scope cl C s H ex E) tg g /\ PTs (X.comp (tns ++ caps.map (·.2)) scope cl C s H ex E) ifs tt /\ PE (X.comp (tns ++ caps.map (·.2)) scope cl C s H ex E) elt te)
    (I : Inv X pins σ H s) (T : Turn X.prog X.w X.K tg J fp it tn) (t0 : tn 0 s.heap) (hf : ∀ b ∈ fp, UC X pins H b)
    (hsub : ∀ x c, cl.lookup x = some c -> X.env.cells.lookup x = some c) (hall : ∀ x, (x, NameKind.free) ∈ scope.names -> ∃ c, cl.lookup x = some c)
    (w0 : W 0 m0 [] H) (turn : FQ g tt te (Ys n caps σ) Q J W)
    (hRR : ∀ D C ys H3 s', CompEnd X pins σ H3 D C ys s' -> Q (.ref D) (upd H3 D (.lst ys)) -> RR (.ref D) C (.ok .next) s')
    (hC : s.heap.objs.size < C) (hns : h₁.Ns C fun _=>none) (old : ∀ b o, s.heap.get? b = some o -> h₁.get? b = some o) (hacc : h₁.get? s.heap.objs.size = some (lob [] 0)) {tk : Nat} :
    codeAny (model X.prog X.w) X.A (.compStart (.ListComp elt [⟨tg, iter, ifs, 0⟩] scope pos) 0 (.ref it) (.ref s.heap.objs.size) (compEnvC scope cl C X.env)) (RR (.ref s.heap.objs.size) C) { s with heap:=h₁, toks:=tk }:=by
  have hlt : ∀ b ∈ fp, b < s.heap.objs.size:=fun b hb=>(T.obj _ _ t0 b hb).elim fun o e=>Heap.lt_size e.1
  have okY : ∀ E, (X.comp (tns ++ caps.map (·.2)) scope cl C s H fp E).Ok:=fun E=>CL ok I hf hlt hsub hall hC
  have t1 : tn 0 h₁:=T.keep _ _ _ t0 fun b _ o e=>old b o e
  have loop : ∀ tk, codeAny (model X.prog X.w) X.A (.compLoop (.ListComp elt [⟨tg, iter, ifs, 0⟩] scope pos) 0 (.ref it) (.ref s.heap.objs.size) (compEnvC scope cl C X.env)) (RR (.ref s.heap.objs.size) C) { s with heap:=h₁, toks:=tk }:=fun tk=>
    have z:=hb cl C s H fp (notedBy (model X.prog X.w) X.A (compEnvC scope cl C X.env) fun e s'=>RR (.ref s.heap.objs.size) C (.error e) s')
    JS (Y:=X.comp (tns ++ caps.map (·.2)) scope cl C s H fp _) rfl T hG z.1 z.2.1 z.2.2
      ⟨hc, rfl, Nat.ne_of_lt hC, fun hz=>(I.stack.mem hz).2.elim fun o ho=>absurd (Heap.lt_size ho.1) (Nat.lt_irrefl _), Nat.le_refl _, fun x c e=>(I.cell x c (hsub x c e)).elim fun v z=>Nat.ne_of_lt z.lt, fun b hb=>Nat.ne_of_lt (hlt b hb),
        fun b hb H' h'=>⟨h', Nat.ne_of_lt (Nat.lt_trans (hlt b hb) hC), (okY fun _ _=>True).exfs b hb, .inl hb, fun x c e=>(hf b hb).2.2.2.2.1 x c (hsub x c e), fun p hp=>VU (α:=Addr × Obj) hp⟩⟩
      (fun j v e=>(Je e).1) turn (fun ys its k H3 s4 I4 rv hz q=>hRR _ C ys H3 s4 (UT I hf (Nat.le_refl _) hC I4 I4.os I4.base I4.hok rfl rv hz) q)
      (.mk 0 H [] [] 0 ⟨FZ ok hn (okY _) I hsub hall hC hns old, t1, fun b hb=>(hf b hb).1, hacc, I.hok.fresh (Nat.le_refl _)⟩ .nil w0)
  exact codeAny_compStart_list (loop _) (T.self _ 0 _ _ _ t1 (loop _))
theorem JQ (ok : COk X scope caps) (hc : X.calm = true) (hn : tns.length = n) (hG : Jc n g)
    (hb : ∀ cl C s H ex E, PG (X.comp (tns ++ caps.map (·.2)) scope cl C s H ex E) tg g /\ PTs (X.comp (tns ++ caps.map (·.2)) scope cl C s H ex E) ifs tt /\ PE (X.comp (tns ++ caps.map (·.2)) scope cl C s H ex E) elt te)
    {itv : Value} (h : PIE X pins σ tg (fun J H1=>GD n caps g tt te σ Q J H1) itv s)
    (hsub : ∀ x c, cl.lookup x = some c -> X.env.cells.lookup x = some c) (hall : ∀ x, (x, NameKind.free) ∈ scope.names -> ∃ c, cl.lookup x = some c)
    (hRR : ∀ D C ys H3 s', CompEnd X pins σ H3 D C ys s' -> Q (.ref D) (upd H3 D (.lst ys)) -> RR (.ref D) C (.ok .next) s') :
    Hy X elt tg iter ifs scope pos itv cl RR E s:=by
  obtain ⟨it, fp, tn, J, H', rfl, I, T, t0, hf, W, ⟨m0, w0⟩, turn⟩:=h
  refine wpAny_newObj_type (wpAny_newFunctionEnv ok.cell (by intro y hy; simp at hy) (fun h₁ hns₁ hsb₁=>?_) ok.kind)
  have hs : ∀ o, (s.heap.push o).objs.size = s.heap.objs.size + 1:=fun o=>Heap.size_push ..
  exact CW ok hc hn hG hb I T t0 hf hsub hall w0 turn hRR (Nat.lt_of_lt_of_eq (Nat.lt_succ_self _) (hs _).symm) hns₁
    (fun b o e=>hsb₁.extBut b o (Nat.ne_of_lt (Nat.lt_trans (Heap.lt_size e) (Nat.lt_of_lt_of_eq (Nat.lt_succ_self _) (hs _).symm))) (Heap.get?_push_of_some _ (Heap.get?_push_of_some _ e)))
    (hsb₁.extBut _ _ (Nat.ne_of_lt (Nat.lt_of_lt_of_eq (Nat.lt_succ_self _) (hs _).symm)) (Heap.get?_push_of_some _ (Heap.get?_push_size _ rfl)))
end
theorem C8 (sc : Scope) (N0 : List Str) (tns : List Str) (caps : List (Nat × Str)) (hc : X.calm = true) (hi : PI X tg iter wi) (hG : Jc tns.length g)
    (hb : ∀ cl C s H ex E, PG (X.comp (tns ++ caps.map (·.2)) scope cl C s H ex E) tg g /\ PTs (X.comp (tns ++ caps.map (·.2)) scope cl C s H ex E) ifs tt /\ PE (X.comp (tns ++ caps.map (·.2)) scope cl C s H ex E) elt te)
    (hsc : X.env.scope = sc:=by rfl) (hN0 : X.N = N0:=by rfl) (ok : VD sc scope N0 tns caps = true:=by decide +kernel)
    (hs : ∀ x, foldedSetIterable iter X.env x = pure x:=by intro _; rfl) :
    PE X (.ListComp elt [⟨tg, iter, ifs, 0⟩] scope pos) (VG tns.length caps wi g tt te):=by
  intro pins s σ H Q I h
  have okc:=COk.of hsc hN0 ok
  obtain ⟨cl, ecl, hsub, hall⟩:=UH (scope:=scope) (env:=X.env) fun x hx hfr=>I.ok.has x.1 (.inl (okc.free x hx hfr))
  rw [eval_ListComp]
  exact wpAny_comprehension_free (use:=none) rfl hs ecl okc.kind okc.loc (thn (hi pins s σ H _ I h) fun xv s₁ h₁=>thn h₁ fun itv s₂ h₂=>
    JQ (RR:=fun acc C=>compPost (model X.prog X.w) X.A X.xe none (EP X pins σ Q) acc C) okc hc rfl hG hb h₂ hsub hall fun D C ys H3 s' ce q=>ce.ns.elim fun mm hns=>
      ⟨mm, hns, fun h' hs'=>⟨.ref D, _, ce.inv.turned (t':=s'.toks) (fun b o hb' e=>(hs'.extBut b o hb' e)) ce.fp.1 ce.fp.2.1 ce.fp.2.2.2.1 ce.fp.2.2.2.2.1 ce.fp.2.2.2.2.2, rfl, q⟩⟩)
theorem Ge {x : Str} {px spos : Pos} (j : Nat) (sc : Scope) (N0 : List Str) (tns : List Str) (caps : List (Nat × Str)) (hc : X.calm = true) (hN : X.N.Nodup) (hj : X.N[j]? = some x) (hx : X.env.scope.names.lookup x = some .local) (hi : PI X tg iter wi) (hG : Jc tns.length g)
    (hb : ∀ cl C s H ex E, PG (X.comp (tns ++ caps.map (·.2)) scope cl C s H ex E) tg g /\ PTs (X.comp (tns ++ caps.map (·.2)) scope cl C s H ex E) ifs tt /\ PE (X.comp (tns ++ caps.map (·.2)) scope cl C s H ex E) elt te)
    (hsc : X.env.scope = sc:=by rfl) (hN0 : X.N = N0:=by rfl) (ok : VD sc scope N0 tns caps = true:=by decide +kernel)
    (hsw : swapsWith (.ListComp elt [⟨tg, iter, ifs, 0⟩] scope pos) (some (.Name x px)) spos.line X.env = pure true:=by rfl)
    (hs : ∀ x, foldedSetIterable iter X.env x = pure x:=by intro _; rfl) :
    PS X (.Assign [.Name x px] (.ListComp elt [⟨tg, iter, ifs, 0⟩] scope pos) spos) (Bh (VG tns.length caps wi g tt te) (ZW j)):=by
  intro pins s σ H D I h
  have okc:=COk.of hsc hN0 ok
  obtain ⟨cl, ecl, hsub, hall⟩:=UH (scope:=scope) (env:=X.env) fun x hx hfr=>I.ok.has x.1 (.inl (okc.free x hx hfr))
  rw [exec_Assign_Name_used _ _ _ _ hsw]
  refine wpAny_bind (wpAny_standAt (wpAny_bind ?_))
  show wpAny _ _ (do let _ ← comprehension (.ListComp elt [⟨tg, iter, ifs, 0⟩] scope pos) scope X.env _ (newList []) false (eval iter X.env) (some (assign (.Name x px) X.env))) _ _ s
  refine wpAny_bind (thn (wpAny_comprehension_free (use:=some (assign (.Name x px) X.env)) (Q:=fun _ s'=>SP X pins D .next s') rfl hs ecl okc.kind okc.loc
    (thn (hi pins s σ H _ I h) fun xv s₁ h₁=>thn h₁ fun itv s₂ h₂=>?_)) fun _ s' hq=>wpAny_pure (wpAny_pure hq))
  refine JQ (Q:=fun v H1=>ZW j v σ H1 D.nx) (RR:=fun acc C=>compPost (model X.prog X.w) X.A X.xe (some (assign (.Name x px) X.env)) (fun _ s'=>SP X pins D .next s') acc C) okc hc rfl hG hb h₂ hsub hall ?_
  intro DD C ys H3 s' ce q
  obtain ⟨mm, hns⟩:=ce.ns
  obtain ⟨c0, c1, c2, c3, c4, c5⟩:=ce.fp
  show wpAny _ _ (assign (.Name x px) X.env (.ref DD)) _ _ _
  refine wpAny_assign_Name (V2 ce.inv hN hj (.inl hx) (v:=.ref DD) rfl (fun s2 I2 chg=>?_) (.inr hx))
  obtain ⟨c, hsb, hcc⟩:=chg
  have hCc : C ≠ c:=by
    rcases hcc with z | z
    . rw [z]; exact c1
    . exact fun e=>c4 x c z e.symm
  refine ⟨mm, ?_, fun h' hs'=>?_⟩
  . obtain ⟨o, es, ep, ho, r⟩ := hns
    exact ⟨o, es, ep, (hsb.2 C hCc).trans ho, r⟩
  . exact ⟨_, _, I2.turned (t':=s2.toks) (fun b o hb' e=>(hs'.extBut b o hb' e)) c0 c1 c3 c4 c5, q⟩
end
section
variable {K : PySem.W.Frag} {a : Addr} {xs : List V} {n : Nat} {caps : List (Nat × Str)} {g : TG} {tt : TT} {te : TE} {σ : St} {H : Hp} {Q : V -> Hp -> Prop}
theorem G2 (Pv : Nat -> List V -> Hp -> Prop) (h0 : Pv 0 [] H) (hl : ∀ i ys H, i <= xs.length -> Pv i ys H -> SqL K H a xs /\ ys.length <= sizeLine)
    (hs : ∀ i x ys H, xs[i]? = some x -> Pv i ys H -> g x (Ys n caps σ) H fun σ4 H4=>tt σ4 H4 fun c H5=>if c = true then te σ4 H5 fun v H6=>Pv (i + 1) (ys ++ [v]) H6 else Pv (i + 1) ys H5)
    (hd : ∀ ys H p, Pv xs.length ys H -> H p = none -> Q (.ref p) (upd H p (.lst ys))) :
    GD n caps g tt te σ Q (Itl K a) H:=by
  refine ⟨fun i m ys H=>m = xs.length - i /\ i <= xs.length /\ Pv i ys H, ⟨xs.length, by simp, Nat.zero_le _, h0⟩, ?_⟩
  rintro i m ys H2 ⟨rfl, hi, p⟩
  obtain ⟨q, hz⟩:=hl i ys H2 hi p
  refine ⟨hz, ?_⟩
  by_cases hlt : i < xs.length
  . refine .inr ⟨⟨xs, xs[i], q, by simp [hlt]⟩, Pv (i + 1), fun ys' H' p' => ⟨xs.length - (i + 1), by (clear p' hz q p hi hd hs hl h0; omega), rfl, hlt, p'⟩, fun x H' y => ?_⟩
    obtain ⟨e, y⟩:=y
    subst e
    exact hs i x ys _ (y xs q) p
  . have e : i = xs.length := by lia
    subst e
    exact .inl ⟨⟨xs, q, Nat.le_refl _⟩, fun p' hp'=>hd ys H2 p' p hp'⟩
end
section
variable {X : Cx} {pos : Pos}
noncomputable def Gx (K : PySem.W.Frag) : List V -> Hp -> VK -> Prop:=fun xs H Q=>∃ p ys, xs = [.ref p] /\ (SqL K H p ys ∨ SqT K H p ys) /\ ∀ l, H l = none -> Q (.ref l) (upd H l (.lst ys))
noncomputable def KK (K : PySem.W.Frag) : List V -> Hp -> VK -> Prop:=fun xs H Q=>∃ p ys, xs = [.ref p] /\ (SqL K H p ys ∨ SqT K H p ys) /\ Q (.int ys.length) H
theorem Vd (K : PySem.W.Frag) (h : X.K = K) : Qi X (.type "list") (Gx K):=by subst h; exact VW
theorem Xp (K : PySem.W.Frag) (h : X.K = K) : Qi X (.builtin "len") (KK K):=by subst h; exact VJ
theorem Xk (K : PySem.W.Frag) (h : X.K = K) : IxR X (BE K):=by subst h; exact CA
theorem K5 (K : PySem.W.Frag) (h : X.K = K) : IxR X (EC K):=by subst h; exact Bw
theorem Vi (K : PySem.W.Frag) (h : X.K = K) : SlR X (EB K):=by subst h; exact CF
end
end L2
namespace L2
open PySem PySem.Spec PyProof.Rows
structure Fn (P : Program) (w : World) (K : PySem.W.Frag) (mg : Str -> Option Value) (base : Heap) (k : Nat) (x : Str) (ps : List Str) (sp : Sp) : Prop where
  ex : ∃ f fd, FnOk P w K mg base CX0 k f fd ps sp /\ UE K fd ps [] /\ PySem.W.keepIn K (.ref f) = true /\ mg x = some (.ref f)
section
variable {X : Cx} {k j : Nat} {x : Str} {ps : List Str} {sp : Sp} {e : Expr} {es : List Expr} {t : TA} {p pos : Pos}
theorem Yh (G : Fn X.prog X.w X.K X.mg X.base k x ps sp) (hr : Room j X.A) (hj : k <= j) (ha : PA X (e :: es) t) (hg : Gl X x:=by rfl) (hdb : (x == ("__debug__" : Str)) = false:=by decide)
    (he : starEach (e :: es) X.env = (false, eval e X.env) :: starEach es X.env:=by rfl) (hpl : (backTo pos (starEach es X.env)).any (·.1) = false:=by rfl) :
    PE X (.Call (.Name x p) (e :: es) [] pos) (JZ sp [] E0 t):=by
  obtain ⟨f, fd, F, b, kp, m⟩:=G.ex
  exact DW F (hr.mono hj) hg m kp b .nil EO ha hdb he hpl
end
noncomputable def Def (K : PySem.W.Frag) (mg : Str -> Option Value) (x : Str) (st : Stmt) (ps : List Str) : Prop:=∃ f fd, Fun K x x st f fd /\ UE K fd ps [] /\ mg x = some (.ref f)
theorem YH {P : Program} {w : World} {K : PySem.W.Frag} {mg : Str -> Option Value} {base : Heap} {x : Str} {st : Stmt} {N ps : List Str} {k : Nat} {sp : Sp} (D : Def K mg x st ps) (S : FnScope N ps (Xi st)) (len : ∀ vs H Q E, sp vs H Q E -> vs.length = ps.length)
    (hbody : ∀ (f : Addr) (cdv : Value) (A : Around) (outer : List Env) (s : Shared) (H : Hp) (vs : List V) (Q : VK) (E : XK), Room k (A.deeper (envOfC x (Xi st) s.heap.objs.size f cdv)) -> sp vs H Q E ->
      ∃ t, PSs (Cg CX0 P w K mg base N x (Xi st) f cdv A outer s H E).nox (Yk st) t /\ t { nx:=fun _ H'=>Q .non H', rt:=Q } (J7 N vs) H) : Fn P w K mg base (k + 1) x ps sp:=by
  obtain ⟨f, fd, F, b, m⟩:=D
  exact ⟨f, fd, F.ok S len (hbody f), b, F.kp, m⟩
theorem Cr {a d c : Nat} (h : d <= 8) (hu : a + 8 < c) : a + d < c:=by omega
theorem XZ {H : Hp} {p : Addr} (h : H p = none) (o : HO) : Xm H (upd H p o):=fun b u q=>by rw [XB (XH q h)]; exact q
theorem Xm.own {H H2 : Hp} {p : Addr} (s : Xm H H2) (h : H p = none) (o : HO) : Xm H (upd H2 p o):=fun b u q=>by rw [XB (XH q h)]; exact s b u q
theorem Xm.new {H H2 : Hp} {p : Addr} (s : Xm H H2) (h : H2 p = none) (o : HO) : Xm H (upd H2 p o):=s.trans (XZ h o)
theorem hu8 {A : Around} {k : Nat} (hr : Room k A) : A.units + 8 < cLine:=Nat.lt_of_le_of_lt (Nat.add_le_add_left (by decide : 8 <= 64) _) hr.units
noncomputable abbrev Enc (α : Type):=PySem.W.Frag -> Hp -> V -> α -> Prop
noncomputable def Xc : Enc Int:=fun _ _ v i=>v = .int i
noncomputable def rL {α : Type} (r : Enc α) : Enc (List α):=fun K H v as=>∃ a xs, v = .ref a /\ SqL K H a xs /\ Paired (r K H) xs as
theorem Paired.getL {α β : Type} {F : α -> β -> Prop} : ∀ {l : List α} {m : List β} {i : Nat} {a : α}, Paired F l m -> l[i]? = some a -> ∃ b, m[i]? = some b /\ F a b
  | _, _, _, _, .nil, e=>by simp at e
  | _, _, 0, _, .cons r _, e=>by simp at e; subst e; exact ⟨_, rfl, r⟩
  | _, _, i + 1, a, .cons _ t, e=>by
    obtain ⟨b, h1, h2⟩:=Paired.getL (i:=i) (a:=a) t (by simpa using e)
    exact ⟨b, by simpa using h1, h2⟩
theorem Paired.getR {α β : Type} {F : α -> β -> Prop} : ∀ {l : List α} {m : List β} {i : Nat} {b : β}, Paired F l m -> m[i]? = some b -> ∃ a, l[i]? = some a /\ F a b
  | _, _, _, _, .nil, e=>by simp at e
  | _, _, 0, _, .cons r _, e=>by simp at e; subst e; exact ⟨_, rfl, r⟩
  | _, _, i + 1, b, .cons _ t, e=>by
    obtain ⟨a, h1, h2⟩:=Paired.getR (i:=i) (b:=b) t (by simpa using e)
    exact ⟨a, by simpa using h1, h2⟩
theorem Paired.len {α β : Type} {F : α -> β -> Prop} {l : List α} {m : List β} (h : Paired F l m) : l.length = m.length:=Paired.length h
theorem Paired.app {α β : Type} {F : α -> β -> Prop} : ∀ {l l' : List α} {m m' : List β}, Paired F l m -> Paired F l' m' -> Paired F (l ++ l') (m ++ m')
  | _, _, _, _, .nil, h=>h
  | _, _, _, _, .cons r t, h=>.cons r (Paired.app t h)
theorem UD (ns : List Int) : ∀ {K : PySem.W.Frag} {H : Hp}, Paired (Xc K H) (ns.map V.int) ns:=by
  intro K H
  induction ns with
  | nil=>exact .nil
  | cons n r ih=>exact .cons rfl ih
structure EqOk {α : Type} [DecidableEq α] (r : Enc α) (d : Nat) : Prop where
  uniq : ∀ {X : Cx} {pins : List (Addr × Obj)} {σ : St} {H : Hp} {s : Shared} {x : V} {a b : α}, Inv X pins σ H s -> r X.K H x a -> r X.K H x b -> a = b
  eq : ∀ {X : Cx} {pins : List (Addr × Obj)} {σ : St} {H : Hp} {s : Shared} {x y : V} {v u : Value} {a b : α} {A : Around}, Inv X pins σ H s -> X2 x v -> X2 y u -> r X.K H x a -> r X.K H y b -> A.units + d < cLine -> SeqAt.EqAt A s v u (decide (a = b))
  rc : ∀ {X : Cx} {pins : List (Addr × Obj)} {σ : St} {H : Hp} {s : Shared} {x y : V} {v u : Value} {a b : α} {A : Around}, Inv X pins σ H s -> X2 x v -> X2 y u -> r X.K H x a -> r X.K H y b -> A.units + d < cLine -> SeqAt.RcAt A s v u (decide (a = b))
  ne : ∀ {X : Cx} {pins : List (Addr × Obj)} {σ : St} {H : Hp} {s : Shared} {x y : V} {v u : Value} {a b : α} {A : Around}, Inv X pins σ H s -> X2 x v -> X2 y u -> r X.K H x a -> r X.K H y b -> A.units + d < cLine -> SeqAt.RcNeAt A s v u (!decide (a = b))
  keep : ∀ {K : PySem.W.Frag} {H H' : Hp} {x : V} {a : α}, Xm H H' -> r K H x a -> r K H' x a
theorem EqOk.up {α : Type} [DecidableEq α] {r : Enc α} {d e : Nat} (E : EqOk r d) (h : d <= e) : EqOk r e:=
  ⟨E.uniq, fun I rx ry h1 h2 hu=>E.eq I rx ry h1 h2 (by omega), fun I rx ry h1 h2 hu=>E.rc I rx ry h1 h2 (by omega), fun I rx ry h1 h2 hu=>E.ne I rx ry h1 h2 (by omega), E.keep⟩
theorem ZH (A : Around) : A.in1.units = A.units + 1:=rfl
theorem FU {a b : Int} : (a == b) = decide (a = b):=by rw [Bool.eq_iff_iff]; simp
theorem eq_int : EqOk Xc 0 where
  uniq:=fun _ h1 h2=>by
    have h1' : _ = V.int _:=h1
    have h2' : _ = V.int _:=h2
    rw [h1'] at h2'; injection h2'
  eq:=fun {X pins σ H s x y v u a b A} I rx ry h1 h2 _=>by
    have h1' : x = V.int a:=h1
    have h2' : y = V.int b:=h2
    subst h1' h2'
    obtain ⟨t, rfl⟩:=rx
    obtain ⟨t', rfl⟩:=ry
    rw [← FU]; exact SeqAt.EqAt.int_int a t b t'
  rc:=fun {X pins σ H s x y v u a b A} I rx ry h1 h2 _=>by
    have h1' : x = V.int a:=h1
    have h2' : y = V.int b:=h2
    subst h1' h2'
    obtain ⟨t, rfl⟩:=rx
    obtain ⟨t', rfl⟩:=ry
    rw [← FU]; exact SeqAt.RcAt.int_int a t b t'
  ne:=fun {X pins σ H s x y v u a b A} I rx ry h1 h2 _=>by
    have h1' : x = V.int a:=h1
    have h2' : y = V.int b:=h2
    subst h1' h2'
    obtain ⟨t, rfl⟩:=rx
    obtain ⟨t', rfl⟩:=ry
    rw [← FU]; exact SeqAt.RcNeAt.int_int a t b t'
  keep:=fun _ h=>h
theorem Fa {α : Type} [DecidableEq α] {as bs : List α} (h : as.length = bs.length) : (List.range as.length).all (fun j=>decide (as[j]? = bs[j]?)) = decide (as = bs):=by
  rw [Bool.eq_iff_iff]
  simp only [List.all_eq_true, List.mem_range, decide_eq_true_eq]
  constructor
  . intro hh
    apply List.ext_getElem?
    intro i
    by_cases hi : i < as.length
    . exact hh i hi
    . rw [List.getElem?_eq_none (by omega), List.getElem?_eq_none (by omega)]
  . rintro rfl; intros; rfl
theorem Paired.uniq {α β : Type} {F : α -> β -> Prop} (hu : ∀ a b c, F a b -> F a c -> b = c) : ∀ {l : List α} {m m' : List β}, Paired F l m -> Paired F l m' -> m = m'
  | _, _, _, .nil, .nil=>rfl
  | _, _, _, .cons r t, .cons r' t'=>by rw [hu _ _ _ r r', Paired.uniq hu t t']
theorem Paired.imp2 {α β : Type} {F G : α -> β -> Prop} (h : ∀ a b, F a b -> G a b) : ∀ {l : List α} {m : List β}, Paired F l m -> Paired G l m
  | _, _, .nil=>.nil
  | _, _, .cons r t=>.cons (h _ _ r) (Paired.imp2 h t)
section
variable {α : Type} [DecidableEq α] {r : Enc α} {d : Nat}
theorem JV (E : EqOk r d) {X : Cx} {pins : List (Addr × Obj)} {σ : St} {H : Hp} {s : Shared} {A : Around} (I : Inv X pins σ H s) (hu : A.units + (d + 1) < cLine) {xs ys : List V} {as bs : List α} {its its2 : List Value}
    (r1 : XV xs its) (r2 : XV ys its2) (p1 : Paired (r X.K H) xs as) (p2 : Paired (r X.K H) ys bs) :
    ∀ j (h1 : j < its.toArray.size) (h2 : j < its2.toArray.size), SeqAt.EqAt A.in1 s its.toArray[j] its2.toArray[j] (decide (as[j]? = bs[j]?)):=by
  intro j h1 h2
  have h1' : j < its.length:=by simpa using h1
  have h2' : j < its2.length:=by simpa using h2
  obtain ⟨x, ex, rx⟩:=Paired.getR (i:=j) (b:=its[j]) r1 (by simp [h1'])
  obtain ⟨y, ey, ry⟩:=Paired.getR (i:=j) (b:=its2[j]) r2 (by simp [h2'])
  obtain ⟨a, ea, ra⟩:=Paired.getL p1 ex
  obtain ⟨b, eb, rb⟩:=Paired.getL p2 ey
  have:=E.eq (A:=A.in1) I rx ry ra rb (by rw [ZH]; omega)
  rw [ea, eb]
  simpa using this
theorem GL (E : EqOk r d) : EqOk (rL r) (d + 1):=by
  have un : ∀ {X : Cx} {pins : List (Addr × Obj)} {σ : St} {H : Hp} {s : Shared} {x : V} {a b : List α}, Inv X pins σ H s -> rL r X.K H x a -> rL r X.K H x b -> a = b:=by
    intro X pins σ H s x as bs I h1 h2
    obtain ⟨a, xs, rfl, q1, p1⟩:=h1
    obtain ⟨b, ys, e, q2, p2⟩:=h2
    cases e
    cases I.list_inj q1 q2
    exact Paired.uniq (F:=r X.K H) (fun _ _ _ z z'=>E.uniq I z z') p1 p2
  have rc : ∀ {X : Cx} {pins : List (Addr × Obj)} {σ : St} {H : Hp} {s : Shared} {x y : V} {v u : Value} {a b : List α} {A : Around}, Inv X pins σ H s -> X2 x v -> X2 y u -> rL r X.K H x a -> rL r X.K H y b -> A.units + (d + 1) < cLine -> SeqAt.RcAt A s v u (decide (a = b)):=by
    intro X pins σ H s x y v u as bs A I rx ry h1 h2 hu
    obtain ⟨a, xs, rfl, q1, p1⟩:=h1
    obtain ⟨b, ys, rfl, q2, p2⟩:=h2
    cases rx; cases ry
    obtain ⟨its, r1, l1, _⟩:=I.list q1
    obtain ⟨its2, r2, l2, _⟩:=I.list q2
    have n1:=r1.length
    have n2:=r2.length
    have m1:=Paired.len p1
    have m2:=Paired.len p2
    by_cases hl : as.length = bs.length
    . have := SeqAt.RcAt.lists (A := A) (e := fun j => decide (as[j]? = bs[j]?)) l1.isList l2.isList (by simp only [List.size_toArray]; omega) (by omega) (JV E I hu r1 r2 p1 p2)
      rw [show its.toArray.size = as.length by simp only [List.size_toArray]; omega, Fa hl] at this
      exact this
    . rw [decide_eq_false (fun e => hl (congrArg List.length e))]
      exact SeqAt.RcAt.lists_lengths l1.isList l2.isList (by simp only [List.size_toArray, bne_iff_ne]; omega) (by omega)
  refine ⟨un, ?_, rc, ?_, ?_⟩
  . intro X pins σ H s x y v u as bs A I rx ry h1 h2 hu
    obtain ⟨a, xs, rfl, q1, p1⟩:=id h1
    obtain ⟨b, ys, rfl, q2, p2⟩:=id h2
    have R:=rc (A:=A) I rx ry h1 h2 hu
    cases rx; cases ry
    by_cases e : a = b
    . subst e
      rw [decide_eq_true (un I h1 h2)]
      exact SeqAt.EqAt.same _
    . exact SeqAt.EqAt.of_refs e R
  . intro X pins σ H s x y v u as bs A I rx ry h1 h2 hu
    obtain ⟨a, xs, rfl, q1, p1⟩:=h1
    obtain ⟨b, ys, rfl, q2, p2⟩:=h2
    cases rx; cases ry
    obtain ⟨its, r1, l1, _⟩:=I.list q1
    obtain ⟨its2, r2, l2, _⟩:=I.list q2
    have n1:=r1.length
    have n2:=r2.length
    have m1:=Paired.len p1
    have m2:=Paired.len p2
    by_cases hl : as.length = bs.length
    . have := SeqAt.RcNeAt.lists (A := A) (e := fun j => decide (as[j]? = bs[j]?)) l1.isList l2.isList (by simp only [List.size_toArray]; omega) (by omega) (JV E I hu r1 r2 p1 p2)
      rw [show its.toArray.size = as.length by simp only [List.size_toArray]; omega, Fa hl] at this
      exact this
    . rw [decide_eq_false (fun e => hl (congrArg List.length e))]
      exact SeqAt.RcNeAt.lists_lengths l1.isList l2.isList (by simp only [List.size_toArray, bne_iff_ne]; omega) (by omega)
  . intro K H H' x as e h
    obtain ⟨a, xs, rfl, q1, p1⟩:=h
    exact ⟨a, xs, rfl, e.seq q1, Paired.imp2 (fun _ _ z=>E.keep e z) p1⟩
end
section
variable {α β : Type} [DecidableEq α] [DecidableEq β] {r : Enc α} {q : Enc β} {d : Nat}
end
section
variable {X : Cx} {α : Type} [DecidableEq α] {r : Enc α} {d : Nat}
noncomputable def Hi (K : PySem.W.Frag) (r : Enc α) : R2:=fun x y H Q=>∃ a b, r K H x a /\ r K H y b /\ Q (.bl (!decide (a = b))) H
theorem B7 (E : EqOk r d) (hu : X.A.units + d < cLine) : OpR X (compareOp .NotEq) (Hi X.K r):=by
  intro pins s σ H x y v u Q I rx ry h
  obtain ⟨a, b, h1, h2, q⟩:=h
  exact E.ne (A:=X.A) I rx ry h1 h2 hu _ _ _ _ ⟨.bl _, H, I, rfl, q⟩
theorem YV : Qi X (.builtin "isinstance") (fun xs H Q=>∃ x n t b, xs = [x, .ty n] /\ TyOf X.K H x t /\ PySem.W.kitOne X.K t (.type n) = some b /\ Q (.bl b) H):=by
  intro pins s σ H xs us Q I r h
  obtain ⟨x, n, t, b, rfl, ty, e, q⟩:=h
  obtain ⟨u, v, rfl, ru, rv⟩:=XV.two r
  cases (show v = Value.type n from rv)
  exact GV I ru ty e fun tk=>⟨.bl b, H, I.tok tk, rfl, q⟩
theorem J6 : OpR X (binaryOp .FloorDiv) (rI (fun _ j=>0 < j /\ j.natAbs.log2 < 9000) fun i j=>.int (i / j)):=opI fun i j _ _ _ _ _ hc q=>by
  refine floordiv_int (by omega) ?_ (.inl (PyProof.noPylong_of_log2 hc.2))
  rw [Int.fdiv_eq_ediv_of_nonneg i (by omega)]
  exact q
end
end L2
namespace PySem
open Sem (wp)
section
variable {prog : Program} {w : World} {A : Around} {E : Value -> Shared -> Prop} {s : Shared}
end
end PySem
namespace L2
open PySem PySem.Spec PyProof.Rows
section
variable {X : Cx} {e : Expr} {te : TE}
end
end L2
namespace L2
open PySem PySem.Spec PyProof.Rows
section
variable {X : Cx} {pins : List (Addr × Obj)} {σ : St} {H : Hp} {s : Shared} {h' : Heap}
theorem Inv.turnLay {t' : Nat} {ch : List Addr} {T : Addr} {u : HO} (I : Inv X pins σ H s) (k : ∀ b o, b ∉ ch -> s.heap.get? b = some o -> h'.get? b = some o) (hf : ∀ b ∈ ch, UC X pins H b)
    (hp : s.heap.objs.size <= T) (new : YS X.prog X.w (upd H T u) h' T u) : Inv X pins σ (upd H T u) { s with heap:=h', toks:=t' }:=by
  have hn : H T = none:=I.hok.fresh hp
  have nit : ∀ b o, H b = some o -> b ∉ ch:=fun b o e z=>by rw [(hf b z).1] at e; cases e
  refine I.step (g':=s.gens) (d':=s.drawn) (ch:=ch) (fun b hb=>?_) (fun b o _ _ hc e _=>k b o hc e) (fun b o _ _ hc e _=>⟨o.slots, k b o hc e⟩)
    (fun b o _ e n=>by rw [XB (Nat.ne_of_lt (Nat.lt_of_lt_of_le (Heap.lt_size e) hp))]; exact n)
    (fun b o hc e=>⟨o, k b o hc e⟩) (fun b xs e=>by rw [XB (XH e hn)]; exact e) (fun b o xs e=>by rw [XB (XH e hn)]; exact e) (fun b ps e=>⟨#[], by rw [XB (XH e hn), e]; simp⟩) (fun m hm=>?_) (fun b v e=>?_) I.bare
  . obtain ⟨f0, f1, f2, f3, f4, f5⟩ := hf b hb
    exact ⟨f3, f1, f4, f5⟩
  . obtain ⟨o, es, ep, ho, r⟩ := hm
    exact ⟨o, es, ep, k _ o (fun z=>(hf _ z).2.1 rfl) ho, r⟩
  . by_cases hb : b = T
    . subst hb; rw [Yt] at e; cases e; exact new
    . rw [XB hb] at e
      refine (I.hok b v e).stay (fun c o hc q=>k c o ?_ q) (fun c q=>by rw [XB (XH q hn)]; exact q) fun c xs q=>by rw [XB (XH q hn)]; exact q
      rcases hc with z | z
      . rw [z]; exact nit b v e
      . exact nit c _ z
end
noncomputable def Ite (K : PySem.W.Frag) (a : Addr) : It:=
  ⟨fun i H=>∃ xs x, SqL K H a xs /\ xs[i]? = some x, fun i H y H'=>∃ p x, y = .ref p /\ H p = none /\ H' = upd H p (.tup [.int (i : Int), x]) /\ ∀ xs, SqL K H a xs -> xs[i]? = some x, fun i H=>∃ xs, SqL K H a xs /\ xs.length <= i⟩
theorem Gy {P : Program} {w : World} {K : PySem.W.Frag} {elts : List Expr} {k : Nat} {pos : Pos} (a e it : Addr) (h1 : e ≠ it) (h2 : a ≠ e) (h3 : a ≠ it) :
    Turn P w K (.Tuple elts k pos) (Ite K a) [e, it] e (fun i h=>(∃ old, IsEnum h e it (i : Int) old) /\ h.IsListIter it a i) where
  mem:=by simp
  obj:=fun i h st b hb=>by
    obtain ⟨⟨old, eo⟩, o, io, c, d⟩:=st
    rcases List.mem_cons.mp hb with z | z
    . subst z
      exact ⟨_, eo, fun v z=>by cases z⟩
    . have z := List.mem_singleton.mp z
      subst z
      exact ⟨o, io, fun v z=>by rw [d] at z; cases z⟩
  keep:=fun i h h' st k=>⟨let ⟨old, eo⟩:=st.1; ⟨old, k e (by simp) _ eo⟩, st.2.at fun o q=>k it (by simp) o q⟩
  item:=by
    intro X hP hw hK hc i pins s σ H E I hf st hg
    subst hP hw hK
    obtain ⟨xs, x, hq, hx⟩:=hg
    obtain ⟨its, rv, p, hz⟩:=I.list hq
    obtain ⟨u, hu, ru⟩:=rv.get hx
    obtain ⟨⟨old, eo⟩, io⟩:=id st
    have hu' : its.toArray[i]? = some u:=by simpa using hu
    have W:=WalksT.enumerate (prog:=X.prog) (w:=X.w) (A:=X.A) (I.ok.hd hc) e it a h1 h2 h3 its.toArray
    refine wpAny_pyNext_enum_item eo io p.isList hu' h1 fun h' eo' io' tup sz kk=>?_
    have hT : ∀ b o, s.heap.get? b = some o -> s.heap.objs.size ≠ b:=fun b o q z=>absurd (Heap.lt_size q) (by rw [← z]; exact Nat.lt_irrefl _)
    have hTe:=hT e _ eo
    have hTi : s.heap.objs.size ≠ it:=by obtain ⟨o, q, _⟩:=io; exact hT it o q
    have ha' : h'.IsList a its.toArray:=p.isList.at fun o q=>kk a o h2 h3 q
    refine ⟨_, rfl, W.go elts k pos i s.heap.objs.size _ _ _ ⟨⟨_, eo'⟩, io', ha', hTe, hTi⟩ fun h'' st' kk'=>?_⟩
    obtain ⟨st2, io2, _⟩:=st'
    have tup2:=kk' _ _ (by simp [hTe, hTi]) tup
    have k2 : ∀ b o, b ∉ [e, it] -> s.heap.get? b = some o -> h''.get? b = some o:=fun b o q1 q=>kk' b o q1 (kk b o (fun z=>q1 (by simp [z])) (fun z=>q1 (by simp [z])) q)
    refine ⟨.ref s.heap.objs.size, upd H s.heap.objs.size (.tup [.int (i : Int), x]), I.turnLay (h':=h'') (t':=s.toks + 1) k2 hf (Nat.le_refl _) ⟨by show 2 <= sizeLine; decide, [.int (i : Int) s.toks, u], .cons ⟨_, rfl⟩ (.cons ru .nil), ⟨_, tup2, rfl, _, rfl⟩⟩, rfl,
      ⟨_, x, rfl, I.hok.fresh (Nat.le_refl _), rfl, fun ys hy=>by rw [I.list_inj hy hq]; exact hx⟩, ⟨by simpa using st2, io2⟩, fun b hb=>?_⟩
    rcases List.mem_cons.mp hb with z | z
    . rw [z, XB hTe.symm]; exact (hf e (by simp)).1
    . rw [List.mem_singleton.mp z, XB hTi.symm]; exact (hf it (by simp)).1
  done:=by
    intro X hP hw hK hc i pins s σ H E I hf st hg
    subst hP hw hK
    obtain ⟨xs, hq, hx⟩:=hg
    obtain ⟨its, rv, p, hz⟩:=I.list hq
    obtain ⟨⟨old, eo⟩, io⟩:=id st
    obtain ⟨f0, f1, f2, f3, f4, f5⟩:=hf it (by simp)
    have hl:=rv.length
    exact wpAny_pyNext_enum_end (I.ok.hd hc) eo io p.isList (by simp; omega) fun h' eb=>⟨rfl, I.turned (t':=s.toks) (fun b o hb q=>eb b o hb q) f0 f1 f3 f4 f5⟩
  self:=by
    intro A i s Q E st h
    obtain ⟨⟨old, eo⟩, io⟩:=st
    exact wpAny_pyIter_enum eo h
section
variable {X : Cx} {elts : List Expr} {k : Nat} {pos0 : Pos}
noncomputable def BU (K : PySem.W.Frag) (tl : TE) : TI:=fun σ H R=>tl σ H fun x H1=>∃ a, x = .ref a /\ (∃ xs, SqL K H1 a xs) /\ R (Ite K a) H1
theorem Vv {l : Expr} {tl : TE} {p pos : Pos} (hg : Gl X "enumerate") (hm : X.mg "enumerate" = none) (hl : PE X l tl) (hs : starEach [l] X.env = [(false, eval l X.env)]:=by rfl) :
    PI X (.Tuple elts k pos0) (.Call (.Name "enumerate" p) [l] [] pos) (BU X.K tl):=by
  intro pins s σ H R I h
  refine wpAny_Call_Name_kw (Q3 I hg hm boot_enumerate ?_)
  refine PyProof.Rows.callWith_type1 ?_ hs rfl
  rw [hs]
  show wpAny _ _ (spliced ((false, eval l X.env) :: backTo pos [])) _ _ s
  refine Calls.spliced_cons (thn (hl pins s σ H _ I h) fun v s1 ⟨x, H1, I1, r1, a, ex, ⟨xs, hq⟩, q⟩=>?_)
  subst ex
  cases r1
  obtain ⟨its, rv, pl, hz⟩:=I1.list hq
  refine Calls.spliced_nil ?_
  have hlt : a < s1.heap.objs.size:=by obtain ⟨o, n, ho, _⟩:=pl; exact Heap.lt_size ho
  refine call_enumerate_list pl.isList fun h' en io sz kk=>?_
  refine wpAny_pyIter_enum en ?_
  refine ⟨_, [s1.heap.objs.size + 1, s1.heap.objs.size], _, _, H1, rfl, I1.kept (t':=s1.toks) kk, Gy a _ _ (Nat.ne_of_gt (Nat.lt_succ_self _)) (Nat.ne_of_lt (Nat.lt_succ_of_lt hlt)) (Nat.ne_of_lt hlt), ⟨⟨_, en⟩, io⟩, fun b hb=>?_, q⟩
  have hb' : s1.heap.objs.size <= b:=by
    rcases List.mem_cons.mp hb with z | z
    . rw [z]; exact Nat.le_succ _
    . rw [List.mem_singleton.mp z]; exact Nat.le_refl _
  exact I1.fpOk hb' (I1.hok.fresh hb')
end
section
variable {X : Cx}
end
section
variable {α : Type} [DecidableEq α] {r : Enc α} {d : Nat}
end
end L2
namespace L2
open PySem PySem.Spec PyProof.Rows
section
variable {X : Cx} {o e f : Expr} {td ty tx : TE} {apos cpos : Pos}
end
end L2
namespace L2
open PySem PySem.Spec PyProof.Rows
theorem Yz : ∀ (names : List (Str × NameKind)) (n : Nat) (acc : List (Str × Addr)) {x : Str}, (x, NameKind.cell) ∉ names -> (cellsFrom n names acc).lookup x = acc.lookup x
  | [], _, _, _, _=>rfl
  | (y, k) :: r, n, acc, x, h=>by
    have hr : (x, NameKind.cell) ∉ r:=fun z=>h (List.mem_cons_of_mem _ z)
    unfold cellsFrom
    split
    . rename_i hk
      have hk' : k = NameKind.cell:=by simpa using hk
      rw [Yz r _ _ hr, List.lookup_cons]
      have : (x == y) = false:=beq_eq_false_iff_ne.mpr fun e=>h (by rw [e, hk']; exact List.mem_cons_self)
      rw [this]
    . exact Yz r _ _ hr
theorem Zs : ∀ (names : List (Str × NameKind)) (n : Nat) (acc : List (Str × Addr)) {x : Str} {c : Addr}, (x, NameKind.cell) ∈ names -> (cellsFrom n names acc).lookup x = some c -> n <= c
  | [], _, _, _, _, h, _=>nomatch h
  | (y, k) :: r, n, acc, x, c, h, e=>by
    unfold cellsFrom at e
    split at e
    . by_cases hr : (x, NameKind.cell) ∈ r
      . exact Nat.le_of_succ_le (Zs r _ _ hr e)
      . rw [Yz r _ _ hr, List.lookup_cons] at e
        rcases List.mem_cons.mp h with h | h
        . have hx : x = y := congrArg Prod.fst h
          rw [hx, beq_self_eq_true] at e
          exact Nat.le_of_eq (Option.some.inj e)
        . exact absurd h hr
    . rename_i hk
      rcases List.mem_cons.mp h with h | h
      . exact absurd (by simpa using (congrArg Prod.snd h).symm) hk
      . exact Zs r _ _ h e
theorem Zw : ∀ (names : List (Str × NameKind)) (n : Nat) (acc : List (Str × Addr)) {x : Str}, ((x, NameKind.cell) ∈ names ∨ ∃ c, acc.lookup x = some c) -> ∃ c, (cellsFrom n names acc).lookup x = some c
  | [], _, _, _, h=>h.elim (fun z=>nomatch z) id
  | (y, k) :: r, n, acc, x, h=>by
    unfold cellsFrom
    split
    . refine Zw r _ _ ?_
      by_cases hx : x = y
      . subst hx; exact .inr ⟨n, by rw [List.lookup_cons]; simp⟩
      . rcases h with h | ⟨c, h⟩
        . rcases List.mem_cons.mp h with h | h
          . exact absurd (congrArg Prod.fst h) hx
          . exact .inl h
        . exact .inr ⟨c, by rw [List.lookup_cons, beq_eq_false_iff_ne.mpr hx]; exact h⟩
    . rename_i hk
      refine Zw r _ _ ?_
      rcases h with h | h
      . rcases List.mem_cons.mp h with h | h
        . exact absurd (by simpa using (congrArg Prod.snd h).symm) hk
        . exact .inl h
      . exact .inr h
theorem Zv : ∀ (names : List (Str × NameKind)) (n : Nat) (acc : List (Str × Addr)), (∀ x y c, acc.lookup x = some c -> acc.lookup y = some c -> x = y) -> (∀ x c, acc.lookup x = some c -> c < n) ->
    ∀ x y c, (cellsFrom n names acc).lookup x = some c -> (cellsFrom n names acc).lookup y = some c -> x = y
  | [], _, _, h, _=>h
  | (z, k) :: r, n, acc, h, hl=>by
    unfold cellsFrom
    split
    . refine Zv r (n + 1) _ (fun x y c h1 h2 => ?_) fun x c h1 => ?_
      . rw [List.lookup_cons] at h1 h2
        cases hx : x == z <;> cases hy : y == z <;> rw [hx] at h1 <;> rw [hy] at h2 <;> simp only at h1 h2
        . exact h x y c h1 h2
        . cases h2; exact absurd (hl x n h1) (Nat.lt_irrefl _)
        . cases h1; exact absurd (hl y n h2) (Nat.lt_irrefl _)
        . rw [beq_iff_eq.mp hx, beq_iff_eq.mp hy]
      . rw [List.lookup_cons] at h1
        cases hx : x == z <;> rw [hx] at h1 <;> simp only at h1
        . exact Nat.lt_succ_of_lt (hl x c h1)
        . cases h1; exact Nat.lt_succ_self _
    . exact Zv r n acc h hl
theorem Ze : ∀ (names : List (Str × NameKind)) (h : Heap) (acc : List (Str × Addr)) {x : Str} {c : Addr}, (cellsFrom h.objs.size names acc).lookup x = some c -> acc.lookup x = some c ∨ ((pushCells h names).IsCell c none /\ h.objs.size <= c)
  | [], _, _, _, _, e=>.inl e
  | (z, k) :: r, h, acc, x, c, e=>by
    unfold cellsFrom at e
    unfold pushCells
    split at e
    . rename_i hk
      rw [if_pos hk]
      have e' : (cellsFrom (h.push { cls:=.type "cell", data:=.cell none }).objs.size r ((z, h.objs.size) :: acc)).lookup x = some c:=by rw [Heap.size_push]; exact e
      rcases Ze r _ _ e' with q | ⟨q1, q2⟩
      . rw [List.lookup_cons] at q
        cases hx : x == z <;> rw [hx] at q <;> simp only at q
        . exact .inl q
        . cases q
          exact .inr ⟨⟨_, pushCells_keeps _ _ _ _ (Heap.get?_push_size _ rfl), rfl⟩, Nat.le_refl _⟩
      . exact .inr ⟨q1, by rw [Heap.size_push] at q2; omega⟩
    . rename_i hk
      rw [if_neg hk]
      exact Ze r h acc e
theorem JL : ∀ {l : List (Str × NameKind)} {x : Str} {j k : NameKind}, (l.map (·.1)).Nodup -> (x, j) ∈ l -> (x, k) ∈ l -> j ≠ k -> False
  | [], _, _, _, _, h, _, _=>nomatch h
  | (y, i) :: r, x, j, k, hn, h1, h2, ne=>by
    rw [List.map_cons, List.nodup_cons] at hn
    rcases List.mem_cons.mp h1 with h1 | h1 <;> rcases List.mem_cons.mp h2 with h2 | h2
    . cases h1; cases h2; exact ne rfl
    . cases h1; exact hn.1 (List.mem_map.mpr ⟨_, h2, rfl⟩)
    . cases h2; exact hn.1 (List.mem_map.mpr ⟨_, h1, rfl⟩)
    . exact JL hn.2 h1 h2 ne
theorem ZO {env : Env} : ∀ {names : List (Str × NameKind)} {x : Str} {k : NameKind},
    (names.map fun (n, k)=>if (k == NameKind.free && env.scope.kind == .function && env.kindOf n == some .cell) then (n, NameKind.cell) else (n, k)).lookup x = some k -> (k = .cell ∨ k = .free) -> (x, NameKind.free) ∈ names ∨ (x, NameKind.cell) ∈ names
  | [], _, _, h, _=>by simp at h
  | (n, kk) :: r, x, k, h, hk=>by
    have ih:=@ZO env r x k
    simp only [List.map_cons] at h
    have up : ((x, NameKind.free) ∈ r ∨ (x, NameKind.cell) ∈ r) -> ((x, NameKind.free) ∈ (n, kk) :: r ∨ (x, NameKind.cell) ∈ (n, kk) :: r):=fun z=>z.elim (fun z=>.inl (List.mem_cons_of_mem _ z)) fun z=>.inr (List.mem_cons_of_mem _ z)
    by_cases hcond : (kk == NameKind.free && env.scope.kind == .function && env.kindOf n == some .cell) = true
    . rw [if_pos hcond, List.lookup_cons] at h
      have hfree : kk = NameKind.free:=by
        rw [Bool.and_eq_true, Bool.and_eq_true] at hcond
        simpa using hcond.1.1
      cases hx : x == n with
      | true=>
        have : x = n:=by simpa using hx
        subst this; subst hfree
        exact .inl List.mem_cons_self
      | false=>rw [hx] at h; exact up (ih h hk)
    . rw [if_neg hcond, List.lookup_cons] at h
      cases hx : x == n with
      | true=>
        rw [hx] at h
        have hkk : kk = k:=Option.some.inj h
        have : x = n:=by simpa using hx
        subst this; subst hkk
        rcases hk with z | z
        . subst z; exact .inr List.mem_cons_self
        . subst z; exact .inl List.mem_cons_self
      | false=>rw [hx] at h; exact up (ih h hk)
theorem Kt {M : Model} {A : Around} {E : Value -> Shared -> Prop} {s : Shared} {scope : Scope} {globals : Addr} {cl : List (Str × Addr)} {qual : Str} {outer : Env} {Q : Env -> Shared -> Prop}
    (hQ : ∀ h', h'.Ns s.heap.objs.size (fun _=>none) -> (∀ b o, s.heap.get? b = some o -> h'.get? b = some o) ->
      (∀ x c, (cellsFrom (s.heap.objs.size + 1) scope.names cl).lookup x = some c -> cl.lookup x = some c ∨ (h'.IsCell c none /\ s.heap.objs.size + 1 <= c)) ->
      Q (newEnv scope s.heap.objs.size globals (cellsFrom (s.heap.objs.size + 1) scope.names cl) qual none .none (some outer) builtinsNs) { s with heap:=h' }) :
    wpAny M A (newFunctionEnv scope globals cl [] qual none .none (some outer)) Q E s:=by
  simp only [newFunctionEnv, Option.isSome_some, if_true]
  refine wpAny_bind (wpAny_alloc ?_)
  refine wpAny_bind (wpAny_layCells _ (fun name kind cells=>by cases hkc : kind == NameKind.cell <;> simp [hkc]) _ _ _ _ ?_)
  rw [show ({ s with heap:=s.heap.push { cls:=.type "dict", data:=.dict #[] } } : Shared).heap.objs.size = s.heap.objs.size + 1 from Heap.size_push ..]
  rw [List.forIn_nil]
  refine wpAny_bind (wpAny_pure (wpAny_pure (hQ _ ((Heap.Ns.new s.heap (.type "dict")).keeps (pushCells_keeps _ _)) (fun b o e=>pushCells_keeps _ _ b o (Heap.get?_push_of_some _ e)) fun x c e=>?_)))
  have e' : (cellsFrom (s.heap.push { cls:=.type "dict", data:=.dict #[] }).objs.size scope.names cl).lookup x = some c:=by rw [Heap.size_push]; exact e
  rcases Ze scope.names _ cl e' with q | ⟨q1, q2⟩
  . exact .inl q
  . exact .inr ⟨q1, by rw [Heap.size_push] at q2; exact q2⟩
noncomputable def Q9 (sc scope : Scope) (N0 tns : List Str) (caps : List (Nat × Str)) : Bool:=
  scope.kind == .function && decide (scope.names.map (·.1)).Nodup && scope.names.all (fun y=>!(y.2 == .local) || scope.names.lookup y.1 == some .local) &&
  scope.names.all (fun y=>!(y.2 == .free) || (sc.names.lookup y.1 == some .cell || sc.names.lookup y.1 == some .free)) && caps.all (fun p=>N0[p.1]? == some p.2 && (sc.names.lookup p.2 == some .cell || sc.names.lookup p.2 == some .free) && scope.names.lookup p.2 == some .free)
noncomputable abbrev Cx.compN (X : Cx) (N : List Str) (scope : Scope) (cl : List (Str × Addr)) (C : Addr) (s : Shared) (H : Hp) (ex : List Addr) (E : Value -> Shared -> Prop) : Cx:=
  { X.comp N scope cl C s H ex E with fn:=fun x=>scope.names.lookup x == some .cell }
noncomputable def ES (scope sc : Scope) : Scope:=
  { scope with names:=scope.names.map fun (n, k)=>if (k == .free && sc.kind == .function && sc.names.lookup n == some .cell) then (n, .cell) else (n, k) }
section
variable {X : Cx} {elt tg iter : Expr} {ifs : List Expr} {scope sc : Scope} {pos : Pos} {n : Nat} {tns : List Str} {caps : List (Nat × Str)} {wi : TI} {g : TG} {tt : TT} {te : TE}
theorem Uj {N0 : List Str} (hc : X.calm = true) (hsc : X.env.scope = sc) (hN0 : X.N = N0) (ok : Q9 sc scope N0 tns caps = true) (hn : tns.length = n) (hG : Jc n g)
    (hb : ∀ cl C s H ex E, PG (X.compN (tns ++ caps.map (·.2)) scope cl C s H ex E) tg g /\ PTs (X.compN (tns ++ caps.map (·.2)) scope cl C s H ex E) ifs tt /\ PE (X.compN (tns ++ caps.map (·.2)) scope cl C s H ex E) elt te)
    {pins : List (Addr × Obj)} {σ : St} {H : Hp} {s : Shared} {J : It} {fp : List Addr} {it : Addr} {tn : Nat -> Heap -> Prop} {cl : List (Str × Addr)} {Q : V -> Hp -> Prop} {RR : Value -> Addr -> Result -> Shared -> Prop}
    (I : Inv X pins σ H s) (T : Turn X.prog X.w X.K tg J fp it tn) (t0 : tn 0 s.heap) (hf : ∀ b ∈ fp, UC X pins H b)
    (hsub : ∀ x c, cl.lookup x = some c -> X.env.cells.lookup x = some c) (hall : ∀ x, (x, NameKind.free) ∈ scope.names -> ∃ c, cl.lookup x = some c)
    (W : Nat -> Nat -> List V -> Hp -> Prop) {m0 : Nat} (w0 : W 0 m0 [] H)
    (turn : FQ g tt te (Ys n caps σ) Q J W)
    (hRR : ∀ D C ys H3 s', CompEnd X pins σ H3 D C ys s' -> Q (.ref D) (upd H3 D (.lst ys)) -> RR (.ref D) C (.ok .next) s') {E : Value -> Shared -> Prop} :
    wpAny (model X.prog X.w) X.A (newList []) (fun acc s₃=>wpAny (model X.prog X.w) X.A (newFunctionEnv scope X.env.globals cl [] X.env.qual none .none (some X.env)) (fun cenv s₄=>
      codeAny (model X.prog X.w) X.A (.compStart (.ListComp elt [⟨tg, iter, ifs, 0⟩] scope pos) 0 (.ref it) acc { cenv with scope:=relabel scope X.env }) (RR acc cenv.locals) s₄) E s₃) E s:=by
  subst hsc
  subst hN0
  unfold Q9 at ok
  simp only [Bool.and_eq_true, List.all_eq_true] at ok
  obtain ⟨⟨⟨⟨ok1, ok2⟩, ok3⟩, ok4⟩, ok5⟩:=ok
  have hkind : scope.kind = .function:=by simpa using ok1
  have hnd : (scope.names.map (·.1)).Nodup:=by simpa using ok2
  refine wpAny_newObj_type (Kt (fun h₁ hns₁ hsb₁ hc₁=>?_))
  dsimp only at hns₁ hsb₁ hc₁ ⊢
  generalize hH2 : s.heap.push { cls:=.type "list", dict:=none, data:=.seq ([] : List Value).toArray } = H2 at hns₁ hsb₁ hc₁ ⊢
  have hC : H2.objs.size = s.heap.objs.size + 1:=by rw [← hH2, Heap.size_push]
  have hDC : s.heap.objs.size ≠ H2.objs.size:=by rw [hC]; exact Nat.ne_of_lt (Nat.lt_succ_self _)
  have hCle : s.heap.objs.size <= H2.objs.size:=by rw [hC]; exact Nat.le_succ _
  have below : ∀ b, b < s.heap.objs.size -> b ≠ H2.objs.size /\ b ≠ s.heap.objs.size:=fun b hb=>⟨by rw [hC]; exact Nat.ne_of_lt (Nat.lt_succ_of_lt hb), Nat.ne_of_lt hb⟩
  have old : ∀ b o, s.heap.get? b = some o -> h₁.get? b = some o:=fun b o e=>hsb₁ b o (hH2 ▸ Heap.get?_push_of_some _ e)
  have hacc : h₁.get? s.heap.objs.size = some { cls:=.type "list", data:=.seq ([] : List Value).toArray 0 }:=hsb₁ _ _ (hH2 ▸ Heap.get?_push_size _ rfl)
  have hst₁ : tn 0 h₁:=T.keep _ _ _ t0 fun b _ o e=>old b o e
  have cf2 : ∀ x, (x, NameKind.free) ∈ scope.names -> ∃ c, (cellsFrom (H2.objs.size + 1) scope.names cl).lookup x = some c /\ cl.lookup x = some c:=fun x hx=>by
    obtain ⟨c, hc⟩:=hall x hx
    exact ⟨c, by rw [Yz scope.names _ _ (fun hm=>JL hnd hx hm (by decide))]; exact hc, hc⟩
  have cf3 : ∀ x, (x, NameKind.cell) ∈ scope.names -> ∃ c, (cellsFrom (H2.objs.size + 1) scope.names cl).lookup x = some c:=fun x hx=>Zw scope.names _ _ (.inl hx)
  have cf4 : ∀ x y c, (cellsFrom (H2.objs.size + 1) scope.names cl).lookup x = some c -> (cellsFrom (H2.objs.size + 1) scope.names cl).lookup y = some c -> x = y:=
    Zv scope.names _ _ (fun x y c h1 h2=>I.ok.inj x y c (hsub x c h1) (hsub y c h2)) (fun x c e=>by
      obtain ⟨v, z⟩:=I.cell x c (hsub x c e)
      exact Nat.lt_of_lt_of_le z.lt (by rw [hC]; omega))
  have cf5 : ∀ x c, scope.names.lookup x = some NameKind.cell -> (cellsFrom (H2.objs.size + 1) scope.names cl).lookup x = some c -> H2.objs.size + 1 <= c:=fun x c hx e=>Zs scope.names _ _ (PySem.mem_of_lookup hx) e
  generalize hcl : cellsFrom (H2.objs.size + 1) scope.names cl = cl' at *
  -- addresses
  generalize hD : s.heap.objs.size = D at *
  generalize hCe : H2.objs.size = C at *
  have fpLt : ∀ b ∈ fp, b < D:=fun b hb=>by
    obtain ⟨o, e, _⟩:=T.obj _ _ t0 b hb
    rw [← hD]; exact Heap.lt_size e
  have hDlt : D < C:=by omega
  have cellNe : ∀ x c, cl'.lookup x = some c -> c ≠ D:=fun x c e=>by
    rcases hc₁ x c e with q | ⟨_, q⟩
    . obtain ⟨v, z⟩ := I.cell x c (hsub x c q)
      rw [← hD]; exact Nat.ne_of_lt z.lt
    . exact Nat.ne_of_gt (Nat.lt_trans hDlt (Nat.lt_of_succ_le q))
  have fpNe : ∀ b ∈ fp, ∀ x c, cl'.lookup x = some c -> c ≠ b:=fun b hb x c e=>by
    rcases hc₁ x c e with q | ⟨_, q⟩
    . exact (hf b hb).2.2.2.2.1 x c (hsub x c q)
    . exact Nat.ne_of_gt (Nat.lt_trans (fpLt b hb) (Nat.lt_trans hDlt (Nat.lt_of_succ_le q)))
  let X' : Cx:=X.compN (tns ++ caps.map (·.2)) scope cl' C s H fp (notedBy (model X.prog X.w) X.A (compEnvC scope cl' C X.env) fun e s'=>RR (.ref D) C (.error e) s')
  have okX : X'.Ok:=by
    refine ⟨I.ok.mod, hkind, I.ok.glob, I.ok.blt, by show s.heap.objs.size <= C; omega, cf4, fun x hx=>?_, fun x c hx hcx=>(by show s.heap.objs.size <= c; have:=cf5 x c (by have hx2 : (scope.names.lookup x == some NameKind.cell) = true:=hx; simpa using hx2) hcx; omega), I.ok.hd, I.ok.frames, .inl rfl, fun b hb=>?_, I.bs, Nat.le_trans I.ok.bsz I.sz, fun b o e hb=>?_, fun b hb hz=>?_, I.stack, I.stkFree⟩
    . have hx' : (relabel scope X.env).names.lookup x = some .cell ∨ (relabel scope X.env).names.lookup x = some .free := hx
      have hz : (x, NameKind.free) ∈ scope.names ∨ (x, NameKind.cell) ∈ scope.names:=by
        rcases hx' with z | z
        . exact ZO z (.inl rfl)
        . exact ZO z (.inr rfl)
      rcases hz with z | z
      . obtain ⟨c, q, _⟩ := cf2 x z
        exact ⟨c, q⟩
      . exact cf3 x z
    . refine ⟨Nat.ne_of_lt (Nat.lt_trans (fpLt b hb) hDlt), fpNe b hb⟩
    . rcases (hf b hb).2.2.2.1 with z | z
      . exact I.ok.noex b o e z
      . exact absurd (Nat.lt_of_lt_of_le (Heap.lt_size e) (Nat.le_trans I.ok.bsz z)) (Nat.lt_irrefl _)
    . rcases List.mem_cons.mp (I.stkSub b hz) with z | z
      . exact (hf b hb).2.1 z
      . exact (hf b hb).2.2.1 z
  have lenc : (Ys n caps σ).length = (tns ++ caps.map (·.2)).length:=by unfold Ys; simp [hn]
  have I1 : ∀ tk, Inv X' [] (Ys n caps σ) H { s with heap:=h₁, toks:=tk }:=fun tk=>by
    refine ⟨okX, rfl, I.bare, Un.kept old, ⟨_, hns₁, fun i x v e1 e2 e3=>?_⟩, fun x c e=>?_, I.hok.fresh (by rw [hD]; exact Nat.le_of_lt hDlt), fun x c e=>?fc, fun p hp=>absurd (show p ∈ ([] : List (Addr × Obj)) from hp) (by simp), I.hok.kept old, lenc⟩
    . have hi : n <= i:=by
        by_cases h : n <= i
        . exact h
        . have e2' : (Ys n caps σ)[i]? = some (some v) := e2
          unfold Ys at e2'
          rw [List.getElem?_append_left (by simp; omega), List.getElem?_replicate] at e2'
          split at e2' <;> cases e2'
      have e2' : (Ys n caps σ)[i]? = some (some v):=e2
      unfold Ys at e2'
      rw [List.getElem?_append_right (by simpa using hi), List.length_replicate, List.getElem?_map] at e2'
      have e1' : (tns ++ caps.map (·.2))[i]? = some x:=e1
      rw [List.getElem?_append_right (by rw [hn]; exact hi), hn, List.getElem?_map] at e1'
      cases hcp : caps[i - n]? with
      | none=>rw [hcp] at e2'; cases e2'
      | some p=>
        rw [hcp] at e2' e1'
        simp only [Option.map_some, Option.some.injEq] at e2' e1'
        have hp5:=ok5 p (List.mem_of_getElem? hcp)
        simp only [beq_iff_eq, Bool.or_eq_true] at hp5
        obtain ⟨⟨p1, p2⟩, p3⟩:=hp5
        have hσ : σ[p.1]? = some (some v):=by
          cases hq : σ[p.1]? with
          | none=>rw [hq] at e2'; cases e2'
          | some o=>rw [hq] at e2'; simp at e2'; rw [e2']
        subst e1'
        obtain ⟨m, hm, hl⟩:=I.loc
        obtain ⟨u, r, l⟩:=hl p.1 p.2 v p1 hσ (.inr p2)
        refine ⟨u, r, .inr ?_⟩
        rcases l with ⟨k, _⟩ | ⟨k, c, e, z⟩
        . have k' : X.env.scope.names.lookup p.2 = some .local := k
          rcases p2 with p2 | p2 <;> (rw [p2] at k'; cases k')
        . obtain ⟨c', e', e''⟩ := cf2 p.2 (PySem.mem_of_lookup p3)
          have:=hsub _ _ e''
          rw [e] at this; cases this
          obtain ⟨o, ho, hd⟩:=z
          exact ⟨ZI (env:=X.env) p3, c, e', ⟨o, old _ _ ho, hd⟩⟩
    . rcases hc₁ x c e with q | ⟨q, _⟩
      . obtain ⟨v, o, ho, hd⟩ := I.cell x c (hsub x c q)
        exact ⟨v, o, old _ _ ho, hd⟩
      . exact ⟨_, q⟩
    case fc=>
      rcases hc₁ x c e with q | ⟨_, q⟩
      . exact I.freeC x c (hsub x c q)
      . exact I.hok.fresh (by rw [hD]; omega)
  obtain ⟨hg, ht, he⟩:=hb cl' C s H fp X'.xe
  have fsLt : ∀ b ∈ X'.fs, b < D:=fun b hb=>by
    obtain ⟨_, o, ho, _⟩:=I.stack.mem hb
    rw [← hD]; exact Heap.lt_size ho
  have aY : CAt X' fp D:=⟨hc, rfl, Nat.ne_of_lt hDlt, fun hz=>absurd (fsLt _ hz) (Nat.lt_irrefl _), by show s.heap.objs.size <= D; omega, cellNe, fun b hb=>Nat.ne_of_lt (fpLt b hb), fun b hb H' h'=>⟨h', Nat.ne_of_lt (Nat.lt_trans (fpLt b hb) hDlt), okX.exfs b hb, .inl hb, fpNe b hb, fun p hp=>VU (α:=Addr × Obj) hp⟩⟩
  have loop : ∀ s₃ : Shared, (∃ tk, s₃ = { s with heap:=h₁, toks:=tk }) ->
      codeAny (model X.prog X.w) X.A (.compLoop (.ListComp elt [⟨tg, iter, ifs, 0⟩] scope pos) 0 (.ref it) (.ref D) (compEnvC scope cl' C X.env)) (RR (.ref D) C) s₃:=by
    rintro s₃ ⟨tk, rfl⟩
    exact JS (Y:=X') rfl T hG hg ht he aY (fun j v e=>(Je e).1) turn (fun ys its k H3 s4 I4 rv hz q=>hRR _ C ys H3 s4 (UT I hf (Nat.le_of_eq hD) hDlt I4 I4.os I4.base I4.hok rfl rv hz) q)
      (.mk 0 H [] [] 0 ⟨I1 tk, hst₁, fun b hb=>(hf b hb).1, hacc, I.hok.fresh (by rw [hD]; exact Nat.le_refl _)⟩ .nil w0)
  exact codeAny_compStart_list (loop _ ⟨_, rfl⟩) (T.self _ 0 _ _ _ hst₁ (loop _ ⟨_, rfl⟩))
theorem F5 (sc : Scope) (N0 : List Str) (tns : List Str) (caps : List (Nat × Str)) (hc : X.calm = true) (hi : PI X tg iter wi) (hG : Jc tns.length g)
    (hb : ∀ cl C s H ex E, PG (X.compN (tns ++ caps.map (·.2)) scope cl C s H ex E) tg g /\ PTs (X.compN (tns ++ caps.map (·.2)) scope cl C s H ex E) ifs tt /\ PE (X.compN (tns ++ caps.map (·.2)) scope cl C s H ex E) elt te)
    (hsc : X.env.scope = sc:=by rfl) (hN0 : X.N = N0:=by rfl) (ok : Q9 sc scope N0 tns caps = true:=by decide +kernel)
    (hs : ∀ x, foldedSetIterable iter X.env x = pure x:=by intro _; rfl) :
    PE X (.ListComp elt [⟨tg, iter, ifs, 0⟩] scope pos) (VG tns.length caps wi g tt te):=by
  intro pins s σ H Q I h
  have ok':=ok
  unfold Q9 at ok'
  simp only [Bool.and_eq_true, List.all_eq_true] at ok'
  obtain ⟨⟨⟨⟨ok1, ok2⟩, ok3⟩, ok4⟩, ok5⟩:=ok'
  obtain ⟨cl, ecl, hsub, hall⟩:=UH (scope:=scope) (env:=X.env) fun x hx hfr=>by
    have:=ok4 x hx
    rw [hfr] at this
    have z : sc.names.lookup x.1 = some .cell ∨ sc.names.lookup x.1 = some .free:=by simpa using this
    exact I.ok.has x.1 (by show X.env.scope.names.lookup x.1 = _ ∨ X.env.scope.names.lookup x.1 = _; rw [hsc]; exact z)
  rw [eval_ListComp]
  refine wpAny_comprehension_free (use:=none) rfl hs ecl (by simpa using ok1) (fun x hx hl=>by have:=ok3 x hx; rw [hl] at this; simpa using this) (thn (hi pins s σ H _ I h) fun xv s₁ h₁=>thn h₁ fun itv s₂ h₂=>?_)
  obtain ⟨it, fp, tn, J, H', rfl, I2, T, st2, f2, W, ⟨m0, w0⟩, turn⟩:=h₂
  refine Uj (RR:=fun acc C=>compPost (model X.prog X.w) X.A X.xe none (EP X pins σ Q) acc C) hc hsc hN0 ok rfl hG hb I2 T st2 f2 hsub hall W w0 turn ?_
  intro D C ys H3 s' ce q
  obtain ⟨mm, hns⟩:=ce.ns
  refine ⟨mm, hns, fun h' hs'=>⟨.ref D, _, ?_, rfl, q⟩⟩
  obtain ⟨c0, c1, c2, c3, c4, c5⟩:=ce.fp
  exact ce.inv.turned (t':=s'.toks) (fun b o hb' e=>(hs'.extBut b o hb' e)) c0 c1 c3 c4 c5
end
end L2
namespace L2
open PySem PySem.Spec PyProof.Rows
theorem Jp : ∀ (xs : List V) (us : List Value), xs.length = us.length -> (∀ (j : Nat) x u, xs[j]? = some x -> us[j]? = some u -> X2 x u) -> XV xs us
  | [], [], _, _=>.nil
  | [], _ :: _, h, _=>by simp at h
  | _ :: _, [], h, _=>by simp at h
  | x :: xs, u :: us, h, r=>.cons (r 0 x u rfl rfl) (Jp xs us (by simpa using h) fun j y v e1 e2=>r (j + 1) y v (by simpa using e1) (by simpa using e2))
noncomputable def UW (ta : TA) : TE:=fun σ H Q=>ta σ H fun vs H1=>∃ j : Int, vs = [.int j] /\ 0 <= j /\ j <= 1000 /\ ∀ p, H1 p = none -> Q (.ref p) (upd H1 p (.lst ((List.range j.toNat).map fun i=>V.int ((i : Nat) : Int))))
variable {X : Cx}
theorem QC {e : Expr} {ta : TA} {p q q2 pos : Pos} (hc : X.calm = true) (hg : Gl X "list") (hg2 : Gl X "range") (hm : X.mg "list" = none) (hm2 : X.mg "range" = none) (ha : PA X [e] ta)
    (hs : starEach [.Call (.Name "range" q) [e] [] q2] X.env = [(false, eval (.Call (.Name "range" q) [e] [] q2) X.env)]:=by rfl) (hs2 : starEach [e] X.env = [(false, eval e X.env)]:=by rfl) :
    PE X (.Call (.Name "list" p) [.Call (.Name "range" q) [e] [] q2] [] pos) (UW ta):=by
  intro pins s σ H Q I h
  refine wpAny_Call_Name_kw (Q3 I hg hm PyProof.Rows.boot_list ?_)
  refine PyProof.Rows.callWith_type1 ?_ hs rfl
  rw [hs]
  show wpAny _ _ (spliced ((false, eval (.Call (.Name "range" q) [e] [] q2) X.env) :: backTo pos [])) _ _ s
  refine Calls.spliced_cons ?_
  refine wpAny_Call_Name_kw (Q3 I hg2 hm2 boot_range ?_)
  refine PyProof.Rows.callWith_type1 (thn (ha q2 pins s σ H _ I h) fun us s1 ⟨vs, H1, I1, r1, q1⟩=>?_) hs2 rfl
  obtain ⟨j, e, h0, h1, k⟩:=q1
  subst e
  cases r1 with
  | cons r rr=>
    cases rr
    obtain ⟨t, rfl⟩:=r
    refine call_range_1 ?_
    refine Calls.spliced_nil ?_
    refine call_list_range (n:=j.toNat) (I.ok.hd hc) (IsRange.new ..) (small_one (by omega) (by omega) (by omega) (by omega)) (by rw [rangeSize_one]; split <;> omega) (by omega) fun h' tk acc' c' hk hS hacc=>?_
    refine ⟨.ref _, _, I1.laid (h':=h') (t':=tk) (o:=.lst ((List.range j.toNat).map fun i=>V.int ((i : Nat) : Int))) (fun b o e=>hk b o (Heap.get?_push_of_some _ e)) (by rw [Heap.size_push]; exact Nat.le_succ _) ?_, rfl, k _ (I1.hok.fresh (by rw [Heap.size_push]; exact Nat.le_succ _))⟩
    refine ⟨by rw [List.length_map, List.length_range]; exact Nat.le_of_lt (G5 (by omega)), acc'.toList, c', Jp _ _ (by simp [hacc.1]) fun i x u e1 e2=>?_, hS⟩
    have e2' : acc'[i]? = some u:=by simpa using e2
    obtain ⟨tk, rfl⟩:=hacc.2 i u e2'
    rw [List.getElem?_map] at e1
    cases e3 : (List.range j.toNat)[i]? with
    | none=>rw [e3] at e1; cases e1
    | some z=>
      rw [e3] at e1
      have hz : z = i:=by
        have hi : i < j.toNat:=by have:=(List.getElem?_eq_some_iff.mp e3).1; simpa using this
        rw [List.getElem?_range hi] at e3
        exact (Option.some.inj e3).symm
      subst hz
      have : x = V.int (z : Int):=(Option.some.inj e1).symm
      subst this
      exact ⟨tk, by simp⟩
end L2
namespace L2
open PySem PySem.Spec PyProof.Rows
theorem Jd {l : List Expr} {p : Pos} {es : List Expr} {env : Env} : starEach (.List l p :: es) env = (false, eval (.List l p) env) :: starEach es env:=rfl
theorem Vw {X : Cx} {l : List Expr} {p : Pos} {es : List Expr} {te : TE} {t : TA} (ha : PE X (.List l p) te) (hr : PA X es t) : PA X (.List l p :: es) (Xx te t):=Xd ha hr Jd
end L2
namespace L2
open PySem PySem.Spec PyProof.Rows
end L2
namespace L2
open PySem PySem.Spec PyProof.Rows
variable {X : Cx} {o e : Expr} {es : List Expr} {to : TE} {t : TA} {name : Str} {apos cpos : Pos} {T id : String} {r : V -> List V -> Hp -> VK -> Prop}
end L2
namespace PySem
open PySem.Spec
namespace SeqAt
open MeetsSeq
theorem list_indexFrom (l : Addr) (items : Array Value) (n : Nat) (dd : Option Addr) (sl : Array (Option Value)) (x : Value) (e : Value -> Bool) (k : Nat) (t : Tok) (j : Nat) (hk : k <= j) (hj : j < items.size) (hsmall : (j : Int) < 2 ^ 63 - 1)
    (hit : e items[j] = true) (hno : ∀ m (hm : m < items.size), k <= m -> m < j -> e items[m] = false) :
    Meets (Builtin.«list.index» ⟨[.ref l, x, .int (k : Int) t], []⟩)
      (fun A R s=>s.heap.get? l = some { cls:=.type "list", dict:=dd, data:=.seq items n, slots:=sl } /\ (∀ y, y ∈ items -> EqAt A.in1 s y x (e y)) /\ R (.ok (.ret (.int j s.toks))) { s with toks:=s.toks + 1 }):=by
  intro prog w A R s h
  obtain ⟨hp, g, d, tk, os⟩:=s; obtain ⟨hl, he, h⟩:=h
  wp_walk using wpAny_loadPart' hl
  have a1 : ((fun i : Int=>if i < 0 then max 0 (i + (items.size : Int)) else i) ((some (k : Int)).getD 0)) = ((k : Nat) : Int):=by
    show (if (k : Int) < 0 then max 0 ((k : Int) + (items.size : Int)) else (k : Int)) = _
    rw [if_neg (by omega)]
  have a2 : ((fun i : Int=>if i < 0 then max 0 (i + (items.size : Int)) else i) ((none : Option Int).getD (2 ^ 63 - 1))) = 2 ^ 63 - 1:=by simp
  rw [a1, a2]
  exact ⟨plainId_quiet plain_index_loop _, codeAny_builtin entry_index_loop (by
    rw [Around.under_plainId plain_index_loop _]
    exact index_loopAt l items n dd sl x e (2 ^ 63 - 1) j hj hsmall hit _ k rfl hk (fun m hm h1 h2=>hno m hm h1 h2) prog w A R _ ⟨hl, he, h⟩)⟩
end SeqAt
end PySem
namespace L2
open PySem PySem.Spec PyProof.Rows
noncomputable def Gm (K : PySem.W.Frag) : V -> List V -> Hp -> VK -> Prop:=fun x vs H Q=>∃ l xs y, ∃ k j : Nat, ∃ kk : Int, x = .ref l /\ vs = [y, .int kk] /\ kk = (k : Int) /\ SqL K H l xs /\ QJ y = true /\ xs.all QJ = true /\ k <= j /\ (∃ z, xs[j]? = some z /\ eqV z y = true) /\ (∀ (m : Nat) z, k <= m -> m < j -> xs[m]? = some z -> eqV z y = false) /\ Q (.int (j : Int)) H
section
variable {X : Cx}
theorem GB : MtR X "list.index" (Gm X.K):=by
  intro pins s σ H x vs v us Q I rx rv h
  obtain ⟨l, xs, y, k, j, kk, rfl, rfl, rfl, hq, fy, fs, hkj, ⟨z, hz, ez⟩, hm, q⟩:=h
  cases rx
  obtain ⟨u, u2, rfl, ry, rk⟩:=XV.two rv
  obtain ⟨t, rfl⟩:=rk
  obtain ⟨its, r, pl, hle⟩:=I.list hq
  have hl:=r.length
  have hjl:=(List.getElem?_eq_some_iff.mp hz).1
  have ge : ∀ (m : Nat) (w : V), xs[m]? = some w -> ∀ hm : m < its.toArray.size, eqU y its.toArray[m] = eqV w y:=fun m w hw hm=>by
    obtain ⟨u', hu', ru'⟩:=r.get hw
    have e : its.toArray[m] = u':=by
      have:=(List.getElem?_eq_some_iff.mp hu').2
      simpa using this
    rw [e]
    exact G8 ru' (List.all_eq_true.mp fs w (List.mem_of_getElem? hw))
  obtain ⟨o, n, ho, hc, hd, hs⟩:=id pl
  obtain ⟨cls, dict, data, slots⟩:=o
  cases hc; cases hd; cases hs
  refine call_meets F.slot_list_index ⟨_, ho, rfl⟩ F.entry_list_index (F.args_list_index_3 _ _ _) (SeqAt.list_indexFrom l its.toArray n none slots u (eqU y) k t j hkj (by rw [List.size_toArray]; omega) ?_ ?_ ?_) ⟨ho, fun w hw=>ZQ ry fy r fs w (by simpa using hw), ?_⟩
  . have : sizeLine < 2 ^ 63 - 1 := by decide
    omega
  . rw [ge j z hz]; exact ez
  . intro m hm' hle1 hlt
    rw [ge m xs[m] (List.getElem?_eq_getElem (by omega))]
    exact hm m _ hle1 hlt (List.getElem?_eq_getElem (by omega))
  . exact ⟨.int (j : Int), H, I.tok _, ⟨_, rfl⟩, q⟩
end
end L2
namespace L2
open PySem PySem.Spec PyProof.Rows
section
variable {X : Cx}
end
end L2
namespace L2
open PySem PySem.Spec PyProof.Rows
section
variable {X : Cx} {α : Type} [DecidableEq α] {r : Enc α} {d : Nat}
end
section
variable {X : Cx}
end
section
variable {X : Cx}
variable {T : String} {name : Str} {id : String} {r : V -> List V -> Hp -> VK -> Prop} {o e : Expr} {es : List Expr} {to : TE} {t : TA} {apos cpos : Pos}
end
section
variable {X : Cx} {elt tg iter : Expr} {ifs : List Expr} {scope : Scope} {pos : Pos} {wi : TI} {g : TG} {tt : TT} {te : TE}
theorem U8 {sc : Scope} {N0 : List Str} {tns : List Str} {caps : List (Nat × Str)} (hc : X.calm = true) (hi : PI X tg iter wi) (hG : Jc tns.length g)
    (hb : ∀ cl C s H ex E, PG (X.compN (tns ++ caps.map (·.2)) scope cl C s H ex E) tg g /\ PTs (X.compN (tns ++ caps.map (·.2)) scope cl C s H ex E) ifs tt /\ PE (X.compN (tns ++ caps.map (·.2)) scope cl C s H ex E) elt te)
    (hsc : X.env.scope = sc:=by rfl) (hN0 : X.N = N0:=by rfl) (ok : Q9 sc scope N0 tns caps = true:=by decide +kernel)
    (hs : ∀ x, foldedSetIterable iter X.env x = pure x:=by intro _; rfl) :
    PE X (.ListComp elt [⟨tg, iter, ifs, 0⟩] scope pos) (VG tns.length caps wi g tt te):=F5 sc N0 tns caps hc hi hG hb hsc hN0 ok hs
theorem Zu {sc : Scope} {N0 : List Str} {tns : List Str} {caps : List (Nat × Str)} (hc : X.calm = true) (hi : PI X tg iter wi) (hG : Jc tns.length g)
    (hb : ∀ cl C s H ex E, PG (X.comp (tns ++ caps.map (·.2)) scope cl C s H ex E) tg g /\ PTs (X.comp (tns ++ caps.map (·.2)) scope cl C s H ex E) ifs tt /\ PE (X.comp (tns ++ caps.map (·.2)) scope cl C s H ex E) elt te)
    (hsc : X.env.scope = sc:=by rfl) (hN0 : X.N = N0:=by rfl) (ok : VD sc scope N0 tns caps = true:=by decide +kernel)
    (hs : ∀ x, foldedSetIterable iter X.env x = pure x:=by intro _; rfl) :
    PE X (.ListComp elt [⟨tg, iter, ifs, 0⟩] scope pos) (VG tns.length caps wi g tt te):=C8 sc N0 tns caps hc hi hG hb hsc hN0 ok hs
end
section
variable {X : Cx} {tg l : Expr} {tl : TE} {p pos : Pos} {K : PySem.W.Frag}
theorem XW (h : X.K = K) (hl : PE X l tl) : PI X tg l (J9 K tl):=by subst h; exact Cm hl
end
end L2
namespace L2
open PySem PySem.Spec PyProof.Rows
section
variable {X : Cx}
end
end L2
namespace L2
open PySem PySem.Spec PyProof.Rows
inductive Pay where
  | non | int (i : Int) | tag (t : Str) (xs : List Int)
  deriving DecidableEq
structure Exc where
  cls : Str
  pay : Pay
inductive Res (α : Type) where
  | bad | err (x : Exc) | ok (a : α)
noncomputable def Res.bind {α β : Type} : Res α -> (α -> Res β) -> Res β
  | .bad, _=>.bad
  | .err x, _=>.err x
  | .ok a, f=>f a
theorem Res.ok_bind {α β : Type} (a : α) (f : α -> Res β) : (Res.ok a).bind f = f a:=rfl
noncomputable def chk {α : Type} (c : Prop) [Decidable c] (m : Res α) : Res α:=if c then m else .bad
theorem X3 {α : Type} {c : Prop} [Decidable c] {m : Res α} (h : c) : chk c m = m:=if_pos h
noncomputable abbrev Xu:=Addr × HO
noncomputable def Bk : HO -> Bool
  | .lst _=>true
  | .dK _=>true
  | .dT _=>true
  | _=>false
noncomputable def fl (OO : List (List Xu)) : List Addr:=OO.flatten.map (·.1)
open Classical in
noncomputable def hid (H : Hp) (OO : List (List Xu)) : Hp:=fun b=>if b ∈ fl OO then none else H b
structure W (OO : List (List Xu)) (H : Hp) : Prop where
  tr : ∀ c ∈ OO.flatten, H c.1 = some c.2
  nd : (fl OO).Nodup
  mu : ∀ c ∈ OO.flatten, Bk c.2 = true
theorem X5 {H : Hp} {OO} {b : Addr} {o : HO} (h : hid H OO b = some o) : H b = some o /\ b ∉ fl OO:=by
  unfold hid at h
  split at h
  . cases h
  . exact ⟨h, by assumption⟩
theorem YO {H : Hp} {OO} {b : Addr} {o : HO} (h : H b = some o) (n : b ∉ fl OO) : hid H OO b = some o:=by
  unfold hid; rw [if_neg n]; exact h
theorem XC {H : Hp} {OO} : Xm (hid H OO) H:=fun b o h=>(X5 h).1
theorem Xj {H H' : Hp} {OO} (s : Xm H H') : Xm (hid H OO) (hid H' OO):=fun b o h=>YO (s _ _ (X5 h).1) (X5 h).2
theorem Zi {H H' : Hp} {OO OO'} (s : Xm H H') (h : ∀ b, b ∈ fl OO' -> b ∈ fl OO) : Xm (hid H OO) (hid H' OO'):=fun b o q=>YO (s _ _ (X5 q).1) fun z=>(X5 q).2 (h b z)
theorem XQ {C : List Xu} {OO} : fl (C :: OO) = C.map (·.1) ++ fl OO:=by simp [fl]
theorem Gb {OO} : fl ([] :: OO) = fl OO:=by simp [fl]
theorem Yc {H : Hp} {OO} : hid H ([] :: OO) = hid H OO:=by unfold hid; rw [Gb]
theorem W.keep {OO} {H H' : Hp} (w : W OO H) (s : Xm H H') : W OO H':=⟨fun c hc=>s _ _ (w.tr c hc), w.nd, w.mu⟩
theorem W.of {OO OO' : List (List Xu)} {H : Hp} (w : W OO H) (h : OO'.flatten.Perm OO.flatten) : W OO' H:=
  ⟨fun c hc=>w.tr c (h.mem_iff.mp hc), (h.map _).nodup_iff.mpr w.nd, fun c hc=>w.mu c (h.mem_iff.mp hc)⟩
theorem W.sub {OO OO' : List (List Xu)} {H : Hp} (w : W OO H) (h : OO'.flatten.Sublist OO.flatten) : W OO' H:=
  ⟨fun c hc=>w.tr c (h.mem hc), (h.map _).nodup w.nd, fun c hc=>w.mu c (h.mem hc)⟩
theorem W.tail {C OO} {H : Hp} (w : W (C :: OO) H) : W OO H:=w.sub (by simp)
theorem W.nil {OO} {H : Hp} (w : W OO H) : W ([] :: OO) H:=w.of (by simp)
theorem W.cell {C OO} {H : Hp} (w : W (C :: OO) H) : ∀ c ∈ C, H c.1 = some c.2:=fun c hc=>w.tr c (by simp [hc])
theorem Q0 {OO : List (List Xu)} {c : Xu} (h : c ∈ OO.flatten) : c.1 ∈ fl OO:=List.mem_map.mpr ⟨c, h, rfl⟩
theorem KF {OO : List (List Xu)} {b : Addr} (h : b ∈ fl OO) : ∃ o, (b, o) ∈ OO.flatten:=by
  obtain ⟨⟨a, o⟩, hc, rfl⟩:=List.mem_map.mp h
  exact ⟨o, hc⟩
theorem W.fresh {OO} {H : Hp} (w : W OO H) {p : Addr} (h : H p = none) : p ∉ fl OO:=fun z=>by
  obtain ⟨o, ho⟩:=KF z
  have:=w.tr _ ho
  rw [h] at this; cases this
theorem W.new {OO} {H : Hp} (w : W OO H) {p : Addr} (h : H p = none) {o : HO} (m : Bk o = true) : W ([(p, o)] :: OO) (upd H p o):=by
  have hf:=w.fresh h
  refine ⟨fun c hc=>?_, ?_, fun c hc=>?_⟩
  . simp only [List.flatten_cons, List.cons_append, List.nil_append, List.mem_cons] at hc
    rcases hc with rfl | hc
    . exact Yt
    . rw [XB (fun e=>hf (by rw [← e]; exact Q0 hc))]; exact w.tr c hc
  . rw [XQ]; simpa using ⟨hf, w.nd⟩
  . simp only [List.flatten_cons, List.cons_append, List.nil_append, List.mem_cons] at hc
    rcases hc with rfl | hc
    . exact m
    . exact w.mu c hc
theorem Ug {OO} {H : Hp} {p : Addr} (h : H p = none) {o : HO} : Xm (hid H OO) (hid (upd H p o) ([(p, o)] :: OO)):=fun b u q=>by
  obtain ⟨q1, q2⟩:=X5 q
  have hb : b ≠ p:=XH q1 h
  refine YO (by rw [XB hb]; exact q1) ?_
  rw [XQ]; simpa using ⟨hb, q2⟩
theorem Vk {OO} {H : Hp} (w : W OO H) {p : Addr} (h : H p = none) {o : HO} : hid (upd H p o) OO p = some o:=YO Yt (w.fresh h)
class MonoE {α : Type} (r : Enc α) : Prop where
  mono : ∀ {K : PySem.W.Frag} {H H' : Hp} {v : V} {a : α}, Xm H H' -> r K H v a -> r K H' v a
noncomputable def Hh : HO -> Bool
  | .tup _=>true
  | .frz _ _=>true
  | _=>false
noncomputable def Vc (H H' : Hp) : Prop:=∀ b o, H b = some o -> Hh o = true -> H' b = some o
theorem Xm.i {H H' : Hp} (s : Xm H H') : Vc H H':=fun b o h _=>s b o h
theorem W.i {OO} {H : Hp} (w : W OO H) : Vc H (hid H OO):=fun b o h i=>YO h fun z=>by
  obtain ⟨u, hu⟩:=KF z
  have h1:=w.tr _ hu
  have h2:=w.mu _ hu
  rw [h] at h1
  have e : o = u:=Option.some.inj h1
  subst e
  revert i h2; cases o <;> simp [Hh, Bk]
theorem Vc.trans {H H1 H2 : Hp} (a : Vc H H1) (b : Vc H1 H2) : Vc H H2:=fun c o h i=>b c o (a c o h i) i
class FlatE {α : Type} (r : Enc α) : Prop where
  flat : ∀ {K : PySem.W.Frag} {H H' : Hp} {v : V} {a : α}, Vc H H' -> r K H v a -> r K H' v a
instance {α : Type} {r : Enc α} [f : FlatE r] : MonoE r:=⟨fun s h=>f.flat s.i h⟩
noncomputable def XM : Enc Bool:=fun _ _ v b=>v = .bl b
noncomputable def ZG {α : Type} (r : Enc α) : Enc (Option α):=fun K H v a=>match a with
  | none=>v = .non
  | some a=>v ≠ .non /\ r K H v a
noncomputable def rV {α : Type} (r : Enc α) : Enc (List α):=fun K H v as=>∃ a xs, v = .ref a /\ H a = some (.lst xs) /\ Paired (r K H) xs as
noncomputable def rPL {α : Type} (r : Enc α) : Enc (List α):=fun K H v as=>∃ a xs, v = .ref a /\ H a = some (.tup xs) /\ Paired (r K H) xs as
noncomputable def rP2 {α β : Type} (r : Enc α) (q : Enc β) : Enc (α × β):=fun K H v p=>∃ a x y, v = .ref a /\ H a = some (.tup [x, y]) /\ r K H x p.1 /\ q K H y p.2
noncomputable def rP3 {α β γ : Type} (r : Enc α) (q : Enc β) (t : Enc γ) : Enc (α × β × γ):=fun K H v p=>∃ a x y z, v = .ref a /\ H a = some (.tup [x, y, z]) /\ r K H x p.1 /\ q K H y p.2.1 /\ t K H z p.2.2
instance {α : Type} {r : Enc α} [m : MonoE r] : MonoE (rV r):=⟨fun s h9=>(by obtain ⟨a, xs, e, q, p⟩:=h9; exact ⟨a, xs, e, s _ _ q, Paired.imp2 (fun _ _ z=>m.mono s z) p⟩)⟩
instance {α : Type} {r : Enc α} [m : MonoE r] : MonoE (rPL r):=⟨fun s h9=>(by obtain ⟨a, xs, e, q, p⟩:=h9; exact ⟨a, xs, e, s _ _ q, Paired.imp2 (fun _ _ z=>m.mono s z) p⟩)⟩
instance {α : Type} {r : Enc α} [m : FlatE r] : FlatE (rPL r):=⟨fun s h9=>(by obtain ⟨a, xs, e, q, p⟩:=h9; exact ⟨a, xs, e, s _ _ q rfl, Paired.imp2 (fun _ _ z=>m.flat s z) p⟩)⟩
instance {α β : Type} {r : Enc α} {q : Enc β} [m : MonoE r] [n : MonoE q] : MonoE (rP2 r q):=⟨fun s h9=>(by obtain ⟨a, x, y, e, h, p1, p2⟩:=h9; exact ⟨a, x, y, e, s _ _ h, m.mono s p1, n.mono s p2⟩)⟩
instance {α β : Type} {r : Enc α} {q : Enc β} [m : FlatE r] [n : FlatE q] : FlatE (rP2 r q):=⟨fun s h9=>(by obtain ⟨a, x, y, e, h, p1, p2⟩:=h9; exact ⟨a, x, y, e, s _ _ h rfl, m.flat s p1, n.flat s p2⟩)⟩
instance {α β γ : Type} {r : Enc α} {q : Enc β} {t : Enc γ} [m : MonoE r] [n : MonoE q] [k : MonoE t] : MonoE (rP3 r q t):=⟨fun s h9=>(by obtain ⟨a, x, y, z, e, h, p1, p2, p3⟩:=h9; exact ⟨a, x, y, z, e, s _ _ h, m.mono s p1, n.mono s p2, k.mono s p3⟩)⟩
instance {α β γ : Type} {r : Enc α} {q : Enc β} {t : Enc γ} [m : FlatE r] [n : FlatE q] [k : FlatE t] : FlatE (rP3 r q t):=⟨fun s h9=>(by obtain ⟨a, x, y, z, e, h, p1, p2, p3⟩:=h9; exact ⟨a, x, y, z, e, s _ _ h rfl, m.flat s p1, n.flat s p2, k.flat s p3⟩)⟩
instance : FlatE Xc:=⟨fun _ h=>h⟩
instance : FlatE XM:=⟨fun _ h=>h⟩
instance {α : Type} {r : Enc α} [m : MonoE r] : MonoE (rL r):=⟨fun s h9=>(by obtain ⟨a, xs, e, q, p⟩:=h9; exact ⟨a, xs, e, s.seq q, Paired.imp2 (fun _ _ z=>m.mono s z) p⟩)⟩
instance {α : Type} {r : Enc α} [m : MonoE r] : MonoE (ZG r):=⟨fun {K H H' v a} s h=>by cases a with
  | none=>exact h
  | some a=>exact ⟨h.1, m.mono s h.2⟩⟩
instance {α : Type} {r : Enc α} [m : FlatE r] : FlatE (ZG r):=⟨fun {K H H' v a} s h=>by cases a with
  | none=>exact h
  | some a=>exact ⟨h.1, m.flat s h.2⟩⟩
noncomputable abbrev OE (α : Type):=PySem.W.Frag -> Hp -> V -> α -> List Xu -> Prop
inductive P3 {α β γ : Type} (F : α -> β -> γ -> Prop) : List α -> List β -> List γ -> Prop where
  | nil : P3 F [] [] []
  | cons {a b c l m n} : F a b c -> P3 F l m n -> P3 F (a :: l) (b :: m) (c :: n)
noncomputable def oF {α : Type} (r : Enc α) : OE α:=fun K h v a C=>C = [] /\ r K h v a
noncomputable def oL {α : Type} (o : OE α) : OE (List α):=fun K h v as C=>∃ p xs Cs, v = .ref p /\ P3 (o K h) xs as Cs /\ C = (p, .lst xs) :: Cs.flatten
noncomputable def oT2 {α β : Type} (o : OE α) (q : OE β) : OE (α × β):=fun K h v a C=>∃ p x y C1 C2, v = .ref p /\ h p = some (.tup [x, y]) /\ o K h x a.1 C1 /\ q K h y a.2 C2 /\ C = C1 ++ C2
noncomputable def E8 {α : Type} (o : OE α) : OE (Option α):=fun K h v a C=>match a with
  | none=>v = .non /\ C = []
  | some a=>v ≠ .non /\ o K h v a C
section
variable {α β γ δ : Type}
theorem P3.imp {F G : α -> β -> γ -> Prop} (h : ∀ a b c, F a b c -> G a b c) : ∀ {l m n}, P3 F l m n -> P3 G l m n:=fun p=>by
  induction p with
  | nil=>exact .nil
  | cons r _ ih=>exact .cons (h _ _ _ r) ih
theorem P3.app {F : α -> β -> γ -> Prop} : ∀ {l m n l' m' n'}, P3 F l m n -> P3 F l' m' n' -> P3 F (l ++ l') (m ++ m') (n ++ n'):=fun p h=>by
  induction p with
  | nil=>exact h
  | cons r _ ih=>exact .cons r ih
theorem P3.snoc {F : α -> β -> γ -> Prop} {l m n a b c} (h : P3 F l m n) (r : F a b c) : P3 F (l ++ [a]) (m ++ [b]) (n ++ [c]):=h.app (.cons r .nil)
theorem P3.len {F : α -> β -> γ -> Prop} : ∀ {l m n}, P3 F l m n -> l.length = m.length /\ n.length = m.length
  | _, _, _, .nil=>⟨rfl, rfl⟩
  | _, _, _, .cons _ t=>by simp [(P3.len t).1, (P3.len t).2]
theorem P3.pair {F : α -> β -> γ -> Prop} {G : α -> β -> Prop} : ∀ {l m n}, P3 F l m n -> (∀ a b c, c ∈ n -> F a b c -> G a b) -> Paired G l m:=fun p h=>by
  induction p with
  | nil=>exact .nil
  | cons r _ ih=>exact .cons (h _ _ _ List.mem_cons_self r) (ih fun a b c hc=>h a b c (List.mem_cons_of_mem _ hc))
theorem P3.get {F : α -> β -> γ -> Prop} : ∀ {l m n} {i : Nat} {b : β}, P3 F l m n -> m[i]? = some b -> ∃ a c, l[i]? = some a /\ n[i]? = some c /\ F a b c
  | _, _, _, _, _, .nil, e=>by simp at e
  | _, _, _, 0, _, .cons r _, e=>by simp at e; subst e; exact ⟨_, _, rfl, rfl, r⟩
  | _, _, _, i + 1, b, .cons _ t, e=>by
    obtain ⟨a, c, h1, h2, h3⟩:=P3.get (i:=i) (b:=b) t (by simpa using e)
    exact ⟨a, c, by simpa using h1, by simpa using h2, h3⟩
theorem P3.set {F : α -> β -> γ -> Prop} {a : α} {b : β} {c : γ} (r : F a b c) : ∀ {l m n} (i : Nat), P3 F l m n -> P3 F (l.set i a) (m.set i b) (n.set i c)
  | _, _, _, _, .nil=>.nil
  | _, _, _, 0, .cons _ t=>.cons r t
  | _, _, _, i + 1, .cons q t=>.cons q (P3.set r i t)
theorem P3.flat {F : α -> β -> Prop} : ∀ {l : List α} {m : List β} {n : List (List Xu)}, P3 (fun a b c=>c = [] /\ F a b) l m n -> Paired F l m /\ n.flatten = []:=fun p=>by
  induction p with
  | nil=>exact ⟨.nil, rfl⟩
  | cons r _ ih=>exact ⟨.cons r.2 ih.1, by rw [List.flatten_cons, r.1, ih.2]; rfl⟩
theorem P3.of {F : α -> β -> Prop} : ∀ {l : List α} {m : List β}, Paired F l m -> P3 (fun a b (c : List Xu)=>c = [] /\ F a b) l m (List.replicate m.length [])
  | _, _, .nil=>.nil
  | _, _, .cons r t=>.cons ⟨rfl, r⟩ (P3.of t)
theorem X1 : ∀ n : Nat, (List.replicate n ([] : List Xu)).flatten = []
  | 0=>rfl
  | n + 1=>by simp [List.replicate_succ, X1 n]
end
class MonoO {α : Type} (o : OE α) : Prop where
  mono : ∀ {K : PySem.W.Frag} {H H' : Hp} {v : V} {a : α} {C : List Xu}, Xm H H' -> o K H v a C -> o K H' v a C
class FlatO {α : Type} (o : OE α) : Prop where
  flat : ∀ {K : PySem.W.Frag} {H H' : Hp} {v : V} {a : α} {C : List Xu}, Vc H H' -> o K H v a C -> o K H' v a C
class FrzC {α : Type} (o : OE α) (r : outParam (Enc α)) : Prop where
  frz : ∀ {K : PySem.W.Frag} {H H' : Hp} {v : V} {a : α} {C : List Xu}, o K H v a C -> Xm H H' -> (∀ c ∈ C, H' c.1 = some c.2) -> r K H' v a
instance {α : Type} {r : Enc α} [m : MonoE r] : MonoO (oF r):=⟨fun s h=>⟨h.1, m.mono s h.2⟩⟩
instance {α : Type} {r : Enc α} [m : FlatE r] : FlatO (oF r):=⟨fun s h=>⟨h.1, m.flat s h.2⟩⟩
instance {α : Type} {r : Enc α} [m : MonoE r] : FrzC (oF r) r:=⟨fun h s _=>m.mono s h.2⟩
instance {α : Type} {o : OE α} [m : MonoO o] : MonoO (oL o):=⟨fun s h9=>(by obtain ⟨p, xs, Cs, e, q, c⟩:=h9; exact ⟨p, xs, Cs, e, q.imp fun _ _ _ z=>m.mono s z, c⟩)⟩
instance {α : Type} {o : OE α} [m : FlatO o] : FlatO (oL o):=⟨fun s h9=>(by obtain ⟨p, xs, Cs, e, q, c⟩:=h9; exact ⟨p, xs, Cs, e, q.imp fun _ _ _ z=>m.flat s z, c⟩)⟩
instance {α : Type} {o : OE α} {r : Enc α} [m : FrzC o r] : FrzC (oL o) (rV r):=⟨fun ⟨p, xs, Cs, e, q, c⟩ s hc=>by
  subst c
  exact ⟨p, xs, e, hc _ List.mem_cons_self, q.pair fun a b c hm z=>m.frz z s fun x hx=>hc x (List.mem_cons_of_mem _ (List.mem_flatten.mpr ⟨c, hm, hx⟩))⟩⟩
instance {α β : Type} {o : OE α} {q : OE β} [m : MonoO o] [n : MonoO q] : MonoO (oT2 o q):=⟨fun s h9=>(by obtain ⟨p, x, y, C1, C2, e, h, h1, h2, c⟩:=h9; exact ⟨p, x, y, C1, C2, e, s _ _ h, m.mono s h1, n.mono s h2, c⟩)⟩
instance {α β : Type} {o : OE α} {q : OE β} [m : FlatO o] [n : FlatO q] : FlatO (oT2 o q):=⟨fun s h9=>(by obtain ⟨p, x, y, C1, C2, e, h, h1, h2, c⟩:=h9; exact ⟨p, x, y, C1, C2, e, s _ _ h rfl, m.flat s h1, n.flat s h2, c⟩)⟩
instance {α β : Type} {o : OE α} {q : OE β} {r : Enc α} {t : Enc β} [m : FrzC o r] [n : FrzC q t] : FrzC (oT2 o q) (rP2 r t):=⟨fun ⟨p, x, y, C1, C2, e, h, h1, h2, c⟩ s hc=>by
  subst c
  exact ⟨p, x, y, e, s _ _ h, m.frz h1 s fun c hm=>hc c (by simp [hm]), n.frz h2 s fun c hm=>hc c (by simp [hm])⟩⟩
instance {α : Type} {o : OE α} [m : MonoO o] : MonoO (E8 o):=⟨fun {K H H' v a C} s h=>by cases a with
  | none=>exact h
  | some a=>exact ⟨h.1, m.mono s h.2⟩⟩
instance {α : Type} {o : OE α} [m : FlatO o] : FlatO (E8 o):=⟨fun {K H H' v a C} s h=>by cases a with
  | none=>exact h
  | some a=>exact ⟨h.1, m.flat s h.2⟩⟩
instance {α : Type} {o : OE α} {r : Enc α} [m : FrzC o r] : FrzC (E8 o) (ZG r):=⟨fun {K H H' v a C} h s hc=>by cases a with
  | none=>exact h.1
  | some a=>exact ⟨h.1, m.frz h.2 s hc⟩⟩
structure SC where
  p : Hp -> Prop
  mono : ∀ h h', Xm h h' -> p h -> p h'
noncomputable def SC.nil : SC:=⟨fun _=>True, fun _ _ _ _=>True.intro⟩
noncomputable def SC.and (S T : SC) : SC:=⟨fun h=>S.p h /\ T.p h, fun _ _ s q=>⟨S.mono _ _ s q.1, T.mono _ _ s q.2⟩⟩
noncomputable def SC.one {α : Type} (K : PySem.W.Frag) (r : Enc α) [m : MonoE r] (v : V) (a : α) : SC:=⟨fun h=>r K h v a, fun _ _ s q=>m.mono s q⟩
noncomputable def SC.oneO {α : Type} (K : PySem.W.Frag) (o : OE α) [m : MonoO o] (v : V) (a : α) (C : List Xu) : SC:=⟨fun h=>o K h v a C, fun _ _ s q=>m.mono s q⟩
noncomputable abbrev SC.add {α : Type} (S : SC) (K : PySem.W.Frag) (r : Enc α) [m : MonoE r] (v : V) (a : α) : SC:=S.and (SC.one K r v a)
noncomputable abbrev SC.addO {α : Type} (S : SC) (K : PySem.W.Frag) (o : OE α) [m : MonoO o] (v : V) (a : α) (C : List Xu) : SC:=S.and (SC.oneO K o v a C)
theorem SC.l {S T : SC} {h : Hp} (q : (S.and T).p h) : S.p h:=q.1
theorem SC.r {S T : SC} {h : Hp} (q : (S.and T).p h) : T.p h:=q.2
theorem SC.i {S T : SC} {h : Hp} (q : S.p h) (p : T.p h) : (S.and T).p h:=⟨q, p⟩
theorem SC.t {h : Hp} : SC.nil.p h:=True.intro
noncomputable def PZ {β : Type} (Er : Exc -> Hp -> Prop) (F : β -> Hp -> Prop) (H : Hp) (m : Res β) : Prop:=
  match m with
  | .bad=>False
  | .err x=>∀ H', Xm H H' -> Er x H'
  | .ok b=>F b H
section
variable (K : PySem.W.Frag) (Er : Exc -> Hp -> Prop) (S : SC) (OO OO' : List (List Xu)) (σ : St)
noncomputable def FB {α : Type} (r : Enc α) (Q : VK) (a : α) (H : Hp) : Prop:=∀ v H', Xm H H' -> r K H' v a -> Q v H'
noncomputable def FO {α : Type} (o : OE α) (Q : VK) (a : α) (H : Hp) : Prop:=∀ v C H', Xm H H' -> W (C :: OO') H' -> Xm (hid H OO) (hid H' (C :: OO')) -> o K (hid H' (C :: OO')) v a C -> Q v H'
noncomputable def FT (Q : Bool -> Hp -> Prop) (b : Bool) (H : Hp) : Prop:=∀ H', Xm H H' -> Q b H'
noncomputable def EvB {α : Type} (te : TE) (r : Enc α) (m : Res α) : Prop:=∀ H Q, W OO H -> S.p (hid H OO) -> PZ Er (FB K r Q) H m -> te σ H Q
noncomputable def Ev {α : Type} (te : TE) (o : OE α) (m : Res α) : Prop:=∀ H Q, W OO H -> S.p (hid H OO) -> PZ Er (FO K OO OO' o Q) H m -> te σ H Q
noncomputable def EvT (tt : TT) (m : Res Bool) : Prop:=∀ H Q, W OO H -> S.p (hid H OO) -> PZ Er (FT Q) H m -> tt σ H Q
end
section
variable {K : PySem.W.Frag} {Er : Exc -> Hp -> Prop} {S : SC} {OO OO' OO2 : List (List Xu)} {σ : St} {α β γ : Type}
theorem FB.tr {r : Enc α} {Q : VK} : ∀ a H H', Xm H H' -> FB K r Q a H -> FB K r Q a H':=fun a H H' s h v H2 s2 q=>h v H2 (s.trans s2) q
theorem FO.tr {o : OE α} {Q : VK} : ∀ a H H', Xm H H' -> FO K OO OO' o Q a H -> FO K OO OO' o Q a H':=fun a H H' s h v C H2 s2 w m q=>h v C H2 (s.trans s2) w ((Xj s).trans m) q
theorem FT.tr {Q : Bool -> Hp -> Prop} : ∀ b H H', Xm H H' -> FT Q b H -> FT Q b H':=fun a H H' s h H2 s2=>h H2 (s.trans s2)
theorem EvB.run {te : TE} {r : Enc α} {m : Res α} (he : EvB K Er S OO σ te r m) {H : Hp} {Q : VK} (w : W OO H) (s : S.p (hid H OO)) {f : α -> Res β} {F : β -> Hp -> Prop} (hF : ∀ b H H', Xm H H' -> F b H -> F b H') (P : PZ Er F H (m.bind f))
    (hk : ∀ a v H', Xm H H' -> W OO H' -> S.p (hid H' OO) -> r K H' v a -> PZ Er F H' (f a) -> Q v H') : te σ H Q:=by
  refine he H Q w s ?_
  cases m with
  | bad=>exact P
  | err x=>exact P
  | ok a=>
    intro v H' s' hr
    refine hk a v H' s' (w.keep s') (S.mono _ _ (Xj s') s) hr ?_
    have P' : PZ Er F H (f a):=P
    revert P'
    cases f a with
    | bad=>exact fun z=>z
    | err x=>exact fun z H2 s2=>z H2 (s'.trans s2)
    | ok b=>exact fun z=>hF b H H' s' z
theorem Ev.run {te : TE} {o : OE α} {m : Res α} (he : Ev K Er S OO OO' σ te o m) {H : Hp} {Q : VK} (w : W OO H) (s : S.p (hid H OO)) {f : α -> Res β} {F : β -> Hp -> Prop} (hF : ∀ b H H', Xm H H' -> F b H -> F b H') (P : PZ Er F H (m.bind f))
    (hk : ∀ a v C H', Xm H H' -> W (C :: OO') H' -> Xm (hid H OO) (hid H' (C :: OO')) -> S.p (hid H' (C :: OO')) -> o K (hid H' (C :: OO')) v a C -> PZ Er F H' (f a) -> Q v H') : te σ H Q:=by
  refine he H Q w s ?_
  cases m with
  | bad=>exact P
  | err x=>exact P
  | ok a=>
    intro v C H' s' w' m' ho
    refine hk a v C H' s' w' m' (S.mono _ _ m' s) ho ?_
    have P' : PZ Er F H (f a):=P
    revert P'
    cases f a with
    | bad=>exact fun z=>z
    | err x=>exact fun z H2 s2=>z H2 (s'.trans s2)
    | ok b=>exact fun z=>hF b H H' s' z
theorem EvT.run {tt : TT} {m : Res Bool} (he : EvT Er S OO σ tt m) {H : Hp} {Q : Bool -> Hp -> Prop} (w : W OO H) (s : S.p (hid H OO)) {f : Bool -> Res β} {F : β -> Hp -> Prop} (hF : ∀ b H H', Xm H H' -> F b H -> F b H') (P : PZ Er F H (m.bind f))
    (hk : ∀ b H', Xm H H' -> W OO H' -> S.p (hid H' OO) -> PZ Er F H' (f b) -> Q b H') : tt σ H Q:=by
  refine he H Q w s ?_
  cases m with
  | bad=>exact P
  | err x=>exact P
  | ok a=>
    intro H' s'
    refine hk a H' s' (w.keep s') (S.mono _ _ (Xj s') s) ?_
    have P' : PZ Er F H (f a):=P
    revert P'
    cases f a with
    | bad=>exact fun z=>z
    | err x=>exact fun z H2 s2=>z H2 (s'.trans s2)
    | ok b=>exact fun z=>hF b H H' s' z
theorem Ev.toB {te : TE} {o : OE α} {r : Enc α} [z : FrzC o r] {m : Res α} (he : Ev K Er S OO OO σ te o m) : EvB K Er S OO σ te r m:=fun H Q w s P=>by
  refine he H Q w s ?_
  cases m with
  | bad=>exact P
  | err x=>exact P
  | ok a=>exact fun v C H' s' w' m' ho=>P v H' s' (z.frz ho XC w'.cell)
theorem Ev.frz {te : TE} {o : OE α} {r : Enc α} [z : FrzC o r] {m : Res α} (he : Ev K Er S OO OO' σ te o m) : Ev K Er S OO OO' σ te (oF r) m:=fun H Q w s P=>by
  refine he H Q w s ?_
  cases m with
  | bad=>exact P
  | err x=>exact P
  | ok a=>
    intro v C H' s' w' m' ho
    have hs : Xm (hid H' (C :: OO')) (hid H' ([] :: OO')):=Zi (Xm.refl _) fun b hb=>by rw [Gb] at hb; rw [XQ]; simp [hb]
    refine P v [] H' s' w'.tail.nil (m'.trans hs) ⟨rfl, z.frz ho hs fun c hc=>YO (w'.cell c hc) ?_⟩
    rw [Gb]
    have:=w'.nd
    rw [XQ] at this
    intro hb
    exact (List.nodup_append.mp this).2.2 c.1 (List.mem_map.mpr ⟨c, hc, rfl⟩) c.1 hb rfl
theorem EvB.flat {te : TE} {r : Enc α} [z : FlatE r] {m : Res α} (he : EvB K Er S OO σ te r m) : Ev K Er S OO OO σ te (oF r) m:=fun H Q w s P=>by
  refine he H Q w s ?_
  cases m with
  | bad=>exact P
  | err x=>exact P
  | ok a=>
    intro v H' s' hr
    have w':=w.keep s'
    exact P v [] H' s' w'.nil (by rw [Yc]; exact Xj s') ⟨rfl, by rw [Yc]; exact z.flat w'.i hr⟩
theorem Xa {r : Enc α} [z : MonoE r] {v : V} {a : α} (i : Nat) (hσ : σ[i]? = some (some v)) (h : ∀ x, S.p x -> r K x v a) : EvB K Er S OO σ (QY i) r (.ok a):=fun H Q w s P=>
  ⟨v, hσ, P v H (Xm.refl _) (z.mono XC (h _ s))⟩
theorem YY {o : OE α} {r : Enc α} [z : FrzC o r] {v : V} {a : α} {C : List Xu} (i k : Nat) (hσ : σ[i]? = some (some v)) (hk : OO[k]? = some C) (h : ∀ x, S.p x -> o K x v a C) : EvB K Er S OO σ (QY i) r (.ok a):=fun H Q w s P=>
  ⟨v, hσ, P v H (Xm.refl _) (z.frz (h _ s) XC fun c hc=>w.tr c (List.mem_flatten.mpr ⟨C, List.mem_of_getElem? hk, hc⟩))⟩
theorem XF : ∀ {OO : List (List Xu)} {k : Nat} {C : List Xu}, OO[k]? = some C -> (C :: OO.set k []).flatten.Perm OO.flatten
  | [], _, _, h=>by simp at h
  | D :: OO, 0, C, h=>by simp at h; subst h; simp
  | D :: OO, k + 1, C, h=>by
    have:=XF (OO:=OO) (k:=k) (C:=C) (by simpa using h)
    simp only [List.set_cons_succ, List.flatten_cons] at this ⊢
    refine List.Perm.trans ?_ (this.append_left D)
    rw [← List.append_assoc, ← List.append_assoc]
    exact List.perm_append_comm.append_right _
theorem Up {OO OO' : List (List Xu)} (h : OO'.flatten.Perm OO.flatten) (b : Addr) : b ∈ fl OO' ↔ b ∈ fl OO:=(h.map (·.1)).mem_iff
theorem XG {H : Hp} {OO OO' : List (List Xu)} (h : OO'.flatten.Perm OO.flatten) : hid H OO' = hid H OO:=by
  funext b; unfold hid
  by_cases hb : b ∈ fl OO
  . rw [if_pos hb, if_pos ((Up h b).mpr hb)]
  . rw [if_neg hb, if_neg fun z=>hb ((Up h b).mp z)]
theorem Zz {o : OE α} {v : V} {a : α} {C : List Xu} (i k : Nat) (hσ : σ[i]? = some (some v)) (hk : OO[k]? = some C) (h : ∀ x, S.p x -> o K x v a C) : Ev K Er S OO (OO.set k []) σ (QY i) o (.ok a):=fun H Q w s P=>by
  have hp:=XF hk
  exact ⟨v, hσ, P v C H (Xm.refl _) (w.of hp) (by rw [XG hp]; exact Xm.refl _) (by rw [XG hp]; exact h _ s)⟩
theorem Xf (n : Int) : EvB K Er S OO σ (tC (.int n)) Xc (.ok n):=fun H Q w s P=>P _ H (Xm.refl _) rfl
theorem Zk (b : Bool) : EvB K Er S OO σ (tC (.bl b)) XM (.ok b):=fun H Q w s P=>P _ H (Xm.refl _) rfl
theorem Jb {ta tb : TE} {g : Int -> Int -> V} {r : Enc β} {f : Int -> Int -> β} {ma mb : Res Int} (hg : ∀ K H i j, r K H (g i j) (f i j)) (ha : EvB K Er S OO σ ta Xc ma) (hb : EvB K Er S OO σ tb Xc mb) :
    EvB K Er S OO σ (tOp (rI0 g) ta tb) r (ma.bind fun a=>mb.bind fun b=>.ok (f a b)):=fun H Q w s P=>
  ha.run w s FB.tr P fun a x H1 s1 w1 q1 r1 P1=>hb.run w1 q1 FB.tr P1 fun b y H2 s2 w2 q2 r2 P2=>⟨a, b, r1, r2, P2 _ H2 (Xm.refl _) (hg K H2 a b)⟩
theorem Ve {ta tb : TE} {Cc : Int -> Int -> Prop} {g : Int -> Int -> V} {r : Enc β} {f : Int -> Int -> Res β} {ma mb : Res Int} (hg : ∀ K H i j c, f i j = .ok c -> Cc i j /\ r K H (g i j) c) (he : ∀ i j x, f i j ≠ .err x)
    (ha : EvB K Er S OO σ ta Xc ma) (hb : EvB K Er S OO σ tb Xc mb) :
    EvB K Er S OO σ (tOp (rI Cc g) ta tb) r (ma.bind fun a=>mb.bind fun b=>f a b):=fun H Q w s P=>
  ha.run w s FB.tr P fun a x H1 s1 w1 q1 r1 P1=>hb.run w1 q1 FB.tr P1 fun b y H2 s2 w2 q2 r2 P2=>by
    cases e : f a b with
    | bad=>rw [e] at P2; exact P2.elim
    | err x=>exact absurd e (he a b x)
    | ok c=>
      rw [e] at P2
      obtain ⟨h1, h2⟩:=hg K H2 a b c e
      exact ⟨a, b, r1, r2, h1, P2 _ H2 (Xm.refl _) h2⟩
noncomputable def Ue (a b : Int) : Res Int:=chk ((-(2 ^ 64) < a /\ a < 2 ^ 64) ∨ (-(2 ^ 64) < b /\ b < 2 ^ 64)) (.ok (a * b))
noncomputable def QT (a b : Int) : Res Int:=chk (0 < b) (.ok (a % b))
noncomputable def Bi (a b : Int) : Res Int:=chk (0 < b /\ b.natAbs.log2 < 9000) (.ok (a / b))
noncomputable def Ex (a b : Int) : Res Int:=chk (0 <= b /\ b <= 1000000 /\ a.natAbs < 2 ^ 64) (.ok (a ^ b.toNat))
theorem Zf {c : Prop} [Decidable c] {m : Res α} {a : α} (h : chk c m = .ok a) : c /\ m = .ok a:=by
  unfold chk at h; split at h
  . exact ⟨by assumption, h⟩
  . cases h
theorem Qs {c : Prop} [Decidable c] {a : α} {x : Exc} : chk c (Res.ok a) ≠ .err x:=by
  unfold chk; split <;> exact fun z=>nomatch z
theorem YJ {ta tb : TE} {ma mb : Res Int} (ha : EvB K Er S OO σ ta Xc ma) (hb : EvB K Er S OO σ tb Xc mb) : EvB K Er S OO σ (tOp (rI EE fun i j=>.int (i * j)) ta tb) Xc (ma.bind fun a=>mb.bind fun b=>Ue a b):=
  Ve (fun K H i j c h=>by obtain ⟨h1, h2⟩:=Zf h; cases h2; exact ⟨h1, rfl⟩) (fun i j x=>Qs) ha hb
theorem X7 {ta tb : TE} {ma mb : Res Int} (ha : EvB K Er S OO σ ta Xc ma) (hb : EvB K Er S OO σ tb Xc mb) : EvB K Er S OO σ (tOp (rI (fun _ j=>0 < j) fun i j=>.int (i % j)) ta tb) Xc (ma.bind fun a=>mb.bind fun b=>QT a b):=
  Ve (fun K H i j c h=>by obtain ⟨h1, h2⟩:=Zf h; cases h2; exact ⟨h1, rfl⟩) (fun i j x=>Qs) ha hb
theorem UA {ta tb : TE} {ma mb : Res Int} (ha : EvB K Er S OO σ ta Xc ma) (hb : EvB K Er S OO σ tb Xc mb) : EvB K Er S OO σ (tOp (rI (fun _ j=>0 < j /\ j.natAbs.log2 < 9000) fun i j=>.int (i / j)) ta tb) Xc (ma.bind fun a=>mb.bind fun b=>Bi a b):=
  Ve (fun K H i j c h=>by obtain ⟨h1, h2⟩:=Zf h; cases h2; exact ⟨h1, rfl⟩) (fun i j x=>Qs) ha hb
theorem KN {ta tb : TE} {ma mb : Res Int} (ha : EvB K Er S OO σ ta Xc ma) (hb : EvB K Er S OO σ tb Xc mb) : EvB K Er S OO σ (tOp (rI Hf fun i j=>.int (i ^ j.toNat)) ta tb) Xc (ma.bind fun a=>mb.bind fun b=>Ex a b):=
  Ve (fun K H i j c h=>by obtain ⟨h1, h2⟩:=Zf h; cases h2; exact ⟨h1, rfl⟩) (fun i j x=>Qs) ha hb
theorem XY {ta tb : TE} {ma mb : Res Int} (ha : EvB K Er S OO σ ta Xc ma) (hb : EvB K Er S OO σ tb Xc mb) : EvB K Er S OO σ (tOp (rI0 fun i j=>.int (i + j)) ta tb) Xc (ma.bind fun a=>mb.bind fun b=>.ok (a + b)):=Jb (fun _ _ _ _=>rfl) ha hb
theorem YK {ta tb : TE} {ma mb : Res Int} (ha : EvB K Er S OO σ ta Xc ma) (hb : EvB K Er S OO σ tb Xc mb) : EvB K Er S OO σ (tOp (rI0 fun i j=>.int (i - j)) ta tb) Xc (ma.bind fun a=>mb.bind fun b=>.ok (a - b)):=Jb (fun _ _ _ _=>rfl) ha hb
theorem JW {ta tb : TE} {ma mb : Res Int} (ha : EvB K Er S OO σ ta Xc ma) (hb : EvB K Er S OO σ tb Xc mb) : EvB K Er S OO σ (tOp (rI0 fun i j=>.bl (decide (i < j))) ta tb) XM (ma.bind fun a=>mb.bind fun b=>.ok (decide (a < b))):=Jb (fun _ _ _ _=>rfl) ha hb
theorem V7 {ta tb : TE} {ma mb : Res Int} (ha : EvB K Er S OO σ ta Xc ma) (hb : EvB K Er S OO σ tb Xc mb) : EvB K Er S OO σ (tOp (rI0 fun i j=>.bl (decide (j < i))) ta tb) XM (ma.bind fun a=>mb.bind fun b=>.ok (decide (b < a))):=Jb (fun _ _ _ _=>rfl) ha hb
theorem DN {ta tb : TE} {ma mb : Res Int} (ha : EvB K Er S OO σ ta Xc ma) (hb : EvB K Er S OO σ tb Xc mb) : EvB K Er S OO σ (tOp (rI0 fun i j=>.bl (decide (j <= i))) ta tb) XM (ma.bind fun a=>mb.bind fun b=>.ok (decide (b <= a))):=Jb (fun _ _ _ _=>rfl) ha hb
class Scal {α : Type} [DecidableEq α] (r : Enc α) : Prop where
  to : ∀ {K : PySem.W.Frag} {H H' : Hp} {x y : V} {a b : α}, r K H x a -> r K H' y b -> EL x y = true /\ decide (x = y) = decide (a = b)
instance : Scal Xc:=⟨fun {K H H' x y a b} h1 h2=>by cases (show x = .int a from h1); cases (show y = .int b from h2); exact ⟨rfl, by simp⟩⟩
instance : Scal XM:=⟨fun {K H H' x y a b} h1 h2=>by cases (show x = .bl a from h1); cases (show y = .bl b from h2); exact ⟨rfl, by simp⟩⟩
theorem YN [DecidableEq α] {r : Enc α} [z : Scal r] [MonoE r] {ta tb : TE} {ma mb : Res α} (ha : EvB K Er S OO σ ta r ma) (hb : EvB K Er S OO σ tb r mb) : EvB K Er S OO σ (tOp rEq ta tb) XM (ma.bind fun a=>mb.bind fun b=>.ok (decide (a = b))):=fun H Q w s P=>
  ha.run w s FB.tr P fun a x H1 s1 w1 q1 r1 P1=>hb.run w1 q1 FB.tr P1 fun b y H2 s2 w2 q2 r2 P2=>by
    obtain ⟨h1, h2⟩:=z.to r1 r2
    exact ⟨h1, P2 _ H2 (Xm.refl _) (by rw [h2]; rfl)⟩
theorem Qp [DecidableEq α] {r : Enc α} [z : Scal r] [MonoE r] {ta tb : TE} {ma mb : Res α} (ha : EvB K Er S OO σ ta r ma) (hb : EvB K Er S OO σ tb r mb) : EvB K Er S OO σ (tOp rNe ta tb) XM (ma.bind fun a=>mb.bind fun b=>.ok (!decide (a = b))):=fun H Q w s P=>
  ha.run w s FB.tr P fun a x H1 s1 w1 q1 r1 P1=>hb.run w1 q1 FB.tr P1 fun b y H2 s2 w2 q2 r2 P2=>by
    obtain ⟨h1, h2⟩:=z.to r1 r2
    exact ⟨h1, P2 _ H2 (Xm.refl _) (by rw [h2]; rfl)⟩
theorem DU [DecidableEq α] {r : Enc α} [z : MonoE r] {ta tb : TE} {ma mb : Res α} (ha : EvB K Er S OO σ ta r ma) (hb : EvB K Er S OO σ tb r mb) : EvB K Er S OO σ (tOp (Hi K r) ta tb) XM (ma.bind fun a=>mb.bind fun b=>.ok (!decide (a = b))):=fun H Q w s P=>
  ha.run w s FB.tr P fun a x H1 s1 w1 q1 r1 P1=>hb.run w1 q1 FB.tr P1 fun b y H2 s2 w2 q2 r2 P2=>⟨a, b, z.mono s2 r1, r2, P2 _ H2 (Xm.refl _) rfl⟩
theorem VQ {te : TE} {m : Res Bool} (h : EvB K Er S OO σ te XM m) : EvT Er S OO σ (tB te) m:=fun H Q w s P=>h H _ w s (by
  cases m with
  | bad=>exact P
  | err x=>exact P
  | ok a=>exact fun v H' s' r=>⟨a, r, P H' s'⟩)
theorem Xl {te : TE} {m : Res Bool} (h : EvB K Er S OO σ te XM m) : EvT Er S OO σ (BI te) m:=VQ h
theorem ZJ {t : TT} {m : Res Bool} (h : EvT Er S OO σ t m) : EvT Er S OO σ (EW t) (m.bind fun b=>.ok (!b)):=fun H Q w s P=>h.run w s FT.tr P fun b H1 s1 w1 q1 P1=>P1 H1 (Xm.refl _)
noncomputable def QW (a b : Res Bool) : Res Bool:=a.bind fun x=>if x = true then b else .ok false
noncomputable def orR (a b : Res Bool) : Res Bool:=a.bind fun x=>if x = true then .ok true else b
theorem Y4 {t u : TT} {m n : Res Bool} (h : EvT Er S OO σ t m) (k : EvT Er S OO σ u n) : EvT Er S OO σ (Hd t u) (QW m n):=fun H Q w s P=>h.run w s FT.tr P fun b H1 s1 w1 q1 P1=>by
  cases b with
  | true=>rw [if_pos rfl] at P1 ⊢; exact k H1 Q w1 q1 P1
  | false=>exact P1 H1 (Xm.refl _)
theorem V6 {t u : TT} {m n : Res Bool} (h : EvT Er S OO σ t m) (k : EvT Er S OO σ u n) : EvT Er S OO σ (tOr t u) (orR m n):=fun H Q w s P=>h.run w s FT.tr P fun b H1 s1 w1 q1 P1=>by
  cases b with
  | true=>exact P1 H1 (Xm.refl _)
  | false=>exact k H1 Q w1 q1 P1
theorem FX {t : TE} {m : Res Bool} (h : EvB K Er S OO σ t XM m) : EvB K Er S OO σ (BK t) XM (m.bind fun b=>.ok (!b)):=fun H Q w s P=>h.run w s FB.tr P fun b x H1 s1 w1 q1 r1 P1=>⟨b, r1, P1 _ H1 (Xm.refl _) rfl⟩
theorem Vg {t u : TE} {m n : Res Bool} (h : EvB K Er S OO σ t XM m) (k : EvB K Er S OO σ u XM n) : EvB K Er S OO σ (B8 t u) XM (QW m n):=fun H Q w s P=>h.run w s FB.tr P fun b x H1 s1 w1 q1 r1 P1=>⟨b, r1, by
  cases b with
  | true=>rw [if_pos rfl] at P1 ⊢; exact k H1 Q w1 q1 P1
  | false=>exact P1 _ H1 (Xm.refl _) rfl⟩
end
end L2
namespace L2
open PySem PySem.Spec PyProof.Rows
section
variable (K : PySem.W.Frag) (Er : Exc -> Hp -> Prop) (S : SC) (OO : List (List Xu)) (σ : St)
noncomputable def FS {α : Type} (r : Enc α) (Q : VK) (a : α) (H : Hp) : Prop:=∀ v H', Xm H H' -> r K (hid H' OO) v a -> Q v H'
noncomputable def EvS {α : Type} (te : TE) (r : Enc α) (m : Res α) : Prop:=∀ H Q, W OO H -> S.p (hid H OO) -> PZ Er (FS K OO r Q) H m -> te σ H Q
noncomputable def rE {α : Type} (r : Enc α) (H : Hp) (v : V) (as : List α) : Prop:=∃ p xs, v = .ref p /\ H p = some (.lst xs) /\ Paired (r K (hid H OO)) xs as
noncomputable def FL {α : Type} (r : Enc α) (Q : VK) (as : List α) (H : Hp) : Prop:=∀ v H', Xm H H' -> rE K OO r H' v as -> Q v H'
noncomputable def EvL {α : Type} (te : TE) (r : Enc α) (m : Res (List α)) : Prop:=∀ H Q, W OO H -> S.p (hid H OO) -> PZ Er (FL K OO r Q) H m -> te σ H Q
end
section
variable {K : PySem.W.Frag} {Er : Exc -> Hp -> Prop} {S : SC} {OO OO' OO2 : List (List Xu)} {σ : St} {α β γ : Type}
theorem FS.tr {r : Enc α} {Q : VK} : ∀ a H H', Xm H H' -> FS K OO r Q a H -> FS K OO r Q a H':=fun a H H' s h v H2 s2 q=>h v H2 (s.trans s2) q
theorem FL.tr {r : Enc α} {Q : VK} : ∀ a H H', Xm H H' -> FL K OO r Q a H -> FL K OO r Q a H':=fun a H H' s h v H2 s2 q=>h v H2 (s.trans s2) q
theorem PZ.run {F : β -> Hp -> Prop} {f : α -> Res β} {H H' : Hp} {a : α} {m : Res α} (hm : m = .ok a) (hF : ∀ b H H', Xm H H' -> F b H -> F b H') (s : Xm H H') (P : PZ Er F H (m.bind f)) : PZ Er F H' (f a):=by
  subst hm
  have P' : PZ Er F H (f a):=P
  revert P'
  cases f a with
  | bad=>exact fun z=>z
  | err x=>exact fun z H2 s2=>z H2 (s.trans s2)
  | ok b=>exact fun z=>hF b H H' s z
theorem EvS.run {te : TE} {r : Enc α} {m : Res α} (he : EvS K Er S OO σ te r m) {H : Hp} {Q : VK} (w : W OO H) (s : S.p (hid H OO)) {f : α -> Res β} {F : β -> Hp -> Prop} (hF : ∀ b H H', Xm H H' -> F b H -> F b H') (P : PZ Er F H (m.bind f))
    (hk : ∀ a v H', Xm H H' -> W OO H' -> S.p (hid H' OO) -> r K (hid H' OO) v a -> PZ Er F H' (f a) -> Q v H') : te σ H Q:=by
  refine he H Q w s ?_
  cases e : m with
  | bad=>rw [e] at P; exact P
  | err x=>rw [e] at P; exact P
  | ok a=>exact fun v H' s' hr=>hk a v H' s' (w.keep s') (S.mono _ _ (Xj s') s) hr (PZ.run e hF s' P)
theorem EvL.run {te : TE} {r : Enc α} {m : Res (List α)} (he : EvL K Er S OO σ te r m) {H : Hp} {Q : VK} (w : W OO H) (s : S.p (hid H OO)) {f : List α -> Res β} {F : β -> Hp -> Prop} (hF : ∀ b H H', Xm H H' -> F b H -> F b H') (P : PZ Er F H (m.bind f))
    (hk : ∀ a v H', Xm H H' -> W OO H' -> S.p (hid H' OO) -> rE K OO r H' v a -> PZ Er F H' (f a) -> Q v H') : te σ H Q:=by
  refine he H Q w s ?_
  cases e : m with
  | bad=>rw [e] at P; exact P
  | err x=>rw [e] at P; exact P
  | ok a=>exact fun v H' s' hr=>hk a v H' s' (w.keep s') (S.mono _ _ (Xj s') s) hr (PZ.run e hF s' P)
theorem PZ.imp {F G : β -> Hp -> Prop} {H : Hp} {m : Res β} (P : PZ Er F H m) (h : ∀ b, m = .ok b -> F b H -> G b H) : PZ Er G H m:=by
  cases m with
  | bad=>exact P
  | err x=>exact P
  | ok b=>exact h b rfl P
theorem EvS.toB {te : TE} {r : Enc α} [z : MonoE r] {m : Res α} (he : EvS K Er S OO σ te r m) : EvB K Er S OO σ te r m:=fun H Q w s P=>he H Q w s (P.imp fun b _ h v H' s' q=>h v H' s' (z.mono XC q))
theorem EvS.ev {te : TE} {r : Enc α} {m : Res α} (he : EvS K Er S OO σ te r m) : Ev K Er S OO OO σ te (oF r) m:=fun H Q w s P=>he H Q w s (P.imp fun b _ h v H' s' q=>
  h v [] H' s' (w.keep s').nil (by rw [Yc]; exact Xj s') ⟨rfl, by rw [Yc]; exact q⟩)
theorem EvB.sh {te : TE} {r : Enc α} [z : FlatE r] {m : Res α} (he : EvB K Er S OO σ te r m) : EvS K Er S OO σ te r m:=fun H Q w s P=>he H Q w s (P.imp fun b _ h v H' s' q=>h v H' s' (z.flat (w.keep s').i q))
theorem Ev.sh {te : TE} {o : OE α} {r : Enc α} [z : FrzC o r] {m : Res α} (he : Ev K Er S OO OO σ te o m) : EvS K Er S OO σ te r m:=fun H Q w s P=>he.frz H Q w s (P.imp fun b _ h v C H' s' w' m' q=>by
  obtain ⟨rfl, q⟩:=q
  rw [Yc] at q
  exact h v H' s' q)
theorem Xt {r : Enc α} {v : V} {a : α} (i : Nat) (hσ : σ[i]? = some (some v)) (h : ∀ x, S.p x -> r K x v a) : EvS K Er S OO σ (QY i) r (.ok a):=fun H Q w s P=>⟨v, hσ, P v H (Xm.refl _) (h _ s)⟩
theorem EvS.ls {te : TE} {r : Enc α} {m : Res (List α)} (he : EvS K Er S OO σ te (rV r) m) : EvL K Er S OO σ te r m:=fun H Q w s P=>he H Q w s (P.imp fun b _ h v H' s' ⟨p, xs, e, q, pr⟩=>h v H' s' ⟨p, xs, e, XC _ _ q, pr⟩)
theorem EvB.ls {te : TE} {r : Enc α} [z : FlatE r] {m : Res (List α)} (he : EvB K Er S OO σ te (rV r) m) : EvL K Er S OO σ te r m:=fun H Q w s P=>he H Q w s (P.imp fun b _ h v H' s' ⟨p, xs, e, q, pr⟩=>h v H' s' ⟨p, xs, e, q, Paired.imp2 (fun _ _ z'=>z.flat (w.keep s').i z') pr⟩)
theorem Ev.ls {te : TE} {r : Enc α} [z : MonoE r] {m : Res (List α)} (he : Ev K Er S OO OO σ te (oL (oF r)) m) : EvL K Er S OO σ te r m:=he.sh.ls
noncomputable def atR (as : List α) (i : Int) : Res α:=match atI as i with
  | some a=>.ok a
  | none=>.bad
theorem Fc {as : List α} {i : Int} {a : α} (h : atR as i = .ok a) : atI as i = some a:=by
  unfold atR at h; split at h
  . cases h; assumption
  . cases h
theorem KL {as : List α} {i : Int} {x : Exc} : atR as i ≠ .err x:=by unfold atR; split <;> exact fun z=>nomatch z
theorem JM {F : V -> α -> Prop} {xs : List V} {as : List α} {i : Int} {a : α} (p : Paired F xs as) (h : atI as i = some a) : ∃ x, atI xs i = some x /\ F x a:=by
  unfold atI at h ⊢
  rw [Paired.len p]
  cases e : ixN as.length i with
  | none=>rw [e] at h; cases h
  | some j=>
    rw [e] at h
    obtain ⟨x, h1, h2⟩:=Paired.getR p h
    exact ⟨x, h1, h2⟩
theorem PZ.okOf {F : β -> Hp -> Prop} {H : Hp} {m : Res β} (he : ∀ x, m ≠ .err x) (P : PZ Er F H m) : ∃ b, m = .ok b /\ F b H:=by
  cases m with
  | bad=>exact P.elim
  | err x=>exact absurd rfl (he x)
  | ok b=>exact ⟨b, rfl, P⟩
theorem Xw {ta tb : TE} {r : Enc α} [z : MonoE r] {ma : Res (List α)} {mb : Res Int} (ha : EvB K Er S OO σ ta (rV r) ma) (hb : EvB K Er S OO σ tb Xc mb) : EvB K Er S OO σ (tOp (BE K) ta tb) r (ma.bind fun as=>mb.bind fun i=>atR as i):=fun H Q w s P=>
  ha.run w s FB.tr P fun a x H1 s1 w1 q1 ⟨p, xs, e, q, pr⟩ P1=>hb.run w1 q1 FB.tr P1 fun b y H2 s2 w2 q2 r2 P2=>by
    obtain ⟨c, hc, P3⟩:=P2.okOf fun x=>KL
    obtain ⟨u, h1, h2⟩:=JM pr (Fc hc)
    exact ⟨p, xs, b, u, e, r2, SqL.of (s2 _ _ q), h1, P3 u H2 (Xm.refl _) (z.mono s2 h2)⟩
theorem Ck {ta : TE} {r : Enc α} {q : Enc β} {m : Res (α × β)} (ha : EvB K Er S OO σ ta (rP2 r q) m) : EvB K Er S OO σ (tOp (EC K) ta (tC (.int 0))) r (m.bind fun p=>.ok p.1):=fun H Q w s P=>
  ha.run w s FB.tr P fun a x H1 s1 w1 q1 ⟨p, x, y, e, q, h1, h2⟩ P1=>⟨p, _, 0, x, e, rfl, SqT.of q, rfl, P1 _ H1 (Xm.refl _) h1⟩
theorem DZ {ta : TE} {r : Enc α} {q : Enc β} {m : Res (α × β)} (ha : EvB K Er S OO σ ta (rP2 r q) m) : EvB K Er S OO σ (tOp (EC K) ta (tC (.int 1))) q (m.bind fun p=>.ok p.2):=fun H Q w s P=>
  ha.run w s FB.tr P fun a x H1 s1 w1 q1 ⟨p, x, y, e, q, h1, h2⟩ P1=>⟨p, _, 1, y, e, rfl, SqT.of q, rfl, P1 _ H1 (Xm.refl _) h2⟩
theorem Yj {ta : TE} {r : Enc α} {m : Res (List α)} (ha : EvB K Er S OO σ ta (rV r) m) : EvB K Er S OO σ (tCB (KK K) (Xx ta ZF)) Xc (m.bind fun as=>.ok (as.length : Int)):=fun H Q w s P=>
  ha.run w s FB.tr P fun a x H1 s1 w1 q1 ⟨p, xs, e, q, pr⟩ P1=>⟨p, xs, by rw [e], .inl (SqL.of q), P1 _ H1 (Xm.refl _) (by rw [Paired.len pr]; rfl)⟩
theorem DF {r : Enc α} [z : MonoE r] {xs : List V} {as : List α} {H : Hp} {Q : VK} (w : W OO H) (pr : Paired (r K (hid H OO)) xs as) (P : FO K OO OO (oL (oF r)) Q as H) : ∀ p, H p = none -> Q (.ref p) (upd H p (.lst xs)):=fun p hp=>by
  have hn:=Ug (OO:=OO) hp (o:=.lst xs)
  refine P (.ref p) [(p, .lst xs)] _ (XZ hp _) (w.new hp rfl) hn ?_
  refine ⟨p, xs, List.replicate as.length [], rfl, (P3.of (Paired.imp2 (fun _ _ h=>z.mono hn h) pr)).imp fun _ _ _ h=>h, by rw [X1]⟩
theorem Paired.take' {F : α -> β -> Prop} : ∀ {l : List α} {m : List β} (n : Nat), Paired F l m -> Paired F (l.take n) (m.take n)
  | _, _, 0, _=>.nil
  | _, _, _ + 1, .nil=>.nil
  | _, _, n + 1, .cons r t=>.cons r (Paired.take' n t)
theorem Paired.drop' {F : α -> β -> Prop} : ∀ {l : List α} {m : List β} (n : Nat), Paired F l m -> Paired F (l.drop n) (m.drop n)
  | _, _, 0, h=>h
  | _, _, _ + 1, .nil=>.nil
  | _, _, n + 1, .cons _ t=>Paired.drop' n t
theorem Paired.rep' {F : α -> β -> Prop} {l : List α} {m : List β} (h : Paired F l m) : ∀ n : Nat, Paired F (List.replicate n l).flatten (List.replicate n m).flatten
  | 0=>.nil
  | n + 1=>by simp only [List.replicate_succ, List.flatten_cons]; exact Paired.app h (Paired.rep' h n)
noncomputable def Gu (as : List α) (lo hi : Option Int) : List α:=(as.drop (HT.sIx as.length 0 lo)).take (HT.sIx as.length as.length hi - HT.sIx as.length 0 lo)
theorem JG {F : V -> α -> Prop} {xs : List V} {as : List α} (p : Paired F xs as) (lo hi : Option Int) : Paired F (Be xs lo hi) (Gu as lo hi):=by
  unfold Be Gu; rw [Paired.len p]; exact Paired.take' _ (Paired.drop' _ p)
noncomputable def FP (Q : Option Int -> Hp -> Prop) (a : Option Int) (H : Hp) : Prop:=∀ H', Xm H H' -> Q a H'
noncomputable def EvP (Er : Exc -> Hp -> Prop) (S : SC) (OO : List (List Xu)) (σ : St) (t : TO) (m : Res (Option Int)) : Prop:=∀ H Q, W OO H -> S.p (hid H OO) -> PZ Er (FP Q) H m -> t σ H Q
theorem EvP.run {t : TO} {m : Res (Option Int)} (he : EvP Er S OO σ t m) {H : Hp} {Q : Option Int -> Hp -> Prop} (w : W OO H) (s : S.p (hid H OO)) {f : Option Int -> Res β} {F : β -> Hp -> Prop} (hF : ∀ b H H', Xm H H' -> F b H -> F b H') (P : PZ Er F H (m.bind f))
    (hk : ∀ a H', Xm H H' -> W OO H' -> S.p (hid H' OO) -> PZ Er F H' (f a) -> Q a H') : t σ H Q:=by
  refine he H Q w s ?_
  cases e : m with
  | bad=>rw [e] at P; exact P
  | err x=>rw [e] at P; exact P
  | ok a=>exact fun H' s'=>hk a H' s' (w.keep s') (S.mono _ _ (Xj s') s) (PZ.run e hF s' P)
theorem J0 : EvP Er S OO σ Ga (.ok none):=fun H Q w s P=>P H (Xm.refl _)
theorem Vm {te : TE} {m : Res Int} (h : EvB K Er S OO σ te Xc m) : EvP Er S OO σ (B0 te) (m.bind fun i=>.ok (some i)):=fun H Q w s P=>
  h.run w s (fun _ _ _ s h H2 s2=>h H2 (s.trans s2)) P fun a v H1 s1 w1 q1 r1 P1=>⟨a, r1, P1 H1 (Xm.refl _)⟩
theorem US {te : TE} {tl th : TO} {r : Enc α} [z : MonoE r] {m : Res (List α)} {ml mh : Res (Option Int)} (he : EvL K Er S OO σ te r m) (hl : EvP Er S OO σ tl ml) (hh : EvP Er S OO σ th mh) :
    Ev K Er S OO OO σ (tSl (EB K) te tl th) (oL (oF r)) (m.bind fun as=>ml.bind fun lo=>mh.bind fun hi=>.ok (Gu as lo hi)):=fun H Q w s P=>
  he.run w s FO.tr P fun as x H1 s1 w1 q1 ⟨p, xs, e, q, pr⟩ P1=>hl.run w1 q1 FO.tr P1 fun lo H2 s2 w2 q2 P2=>hh.run w2 q2 FO.tr P2 fun hi H3 s3 w3 q3 P3'=>
    ⟨p, xs, e, SqL.of (s3 _ _ (s2 _ _ q)), DF w3 (JG (Paired.imp2 (fun _ _ h=>z.mono ((Xj s2).trans (Xj s3)) h) pr) lo hi) P3'⟩
theorem Fj {ta : TE} {r : Enc α} {m : Res (List α)} (ha : EvB K Er S OO σ ta (rL r) m) : EvB K Er S OO σ (tCB (KK K) (Xx ta ZF)) Xc (m.bind fun as=>.ok (as.length : Int)):=fun H Q w s P=>
  ha.run w s FB.tr P fun a x H1 s1 w1 q1 ⟨p, xs, e, q, pr⟩ P1=>⟨p, xs, by rw [e], .inl q, P1 _ H1 (Xm.refl _) (by rw [Paired.len pr]; rfl)⟩
theorem CY {ta tb : TE} {ma : Res (List Int)} {mb : Res Int} (ha : EvB K Er S OO σ ta (rL Xc) ma) (hb : EvB K Er S OO σ tb Xc mb) : EvB K Er S OO σ (tOp (BE K) ta tb) Xc (ma.bind fun as=>mb.bind fun i=>atR as i):=fun H Q w s P=>
  ha.run w s FB.tr P fun a x H1 s1 w1 q1 ⟨p, xs, e, q, pr⟩ P1=>hb.run w1 q1 FB.tr P1 fun b y H2 s2 w2 q2 r2 P2=>by
    obtain ⟨c, hc, P3⟩:=P2.okOf fun x=>KL
    obtain ⟨u, h1, h2⟩:=JM pr (Fc hc)
    exact ⟨p, xs, b, u, e, r2, s2.seq q, h1, P3 u H2 (Xm.refl _) h2⟩
theorem GG {te : TE} {tl th : TO} {m : Res (List Int)} {ml mh : Res (Option Int)} (he : EvB K Er S OO σ te (rL Xc) m) (hl : EvP Er S OO σ tl ml) (hh : EvP Er S OO σ th mh) :
    Ev K Er S OO OO σ (tSl (EB K) te tl th) (oL (oF Xc)) (m.bind fun as=>ml.bind fun lo=>mh.bind fun hi=>.ok (Gu as lo hi)):=fun H Q w s P=>
  he.run w s FO.tr P fun as x H1 s1 w1 q1 ⟨p, xs, e, q, pr⟩ P1=>hl.run w1 q1 FO.tr P1 fun lo H2 s2 w2 q2 P2=>hh.run w2 q2 FO.tr P2 fun hi H3 s3 w3 q3 P3'=>
    ⟨p, xs, e, s3.seq (s2.seq q), DF w3 (JG (Paired.imp2 (fun _ _ h=>h) pr) lo hi) P3'⟩
noncomputable def DS (as bs : List α) : Res (List α):=chk (as.length + bs.length <= sizeLine) (.ok (as ++ bs))
theorem Kb {ta tb : TE} {r : Enc α} [z : MonoE r] {ma mb : Res (List α)} (ha : EvL K Er S OO σ ta r ma) (hb : EvL K Er S OO σ tb r mb) : Ev K Er S OO OO σ (tOp E9 ta tb) (oL (oF r)) (ma.bind fun as=>mb.bind fun bs=>DS as bs):=fun H Q w s P=>
  ha.run w s FO.tr P fun as x H1 s1 w1 q1 ⟨p, xs, e, q, pr⟩ P1=>hb.run w1 q1 FO.tr P1 fun bs y H2 s2 w2 q2 ⟨p', ys, e', q', pr'⟩ P2=>by
    obtain ⟨c, hc, P3⟩:=P2.okOf fun x=>Qs
    obtain ⟨h1, h2⟩:=Zf hc
    cases h2
    exact ⟨p, p', xs, ys, e, e', s2 _ _ q, q', by rw [Paired.len pr, Paired.len pr']; exact h1, DF w2 (Paired.app (Paired.imp2 (fun _ _ h=>z.mono (Xj s2) h) pr) pr') P3⟩
noncomputable def BP (as : List α) (n : Int) : Res (List α):=chk (-(2 ^ 63) <= n /\ n < 2 ^ 63 /\ as.length * n.toNat <= sizeLine) (.ok (List.replicate n.toNat as).flatten)
theorem Dq {ta tb : TE} {r : Enc α} [z : MonoE r] {ma : Res (List α)} {mb : Res Int} (ha : EvL K Er S OO σ ta r ma) (hb : EvB K Er S OO σ tb Xc mb) : Ev K Er S OO OO σ (tOp Hq ta tb) (oL (oF r)) (ma.bind fun as=>mb.bind fun n=>BP as n):=fun H Q w s P=>
  ha.run w s FO.tr P fun as x H1 s1 w1 q1 ⟨p, xs, e, q, pr⟩ P1=>hb.run w1 q1 FO.tr P1 fun n y H2 s2 w2 q2 r2 P2=>by
    obtain ⟨c, hc, P3⟩:=P2.okOf fun x=>Qs
    obtain ⟨⟨h0, h1, h3⟩, h2⟩:=Zf hc
    cases h2
    exact ⟨p, n, xs, e, r2, s2 _ _ q, h0, h1, by rw [Paired.len pr]; exact h3, DF w2 (Paired.rep' (Paired.imp2 (fun _ _ h=>z.mono (Xj s2) h) pr) _) P3⟩
theorem Ci {ta : TE} {r : Enc α} [z : MonoE r] {ma : Res (List α)} (ha : EvL K Er S OO σ ta r ma) : Ev K Er S OO OO σ (tCB (Gx K) (Xx ta ZF)) (oL (oF r)) (ma.bind fun as=>.ok as):=fun H Q w s P=>
  ha.run w s FO.tr P fun as x H1 s1 w1 q1 ⟨p, xs, e, q, pr⟩ P1=>⟨p, xs, by rw [e], .inl (SqL.of q), DF w1 pr P1⟩
noncomputable def Zb (lo hi : Int) : List Int:=(List.range (hi - lo).toNat).map fun (i : Nat)=>lo + (i : Int)
theorem QF {ta : TE} {ma : Res Int} (ha : EvB K Er S OO σ ta Xc ma) : Ev K Er S OO OO σ (UW (Xx ta ZF)) (oL (oF Xc)) (ma.bind fun n=>chk (0 <= n /\ n <= 1000) (.ok (Zb 0 n))):=fun H Q w s P=>
  ha.run w s FO.tr P fun n x H1 s1 w1 q1 r1 P1=>by
    obtain ⟨c, hc, P3⟩:=P1.okOf fun x=>Qs
    obtain ⟨⟨h0, h1⟩, h2⟩:=Zf hc
    cases h2
    refine ⟨n, by rw [show x = .int n from r1], h0, h1, DF w1 ?_ P3⟩
    unfold Zb
    rw [Int.sub_zero]
    have : ∀ l : List Nat, Paired (Xc K (hid H1 OO)) (l.map fun (i : Nat)=>V.int (i : Int)) (l.map fun (i : Nat)=>(0 : Int) + (i : Int)):=fun l=>by
      induction l with
      | nil=>exact .nil
      | cons a l ih=>exact .cons (by show V.int (a : Int) = V.int (0 + (a : Int)); rw [Int.zero_add]) ih
    exact this _
theorem VE {o : OE α} : Ev K Er S OO OO σ (Fk ZF) (oL o) (.ok []):=fun H Q w s P=>⟨Nat.zero_le _, fun p hp=>P (.ref p) [(p, .lst [])] _ (XZ hp _) (w.new hp rfl) (Ug hp) ⟨p, [], [], rfl, .nil, rfl⟩⟩
noncomputable def FA {α : Type} (K : PySem.W.Frag) (OO : List (List Xu)) (r : Enc α) (Q : List V -> Hp -> Prop) (as : List α) (H : Hp) : Prop:=∀ vs H', Xm H H' -> Paired (r K (hid H' OO)) vs as -> Q vs H'
noncomputable def EvA {α : Type} (K : PySem.W.Frag) (Er : Exc -> Hp -> Prop) (S : SC) (OO : List (List Xu)) (σ : St) (t : TA) (r : Enc α) (m : Res (List α)) : Prop:=∀ H Q, W OO H -> S.p (hid H OO) -> PZ Er (FA K OO r Q) H m -> t σ H Q
theorem Zg {r : Enc α} : EvA K Er S OO σ ZF r (.ok []):=fun H Q w s P=>P [] H (Xm.refl _) .nil
theorem XA {te : TE} {t : TA} {r : Enc α} [z : MonoE r] {m : Res α} {n : Res (List α)} (he : EvS K Er S OO σ te r m) (ht : EvA K Er S OO σ t r n) : EvA K Er S OO σ (Xx te t) r (m.bind fun a=>n.bind fun as=>.ok (a :: as)):=fun H Q w s P=>
  he.run w s (fun b H H' s h vs H2 s2 p=>h vs H2 (s.trans s2) p) P fun a x H1 s1 w1 q1 r1 P1=>by
    refine ht H1 _ w1 q1 ?_
    cases e : n with
    | bad=>rw [e] at P1; exact P1
    | err x=>rw [e] at P1; exact P1
    | ok as=>rw [e] at P1; exact fun vs H2 s2 p=>P1 (x :: vs) H2 s2 (.cons (z.mono (Xj s2) r1) p)
theorem Z3 {t : TA} {r : Enc α} [z : MonoE r] {m : Res (List α)} (h : EvA K Er S OO σ t r m) : Ev K Er S OO OO σ (Fk t) (oL (oF r)) (m.bind fun as=>chk (as.length <= sizeLine) (.ok as)):=fun H Q w s P=>by
  refine h H _ w s ?_
  cases e : m with
  | bad=>rw [e] at P; exact P
  | err x=>rw [e] at P; exact P
  | ok as=>
    rw [e] at P
    intro vs H1 s1 p
    obtain ⟨c, hc, P3⟩:=PZ.okOf (fun x=>Qs) (show PZ Er _ H (chk (as.length <= sizeLine) (.ok as)) from P)
    obtain ⟨h1, h2⟩:=Zf hc
    cases h2
    exact ⟨by rw [Paired.len p]; exact h1, DF (w.keep s1) p (FO.tr _ _ _ s1 P3)⟩
theorem UQ {ta tb : TE} {r : Enc α} {q : Enc β} [z : MonoE r] [y : MonoE q] {ma : Res α} {mb : Res β} (ha : EvS K Er S OO σ ta r ma) (hb : EvS K Er S OO σ tb q mb) : EvS K Er S OO σ (E6 (Xx ta (Xx tb ZF))) (rP2 r q) (ma.bind fun a=>mb.bind fun b=>.ok (a, b)):=fun H Q w s P=>
  ha.run w s FS.tr P fun a x H1 s1 w1 q1 r1 P1=>hb.run w1 q1 FS.tr P1 fun b y' H2 s2 w2 q2 r2 P2=>
    ⟨by show 2 <= sizeLine; decide, fun p hp=>P2 _ _ (XZ hp _) ⟨p, x, y', rfl, Vk w2 hp, z.mono ((Xj s2).trans (Xj (XZ hp _))) r1, y.mono (Xj (XZ hp _)) r2⟩⟩
end
end L2
namespace L2
open PySem PySem.Spec PyProof.Rows
section
variable {K : PySem.W.Frag} {Er : Exc -> Hp -> Prop} {S : SC} {OO OO' OO2 : List (List Xu)} {σ : St} {α β γ ρ ι : Type} {α1 α2 α3 α4 α5 α6 : Type}
noncomputable def noE (m : Res α) : Res α:=match m with
  | .ok a=>.ok a
  | _=>.bad
theorem JT {m : Res α} {a : α} (h : noE m = .ok a) : m = .ok a:=by
  cases m with
  | ok b=>exact h
  | bad=>cases h
  | err x=>cases h
theorem JP {m : Res α} {x : Exc} : noE m ≠ .err x:=by cases m <;> exact fun z=>nomatch z
noncomputable def FF (K : PySem.W.Frag) (o : OE α) (Q : VK) (a : α) (H : Hp) : Prop:=∀ v C H', W [C] H' -> Xm H (hid H' [C]) -> o K (hid H' [C]) v a C -> Q v H'
noncomputable def sp1 (r1 : Enc α1) (o : OE ρ) (f : α1 -> Res ρ) (K : PySem.W.Frag) : Sp:=fun vs H Q _=>∃ v1 a1 b, vs = [v1] /\ r1 K H v1 a1 /\ f a1 = .ok b /\ FF K o Q b H
noncomputable def sp2 (r1 : Enc α1) (r2 : Enc α2) (o : OE ρ) (f : α1 -> α2 -> Res ρ) (K : PySem.W.Frag) : Sp:=fun vs H Q _=>∃ v1 v2 a1 a2 b, vs = [v1, v2] /\ r1 K H v1 a1 /\ r2 K H v2 a2 /\ f a1 a2 = .ok b /\ FF K o Q b H
noncomputable def sp3 (r1 : Enc α1) (r2 : Enc α2) (r3 : Enc α3) (o : OE ρ) (f : α1 -> α2 -> α3 -> Res ρ) (K : PySem.W.Frag) : Sp:=fun vs H Q _=>∃ v1 v2 v3 a1 a2 a3 b, vs = [v1, v2, v3] /\ r1 K H v1 a1 /\ r2 K H v2 a2 /\ r3 K H v3 a3 /\ f a1 a2 a3 = .ok b /\ FF K o Q b H
noncomputable def sp5 (r1 : Enc α1) (r2 : Enc α2) (r3 : Enc α3) (r4 : Enc α4) (r5 : Enc α5) (o : OE ρ) (f : α1 -> α2 -> α3 -> α4 -> α5 -> Res ρ) (K : PySem.W.Frag) : Sp:=fun vs H Q _=>∃ v1 v2 v3 v4 v5 a1 a2 a3 a4 a5 b, vs = [v1, v2, v3, v4, v5] /\ r1 K H v1 a1 /\ r2 K H v2 a2 /\ r3 K H v3 a3 /\ r4 K H v4 a4 /\ r5 K H v5 a5 /\ f a1 a2 a3 a4 a5 = .ok b /\ FF K o Q b H
theorem Et {C : List Xu} {H H' : Hp} (w : W OO H) (w' : W [C] H') (m' : Xm H (hid H' [C])) : W (C :: OO) H' /\ Xm (hid H OO) (hid H' (C :: OO)) /\ Vc (hid H' [C]) (hid H' (C :: OO)):=by
  have s : Xm H H':=m'.trans XC
  have f1 : fl [C] = C.map (·.1):=by simp [fl]
  have hd : ∀ b, b ∈ fl OO -> b ∉ C.map (·.1):=fun b hb hc=>by
    obtain ⟨u, hu⟩:=KF hb
    exact (X5 (m' _ _ (w.tr _ hu))).2 (by rw [f1]; exact hc)
  have w2 : W (C :: OO) H':=by
    refine ⟨fun c hc=>?_, ?_, fun c hc=>?_⟩
    . rw [List.flatten_cons, List.mem_append] at hc
      rcases hc with hc | hc
      . exact w'.tr c (by simp [hc])
      . exact s _ _ (w.tr c hc)
    . rw [XQ]
      refine List.nodup_append.mpr ⟨by rw [← f1]; exact w'.nd, w.nd, fun a ha b hb e=>?_⟩
      subst e; exact hd a hb ha
    . rw [List.flatten_cons, List.mem_append] at hc
      rcases hc with hc | hc
      . exact w'.mu c (by simp [hc])
      . exact w.mu c hc
  refine ⟨w2, fun b u q=>?_, fun b u q i=>?_⟩
  . obtain ⟨q1, q2⟩ := X5 q
    obtain ⟨q3, q4⟩:=X5 (m' _ _ q1)
    refine YO q3 ?_
    rw [XQ, List.mem_append]
    exact fun z=>z.elim (fun z=>q4 (by rw [f1]; exact z)) q2
  . exact w2.i b u (X5 q).1 i
theorem Vl {o : OE α} [z : FlatO o] {Q : VK} {b : α} {H : Hp} (w : W OO H) (P : FO K OO OO o Q b H) : FF K o Q b H:=fun v C H' w' m' ho=>by
  obtain ⟨w2, h2, h3⟩:=Et w w' m'
  exact P v C H' (m'.trans XC) w2 h2 (z.flat h3 ho)
theorem Yd {ta : TE} {r1 : Enc α1} {o : OE ρ} [FlatO o] {f : α1 -> Res ρ} {ma : Res α1} (ha : EvB K Er S OO σ ta r1 ma) : Ev K Er S OO OO σ (JZ (sp1 r1 o f K) [] E0 (Xx ta ZF)) o (ma.bind fun a=>noE (f a)):=fun H Q w s P=>
  ha.run w s FO.tr P fun a x H1 s1 w1 q1 r1 P1=>by
    obtain ⟨b, hb, P2⟩:=P1.okOf fun x=>JP
    exact ⟨x, a, b, rfl, r1, JT hb, Vl w1 P2⟩
theorem Yp {ta tb : TE} {r1 : Enc α1} {r2 : Enc α2} [z1 : MonoE r1] {o : OE ρ} [FlatO o] {f : α1 -> α2 -> Res ρ} {ma : Res α1} {mb : Res α2} (ha : EvB K Er S OO σ ta r1 ma) (hb : EvB K Er S OO σ tb r2 mb) :
    Ev K Er S OO OO σ (JZ (sp2 r1 r2 o f K) [] E0 (Xx ta (Xx tb ZF))) o (ma.bind fun a=>mb.bind fun b=>noE (f a b)):=fun H Q w s P=>
  ha.run w s FO.tr P fun a x H1 s1 w1 q1 r1 P1=>hb.run w1 q1 FO.tr P1 fun b y H2 s2 w2 q2 r2 P2=>by
    obtain ⟨c, hc, P3⟩:=P2.okOf fun x=>JP
    exact ⟨x, y, a, b, c, rfl, z1.mono s2 r1, r2, JT hc, Vl w2 P3⟩
theorem QU {ta tb tc : TE} {r1 : Enc α1} {r2 : Enc α2} {r3 : Enc α3} [z1 : MonoE r1] [z2 : MonoE r2] {o : OE ρ} [FlatO o] {f : α1 -> α2 -> α3 -> Res ρ} {ma : Res α1} {mb : Res α2} {mc : Res α3} (ha : EvB K Er S OO σ ta r1 ma) (hb : EvB K Er S OO σ tb r2 mb) (hc : EvB K Er S OO σ tc r3 mc) :
    Ev K Er S OO OO σ (JZ (sp3 r1 r2 r3 o f K) [] E0 (Xx ta (Xx tb (Xx tc ZF)))) o (ma.bind fun a=>mb.bind fun b=>mc.bind fun c=>noE (f a b c)):=fun H Q w s P=>
  ha.run w s FO.tr P fun a x H1 s1 w1 q1 r1 P1=>hb.run w1 q1 FO.tr P1 fun b y H2 s2 w2 q2 r2 P2=>hc.run w2 q2 FO.tr P2 fun c z H3 s3 w3 q3 r3 P3=>by
    obtain ⟨d, hd, P4⟩:=P3.okOf fun x=>JP
    exact ⟨x, y, z, a, b, c, d, rfl, z1.mono (s2.trans s3) r1, z2.mono s3 r2, r3, JT hd, Vl w3 P4⟩
theorem Dd {ta tb tc td te : TE} {r1 : Enc α1} {r2 : Enc α2} {r3 : Enc α3} {r4 : Enc α4} {r5 : Enc α5} [z1 : MonoE r1] [z2 : MonoE r2] [z3 : MonoE r3] [z4 : MonoE r4] {o : OE ρ} [FlatO o] {f : α1 -> α2 -> α3 -> α4 -> α5 -> Res ρ} {ma : Res α1} {mb : Res α2} {mc : Res α3} {md : Res α4} {me : Res α5} (ha : EvB K Er S OO σ ta r1 ma) (hb : EvB K Er S OO σ tb r2 mb) (hc : EvB K Er S OO σ tc r3 mc) (hd : EvB K Er S OO σ td r4 md) (he : EvB K Er S OO σ te r5 me) :
    Ev K Er S OO OO σ (JZ (sp5 r1 r2 r3 r4 r5 o f K) [] E0 (Xx ta (Xx tb (Xx tc (Xx td (Xx te ZF)))))) o (ma.bind fun a=>mb.bind fun b=>mc.bind fun c=>md.bind fun d=>me.bind fun e=>noE (f a b c d e)):=fun H Q w s P=>
  ha.run w s FO.tr P fun a x H1 s1 w1 q1 r1 P1=>hb.run w1 q1 FO.tr P1 fun b y H2 s2 w2 q2 r2 P2=>hc.run w2 q2 FO.tr P2 fun c z H3 s3 w3 q3 r3 P3=>hd.run w3 q3 FO.tr P3 fun d u H4 s4 w4 q4 r4 P4=>he.run w4 q4 FO.tr P4 fun e t H5 s5 w5 q5 r5 P5=>by
    obtain ⟨g, hg, P6⟩:=P5.okOf fun x=>JP
    exact ⟨x, y, z, u, t, a, b, c, d, e, g, rfl, z1.mono (s2.trans (s3.trans (s4.trans s5))) r1, z2.mono (s3.trans (s4.trans s5)) r2, z3.mono (s4.trans s5) r3, z4.mono s5 r4, r5, JT hg, Vl w5 P6⟩
structure Jn (γ ι : Type) where
  oo : ι -> List (List Xu)
  ss : ι -> St
  sc : γ -> ι -> SC
inductive Ctl (ρ γ : Type) where
  | ret (r : ρ) | nx (g : γ)
noncomputable def FTd (K : PySem.W.Frag) (o : OE ρ) (D : Ends) (r : ρ) (h : Hp) : Prop:=∀ v C OO' H', W (C :: OO') H' -> Xm h (hid H' (C :: OO')) -> o K (hid H' (C :: OO')) v r C -> D.rt v H'
noncomputable def FNd (J : Jn γ ι) (D : Ends) (g : γ) (h : Hp) : Prop:=∀ x H', W (J.oo x) H' -> Xm h (hid H' (J.oo x)) -> (J.sc g x).p (hid H' (J.oo x)) -> D.nx (J.ss x) H'
noncomputable def FCd (K : PySem.W.Frag) (o : OE ρ) (J : Jn γ ι) (D : Ends) (c : Ctl ρ γ) (h : Hp) : Prop:=match c with
  | .ret r=>FTd K o D r h
  | .nx g=>FNd J D g h
class FdOk (Fd : Ends -> β -> Hp -> Prop) : Prop where
  tr : ∀ D b h h', Xm h h' -> Fd D b h -> Fd D b h'
instance {o : OE ρ} : FdOk (FTd K o):=⟨fun D b h h' s q v C O H' w m x=>q v C O H' w (s.trans m) x⟩
instance {J : Jn γ ι} : FdOk (FNd J):=⟨fun D b h h' s q x H' w m y=>q x H' w (s.trans m) y⟩
instance {o : OE ρ} {J : Jn γ ι} : FdOk (FCd K o J):=⟨fun D b h h' s q=>by
  cases b with
  | ret r=>exact fun v C O H' w m x=>q v C O H' w (s.trans m) x
  | nx g=>exact fun x H' w m y=>q x H' w (s.trans m) y⟩
theorem PZ.tr {F : β -> Hp -> Prop} (hF : ∀ b H H', Xm H H' -> F b H -> F b H') {H H' : Hp} {m : Res β} (s : Xm H H') (P : PZ Er F H m) : PZ Er F H' m:=by
  cases m with
  | bad=>exact P
  | err x=>exact fun H2 s2=>P H2 (s.trans s2)
  | ok b=>exact hF b H H' s P
noncomputable def Sv (Er : Exc -> Hp -> Prop) (S : SC) (OO : List (List Xu)) (σ : St) (t : TS) (Fd : Ends -> β -> Hp -> Prop) (m : Res β) : Prop:=∀ H D, W OO H -> S.p (hid H OO) -> PZ Er (Fd D) (hid H OO) m -> t D σ H
variable {Fd : Ends -> β -> Hp -> Prop} [fd : FdOk Fd] {u : TS}
theorem Ev.st {te : TE} {o : OE α} {m : Res α} (he : Ev K Er S OO OO' σ te o m) {H : Hp} {D : Ends} {Q : VK} (w : W OO H) (s : S.p (hid H OO)) {f : α -> Res β} (P : PZ Er (Fd D) (hid H OO) (m.bind f))
    (hk : ∀ a v C H', W (C :: OO') H' -> S.p (hid H' (C :: OO')) -> o K (hid H' (C :: OO')) v a C -> PZ Er (Fd D) (hid H' (C :: OO')) (f a) -> Q v H') : te σ H Q:=by
  refine he H Q w s ?_
  cases m with
  | bad=>exact P
  | err x=>exact fun H' s'=>P H' (XC.trans s')
  | ok a=>exact fun v C H' s' w' m' ho=>hk a v C H' w' (S.mono _ _ m' s) ho (PZ.tr (fd.tr D) m' P)
theorem EvB.st {te : TE} {r : Enc α} {m : Res α} (he : EvB K Er S OO σ te r m) {H : Hp} {D : Ends} {Q : VK} (w : W OO H) (s : S.p (hid H OO)) {f : α -> Res β} (P : PZ Er (Fd D) (hid H OO) (m.bind f))
    (hk : ∀ a v H', Xm H H' -> W OO H' -> S.p (hid H' OO) -> r K H' v a -> PZ Er (Fd D) (hid H' OO) (f a) -> Q v H') : te σ H Q:=by
  refine he H Q w s ?_
  cases m with
  | bad=>exact P
  | err x=>exact fun H' s'=>P H' (XC.trans s')
  | ok a=>exact fun v H' s' hr=>hk a v H' s' (w.keep s') (S.mono _ _ (Xj s') s) hr (PZ.tr (fd.tr D) (Xj s') P)
theorem EvS.st {te : TE} {r : Enc α} {m : Res α} (he : EvS K Er S OO σ te r m) {H : Hp} {D : Ends} {Q : VK} (w : W OO H) (s : S.p (hid H OO)) {f : α -> Res β} (P : PZ Er (Fd D) (hid H OO) (m.bind f))
    (hk : ∀ a v H', Xm H H' -> W OO H' -> S.p (hid H' OO) -> r K (hid H' OO) v a -> PZ Er (Fd D) (hid H' OO) (f a) -> Q v H') : te σ H Q:=by
  refine he H Q w s ?_
  cases m with
  | bad=>exact P
  | err x=>exact fun H' s'=>P H' (XC.trans s')
  | ok a=>exact fun v H' s' hr=>hk a v H' s' (w.keep s') (S.mono _ _ (Xj s') s) hr (PZ.tr (fd.tr D) (Xj s') P)
theorem EvT.st {tt : TT} {m : Res Bool} (he : EvT Er S OO σ tt m) {H : Hp} {D : Ends} {Q : Bool -> Hp -> Prop} (w : W OO H) (s : S.p (hid H OO)) {f : Bool -> Res β} (P : PZ Er (Fd D) (hid H OO) (m.bind f))
    (hk : ∀ b H', W OO H' -> S.p (hid H' OO) -> PZ Er (Fd D) (hid H' OO) (f b) -> Q b H') : tt σ H Q:=by
  refine he H Q w s ?_
  cases m with
  | bad=>exact P
  | err x=>exact fun H' s'=>P H' (XC.trans s')
  | ok a=>exact fun H' s'=>hk a H' (w.keep s') (S.mono _ _ (Xj s') s) (PZ.tr (fd.tr D) (Xj s') P)
theorem set_set {OO : List (List Xu)} {k : Nat} {C : List Xu} : (OO.set k C).set k [] = OO.set k []:=by simp
theorem Hk {C : List Xu} {H : Hp} {k : Nat} (w : W (C :: OO) H) (hk : k < OO.length) : W (OO.set k C) H /\ Xm (hid H (C :: OO)) (hid H (OO.set k C)):=by
  have h1:=XF (OO:=OO) (k:=k) (C:=OO[k]) (by simp [hk])
  have h2:=XF (OO:=OO.set k C) (k:=k) (C:=C) (by simp [hk])
  rw [set_set] at h2
  have h3 : (OO.set k C).flatten.Perm (C ++ (OO.set k []).flatten):=by simpa using h2.symm
  have h4 : (C :: OO).flatten.Perm (C ++ (OO[k] ++ (OO.set k []).flatten)):=by
    rw [List.flatten_cons]; exact (by simpa using h1.symm : OO.flatten.Perm (OO[k] ++ (OO.set k []).flatten)).append_left C
  have h5 : (C ++ (OO.set k []).flatten).Sublist (C ++ (OO[k] ++ (OO.set k []).flatten)):=List.Sublist.append (List.Sublist.refl _) (List.sublist_append_right _ _)
  have w1 : W [C ++ (OO[k] ++ (OO.set k []).flatten)] H:=w.of (by simpa using h4.symm)
  have w2 : W [C ++ (OO.set k []).flatten] H:=w1.sub (by simpa using h5)
  refine ⟨w2.of (by simpa using h3), Zi (Xm.refl _) fun b hb=>?_⟩
  obtain ⟨o, ho⟩:=KF hb
  exact Q0 (h4.mem_iff.mpr (h5.mem (h3.mem_iff.mp ho)))
theorem Yi {te : TE} {o : OE α} [MonoO o] {m : Res α} {f : α -> Res β} (i k : Nat) (he : Ev K Er S OO OO' σ te o m) (hk : k < OO'.length) (hr : ∀ a v C, Sv Er (S.addO K o v a C) (OO'.set k C) (σ.set i (some v)) u Fd (f a)) : Sv Er S OO σ (ZE (Bh te (ZW i)) u) Fd (m.bind f):=fun H D w s P=>
  he.st w s P fun a v C H' w' s' ho P'=>by
    obtain ⟨w2, h2⟩:=Hk w' hk
    exact hr a v C H' D w2 ⟨S.mono _ _ h2 s', MonoO.mono h2 ho⟩ (PZ.tr (fd.tr D) h2 P')
theorem Ya {te : TE} {r : Enc α} [MonoE r] {m : Res α} {f : α -> Res β} (i : Nat) (he : EvS K Er S OO σ te r m) (hr : ∀ a v, Sv Er (S.add K r v a) OO (σ.set i (some v)) u Fd (f a)) : Sv Er S OO σ (ZE (Bh te (ZW i)) u) Fd (m.bind f):=fun H D w s P=>
  he.st w s P fun a v H' s1 w' s' ho P'=>hr a v H' D w' ⟨s', ho⟩ P'
theorem Xv {te : TE} {o : OE ρ} {m : Res ρ} (he : Ev K Er S OO OO' σ te o m) : Sv Er S OO σ (ZE (Bj te) u) (FTd K o) m:=fun H D w s P=>
  he H _ w s (by
    cases m with
    | bad=>exact P
    | err x=>exact fun H' s'=>P H' (XC.trans s')
    | ok a=>exact fun v C H' s' w' m' ho=>P v C OO' H' w' m' ho)
theorem Za {J : Jn γ ι} {t : TS} {o : OE ρ} {m : Res γ} (h : Sv Er S OO σ t (FNd J) m) : Sv Er S OO σ t (FCd K o J) (m.bind fun r=>.ok (.nx r)):=fun H D w s P=>h H D w s (by
  cases m with
  | bad=>exact P
  | err x=>exact P
  | ok a=>exact P)
theorem XE {J : Jn γ ι} (x : ι) (g : γ) (h1 : OO = J.oo x) (h2 : σ = J.ss x) (h3 : ∀ h, S.p h -> (J.sc g x).p h) : Sv Er S OO σ ZX (FNd J) (.ok g):=fun H D w s P=>by
  subst h1 h2
  exact P x H w (Xm.refl _) (h3 _ s)
theorem ZD {o : OE ρ} {c : TT} {t1 : TS} {mc : Res Bool} {m1 m2 : Res ρ} (hc : EvT Er S OO σ c mc) (h1 : Sv Er S OO σ t1 (FTd K o) m1) (h2 : Sv Er S OO σ u (FTd K o) m2) : Sv Er S OO σ (ZE (Cb c t1 ZX) u) (FTd K o) (mc.bind fun b=>if b = true then m1 else m2):=fun H D w s P=>
  hc.st (Fd:=FTd K o) w s P fun b H' w' s' P'=>by
    cases b with
    | true=>rw [if_pos rfl] at P' ⊢; exact h1 H' _ w' s' P'
    | false=>exact h2 H' D w' s' P'
theorem YZ {o : OE ρ} {J : Jn γ ι} {c : TT} {t1 : TS} {mc : Res Bool} {m1 : Res ρ} {m2 : Res (Ctl ρ γ)} (hc : EvT Er S OO σ c mc) (h1 : Sv Er S OO σ t1 (FTd K o) m1) (h2 : Sv Er S OO σ u (FCd K o J) m2) : Sv Er S OO σ (ZE (Cb c t1 ZX) u) (FCd K o J) (mc.bind fun b=>if b = true then m1.bind (fun r=>.ok (.ret r)) else m2):=fun H D w s P=>
  hc.st (Fd:=FCd K o J) w s P fun b H' w' s' P'=>by
    cases b with
    | true=>
      rw [if_pos rfl] at P' ⊢
      refine h1 H' _ w' s' ?_
      cases m1 with
      | bad=>exact P'
      | err x=>exact P'
      | ok a=>exact P'
    | false=>exact h2 H' D w' s' P'
theorem JN {c : TT} {t1 t2 : TS} {mc : Res Bool} {m1 m2 : Res β} (hc : EvT Er S OO σ c mc) (h1 : Sv Er S OO σ t1 Fd m1) (h2 : Sv Er S OO σ t2 Fd m2) : Sv Er S OO σ (Cb c t1 t2) Fd (mc.bind fun b=>if b = true then m1 else m2):=fun H D w s P=>
  hc.st w s P fun b H' w' s' P'=>by
    cases b with
    | true=>rw [if_pos rfl] at P' ⊢; exact h1 H' _ w' s' P'
    | false=>exact h2 H' D w' s' P'
theorem Qv {J : Jn γ ι} {t : TS} {m : Res γ} {f : γ -> Res β} (hb : Sv Er S OO σ t (FNd J) m) (hr : ∀ g x, Sv Er (J.sc g x) (J.oo x) (J.ss x) u Fd (f g)) : Sv Er S OO σ (ZE t u) Fd (m.bind f):=fun H D w s P=>
  hb H _ w s (by
    cases m with
    | bad=>exact P
    | err x=>exact P
    | ok g=>exact fun x H' w' m' q=>hr g x H' D w' q (PZ.tr (fd.tr D) m' P))
noncomputable def Z4 (f : γ -> Res ρ) : Ctl ρ γ -> Res ρ
  | .ret r=>.ok r
  | .nx g=>f g
noncomputable def Z2 {δ : Type} (f : γ -> Res (Ctl ρ δ)) : Ctl ρ γ -> Res (Ctl ρ δ)
  | .ret r=>.ok (.ret r)
  | .nx g=>f g
theorem Sv.weak {S2 : SC} {t : TS} {m : Res β} (h : Sv Er S2 OO σ t Fd m) (hs : ∀ x, S.p x -> S2.p x) : Sv Er S OO σ t Fd m:=fun H D w s P=>h H D w (hs _ s) P
theorem En {t : TS} {o : OE α} {r : Enc α} [z : FrzC o r] [MonoE r] {v : V} {a : α} {C : List Xu} {m : Res β} (k : Nat) (hk : OO[k]? = some C) (h : ∀ x, S.p x -> o K x v a C) (hr : Sv Er (S.add K r v a) (OO.set k []) σ t Fd m) : Sv Er S OO σ t Fd m:=fun H D w s P=>by
  have hp:=XF hk
  have w1 : W (C :: OO.set k []) H:=w.of hp
  have hs : Xm (hid H OO) (hid H (OO.set k [])):=by
    rw [← XG hp]
    exact Zi (Xm.refl _) fun b hb=>by rw [XQ]; simp [hb]
  refine hr H D w1.tail ⟨S.mono _ _ hs s, z.frz (h _ s) hs fun c hc=>YO (w1.cell c hc) ?_⟩ (PZ.tr (fd.tr D) hs P)
  have:=w1.nd
  rw [XQ] at this
  exact fun hb=>(List.nodup_append.mp this).2.2 c.1 (List.mem_map.mpr ⟨c, hc, rfl⟩) c.1 hb rfl
theorem Ht {C D C' : List Xu} {H : Hp} {k : Nat} {p : Addr} {o : HO} (w : W (D :: OO) H) (hk : OO[k]? = some C) (hp : p ∈ C.map (·.1)) (hC : (C'.map (·.1)).Perm ((C ++ D).map (·.1))) (ht : ∀ c ∈ C', upd H p o c.1 = some c.2) (hm : ∀ c ∈ C', Bk c.2 = true) :
    W (OO.set k C') (upd H p o) /\ hid (upd H p o) (OO.set k C') = hid H (D :: OO):=by
  have hlt : k < OO.length:=by
    rcases Nat.lt_or_ge k OO.length with h | h
    . exact h
    . rw [List.getElem?_eq_none h] at hk; cases hk
  have h1:=XF hk
  have h2:=XF (OO:=OO.set k C') (k:=k) (C:=C') (by simp [hlt])
  rw [set_set] at h2
  have h3 : (OO.set k C').flatten.Perm (C' ++ (OO.set k []).flatten):=by simpa using h2.symm
  have h4 : (D :: OO).flatten.Perm (D ++ (C ++ (OO.set k []).flatten)):=by
    rw [List.flatten_cons]; exact (by simpa using h1.symm : OO.flatten.Perm (C ++ (OO.set k []).flatten)).append_left D
  have hfl : (fl (OO.set k C')).Perm (fl (D :: OO)):=by
    unfold fl
    refine (h3.map _).trans (List.Perm.trans ?_ (h4.map _).symm)
    simp only [List.map_append]
    refine (hC.append_right _).trans ?_
    simp only [List.map_append]
    rw [← List.append_assoc]
    exact List.perm_append_comm.append_right _
  have nd:=w.nd
  refine ⟨⟨fun c hc=>?_, hfl.nodup_iff.mpr nd, fun c hc=>?_⟩, ?_⟩
  . rcases List.mem_append.mp (h3.mem_iff.mp hc) with hc | hc
    . exact ht c hc
    . have hne : c.1 ≠ p:=fun e=>by
        have nd2 : ((D ++ (C ++ (OO.set k []).flatten)).map (·.1)).Nodup:=(h4.map _).nodup_iff.mp nd
        simp only [List.map_append] at nd2
        have nd3:=(List.nodup_append.mp nd2).2.1
        exact (List.nodup_append.mp nd3).2.2 p hp c.1 (List.mem_map.mpr ⟨c, hc, rfl⟩) e.symm
      rw [XB hne]
      exact w.tr c (h4.mem_iff.mpr (by simp [hc]))
  . rcases List.mem_append.mp (h3.mem_iff.mp hc) with hc | hc
    . exact hm c hc
    . exact w.mu c (h4.mem_iff.mpr (by simp [hc]))
  . funext b
    unfold hid
    by_cases hb : b ∈ fl (D :: OO)
    . rw [if_pos hb, if_pos (hfl.mem_iff.mpr hb)]
    . rw [if_neg hb, if_neg fun z => hb (hfl.mem_iff.mp z)]
      refine XB fun e=>hb ?_
      rw [e]
      obtain ⟨c, hc, rfl⟩:=List.mem_map.mp hp
      exact Q0 (h4.mem_iff.mpr (by simp [hc]))
theorem Zo {Cs : List (List Xu)} {D : List Xu} : (Cs ++ [D]).flatten = Cs.flatten ++ D:=by simp
theorem JH {ta : TE} {o : OE α} [MonoO o] {m : Res α} {f : List α -> Res β} {v : V} {as : List α} {C : List Xu} (i k : Nat) (hσ : σ[i]? = some (some v)) (hk : OO[k]? = some C) (hk' : OO'[k]? = some C) (h : ∀ x, S.p x -> oL o K x v as C) (he : Ev K Er S OO OO' σ ta o m)
    (hr : ∀ a C', Sv Er (S.addO K (oL o) v (as ++ [a]) C') (OO'.set k C') σ u Fd (f (as ++ [a]))) : Sv Er S OO σ (ZE (VA (tBM K "list" Q5 (QY i) (Xx ta ZF))) u) Fd (m.bind fun a=>chk (as.length < sizeLine) (f (as ++ [a]))):=fun H D w s P=>by
  obtain ⟨p, xs, Cs, e, q, c⟩:=h _ s
  subst c
  have hH : H p = some (.lst xs):=w.tr (p, .lst xs) (List.mem_flatten.mpr ⟨_, List.mem_of_getElem? hk, List.mem_cons_self⟩)
  refine ⟨v, hσ, by rw [e]; exact .inl ⟨rfl, _, SqL.of hH⟩, he.st w s P fun a y D' H' w' s' ho P'=>?_⟩
  obtain ⟨p', xs', Cs', e2, q2, c2⟩:=h _ s'
  rw [e] at e2; cases e2
  have c3 : (p, HO.lst xs) = (p, HO.lst xs') /\ Cs.flatten = Cs'.flatten:=by
    injection c2 with h1 h2
    exact ⟨h1, h2⟩
  obtain ⟨c3, c4⟩:=c3
  cases c3
  have hH' : H' p = some (.lst xs):=w'.tr (p, .lst xs) (by rw [List.flatten_cons]; exact List.mem_append_right _ (List.mem_flatten.mpr ⟨_, List.mem_of_getElem? hk', List.mem_cons_self⟩))
  cases hlt : decide (as.length < sizeLine) with
  | false=>rw [chk, if_neg (by simpa using hlt)] at P'; exact P'.elim
  | true=>
    have hlt' : as.length < sizeLine:=by simpa using hlt
    rw [X3 hlt'] at P'
    have wnd:=w'.nd
    have hcell : ∀ c ∈ (p, HO.lst (xs ++ [y])) :: (Cs' ++ [D']).flatten, upd H' p (.lst (xs ++ [y])) c.1 = some c.2:=fun c hc=>by
      rcases List.mem_cons.mp hc with rfl | hc
      . exact Yt
      . have hp1 := XF hk'
        have w3 : W [D' ++ (((p, HO.lst xs) :: Cs.flatten) ++ (OO'.set k []).flatten)] H':=w'.of (by
          simp only [List.flatten_cons, List.flatten_nil, List.append_nil]
          exact (by simpa using hp1 : (((p, HO.lst xs) :: Cs.flatten) ++ (OO'.set k []).flatten).Perm OO'.flatten).append_left D')
        have hin : c ∈ D' ++ (((p, HO.lst xs) :: Cs.flatten) ++ (OO'.set k []).flatten):=by
          rw [Zo, List.mem_append] at hc
          rcases hc with hc | hc
          . rw [← c4] at hc; simp [hc]
          . simp [hc]
        have hne : c.1 ≠ p:=fun ee=>by
          have nd3:=w3.nd
          rw [Zo, List.mem_append, ← c4] at hc
          simp only [fl, List.flatten_cons, List.flatten_nil, List.append_nil, List.map_append, List.cons_append, List.map_cons] at nd3
          rw [List.nodup_append] at nd3
          obtain ⟨_, n2, n3⟩:=nd3
          rcases hc with hc | hc
          . exact (List.nodup_cons.mp n2).1 (List.mem_append_left _ (List.mem_map.mpr ⟨c, hc, ee⟩))
          . exact n3 c.1 (List.mem_map.mpr ⟨c, hc, rfl⟩) p List.mem_cons_self ee
        rw [XB hne]
        exact w3.tr c (by simpa using hin)
    obtain ⟨w4, h4⟩:=Ht (C':=(p, .lst (xs ++ [y])) :: (Cs' ++ [D']).flatten) w' hk' List.mem_cons_self (by simp [Zo, c4]) hcell (fun c hc=>by
      rcases List.mem_cons.mp hc with rfl | hc
      . rfl
      . rw [Zo, List.mem_append, ← c4] at hc
        rcases hc with hc | hc
        . exact w'.mu c (by rw [List.flatten_cons]; exact List.mem_append_right _ (List.mem_flatten.mpr ⟨_, List.mem_of_getElem? hk', List.mem_cons_of_mem _ hc⟩))
        . exact w'.mu c (by rw [List.flatten_cons]; exact List.mem_append_left _ hc))
    refine ⟨p, xs, y, e, rfl, hH', by rw [(P3.len q).1]; exact hlt', ?_⟩
    refine hr a _ _ D w4 ?_ (by rw [h4]; exact P')
    rw [h4]
    exact ⟨s', ⟨p, xs ++ [y], Cs' ++ [D'], e, q2.snoc ho, rfl⟩⟩
end
end L2
namespace L2
open PySem PySem.Spec PyProof.Rows
section
variable {K : PySem.W.Frag} {Er : Exc -> Hp -> Prop} {S : SC} {OO OO' OO2 : List (List Xu)} {σ : St} {α β γ ρ ι δ ε : Type}
variable {Fd : Ends -> β -> Hp -> Prop} [fd : FdOk Fd] {u : TS}
noncomputable def forN : List α -> γ -> (γ -> α -> Res γ) -> Res γ
  | [], g, _=>.ok g
  | a :: as, g, f=>(f g a).bind fun g'=>forN as g' f
noncomputable def forC : List α -> γ -> (γ -> α -> Res (Ctl ρ γ)) -> Res (Ctl ρ γ)
  | [], g, _=>.ok (.nx g)
  | a :: as, g, f=>(f g a).bind fun c=>match c with
    | .ret r=>.ok (.ret r)
    | .nx g'=>forC as g' f
theorem XN {m : Res α} {f : α -> Res β} {g : β -> Res γ} : (m.bind f).bind g = m.bind fun a=>(f a).bind g:=by cases m <;> rfl
structure Tgt (K : PySem.W.Frag) (OO : List (List Xu)) (g : TG) (r : Enc α) (κ : Type) where
  set : κ -> St -> St
  sc : α -> κ -> SC -> SC
  ok : ∀ {H : Hp} {v : V} {a : α} {σ : St} {S : SC} {Q : St -> Hp -> Prop}, r K (hid H OO) v a -> S.p (hid H OO) -> (∀ x, (sc a x S).p (hid H OO) -> Q (set x σ) H) -> g v σ H Q
noncomputable def tg1 {r : Enc α} [MonoE r] (i : Nat) : Tgt K OO (ZW i) r V where
  set:=fun v σ=>σ.set i (some v)
  sc:=fun a v S=>S.add K r v a
  ok:=fun {H v a σ S Q} hr hs hq=>hq v ⟨hs, hr⟩
noncomputable def tg2 {r : Enc α} {q : Enc β} [MonoE r] [MonoE q] (i j : Nat) : Tgt K OO (Hj K 2 (Bc (ZW i) (Bc (ZW j) Hc))) (rP2 r q) (V × V) where
  set:=fun v σ=>(σ.set i (some v.1)).set j (some v.2)
  sc:=fun a v S=>(S.add K r v.1 a.1).add K q v.2 a.2
  ok:=fun {H v a σ S Q} ⟨p, x, y, e, h, h1, h2⟩ hs hq=>⟨p, _, e, SqT.of (XC _ _ h), rfl, x, [y], rfl, y, [], rfl, rfl, hq (x, y) ⟨⟨hs, h1⟩, h2⟩⟩
structure Walk (K : PySem.W.Frag) (Er : Exc -> Hp -> Prop) (S : SC) (OO : List (List Xu)) (σ : St) (wi : TI) (r : Enc α) (m : Res (List α)) : Prop where
  ok : ∀ {H : Hp} {R : It -> Hp -> Prop}, W OO H -> S.p (hid H OO) -> PZ Er (fun as H=>∀ J H', Xm H H' ->
      (∀ (i : Nat) a, as[i]? = some a -> ∀ OO2 H2, W OO2 H2 -> Xm (hid H' OO) (hid H2 OO2) -> J.go i H2 /\ ∀ x H3, J.yld i H2 x H3 -> Xm H2 H3 /\ r K (hid H3 OO2) x a) ->
      (∀ OO2 H2, W OO2 H2 -> Xm (hid H' OO) (hid H2 OO2) -> J.stop as.length H2) -> R J H') H m -> wi σ H R
theorem X9 {te : TE} {r : Enc α} [z : MonoE r] {m : Res (List α)} (he : EvS K Er S OO σ te (rV r) m) : Walk K Er S OO σ (J9 K te) r m:=⟨fun {H R} w s P=>by
  refine he H _ w s (P.imp fun as _ h v H' s' ⟨p, xs, e, hp, pr⟩=>⟨p, e, ⟨xs, SqL.of (XC _ _ hp)⟩, h _ H' s' ?_ ?_⟩)
  . intro i a ha OO2 H2 w2 m2
    obtain ⟨x, hx, rx⟩:=Paired.getR pr ha
    have hq : SqL K H2 p xs:=SqL.of (XC _ _ (m2 _ _ hp))
    refine ⟨⟨xs, x, hq, hx⟩, fun y H3 ⟨e3, hy⟩=>?_⟩
    subst e3
    refine ⟨Xm.refl _, ?_⟩
    have:=hy xs hq
    rw [hx] at this
    cases this
    exact z.mono m2 rx
  . intro OO2 H2 w2 m2
    exact ⟨xs, SqL.of (XC _ _ (m2 _ _ hp)), by rw [Paired.len pr]; exact Nat.le_refl _⟩⟩
noncomputable def J1 (as : List α) : List (Int × α):=(List.range as.length).map (fun (i : Nat)=>(i : Int)) |>.zip as
theorem KR {as : List α} {i : Nat} {p : Int × α} (h : (J1 as)[i]? = some p) : p.1 = (i : Int) /\ as[i]? = some p.2:=by
  unfold J1 at h
  rw [List.getElem?_zip_eq_some] at h
  obtain ⟨h1, h2⟩:=h
  rw [List.getElem?_map] at h1
  have hlt : i < as.length:=by
    rcases Nat.lt_or_ge i as.length with q | q
    . exact q
    . rw [List.getElem?_eq_none q] at h2; cases h2
  rw [List.getElem?_range hlt] at h1
  exact ⟨(Option.some.inj h1).symm, h2⟩
theorem K0 {as : List α} : (J1 as).length = as.length:=by simp [J1]
theorem Qj {te : TE} {r : Enc α} [z : MonoE r] {m : Res (List α)} (he : EvS K Er S OO σ te (rV r) m) : Walk K Er S OO σ (BU K te) (rP2 Xc r) (m.bind fun as=>.ok (J1 as)):=⟨fun {H R} w s P=>by
  refine he H _ w s ?_
  cases em : m with
  | bad=>rw [em] at P; exact P
  | err x=>rw [em] at P; exact P
  | ok as=>
    rw [em] at P
    intro v H' s' ⟨p, xs, e, hp, pr⟩
    refine ⟨p, e, ⟨xs, SqL.of (XC _ _ hp)⟩, P _ H' s' ?_ ?_⟩
    . intro i a ha OO2 H2 w2 m2
      obtain ⟨ha1, ha2⟩:=KR ha
      obtain ⟨x, hx, rx⟩:=Paired.getR pr ha2
      have hq : SqL K H2 p xs:=SqL.of (XC _ _ (m2 _ _ hp))
      refine ⟨⟨xs, x, hq, hx⟩, fun y H3 h3=>?_⟩
      obtain ⟨b, x', rfl, hb, rfl, hy⟩:=h3
      have:=hy xs hq
      rw [hx] at this
      cases this
      refine ⟨XZ hb _, ⟨b, .int i, x, rfl, Vk w2 hb, by show V.int _ = V.int _; rw [ha1], z.mono (m2.trans (Xj (XZ hb _))) rx⟩⟩
    . intro OO2 H2 w2 m2
      exact ⟨xs, SqL.of (XC _ _ (m2 _ _ hp)), by rw [K0, Paired.len pr]; exact Nat.le_refl _⟩⟩
theorem Kw {lo hi : Int} {i : Nat} {a : Int} (h : (Zb lo hi)[i]? = some a) : a = lo + i /\ i < (hi - lo).toNat:=by
  unfold Zb at h
  rw [List.getElem?_map] at h
  rcases Nat.lt_or_ge i (hi - lo).toNat with q | q
  . rw [List.getElem?_range q] at h; exact ⟨(Option.some.inj h).symm, q⟩
  . rw [List.getElem?_eq_none (by simpa using q)] at h; cases h
theorem Kr {lo hi : Int} : (Zb lo hi).length = (hi - lo).toNat:=by simp [Zb]
noncomputable def Jm (lo hi : Int) : Res (List Int):=chk (-(2 ^ 62) <= lo /\ lo < 2 ^ 62 /\ -(2 ^ 62) <= hi /\ hi < 2 ^ 62) (.ok (Zb lo hi))
theorem Xq {te : TE} {m : Res Int} (he : EvB K Er S OO σ te Xc m) : Walk K Er S OO σ (BY (Xx te ZF)) Xc (m.bind fun n=>Jm 0 n):=⟨fun {H R} w s P=>
  he.run w s (fun as H H' s' h J H2 s2=>h J H2 (s'.trans s2)) P fun n v H1 s1 w1 q1 r1 P1=>by
    obtain ⟨c, hc, P2⟩:=P1.okOf fun x=>Qs
    obtain ⟨⟨_, _, h1, h2⟩, h3⟩:=Zf hc
    cases h3
    refine ⟨n, by rw [show v = .int n from r1], h1, h2, P2 _ H1 (Xm.refl _) (fun i a ha OO2 H2 w2 m2=>?_) fun OO2 H2 w2 m2=>?_⟩
    . obtain ⟨e1, e2⟩ := Kw ha
      rw [Int.sub_zero] at e2
      refine ⟨e2, fun x H3 ⟨e3, e4⟩=>?_⟩
      subst e3
      exact ⟨Xm.refl _, by rw [e4, e1]; rfl⟩
    . show n.toNat <= _
      rw [Kr, Int.sub_zero]; exact Nat.le_refl _⟩
theorem ZA {wi : TI} {g : TG} {tb : TS} {r : Enc α} {κ : Type} {m : Res (List α)} {body : γ -> α -> Res γ} {f : γ -> Res β} (J : Jn γ ι) (T : ∀ OO, Tgt K OO g r κ) (x0 : ι) (g0 : γ) (he : Walk K Er S OO σ wi r m) (h1 : OO = J.oo x0) (h2 : σ = J.ss x0) (h3 : ∀ h, S.p h -> (J.sc g0 x0).p h)
    (hb : ∀ g x a v, Sv Er ((T (J.oo x)).sc a v (J.sc g x)) (J.oo x) ((T (J.oo x)).set v (J.ss x)) tb (FNd J) (body g a))
    (hr : ∀ g x, Sv Er (J.sc g x) (J.oo x) (J.ss x) u Fd (f g)) : Sv Er S OO σ (ZE (De wi g tb) u) Fd (m.bind fun as=>(forN as g0 body).bind f):=fun H D w s P=>by
  refine he.ok w s ?_
  cases em : m with
  | bad=>rw [em] at P; exact P
  | err x=>rw [em] at P; exact fun H' s'=>P H' (XC.trans s')
  | ok as=>
    rw [em] at P
    have P : PZ Er (Fd D) (hid H OO) ((forN as g0 body).bind f):=P
    intro It H' s' hgo hstop
    refine ⟨fun i mm σ' H2=>mm = as.length - i /\ i <= as.length /\ ∃ x gg, σ' = J.ss x /\ W (J.oo x) H2 /\ Xm (hid H' OO) (hid H2 (J.oo x)) /\ (J.sc gg x).p (hid H2 (J.oo x)) /\ PZ Er (Fd D) (hid H2 (J.oo x)) ((forN (as.drop i) gg body).bind f), ⟨as.length, rfl, Nat.zero_le _, x0, g0, h2, ?_, ?_, ?_, ?_⟩, ?_⟩
    . rw [← h1]; exact w.keep s'
    . rw [← h1]; exact Xm.refl _
    . rw [← h1]; exact h3 _ (S.mono _ _ (Xj s') s)
    . rw [← h1, List.drop_zero]; exact PZ.tr (fd.tr D) (Xj s') P
    . rintro i mm σ' H2 ⟨rfl, hi, x, gg, rfl, w2, m2, sc2, P2⟩
      by_cases hlt : i < as.length
      . right
        have ha : as[i]? = some as[i]:=by simp [hlt]
        obtain ⟨h4, h5⟩:=hgo i _ ha (J.oo x) H2 w2 m2
        refine ⟨h4, fun σ3 H3=>∃ x gg, σ3 = J.ss x /\ W (J.oo x) H3 /\ Xm (hid H' OO) (hid H3 (J.oo x)) /\ (J.sc gg x).p (hid H3 (J.oo x)) /\ PZ Er (Fd D) (hid H3 (J.oo x)) ((forN (as.drop (i + 1)) gg body).bind f), fun σ3 H3 q=>⟨as.length - (i + 1), Nat.sub_lt_sub_left hlt (Nat.lt_succ_self i), rfl, hlt, q⟩, fun y H3 hy=>?_⟩
        obtain ⟨s3, r3⟩:=h5 y H3 hy
        have w3:=w2.keep s3
        have m3:=Xj (OO:=J.oo x) s3
        refine (T (J.oo x)).ok r3 ((J.sc gg x).mono _ _ m3 sc2) fun v hv=>hb gg x as[i] v H3 _ w3 hv ?_
        rw [List.drop_eq_getElem_cons hlt] at P2
        have P3 : PZ Er (Fd D) (hid H2 (J.oo x)) ((body gg as[i]).bind fun g'=>(forN (as.drop (i + 1)) g' body).bind f):=by rw [← XN]; exact P2
        cases eb : body gg as[i] with
        | bad=>rw [eb] at P3; exact P3
        | err x=>rw [eb] at P3; exact fun H4 s4=>P3 H4 (m3.trans s4)
        | ok g'=>
          rw [eb] at P3
          exact fun x' H4 w4 m4 sc4=>⟨x', g', rfl, w4, m2.trans (m3.trans m4), sc4, PZ.tr (fd.tr D) (m3.trans m4) P3⟩
      . left
        have e : i = as.length:=Nat.le_antisymm hi (Nat.not_lt.mp hlt)
        subst e
        refine ⟨hstop (J.oo x) H2 w2 m2, hr gg x H2 D w2 sc2 ?_⟩
        rw [List.drop_length] at P2
        exact P2
theorem Zt {o : OE ρ} {wi : TI} {g : TG} {tb : TS} {r : Enc α} {κ : Type} {m : Res (List α)} {body : γ -> α -> Res (Ctl ρ γ)} {f : γ -> Res ρ} (J : Jn γ ι) (T : ∀ OO, Tgt K OO g r κ) (x0 : ι) (g0 : γ) (he : Walk K Er S OO σ wi r m) (h1 : OO = J.oo x0) (h2 : σ = J.ss x0) (h3 : ∀ h, S.p h -> (J.sc g0 x0).p h)
    (hb : ∀ g x a v, Sv Er ((T (J.oo x)).sc a v (J.sc g x)) (J.oo x) ((T (J.oo x)).set v (J.ss x)) tb (FCd K o J) (body g a))
    (hr : ∀ g x, Sv Er (J.sc g x) (J.oo x) (J.ss x) u (FTd K o) (f g)) : Sv Er S OO σ (ZE (De wi g tb) u) (FTd K o) (m.bind fun as=>(forC as g0 body).bind (Z4 f)):=fun H D w s P=>by
  refine he.ok w s ?_
  cases em : m with
  | bad=>rw [em] at P; exact P
  | err x=>rw [em] at P; exact fun H' s'=>P H' (XC.trans s')
  | ok as=>
    rw [em] at P
    have P : PZ Er (FTd K o D) (hid H OO) ((forC as g0 body).bind (Z4 f)):=P
    intro It H' s' hgo hstop
    refine ⟨fun i mm σ' H2=>mm = as.length - i /\ i <= as.length /\ ∃ x gg, σ' = J.ss x /\ W (J.oo x) H2 /\ Xm (hid H' OO) (hid H2 (J.oo x)) /\ (J.sc gg x).p (hid H2 (J.oo x)) /\ PZ Er (FTd K o D) (hid H2 (J.oo x)) ((forC (as.drop i) gg body).bind (Z4 f)), ⟨as.length, rfl, Nat.zero_le _, x0, g0, h2, ?_, ?_, ?_, ?_⟩, ?_⟩
    . rw [← h1]; exact w.keep s'
    . rw [← h1]; exact Xm.refl _
    . rw [← h1]; exact h3 _ (S.mono _ _ (Xj s') s)
    . rw [← h1, List.drop_zero]; exact PZ.tr (FdOk.tr D) (Xj s') P
    . rintro i mm σ' H2 ⟨rfl, hi, x, gg, rfl, w2, m2, sc2, P2⟩
      by_cases hlt : i < as.length
      . right
        have ha : as[i]? = some as[i]:=by simp [hlt]
        obtain ⟨h4, h5⟩:=hgo i _ ha (J.oo x) H2 w2 m2
        refine ⟨h4, fun σ3 H3=>∃ x gg, σ3 = J.ss x /\ W (J.oo x) H3 /\ Xm (hid H' OO) (hid H3 (J.oo x)) /\ (J.sc gg x).p (hid H3 (J.oo x)) /\ PZ Er (FTd K o D) (hid H3 (J.oo x)) ((forC (as.drop (i + 1)) gg body).bind (Z4 f)), fun σ3 H3 q=>⟨as.length - (i + 1), Nat.sub_lt_sub_left hlt (Nat.lt_succ_self i), rfl, hlt, q⟩, fun y H3 hy=>?_⟩
        obtain ⟨s3, r3⟩:=h5 y H3 hy
        have w3:=w2.keep s3
        have m3:=Xj (OO:=J.oo x) s3
        refine (T (J.oo x)).ok r3 ((J.sc gg x).mono _ _ m3 sc2) fun v hv=>hb gg x as[i] v H3 _ w3 hv ?_
        rw [List.drop_eq_getElem_cons hlt] at P2
        have P3 : PZ Er (FTd K o D) (hid H2 (J.oo x)) ((body gg as[i]).bind fun c=>(match c with
          | .ret r=>Res.ok (Ctl.ret r)
          | .nx g'=>forC (as.drop (i + 1)) g' body).bind (Z4 f)):=by rw [← XN]; exact P2
        cases eb : body gg as[i] with
        | bad=>rw [eb] at P3; exact P3
        | err x=>rw [eb] at P3; exact fun H4 s4=>P3 H4 (m3.trans s4)
        | ok c=>
          rw [eb] at P3
          cases c with
          | ret r=>exact FdOk.tr (Fd:=FTd K o) D r _ _ m3 P3
          | nx g'=>exact fun x' H4 w4 m4 sc4=>⟨x', g', rfl, w4, m2.trans (m3.trans m4), sc4, PZ.tr (FdOk.tr D) (m3.trans m4) P3⟩
      . left
        have e : i = as.length:=Nat.le_antisymm hi (Nat.not_lt.mp hlt)
        subst e
        refine ⟨hstop (J.oo x) H2 w2 m2, hr gg x H2 D w2 sc2 ?_⟩
        rw [List.drop_length] at P2
        exact P2
theorem Qo {κ2 : Type} {o : OE ρ} {J2 : Jn δ κ2} {wi : TI} {g : TG} {tb : TS} {r : Enc α} {κ : Type} {m : Res (List α)} {body : γ -> α -> Res (Ctl ρ γ)} {f : γ -> Res (Ctl ρ δ)} (J : Jn γ ι) (T : ∀ OO, Tgt K OO g r κ) (x0 : ι) (g0 : γ) (he : Walk K Er S OO σ wi r m) (h1 : OO = J.oo x0) (h2 : σ = J.ss x0) (h3 : ∀ h, S.p h -> (J.sc g0 x0).p h)
    (hb : ∀ g x a v, Sv Er ((T (J.oo x)).sc a v (J.sc g x)) (J.oo x) ((T (J.oo x)).set v (J.ss x)) tb (FCd K o J) (body g a))
    (hr : ∀ g x, Sv Er (J.sc g x) (J.oo x) (J.ss x) u (FCd K o J2) (f g)) : Sv Er S OO σ (ZE (De wi g tb) u) (FCd K o J2) (m.bind fun as=>(forC as g0 body).bind (Z2 f)):=fun H D w s P=>by
  refine he.ok w s ?_
  cases em : m with
  | bad=>rw [em] at P; exact P
  | err x=>rw [em] at P; exact fun H' s'=>P H' (XC.trans s')
  | ok as=>
    rw [em] at P
    have P : PZ Er (FCd K o J2 D) (hid H OO) ((forC as g0 body).bind (Z2 f)):=P
    intro It H' s' hgo hstop
    refine ⟨fun i mm σ' H2=>mm = as.length - i /\ i <= as.length /\ ∃ x gg, σ' = J.ss x /\ W (J.oo x) H2 /\ Xm (hid H' OO) (hid H2 (J.oo x)) /\ (J.sc gg x).p (hid H2 (J.oo x)) /\ PZ Er (FCd K o J2 D) (hid H2 (J.oo x)) ((forC (as.drop i) gg body).bind (Z2 f)), ⟨as.length, rfl, Nat.zero_le _, x0, g0, h2, ?_, ?_, ?_, ?_⟩, ?_⟩
    . rw [← h1]; exact w.keep s'
    . rw [← h1]; exact Xm.refl _
    . rw [← h1]; exact h3 _ (S.mono _ _ (Xj s') s)
    . rw [← h1, List.drop_zero]; exact PZ.tr (FdOk.tr D) (Xj s') P
    . rintro i mm σ' H2 ⟨rfl, hi, x, gg, rfl, w2, m2, sc2, P2⟩
      by_cases hlt : i < as.length
      . right
        have ha : as[i]? = some as[i]:=by simp [hlt]
        obtain ⟨h4, h5⟩:=hgo i _ ha (J.oo x) H2 w2 m2
        refine ⟨h4, fun σ3 H3=>∃ x gg, σ3 = J.ss x /\ W (J.oo x) H3 /\ Xm (hid H' OO) (hid H3 (J.oo x)) /\ (J.sc gg x).p (hid H3 (J.oo x)) /\ PZ Er (FCd K o J2 D) (hid H3 (J.oo x)) ((forC (as.drop (i + 1)) gg body).bind (Z2 f)), fun σ3 H3 q=>⟨as.length - (i + 1), Nat.sub_lt_sub_left hlt (Nat.lt_succ_self i), rfl, hlt, q⟩, fun y H3 hy=>?_⟩
        obtain ⟨s3, r3⟩:=h5 y H3 hy
        have w3:=w2.keep s3
        have m3:=Xj (OO:=J.oo x) s3
        refine (T (J.oo x)).ok r3 ((J.sc gg x).mono _ _ m3 sc2) fun v hv=>hb gg x as[i] v H3 _ w3 hv ?_
        rw [List.drop_eq_getElem_cons hlt] at P2
        have P3 : PZ Er (FCd K o J2 D) (hid H2 (J.oo x)) ((body gg as[i]).bind fun c=>(match c with
          | .ret r=>Res.ok (Ctl.ret r)
          | .nx g'=>forC (as.drop (i + 1)) g' body).bind (Z2 f)):=by rw [← XN]; exact P2
        cases eb : body gg as[i] with
        | bad=>rw [eb] at P3; exact P3
        | err x=>rw [eb] at P3; exact fun H4 s4=>P3 H4 (m3.trans s4)
        | ok c=>
          rw [eb] at P3
          cases c with
          | ret r=>exact FdOk.tr (Fd:=FTd K o) D r _ _ m3 P3
          | nx g'=>exact fun x' H4 w4 m4 sc4=>⟨x', g', rfl, w4, m2.trans (m3.trans m4), sc4, PZ.tr (FdOk.tr D) (m3.trans m4) P3⟩
      . left
        have e : i = as.length:=Nat.le_antisymm hi (Nat.not_lt.mp hlt)
        subst e
        refine ⟨hstop (J.oo x) H2 w2 m2, hr gg x H2 D w2 sc2 ?_⟩
        rw [List.drop_length] at P2
        exact P2
noncomputable def QE : Nat -> γ -> (γ -> Res Bool) -> (γ -> Res γ) -> Res γ
  | 0, _, _, _=>.bad
  | n + 1, g, c, f=>(c g).bind fun b=>if b = true then (f g).bind fun g'=>QE n g' c f else .ok g
theorem UO {c : TT} {tb : TS} {mc : γ -> Res Bool} {body : γ -> Res γ} {f : γ -> Res β} (J : Jn γ ι) (n : Nat) (x0 : ι) (g0 : γ) (h1 : OO = J.oo x0) (h2 : σ = J.ss x0) (h3 : ∀ h, S.p h -> (J.sc g0 x0).p h)
    (hc : ∀ g x, EvT Er (J.sc g x) (J.oo x) (J.ss x) c (mc g)) (hb : ∀ g x, Sv Er (J.sc g x) (J.oo x) (J.ss x) tb (FNd J) (body g))
    (hr : ∀ g x, Sv Er (J.sc g x) (J.oo x) (J.ss x) u Fd (f g)) : Sv Er S OO σ (ZE (DK c tb) u) Fd ((QE n g0 mc body).bind f):=fun H D w s P=>by
  refine ⟨fun mm σ' H2=>∃ x gg, σ' = J.ss x /\ W (J.oo x) H2 /\ (J.sc gg x).p (hid H2 (J.oo x)) /\ PZ Er (Fd D) (hid H2 (J.oo x)) ((QE mm gg mc body).bind f), ⟨n, x0, g0, h2, by rw [← h1]; exact w, by rw [← h1]; exact h3 _ s, by rw [← h1]; exact P⟩, ?_⟩
  rintro mm σ' H2 ⟨x, gg, rfl, w2, sc2, P2⟩
  cases mm with
  | zero=>exact P2.elim
  | succ mm=>
    have P3 : PZ Er (Fd D) (hid H2 (J.oo x)) ((mc gg).bind fun b=>(if b = true then (body gg).bind fun g'=>QE mm g' mc body else .ok gg).bind f):=by rw [← XN]; exact P2
    refine (hc gg x).st w2 sc2 P3 fun b H3 w3 sc3 P4=>?_
    cases b with
    | false=>exact hr gg x H3 D w3 sc3 P4
    | true=>
      rw [if_pos rfl] at P4 ⊢
      refine ⟨fun σ3 H4=>∃ x gg, σ3 = J.ss x /\ W (J.oo x) H4 /\ (J.sc gg x).p (hid H4 (J.oo x)) /\ PZ Er (Fd D) (hid H4 (J.oo x)) ((QE mm gg mc body).bind f), fun σ3 H4 q=>⟨mm, Nat.lt_succ_self _, q⟩, hb gg x H3 _ w3 sc3 ?_⟩
      rw [XN] at P4
      cases eb : body gg with
      | bad=>rw [eb] at P4; exact P4
      | err x=>rw [eb] at P4; exact P4
      | ok g'=>
        rw [eb] at P4
        exact fun x' H5 w5 m5 sc5=>⟨x', g', rfl, w5, sc5, PZ.tr (fd.tr D) m5 P4⟩
noncomputable def KB (as : List α) (f : α -> Res β) : Res (List β):=match as with
  | []=>.ok []
  | a :: as=>(f a).bind fun b=>(KB as f).bind fun bs=>.ok (b :: bs)
noncomputable def UI (as : List α) (f : α -> Res β) : Res (List β):=chk (as.length <= sizeLine) (KB as f)
noncomputable def JC (as : List α) (c : α -> Res Bool) (f : α -> Res β) : Res (List β):=match as with
  | []=>.ok []
  | a :: as=>(c a).bind fun b=>if b = true then (f a).bind fun b=>(JC as c f).bind fun bs=>.ok (b :: bs) else JC as c f
noncomputable def EG (as : List α) (c : α -> Res Bool) (f : α -> Res β) : Res (List β):=chk (as.length <= sizeLine) (JC as c f)
theorem PZ.chk {F : β -> Hp -> Prop} {H : Hp} {c : Prop} [Decidable c] {m : Res β} (P : PZ Er F H (chk c m)) : c /\ PZ Er F H m:=by
  unfold L2.chk at P; split at P
  . exact ⟨by assumption, P⟩
  . exact P.elim
theorem Ca {o : OE α} [z : MonoO o] {xs : List V} {as : List α} {Cs : List (List Xu)} {H H0 : Hp} {Q : VK} (w : W (Cs.flatten :: OO) H) (m0 : Xm (hid H0 OO) (hid H (Cs.flatten :: OO))) (s0 : Xm H0 H) (pr : P3 (o K (hid H (Cs.flatten :: OO))) xs as Cs) (P : FO K OO OO (oL o) Q as H0) : ∀ p, H p = none -> Q (.ref p) (upd H p (.lst xs)):=fun p hp=>by
  have hn:=Ug (OO:=Cs.flatten :: OO) hp (o:=.lst xs)
  have wn:=w.new hp (o:=.lst xs) rfl
  have pe : (((p, HO.lst xs) :: Cs.flatten) :: OO).flatten.Perm ([(p, HO.lst xs)] :: Cs.flatten :: OO).flatten:=by simp
  refine P (.ref p) ((p, .lst xs) :: Cs.flatten) _ (s0.trans (XZ hp _)) (wn.of pe) ?_ ?_
  . rw [XG pe]; exact m0.trans hn
  . rw [XG pe]
    exact ⟨p, xs, Cs, rfl, pr.imp fun _ _ _ h=>z.mono hn h, rfl⟩
theorem Zr {o : OE β} [z : MonoO o] {wi : TI} {g : TG} {te : TE} {r : Enc α} {κ : Type} {m : Res (List α)} {f : α -> Res β} {n : Nat} {caps : List (Nat × Str)} (T : ∀ OO, Tgt K OO g r κ) (he : Walk K Er S OO σ wi r m)
    (hb : ∀ C a v, Ev K Er ((T (C :: OO)).sc a v S) (C :: OO) (C :: OO) ((T (C :: OO)).set v (Ys n caps σ)) te o (f a)) : Ev K Er S OO OO σ (VG n caps wi g JX te) (oL o) (m.bind fun as=>UI as f):=fun H Q w s P=>by
  refine he.ok w s ?_
  cases em : m with
  | bad=>rw [em] at P; exact P
  | err x=>rw [em] at P; exact P
  | ok as=>
    rw [em] at P
    obtain ⟨hsz, P⟩:=PZ.chk (show PZ Er _ H (chk (as.length <= sizeLine) (KB as f)) from P)
    intro It H' s' hgo hstop
    -- what is left: the YL of the items, then all
    refine ⟨fun i mm ys H2=>mm = as.length - i /\ i <= as.length /\ ∃ bs Cs, Xm H H2 /\ W (Cs.flatten :: OO) H2 /\ Xm (hid H' OO) (hid H2 (Cs.flatten :: OO)) /\ P3 (o K (hid H2 (Cs.flatten :: OO))) ys bs Cs /\ bs.length = i /\ PZ Er (FO K OO OO (oL o) Q) H ((KB (as.drop i) f).bind fun YL=>.ok (bs ++ YL)),
      ⟨as.length, rfl, Nat.zero_le _, [], [], s', (w.keep s').nil, by show Xm _ (hid H' ([] :: OO)); rw [Yc]; exact Xm.refl _, .nil, rfl, ?_⟩, ?_⟩
    . rw [List.drop_zero]
      revert P
      cases KB as f <;> exact fun z=>z
    . rintro i mm ys H2 ⟨rfl, hi, bs, Cs, s2, w2, m2, pr, hlen, P2⟩
      refine ⟨by rw [pr.len.1, hlen]; omega, ?_⟩
      by_cases hlt : i < as.length
      . right
        have ha : as[i]? = some as[i]:=by simp [hlt]
        obtain ⟨h4, h5⟩:=hgo i _ ha (Cs.flatten :: OO) H2 w2 m2
        refine ⟨h4, fun ys' H3=>∃ bs Cs, Xm H H3 /\ W (Cs.flatten :: OO) H3 /\ Xm (hid H' OO) (hid H3 (Cs.flatten :: OO)) /\ P3 (o K (hid H3 (Cs.flatten :: OO))) ys' bs Cs /\ bs.length = i + 1 /\ PZ Er (FO K OO OO (oL o) Q) H ((KB (as.drop (i + 1)) f).bind fun YL=>.ok (bs ++ YL)), fun ys' H3 q=>⟨as.length - (i + 1), Nat.sub_lt_sub_left hlt (Nat.lt_succ_self i), rfl, hlt, q⟩, fun y H3 hy=>?_⟩
        obtain ⟨s3, r3⟩:=h5 y H3 hy
        have w3:=w2.keep s3
        have m3:=Xj (OO:=Cs.flatten :: OO) s3
        have sS : S.p (hid H3 (Cs.flatten :: OO)):=S.mono _ _ ((Xj s').trans (m2.trans m3)) s
        refine (T (Cs.flatten :: OO)).ok r3 sS fun v hv=>?_
        show JX _ _ _
        refine BX ?_
        rw [List.drop_eq_getElem_cons hlt] at P2
        have P3' : PZ Er (FO K OO OO (oL o) Q) H ((f as[i]).bind fun b=>(KB (as.drop (i + 1)) f).bind fun YL=>.ok (bs ++ b :: YL)):=by
          have : ((f as[i]).bind fun b=>(KB (as.drop (i + 1)) f).bind fun YL=>Res.ok (bs ++ b :: YL)) = (KB (as[i] :: as.drop (i + 1)) f).bind fun YL=>.ok (bs ++ YL):=by
            show _ = ((f as[i]).bind fun b=>(KB (as.drop (i + 1)) f).bind fun bs=>Res.ok (b :: bs)).bind _
            rw [XN]; congr 1; funext b; rw [XN]; rfl
          rw [this]; exact P2
        refine hb Cs.flatten as[i] v H3 _ w3 hv ?_
        cases eb : f as[i] with
        | bad=>rw [eb] at P3'; exact P3'
        | err x=>rw [eb] at P3'; exact fun H4 s4=>P3' H4 (s2.trans (s3.trans s4))
        | ok b=>
          rw [eb] at P3'
          intro v' C' H4 s4 w4 m4 ho
          have pe : ((Cs ++ [C']).flatten :: OO).flatten.Perm (C' :: Cs.flatten :: OO).flatten:=by
            simp only [Zo, List.flatten_cons]
            rw [List.append_assoc, ← List.append_assoc, ← List.append_assoc]
            exact List.perm_append_comm.append_right _
          refine ⟨bs ++ [b], Cs ++ [C'], s2.trans (s3.trans s4), w4.of pe, ?_, ?_, by simp [hlen], ?_⟩
          . rw [XG pe]; exact m2.trans (m3.trans m4)
          . rw [XG pe]; exact P3.snoc (pr.imp fun _ _ _ h=>z.mono (m3.trans m4) h) ho
          . have P4 : PZ Er (FO K OO OO (oL o) Q) H ((KB (as.drop (i + 1)) f).bind fun YL => .ok (bs ++ b :: YL)) := P3'
            simpa using P4
      . left
        have e : i = as.length:=Nat.le_antisymm hi (Nat.not_lt.mp hlt)
        subst e
        refine ⟨hstop (Cs.flatten :: OO) H2 w2 m2, ?_⟩
        rw [List.drop_length] at P2
        have P3' : FO K OO OO (oL o) Q (bs ++ []) H:=P2
        rw [List.append_nil] at P3'
        exact Ca (H0:=H) w2 ((Xj s').trans m2) s2 pr P3'
theorem Fm {o : OE β} [z : MonoO o] {wi : TI} {g : TG} {tt : TT} {te : TE} {r : Enc α} {κ : Type} {m : Res (List α)} {c : α -> Res Bool} {f : α -> Res β} {n : Nat} {caps : List (Nat × Str)} (T : ∀ OO, Tgt K OO g r κ) (he : Walk K Er S OO σ wi r m)
    (hc : ∀ C a v, EvT Er ((T (C :: OO)).sc a v S) (C :: OO) ((T (C :: OO)).set v (Ys n caps σ)) tt (c a))
    (hb : ∀ C a v, Ev K Er ((T (C :: OO)).sc a v S) (C :: OO) (C :: OO) ((T (C :: OO)).set v (Ys n caps σ)) te o (f a)) : Ev K Er S OO OO σ (VG n caps wi g tt te) (oL o) (m.bind fun as=>EG as c f):=fun H Q w s P=>by
  refine he.ok w s ?_
  cases em : m with
  | bad=>rw [em] at P; exact P
  | err x=>rw [em] at P; exact P
  | ok as=>
    rw [em] at P
    obtain ⟨hsz, P⟩:=PZ.chk (show PZ Er _ H (chk (as.length <= sizeLine) (JC as c f)) from P)
    intro It H' s' hgo hstop
    refine ⟨fun i mm ys H2=>mm = as.length - i /\ i <= as.length /\ ∃ bs Cs, Xm H H2 /\ W (Cs.flatten :: OO) H2 /\ Xm (hid H' OO) (hid H2 (Cs.flatten :: OO)) /\ P3 (o K (hid H2 (Cs.flatten :: OO))) ys bs Cs /\ bs.length <= i /\ PZ Er (FO K OO OO (oL o) Q) H ((JC (as.drop i) c f).bind fun YL=>.ok (bs ++ YL)),
      ⟨as.length, rfl, Nat.zero_le _, [], [], s', (w.keep s').nil, by show Xm _ (hid H' ([] :: OO)); rw [Yc]; exact Xm.refl _, .nil, Nat.zero_le _, ?_⟩, ?_⟩
    . rw [List.drop_zero]
      revert P
      cases JC as c f <;> exact fun z=>z
    . rintro i mm ys H2 ⟨rfl, hi, bs, Cs, s2, w2, m2, pr, hlen, P2⟩
      refine ⟨by rw [pr.len.1]; omega, ?_⟩
      by_cases hlt : i < as.length
      . right
        have ha : as[i]? = some as[i]:=by simp [hlt]
        obtain ⟨h4, h5⟩:=hgo i _ ha (Cs.flatten :: OO) H2 w2 m2
        refine ⟨h4, fun ys' H3=>∃ bs Cs, Xm H H3 /\ W (Cs.flatten :: OO) H3 /\ Xm (hid H' OO) (hid H3 (Cs.flatten :: OO)) /\ P3 (o K (hid H3 (Cs.flatten :: OO))) ys' bs Cs /\ bs.length <= i + 1 /\ PZ Er (FO K OO OO (oL o) Q) H ((JC (as.drop (i + 1)) c f).bind fun YL=>.ok (bs ++ YL)), fun ys' H3 q=>⟨as.length - (i + 1), Nat.sub_lt_sub_left hlt (Nat.lt_succ_self i), rfl, hlt, q⟩, fun y H3 hy=>?_⟩
        obtain ⟨s3, r3⟩:=h5 y H3 hy
        have w3:=w2.keep s3
        have m3:=Xj (OO:=Cs.flatten :: OO) s3
        have sS : S.p (hid H3 (Cs.flatten :: OO)):=S.mono _ _ ((Xj s').trans (m2.trans m3)) s
        refine (T (Cs.flatten :: OO)).ok r3 sS fun v hv=>?_
        rw [List.drop_eq_getElem_cons hlt] at P2
        have P3' : PZ Er (FO K OO OO (oL o) Q) H ((c as[i]).bind fun b=>(if b = true then (f as[i]).bind fun b=>(JC (as.drop (i + 1)) c f).bind fun bs=>.ok (b :: bs) else JC (as.drop (i + 1)) c f).bind fun YL=>.ok (bs ++ YL)):=by
          rw [← XN]; exact P2
        refine hc Cs.flatten as[i] v H3 _ w3 hv ?_
        cases ec : c as[i] with
        | bad=>rw [ec] at P3'; exact P3'
        | err x=>rw [ec] at P3'; exact fun H4 s4=>P3' H4 (s2.trans (s3.trans s4))
        | ok b=>
          rw [ec] at P3'
          intro H4 s4
          have w4:=w3.keep s4
          have m4:=Xj (OO:=Cs.flatten :: OO) s4
          cases b with
          | false=>exact ⟨bs, Cs, s2.trans (s3.trans s4), w4, m2.trans (m3.trans m4), pr.imp fun _ _ _ h=>z.mono (m3.trans m4) h, Nat.le_succ_of_le hlen, P3'⟩
          | true=>
            rw [if_pos rfl]
            have P4 : PZ Er (FO K OO OO (oL o) Q) H ((f as[i]).bind fun b=>(JC (as.drop (i + 1)) c f).bind fun YL=>.ok (bs ++ b :: YL)):=by
              have : ((f as[i]).bind fun b=>(JC (as.drop (i + 1)) c f).bind fun YL=>Res.ok (bs ++ b :: YL)) = ((f as[i]).bind fun b=>(JC (as.drop (i + 1)) c f).bind fun bs=>Res.ok (b :: bs)).bind fun YL=>.ok (bs ++ YL):=by
                rw [XN]; congr 1; funext b; rw [XN]; rfl
              rw [this]; exact P3'
            refine hb Cs.flatten as[i] v H4 _ w4 (((T (Cs.flatten :: OO)).sc as[i] v S).mono _ _ m4 hv) ?_
            cases eb : f as[i] with
            | bad=>rw [eb] at P4; exact P4
            | err x=>rw [eb] at P4; exact fun H5 s5=>P4 H5 (s2.trans (s3.trans (s4.trans s5)))
            | ok b=>
              rw [eb] at P4
              intro v' C' H5 s5 w5 m5 ho
              have pe : ((Cs ++ [C']).flatten :: OO).flatten.Perm (C' :: Cs.flatten :: OO).flatten:=by
                simp only [Zo, List.flatten_cons]
                rw [List.append_assoc, ← List.append_assoc, ← List.append_assoc]
                exact List.perm_append_comm.append_right _
              refine ⟨bs ++ [b], Cs ++ [C'], s2.trans (s3.trans (s4.trans s5)), w5.of pe, ?_, ?_, by simpa using hlen, ?_⟩
              . rw [XG pe]; exact m2.trans (m3.trans (m4.trans m5))
              . rw [XG pe]; exact P3.snoc (pr.imp fun _ _ _ h=>z.mono (m3.trans (m4.trans m5)) h) ho
              . have P5 : PZ Er (FO K OO OO (oL o) Q) H ((JC (as.drop (i + 1)) c f).bind fun YL => .ok (bs ++ b :: YL)) := P4
                simpa using P5
      . left
        have e : i = as.length:=Nat.le_antisymm hi (Nat.not_lt.mp hlt)
        subst e
        refine ⟨hstop (Cs.flatten :: OO) H2 w2 m2, ?_⟩
        rw [List.drop_length] at P2
        have P3' : FO K OO OO (oL o) Q (bs ++ []) H:=P2
        rw [List.append_nil] at P3'
        exact Ca (H0:=H) w2 ((Xj s').trans m2) s2 pr P3'
noncomputable def Uf (as : List α) (i : Int) (a : α) : Res (List α):=match ixN as.length i with
  | some j=>.ok (as.set j a)
  | none=>.bad
end
end L2
namespace L2
open PySem PySem.Spec PyProof.Rows
section
variable {K : PySem.W.Frag} {Er : Exc -> Hp -> Prop} {S : SC} {OO OO' OO2 : List (List Xu)} {σ : St} {α β γ ρ ι δ ε : Type}
variable {Fd : Ends -> β -> Hp -> Prop} [fd : FdOk Fd] {u : TS}
theorem B6 {C D C' : List Xu} {H : Hp} {k : Nat} {p : Addr} {o : HO} (w : W (D :: OO) H) (hk : OO[k]? = some C) (hp : p ∈ C.map (·.1)) (hp' : p ∈ C'.map (·.1)) (hnd : (C'.map (·.1)).Nodup) (hin : ∀ b ∈ C'.map (·.1), b ∈ (C ++ D).map (·.1)) (ht : ∀ c ∈ C', upd H p o c.1 = some c.2) (hm : ∀ c ∈ C', Bk c.2 = true) :
    W (OO.set k C') (upd H p o) /\ Xm (hid H (D :: OO)) (hid (upd H p o) (OO.set k C')):=by
  have hlt : k < OO.length:=by
    rcases Nat.lt_or_ge k OO.length with h | h
    . exact h
    . rw [List.getElem?_eq_none h] at hk; cases hk
  have h1:=XF hk
  have h2:=XF (OO:=OO.set k C') (k:=k) (C:=C') (by simp [hlt])
  rw [set_set] at h2
  have h3 : (OO.set k C').flatten.Perm (C' ++ (OO.set k []).flatten):=by simpa using h2.symm
  have h4 : (D :: OO).flatten.Perm ((C ++ D) ++ (OO.set k []).flatten):=by
    rw [List.flatten_cons]
    refine ((by simpa using h1.symm : OO.flatten.Perm (C ++ (OO.set k []).flatten)).append_left D).trans ?_
    rw [← List.append_assoc]
    exact List.perm_append_comm.append_right _
  have nd2 : (((C ++ D) ++ (OO.set k []).flatten).map (·.1)).Nodup:=(h4.map _).nodup_iff.mp w.nd
  rw [List.map_append] at nd2
  obtain ⟨n1, n2, n3⟩:=List.nodup_append.mp nd2
  refine ⟨⟨fun c hc=>?_, ?_, fun c hc=>?_⟩, fun b v q=>?_⟩
  . rcases List.mem_append.mp (h3.mem_iff.mp hc) with hc | hc
    . exact ht c hc
    . have hne : c.1 ≠ p := fun e => n3 p (hin p hp') c.1 (List.mem_map.mpr ⟨c, hc, rfl⟩) e.symm
      rw [XB hne]
      exact w.tr c (h4.mem_iff.mpr (by simp [hc]))
  . refine ((h3.map _).nodup_iff).mpr ?_
    rw [List.map_append]
    exact List.nodup_append.mpr ⟨hnd, n2, fun a ha b hb=>n3 a (hin a ha) b hb⟩
  . rcases List.mem_append.mp (h3.mem_iff.mp hc) with hc | hc
    . exact hm c hc
    . exact w.mu c (h4.mem_iff.mpr (by simp [hc]))
  . obtain ⟨q1, q2⟩ := X5 q
    have hbp : b ≠ p:=fun e=>q2 (by
      rw [e]
      obtain ⟨c, hc, rfl⟩:=List.mem_map.mp hp
      exact Q0 (h4.mem_iff.mpr (by simp [hc])))
    refine YO (by rw [XB hbp]; exact q1) fun z=>q2 ?_
    obtain ⟨o', ho'⟩:=KF z
    rcases List.mem_append.mp (h3.mem_iff.mp ho') with hc | hc
    . obtain ⟨c, hc2, e⟩ := List.mem_map.mp (hin b (List.mem_map.mpr ⟨_, hc, rfl⟩))
      rw [← e]
      exact Q0 (h4.mem_iff.mpr (List.mem_append_left _ hc2))
    . exact Q0 (c:=(b, o')) (h4.mem_iff.mpr (by simp [hc]))
theorem EF {D : List Xu} {Cs Cs' : List (List Xu)} {H : Hp} {k : Nat} {p : Addr} {xs xs' : List V} (w : W (D :: OO) H) (hk : OO[k]? = some ((p, .lst xs) :: Cs.flatten)) (hin : ∀ c ∈ Cs'.flatten, c ∈ Cs.flatten ++ D) (hnd : (Cs'.flatten.map (·.1)).Nodup) :
    W (OO.set k ((p, .lst xs') :: Cs'.flatten)) (upd H p (.lst xs')) /\ Xm (hid H (D :: OO)) (hid (upd H p (.lst xs')) (OO.set k ((p, .lst xs') :: Cs'.flatten))):=by
  have h1:=XF hk
  have w3 : W [((p, HO.lst xs) :: (Cs.flatten ++ D)) ++ (OO.set k []).flatten] H:=w.of (by
    simp only [List.flatten_cons, List.flatten_nil, List.append_nil]
    refine List.Perm.trans ?_ ((by simpa using h1 : (((p, HO.lst xs) :: Cs.flatten) ++ (OO.set k []).flatten).Perm OO.flatten).append_left D)
    rw [← List.append_assoc]
    refine List.Perm.append_right _ ?_
    exact (List.perm_append_comm (l₁:=(p, HO.lst xs) :: Cs.flatten) (l₂:=D)))
  have nd:=w3.nd
  simp only [fl, List.flatten_cons, List.flatten_nil, List.append_nil, List.map_append, List.cons_append, List.map_cons] at nd
  have hne : ∀ c ∈ Cs'.flatten, c.1 ≠ p:=fun c hc e=>by
    refine (List.nodup_cons.mp nd).1 ?_
    rw [← e]
    refine List.mem_append_left _ ?_
    rw [← List.map_append]
    exact List.mem_map.mpr ⟨c, hin c hc, rfl⟩
  refine B6 w hk List.mem_cons_self List.mem_cons_self ?_ ?_ ?_ ?_
  . rw [List.map_cons, List.nodup_cons]
    refine ⟨fun z=>?_, hnd⟩
    obtain ⟨c, hc, e⟩:=List.mem_map.mp z
    exact hne c hc e
  . intro b hb
    rcases List.mem_cons.mp hb with rfl | hb
    . exact List.mem_cons_self
    . obtain ⟨c, hc, rfl⟩ := List.mem_map.mp hb
      rw [List.cons_append, List.map_cons]
      exact List.mem_cons_of_mem _ (List.mem_map.mpr ⟨c, hin c hc, rfl⟩)
  . intro c hc
    rcases List.mem_cons.mp hc with rfl | hc
    . exact Yt
    . rw [XB (hne c hc)]
      exact w3.tr c (by
        rw [List.flatten_cons, List.flatten_nil, List.append_nil]
        exact List.mem_append_left _ (List.mem_cons_of_mem _ (hin c hc)))
  . intro c hc
    rcases List.mem_cons.mp hc with rfl | hc
    . rfl
    . exact w3.mu c (by
        rw [List.flatten_cons, List.flatten_nil, List.append_nil]
        exact List.mem_append_left _ (List.mem_cons_of_mem _ (hin c hc)))
theorem UB {o : OE α} {h : Hp} {p : Addr} {xs : List V} {as : List α} {R : List Xu} (q : oL o K h (.ref p) as ((p, .lst xs) :: R)) : ∃ Cs, P3 (o K h) xs as Cs /\ R = Cs.flatten:=by
  obtain ⟨p', xs', Cs, e, q, c⟩:=q
  injection c with c1 c2
  injection c1 with c3 c4
  injection c4 with c5
  subst c5
  exact ⟨Cs, q, c2⟩
theorem CM {as : List α} {i : Int} {a : α} {bs : List α} (h : Uf as i a = .ok bs) : ∃ j, ixN as.length i = some j /\ bs = as.set j a:=by
  unfold Uf at h; split at h
  . cases h; exact ⟨_, by assumption, rfl⟩
  . cases h
theorem D0 {as : List α} {i : Int} {a : α} {x : Exc} : Uf as i a ≠ .err x:=by unfold Uf; split <;> exact fun z=>nomatch z
theorem Dc {Cs : List (List Xu)} {j : Nat} {D : List Xu} (hj : j < Cs.length) : ((Cs.set j D).flatten ++ Cs[j]).Perm (Cs.flatten ++ D):=by
  have h1:=XF (OO:=Cs) (k:=j) (C:=Cs[j]) (by simp [hj])
  have h2:=XF (OO:=Cs.set j D) (k:=j) (C:=D) (by simp [hj])
  rw [set_set] at h2
  have h3 : (Cs.set j D).flatten.Perm (D ++ (Cs.set j []).flatten):=by simpa using h2.symm
  have h4 : Cs.flatten.Perm (Cs[j] ++ (Cs.set j []).flatten):=by simpa using h1.symm
  refine (h3.append_right _).trans (List.Perm.trans ?_ (h4.append_right _).symm)
  refine List.perm_append_comm.trans ((List.perm_append_comm.append_left _).trans ?_)
  rw [List.append_assoc]
theorem Qb {D : List Xu} {Cs : List (List Xu)} {H : Hp} {k : Nat} {p : Addr} {xs : List V} (w : W (D :: OO) H) (hk : OO[k]? = some ((p, .lst xs) :: Cs.flatten)) : ((Cs.flatten ++ D).map (·.1)).Nodup:=by
  have h1:=XF hk
  have w3 : W [((p, HO.lst xs) :: (Cs.flatten ++ D)) ++ (OO.set k []).flatten] H:=w.of (by
    simp only [List.flatten_cons, List.flatten_nil, List.append_nil]
    refine List.Perm.trans ?_ ((by simpa using h1 : (((p, HO.lst xs) :: Cs.flatten) ++ (OO.set k []).flatten).Perm OO.flatten).append_left D)
    rw [← List.append_assoc]
    refine List.Perm.append_right _ ?_
    exact (List.perm_append_comm (l₁:=(p, HO.lst xs) :: Cs.flatten) (l₂:=D)))
  have nd:=w3.nd
  simp only [fl, List.flatten_cons, List.flatten_nil, List.append_nil, List.cons_append, List.map_cons] at nd
  have n2:=(List.nodup_cons.mp nd).2
  rw [List.map_append] at n2
  exact (List.nodup_append.mp n2).1
theorem BW {ta : TE} {o : OE α} [MonoO o] {m : Res (List α)} {f : List α -> Res β} {v : V} {as : List α} {C : List Xu} (i k : Nat) (hσ : σ[i]? = some (some v)) (hk : OO[k]? = some C) (hk' : OO'[k]? = some C) (h : ∀ x, S.p x -> oL o K x v as C) (he : Ev K Er S OO OO' σ ta (oL o) m)
    (hr : ∀ bs C', Sv Er (S.addO K (oL o) v (as ++ bs) C') (OO'.set k C') σ u Fd (f (as ++ bs))) : Sv Er S OO σ (ZE (VA (tBM K "list" K9 (QY i) (Xx ta ZF))) u) Fd (m.bind fun bs=>chk (as.length + bs.length <= sizeLine) (f (as ++ bs))):=fun H D w s P=>by
  obtain ⟨p, xs, Cs, e, q, c⟩:=h _ s
  subst c
  have hH : H p = some (.lst xs):=w.tr (p, .lst xs) (List.mem_flatten.mpr ⟨_, List.mem_of_getElem? hk, List.mem_cons_self⟩)
  refine ⟨v, hσ, by rw [e]; exact .inl ⟨rfl, _, SqL.of hH⟩, he.st w s P fun bs y D' H' w' s' ho P'=>?_⟩
  obtain ⟨hsz, P'⟩:=PZ.chk P'
  subst e
  obtain ⟨Cs2, q2, c2⟩:=UB (h _ s')
  obtain ⟨p', zs, Ds, e3, q3, c3⟩:=ho
  subst c3
  have hH' : H' p = some (.lst xs):=w'.tr (p, .lst xs) (by rw [List.flatten_cons]; exact List.mem_append_right _ (List.mem_flatten.mpr ⟨_, List.mem_of_getElem? hk', List.mem_cons_self⟩))
  have hH2 : H' p' = some (.lst zs):=w'.tr (p', .lst zs) (by rw [List.flatten_cons]; exact List.mem_append_left _ List.mem_cons_self)
  have cn:=Qb w' hk'
  obtain ⟨w3, m3⟩:=EF (xs':=xs ++ zs) (Cs':=Cs2 ++ Ds) w' hk' (fun c hc=>by
      rw [List.flatten_append, List.mem_append] at hc
      rcases hc with hc | hc
      . rw [c2]; exact List.mem_append_left _ hc
      . exact List.mem_append_right _ (List.mem_cons_of_mem _ hc)) (by
      rw [List.flatten_append, ← c2]
      refine List.Nodup.sublist (List.Sublist.map _ ?_) cn
      exact List.Sublist.append (List.Sublist.refl _) (List.sublist_cons_self _ _))
  refine ⟨p, p', xs, zs, rfl, by rw [e3], hH', hH2, by rw [q2.len.1, q3.len.1]; exact hsz, ?_⟩
  exact hr bs _ _ D w3 ⟨S.mono _ _ m3 s', ⟨p, _, _, rfl, P3.imp (fun _ _ _ z=>MonoO.mono m3 z) (q2.app q3), rfl⟩⟩ (PZ.tr (fd.tr D) m3 P')
noncomputable def Ft (as : List α) (i : Int) : Res (α × List α):=chk (-(2 ^ 63) <= i /\ i < 2 ^ 63) (match seqIndex? i as.length with
  | none=>.bad
  | some k=>match as[k]? with
    | none=>.bad
    | some a=>.ok (a, as.eraseIdx k))
theorem Cj {as : List α} {i : Int} {p : α × List α} (h : Ft as i = .ok p) : (-(2 ^ 63) <= i /\ i < 2 ^ 63) /\ ∃ k, seqIndex? i as.length = some k /\ as[k]? = some p.1 /\ p.2 = as.eraseIdx k:=by
  obtain ⟨h1, h2⟩:=Zf h
  refine ⟨h1, ?_⟩
  split at h2
  . cases h2
  . split at h2
    . cases h2
    . cases h2; exact ⟨_, by assumption, by assumption, rfl⟩
theorem C6 {as : List α} {i : Int} {x : Exc} : Ft as i ≠ .err x:=by
  unfold Ft chk; split
  . split
    . exact fun z=>nomatch z
    . split <;> exact fun z=>nomatch z
  . exact fun z=>nomatch z
theorem Paired.erase' {F : α -> γ -> Prop} : ∀ {l : List α} {m : List γ} (n : Nat), Paired F l m -> Paired F (l.eraseIdx n) (m.eraseIdx n)
  | _, _, _, .nil=>.nil
  | _, _, 0, .cons _ t=>t
  | _, _, n + 1, .cons r t=>.cons r (Paired.erase' n t)
theorem CN {te ti : TE} {r : Enc α} [MonoE r] {mi : Res Int} {f : α × List α -> Res β} {v : V} {as : List α} {C : List Xu} {D : Ends} {H : Hp} {Q : VK} (i k : Nat) (hσ : σ[i]? = some (some v)) (hk : OO[k]? = some C) (h : ∀ x, S.p x -> oL (oF r) K x v as C) (hi : EvB K Er S OO σ ti Xc mi)
    (w : W OO H) (s : S.p (hid H OO)) (P : PZ Er (Fd D) (hid H OO) (mi.bind fun j=>(Ft as j).bind f))
    (hr : ∀ a bs y C' H', W (OO.set k C') H' -> ((S.add K r y a).addO K (oL (oF r)) v bs C').p (hid H' (OO.set k C')) -> PZ Er (Fd D) (hid H' (OO.set k C')) (f (a, bs)) -> Q y H') : tBM K "list" GF (QY i) (Xx ti ZF) σ H Q:=by
  obtain ⟨p, xs, Cs, e, q, c⟩:=h _ s
  subst c
  have hH : H p = some (.lst xs):=w.tr (p, .lst xs) (List.mem_flatten.mpr ⟨_, List.mem_of_getElem? hk, List.mem_cons_self⟩)
  refine ⟨v, hσ, by rw [e]; exact .inl ⟨rfl, _, SqL.of hH⟩, hi.st w s P fun j z H' s1 w' s' ho P'=>?_⟩
  subst e
  obtain ⟨Cs2, q2, c2⟩:=UB (h _ s')
  obtain ⟨pr, hfl⟩:=P3.flat q2
  cases es : Ft as j with
  | bad=>rw [es] at P'; exact P'.elim
  | err x=>exact absurd es C6
  | ok pp=>
    rw [es] at P'
    obtain ⟨a, bs⟩:=pp
    obtain ⟨h1, kk, h2, h3, h4⟩:=Cj es
    obtain ⟨y, hy, ry⟩:=Paired.getR pr h3
    have w0 : W ([] :: OO) H':=w'.nil
    have hk0 : OO[k]? = some ((p, .lst xs) :: ([] : List (List Xu)).flatten):=by rw [hk, c2, hfl]; rfl
    obtain ⟨w3, m3⟩:=EF (D:=[]) (Cs:=[]) (xs':=xs.eraseIdx kk) (Cs':=List.replicate bs.length []) w0 hk0 (fun c hc=>by rw [X1] at hc; cases hc) (by rw [X1]; exact List.nodup_nil)
    rw [Yc] at m3
    refine ⟨p, xs, j, kk, y, rfl, by rw [show z = .int j from ho], s1 _ _ hH, h1.1, h1.2, by rw [Paired.len pr]; exact h2, hy, ?_⟩
    have pr2 : Paired (r K (hid H' OO)) (xs.eraseIdx kk) bs:=by rw [show bs = as.eraseIdx kk from h4]; exact Paired.erase' kk pr
    exact hr a bs y _ _ w3 ⟨⟨S.mono _ _ m3 s', MonoE.mono m3 ry⟩, ⟨p, _, _, rfl, (P3.of (Paired.imp2 (fun _ _ z=>MonoE.mono m3 z) pr2)).imp fun _ _ _ z=>z, rfl⟩⟩ (PZ.tr (fd.tr D) m3 P')
theorem Di {ti : TE} {r : Enc α} [MonoE r] {mi : Res Int} {f : List α -> List α -> Res β} {v v2 : V} {as zs : List α} {C C2 : List Xu} (i k i2 k2 : Nat) (hne : k2 ≠ k) (hσ : σ[i]? = some (some v)) (hk : OO[k]? = some C) (h : ∀ x, S.p x -> oL (oF r) K x v as C)
    (hσ2 : σ[i2]? = some (some v2)) (hk2 : OO[k2]? = some C2) (h2 : ∀ x, S.p x -> oL (oF r) K x v2 zs C2) (hi : EvB K Er S OO σ ti Xc mi)
    (hr : ∀ a bs C' C2', Sv Er ((S.addO K (oL (oF r)) v bs C').addO K (oL (oF r)) v2 (zs ++ [a]) C2') ((OO.set k C').set k2 C2') σ u Fd (f bs (zs ++ [a]))) :
    Sv Er S OO σ (ZE (VA (tBM K "list" Q5 (QY i2) (Xx (tBM K "list" GF (QY i) (Xx ti ZF)) ZF))) u) Fd (mi.bind fun j=>(Ft as j).bind fun p=>chk (zs.length < sizeLine) (f p.2 (zs ++ [p.1]))):=fun H D w s P=>by
  obtain ⟨p2, xs2, Cs2, e2, q2, c2⟩:=h2 _ s
  subst c2
  have hH2 : H p2 = some (.lst xs2):=w.tr (p2, .lst xs2) (List.mem_flatten.mpr ⟨_, List.mem_of_getElem? hk2, List.mem_cons_self⟩)
  refine ⟨v2, hσ2, by rw [e2]; exact .inl ⟨rfl, _, SqL.of hH2⟩, CN (te:=ti) i k hσ hk h hi w s P fun a bs y C' H' w' s' P'=>?_⟩
  obtain ⟨hsz, P'⟩:=PZ.chk P'
  subst e2
  obtain ⟨Cs3, q3, c3⟩:=UB (h2 _ s'.1.1)
  obtain ⟨pr, hfl⟩:=P3.flat q3
  have hkk : (OO.set k C')[k2]? = some ((p2, HO.lst xs2) :: ([] : List (List Xu)).flatten):=by
    rw [List.getElem?_set_ne (fun e=>hne e.symm), hk2, c3, hfl]; rfl
  have hH3 : H' p2 = some (.lst xs2):=w'.tr (p2, .lst xs2) (List.mem_flatten.mpr ⟨_, List.mem_of_getElem? hkk, List.mem_cons_self⟩)
  obtain ⟨w3, m3⟩:=EF (D:=[]) (Cs:=[]) (xs':=xs2 ++ [y]) (Cs':=List.replicate (zs ++ [a]).length []) w'.nil hkk (fun c hc=>by rw [X1] at hc; cases hc) (by rw [X1]; exact List.nodup_nil)
  rw [Yc] at m3
  refine ⟨p2, xs2, y, rfl, rfl, hH3, by rw [Paired.len pr]; exact hsz, ?_⟩
  refine hr a bs C' _ _ D w3 ⟨⟨S.mono _ _ m3 s'.1.1, (SC.oneO K (oL (oF r)) v bs C').mono _ _ m3 s'.2⟩, ⟨p2, _, _, rfl, (P3.of (Paired.app (Paired.imp2 (fun _ _ z=>MonoE.mono m3 z) pr) (.cons (MonoE.mono m3 (show r K _ y a from s'.1.2)) .nil))).imp fun _ _ _ z=>z, rfl⟩⟩ (PZ.tr (fd.tr D) m3 P')
theorem Dm {ta tb : TE} {r : Enc α} {q : Enc γ} [z : MonoE r] [MonoE q] {ma : Res α} {mb : Res γ} {f : α -> γ -> Res β} (i j : Nat) (ha : EvS K Er S OO σ ta r ma) (hb : EvS K Er S OO σ tb q mb)
    (hr : ∀ a b v w, Sv Er ((S.add K r v a).add K q w b) OO ((σ.set i (some v)).set j (some w)) u Fd (f a b)) : Sv Er S OO σ (ZE (Hn i j (Xx ta (Xx tb ZF))) u) Fd (ma.bind fun a=>mb.bind fun b=>f a b):=fun H D w s P=>
  ha.st w s P fun a x H1 s1 w1 q1 r1 P1=>hb.st w1 q1 P1 fun b y H2 s2 w2 q2 r2 P2=>⟨x, y, rfl, hr a b x y H2 D w2 ⟨⟨q2, z.mono (Xj s2) r1⟩, r2⟩ P2⟩
class TyE {α : Type} (r : Enc α) (n : outParam String) : Prop where
  ty : ∀ {K : PySem.W.Frag} {H : Hp} {v : V} {a : α}, r K H v a -> TyOf K H v (.type n)
instance : TyE Xc "int":=⟨fun {K H v a} h=>by cases (show v = .int a from h); exact .int a⟩
instance : TyE XM "bool":=⟨fun {K H v a} h=>by cases (show v = .bl a from h); exact .bl a⟩
instance {r : Enc α} : TyE (rV r) "list":=⟨fun ⟨p, xs, e, q, _⟩=>by subst e; exact .lst q⟩
instance {r : Enc α} : TyE (rPL r) "tuple":=⟨fun h9=>(by obtain ⟨p, xs, e, q, _⟩:=h9; subst e; exact .tup q)⟩
instance {r : Enc α} {q : Enc γ} : TyE (rP2 r q) "tuple":=⟨fun h9=>(by obtain ⟨p, x, y, e, q, _⟩:=h9; subst e; exact .tup q)⟩
instance {r : Enc α} {q : Enc γ} {t : Enc δ} : TyE (rP3 r q t) "tuple":=⟨fun h9=>(by obtain ⟨p, x, y, z, e, q, _⟩:=h9; subst e; exact .tup q)⟩
theorem Zn {te : TE} {r : Enc α} {n : String} [z : TyE r n] {m : Res α} (t : String) (b : Bool) (hk : PySem.W.kitOne K (.type n) (.type t) = some b) (he : EvB K Er S OO σ te r m) :
    EvB K Er S OO σ (tCB (fun xs H Q=>∃ x n t b, xs = [x, .ty n] /\ TyOf K H x t /\ PySem.W.kitOne K t (.type n) = some b /\ Q (.bl b) H) (Xx te (Xx (tC (.ty t)) ZF))) XM (m.bind fun _=>.ok b):=fun H Q w s P=>
  he.run w s FB.tr P fun a x H1 s1 w1 q1 r1 P1=>⟨x, t, .type n, b, rfl, z.ty r1, hk, P1 _ H1 (Xm.refl _) rfl⟩
theorem GQ {ta : TE} {ma : Res Int} (ha : EvB K Er S OO σ ta Xc ma) : EvB K Er S OO σ (tCB (fun xs H Q=>∃ i : Int, xs = [.int i] /\ Q (.int (if i < 0 then -i else i)) H) (Xx ta ZF)) Xc (ma.bind fun a=>.ok (a.natAbs : Int)):=fun H Q w s P=>
  ha.run w s FB.tr P fun a x H1 s1 w1 q1 r1 P1=>⟨a, by rw [show x = .int a from r1], P1 _ H1 (Xm.refl _) (by show V.int _ = V.int _; congr 1; omega)⟩
end
end L2
namespace L2
open PySem PySem.Spec PyProof.Rows
section
variable {K : PySem.W.Frag} {Er : Exc -> Hp -> Prop} {S : SC} {OO OO' OO1 OO2 : List (List Xu)} {σ : St} {α β γ ρ ι δ ε : Type}
variable {Fd : Ends -> β -> Hp -> Prop} [fd : FdOk Fd] {u : TS}
theorem Bx (n : Nat) (H : Hp) : W (List.replicate n []) H:=⟨fun c hc=>(by rw [X1] at hc; cases hc), (by unfold fl; rw [X1]; exact List.nodup_nil), fun c hc=>(by rw [X1] at hc; cases hc)⟩
theorem Fs (n : Nat) (H : Hp) : hid H (List.replicate n []) = H:=by funext b; unfold hid fl; rw [X1]; simp
theorem El {o : OE ρ} [z : MonoO o] {Q : VK} {b : ρ} {H : Hp} (q : FF K o Q b H) : ∀ v C OO' H', W (C :: OO') H' -> Xm H (hid H' (C :: OO')) -> o K (hid H' (C :: OO')) v b C -> Q v H':=fun v C OO' H' w m ho=>by
  have hs : Xm (hid H' (C :: OO')) (hid H' [C]):=Zi (Xm.refl _) fun b hb=>by
    rw [XQ]
    refine List.mem_append_left _ ?_
    simpa [fl] using hb
  exact q v C H' (w.sub (by simp)) (m.trans hs) (z.mono hs ho)
theorem Y5 {o : OE ρ} [MonoO o] {t : TS} {m : Res ρ} {Q : VK} {b : ρ} {H : Hp} {D : Ends} (n : Nat) (h : Sv (fun _ _=>False) S (List.replicate n []) σ t (FTd K o) m) (hs : S.p H) (hm : m = .ok b) (q : FF K o Q b H) (hD : D.rt = Q) : t D σ H:=by
  refine h H D (Bx n H) (by rw [Fs]; exact hs) ?_
  subst hm
  rw [Fs]
  intro v C OO' H' w mm ho
  rw [hD]
  exact El q v C OO' H' w mm ho
noncomputable def oU : OE Unit:=fun _ _ v _ C=>v = .non /\ C = []
instance : MonoO oU:=⟨fun _ h=>h⟩
instance : FlatO oU:=⟨fun _ h=>h⟩
noncomputable def rU0 : Enc Unit:=fun _ _ v _=>v = .non
instance : FlatE rU0:=⟨fun _ h=>h⟩
instance : FrzC oU rU0:=⟨fun h _ _=>h.1⟩
theorem ET {J : Jn Unit ι} {t : TS} {m : Res Unit} {Q : VK} {b : Unit} {H : Hp} {D : Ends} (n : Nat) (h : Sv (fun _ _=>False) S (List.replicate n []) σ t (FNd J) m) (hs : S.p H) (hm : m = .ok b) (q : FF K oU Q b H) (hD : ∀ σ H, D.nx σ H = Q .non H) : t D σ H:=by
  refine h H D (Bx n H) (by rw [Fs]; exact hs) ?_
  subst hm
  rw [Fs]
  intro x H' w mm ho
  rw [hD]
  have hs : Xm (hid H' (J.oo x)) (hid H' [[]]):=Zi (Xm.refl _) fun b hb=>by simp [fl] at hb
  exact q .non [] H' ⟨fun c hc=>by simp at hc, by simp [fl], fun c hc=>by simp at hc⟩ (mm.trans hs) ⟨rfl, rfl⟩
theorem DP {te : TE} {r : Enc α} {m : Res α} {f : Res β} (he : EvB K Er S OO σ te r m) (hr : Sv Er S OO σ u Fd f) : Sv Er S OO σ (ZE (VA te) u) Fd (m.bind fun _=>f):=fun H D w s P=>
  he.st w s P fun a v H' s1 w' s' ho P'=>hr H' D w' s' P'
noncomputable def FAO {α : Type} (K : PySem.W.Frag) (OO OO' : List (List Xu)) (o : OE α) (Q : List V -> Hp -> Prop) (as : List α) (H : Hp) : Prop:=∀ vs Cs H', Xm H H' -> W (Cs.flatten :: OO') H' -> Xm (hid H OO) (hid H' (Cs.flatten :: OO')) -> P3 (o K (hid H' (Cs.flatten :: OO'))) vs as Cs -> Q vs H'
noncomputable def ED {α : Type} (K : PySem.W.Frag) (Er : Exc -> Hp -> Prop) (S : SC) (OO OO' : List (List Xu)) (σ : St) (t : TA) (o : OE α) (m : Res (List α)) : Prop:=∀ H Q, W OO H -> S.p (hid H OO) -> PZ Er (FAO K OO OO' o Q) H m -> t σ H Q
theorem Va {o : OE α} : ED K Er S OO OO σ ZF o (.ok []):=fun H Q w s P=>P [] [] H (Xm.refl _) w.nil (by show Xm _ (hid H ([] :: OO)); rw [Yc]; exact Xm.refl _) .nil
theorem Zj {te : TE} {t : TA} {o : OE α} [z : MonoO o] {m : Res α} {n : Res (List α)} (he : Ev K Er S OO OO1 σ te o m) (ht : ∀ C, ED K Er S (C :: OO1) (C :: OO2) σ t o n) : ED K Er S OO OO2 σ (Xx te t) o (m.bind fun a=>n.bind fun as=>.ok (a :: as)):=fun H Q w s P=>by
  refine he H _ w s ?_
  cases em : m with
  | bad=>rw [em] at P; exact P
  | err x=>rw [em] at P; exact P
  | ok a=>
    rw [em] at P
    intro v C H1 s1 w1 m1 ho
    refine ht C H1 _ w1 (S.mono _ _ m1 s) ?_
    have P1 : PZ Er (FAO K OO OO2 o Q) H (n.bind fun as=>.ok (a :: as)):=P
    cases en : n with
    | bad=>rw [en] at P1; exact P1
    | err x=>rw [en] at P1; exact fun H2 s2=>P1 H2 (s1.trans s2)
    | ok as=>
      rw [en] at P1
      have P1 : FAO K OO OO2 o Q (a :: as) H:=P1
      intro vs Cs H2 s2 w2 m2 pr
      have pe : ((C :: Cs).flatten :: OO2).flatten.Perm (Cs.flatten :: C :: OO2).flatten:=by
        simp only [List.flatten_cons]
        rw [← List.append_assoc]
        exact List.perm_append_comm.append_right _
      refine P1 (v :: vs) (C :: Cs) H2 (s1.trans s2) (w2.of pe) ?_ ?_
      . rw [XG pe]; exact m1.trans m2
      . rw [XG pe]; exact .cons (z.mono m2 ho) pr
theorem Uk {t : TA} {o : OE α} [z : MonoO o] {m : Res (List α)} (h : ED K Er S OO OO σ t o m) : Ev K Er S OO OO σ (Fk t) (oL o) (m.bind fun as=>chk (as.length <= sizeLine) (.ok as)):=fun H Q w s P=>by
  refine h H _ w s ?_
  cases e : m with
  | bad=>rw [e] at P; exact P
  | err x=>rw [e] at P; exact P
  | ok as=>
    rw [e] at P
    obtain ⟨hsz, P⟩:=PZ.chk (show PZ Er _ H (chk (as.length <= sizeLine) (.ok as)) from P)
    intro vs Cs H1 s1 w1 m1 p
    exact ⟨by rw [p.len.1]; exact hsz, Ca w1 m1 s1 p P⟩
class InE {α : Type} [DecidableEq α] (r : Enc α) : Prop where
  fl : ∀ {K : PySem.W.Frag} {H : Hp} {x : V} {a : α}, r K H x a -> QJ x = true
  eq : ∀ {K : PySem.W.Frag} {H H' : Hp} {x y : V} {a b : α}, r K H x a -> r K H' y b -> eqV x y = decide (a = b)
instance : InE Xc:=⟨fun {K H x a} h=>by cases (show x = .int a from h); rfl, fun {K H H' x y a b} h h'=>by
  cases (show x = .int a from h); cases (show y = .int b from h'); show (a == b) = _; rw [FU]⟩
theorem Qr [DecidableEq α] {r : Enc α} [z : InE r] {H H' : Hp} {x : V} {a : α} (hx : r K H x a) : ∀ {xs : List V} {as : List α}, Paired (r K H') xs as -> xs.all QJ = true /\ inV x xs = decide (a ∈ as)
  | _, _, .nil=>⟨rfl, by simp [inV]⟩
  | _, _, .cons h t=>by
    obtain ⟨h1, h2⟩:=Qr hx t
    refine ⟨by rw [List.all_cons, h1, z.fl h]; rfl, ?_⟩
    unfold inV at h2 ⊢
    rw [List.any_cons, h2, z.eq h hx, Bool.eq_iff_iff, Bool.or_eq_true, decide_eq_true_eq, decide_eq_true_eq, decide_eq_true_eq, List.mem_cons]
    exact or_congr ⟨Eq.symm, Eq.symm⟩ Iff.rfl
theorem B3 [DecidableEq α] {ta tb : TE} {r : Enc α} [z : InE r] {ma : Res α} {mb : Res (List α)} (ha : EvB K Er S OO σ ta r ma) (hb : EvB K Er S OO σ tb (rV r) mb) : EvB K Er S OO σ (tOp (rIn K false) ta tb) XM (ma.bind fun a=>mb.bind fun as=>.ok (decide (a ∈ as))):=fun H Q w s P=>
  ha.run w s FB.tr P fun a x H1 s1 w1 q1 r1 P1=>hb.run w1 q1 FB.tr P1 fun b y H2 s2 w2 q2 ⟨p, xs, e, q, pr⟩ P2=>by
    obtain ⟨h1, h2⟩:=Qr r1 pr
    exact ⟨p, xs, e, .inl (SqL.of q), z.fl r1, h1, P2 _ H2 (Xm.refl _) (by rw [h2]; rfl)⟩
theorem Cq [DecidableEq α] {ta tb : TE} {r : Enc α} [z : InE r] {ma : Res α} {mb : Res (List α)} (ha : EvB K Er S OO σ ta r ma) (hb : EvB K Er S OO σ tb (rV r) mb) : EvB K Er S OO σ (tOp (rIn K true) ta tb) XM (ma.bind fun a=>mb.bind fun as=>.ok (!decide (a ∈ as))):=fun H Q w s P=>
  ha.run w s FB.tr P fun a x H1 s1 w1 q1 r1 P1=>hb.run w1 q1 FB.tr P1 fun b y H2 s2 w2 q2 ⟨p, xs, e, q, pr⟩ P2=>by
    obtain ⟨h1, h2⟩:=Qr r1 pr
    exact ⟨p, xs, e, .inl (SqL.of q), z.fl r1, h1, P2 _ H2 (Xm.refl _) (by rw [h2]; rfl)⟩
noncomputable def Bf [DecidableEq α] (as : List α) (a : α) : Res Int:=match as.findIdx? (fun b=>decide (b = a)) with
  | some j=>.ok (j : Int)
  | none=>.bad
theorem Km [DecidableEq α] {r : Enc α} [z : InE r] {H H' : Hp} {x : V} {a : α} (hx : r K H x a) {xs : List V} {as : List α} (p : Paired (r K H') xs as) {j : Nat} (hj : as.findIdx? (fun b=>decide (b = a)) = some j) :
    (∃ y, xs[j]? = some y /\ eqV y x = true) /\ ∀ (m : Nat) y, m < j -> xs[m]? = some y -> eqV y x = false:=by
  rw [List.findIdx?_eq_some_iff_getElem] at hj
  obtain ⟨h1, h2, h3⟩:=hj
  constructor
  . obtain ⟨y, hy, ry⟩ := Paired.getR p (i := j) (b := as[j]) (by simp [h1])
    exact ⟨y, hy, by rw [z.eq ry hx]; exact h2⟩
  . intro m y hm hy
    obtain ⟨b, hb, rb⟩:=Paired.getL p hy
    have hml : m < as.length:=by omega
    have e : b = as[m]:=by rw [List.getElem?_eq_getElem hml] at hb; exact (Option.some.inj hb).symm
    rw [z.eq rb hx, e]
    have:=h3 m hm
    simpa using this
theorem Bb [DecidableEq α] {as : List α} {a : α} {x : Exc} : Bf as a ≠ .err x:=by unfold Bf; split <;> exact fun z=>nomatch z
theorem CS [DecidableEq α] {as : List α} {a : α} {n : Int} (h : Bf as a = .ok n) : ∃ j : Nat, as.findIdx? (fun b=>decide (b = a)) = some j /\ n = j:=by
  unfold Bf at h; split at h
  . cases h; exact ⟨_, by assumption, rfl⟩
  . cases h
theorem UG {ta tb : TE} {r : Enc α} {m : Res (Option α)} (ha : EvB K Er S OO σ ta (ZG r) m) : EvB K Er S OO σ (tOp (fun x y H Q=>y = .non /\ Q (.bl (decide (x = .non))) H) ta (tC .non)) XM (m.bind fun a=>.ok a.isNone):=fun H Q w s P=>
  ha.run w s FB.tr P fun a x H1 s1 w1 q1 r1 P1=>⟨rfl, P1 _ H1 (Xm.refl _) (by
    cases a with
    | none=>rw [show x = .non from r1]; rfl
    | some a=>show V.bl _ = V.bl _; rw [decide_eq_false r1.1]; rfl)⟩
theorem Fu {ta tb : TE} {r : Enc α} {m : Res (Option α)} (ha : EvB K Er S OO σ ta (ZG r) m) : EvB K Er S OO σ (tOp (fun x y H Q=>y = .non /\ Q (.bl (!decide (x = .non))) H) ta (tC .non)) XM (m.bind fun a=>.ok a.isSome):=fun H Q w s P=>
  ha.run w s FB.tr P fun a x H1 s1 w1 q1 r1 P1=>⟨rfl, P1 _ H1 (Xm.refl _) (by
    cases a with
    | none=>rw [show x = .non from r1]; rfl
    | some a=>show V.bl _ = V.bl _; rw [decide_eq_false r1.1]; rfl)⟩
theorem CO {α : Type} [DecidableEq α] {r r' : Enc α} {d : Nat} (E : EqOk r d) (h : ∀ {K : PySem.W.Frag} {H : Hp} {v : V} {a : α}, r' K H v a -> r K H v a) (m : MonoE r') : EqOk r' d where
  uniq:=fun I h1 h2=>E.uniq I (h h1) (h h2)
  eq:=fun I rx ry h1 h2 hu=>E.eq I rx ry (h h1) (h h2) hu
  rc:=fun I rx ry h1 h2 hu=>E.rc I rx ry (h h1) (h h2) hu
  ne:=fun I rx ry h1 h2 hu=>E.ne I rx ry (h h1) (h h2) hu
  keep:=fun s q=>m.mono s q
theorem DX {α : Type} [DecidableEq α] {r : Enc α} {d : Nat} [m : MonoE r] (E : EqOk r d) : EqOk (rV r) (d + 1):=CO (GL E) (fun ⟨a, xs, e, q, p⟩=>⟨a, xs, e, SqL.of q, p⟩) inferInstance
end
end L2
namespace L2
open PySem PySem.Spec PyProof.Rows
section
variable {K : PySem.W.Frag} {Er : Exc -> Hp -> Prop} {S : SC} {OO OO' OO1 OO2 : List (List Xu)} {σ : St} {α β γ ρ ι δ ε : Type}
variable {Fd : Ends -> β -> Hp -> Prop} [fd : FdOk Fd] {u : TS}
theorem BJ {c : TT} {t1 : TS} {mc : Res Bool} {m2 : Res β} (hc : EvT Er S OO σ c mc) (h2 : Sv Er S OO σ u Fd m2) : Sv Er S OO σ (ZE (Cb c t1 ZX) u) Fd (mc.bind fun b=>if b = true then .bad else m2):=fun H D w s P=>
  hc.st w s P fun b H' w' s' P'=>by
    cases b with
    | true=>rw [if_pos rfl] at P'; exact P'.elim
    | false=>exact h2 H' D w' s' P'
theorem V4 : ∀ {l : List Xu} {a b : Xu}, (l.map (·.1)).Nodup -> a ∈ l -> b ∈ l -> a.1 = b.1 -> a = b
  | [], _, _, _, h, _, _=>by cases h
  | c :: l, a, b, n, ha, hb, e=>by
    rw [List.map_cons, List.nodup_cons] at n
    cases ha with
    | head=>cases hb with
      | head=>rfl
      | tail _ hb=>exact absurd (List.mem_map.mpr ⟨b, hb, e.symm⟩) n.1
    | tail _ ha=>cases hb with
      | head=>exact absurd (List.mem_map.mpr ⟨a, ha, e⟩) n.1
      | tail _ hb=>exact V4 n.2 ha hb e
theorem QM {Cs : List (List Xu)} {k : Nat} {C : List Xu} (h : Cs[k]? = some C) : ∀ c ∈ C, c ∈ Cs.flatten:=fun c hc=>List.mem_flatten.mpr ⟨C, List.mem_of_getElem? h, hc⟩
theorem BR {as : List α} {i : Int} {a : α} (h : atR as i = .ok a) : ∃ k, ixN as.length i = some k /\ as[k]? = some a:=by
  have:=Fc h
  unfold atI at this
  cases e : ixN as.length i with
  | none=>rw [e] at this; cases this
  | some k=>rw [e] at this; exact ⟨k, rfl, this⟩
theorem KJ {r : Enc α} [z : MonoE r] {v : V} {as : List (List α)} {row row' : List α} {H : Hp} {p q : Addr} {xs ys ys' : List V} {Cs : List (List Xu)} {k kk : Nat} (w : W OO H) (hk : OO[k]? = some ((p, .lst xs) :: Cs.flatten)) (hP : P3 (oL (oF r) K (hid H OO)) xs as Cs) (hrow : as[kk]? = some row)
    (hx : xs[kk]? = some (.ref q)) (hq : H q = some (.lst ys)) (hcs : Cs[kk]? = some [(q, .lst ys)]) (pr : Paired (r K (hid H OO)) ys' row') :
    ∃ C', W (OO.set k C') (upd H q (.lst ys')) /\ Xm (hid H OO) (hid (upd H q (.lst ys')) (OO.set k C')) /\ oL (oL (oF r)) K (hid (upd H q (.lst ys')) (OO.set k C')) (.ref p) (as.set kk row') C':=by
  have hkl : kk < Cs.length:=by
    rcases Nat.lt_or_ge kk Cs.length with h | h
    . exact h
    . rw [List.getElem?_eq_none h] at hcs; cases hcs
  have hin : ∀ c ∈ (p, HO.lst xs) :: Cs.flatten, c ∈ OO.flatten:=fun c hc=>List.mem_flatten.mpr ⟨_, List.mem_of_getElem? hk, hc⟩
  have w0 : W ([] :: OO) H:=w.nil
  have cn0:=Qb w0 hk
  rw [List.append_nil] at cn0
  have e0 : Cs[kk] = [(q, .lst ys)]:=by
    rw [List.getElem?_eq_getElem hkl] at hcs; exact Option.some.inj hcs
  have hp:=Dc (Cs:=Cs) (j:=kk) (D:=[(q, HO.lst ys')]) hkl
  rw [e0] at hp
  have hpm : ((Cs.set kk [(q, HO.lst ys')]).flatten.map (·.1)).Perm (Cs.flatten.map (·.1)):=by
    have:=hp.map (·.1)
    simp only [List.map_append, List.map_cons, List.map_nil] at this
    exact (List.perm_append_right_iff _).mp this
  have hpne : p ∉ Cs.flatten.map (·.1):=by
    have h1:=XF hk
    have:=(w.of (OO':=((p, HO.lst xs) :: Cs.flatten) :: OO.set k []) h1).nd
    rw [XQ, List.map_cons, List.cons_append, List.nodup_cons] at this
    exact fun z=>this.1 (List.mem_append_left _ z)
  have hqC : q ∈ Cs.flatten.map (·.1):=List.mem_map.mpr ⟨(q, .lst ys), QM hcs _ (by simp), rfl⟩
  have hpq : p ≠ q:=fun e=>hpne (e ▸ hqC)
  have hcells : ∀ c ∈ (p, HO.lst xs) :: (Cs.set kk [(q, HO.lst ys')]).flatten, upd H q (.lst ys') c.1 = some c.2 /\ Bk c.2 = true:=fun c hc=>by
    rcases List.mem_cons.mp hc with rfl | hc
    . rw [XB hpq]; exact ⟨w.tr _ (hin _ List.mem_cons_self), rfl⟩
    . obtain ⟨D, hD, hcD⟩ := List.mem_flatten.mp hc
      rcases List.mem_or_eq_of_mem_set hD with hD | hD
      . by_cases hcq : c.1 = q
        . -- a cell at q in another place: then it is this one
          have hc2 : c ∈ (Cs.set kk [(q, HO.lst ys')]).flatten:=hc
          have n1 : ((Cs.set kk [(q, HO.lst ys')]).flatten.map (·.1)).Nodup:=hpm.nodup_iff.mpr cn0
          have hm : (q, HO.lst ys') ∈ (Cs.set kk [(q, HO.lst ys')]).flatten:=List.mem_flatten.mpr ⟨[(q, .lst ys')], List.mem_set (by simpa using hkl) _, by simp⟩
          have e1 : c = (q, HO.lst ys'):=by
            have:=V4 n1 hc2 hm hcq
            exact this
          rw [e1]; exact ⟨Yt, rfl⟩
        . rw [XB hcq]
          have : c ∈ OO.flatten:=hin c (List.mem_cons_of_mem _ (List.mem_flatten.mpr ⟨D, hD, hcD⟩))
          exact ⟨w.tr c this, w.mu c this⟩
      . rw [hD] at hcD
        have e1 : c = (q, HO.lst ys'):=by simpa using hcD
        rw [e1]; exact ⟨Yt, rfl⟩
  have hq' : q ∈ (Cs.set kk [(q, HO.lst ys')]).flatten.map (·.1):=hpm.mem_iff.mpr hqC
  obtain ⟨w2, m2⟩:=B6 (C':=(p, .lst xs) :: (Cs.set kk [(q, HO.lst ys')]).flatten) (p:=q) (o:=.lst ys') w0 hk (List.mem_cons_of_mem _ hqC) (List.mem_cons_of_mem _ hq') (by
      rw [List.map_cons, List.nodup_cons]
      exact ⟨fun z=>hpne (hpm.mem_iff.mp z), hpm.nodup_iff.mpr cn0⟩) (fun b hb=>by
      rw [List.append_nil]
      rcases List.mem_cons.mp hb with rfl | hb
      . exact List.mem_cons_self
      . exact List.mem_cons_of_mem _ (hpm.mem_iff.mp hb)) (fun c hc=>(hcells c hc).1) fun c hc=>(hcells c hc).2
  rw [Yc] at m2
  have e3 : xs.set kk (.ref q) = xs:=by
    apply List.ext_getElem?
    intro n
    by_cases hn : n = kk
    . subst hn
      rw [hx, List.getElem?_set_self (by
        rcases Nat.lt_or_ge n xs.length with h | h
        . exact h
        . rw [List.getElem?_eq_none h] at hx; cases hx)]
    . rw [List.getElem?_set_ne (fun e=>hn e.symm)]
  refine ⟨_, w2, m2, ⟨p, xs, Cs.set kk [(q, HO.lst ys')], rfl, ?_, rfl⟩⟩
  have:=P3.set (F:=oL (oF r) K (hid (upd H q (.lst ys')) (OO.set k ((p, .lst xs) :: (Cs.set kk [(q, HO.lst ys')]).flatten)))) (a:=V.ref q) (b:=row') (c:=[(q, HO.lst ys')])
    ⟨q, ys', List.replicate row'.length [], rfl, (P3.of (Paired.imp2 (fun _ _ h=>z.mono m2 h) pr)).imp fun _ _ _ h=>h, by rw [X1]⟩ kk (P3.imp (fun _ _ _ h=>MonoO.mono m2 h) hP)
  rw [e3] at this
  exact this
theorem Gd {r : Enc α} {h : Hp} {as : List (List α)} {xs : List V} {Cs : List (List Xu)} {kk : Nat} {row : List α} (q : P3 (oL (oF r) K h) xs as Cs) (hrow : as[kk]? = some row) : ∃ q0 ys, xs[kk]? = some (.ref q0) /\ Cs[kk]? = some [(q0, .lst ys)] /\ Paired (r K h) ys row:=by
  obtain ⟨x, c, h1, h2, p, ys, Ds, e, h3, h4⟩:=q.get hrow
  obtain ⟨h5, h6⟩:=P3.flat h3
  rw [h6] at h4
  exact ⟨p, ys, by rw [h1, e], by rw [h2, h4], h5⟩
theorem JO {F : V -> α -> Prop} {y : V} {a : α} (r : F y a) : ∀ {l : List V} {m : List α} (i : Nat), Paired F l m -> Paired F (l.set i y) (m.set i a)
  | _, _, _, .nil=>.nil
  | _, _, 0, .cons _ t=>.cons r t
  | _, _, i + 1, .cons q t=>.cons q (JO r i t)
theorem KU {ta ti tj : TE} {r : Enc α} [z : MonoE r] {m : Res α} {mi mj : Res Int} {f : List (List α) -> Res β} {v : V} {as : List (List α)} {C : List Xu} (i k : Nat) (hσ : σ[i]? = some (some v)) (hk : OO[k]? = some C) (h : ∀ x, S.p x -> oL (oL (oF r)) K x v as C) (he : EvS K Er S OO σ ta r m)
    (hi : EvB K Er S OO σ ti Xc mi) (hj : EvB K Er S OO σ tj Xc mj)
    (hr : ∀ bs C', Sv Er (S.addO K (oL (oL (oF r))) v bs C') (OO.set k C') σ u Fd (f bs)) :
    Sv Er S OO σ (ZE (Bh ta (Hl (tOp (BE K) (QY i) ti) tj Eb)) u) Fd (m.bind fun a=>mi.bind fun x=>(atR as x).bind fun row=>mj.bind fun y=>(Uf row y a).bind fun row'=>(Uf as x row').bind f):=fun H D w s P=>
  he.st w s P fun a va H1 s1 w1 q1 r1 P1=>⟨v, hσ, hi.st w1 q1 P1 fun x vx H2 s2 w2 q2 r2 P2=>by
    cases ea : atR as x with
    | bad=>rw [ea] at P2; exact P2.elim
    | err ex=>exact absurd ea KL
    | ok row=>
      rw [ea] at P2
      obtain ⟨kk, hkk, hrow⟩:=BR ea
      obtain ⟨p, xs, Cs, e, q, c⟩:=h _ q2
      subst c e
      obtain ⟨q0, ys, g1, g2, g3⟩:=Gd q hrow
      have hin : ∀ c ∈ (p, HO.lst xs) :: Cs.flatten, c ∈ OO.flatten:=fun c hc=>List.mem_flatten.mpr ⟨_, List.mem_of_getElem? hk, hc⟩
      have hH : H2 p = some (.lst xs):=w2.tr (p, .lst xs) (hin _ List.mem_cons_self)
      have hq0 : H2 q0 = some (.lst ys):=w2.tr (q0, .lst ys) (hin _ (List.mem_cons_of_mem _ (QM g2 _ (by simp))))
      refine ⟨p, xs, x, .ref q0, rfl, r2, SqL.of hH, by unfold atI; rw [q.len.1, hkk]; exact g1, hj.st w2 q2 (f:=fun y=>(Uf row y a).bind fun row'=>(Uf as x row').bind f) P2 fun y vy H3 s3 w3 q3 r3 P3'=>?_⟩
      cases eb : Uf row y a with
      | bad=>rw [eb] at P3'; exact P3'.elim
      | err ex=>exact absurd eb D0
      | ok row'=>
        rw [eb] at P3'
        obtain ⟨jj, hjj, rfl⟩:=CM eb
        have P4 : PZ Er (Fd D) (hid H3 OO) (f (as.set kk (row.set jj a))):=by
          have e5 : Uf as x (row.set jj a) = .ok (as.set kk (row.set jj a)):=by unfold Uf; rw [hkk]
          have : PZ Er (Fd D) (hid H3 OO) ((Uf as x (row.set jj a)).bind f):=P3'
          rw [e5] at this
          exact this
        have m3:=Xj (OO:=OO) s3
        obtain ⟨C', w4, m4, o4⟩:=KJ (ys':=ys.set jj va) (row':=row.set jj a) (v:=.ref p) w3 hk (P3.imp (fun _ _ _ h=>MonoO.mono m3 h) q) hrow g1 (s3 _ _ hq0) g2 (JO (z.mono ((Xj s2).trans m3) r1) jj (Paired.imp2 (fun _ _ h=>z.mono m3 h) g3))
        exact ⟨q0, ys, y, jj, rfl, r3, s3 _ _ hq0, by rw [Paired.len g3]; exact hjj, hr _ C' _ D w4 ⟨S.mono _ _ m4 q3, o4⟩ (PZ.tr (fd.tr D) m4 P4)⟩⟩
theorem F0 {f : List (List Int) -> Res β} {v : V} {as : List (List Int)} {C : List Xu} (i j k : Nat) (n : Int) (hσ : σ[i]? = some (some v)) (hij : i ≠ j) (hjl : j < σ.length) (hk : OO[k]? = some C) (h : ∀ x, S.p x -> oL (oL (oF Xc)) K x v as C)
    (hr : ∀ C' w, Sv Er (S.addO K (oL (oL (oF Xc))) v (as.map (· ++ [n])) C') (OO.set k C') (σ.set j w) u Fd (f (as.map (· ++ [n])))) :
    Sv Er S OO σ (ZE (De (J9 K (QY i)) (ZW j) (ZE (VA (tBM K "list" Q5 (QY j) (Xx (tC (.int n)) ZF))) ZX)) u) Fd (chk (∀ row ∈ as, row.length < sizeLine) (f (as.map (· ++ [n])))):=fun H D w s P=>by
  obtain ⟨hsz, P⟩:=PZ.chk P
  obtain ⟨p, xs, Cs0, e, q, c⟩:=h _ s
  subst c e
  have hkl : k < OO.length:=by
    rcases Nat.lt_or_ge k OO.length with h | h
    . exact h
    . rw [List.getElem?_eq_none h] at hk; cases hk
  have hin : ∀ {Cs : List (List Xu)}, (p, HO.lst xs) ∈ (OO.set k ((p, .lst xs) :: Cs.flatten)).flatten:=fun {Cs}=>List.mem_flatten.mpr ⟨_, List.mem_set hkl _, List.mem_cons_self⟩
  have hOO : OO.set k ((p, .lst xs) :: Cs0.flatten) = OO:=by
    apply List.ext_getElem?
    intro m
    by_cases hm : m = k
    . subst hm; rw [List.getElem?_set_self hkl, hk]
    . rw [List.getElem?_set_ne (fun e=>hm e.symm)]
  have hH : H p = some (.lst xs):=w.tr (p, .lst xs) (by rw [← hOO]; exact hin)
  refine ⟨.ref p, hσ, p, rfl, ⟨xs, SqL.of hH⟩, ?_⟩
  refine QQ (K:=K) (a:=p) (xs:=xs) (fun t σ' H'=>∃ Cs wv, σ' = σ.set j wv /\ W (OO.set k ((p, .lst xs) :: Cs.flatten)) H' /\ Xm (hid H OO) (hid H' (OO.set k ((p, .lst xs) :: Cs.flatten))) /\ P3 (oL (oF Xc) K (hid H' (OO.set k ((p, .lst xs) :: Cs.flatten)))) xs ((as.take t).map (· ++ [n]) ++ as.drop t) Cs)
    ⟨Cs0, σ[j], by rw [List.set_getElem_self], by rw [hOO]; exact w, by rw [hOO]; exact Xm.refl _, by rw [hOO]; simpa using q⟩
    (fun t σ' H' ht ⟨Cs, wv, _, w', _, _⟩=>SqL.of (w'.tr (p, .lst xs) hin)) ?_ ?_
  . rintro t x σ' H' hx ⟨Cs, wv, rfl, w', m', q'⟩
    have hlen:=q.len.1
    have htl : t < as.length:=by
      rw [← hlen]
      rcases Nat.lt_or_ge t xs.length with h | h
      . exact h
      . rw [List.getElem?_eq_none h] at hx; cases hx
    have hrow : ((as.take t).map (· ++ [n]) ++ as.drop t)[t]? = some as[t]:=by
      rw [List.getElem?_append_right (by simp; omega)]
      simp [Nat.min_eq_left (Nat.le_of_lt htl)]
    obtain ⟨q0, ys, g1, g2, g3⟩:=Gd q' hrow
    rw [hx] at g1
    cases g1
    have hk' : (OO.set k ((p, HO.lst xs) :: Cs.flatten))[k]? = some ((p, HO.lst xs) :: Cs.flatten):=by simp [hkl]
    have hq0 : H' q0 = some (.lst ys):=w'.tr (q0, .lst ys) (List.mem_flatten.mpr ⟨_, List.mem_of_getElem? hk', List.mem_cons_of_mem _ (QM g2 _ (by simp))⟩)
    have hsz' : as[t].length < sizeLine:=hsz _ (List.getElem_mem htl)
    show ZE _ _ _ ((σ.set j wv).set j (some (.ref q0))) H'
    refine ⟨.ref q0, by rw [List.getElem?_set_self (by simpa using hjl)], .inl ⟨rfl, _, SqL.of hq0⟩, q0, ys, .int n, rfl, rfl, hq0, by rw [Paired.len g3]; exact hsz', ?_⟩
    obtain ⟨C', w4, m4, o4⟩:=KJ (ys':=ys ++ [.int n]) (row':=as[t] ++ [n]) (v:=.ref p) w' hk' q' hrow hx hq0 g2 (Paired.app g3 (show Paired (Xc K (hid H' (OO.set k ((p, .lst xs) :: Cs.flatten)))) [V.int n] [n] from .cons rfl .nil))
    obtain ⟨p', xs', Cs', e1, o5, rfl⟩:=o4
    cases e1
    have hc1 : (p, HO.lst xs) ∈ (OO.set k ((p, .lst xs') :: Cs'.flatten)).flatten ∨ xs' = xs:=by
      right
      have h1:=w4.tr (p, .lst xs') (by rw [List.set_set]; exact List.mem_flatten.mpr ⟨_, List.mem_set hkl _, List.mem_cons_self⟩)
      have hpq : p ≠ q0:=fun ee=>by
        have hp1:=XF hk'
        have:=(w'.of (OO':=((p, HO.lst xs) :: Cs.flatten) :: (OO.set k ((p, HO.lst xs) :: Cs.flatten)).set k []) hp1).nd
        rw [XQ, List.map_cons, List.cons_append, List.nodup_cons] at this
        exact this.1 (List.mem_append_left _ (List.mem_map.mpr ⟨(q0, .lst ys), QM g2 _ (by simp), ee.symm⟩))
      rw [XB hpq] at h1
      have h2:=w'.tr (p, .lst xs) hin
      rw [h1] at h2
      have h3 : HO.lst xs' = HO.lst xs:=Option.some.inj h2
      injection h3
    obtain rfl : xs' = xs:=by
      rcases hc1 with h9 | h9
      . have h1 := w4.tr (p, .lst xs') (by rw [List.set_set]; exact List.mem_flatten.mpr ⟨_, List.mem_set hkl _, List.mem_cons_self⟩)
        have h2:=w4.tr (p, .lst xs) (by rw [List.set_set]; exact h9)
        rw [h1] at h2
        have h3 : HO.lst xs' = HO.lst xs:=Option.some.inj h2
        injection h3
      . exact h9
    rw [List.set_set] at w4 m4 o5
    refine ⟨Cs', some (.ref q0), by simp, w4, m'.trans m4, ?_⟩
    have e6 : ((as.take t).map (· ++ [n]) ++ as.drop t).set t (as[t] ++ [n]) = (as.take (t + 1)).map (· ++ [n]) ++ as.drop (t + 1):=by
      rw [List.set_append_right _ _ (by simp; omega)]
      simp only [List.length_map, List.length_take, Nat.min_eq_left (Nat.le_of_lt htl), Nat.sub_self]
      rw [List.drop_eq_getElem_cons htl, List.set_cons_zero, List.take_succ_eq_append_getElem htl, List.map_append, List.append_assoc]
      rfl
    rw [e6] at o5
    exact o5
  . rintro σ' H' ⟨Cs, wv, rfl, w', m', q'⟩
    have hlen:=q.len.1
    rw [hlen, List.take_length, List.drop_length, List.append_nil] at q'
    exact hr _ wv H' D w' ⟨S.mono _ _ m' s, ⟨p, xs, Cs, rfl, q', rfl⟩⟩ (PZ.tr (fd.tr D) m' P)
theorem QO (K : PySem.W.Frag) (T : String) : PySem.W.kitOne K (.type T) (.type T) = some true:=by
  unfold PySem.W.kitOne
  rw [if_pos (beq_self_eq_true _)]
theorem VT (K : PySem.W.Frag) : PySem.W.kitOne K (.type "int") (.type "bool") = some false:=by
  first
    | rfl
    | decide +kernel
    | (unfold PySem.W.kitOne PySem.W.kitCls; rfl)
end
end L2
namespace L2
open PySem PySem.Spec PyProof.Rows
section
variable {K : PySem.W.Frag} {Er : Exc -> Hp -> Prop} {S : SC} {OO OO' OO1 OO2 : List (List Xu)} {σ : St} {α β γ ρ ι δ ε : Type}
variable {Fd : Ends -> β -> Hp -> Prop} [fd : FdOk Fd] {u : TS}
noncomputable def EZ : Option α -> Res α
  | some a=>.ok a
  | none=>.bad
theorem DA {te : TE} {r : Enc α} {m : Res (Option α)} (he : EvB K Er S OO σ te (ZG r) m) : EvB K Er S OO σ te r (m.bind EZ):=fun H Q w s P=>by
  refine he H Q w s ?_
  cases m with
  | bad=>exact P
  | err x=>exact P
  | ok a=>
    cases a with
    | none=>exact P.elim
    | some a=>exact fun v H' s' hr=>P v H' s' hr.2
theorem BT {r : Enc α} {q : Enc γ} {K : PySem.W.Frag} {h : Hp} {v : V} {a : α × γ} {C : List Xu} (q : oF (rP2 r q) K h v a C) : v ≠ .non:=by
  obtain ⟨_, p, x, y, e, _⟩:=q
  rw [e]; exact fun z=>nomatch z
end
end L2
namespace L2
open PySem PySem.Spec PyProof.Rows
section
variable {K : PySem.W.Frag} {Er : Exc -> Hp -> Prop} {S : SC} {OO OO' OO1 OO2 : List (List Xu)} {σ : St} {α β γ ρ ι δ ε : Type}
variable {α1 α2 α3 α4 α5 : Type}
noncomputable def rP4 (r1 : Enc α1) (r2 : Enc α2) (r3 : Enc α3) (r4 : Enc α4) : Enc (α1 × α2 × α3 × α4):=fun K H v p=>∃ a x1 x2 x3 x4, v = .ref a /\ H a = some (.tup [x1, x2, x3, x4]) /\ r1 K H x1 p.1 /\ r2 K H x2 p.2.1 /\ r3 K H x3 p.2.2.1 /\ r4 K H x4 p.2.2.2
instance {r1 : Enc α1} {r2 : Enc α2} {r3 : Enc α3} {r4 : Enc α4} [m1 : MonoE r1] [m2 : MonoE r2] [m3 : MonoE r3] [m4 : MonoE r4] : MonoE (rP4 r1 r2 r3 r4):=⟨fun s h9=>(by obtain ⟨a, x1, x2, x3, x4, e, h, p1, p2, p3, p4⟩:=h9; exact ⟨a, x1, x2, x3, x4, e, s _ _ h, m1.mono s p1, m2.mono s p2, m3.mono s p3, m4.mono s p4⟩)⟩
instance {r1 : Enc α1} {r2 : Enc α2} {r3 : Enc α3} {r4 : Enc α4} [m1 : FlatE r1] [m2 : FlatE r2] [m3 : FlatE r3] [m4 : FlatE r4] : FlatE (rP4 r1 r2 r3 r4):=⟨fun s h9=>(by obtain ⟨a, x1, x2, x3, x4, e, h, p1, p2, p3, p4⟩:=h9; exact ⟨a, x1, x2, x3, x4, e, s _ _ h rfl, m1.flat s p1, m2.flat s p2, m3.flat s p3, m4.flat s p4⟩)⟩
instance {r1 : Enc α1} {r2 : Enc α2} {r3 : Enc α3} {r4 : Enc α4} : TyE (rP4 r1 r2 r3 r4) "tuple":=⟨fun h9=>(by obtain ⟨p, x1, x2, x3, x4, e, q, _⟩:=h9; subst e; exact .tup q)⟩
theorem U1 {t1 : TE} {t2 : TE} {t3 : TE} {t4 : TE} {r1 : Enc α1} {r2 : Enc α2} {r3 : Enc α3} {r4 : Enc α4} [z1 : MonoE r1] [z2 : MonoE r2] [z3 : MonoE r3] [z4 : MonoE r4] {m1 : Res α1} {m2 : Res α2} {m3 : Res α3} {m4 : Res α4} (h1 : EvS K Er S OO σ t1 r1 m1) (h2 : EvS K Er S OO σ t2 r2 m2) (h3 : EvS K Er S OO σ t3 r3 m3) (h4 : EvS K Er S OO σ t4 r4 m4) : EvS K Er S OO σ (E6 (Xx t1 (Xx t2 (Xx t3 (Xx t4 ZF))))) (rP4 r1 r2 r3 r4) (m1.bind fun a1=>m2.bind fun a2=>m3.bind fun a3=>m4.bind fun a4=>.ok (a1, a2, a3, a4)):=fun H Q w s P=>
  h1.run w s FS.tr P fun a1 y1 H1 s1 w1 u1 q1 P1=>h2.run w1 u1 FS.tr P1 fun a2 y2 H2 s2 w2 u2 q2 P2=>h3.run w2 u2 FS.tr P2 fun a3 y3 H3 s3 w3 u3 q3 P3=>h4.run w3 u3 FS.tr P3 fun a4 y4 H4 s4 w4 u4 q4 P4=>⟨by show 4 <= sizeLine; decide, fun p hp=>P4 _ _ (XZ hp _) ⟨p, y1, y2, y3, y4, rfl, Vk w4 hp, z1.mono ((Xj s2).trans ((Xj s3).trans ((Xj s4).trans (Xj (XZ hp _))))) q1, z2.mono ((Xj s3).trans ((Xj s4).trans (Xj (XZ hp _)))) q2, z3.mono ((Xj s4).trans (Xj (XZ hp _))) q3, z4.mono (Xj (XZ hp _)) q4⟩⟩
noncomputable def rP5 (r1 : Enc α1) (r2 : Enc α2) (r3 : Enc α3) (r4 : Enc α4) (r5 : Enc α5) : Enc (α1 × α2 × α3 × α4 × α5):=fun K H v p=>∃ a x1 x2 x3 x4 x5, v = .ref a /\ H a = some (.tup [x1, x2, x3, x4, x5]) /\ r1 K H x1 p.1 /\ r2 K H x2 p.2.1 /\ r3 K H x3 p.2.2.1 /\ r4 K H x4 p.2.2.2.1 /\ r5 K H x5 p.2.2.2.2
instance {r1 : Enc α1} {r2 : Enc α2} {r3 : Enc α3} {r4 : Enc α4} {r5 : Enc α5} [m1 : MonoE r1] [m2 : MonoE r2] [m3 : MonoE r3] [m4 : MonoE r4] [m5 : MonoE r5] : MonoE (rP5 r1 r2 r3 r4 r5):=⟨fun s h9=>(by obtain ⟨a, x1, x2, x3, x4, x5, e, h, p1, p2, p3, p4, p5⟩:=h9; exact ⟨a, x1, x2, x3, x4, x5, e, s _ _ h, m1.mono s p1, m2.mono s p2, m3.mono s p3, m4.mono s p4, m5.mono s p5⟩)⟩
instance {r1 : Enc α1} {r2 : Enc α2} {r3 : Enc α3} {r4 : Enc α4} {r5 : Enc α5} [m1 : FlatE r1] [m2 : FlatE r2] [m3 : FlatE r3] [m4 : FlatE r4] [m5 : FlatE r5] : FlatE (rP5 r1 r2 r3 r4 r5):=⟨fun s h9=>(by obtain ⟨a, x1, x2, x3, x4, x5, e, h, p1, p2, p3, p4, p5⟩:=h9; exact ⟨a, x1, x2, x3, x4, x5, e, s _ _ h rfl, m1.flat s p1, m2.flat s p2, m3.flat s p3, m4.flat s p4, m5.flat s p5⟩)⟩
instance {r1 : Enc α1} {r2 : Enc α2} {r3 : Enc α3} {r4 : Enc α4} {r5 : Enc α5} : TyE (rP5 r1 r2 r3 r4 r5) "tuple":=⟨fun h9=>(by obtain ⟨p, x1, x2, x3, x4, x5, e, q, _⟩:=h9; subst e; exact .tup q)⟩
variable {Fd : Ends -> β -> Hp -> Prop} [fd : FdOk Fd] {u : TS}
end
end L2
namespace L2
open PySem PySem.Spec PyProof.Rows
theorem YS.ex {P : Program} {w : World} {H : Hp} {h : Heap} {a : Addr} {o : HO} (x : YS P w H h a o) : ∃ u, h.get? a = some u:=by
  cases o with
  | lst xs=>obtain ⟨_, _, _, _, e⟩:=x; exact ⟨_, e⟩
  | tup xs=>obtain ⟨_, _, _, p⟩:=x; obtain ⟨o, e, _⟩:=p; exact ⟨_, e⟩
  | dK kvs=>obtain ⟨_, _, _, _, o, _, _, e, _⟩:=x; exact ⟨_, e⟩
  | dT kvs=>obtain ⟨_, _, _, _, o, _, _, e, _⟩:=x; exact ⟨_, e⟩
  | set S n=>obtain ⟨o, _, _, _, e, _⟩:=x; exact ⟨_, e⟩
  | ins C dx fs=>obtain ⟨_, _, _, e, _⟩:=x; exact ⟨_, e⟩
  | own y=>exact x
  | xd fs=>obtain ⟨_, ⟨_, _, _, e, _⟩, _⟩:=x; exact ⟨_, e⟩
  | rng lo hi=>obtain ⟨_, _, _, e⟩:=x; exact ⟨_, e⟩
  | frz ob u=>exact ⟨_, x.1⟩
  | tbl ps=>exact ⟨_, x⟩
  | met f y=>exact ⟨_, x⟩
  | ext φ=>exact x.2.1
theorem HOk.un0 {P : Program} {w : World} {H : Hp} {h : Heap} {a : Addr} (x : HOk P w H h) (e : h.get? a = none) : H a = none:=by
  cases q : H a with
  | none=>rfl
  | some u=>obtain ⟨v, hv⟩:=(x a u q).ex; rw [e] at hv; cases hv
structure Fl (h0 h : Heap) (H : Hp) (a T : Addr) (cls : Value) : Prop where
  na : h0.get? a = none
  nT : h0.get? T = none
  fa : H a = none
  fT : H T = none
  ne : T ≠ a
  obj : ∃ oe vs oT ts a0, h.get? a = some oe /\ oe.cls = cls /\ vs[0]? = some a0 /\ oe.data = .fields vs /\ vs[1]? = some (.ref T) /\ h.get? T = some oT /\ oT.data = .fields ts /\ ts[3]? = some Value.none
noncomputable def EJ (h : Heap) (fs : List Addr) (a T : Addr) : Heap:=Ff h (fun b=>if b ∈ fs ∨ b = a ∨ b = T then some (.own 0) else none)
theorem UR {h : Heap} {fs : List Addr} {a T b : Addr} {o : Obj} (e : h.get? b = some o) (n1 : b ∉ fs) (n2 : b ≠ a) (n3 : b ≠ T) : (EJ h fs a T).get? b = some o:=
  UN e (if_neg fun z=>z.elim n1 fun z=>z.elim n2 n3)
section
variable {P : Program} {w : World} {h0 h h' base : Heap} {H : Hp} {a T : Addr} {cls a0 : Value} {l : List Env}
theorem Un.traced (hl : h.FunFrames base l) (keep : ∀ b o, b ∉ frs l -> b ≠ a -> b ≠ T -> h.get? b = some o -> h'.get? b = some o) (up : h.UpToSlots h') : Un (frs l) [a, T] H H h h' where
  keep:=fun b o e _ hb hx=>keep b o hb (fun z=>hx (by simp [z])) (fun z=>hx (by simp [z])) e
  slot:=fun b o e _ hb _=>by
    obtain ⟨_, o2, ho2, hd2⟩:=hl.mem hb
    rw [e] at ho2; cases ho2
    exact up b o e hd2
  free:=fun b o e n _=>n
  there:=fun b o e hx=>by
    by_cases hb : b ∈ frs l
    . obtain ⟨_, o2, ho2, hd2⟩ := hl.mem hb
      obtain ⟨sl, q⟩:=up b o2 ho2 hd2
      exact ⟨_, q⟩
    . exact ⟨o, keep b o hb (fun z=>hx (by simp [z])) (fun z=>hx (by simp [z])) e⟩
  tups:=fun _ _ q=>q
  frzs:=fun _ _ _ q=>q
  tbls:=fun _ ps q=>⟨#[], by simpa using q⟩
theorem HOk.traced (hok : HOk P w H h) (hfn : ∀ b ∈ frs l, H b = none) (fa : H a = none) (fT : H T = none) (keep : ∀ b o, b ∉ frs l -> b ≠ a -> b ≠ T -> h.get? b = some o -> h'.get? b = some o) : HOk P w H h':=fun b o e=>by
  refine (hok b o e).stay (fun c u hc q=>?_) (fun _ q=>q) fun _ _ q=>q
  have hn : H c ≠ none:=by
    rcases hc with z | z
    . rw [z, e]; exact fun y=>nomatch y
    . rw [z]; exact fun y=>nomatch y
  exact keep c u (fun z=>hn (hfn c z)) (fun z=>hn (z ▸ fa)) (fun z=>hn (z ▸ fT)) q
theorem Fl.after (x : Fl h0 h H a T cls) (hl : h.FunFrames base l) (hfn : ∀ b ∈ frs l, H b = none) (hok : HOk P w H h) (th : ∀ b o, h0.get? b = some o -> ∃ o', h.get? b = some o')
    (st : (EJ h (frs l) a T).StaysIn h') (tr : h'.TracedW (EJ h (frs l) a T) a cls a0) (up : h.UpToSlots h') : ∃ T', Fl h0 h' H a T' cls /\ HOk P w H h' /\ Un (frs l) [a, T] H H h h':=by
  obtain ⟨oe, vs, T', oT, ts, ha, ⟨hc, h0'⟩, hd, h1, hnT, hne, hT, hdT, h3⟩:=tr
  have key : T' = T ∨ h.get? T' = none:=by
    cases q : h.get? T' with
    | none=>exact .inr rfl
    | some o=>
      by_cases hf : T' ∈ frs l
      . obtain ⟨_, o2, ho2, hd2⟩ := hl.mem hf
        obtain ⟨sl, e2⟩:=up T' o2 ho2 hd2
        rw [hT] at e2; cases e2
        exact absurd hdT (hd2 ts)
      . by_cases hz : T' = T
        . exact .inl hz
        . rw [UR q hf hne hz] at hnT; cases hnT
  have keep : ∀ b o, b ∉ frs l -> b ≠ a -> b ≠ T -> h.get? b = some o -> h'.get? b = some o:=fun b o n1 n2 n3 e=>st b o (UR e n1 n2 n3)
  refine ⟨T', ⟨x.na, ?_, x.fa, ?_, hne, oe, vs, oT, ts, a0, ha, hc, h0', hd, h1, hT, hdT, h3⟩, hok.traced hfn x.fa x.fT keep, Un.traced hl keep up⟩
  . rcases key with e | e
    . rw [e]; exact x.nT
    . cases q : h0.get? T' with
      | none=>rfl
      | some o=>obtain ⟨o', e'⟩:=th _ _ q; rw [e] at e'; cases e'
  . rcases key with e | e
    . rw [e]; exact x.fT
    . exact hok.un0 e
end
section
variable {fs fs2 ex ex2 : List Addr} {H0 H H' : Hp} {h0 h h' : Heap}
end
section
variable {P : Program} {w : World} {K : PySem.W.Frag} {mg : Str -> Option Value} {base : Heap} {N : List Str} {qual : Str} {scope : Scope} {f : Addr} {cd : Value} {A : Around} {outer : List Env} {s0 : Shared} {H0 : Hp} {E : XK}
end
section
variable {X : Cx} {k j : Nat} {x : Str} {ps : List Str} {sp : Sp} {e : Expr} {es : List Expr} {t : TA} {p pos : Pos} {E : XK}
end
section
variable {X : Cx} {E : XK} {C : Addr} {x : Str} {e : Expr} {es : List Expr} {t : TA} {np cpos pos : Pos}
end
end L2
namespace L2
open PySem PySem.Spec PyProof.Rows
noncomputable abbrev TJ:=St -> Hp -> (Hp -> Prop) -> Prop
section
variable {X : Cx} {e : Expr} {es : List Expr} {te : TE} {t : TJ} {n : Nat} {pos p : Pos}
end
noncomputable abbrev Cx.held (X : Cx) (a : Addr) (pn : List (Addr × Obj)) : Cx:={ X with A:=X.A.mark (some (.ref a)), calm:=false, pn:=pn, xe:=fun _ _=>False }
theorem Cx.Ok.held {X : Cx} (ok : X.Ok) (a : Addr) (pn : List (Addr × Obj)) : (X.held a pn).Ok:=
  ⟨ok.mod, ok.kind, ok.glob, ok.blt, ok.above, ok.inj, ok.has, ok.cab, (fun z=>nomatch z), ok.frames, ok.stk, ok.exf, ok.bs, ok.bsz, ok.noex, ok.exfs, ok.funs, ok.frf⟩
section
variable {X : Cx} {pins : List (Addr × Obj)} {σ : St} {H : Hp} {s : Shared} {h' : Heap}
end
section
variable {X : Cx} {body suite : List Stmt} {b₀ : Stmt} {cn n : Str} {Ch : Addr} {i : Nat} {tb : XK -> TS} {ts : Addr -> Addr -> TS} {np hpos pos : Pos}
end
end L2
namespace L2
open PySem PySem.Spec PyProof.Rows
section
variable {K : PySem.W.Frag} {Er : Exc -> Hp -> Prop} {S : SC} {OO OO' OO2 : List (List Xu)} {σ : St} {α β γ ρ ι : Type} {α1 α2 α3 α4 α5 α6 : Type} {mg : Str -> Option Value} {E : XK}
noncomputable def FJ (Q : Hp -> Prop) (_ : Unit) (H : Hp) : Prop:=∀ H', Xm H H' -> Q H'
theorem FJ.tr {Q : Hp -> Prop} : ∀ (b : Unit) (H H' : Hp), Xm H H' -> FJ Q b H -> FJ Q b H':=fun _ _ _ s h H2 s2=>h H2 (s.trans s2)
variable {Fd : Ends -> β -> Hp -> Prop} [fd : FdOk Fd] {u : TS}
section
variable {te : XK -> TE} {m : Res α} {ts : Addr -> Addr -> TS} {N i : Nat} {Ch : Addr} {o : OE ρ} {g : Exc -> Res ρ} {ns : List Str} {d : Str}
end
end
end L2
namespace L2
open PySem PySem.Spec PyProof.Rows PySem.W PySem.Builtin PySem.Builtin.ObjectAttr PySem.Builtin.Getset_descriptor
section
variable {prog : Program} {w : World} {A : Around} {E : Value -> Shared -> Prop} {K : Frag} {x D : Addr} {s : Shared}
end
theorem Ej {X : Cx} {x : Str} {v : V} {pos : Pos} (h : ∃ u, X.mg x = some u /\ X2 v u) (hg : Gl X x) (hd : (x == ("__debug__" : Str)) = false:=by decide) : PE X (.Name x pos) (tC v):=by
  obtain ⟨u, hm, r⟩:=h
  exact Cd hg hm r hd
theorem PS.nox {X : Cx} {st : Stmt} {t : TS} (h : PS X.nox st t) : PS X st t:=fun pins s σ H D I hw=>
  wpAny_mono (h pins s σ H D (I.wish _) hw) (fun _ _ q=>q.unwish) fun _ _ z=>False.elim z
section
variable {K : PySem.W.Frag} {C D : Addr} {b : Bool}
end
end L2
namespace L2
open PySem PySem.Spec PyProof.Rows
theorem P3.dropLast {α β γ : Type} {F : α -> β -> γ -> Prop} : ∀ {l m n}, P3 F l m n -> P3 F l.dropLast m.dropLast n.dropLast
  | _, _, _, .nil=>.nil
  | _, _, _, .cons _ .nil=>.nil
  | _, _, _, .cons r (.cons q t)=>.cons r (P3.dropLast (.cons q t))
theorem Qn {α : Type} (l : List (List α)) : l.dropLast.flatten.Sublist l.flatten:=by
  have e : l.flatten = l.dropLast.flatten ++ (l.drop (l.length - 1)).flatten:=by rw [List.dropLast_eq_take, ← List.flatten_append, List.take_append_drop]
  rw [e]
  exact List.sublist_append_left _ _
section
variable {α β : Type} {K : PySem.W.Frag} {Er : Exc -> Hp -> Prop} {S : SC} {OO : List (List Xu)} {σ : St} {Fd : Ends -> β -> Hp -> Prop} [fd : FdOk Fd] {u : TS}
theorem Cl {o : OE α} [MonoO o] {f : List α -> Res β} {v : V} {as : List α} {C : List Xu} (i k : Nat) (hσ : σ[i]? = some (some v)) (hk : OO[k]? = some C) (h : ∀ x, S.p x -> oL o K x v as C)
    (hr : ∀ C', Sv Er (S.addO K (oL o) v as.dropLast C') (OO.set k C') σ u Fd (f as.dropLast)) : Sv Er S OO σ (ZE (VA (Hs K "list" Ha (QY i))) u) Fd (chk (0 < as.length) (f as.dropLast)):=fun H D w s P=>by
  obtain ⟨p, xs, Cs, e, q, c⟩:=h _ s
  subst c e
  unfold chk at P
  by_cases hl : 0 < as.length
  . rw [if_pos hl] at P
    have hH : H p = some (.lst xs):=w.tr (p, .lst xs) (List.mem_flatten.mpr ⟨_, List.mem_of_getElem? hk, List.mem_cons_self⟩)
    have nd:=Qb w.nil hk
    rw [List.append_nil] at nd
    obtain ⟨w3, m3⟩:=EF (D:=[]) (xs':=xs.dropLast) (Cs':=Cs.dropLast) w.nil hk (fun c hc=>List.mem_append_left _ ((Qn Cs).subset hc)) (nd.sublist ((Qn Cs).map _))
    rw [Yc] at m3
    obtain ⟨y, hy⟩ : ∃ y, xs[xs.length - 1]? = some y:=⟨xs[xs.length - 1]'(by have:=q.len.1; omega), List.getElem?_eq_getElem _⟩
    refine ⟨.ref p, hσ, .inl ⟨rfl, _, SqL.of hH⟩, p, xs, y, rfl, rfl, hH, hy, ?_⟩
    exact hr _ _ D w3 ⟨S.mono _ _ m3 s, ⟨p, _, _, rfl, P3.imp (fun _ _ _ z=>MonoO.mono m3 z) q.dropLast, rfl⟩⟩ (PZ.tr (fd.tr D) m3 P)
  . rw [if_neg hl] at P
    exact P.elim
end
end L2
namespace L2
open PySem PySem.Spec PyProof.Rows
section
variable {α β γ δ ε : Type}
structure Crs (r : Enc α) (q : Enc β) (d : Nat) : Prop where
  no : ∀ {X : Cx} {pins : List (Addr × Obj)} {σ : St} {H : Hp} {s : Shared} {x : V} {a : α} {b : β}, Inv X pins σ H s -> r X.K H x a -> q X.K H x b -> False
  lr : ∀ {X : Cx} {pins : List (Addr × Obj)} {σ : St} {H : Hp} {s : Shared} {x y : V} {v u : Value} {a : α} {b : β} {A : Around}, Inv X pins σ H s -> X2 x v -> X2 y u -> r X.K H x a -> q X.K H y b -> A.units + d < cLine -> SeqAt.EqAt A s v u false /\ SeqAt.RcAt A s v u false /\ SeqAt.RcNeAt A s v u true
  rl : ∀ {X : Cx} {pins : List (Addr × Obj)} {σ : St} {H : Hp} {s : Shared} {x y : V} {v u : Value} {a : α} {b : β} {A : Around}, Inv X pins σ H s -> X2 x v -> X2 y u -> q X.K H x b -> r X.K H y a -> A.units + d < cLine -> SeqAt.EqAt A s v u false /\ SeqAt.RcAt A s v u false /\ SeqAt.RcNeAt A s v u true
theorem Crs.up {r : Enc α} {q : Enc β} {d e : Nat} (c : Crs r q d) (h : d <= e) : Crs r q e:=⟨c.no, fun I rx ry h1 h2 hu=>c.lr I rx ry h1 h2 (by omega), fun I rx ry h1 h2 hu=>c.rl I rx ry h1 h2 (by omega)⟩
end
end L2
namespace L2
open PySem PySem.Spec PyProof.Rows
section
variable {K : PySem.W.Frag} {Er : Exc -> Hp -> Prop} {S : SC} {OO OO' OO1 OO2 : List (List Xu)} {σ : St} {α β γ ρ ι δ ε ζ : Type}
variable {Fd : Ends -> β -> Hp -> Prop} [fd : FdOk Fd] {u : TS}
noncomputable def getL : α ⊕ γ -> Res α
  | .inl a=>.ok a
  | .inr _=>.bad
noncomputable def getR : α ⊕ γ -> Res γ
  | .inl _=>.bad
  | .inr b=>.ok b
end
end L2
namespace L2
theorem Ea {α : Type} {us : List α} (h : us.length = 1) : ∃ a, us = [a]:=List.length_eq_one_iff.mp h
theorem BV {α : Type} {us : List α} (h : us.length = 2) : ∃ a0 a1, us = [a0, a1]:=by
  cases us with
  | nil=>cases h
  | cons a0 t=>
    obtain ⟨a1, rfl⟩:=Ea (Nat.succ.inj h)
    exact ⟨a0, a1, rfl⟩
theorem Bq {α : Type} {us : List α} (h : us.length = 3) : ∃ a0 a1 a2, us = [a0, a1, a2]:=by
  cases us with
  | nil=>cases h
  | cons a0 t=>
    obtain ⟨a1, a2, rfl⟩:=BV (Nat.succ.inj h)
    exact ⟨a0, a1, a2, rfl⟩
theorem E5 {α : Type} {us : List α} (h : us.length = 4) : ∃ a0 a1 a2 a3, us = [a0, a1, a2, a3]:=by
  cases us with
  | nil=>cases h
  | cons a0 t=>
    obtain ⟨a1, a2, a3, rfl⟩:=Bq (Nat.succ.inj h)
    exact ⟨a0, a1, a2, a3, rfl⟩
theorem EI {α : Type} {us : List α} (h : us.length = 5) : ∃ a0 a1 a2 a3 a4, us = [a0, a1, a2, a3, a4]:=by
  cases us with
  | nil=>cases h
  | cons a0 t=>
    obtain ⟨a1, a2, a3, a4, rfl⟩:=E5 (Nat.succ.inj h)
    exact ⟨a0, a1, a2, a3, a4, rfl⟩
end L2
namespace L2
open PySem PySem.Spec PyProof.Rows
section
variable {prog : Program} {w : World} {A : Around} {E : Value -> Shared -> Prop}
end
section
variable {X : Cx} {pos : Pos}
end
section
variable {K : PySem.W.Frag} {Er : Exc -> Hp -> Prop} {S : SC} {OO OO' OO1 OO2 : List (List Xu)} {σ : St} {α β γ ρ ι δ ε ζ : Type}
variable {Fd : Ends -> β -> Hp -> Prop} [fd : FdOk Fd] {u : TS}
theorem Fv {te : TE} {m : Res (Option (Int × Int))} (he : Ev K Er S OO OO' σ te (oF (ZG (rP2 Xc Xc))) m) : Ev K Er S OO OO' σ te (oF (ZG (rPL Xc))) (m.bind fun a=>.ok (a.map fun p=>[p.1, p.2])):=fun H Q w s P=>by
  refine he H Q w s ?_
  cases m with
  | bad=>exact P
  | err x=>exact P
  | ok a=>
    refine fun v C H' s' w' m' ho=>P v C H' s' w' m' ⟨ho.1, ?_⟩
    cases a with
    | none=>exact ho.2
    | some a=>
      obtain ⟨_, hn, p, x, y, e, h, h1, h2⟩:=ho
      exact ⟨hn, p, _, e, h, .cons h1 (.cons h2 .nil)⟩
theorem U7 {te : TE} {m : Res (Option (Int × Int × Int × Int))} (he : Ev K Er S OO OO' σ te (oF (ZG (rP4 Xc Xc Xc Xc))) m) : Ev K Er S OO OO' σ te (oF (ZG (rPL Xc))) (m.bind fun a=>.ok (a.map fun p=>[p.1, p.2.1, p.2.2.1, p.2.2.2])):=fun H Q w s P=>by
  refine he H Q w s ?_
  cases m with
  | bad=>exact P
  | err x=>exact P
  | ok a=>
    refine fun v C H' s' w' m' ho=>P v C H' s' w' m' ⟨ho.1, ?_⟩
    cases a with
    | none=>exact ho.2
    | some a=>
      obtain ⟨_, hn, p, x, y, x3, x4, e, h, h1, h2, h3, h4⟩:=ho
      exact ⟨hn, p, _, e, h, .cons h1 (.cons h2 (.cons h3 (.cons h4 .nil)))⟩
theorem Vt {r : Enc α} : Ev K Er S OO OO σ (tC .non) (oF (ZG r)) (.ok none):=fun H Q w s P=>P _ [] H (Xm.refl _) w.nil (by rw [Yc]; exact Xm.refl _) ⟨rfl, rfl⟩
theorem QS {te : TE} {r : Enc α} {m : Res α} (hn : ∀ {K h v a C}, oF r K h v a C -> v ≠ .non) (he : Ev K Er S OO OO' σ te (oF r) m) : Ev K Er S OO OO' σ te (oF (ZG r)) (m.bind fun a=>.ok (some a)):=fun H Q w s P=>by
  refine he H Q w s ?_
  cases m with
  | bad=>exact P
  | err x=>exact P
  | ok a=>exact fun v C H' s' w' m' ho=>P v C H' s' w' m' ⟨ho.1, hn ho, ho.2⟩
theorem BL {r1 : Enc α} {r2 : Enc β} {r3 : Enc γ} {r4 : Enc δ} {K : PySem.W.Frag} {h : Hp} {v : V} {a : α × β × γ × δ} {C : List Xu} (q : oF (rP4 r1 r2 r3 r4) K h v a C) : v ≠ .non:=by
  obtain ⟨_, p, x1, x2, x3, x4, e, _⟩:=q
  rw [e]
  exact fun z=>nomatch z
end
end L2
namespace L2
open PySem PySem.Spec PyProof.Rows
section
variable {X : Cx}
end
section
variable {K : PySem.W.Frag} {Er : Exc -> Hp -> Prop} {S : SC} {OO OO' OO1 OO2 : List (List Xu)} {σ : St} {α β γ ρ ι δ ε ζ : Type}
variable {Fd : Ends -> β -> Hp -> Prop} [fd : FdOk Fd] {u : TS}
end
end L2
namespace L2
open PySem PySem.Spec PyProof.Rows
set_option maxRecDepth 100000
section
variable {prog : Program} {w : World} {A : Around} {E : Value -> Shared -> Prop} {s : Shared}
end
section
variable {prog : Program} {w : World} {A : Around} {R : Result -> Shared -> Prop} {K : Type} [DecidableEq K] {knd : KeyKind prog w K}
noncomputable def Da (acc kv : List (K × Value)) : List (K × Value):=kv.foldl (fun a p=>stored a p.1 p.2) acc
end
end L2
namespace L2
open PySem PySem.Spec PyProof.Rows
section
variable {X : Cx}
noncomputable def Ee (acc kvs : List (Key × V)) : List (Key × V):=kvs.foldl (fun a p=>Dk a p.1 p.2) acc
theorem KV.all {kvs : List (Key × V)} {vs : List (Key × Value)} (t : KV kvs vs) : ∀ {acc : List (Key × V)} {acc' : List (Key × Value)}, KV acc acc' -> KV (Ee acc kvs) (Da acc' vs):=by
  induction t with
  | nil=>intro acc acc' h; exact h
  | @cons p q kvs vs r _ ih=>
    intro acc acc' h
    have h2:=h.put p.1 r.2
    have e : stored acc' p.1 q.2 = stored acc' q.1 q.2:=by rw [r.1]
    rw [e] at h2
    exact ih h2
noncomputable def JA (ns : List Int) : List Int:=ns.mergeSort fun a b=>decide (a <= b)
theorem Qx (ns : List Int) : (JA ns).Perm ns:=List.mergeSort_perm ns _
theorem Kz (ns : List Int) : (JA ns).Pairwise (· <= ·):=by
  have h:=List.pairwise_mergeSort (le:=fun a b : Int=>decide (a <= b)) (fun a b c h1 h2=>by rw [decide_eq_true_eq] at h1 h2 ⊢; omega) (fun a b=>by rw [Bool.or_eq_true, decide_eq_true_eq, decide_eq_true_eq]; omega) ns
  exact h.imp fun h=>by simpa using h
theorem U9 {a b : List Int} (h : a.Perm b) (r : a.Pairwise (· <= ·)) : a = JA b:=List.Perm.eq_of_pairwise (le:=(· <= ·)) (fun _ _ _ _ h1 h2=>Int.le_antisymm h1 h2) r (Kz b) (h.trans (Qx b).symm)
theorem FN : ∀ {ns : List Int} {vs : List Value}, XV (ns.map V.int) vs -> IntsAre vs ns:=fun {ns}=>by
  induction ns with
  | nil=>intro vs h; cases h; exact .nil
  | cons n ns ih=>
    intro vs h
    cases h with
    | cons r t=>
      obtain ⟨k, rfl⟩:=r
      exact .cons n k (ih t)
noncomputable def DC (K : PySem.W.Frag) : List V -> Hp -> VK -> Prop:=fun xs H Q=>∃ l ns, xs = [.ref l] /\ SqL K H l (ns.map V.int) /\ ns.length < 64 /\ ∀ p, H p = none -> Q (.ref p) (upd H p (.lst ((JA ns).map V.int)))
theorem JB (K : PySem.W.Frag) (hK : X.K = K) : Qi X (.builtin "sorted") (DC K):=by
  subst hK
  intro pins s σ H xs us Q I r h
  obtain ⟨l, ns, rfl, hq, h64, q⟩:=h
  obtain ⟨u, rfl, ru⟩:=GS r
  cases ru
  obtain ⟨its, rv, pl, hz⟩:=I.list hq
  have hlen:=rv.length
  rw [List.length_map] at hlen
  refine sorted_ints pl.isList (FN rv) (by omega) fun out ns' a1 a2 a3=>?_
  obtain ⟨e, he⟩:=sortedAll_at s.heap its out
  have en : ns' = JA ns:=U9 a2 a3
  have v:=Q1 a1
  rw [en] at v
  have hfr : H (s.heap.objs.size + 1) = none:=I.hok.fresh (Nat.le_succ _)
  refine ⟨.ref (s.heap.objs.size + 1), _, I.laid (t':=s.toks) (fun b o e=>sortedAll_old e) (Nat.le_succ _) (show YS X.prog X.w _ _ _ (.lst ((JA ns).map V.int)) from ⟨?_, out.toList, e, v, he⟩), rfl, q _ hfr⟩
  rw [List.length_map, (Qx ns).length_eq]
  rw [List.length_map] at hz
  exact hz
end
end L2
namespace L2
open PySem PySem.Spec PyProof.Rows
section
variable {X : Cx} {pins : List (Addr × Obj)} {σ : St} {H : Hp} {s : Shared} {d : Addr} {o : Obj} {kvs : List (Key × V)}
theorem KV.key {kvs : List (Key × V)} {vs : List (Key × Value)} (h : KV kvs vs) : ∀ {i : Nat} (h1 : i < kvs.length) (h2 : i < vs.length), (kvs[i]).1 = (vs[i]).1:=by
  induction h with
  | nil=>intro i h1; exact absurd h1 (Nat.not_lt_zero _)
  | cons r _ ih=>
    intro i h1 h2
    cases i with
    | zero=>exact r.1
    | succ i=>exact ih (Nat.lt_of_succ_lt_succ h1) (Nat.lt_of_succ_lt_succ h2)
end
section
variable {X : Cx}
end
end L2
namespace L2
open PySem PySem.Spec PyProof.Rows
section
variable {K : PySem.W.Frag} {Er : Exc -> Hp -> Prop} {S : SC} {OO OO' OO2 : List (List Xu)} {σ : St} {α β γ ρ ι δ ε : Type}
variable {Fd : Ends -> β -> Hp -> Prop} [fd : FdOk Fd] {u : TS}
theorem F7 {H : Hp} {xs : List V} {ns : List Int} (h : Paired (Xc K H) xs ns) : xs = ns.map V.int:=by
  induction h with
  | nil=>rfl
  | cons r _ ih=>rw [List.map_cons, ih, show _ = V.int _ from r]
theorem Fy {H : Hp} (ns : List Int) : Paired (Xc K H) (ns.map V.int) ns:=by
  induction ns with
  | nil=>exact .nil
  | cons n ns ih=>exact .cons rfl ih
theorem Fp {ta : TE} {ma : Res (List Int)} (ha : EvL K Er S OO σ ta Xc ma) : Ev K Er S OO OO σ (tCB (DC K) (Xx ta ZF)) (oL (oF Xc)) (ma.bind fun as=>chk (as.length < 64) (.ok (JA as))):=fun H Q w s P=>
  ha.run w s FO.tr P fun as x H1 s1 w1 q1 ⟨p, xs, e, q, pr⟩ P1=>by
    obtain ⟨hl, P2⟩:=PZ.chk P1
    exact ⟨p, as, by rw [e], SqL.of (by rw [← F7 pr]; exact q), hl, DF w1 (Fy _) P2⟩
end
end L2
namespace L2
open PySem PySem.Spec PyProof.Rows
section
variable {prog : Program} {w : World} {A : Around}
end
section
variable {X : Cx}
end
end L2
namespace L2
open PySem PySem.Spec PyProof.Rows
section
variable {K : PySem.W.Frag} {Er : Exc -> Hp -> Prop} {S : SC} {OO OO' OO1 OO2 : List (List Xu)} {σ : St} {α β γ ρ ι δ ε : Type}
variable {Fd : Ends -> β -> Hp -> Prop} [fd : FdOk Fd] {u : TS}
end
end L2
namespace L2
open PySem PySem.Spec PyProof.Rows
theorem C9 {prog : Program} {w : World} {A : Around} {E : Value -> Shared -> Prop} {s : Shared} {l b : Addr} {o1 o2 : Obj} {Q : Value -> Shared -> Prop} (h1 : s.heap.get? l = some o1) (c1 : o1.cls = .type "list") (h2 : s.heap.get? b = some o2) (c2 : o2.cls = .type "list") (hu : A.units < cLine)
    (h : wpAny (model prog w) A (call (.builtin "list.__lt__") [.ref l, .ref b]) (fun v s'=>(∃ k, v = .bool k) /\ Q v s') E s) : wpAny (model prog w) A (compareOp .Lt (.ref l) (.ref b)) Q E s:=by
  have t1 : s.TypeIs (.ref l) "list":=⟨_, h1, c1⟩
  have t2 : s.TypeIs (.ref b) "list":=⟨_, h2, c2⟩
  show wpAny _ _ (richCompare .Lt (.ref l) (.ref b)) _ _ _
  unfold richCompare
  refine wpAny_holding ?_
  refine wpAny_bind (wpAny_cRoomFor hu ?_)
  have hone : oneThing? .Lt (.ref l) (.ref b) = none:=rfl
  rw [hone]
  dsimp only
  refine wpAny_bind (wpAny_typeOf t1 ?_)
  refine wpAny_bind (wpAny_typeOf t2 ?_)
  rw [if_neg (by decide)]
  refine wpAny_bind (wpAny_pure ?_)
  rw [if_neg (by decide)]
  unfold tryCompare
  refine wpAny_bind (wpAny_bind (wpAny_callSpecialIfBound?_slot t1 F.slot_list_lt (thn h fun v s' ⟨⟨k, e⟩, q⟩=>?_)))
  subst e
  exact wpAny_pure (wpAny_pure q)
theorem Js : entryFor table "list.__eq__.loop" = some Builtin.«list.__eq__.loop»:=entryFor_of_fast (by kernel_rfl)
theorem Zq : plainId "list.__eq__.loop" = true:=by decide +kernel
section
variable {X : Cx}
end
end L2
namespace L2
open PySem PySem.Spec PyProof.Rows
section
variable {K : PySem.W.Frag} {Er : Exc -> Hp -> Prop} {S : SC} {OO OO' OO1 OO2 : List (List Xu)} {σ : St} {α β γ ρ ι δ ε : Type}
noncomputable def Eo [DecidableEq α] (as : List α) (a : α) (k : Int) : Res Int:=chk (0 <= k) ((Bf (as.drop k.toNat) a).bind fun j=>.ok (k + j))
theorem Ko [DecidableEq α] {ta tb tc : TE} {r : Enc α} [z : InE r] [y : MonoE r] {ma : Res (List α)} {mb : Res α} {mc : Res Int} (ha : EvB K Er S OO σ ta (rV r) ma) (hb : EvB K Er S OO σ tb r mb) (hc : EvB K Er S OO σ tc Xc mc) : EvB K Er S OO σ (tBM K "list" (Gm K) ta (Xx tb (Xx tc ZF))) Xc (ma.bind fun as=>mb.bind fun a=>mc.bind fun k=>Eo as a k):=fun H Q w s P=>
  ha.run w s FB.tr P fun as x H1 s1 w1 q1 ⟨p, xs, e, q, pr⟩ P1=>⟨by rw [e]; exact .inl ⟨rfl, _, SqL.of q⟩, hb.run w1 q1 FB.tr P1 fun b v H2 s2 w2 q2 r2 P2=>hc.run w2 q2 FB.tr P2 fun k vk H3 s3 w3 q3 r3 P3=>by
    obtain ⟨hk0, P4⟩:=PZ.chk P3
    have pr2:=Paired.imp2 (G:=r K H3) (fun _ _ h=>y.mono (s2.trans s3) h) pr
    have r2':=y.mono s3 r2
    cases hi : Bf (as.drop k.toNat) b with
    | bad=>rw [hi] at P4; exact P4.elim
    | err x=>exact absurd hi Bb
    | ok c=>
      rw [hi] at P4
      obtain ⟨j, hj, rfl⟩:=CS hi
      obtain ⟨h1, h2⟩:=Km r2' (Paired.drop' k.toNat pr2) hj
      obtain ⟨zz, hz1, hz2⟩:=h1
      rw [List.getElem?_drop] at hz1
      refine ⟨p, xs, v, k.toNat, k.toNat + j, k, e, by rw [show vk = .int k from r3], by omega, SqL.of ((s2.trans s3) _ _ q), z.fl r2', (Qr r2' pr2).1, Nat.le_add_right _ _, ⟨zz, hz1, hz2⟩, fun m z hm1 hm2 hz=>?_, ?_⟩
      . refine h2 (m - k.toNat) z (by omega) ?_
        rw [List.getElem?_drop, show k.toNat + (m - k.toNat) = m by omega]
        exact hz
      . have := P4 (.int (k + (j : Int))) H3 (Xm.refl _) rfl
        rw [show ((k.toNat + j : Nat) : Int) = k + (j : Int) by omega]
        exact this⟩
end
end L2
namespace L2
open PySem PySem.Spec PyProof.Rows
section
variable {K : PySem.W.Frag} {Er : Exc -> Hp -> Prop} {S : SC} {OO OO' OO1 OO2 : List (List Xu)} {σ : St} {α β γ ρ ι δ ε : Type}
noncomputable def tk (k : List Int) : List Key:=k.map Sum.inl
variable {Fd : Ends -> β -> Hp -> Prop} [fd : FdOk Fd] {u : TS}
end
end L2
namespace L2
open PySem PySem.Spec PyProof.Rows
section
variable {X : Cx} {α : Type} [DecidableEq α] {r : Enc α} {d : Nat}
noncomputable def Hm (K : PySem.W.Frag) (r : Enc α) (neg : Bool) : R2:=fun x y H Q=>∃ l xs, ∃ (as : List α) (a : α), y = .ref l /\ SqL K H l xs /\ Paired (r K H) xs as /\ r K H x a /\ Q (.bl (neg ^^ decide (a ∈ as))) H
open Classical in
theorem Cn {pins : List (Addr × Obj)} {σ : St} {H : Hp} {s : Shared} (I : Inv X pins σ H s) (E : EqOk r d) (hu : X.A.units + 1 + d < cLine) {xs : List V} {as : List α} {its : List Value} {x : V} {a : α} {v : Value} (pr : Paired (r X.K H) xs as) (rr : XV xs its) (hx : r X.K H x a) (rx : X2 x v) :
    ∃ e : Value -> Bool, (∀ w ∈ its, SeqAt.EqAt X.A.in1 s w v (e w)) /\ its.any e = decide (a ∈ as):=by
  let e : Value -> Bool:=fun w=>decide (∃ (i : Nat) (b : α), its[i]? = some w /\ as[i]? = some b /\ b = a)
  have he : ∀ (i : Nat) (w : Value) (b : α), its[i]? = some w -> as[i]? = some b -> e w = decide (b = a):=by
    intro i w b h1 h2
    rw [Bool.eq_iff_iff]
    simp only [e, decide_eq_true_eq]
    constructor
    . rintro ⟨i', b', h3, h4, rfl⟩
      obtain ⟨x1, hx1, rx1⟩:=Paired.getR rr h1
      obtain ⟨x2, hx2, rx2⟩:=Paired.getR rr h3
      obtain ⟨c1, hc1, rc1⟩:=Paired.getL pr hx1
      obtain ⟨c2, hc2, rc2⟩:=Paired.getL pr hx2
      rw [h2] at hc1; rw [h4] at hc2
      cases hc1; cases hc2
      have:=X2.inj rx1 rx2
      subst this
      exact E.uniq I rc1 rc2
    . rintro rfl; exact ⟨i, b, h1, h2, rfl⟩
  refine ⟨e, fun w hw=>?_, ?_⟩
  . obtain ⟨i, hi⟩ := List.getElem?_of_mem hw
    obtain ⟨x1, hx1, rx1⟩:=Paired.getR rr hi
    obtain ⟨c1, hc1, rc1⟩:=Paired.getL pr hx1
    rw [he i w c1 hi hc1]
    exact E.eq I rx1 rx rc1 hx hu
  . rw [Bool.eq_iff_iff, List.any_eq_true, decide_eq_true_eq]
    constructor
    . rintro ⟨w, hw, h⟩
      simp only [e, decide_eq_true_eq] at h
      obtain ⟨i, b, _, h2, rfl⟩:=h
      exact List.mem_of_getElem? h2
    . intro h
      obtain ⟨i, hi⟩:=List.getElem?_of_mem h
      obtain ⟨x1, hx1, rc1⟩:=Paired.getR pr hi
      obtain ⟨w, hw, _⟩:=rr.get hx1
      refine ⟨w, List.mem_of_getElem? hw, ?_⟩
      rw [he i w a hw hi]
      simp
theorem Dl (K : PySem.W.Frag) (hK : X.K = K) (E : EqOk r d) (hd8 : d + 1 <= 8) (hu : X.A.units + 8 < cLine) : OpR X (compareOp .In) (Hm K r false):=by
  subst hK
  intro pins s σ H x y v u Q I rx ry h
  obtain ⟨l, xs, as, a, rfl, hq, pr, hx, q⟩:=h
  cases ry
  obtain ⟨its, rr, pl, hz⟩:=I.list hq
  obtain ⟨e, h1, h2⟩:=Cn I E (by omega) pr rr hx rx
  refine SeqAt.in_listAt e pl.isList (fun w hw=>h1 w (by simpa using hw)) ⟨.bl _, H, I, rfl, ?_⟩
  rw [show its.toArray.any e = its.any e by simp, h2]
  simpa using q
end
section
variable {K : PySem.W.Frag} {Er : Exc -> Hp -> Prop} {S : SC} {OO OO' OO1 OO2 : List (List Xu)} {σ : St} {α β γ ρ ι δ ε : Type}
noncomputable def F8 [DecidableEq α] (a : α) (l : List α) : Bool:=decide (a ∈ l)
theorem GW [DecidableEq α] {ta tb : TE} {r : Enc α} [y : MonoE r] {ma : Res α} {mb : Res (List α)} (ha : EvB K Er S OO σ ta r ma) (hb : EvB K Er S OO σ tb (rV r) mb) : EvB K Er S OO σ (tOp (Hm K r false) ta tb) XM (ma.bind fun a=>mb.bind fun b=>.ok (F8 a b)):=fun H Q w s P=>
  ha.run w s FB.tr P fun a x H1 s1 w1 q1 r1 P1=>hb.run w1 q1 FB.tr P1 fun b v H2 s2 w2 q2 ⟨p, xs, e, q, pr⟩ P2=>⟨p, xs, b, a, e, SqL.of q, pr, y.mono s2 r1, P2 _ H2 (Xm.refl _) (by simp only [Bool.false_xor]; rfl)⟩
end
end L2
namespace L2
open PySem PySem.Spec PyProof.Rows
section
variable {X : Cx} {pins : List (Addr × Obj)} {σ : St} {H : Hp} {s : Shared} {h' : Heap}
theorem Inv.turns {t' : Nat} {ch : List Addr} (I : Inv X pins σ H s) (k : ∀ b o, b ∉ ch -> s.heap.get? b = some o -> h'.get? b = some o) (hf : ∀ b ∈ ch, UC X pins H b) : Inv X pins σ H { s with heap:=h', toks:=t' }:=by
  have nit : ∀ b o, H b = some o -> b ∉ ch:=fun b o e z=>by rw [(hf b z).1] at e; cases e
  refine I.step (g':=s.gens) (d':=s.drawn) (ch:=ch) (fun b hb=>?_) (fun b o _ _ hc e _=>k b o hc e) (fun b o _ _ hc e _=>⟨o.slots, k b o hc e⟩)
    (fun b o _ e n=>n) (fun b o hc e=>⟨o, k b o hc e⟩) (fun b xs e=>e) (fun b o xs e=>e) (fun b ps e=>⟨#[], by rw [e]; simp⟩) (fun m hm=>?_) (fun b v e=>?_) I.bare
  . obtain ⟨f0, f1, f2, f3, f4, f5⟩ := hf b hb
    exact ⟨f3, f1, f4, f5⟩
  . obtain ⟨o, es, ep, ho, r⟩ := hm
    exact ⟨o, es, ep, k _ o (fun z=>(hf _ z).2.1 rfl) ho, r⟩
  . refine (I.hok b v e).stay (fun c o hc q => k c o ?_ q) (fun c q => q) fun c xs q => q
    rcases hc with z | z
    . rw [z]; exact nit b v e
    . exact nit c _ z
end
section
variable {X : Cx} {elts : List Expr} {k : Nat} {pos0 : Pos}
end
end L2
namespace L2
open PySem PySem.Spec PyProof.Rows
section
variable {K : PySem.W.Frag} {Er : Exc -> Hp -> Prop} {S : SC} {OO OO' OO1 OO2 : List (List Xu)} {σ : St} {α β γ ρ ι δ ε : Type}
end
end L2
namespace L2
open PySem PySem.Spec PyProof.Rows
section
variable {X : Cx}
end
section
variable {K : PySem.W.Frag} {Er : Exc -> Hp -> Prop} {S : SC} {OO OO' OO1 OO2 : List (List Xu)} {σ : St} {α β γ ρ ι δ ε : Type}
variable {Fd : Ends -> β -> Hp -> Prop} [fd : FdOk Fd] {u : TS}
end
end L2
namespace L2
open PySem PySem.Spec PyProof.Rows
section
variable {K : PySem.W.Frag} {Er : Exc -> Hp -> Prop} {S : SC} {OO OO' OO1 OO2 : List (List Xu)} {σ : St} {α β γ ρ ι δ ε : Type} {u : TS}
end
end L2
namespace L2
open PySem PySem.Spec PyProof.Rows
section
variable {X : Cx}
end
section
variable {K : PySem.W.Frag} {Er : Exc -> Hp -> Prop} {S : SC} {OO : List (List Xu)} {σ : St}
end
end L2
namespace L2
open PySem PySem.Spec PyProof.Rows
section
variable {X : Cx} {pins : List (Addr × Obj)} {σ : St} {H : Hp} {s : Shared} {d : Addr} {o : Obj} {kvs : List (Key × V)}
end
end L2
namespace L2
open PySem PySem.Spec PyProof.Rows
section
variable {X : Cx}
end
section
variable {K : PySem.W.Frag} {Er : Exc -> Hp -> Prop} {S : SC} {OO OO' OO1 OO2 OO3 : List (List Xu)} {σ : St} {α β γ ρ ι δ ε ζ : Type}
variable {Fd : Ends -> β -> Hp -> Prop} [fd : FdOk Fd] {u : TS}
noncomputable def oT3 (o : OE α) (q : OE β) (t : OE γ) : OE (α × β × γ):=fun K h v a C=>∃ p x y z C1 C2 C3, v = .ref p /\ h p = some (.tup [x, y, z]) /\ o K h x a.1 C1 /\ q K h y a.2.1 C2 /\ t K h z a.2.2 C3 /\ C = C1 ++ (C2 ++ C3)
instance {o : OE α} {q : OE β} {t : OE γ} [m : MonoO o] [n : MonoO q] [k : MonoO t] : MonoO (oT3 o q t):=⟨fun s h9=>(by obtain ⟨p, x, y, z, C1, C2, C3, e, h, h1, h2, h3, c⟩:=h9; exact ⟨p, x, y, z, C1, C2, C3, e, s _ _ h, m.mono s h1, n.mono s h2, k.mono s h3, c⟩)⟩
instance {o : OE α} {q : OE β} {t : OE γ} [m : FlatO o] [n : FlatO q] [k : FlatO t] : FlatO (oT3 o q t):=⟨fun s h9=>(by obtain ⟨p, x, y, z, C1, C2, C3, e, h, h1, h2, h3, c⟩:=h9; exact ⟨p, x, y, z, C1, C2, C3, e, s _ _ h rfl, m.flat s h1, n.flat s h2, k.flat s h3, c⟩)⟩
instance {o : OE α} {q : OE β} {t : OE γ} {ro : Enc α} {rq : Enc β} {rt : Enc γ} [m : FrzC o ro] [n : FrzC q rq] [k : FrzC t rt] : FrzC (oT3 o q t) (rP3 ro rq rt):=⟨fun ⟨p, x, y, z, C1, C2, C3, e, h, h1, h2, h3, c⟩ s hc=>by
  subst c
  exact ⟨p, x, y, z, e, s _ _ h, m.frz h1 s fun c hm=>hc c (by simp [hm]), n.frz h2 s fun c hm=>hc c (by simp [hm]), k.frz h3 s fun c hm=>hc c (by simp [hm])⟩⟩
end
end L2
namespace L2
open PySem PySem.Spec PyProof.Rows
section
variable {K : PySem.W.Frag} {Er : Exc -> Hp -> Prop} {S : SC} {OO OO' OO1 OO2 : List (List Xu)} {σ : St} {α β γ ρ ι δ ε ζ : Type}
variable {Fd : Ends -> β -> Hp -> Prop} [fd : FdOk Fd] {u : TS}
end
end L2
namespace L2
open PySem PySem.Spec PyProof.Rows
section
variable {K : PySem.W.Frag} {Er : Exc -> Hp -> Prop} {S : SC} {OO OO' OO1 OO2 : List (List Xu)} {σ : St} {α β γ ρ ι δ ε ζ : Type}
variable {Fd : Ends -> β -> Hp -> Prop} [fd : FdOk Fd] {u : TS}
end
end L2
namespace L2
open PySem PySem.Spec PyProof.Rows
section
variable {K : PySem.W.Frag} {Er : Exc -> Hp -> Prop} {S : SC} {OO OO' OO1 OO2 : List (List Xu)} {σ : St} {α β γ ρ ι δ ε ζ α1 α3 α4 : Type}
variable {Fd : Ends -> β -> Hp -> Prop} [fd : FdOk Fd] {u : TS}
noncomputable def Hg (K : PySem.W.Frag) (o : OE ρ) (q : OE γ) (v2 : V) (Q : VK) (x : ρ × γ) (h : Hp) : Prop:=∀ v C C' H', W [C ++ C'] H' -> Xm h (hid H' [C ++ C']) -> o K (hid H' [C ++ C']) v x.1 C -> q K (hid H' [C ++ C']) v2 x.2 C' -> Q v H'
noncomputable def Dv (K : PySem.W.Frag) (o : OE ρ) (q : OE γ) (v2 : V) (D : Ends) (x : ρ × γ) (h : Hp) : Prop:=∀ v C C' OO' H', W (C :: C' :: OO') H' -> Xm h (hid H' (C :: C' :: OO')) -> o K (hid H' (C :: C' :: OO')) v x.1 C -> q K (hid H' (C :: C' :: OO')) v2 x.2 C' -> D.rt v H'
instance {o : OE ρ} {q : OE γ} {v2 : V} : FdOk (Dv K o q v2):=⟨fun D b h h' s q v C C' O H' w m x y=>q v C C' O H' w (s.trans m) x y⟩
theorem BZ {o : OE ρ} [zo : MonoO o] {q : OE γ} [zq : MonoO q] {t : TS} {m : Res (ρ × γ)} {Q : VK} {b : ρ × γ} {H : Hp} {D : Ends} {v2 : V} {C : List Xu} (n k : Nat) (hkn : k < n) (h : Sv (fun _ _=>False) S ((List.replicate n []).set k C) σ t (Dv K o q v2) m) (w : W [C] H) (hs : S.p (hid H [C])) (hm : m = .ok b) (qf : Hg K o q v2 Q b (hid H [C])) (hD : D.rt = Q) : t D σ H:=by
  have pe : ((List.replicate n []).set k C).flatten.Perm [C].flatten:=by
    have h1:=XF (OO:=(List.replicate n []).set k C) (k:=k) (C:=C) (by simp [hkn])
    have e : ((List.replicate n ([] : List Xu)).set k C).set k [] = List.replicate n []:=by
      rw [List.set_set]
      apply List.ext_getElem?
      intro m
      by_cases hm : m = k
      . subst hm; simp [hkn]
      . rw [List.getElem?_set_ne (fun e=>hm e.symm)]
    rw [e, List.flatten_cons, X1] at h1
    simpa using h1.symm
  refine h H D (w.of pe) (by rw [XG pe]; exact hs) ?_
  subst hm
  rw [XG pe]
  intro v C1 C2 OO' H' w' m' h1 h2
  rw [hD]
  have hsub : Xm (hid H' (C1 :: C2 :: OO')) (hid H' [C1 ++ C2]):=Zi (Xm.refl _) fun b hb=>by
    rw [XQ, XQ, ← List.append_assoc]
    refine List.mem_append_left _ ?_
    simpa [fl] using hb
  exact qf v C1 C2 H' (w'.sub (by simp)) (m'.trans hsub) (zo.mono hsub h1) (zq.mono hsub h2)
end
end L2
namespace L2
open PySem
noncomputable def Inc (xs : Array Nat) : Prop:=xs.toList.Pairwise (· < ·)
theorem Inc.lt {xs : Array Nat} (h : Inc xs) {i j v u : Nat} (hij : i < j) (hi : xs[i]? = some v) (hj : xs[j]? = some u) : v < u:=by
  rw [← Array.getElem?_toList] at hi hj
  obtain ⟨a, rfl⟩:=List.getElem?_eq_some_iff.mp hi
  obtain ⟨b, rfl⟩:=List.getElem?_eq_some_iff.mp hj
  exact List.pairwise_iff_getElem.mp h i j a b hij
theorem Inc.le {xs : Array Nat} (h : Inc xs) {i j v u : Nat} (hij : i <= j) (hi : xs[i]? = some v) (hj : xs[j]? = some u) : v <= u:=by
  rcases Nat.lt_or_eq_of_le hij with z | z
  . exact Nat.le_of_lt (h.lt z hi hj)
  . subst z; rw [hi] at hj; cases hj; exact Nat.le_refl _
structure TOk (t : SetTable) (led : Bool) : Prop where
  inc : Inc t.place
  dum : t.dummies = #[]
  led : t.led = led
theorem TOk.fresh (f m : Nat) (led : Bool) : TOk (.fresh f m led) led:=⟨List.Pairwise.nil, rfl, rfl⟩
end L2
namespace L2
open PySem PySem.Spec PyProof.Rows
theorem F1 {vs : List Value} {ms : List Int} (h : IntsAre vs ms) (k : Int) : (∃ v ∈ vs, Value.isInt k v = true) ↔ k ∈ ms:=by
  induction h with
  | nil=>simp
  | cons n t _ ih=>
    rw [List.mem_cons, ← ih]
    constructor
    . rintro ⟨v, hv, e⟩
      rcases List.mem_cons.mp hv with z | z
      . subst z; obtain ⟨t', e'⟩:=Value.isInt_shape e; cases e'; exact .inl rfl
      . exact .inr ⟨v, z, e⟩
    . rintro (z | ⟨v, hv, e⟩)
      . subst z; exact ⟨_, .head _, beq_self_eq_true _⟩
      . exact ⟨v, .tail _ hv, e⟩
theorem K3 {vs vs' : List Value} (p : vs'.Perm vs) : ∀ {ms : List Int}, IntsAre vs ms -> ∃ ms', IntsAre vs' ms' /\ ms'.Perm ms:=by
  induction p with
  | nil=>intro ms h; exact ⟨ms, h, .refl _⟩
  | cons x _ ih=>
    intro ms h
    cases h with
    | cons n t h=>obtain ⟨m, a, b⟩:=ih h; exact ⟨n :: m, .cons n t a, b.cons _⟩
  | swap x y l=>
    intro ms h
    cases h with
    | cons n t h=>cases h with
      | cons m u h=>exact ⟨_, .cons m u (.cons n t h), .swap ..⟩
  | trans _ _ ih1 ih2=>
    intro ms h
    obtain ⟨m, a, b⟩:=ih2 h
    obtain ⟨m', a', b'⟩:=ih1 a
    exact ⟨m', a', b'.trans b⟩
noncomputable def dd (l : List Int) : List Int:=l.foldl step_dedup []
structure SCore (prog : Program) (w : World) (es : Array (Int × Value)) (t : SetTable) (ns : List Int) : Prop where
  el : ElemsOf (intKind prog w) es.toList
  pm : ∃ ms, IntsAre (es.toList.map (·.2)) ms /\ ms.Perm ns
  sz : es.size < scanBound
  fit : t.fits es.size = true
  tok : TOk t (!w.params.followText "set-order")
noncomputable def BS (prog : Program) (w : World) (h : Heap) (a : Addr) (ns : List Int) : Prop:=
  ∃ o es ep t, h.get? a = some o /\ o.ExactSet /\ o.data = .set es ep t /\ SCore prog w es t ns
section
variable {prog : Program} {w : World} {A : Around} {E : Value -> Shared -> Prop} {s : Shared} {a : Addr} {ns : List Int}
theorem SCore.len {es : Array (Int × Value)} {t : SetTable} (c : SCore prog w es t ns) : es.size = ns.length:=by
  obtain ⟨ms, a, b⟩:=c.pm
  rw [← b.length_eq, ← IntsAre.length a, List.length_map, Array.length_toList]
theorem SCore.mem {es : Array (Int × Value)} {t : SetTable} (c : SCore prog w es t ns) (k : Int) : (∃ e ∈ es.toList, Value.isInt k e.2 = true) ↔ k ∈ ns:=by
  obtain ⟨ms, a, b⟩:=c.pm
  rw [← b.mem_iff, ← F1 a k]
  constructor
  . rintro ⟨e, h, z⟩; exact ⟨e.2, List.mem_map_of_mem h, z⟩
  . rintro ⟨v, h, z⟩
    obtain ⟨e, h1, rfl⟩:=List.mem_map.mp h
    exact ⟨e, h1, z⟩
theorem SCore.perm {es es' : Array (Int × Value)} {t t' : SetTable} (c : SCore prog w es t ns) (p : es'.toList.Perm es.toList) (f : t'.fits es'.size = true) (k : TOk t' (!w.params.followText "set-order")) : SCore prog w es' t' ns:=by
  obtain ⟨ms, a, b⟩:=c.pm
  obtain ⟨m, a', b'⟩:=K3 (p.map (·.2)) a
  have e : es'.size = es.size:=by rw [← Array.length_toList, p.length_eq, Array.length_toList]
  exact ⟨c.el.perm p, ⟨m, a', b'.trans b⟩, by rw [e]; exact c.sz, f, k⟩
theorem BS.put {h : Heap} {o : Obj} {es es' : Array (Int × Value)} {ep : Nat} {t t' : SetTable} (ho : h.get? a = some o) (hx : o.ExactSet) (hd : o.data = .set es ep t) :
    (h.update a (Obj.putSet es' t')).get? a = some { o with data:=.set es' (ep + 1) t' } /\ (SCore prog w es' t' ns -> BS prog w (h.update a (Obj.putSet es' t')) a ns):=by
  have g:=Heap.get?_update_self (Obj.putSet es' t') ho (by rw [putSet_of es' t' hd]; rfl)
  rw [putSet_of es' t' hd] at g
  exact ⟨g, fun c=>⟨_, _, _, _, g, hx, rfl, c⟩⟩
end
end L2
namespace L2
open PySem PySem.Spec PyProof.Rows
section
variable {prog : Program} {w : World} {A : Around} {E : Value -> Shared -> Prop} {s : Shared}
theorem BS.at {h h' : Heap} {a : Addr} {ns : List Int} (x : BS prog w h a ns) (k : ∀ o, h.get? a = some o -> h'.get? a = some o) : BS prog w h' a ns:=
  let ⟨o, es, ep, t, ho, r⟩:=x; ⟨o, es, ep, t, k o ho, r⟩
end
end L2
namespace L2
open PySem PySem.Spec PyProof.Rows
section
variable {M : Model} {A : Around} {E : Value -> Shared -> Prop} {s : Shared}
end
section
variable {prog : Program} {w : World} {A : Around} {E : Value -> Shared -> Prop} {s : Shared} {a : Addr} {o : Obj} {es : Array (Int × Value)} {ep : Nat} {t : SetTable}
end
end L2
namespace L2
open PySem PySem.Spec PyProof.Rows
section
variable {prog : Program} {w : World} {A : Around} {E : Value -> Shared -> Prop} {s : Shared} {a I tp : Addr} {o : Obj} {es : Array (Int × Value)} {ep : Nat} {t : SetTable} {L : List (Int × Value)}
inductive SMode (w : World) (a : Addr) (es : Array (Int × Value)) (ep : Nat) (t : SetTable) (tp : Addr) (L : List (Int × Value)) (h : Heap) (i : Nat) : Value -> Prop
  | text (sl : Nat) (hT : w.params.followText "set-order" = true) (hL : L = (pickOrder (w.params.setOrder a ep) es).toList) : SMode w a es ep t tp L h i (.int sl 0)
  | plain (sl : Nat) (hT : w.params.followText "set-order" = false) (hp : (!t.plain && decide (es.size > 1)) = false) (hL : L = es.toList) (hb : SetTable.below t.place sl = i) : SMode w a es ep t tp L h i (.int sl 0)
  | drawn (ps : List Nat) (hg : h.get? tp = some { cls:=.type "tuple", data:=.seq (ps.map fun i=>Value.int (i : Nat) 0).toArray }) (hn : ps.length = L.length) (hL : ∀ (i : Nat) pl, ps[i]? = some pl -> L[i]? = es[pl]?) : SMode w a es ep t tp L h i (.ref tp)
structure SIt (w : World) (I a : Addr) (es : Array (Int × Value)) (ep : Nat) (t : SetTable) (tp : Addr) (L : List (Int × Value)) (o : Obj) (i : Nat) (h : Heap) : Prop where
  it : ∃ ob first, h.get? I = some ob /\ ob.cls = .type "set_iterator" /\ ob.data = .fields #[first, .int i 0, .ref a, .int es.size 0, .int ep 0] /\ SMode w a es ep t tp L h i first
  st : h.get? a = some o
theorem SMode.at {h h' : Heap} {i : Nat} {v : Value} (m : SMode w a es ep t tp L h i v) (k : ∀ o, h.get? tp = some o -> h'.get? tp = some o) : SMode w a es ep t tp L h' i v:=by
  cases m with
  | text sl hT hL=>exact .text sl hT hL
  | plain sl hT hp hL hb=>exact .plain sl hT hp hL hb
  | drawn ps hg hn hL=>exact .drawn ps (k _ hg) hn hL
end
end L2
namespace L2
open PySem PySem.Spec PyProof.Rows
section
variable {prog : Program} {w : World} {A : Around} {E : Value -> Shared -> Prop} {s : Shared} {a I tp : Addr} {o : Obj} {es : Array (Int × Value)} {ep : Nat} {t : SetTable} {L : List (Int × Value)} {ns : List Int}
theorem SIt.frame {i : Nat} {h h' : Heap} (x : SIt w I a es ep t tp L o i h) (k : ∀ b ∈ [I, a, tp], ∀ o, h.get? b = some o -> h'.get? b = some o) : SIt w I a es ep t tp L o i h':=by
  obtain ⟨⟨ob, f, h1, h2, h3, m⟩, h4⟩:=x
  exact ⟨⟨ob, f, k I (by simp) _ h1, h2, h3, m.at fun o e=>k tp (by simp) o e⟩, k a (by simp) _ h4⟩
end
section
variable {X : Cx}
end
end L2
namespace L2
open PySem PySem.Spec PyProof.Rows
section
variable {K : PySem.W.Frag} {Er : Exc -> Hp -> Prop} {S : SC} {OO : List (List Xu)} {σ : St}
variable {u : TS} {α γ ρ ι : Type}
variable {β : Type} {Fd : Ends -> β -> Hp -> Prop} [fd : FdOk Fd]
end
section
variable {α β γ : Type}
end
section
variable {K : PySem.W.Frag} {Er : Exc -> Hp -> Prop} {S : SC} {OO : List (List Xu)} {σ : St} {α1 α2 α3 α4 ρ : Type} {mg : Str -> Option Value} {E : XK}
end
end L2
namespace L2
open PySem PySem.Spec PyProof.Rows
section
variable {X : Cx} {tg : Expr}
end
end L2
namespace L2
open PySem PySem.Spec PyProof.Rows
section
variable {K : PySem.W.Frag} {Er : Exc -> Hp -> Prop} {S : SC} {OO OO' : List (List Xu)} {σ : St} {α β γ : Type}
theorem P3.reverse {δ : Type} {F : α -> γ -> δ -> Prop} : ∀ {l m n}, P3 F l m n -> P3 F l.reverse m.reverse n.reverse:=fun p=>by
  induction p with
  | nil=>exact .nil
  | cons r _ ih=>rw [List.reverse_cons, List.reverse_cons, List.reverse_cons]; exact ih.snoc r
variable {u : TS} {Fd : Ends -> β -> Hp -> Prop} [fd : FdOk Fd]
end
end L2
namespace L2
open PySem PySem.Spec PyProof.Rows
section
variable {K : PySem.W.Frag} {Er : Exc -> Hp -> Prop} {S : SC} {OO : List (List Xu)} {σ : St} {α β γ ι : Type} {u : TS} {Fd : Ends -> β -> Hp -> Prop} [fd : FdOk Fd]
end
end L2
namespace L2
open PySem PySem.Spec PyProof.Rows
section
variable {K : PySem.W.Frag} {Er : Exc -> Hp -> Prop} {S : SC} {OO : List (List Xu)} {σ : St} {α β : Type}
end
end L2
namespace L2
open PySem PySem.Spec PyProof.Rows
noncomputable def ltG {α : Type} [DecidableEq α] (lt : α -> α -> Bool) : List α -> List α -> Bool
  | _, []=>false
  | [], _ :: _=>true
  | a :: as, b :: bs=>if a = b then ltG lt as bs else lt a b
noncomputable def HB (A : Around) (s : Shared) (v u : Value) (b : Bool) : Prop:=
  ∀ (prog : Program) (w : World) (E : Value -> Shared -> Prop) (Q : Value -> Shared -> Prop), Q (.bool b) s -> wpAny (model prog w) A (richCompare .Lt v u) Q E s
structure LtOk {α : Type} (r : Enc α) (lt : α -> α -> Bool) (d : Nat) : Prop where
  at' : ∀ {X : Cx} {pins : List (Addr × Obj)} {σ : St} {H : Hp} {s : Shared} {x y : V} {v u : Value} {a b : α} {A : Around}, Inv X pins σ H s -> X2 x v -> X2 y u -> r X.K H x a -> r X.K H y b -> A.units + d < cLine -> HB A s v u (lt a b)
noncomputable def ltI (a b : Int) : Bool:=decide (a < b)
theorem lt_int : LtOk Xc ltI 0:=⟨fun {X pins σ H s x y v u a b A} I rx ry h1 h2 _ prog w E Q q=>by
  have e1 : x = V.int a:=h1
  have e2 : y = V.int b:=h2
  subst e1 e2
  obtain ⟨t, rfl⟩:=rx
  obtain ⟨t', rfl⟩:=ry
  exact CmpOf.ints_lt (P:=fun j v=>∃ t, v = .int (if j = 0 then a else b) t) (fun j=>if j = 0 then a else b) (fun _ _ h=>h) 0 1 _ _ _ _ _ ⟨t, rfl⟩ ⟨t', rfl⟩ q⟩
section
variable {α : Type} [DecidableEq α] {r : Enc α} {lt : α -> α -> Bool} {d : Nat}
theorem Vq {as : List α} : ltG lt as [] = false:=by cases as <;> rfl
theorem Hw (E : EqOk r d) (L : LtOk r lt d) {X : Cx} {pins : List (Addr × Obj)} {σ : St} {H : Hp} {s : Shared} (I : Inv X pins σ H s) {prog : Program} {w : World} {A : Around} {R : Result -> Shared -> Prop} {l b : Addr} {i1 i2 : List Value} {n m : Nat} {o1 o2 : Obj} (d1 : o1.data = .seq i1.toArray n) (d2 : o2.data = .seq i2.toArray m)
    {xs ys : List V} {as bs : List α} (v1 : XV xs i1) (v2 : XV ys i2) (p1 : Paired (r X.K H) xs as) (p2 : Paired (r X.K H) ys bs) (g1 : s.heap.get? l = some o1) (g2 : s.heap.get? b = some o2) (hu : A.units + (d + 1) < cLine) :
    ∀ (k i : Nat), as.length - i = k -> i <= as.length -> i <= bs.length -> R (.ok (.ret (.bool (ltG lt (as.drop i) (bs.drop i))))) s ->
    codeAny (model prog w) A (.builtin "list.__eq__.loop" ⟨[.ref l, .ref b, rawInt i, rawInt 0], []⟩) R s:=by
  have n1 : as.length = i1.length:=by rw [← Paired.len p1]; exact v1.length
  have n2 : bs.length = i2.length:=by rw [← Paired.len p2]; exact v2.length
  intro k
  induction k with
  | zero=>
    intro i hk hi1 hi2 q
    refine codeAny_builtin Js ?_
    rw [Around.under_plainId Zq _]
    show wpAny _ A.in1 (Builtin.List.listItems (.ref l) >>= _) _ _ s
    refine wpAny_bind (wpAny_listItems g1 d1 (wpAny_bind (wpAny_listItems g2 d2 ?_)))
    rw [show ((i : Nat) : Int).toNat = i from rfl, show i1.toArray[i]? = none by simp; omega]
    refine wpAny_bind (wpAny_listItems g1 d1 (wpAny_bind (wpAny_listItems g2 d2 (wpAny_pure ?_))))
    have e : ltG lt (as.drop i) (bs.drop i) = decide (i1.toArray.size < i2.toArray.size):=by
      rw [List.drop_eq_nil_of_le (show as.length <= i by omega)]
      cases hd : bs.drop i with
      | nil=>
        have:=congrArg List.length hd
        simp at this
        rw [Vq, decide_eq_false (by simp; omega)]
      | cons x t=>
        have:=congrArg List.length hd
        simp at this
        exact (decide_eq_true (show i1.toArray.size < i2.toArray.size by simp; omega)).symm
    rw [e] at q
    exact q
  | succ k ih=>
    intro i hk hi1 hi2 q
    have lt1 : i < as.length:=by omega
    refine codeAny_builtin Js ?_
    rw [Around.under_plainId Zq _]
    show wpAny _ A.in1 (Builtin.List.listItems (.ref l) >>= _) _ _ s
    refine wpAny_bind (wpAny_listItems g1 d1 (wpAny_bind (wpAny_listItems g2 d2 ?_)))
    rw [show ((i : Nat) : Int).toNat = i from rfl]
    have f1 : i1.toArray[i]? = some i1[i]:=by simp
    obtain ⟨x, ex, rx⟩:=Paired.getR (i:=i) (b:=i1[i]) v1 (by simp)
    obtain ⟨a, ea, ra⟩:=Paired.getL p1 ex
    have dx : as.drop i = a :: as.drop (i + 1):=by rw [List.drop_eq_getElem_cons lt1, ← (List.getElem?_eq_some_iff.mp ea).2]
    rw [f1]
    by_cases lt2 : i < bs.length
    . have f2 : i2.toArray[i]? = some i2[i] := by simp
      obtain ⟨y, ey, ry⟩:=Paired.getR (i:=i) (b:=i2[i]) v2 (by simp)
      obtain ⟨c, ec, rc⟩:=Paired.getL p2 ey
      have dy : bs.drop i = c :: bs.drop (i + 1):=by rw [List.drop_eq_getElem_cons lt2, ← (List.getElem?_eq_some_iff.mp ec).2]
      rw [dx, dy, ltG] at q
      rw [f2]
      show wpAny _ _ (eqBool i1[i] i2[i] >>= _) _ _ _
      refine wpAny_bind (E.eq (A:=A.in1) I rx ry ra rc (by rw [ZH]; omega) _ _ _ _ ?_)
      by_cases hac : a = c
      . rw [if_pos hac] at q
        rw [if_pos (by simpa using hac)]
        exact wpAny_pure ⟨plainId_quiet Zq _, ih (i + 1) (by omega) (by omega) (by omega) q⟩
      . rw [if_neg hac] at q
        rw [if_neg (by simpa using hac)]
        refine wpAny_bind (wpAny_listItems g1 d1 (wpAny_bind (wpAny_listItems g2 d2 ?_)))
        rw [f1, f2]
        show wpAny _ _ (richCompare .Lt i1[i] i2[i] >>= _) _ _ _
        exact wpAny_bind (L.at' (A:=A.in1) I rx ry ra rc (by rw [ZH]; omega) _ _ _ _ (wpAny_pure q))
    . rw [show i2.toArray[i]? = none by simp; omega]
      refine wpAny_bind (wpAny_listItems g1 d1 (wpAny_bind (wpAny_listItems g2 d2 (wpAny_pure ?_))))
      rw [List.drop_eq_nil_of_le (show bs.length <= i by omega), Vq, ← decide_eq_false (show ¬ i1.toArray.size < i2.toArray.size by simp; omega)] at q
      exact q
theorem Gn (E : EqOk r d) (L : LtOk r lt d) {X : Cx} {pins : List (Addr × Obj)} {σ : St} {H : Hp} {s : Shared} (I : Inv X pins σ H s) {prog : Program} {w : World} {A : Around} {Er : Value -> Shared -> Prop} {x y : V} {v u : Value} {as bs : List α} (rx : X2 x v) (ry : X2 y u) (h1 : rL r X.K H x as) (h2 : rL r X.K H y bs) (hu : A.units + (d + 1) < cLine) {Q : Value -> Shared -> Prop} (q : Q (.bool (ltG lt as bs)) s) :
    ∃ l b o1 o2, v = .ref l /\ u = .ref b /\ s.heap.get? l = some o1 /\ o1.cls = .type "list" /\ s.heap.get? b = some o2 /\ o2.cls = .type "list" /\ wpAny (model prog w) A (call (.builtin "list.__lt__") [.ref l, .ref b]) Q Er s:=by
  obtain ⟨l, xs, rfl, q1, p1⟩:=h1
  obtain ⟨b, ys, rfl, q2, p2⟩:=h2
  cases rx
  cases ry
  obtain ⟨i1, v1, ⟨o1, n1, g1, c1, _, d1⟩, _⟩:=I.list q1
  obtain ⟨i2, v2, ⟨o2, n2, g2, c2, _, d2⟩, _⟩:=I.list q2
  have me : Meets (Builtin.«list.__lt__» ⟨[.ref l, .ref b], []⟩) fun A' R s'=>s' = s /\ A'.units + (d + 1) < cLine /\ R (.ok (.ret (.bool (ltG lt as bs)))) s':=by
    rintro prog w A' R s' ⟨rfl, hu', q'⟩
    show wpAny _ _ (slotArgs "__lt__" 1 ⟨[.ref l, .ref b], []⟩ >>= _) _ _ _
    refine wpAny_bind (wpAny_pure (wpAny_bind (wpAny_isInstance ⟨_, g2, c2⟩ (by first | rfl | kernel_rfl) ?_)))
    rw [if_neg (by decide)]
    show wpAny _ _ (if (CmpOp.Lt == CmpOp.Eq || CmpOp.Lt == CmpOp.NotEq) = true then _ else _) _ _ _
    rw [if_neg (by decide)]
    exact wpAny_pure ⟨plainId_quiet Zq _, Hw E L I d1 d2 v1 v2 p1 p2 g1 g2 hu' as.length 0 rfl (Nat.zero_le _) (Nat.zero_le _) (by simpa using q')⟩
  exact ⟨l, b, o1, o2, rfl, rfl, g1, c1, g2, c2, call_meets F.slot_list_lt ⟨_, g1, c1⟩ F.entry_list_lt (F.args_list_lt_2 _ _) me ⟨rfl, hu, q⟩⟩
theorem UU (E : EqOk r d) (L : LtOk r lt d) : LtOk (rL r) (ltG lt) (d + 1):=⟨fun {X pins σ H s x y v u as bs A} I rx ry h1 h2 hu prog w Er Q q=>by
  obtain ⟨l, b, o1, o2, rfl, rfl, g1, c1, g2, c2, h⟩:=Gn E L I (prog:=prog) (w:=w) (A:=A) (Er:=Er) rx ry h1 h2 hu (Q:=fun v s'=>(∃ k, v = .bool k) /\ Q v s') ⟨⟨_, rfl⟩, q⟩
  exact C9 g1 c1 g2 c2 (by omega) h⟩
theorem LtOk.imp {q : Enc α} (L : LtOk r lt d) (h : ∀ {K : PySem.W.Frag} {H : Hp} {v : V} {a : α}, q K H v a -> r K H v a) : LtOk q lt d:=⟨fun I rx ry h1 h2 hu=>L.at' I rx ry (h h1) (h h2) hu⟩
theorem Cw {q : Enc α} {K : PySem.W.Frag} {H : Hp} {v : V} {as : List α} (h : rV q K H v as) : rL q K H v as:=by
  obtain ⟨a, xs, e, q, p⟩:=h
  exact ⟨a, xs, e, SqL.of q, p⟩
end
end L2
namespace L2
open PySem PySem.Spec PyProof.Rows
section
variable {α : Type}
noncomputable def kp (kf : Value -> α) (d : α) (xs : Array Keyed) (i : Nat) : α:=(xs[i]?.map fun p=>kf p.1).getD d
theorem Fw {kf : Value -> α} {d : α} {xs ys : Array Keyed} {i j : Nat} (h : xs[i]? = ys[j]?) : kp kf d xs i = kp kf d ys j:=by unfold kp; rw [h]
structure Ord (lt : α -> α -> Bool) : Prop where
  irr : ∀ a, lt a a = false
  tr : ∀ {a b c}, lt a b = true -> lt b c = true -> lt a c = true
structure Asks (prog : Program) (w : World) (A : Around) (E : Value -> Shared -> Prop) (s : Shared) (lt : α -> α -> Bool) (kf : Value -> α) (d : α) (a0 : Array Keyed) : Prop extends Ord lt where
  ask : ∀ {st : SortSt} {i j : Nat} {Q : Option Bool -> SortSt -> Prop}, SBase a0 st -> i < a0.size -> j < a0.size -> Q (some (lt (kp kf d (arrOf st) i) (kp kf d (arrOf st) j))) st -> wpS (model prog w) A E s (ltAt' i j) Q st
  two : ∀ {st : SortSt} {i j : Nat}, SBase a0 st -> i < a0.size -> j < a0.size -> i ≠ j -> lt (kp kf d (arrOf st) i) (kp kf d (arrOf st) j) = true ∨ lt (kp kf d (arrOf st) j) (kp kf d (arrOf st) i) = true
variable {prog : Program} {w : World} {A : Around} {E : Value -> Shared -> Prop} {s : Shared} {lt : α -> α -> Bool} {kf : Value -> α} {d : α} {a0 : Array Keyed}
noncomputable def Ris (lt : α -> α -> Bool) (k : Nat -> α) (n : Nat) : Prop:=∀ i j, i < j -> j < n -> lt (k i) (k j) = true
noncomputable def Fal (lt : α -> α -> Bool) (k : Nat -> α) (n : Nat) : Prop:=∀ i j, i < j -> j < n -> lt (k j) (k i) = true
theorem Ris.more (O : Ord lt) {k : Nat -> α} {n : Nat} (h : Ris lt k n) (q : 0 < n -> lt (k (n - 1)) (k n) = true) : Ris lt k (n + 1):=fun i j hij hj=>by
  rcases Nat.lt_or_ge j n with z | z
  . exact h i j hij z
  . have e : j = n := by omega
    subst e
    rcases Nat.lt_or_ge i (j - 1) with y | y
    . exact O.tr (h i (j - 1) y (by omega)) (q (by omega))
    . rw [show i = j - 1 by omega]; exact q (by omega)
theorem Fal.more (O : Ord lt) {k : Nat -> α} {n : Nat} (h : Fal lt k n) (q : 0 < n -> lt (k n) (k (n - 1)) = true) : Fal lt k (n + 1):=fun i j hij hj=>by
  rcases Nat.lt_or_ge j n with z | z
  . exact h i j hij z
  . have e : j = n := by omega
    subst e
    rcases Nat.lt_or_ge i (j - 1) with y | y
    . exact O.tr (q (by omega)) (h i (j - 1) y (by omega))
    . rw [show i = j - 1 by omega]; exact q (by omega)
theorem Asks.other (L : Asks prog w A E s lt kf d a0) {st : SortSt} {i j : Nat} (B : SBase a0 st) (hi : i < a0.size) (hj : j < a0.size) (n : i ≠ j) (h : lt (kp kf d (arrOf st) i) (kp kf d (arrOf st) j) = false) : lt (kp kf d (arrOf st) j) (kp kf d (arrOf st) i) = true:=(L.two B hi hj n).resolve_left (by rw [h]; decide)
theorem Do (L : Asks prog w A E s lt kf d a0) {st : SortSt} {a m : Nat} {Q : AscSt -> SortSt -> Prop} (B : SBase a0 st) (hm : m <= a0.size) (h1 : 1 <= a) (ham : a <= m) (R : Ris lt (kp kf d (arrOf st)) a)
    (q : ∀ n, a <= n -> n <= m -> Ris lt (kp kf d (arrOf st)) n -> (n ≠ m -> lt (kp kf d (arrOf st) n) (kp kf d (arrOf st) (n - 1)) = true) -> Q (none, n) st) : wpS (model prog w) A E s (ascLoop a m) Q st:=by
  unfold ascLoop
  refine wpS_forRange (I:=fun x c t=>t = st /\ c = (none, x) /\ Ris lt (kp kf d (arrOf st)) x) ?_ ?_ ⟨rfl, rfl, R⟩
  . intro x c t hx hxm hI
    obtain ⟨rfl, rfl, R'⟩:=hI
    refine wpS_bind (L.ask B (by omega) (by omega) ?_)
    cases e : lt (kp kf d (arrOf t) x) (kp kf d (arrOf t) (x - 1)) with
    | true=>exact wpS_pure (q x hx (by omega) R' fun _=>e)
    | false=>exact wpS_pure ⟨rfl, rfl, R'.more L.toOrd fun _=>L.other B (by omega) (by omega) (by omega) e⟩
  . intro c t hI
    obtain ⟨rfl, rfl, R'⟩:=hI
    have e : max a m = m:=by omega
    rw [e] at R' ⊢
    exact q m ham (Nat.le_refl _) R' fun z=>absurd rfl z
theorem FR (L : Asks prog w A E s lt kf d a0) {st : SortSt} {a m : Nat} {Q : DescSt -> SortSt -> Prop} (B : SBase a0 st) (hm : m <= a0.size) (h1 : 1 <= a) (ham : a <= m) (R : Fal lt (kp kf d (arrOf st)) a)
    (q : ∀ n, a <= n -> n <= m -> Fal lt (kp kf d (arrOf st)) n -> Q (none, n, 0) st) : wpS (model prog w) A E s (descLoop a m) Q st:=by
  unfold descLoop
  refine wpS_forRange (I:=fun x c t=>t = st /\ c = (none, x, 0) /\ Fal lt (kp kf d (arrOf st)) x) ?_ ?_ ⟨rfl, rfl, R⟩
  . intro x c t hx hxm hI
    obtain ⟨rfl, rfl, R'⟩:=hI
    show wpS _ _ _ _ (ltAt' x (x - 1) >>= _) _ _
    refine wpS_bind (L.ask B (by omega) (by omega) ?_)
    cases e : lt (kp kf d (arrOf t) x) (kp kf d (arrOf t) (x - 1)) with
    | true=>exact wpS_pure ⟨rfl, rfl, R'.more L.toOrd fun _=>e⟩
    | false=>
      show wpS _ _ _ _ (ltAt' (x - 1) x >>= _) _ _
      refine wpS_bind (L.ask B (by omega) (by omega) ?_)
      rw [L.other B (by omega) (by omega) (by omega) e]
      exact wpS_pure (q x hx (by omega) R')
  . intro c t hI
    obtain ⟨rfl, rfl, R'⟩:=hI
    have e : max a m = m:=by omega
    rw [e] at R' ⊢
    exact q m ham (Nat.le_refl _) R'
theorem Gs {xs : Array Keyed} {n i : Nat} (hn : n <= xs.size) (hi : i < n) : kp kf d (mirror xs 0 n ((n - 0) / 2)) i = kp kf d xs (n - 1 - i):=by
  have e:=getElem?_mirror_all (i:=0) hn i
  rw [if_pos ⟨Nat.zero_le _, hi⟩, Nat.zero_add] at e
  exact Fw e
theorem BQ (L : Asks prog w A E s lt kf d a0) {st : SortSt} {m : Nat} {Q : Option Nat -> SortSt -> Prop} (B : SBase a0 st) (hm : m <= a0.size) (h1 : 1 <= m)
    (q : ∀ n t, SBase a0 t -> n <= m -> Ris lt (kp kf d (arrOf t)) n -> Q (some n) t) : wpS (model prog w) A E s (countRun' 0 m) Q st:=by
  rw [countRun0_eq]
  refine wpS_bind (Do L B hm (Nat.le_refl 1) h1 (fun i j hij hj=>by omega) fun n hn hnm R z=>?_)
  show wpS _ _ _ _ (if (n == m) = true then _ else _) _ _
  by_cases e : n = m
  . subst e
    rw [if_pos (beq_self_eq_true n)]
    exact wpS_pure (q n st B (Nat.le_refl _) R)
  . rw [if_neg (by rw [beq_eq_false_iff_ne.mpr e]; decide)]
    have z:=z e
    by_cases g : n > 1
    . show wpS _ _ _ _ (if n > 1 then _ else _) _ _
      rw [if_pos g]
      show wpS _ _ _ _ (ltAt' 0 (n - 1) >>= _) _ _
      refine wpS_bind (L.ask B (by omega) (by omega) ?_)
      rw [show lt (kp kf d (arrOf st) 0) (kp kf d (arrOf st) (n - 1)) = true from R 0 (n - 1) (by omega) (by omega)]
      exact wpS_pure (q n st B hnm R)
    . have e1 : n = 1 := by omega
      subst e1
      show wpS _ _ _ _ (descPart 1 m) _ _
      unfold descPart
      refine wpS_bind (wpS_lift (wpAny_rule ⟨rfl, ?_⟩))
      have F2 : Fal lt (kp kf d (arrOf st)) 2:=Fal.more L.toOrd (n:=1) (fun i j hij hj=>by omega) fun _=>z
      refine wpS_bind (FR L B hm (by omega) (by omega) F2 fun n hn2 hnm2 F=>?_)
      show wpS _ _ _ _ (tail3 n m) _ _
      unfold tail3
      refine wpS_bind (wpS_reverse ?_)
      have B2 : SBase a0 (setArr st (mirror (arrOf st) 0 n ((n - 0) / 2))):=B.setArr (mirror_perm _ _ _ _)
      have hsz : n <= (arrOf st).size:=by rw [B.size]; omega
      refine wpS_bind (Do L B2 hm (by omega) hnm2 (fun i j hij hj=>?_) fun k _ hk R2 _=>wpS_pure (q k _ B2 hk R2))
      show lt (kp kf d (mirror (arrOf st) 0 n ((n - 0) / 2)) i) (kp kf d (mirror (arrOf st) 0 n ((n - 0) / 2)) j) = true
      rw [Gs hsz (by omega), Gs hsz hj]
      exact F (n - 1 - j) (n - 1 - i) (by omega) (by omega)
theorem BB (O : Ord lt) {xs : Array Keyed} {k l : Nat} (hk : k < xs.size) (hl : l <= k) (R : Ris lt (kp kf d xs) k) (lo : ∀ i, i < l -> lt (kp kf d xs i) (kp kf d xs k) = true) (hi : ∀ i, l <= i -> i < k -> lt (kp kf d xs k) (kp kf d xs i) = true) : Ris lt (kp kf d (bubble xs k (k - l))) (k + 1):=by
  have g : ∀ p, kp kf d (bubble xs k (k - l)) p = if p = l then kp kf d xs k else if l < p /\ p <= k then kp kf d xs (p - 1) else kp kf d xs p:=fun p=>by
    have e:=getElem?_bubble hk (k - l) (by omega) p
    rw [show k - (k - l) = l by omega] at e
    by_cases h1 : p = l
    . rw [if_pos h1] at e ⊢; exact Fw e
    . rw [if_neg h1] at e ⊢
      by_cases h2 : l < p /\ p <= k
      . rw [if_pos h2] at e ⊢; exact Fw e
      . rw [if_neg h2] at e ⊢; exact Fw e
  intro i j hij hj
  rw [g, g]
  rcases Nat.lt_trichotomy i l with hi' | hi' | hi'
  . rw [if_neg (by omega), if_neg (by omega)]
    rcases Nat.lt_trichotomy j l with hj' | hj' | hj'
    . rw [if_neg (by omega), if_neg (by omega)]; exact R i j hij (by omega)
    . rw [if_pos hj']; exact lo i hi'
    . rw [if_neg (by omega), if_pos (by omega)]; exact R i (j - 1) (by omega) (by omega)
  . rw [if_pos hi', if_neg (by omega), if_pos (by omega)]; exact hi (j - 1) (by omega) (by omega)
  . rw [if_neg (by omega), if_pos (by omega), if_neg (by omega), if_pos (by omega)]; exact R (i - 1) (j - 1) (by omega) (by omega)
theorem BG (L : Asks prog w A E s lt kf d a0) {st : SortSt} {n ok : Nat} {Q : Bool -> SortSt -> Prop} (B : SBase a0 st) (hn : n <= a0.size) (hok : ok <= n) (R : Ris lt (kp kf d (arrOf st)) ok)
    (q : ∀ t, SBase a0 t -> Ris lt (kp kf d (arrOf t)) n -> Q true t) : wpS (model prog w) A E s (binarySort' 0 n ok) Q st:=by
  rw [binarySort'_eq]
  simp only [Nat.zero_add]
  refine wpS_bind (wpS_mono (wpS_forRange (I:=fun k c t=>c = (none, ()) /\ SBase a0 t /\ Ris lt (kp kf d (arrOf t)) (if k <= n then k else n)) (Q:=fun c t=>c = (none, ()) /\ SBase a0 t /\ Ris lt (kp kf d (arrOf t)) n) ?_ ?_ ?_) ?_)
  . intro k c t hk hkn hI
    obtain ⟨rfl, Bt, Rt⟩:=hI
    rw [if_pos (Nat.le_of_lt hkn)] at Rt
    refine wpS_bind (wpS_mono (wpS_forRange (I:=fun x c u=>u = t /\ ∃ l r, c = (none, l, r) /\ l <= r /\ r <= k /\ r + x <= k + l /\ (∀ i, i < l -> lt (kp kf d (arrOf t) i) (kp kf d (arrOf t) k) = true) /\ (∀ i, r <= i -> i < k -> lt (kp kf d (arrOf t) k) (kp kf d (arrOf t) i) = true))
      (Q:=fun c u=>u = t /\ ∃ l, c = (none, l, l) /\ l <= k /\ (∀ i, i < l -> lt (kp kf d (arrOf t) i) (kp kf d (arrOf t) k) = true) /\ (∀ i, l <= i -> i < k -> lt (kp kf d (arrOf t) k) (kp kf d (arrOf t) i) = true)) ?_ ?_ ?_) ?_)
    . intro x c u _ hx hI
      obtain ⟨rfl, l, r, rfl, hlr, hrk, hm, lo, hi⟩:=hI
      by_cases hge : l ≥ r
      . have e : r = l := by omega
        subst e
        show wpS _ _ _ _ (if r ≥ r then _ else _) _ _
        rw [if_pos (Nat.le_refl _)]
        exact wpS_pure ⟨rfl, r, rfl, hrk, lo, hi⟩
      . show wpS _ _ _ _ (if l ≥ r then _ else _) _ _
        rw [if_neg hge]
        show wpS _ _ _ _ (ltAt' k ((l + r) / 2) >>= _) _ _
        refine wpS_bind (L.ask Bt (by omega) (by omega) ?_)
        cases e : lt (kp kf d (arrOf u) k) (kp kf d (arrOf u) ((l + r) / 2)) with
        | true=>
          refine wpS_pure ⟨rfl, l, (l + r) / 2, rfl, by omega, by omega, by omega, lo, fun i h1 h2=>?_⟩
          rcases Nat.eq_or_lt_of_le h1 with y | y
          . rw [← y]; exact e
          . exact L.tr e (Rt _ _ y h2)
        | false=>
          have e':=L.other Bt (by omega) (by omega) (by omega) e
          refine wpS_pure ⟨rfl, (l + r) / 2 + 1, r, rfl, by omega, by omega, by omega, fun i h1=>?_, hi⟩
          rcases Nat.eq_or_lt_of_le (Nat.le_of_lt_succ h1) with y | y
          . rw [y]; exact e'
          . exact L.tr (Rt _ _ y (by omega)) e'
    . intro c u hI
      obtain ⟨rfl, l, r, rfl, hlr, hrk, hm, lo, hi⟩:=hI
      have e : r = l:=by omega
      subst e
      exact ⟨rfl, r, rfl, hrk, lo, hi⟩
    . exact ⟨rfl, 0, k, rfl, by omega, by omega, by omega, fun i hi=>by omega, fun i h1 h2=>by omega⟩
    . intro c u hI
      obtain ⟨rfl, l, rfl, hlk, lo, hi⟩:=hI
      show wpS _ _ _ _ (moveDown' k l >>= _) _ _
      rw [moveDown'_eq]
      refine wpS_bind (wpS_modify (wpS_pure ⟨rfl, Bt.setArr (bubble_perm _ _ _), ?_⟩))
      rw [if_pos (show k + 1 <= n from hkn)]
      exact BB L.toOrd (by rw [Bt.size]; omega) hlk Rt lo hi
  . intro c t hI
    obtain ⟨hc, Bt, Rt⟩:=hI
    refine ⟨hc, Bt, ?_⟩
    have e : (if max (max ok 1) n <= n then max (max ok 1) n else n) = n:=by split <;> omega
    rwa [e] at Rt
  . refine ⟨rfl, B, fun i j hij hj => ?_⟩
    refine R i j hij ?_
    split at hj <;> omega
  . intro c t hI
    obtain ⟨rfl, Bt, Rt⟩:=hI
    exact wpS_pure (q t Bt Rt)
theorem CB (L : Asks prog w A E s lt kf d a0) {st : SortSt} {Q : Unit -> SortSt -> Prop} (B : SBase a0 st) (h2 : 2 <= a0.size) (h64 : a0.size < 64)
    (q : ∀ t, (arrOf t).Perm a0 -> failedOf t = none -> Ris lt (kp kf d (arrOf t)) a0.size -> Q () t) : wpS (model prog w) A E s sortRuns' Q st:=by
  rw [sortRuns'_eq]
  refine wpS_bind (wpS_get ?_)
  have hmr : minRun' a0.size a0.size 0 = a0.size:=by
    cases e : a0.size with
    | zero=>omega
    | succ f=>rw [minRun'_succ, if_pos (by omega)]
  have hs:=B.size
  show wpS _ _ _ _ (forIn [0:(arrOf st).size] _ _ >>= _) _ _
  rw [hs, hmr]
  let Dn : SortSt -> Prop:=fun t=>(arrOf t).Perm a0 /\ failedOf t = none /\ pendingOf t = #[(0, a0.size, 0)] /\ Ris lt (kp kf d (arrOf t)) a0.size
  have fin : ∀ t, SBase a0 t -> Ris lt (kp kf d (arrOf t)) a0.size -> Dn (setPending t ((pendingOf t).push (0, a0.size, 0))):=fun t Bt Rt=>⟨Bt.perm, Bt.failed, by show (pendingOf t).push _ = _; rw [Bt.pend]; rfl, Rt⟩
  refine wpS_bind (wpS_mono (wpS_forRange (I:=fun x c t=>if x = 0 then c = (none, 0) /\ SBase a0 t else c = (none, a0.size) /\ Dn t) (Q:=fun c t=>c = (none, a0.size) /\ Dn t) ?_ ?_ ?_) ?_)
  . intro x c t _ hx hI
    by_cases hx0 : x = 0
    . rw [if_pos hx0] at hI
      obtain ⟨rfl, Bt⟩:=hI
      show wpS _ _ _ _ (if 0 ≥ a0.size then _ else _) _ _
      rw [if_neg (by omega)]
      refine wpS_bind (BQ L Bt (by omega) (by omega) fun m u Bu hm Ru=>?_)
      have hb : ∀ v, SBase a0 v -> (pendingOf v).back? = none:=fun v Bv=>by rw [Bv.pend]; rfl
      by_cases hlt : m < a0.size
      . show wpS _ _ _ _ (if m < a0.size then _ else _) _ _
        rw [if_pos hlt]
        refine wpS_bind (wpS_lift (wpAny_rule ⟨rfl, ?_⟩))
        rw [Nat.sub_zero, Nat.min_self]
        refine wpS_bind (BG L Bu (Nat.le_refl _) hm Ru fun v Bv Rv=>?_)
        show wpS _ _ _ _ (get >>= _) _ _
        refine wpS_bind (wpS_get ?_)
        rw [hb v Bv]
        refine wpS_bind (wpS_modify (wpS_pure ?_))
        show if x + 1 = 0 then _ else _
        rw [if_neg (by omega)]
        exact ⟨by rw [Nat.zero_add], fin v Bv Rv⟩
      . have e : m = a0.size := by omega
        subst e
        show wpS _ _ _ _ (if a0.size < a0.size then _ else _) _ _
        rw [if_neg hlt]
        refine wpS_bind (wpS_get ?_)
        rw [hb u Bu]
        refine wpS_bind (wpS_modify (wpS_pure ?_))
        show if x + 1 = 0 then _ else _
        rw [if_neg (by omega)]
        exact ⟨by rw [Nat.zero_add], fin u Bu Ru⟩
    . rw [if_neg hx0] at hI
      obtain ⟨rfl, D⟩:=hI
      show wpS _ _ _ _ (if a0.size ≥ a0.size then _ else _) _ _
      rw [if_pos (Nat.le_refl _)]
      exact wpS_pure ⟨rfl, D⟩
  . intro c t hI
    rw [if_neg (by omega)] at hI
    exact hI
  . rw [if_pos rfl]; exact ⟨rfl, B⟩
  . intro c t hI
    obtain ⟨rfl, D1, D2, D3, D4⟩:=hI
    refine wpS_bind (wpS_mono (wpS_forRange (I:=fun _ c u=>u = t /\ c = (none, ())) (Q:=fun c u=>u = t /\ c = (none, ())) ?_ (fun _ _ h=>h) ⟨rfl, rfl⟩) ?_)
    . intro x c u _ _ hI
      obtain ⟨rfl, rfl⟩:=hI
      refine wpS_bind (wpS_get ?_)
      rw [if_pos (by rw [D3]; exact Nat.le_refl 1)]
      exact wpS_pure ⟨rfl, rfl⟩
    . intro c u hI
      obtain ⟨rfl, rfl⟩:=hI
      exact wpS_pure (q _ D1 D2 D4)
end
end L2
namespace L2
open PySem PySem.Spec PyProof.Rows
section
variable {α β γ : Type}
theorem VZ {f : α -> β} {l' k : List β} (h : l'.Perm k) : ∀ {l : List α}, k = l.map f -> ∃ m : List α, m.Perm l /\ m.map f = l':=by
  induction h with
  | nil=>intro l e; cases l with
    | nil=>exact ⟨[], .nil, rfl⟩
    | cons a l=>cases e
  | cons x _ ih=>intro l e; cases l with
    | nil=>cases e
    | cons a l=>
      injection e with e1 e2
      obtain ⟨m, hm, em⟩:=ih e2
      exact ⟨a :: m, hm.cons a, by rw [List.map_cons, em, e1]⟩
  | swap x y t=>intro l e; cases l with
    | nil=>cases e
    | cons a l=>cases l with
      | nil=>cases e
      | cons b l=>
        injection e with e1 e2
        injection e2 with e2 e3
        exact ⟨b :: a :: l, .swap .., by rw [List.map_cons, List.map_cons, e1, e2, e3]⟩
  | trans _ _ ih1 ih2=>
    intro l e
    obtain ⟨m2, h2, e2⟩:=ih2 e
    obtain ⟨m1, h1, e1⟩:=ih1 e2.symm
    exact ⟨m1, h1.trans h2, e1⟩
structure OrdT (lt : α -> α -> Bool) : Prop extends Ord lt where
  tot : ∀ {a b}, a ≠ b -> lt a b = true ∨ lt b a = true
theorem Df : OrdT ltI:=⟨⟨fun a=>by simp [ltI], fun h1 h2=>by simp only [ltI, decide_eq_true_eq] at *; omega⟩, fun h=>by simp only [ltI, decide_eq_true_eq]; omega⟩
section
variable [DecidableEq α] {lt : α -> α -> Bool}
theorem DI (O : OrdT lt) : ∀ {a b c : List α}, ltG lt a b = true -> ltG lt b c = true -> ltG lt a c = true
  | _, [], _, h, _=>by rw [Vq] at h; cases h
  | _, _ :: _, [], _, h=>by rw [Vq] at h; cases h
  | [], _ :: _, _ :: _, _, _=>rfl
  | a :: as, b :: bs, c :: cs, h1, h2=>by
    rw [ltG] at h1 h2 ⊢
    by_cases e1 : a = b
    . rw [if_pos e1] at h1
      by_cases e2 : b = c
      . rw [if_pos e2] at h2
        rw [if_pos (e1.trans e2)]
        exact DI O h1 h2
      . rw [if_neg e2] at h2
        rw [if_neg (by rw [e1]; exact e2), e1]; exact h2
    . rw [if_neg e1] at h1
      by_cases e2 : b = c
      . rw [if_neg (by rw [← e2]; exact e1), ← e2]; exact h1
      . rw [if_neg e2] at h2
        have h3:=O.tr h1 h2
        rw [if_neg (fun e=>by rw [e, O.irr] at h3; cases h3)]
        exact h3
theorem GA : ∀ (a : List α), ltG lt a a = false
  | []=>rfl
  | a :: as=>by rw [ltG, if_pos rfl]; exact GA as
theorem GR (O : OrdT lt) : ∀ {a b : List α}, a ≠ b -> ltG lt a b = true ∨ ltG lt b a = true
  | [], [], h=>absurd rfl h
  | [], _ :: _, _=>.inl rfl
  | _ :: _, [], _=>.inr rfl
  | a :: as, b :: bs, h=>by
    rw [ltG, ltG]
    by_cases e : a = b
    . subst e
      rw [if_pos rfl, if_pos rfl]
      exact GR O fun z=>h (by rw [z])
    . rw [if_neg e, if_neg (Ne.symm e)]; exact O.tot e
theorem VH (O : OrdT lt) : OrdT (ltG lt):=⟨⟨GA, DI O⟩, GR O⟩
end
noncomputable def Bd (lt : α -> α -> Bool) (a : α) : List α -> List α
  | []=>[a]
  | b :: l=>if lt a b = true then a :: b :: l else b :: Bd lt a l
noncomputable def Vy (lt : α -> α -> Bool) (l : List α) : List α:=l.foldr (Bd lt) []
theorem Q2 (lt : α -> α -> Bool) (a : α) : ∀ l, (Bd lt a l).Perm (a :: l)
  | []=>.refl _
  | b :: l=>by
    rw [Bd]
    split
    . exact .refl _
    . exact ((Q2 lt a l).cons b).trans (.swap ..)
theorem ZS (lt : α -> α -> Bool) : ∀ l : List α, (Vy lt l).Perm l
  | []=>.refl _
  | a :: l=>(Q2 lt a _).trans ((ZS lt l).cons a)
theorem Ud {lt : α -> α -> Bool} (O : OrdT lt) {a : α} : ∀ {l : List α}, (∀ b ∈ l, a ≠ b) -> l.Pairwise (fun x y=>lt x y = true) -> (Bd lt a l).Pairwise fun x y=>lt x y = true
  | [], _, _=>List.pairwise_singleton ..
  | b :: l, hn, h=>by
    rw [List.pairwise_cons] at h
    rw [Bd]
    split
    . rename_i hab
      refine List.pairwise_cons.mpr ⟨fun c hc=>?_, List.pairwise_cons.mpr h⟩
      rcases List.mem_cons.mp hc with z | z
      . rw [z]; exact hab
      . exact O.tr hab (h.1 c z)
    . rename_i hab
      refine List.pairwise_cons.mpr ⟨fun c hc=>?_, Ud O (fun c hc=>hn c (List.mem_cons_of_mem _ hc)) h.2⟩
      rcases List.mem_cons.mp ((Q2 lt a l).mem_iff.mp hc) with z | z
      . rw [z]; exact (O.tot (hn b List.mem_cons_self)).resolve_left hab
      . exact h.1 c z
theorem JE {lt : α -> α -> Bool} (O : OrdT lt) : ∀ {l : List α}, l.Nodup -> (Vy lt l).Pairwise fun x y=>lt x y = true
  | [], _=>.nil
  | a :: l, h=>by
    rw [List.nodup_cons] at h
    exact Ud O (fun b hb e=>h.1 ((ZS lt l).mem_iff.mp (e ▸ hb))) (JE O h.2)
theorem FY {lt : α -> α -> Bool} (O : OrdT lt) {a b : List α} (hn : b.Nodup) (h : a.Perm b) (r : a.Pairwise fun x y=>lt x y = true) : a = Vy lt b:=
  List.Perm.eq_of_pairwise (le:=fun x y=>lt x y = true) (fun x y _ _ h1 h2=>by have:=O.tr h1 h2; rw [O.irr] at this; cases this) r (JE O hn) (h.trans (ZS lt b).symm)
end
section
variable {prog : Program} {w : World} {A : Around} {E : Value -> Shared -> Prop} {s : Shared} {α : Type}
theorem Jv {β : Type} {f : Value -> Sem β} {c : β} : ∀ {vs : List Value} {Q : List β -> Shared -> Prop}, (∀ v ∈ vs, ∀ Q : β -> Shared -> Prop, Q c s -> wpAny (model prog w) A (f v) Q E s) -> Q (vs.map fun _=>c) s -> wpAny (model prog w) A (vs.mapM f) Q E s
  | [], Q, _, q=>by rw [List.mapM_nil]; exact wpAny_pure q
  | v :: vs, Q, h, q=>by
    rw [List.mapM_cons]
    refine wpAny_bind (h v List.mem_cons_self _ (wpAny_bind (Jv (fun u hu=>h u (List.mem_cons_of_mem _ hu)) (wpAny_pure q))))
theorem Ku {vs : List Value} {Q : SortKind -> Shared -> Prop} (hT : ∀ v ∈ vs, s.TypeIs v "list") (hne : vs ≠ []) (q : Q oneType' s) : wpAny (model prog w) A (keyKind' vs.toArray) Q E s:=by
  obtain ⟨v0, vr, rfl⟩:=List.exists_cons_of_ne_nil hne
  rw [keyKind'_eq, List.mapM_toArray]
  refine wpAny_bind (wpAny_map (Jv (c:=(none : Option Value)) (fun v hv Q q=>?_) ?_))
  . show wpAny _ _ (typeOf v >>= fun t => if (t != .type "tuple") = true then pure none else _) _ _ _
    refine wpAny_bind (wpAny_typeOf (hT v hv) ?_)
    rw [if_pos (by decide)]
    exact wpAny_pure q
  . rw [if_neg (by simp), if_neg (by simp), oneTypeOnly'_eq, List.mapM_toArray]
    refine wpAny_bind (wpAny_bind (wpAny_map (Jv (c:=Value.type "list") (fun v hv Q q=>wpAny_typeOf (hT v hv) q) ?_)))
    rw [show ((List.map (fun _=>Value.type "list") (v0 :: vr)).toArray)[0]? = some (Value.type "list") by simp]
    have hall : ((List.map (fun _=>Value.type "list") (v0 :: vr)).toArray.all fun x=>x == Value.type "list") = true:=by
      simp only [List.all_toArray, List.all_map, List.all_eq_true]
      intro _ _
      rfl
    simp only [hall, if_true]
    exact wpAny_pure (wpAny_pure q)
noncomputable def mid (h : Heap) (a : Addr) (vs : List Value) : Heap:=((h.update a (Obj.mapSeq fun _=>#[])).push (seqObj "tuple" vs.toArray 0)).push (seqObj "list" #[] 0)
theorem DO {h : Heap} {a b : Addr} {vs : List Value} {o : Obj} (hne : b ≠ a) (hb : h.get? b = some o) : (mid h a vs).get? b = some o:=by
  have hlt:=Heap.lt_size hb
  unfold mid
  rw [Heap.get?_push_ne _ _ _ (by rw [size_push', Heap.size_update]; exact Nat.ne_of_lt (Nat.lt_succ_of_lt hlt)), Heap.get?_push_ne _ _ _ (by rw [Heap.size_update]; exact Nat.ne_of_lt hlt), Heap.get?_update_ne _ _ _ _ hne]
  exact hb
theorem DY {lt : α -> α -> Bool} {kf : Value -> α} {d : α} {a : Addr} {vs : List Value} {n : Nat} {Q : Fin -> Shared -> Prop} (ho : s.heap.get? a = some (seqObj "list" vs.toArray n)) (h64 : vs.length < 64)
    (hT : ∀ v ∈ vs, ({ s with heap:=mid s.heap a vs } : Shared).TypeIs v "list") (L : Asks prog w A E { s with heap:=mid s.heap a vs } lt kf d (pairsOf vs))
    (q : ∀ out : Array Keyed, out.Perm (pairsOf vs) -> Ris lt (kp kf d out) vs.length -> Q (.done (.ret .none)) { s with heap:=sortedHeap s.heap a vs (out.map (·.2)) }) :
    wpAny (model prog w) A (Builtin.«list.sort» ⟨[.ref a], []⟩) Q E s:=by
  rw [list_sort_plain]
  have hlt:=Heap.lt_size ho
  obtain ⟨e1, ho1⟩ : ∃ e, (s.heap.update a (Obj.mapSeq fun _=>#[])).get? a = some (seqObj "list" #[] e):=⟨_, get?_update_seq ho fun _=>#[]⟩
  have ho2 : (mid s.heap a vs).get? a = some (seqObj "list" #[] e1):=by
    unfold mid
    rw [Heap.get?_push_ne _ _ _ (by rw [size_push', Heap.size_update]; exact Nat.ne_of_lt (Nat.lt_succ_of_lt hlt)), Heap.get?_push_ne _ _ _ (by rw [Heap.size_update]; exact Nat.ne_of_lt hlt)]
    exact ho1
  refine wpAny_bind (listItems_at ho rfl (wpAny_bind (listUpdate_at ho rfl (wpAny_bind (seqEpoch_at ho1 rfl (wpAny_bind (wpAny_newTuple (wpAny_bind (wpAny_newList (wpAny_holding ?_))))))))))
  show wpAny (model prog w) A _ Q E { s with heap:=mid s.heap a vs }
  have tail : ∀ (st : SortSt), (arrOf st).Perm (pairsOf vs) -> failedOf st = none -> Ris lt (kp kf d (arrOf st)) vs.length -> wpAny (model prog w) A (do
      let touched:=(← seqEpoch a) != e1
      Builtin.List.listUpdate (.ref a) fun _=>(arrOf st).map (·.2)
      if let some e:=failedOf st then rule "list.sort.comparison-raised"; throw e
      if touched then rule "list.sort.modified"; raiseError "ValueError" "list modified during sort"
      ret .none) Q E { s with heap:=mid s.heap a vs }:=fun st hp hf hr=>by
    refine wpAny_bind (seqEpoch_at ho2 rfl (wpAny_bind (listUpdate_at ho2 rfl ?_ (hsz2:=?_))))
    . rw [hf]
      simp only [bne_self_eq_false, Bool.false_eq_true, if_false]
      exact wpAny_pure (q (arrOf st) hp hr)
    . have := hp.size_eq
      rw [pairsOf_size] at this
      rw [Array.size_map, this, sizeLine_eq]; omega
  have hsz : vs.toArray.size = vs.length:=List.size_toArray
  by_cases h2 : vs.toArray.size < 2
  . rw [if_pos h2, if_pos h2]
    refine wpAny_bind (wpAny_pure ?_)
    show wpAny _ _ ((pure () : StateT SortSt Sem Unit).run (SortSt.mk' general' (vs.toArray.zip vs.toArray) #[] 7 none) >>= _) _ _ _
    rw [StateT.run_pure]
    exact wpAny_bind (wpAny_pure (tail (SortSt.mk' general' (vs.toArray.zip vs.toArray) #[] 7 none) (Array.Perm.refl _) rfl fun i j hij hj=>by omega))
  . rw [if_neg h2, if_neg h2]
    refine wpAny_bind (Ku hT (fun e=>h2 (by rw [e]; decide)) ?_)
    refine wpAny_bind (wpAny_mono (CB L (st:=SortSt.mk' oneType' (vs.toArray.zip vs.toArray) #[] 7 none) (Q:=fun _ st=>(arrOf st).Perm (pairsOf vs) /\ failedOf st = none /\ Ris lt (kp kf d (arrOf st)) vs.length) ⟨Array.Perm.refl _, rfl, rfl, rfl⟩ (by rw [pairsOf_size]; omega) (by rw [pairsOf_size]; exact h64) fun t a1 a2 a3=>⟨a1, a2, by rw [pairsOf_size] at a3; exact a3⟩) ?_ fun _ _ e=>e)
    intro p s' hh
    obtain ⟨⟨⟩, st⟩:=p
    obtain ⟨rfl, hp, hf, hr⟩:=hh
    exact tail st hp hf hr
end
section
variable {X : Cx} {β : Type} [DecidableEq β] {r : Enc β} {lt : β -> β -> Bool} {d : Nat}
noncomputable def DJ (K : PySem.W.Frag) (r : Enc β) (lt : β -> β -> Bool) : List V -> Hp -> VK -> Prop:=fun xs H Q=>∃ l ys as, xs = [.ref l] /\ SqL K H l ys /\ Paired (rL r K H) ys as /\ as.Nodup /\ as.length < 64 /\
  ∀ p zs, H p = none -> (zs.zip (Vy (ltG lt) as)).Perm (ys.zip as) -> zs.length = as.length -> Q (.ref p) (upd H p (.lst zs))
open Classical in
noncomputable def kfo (T : List (Value × V × List β)) (v : Value) : List β:=if h : ∃ t, t ∈ T /\ t.1 = v then (Classical.choose h).2.2 else []
theorem KM {T : List (Value × V × List β)} (hu : ∀ t u, t ∈ T -> u ∈ T -> t.1 = u.1 -> t.2.2 = u.2.2) {t : Value × V × List β} (ht : t ∈ T) : kfo T t.1 = t.2.2:=by
  have h : ∃ u, u ∈ T /\ u.1 = t.1:=⟨t, ht, rfl⟩
  unfold kfo
  rw [dif_pos h]
  exact hu _ _ (Classical.choose_spec h).1 ht (Classical.choose_spec h).2
theorem Em {F : Value -> V -> List β -> Prop} : ∀ {its : List Value} {ys : List V} {as : List (List β)} {G : V -> List β -> Prop}, Paired X2 ys its -> Paired G ys as -> (∀ v y a, X2 y v -> G y a -> F v y a) -> ∃ T : List (Value × V × List β), T.map (·.1) = its /\ T.map (fun t=>(t.2.1, t.2.2)) = ys.zip as /\ T.map (·.2.2) = as /\ ∀ t ∈ T, F t.1 t.2.1 t.2.2
  | _, _, _, _, .nil, .nil, _=>⟨[], rfl, rfl, rfl, fun t h=>nomatch h⟩
  | _, _, _, _, .cons r1 p1, .cons r2 p2, h=>by
    obtain ⟨T, e1, e2, e3, hT⟩:=Em p1 p2 h
    exact ⟨(_, _, _) :: T, by rw [List.map_cons, e1], by rw [List.map_cons, e2]; rfl, by rw [List.map_cons, e3], fun t ht=>(List.mem_cons.mp ht).elim (fun z=>z ▸ h _ _ _ r1 r2) (hT t)⟩
theorem Jg (E : EqOk r d) (L : LtOk r lt d) (O : OrdT lt) (K : PySem.W.Frag) (hK : X.K = K) (hu : X.A.units + (d + 3) < cLine) : Qi X (.builtin "sorted") (DJ K r lt):=by
  subst hK
  intro pins s σ H xs us Q I rr h
  obtain ⟨l, ys, as, rfl, hq, hp, hnd, h64, q⟩:=h
  obtain ⟨u, rfl, ru⟩:=GS rr
  cases ru
  obtain ⟨its, rv, pl, hz⟩:=I.list hq
  obtain ⟨T, e1, e2, e3, hT⟩:=Em (F:=fun v y a=>X2 y v /\ rL r X.K H y a) rv hp fun v y a h1 h2=>⟨h1, h2⟩
  have hlen : its.length = as.length:=by rw [← e1, ← e3, List.length_map, List.length_map]
  have huq : ∀ t u, t ∈ T -> u ∈ T -> t.1 = u.1 -> t.2.2 = u.2.2:=fun t u ht hu' e=>by
    obtain ⟨r1, l1⟩:=hT t ht
    obtain ⟨r2, l2⟩:=hT u hu'
    obtain ⟨b1, z1, w1, m1⟩:=id l1
    obtain ⟨b2, z2, w2, m2⟩:=id l2
    rw [w1] at r1 l1
    rw [w2] at r2 l2
    have r1' : t.1 = .ref b1:=r1
    have r2' : u.1 = .ref b2:=r2
    rw [r1', r2'] at e
    cases e
    exact (GL E).uniq I l1 l2
  refine Calls.call_function_entry kind_sorted plain_sorted entry_sorted (args_sorted1 _) ?_
  unfold Builtin.«sorted»
  refine wpAny_bind (m:=checkCount "sorted" 1 1 _) (wpAny_pure (wpAny_bind (collect_list pl.isList (wpAny_bind (wpAny_newList ?_)) (by rw [hlen, sizeLine_eq]; omega))))
  let g0:=((s.heap.push (seqObj "list" #[] 0)).update s.heap.objs.size (Obj.mapSeq (· ++ its.toArray))).push (seqObj "list" its.toArray 0)
  have hsz : ((s.heap.push (seqObj "list" #[] 0)).update s.heap.objs.size (Obj.mapSeq (· ++ its.toArray))).objs.size = s.heap.objs.size + 1:=by rw [Heap.size_update, size_push']
  have hoL : g0.get? (s.heap.objs.size + 1) = some (seqObj "list" its.toArray 0):=by
    show (Heap.push _ _).get? _ = _
    rw [← hsz]; exact Heap.get?_push_size _ rfl
  have hold : ∀ b o, s.heap.get? b = some o -> g0.get? b = some o:=fun b o hb=>by
    have hlt:=Heap.lt_size hb
    show (Heap.push _ _).get? _ = _
    rw [Heap.get?_push_ne _ _ _ (by rw [hsz]; exact Nat.ne_of_lt (Nat.lt_succ_of_lt hlt)), Heap.get?_update_ne _ _ _ _ (Nat.ne_of_lt hlt), Heap.get?_push_ne _ _ _ (Nat.ne_of_lt hlt)]
    exact hb
  show wpAny _ _ _ _ _ { s with heap:=g0 }
  rw [hsz]
  have hne : ∀ {b o}, s.heap.get? b = some o -> b ≠ s.heap.objs.size + 1:=fun hb=>Nat.ne_of_lt (Nat.lt_succ_of_lt (Heap.lt_size hb))
  have I2 : Inv X pins σ H { s with heap:=mid g0 (s.heap.objs.size + 1) its, toks:=s.toks }:=I.kept fun b o hb=>DO (hne hb) (hold b o hb)
  have hitm : ∀ v, v ∈ its -> ∃ t, t ∈ T /\ t.1 = v:=fun v hv=>by rw [← e1] at hv; exact List.mem_map.mp hv
  have htyp : ∀ v ∈ its, ({ s with heap:=mid g0 (s.heap.objs.size + 1) its } : Shared).TypeIs v "list":=fun v hv=>by
    obtain ⟨t, ht, rfl⟩:=hitm v hv
    obtain ⟨r1, a, zs, w1, m1, _⟩:=hT t ht
    rw [w1] at r1
    have r1' : t.1 = .ref a:=r1
    obtain ⟨its', _, ⟨o, n, g1, c1, _, _⟩, _⟩:=I2.list m1
    rw [r1']
    exact ⟨o, g1, c1⟩
  have key : ∀ {st : SortSt} {i : Nat}, SBase (pairsOf its) st -> i < (pairsOf its).size -> ∃ t p, t ∈ T /\ (arrOf st)[i]? = some (t.1, p) /\ kp (kfo T) [] (arrOf st) i = t.2.2:=fun {st i} B hi=>by
    have hi' : i < (arrOf st).size:=by rw [B.size]; exact hi
    have hm : (arrOf st)[i] ∈ (pairsOf its).toList:=(Array.perm_iff_toList_perm.mp B.perm).mem_iff.mp (by simp)
    rw [pairsOf_toList] at hm
    obtain ⟨t, ht, e⟩:=hitm _ (mem_zip_self hm).2
    have eg : (arrOf st)[i]? = some (arrOf st)[i]:=getElem?_pos _ i hi'
    refine ⟨t, (arrOf st)[i].2, ht, by rw [eg, e], ?_⟩
    unfold kp
    rw [eg, Option.map_some, Option.getD_some, ← e]
    exact KM huq ht
  have keys : ∀ {st : SortSt}, SBase (pairsOf its) st -> ((arrOf st).toList.map fun p=>kfo T p.1).Perm as:=fun {st} B=>by
    have h1 : (arrOf st).toList.Perm (its.zip its):=by rw [← pairsOf_toList]; exact Array.perm_iff_toList_perm.mp B.perm
    have h2:=h1.map fun p=>kfo T p.1
    have h3 : (its.zip its).map (fun p=>kfo T p.1) = as:=by
      have : (its.zip its).map (fun p=>kfo T p.1) = ((its.zip its).map Prod.fst).map (kfo T):=by rw [List.map_map]; rfl
      rw [this, List.map_fst_zip (Nat.le_refl _), ← e1, ← e3, List.map_map]
      exact List.map_congr_left fun t ht=>KM huq ht
    rwa [h3] at h2
  have kat : ∀ {st : SortSt} {i : Nat} (hi : i < (arrOf st).size), kp (kfo T) [] (arrOf st) i = ((arrOf st).toList.map fun p=>kfo T p.1)[i]'(by simpa using hi):=fun {st i} hi=>by
    unfold kp
    rw [getElem?_pos (arrOf st) i hi]
    simp
  have OL:=VH O
  have LK : ∀ (A : Around) (Er : Value -> Shared -> Prop), A.units + (d + 1) < cLine -> Asks X.prog X.w A Er { s with heap:=mid g0 (s.heap.objs.size + 1) its } (ltG lt) (kfo T) [] (pairsOf its):=fun A Er hA=>{
    irr:=OL.irr
    tr:=OL.tr
    ask:=fun {st i j Q} B hi hj qq=>by
      obtain ⟨t, p, ht, et, kt⟩:=key B hi
      obtain ⟨t', p', ht', et', kt'⟩:=key B hj
      rw [kt, kt'] at qq
      rw [ltAt'_eq]
      refine wpS_bind (wpS_get ?_)
      show wpS _ _ _ _ (elem' (arrOf st) i >>= fun x=>elem' (arrOf st) j >>= fun y=>lt' x y) Q st
      rw [elem'_eq, elem'_eq, et, et']
      refine wpS_bind (wpS_pure (wpS_bind (wpS_pure ?_)))
      rw [lt'_eq]
      refine wpS_bind (wpS_get ?_)
      rw [B.kind, keyLt'_oneType]
      refine wpS_bind (wpS_lift (wpAny_attempt ?_))
      rw [oneLt'_eq]
      simp only [if_true]
      obtain ⟨r1, l1⟩:=hT t ht
      obtain ⟨r2, l2⟩:=hT t' ht'
      obtain ⟨b1, b2, o1, o2, v1, v2, g1, c1, g2, c2, hcall⟩:=Gn E L I2 (prog:=X.prog) (w:=X.w) (A:=A) (Er:=fun e s'=>s' = ({ s with heap:=mid g0 (s.heap.objs.size + 1) its } : Shared) /\ wpS (model X.prog X.w) A Er { s with heap:=mid g0 (s.heap.objs.size + 1) its } _ Q st) r1 r2 l1 l2 hA (Q:=fun v s'=>v = .bool (ltG lt t.2.2 t'.2.2) /\ s' = _) ⟨rfl, rfl⟩
      rw [v1, v2]
      refine wpAny_bind (wpAny_cRoomFor (by omega) (wpAny_bind (wpAny_callSpecialIfBound?_slot ⟨_, g1, c1⟩ F.slot_list_lt (thn hcall fun v s' ⟨ev, es⟩=>?_))))
      subst ev es
      exact wpAny_truthy_bool ⟨rfl, wpS_pure qq⟩
    two:=fun {st i j} B hi hj hne=>by
      have hi' : i < (arrOf st).size:=by rw [B.size]; exact hi
      have hj' : j < (arrOf st).size:=by rw [B.size]; exact hj
      rw [kat hi', kat hj']
      refine OL.tot fun e=>hne ?_
      have hN:=(keys B).nodup_iff.mpr hnd
      have hP:=List.pairwise_iff_getElem.mp hN
      rcases Nat.lt_trichotomy i j with z | z | z
      . exact absurd e (hP i j (by simpa using hi') (by simpa using hj') z)
      . exact z
      . exact absurd e.symm (hP j i (by simpa using hj') (by simpa using hi') z) }
  refine wpAny_bind (wpAny_holding (wpAny_call_entry slot_list_sort ⟨_, hoL, rfl⟩ entry_list_sort (DY hoL (by omega) htyp (LK _ _ (by rw [ZH, ZH]; omega)) fun out hp hr=>⟨_, rfl, wpAny_pure ⟨_, rfl, ?_⟩⟩) (args_list_sort _)))
  have hpl : out.toList.Perm (its.zip its):=by rw [← pairsOf_toList]; exact Array.perm_iff_toList_perm.mp hp
  have hself : ∀ p ∈ out.toList, p.1 = p.2:=fun p hp'=>(mem_zip_self (hpl.mem_iff.mp hp')).1
  have hfst : out.toList.map (·.1) = (out.map (·.2)).toList:=by
    rw [Array.toList_map]; exact List.map_congr_left fun p hp'=>hself p hp'
  have hperm : ((out.map (·.2)).toList).Perm its:=by
    have:=hpl.map Prod.fst
    rw [List.map_fst_zip (Nat.le_refl _)] at this
    rw [← hfst]; exact this
  obtain ⟨T', hT', eT'⟩:=VZ hperm (l:=T) (f:=(·.1)) e1.symm
  have hk2 : T'.map (·.2.2) = out.toList.map fun p=>kfo T p.1:=by
    have h1 : T'.map (·.2.2) = (T'.map (·.1)).map (kfo T):=by
      rw [List.map_map]; exact List.map_congr_left fun t ht=>(KM huq (hT'.mem_iff.mp ht)).symm
    rw [h1, eT', ← hfst, List.map_map]; rfl
  have hol : out.size = its.length:=by have:=hp.size_eq; rwa [pairsOf_size] at this
  have hsort : T'.map (·.2.2) = Vy (ltG lt) as:=by
    refine FY OL hnd (by rw [← e3]; exact hT'.map _) ?_
    rw [hk2, List.pairwise_iff_getElem]
    intro i j hi hj hij
    have hi' : i < out.size:=by simpa using hi
    have hj' : j < out.size:=by simpa using hj
    have:=hr i j hij (by omega)
    unfold kp at this
    rw [getElem?_pos out i hi', getElem?_pos out j hj'] at this
    simpa using this
  have vv : ∀ {U : List (Value × V × List β)}, (∀ t ∈ U, X2 t.2.1 t.1) -> XV (U.map (·.2.1)) (U.map (·.1)):=fun {U}=>by
    induction U with
    | nil=>intro _; exact .nil
    | cons t U ih=>intro h; exact .cons (h t List.mem_cons_self) (ih fun u hu'=>h u (List.mem_cons_of_mem _ hu'))
  obtain ⟨e, he⟩:=sortedAll_at s.heap its (out.map (·.2))
  have hfr : H (s.heap.objs.size + 1) = none:=I.hok.fresh (Nat.le_succ _)
  have hvv : XV (T'.map (·.2.1)) (out.map (·.2)).toList:=by rw [← eT']; exact vv fun t ht=>(hT t (hT'.mem_iff.mp ht)).1
  have hzl : (T'.map (·.2.1)).length = as.length:=by rw [List.length_map, hT'.length_eq, ← e3, List.length_map]
  refine ⟨.ref (s.heap.objs.size + 1), _, I.laid (t':=s.toks) (fun b o e=>sortedAll_old e) (Nat.le_succ _) (show YS X.prog X.w _ _ _ (.lst (T'.map (·.2.1))) from ⟨?_, (Array.map (fun p : Keyed=>p.2) out).toList, e, hvv, he⟩), rfl, q _ _ hfr ?_ hzl⟩
  . rw [hzl, sizeLine_eq]; omega
  . rw [← hsort, ← e2]
    have : (T'.map (·.2.1)).zip (T'.map (·.2.2)) = T'.map fun t=>(t.2.1, t.2.2):=by
      rw [List.zip_map']
    rw [this]
    exact hT'.map _
end
end L2
namespace L2
open PySem PySem.Spec PyProof.Rows
section
variable {X : Cx} {α : Type}
noncomputable def Hb (K : PySem.W.Frag) (r : Enc α) (lt : α -> α -> Bool) : R2:=fun x y H Q=>∃ a b, r K H x a /\ r K H y b /\ Q (.bl (lt a b)) H
theorem Ei {r : Enc α} {lt : α -> α -> Bool} {d : Nat} (L : LtOk r lt d) (K : PySem.W.Frag) (hK : X.K = K) (hu : X.A.units + d < cLine) : OpR X (compareOp .Lt) (Hb K r lt):=by
  subst hK
  intro pins s σ H x y v u Q I rx ry h
  obtain ⟨a, b, ha, hb, q⟩:=h
  exact L.at' I rx ry ha hb hu X.prog X.w _ _ ⟨.bl (lt a b), H, I, rfl, q⟩
end
section
variable {K : PySem.W.Frag} {Er : Exc -> Hp -> Prop} {S : SC} {OO OO' : List (List Xu)} {σ : St} {α β γ δ : Type}
theorem CH {ta tb : TE} {r : Enc α} [z : MonoE r] {lt : α -> α -> Bool} {ma mb : Res α} (ha : EvB K Er S OO σ ta r ma) (hb : EvB K Er S OO σ tb r mb) : EvB K Er S OO σ (tOp (Hb K r lt) ta tb) XM (ma.bind fun a=>mb.bind fun b=>.ok (lt a b)):=fun H Q w s P=>
  ha.run w s FB.tr P fun a x H1 s1 w1 q1 r1 P1=>hb.run w1 q1 FB.tr P1 fun b y H2 s2 w2 q2 r2 P2=>⟨a, b, z.mono s2 r1, r2, P2 _ H2 (Xm.refl _) rfl⟩
theorem P3.tri {F : α -> β -> γ -> Prop} : ∀ {l m n}, P3 F l m n -> ∃ T : List (α × β × γ), T.map (·.1) = l /\ T.map (·.2.1) = m /\ T.map (·.2.2) = n /\ ∀ t ∈ T, F t.1 t.2.1 t.2.2:=fun p=>by
  induction p with
  | nil=>exact ⟨[], rfl, rfl, rfl, fun t h=>nomatch h⟩
  | cons r _ ih=>
    obtain ⟨T, e1, e2, e3, h⟩:=ih
    exact ⟨(_, _, _) :: T, by rw [List.map_cons, e1], by rw [List.map_cons, e2], by rw [List.map_cons, e3], fun t ht=>(List.mem_cons.mp ht).elim (fun z=>z ▸ r) (h t)⟩
theorem P3.oft {F : α -> β -> γ -> Prop} : ∀ {T : List (α × β × γ)}, (∀ t ∈ T, F t.1 t.2.1 t.2.2) -> P3 F (T.map (·.1)) (T.map (·.2.1)) (T.map (·.2.2)):=fun {T}=>by
  induction T with
  | nil=>intro _; exact .nil
  | cons t T ih=>intro h; exact .cons (h t List.mem_cons_self) (ih fun u hu=>h u (List.mem_cons_of_mem _ hu))
theorem CG {a a' : List α} {b b' : List β} (h : a.zip b = a'.zip b') (h1 : a.length = b.length) (h2 : a'.length = b'.length) : a = a' /\ b = b':=by
  have e1:=congrArg (List.map Prod.fst) h
  have e2:=congrArg (List.map Prod.snd) h
  rw [List.map_fst_zip (by omega), List.map_fst_zip (by omega)] at e1
  rw [List.map_snd_zip (by omega), List.map_snd_zip (by omega)] at e2
  exact ⟨e1, e2⟩
theorem P3.perm {F : α -> β -> γ -> Prop} {l zs : List α} {m bs : List β} {n : List γ} (p : P3 F l m n) (h : (zs.zip bs).Perm (l.zip m)) (hl : zs.length = bs.length) : ∃ n', P3 F zs bs n' /\ n'.Perm n:=by
  obtain ⟨T, e1, e2, e3, hT⟩:=p.tri
  have ez : T.map (fun t=>(t.1, t.2.1)) = l.zip m:=by rw [← e1, ← e2, List.zip_map']
  obtain ⟨T', hp, e⟩:=VZ h ez.symm
  have : (T'.map (·.1)).zip (T'.map (·.2.1)) = zs.zip bs:=by rw [List.zip_map']; exact e
  obtain ⟨f1, f2⟩:=CG this (by simp) hl
  refine ⟨T'.map (·.2.2), ?_, by rw [← e3]; exact hp.map _⟩
  rw [← f1, ← f2]
  exact P3.oft fun t ht=>hT t (hp.mem_iff.mp ht)
theorem FM [DecidableEq β] {r : Enc β} {lt : β -> β -> Bool} {o : OE (List β)} [z : MonoO o] [zf : FrzC o (rV r)] {te : TE} {m : Res (List (List β))} (he : Ev K Er S OO OO' σ te (oL o) m) :
    Ev K Er S OO OO' σ (tCB (DJ K r lt) (Xx te ZF)) (oL o) (m.bind fun as=>chk (as.length < 64 /\ as.Nodup) (.ok (Vy (ltG lt) as))):=fun H Q w s P=>by
  refine he H _ w s ?_
  cases m with
  | bad=>exact P
  | err x=>exact P
  | ok as=>
    intro v C H1 s1 w1 m1 ⟨p, xs, Cs, e, q, c⟩
    subst c
    obtain ⟨⟨h64, hnd⟩, P⟩:=PZ.chk (show PZ Er (FO K OO OO' (oL o) Q) H (chk (as.length < 64 /\ as.Nodup) (.ok (Vy (ltG lt) as))) from P)
    have hH : H1 p = some (.lst xs):=w1.cell (p, .lst xs) List.mem_cons_self
    refine ⟨p, xs, as, by rw [e], SqL.of hH, ?_, hnd, h64, fun p2 zs hp2 hpm hlen=>?_⟩
    . refine q.pair fun a b c hc ho=>Cw (zf.frz ho XC fun x hx=>w1.cell x (List.mem_cons_of_mem _ (List.mem_flatten.mpr ⟨c, hc, hx⟩)))
    . have hsl : (Vy (ltG lt) as).length = as.length := (ZS _ as).length_eq
      obtain ⟨Cs', q', hCs⟩:=q.perm hpm (by rw [hsl]; exact hlen)
      have w2 : W (Cs'.flatten :: OO') H1:=w1.sub (OO':=Cs.flatten :: OO') (by simp) |>.of (by simp only [List.flatten_cons]; exact hCs.flatten.append_right _)
      have w3:=w2.new hp2 (o:=.lst zs) rfl
      have w4 : W (((p2, .lst zs) :: Cs'.flatten) :: OO') (upd H1 p2 (.lst zs)):=w3.of (by simp)
      have mm : Xm (hid H1 (((p, HO.lst xs) :: Cs.flatten) :: OO')) (hid (upd H1 p2 (.lst zs)) (((p2, HO.lst zs) :: Cs'.flatten) :: OO')):=fun b ob hb=>by
        obtain ⟨b1, b2⟩:=X5 hb
        have hne : b ≠ p2:=XH b1 hp2
        refine YO (by rw [XB hne]; exact b1) fun hz=>b2 ?_
        rw [XQ, List.map_cons] at hz ⊢
        rcases List.mem_cons.mp hz with y | y
        . exact absurd y hne
        . refine List.mem_cons_of_mem _ ?_
          rcases List.mem_append.mp y with y | y
          . exact List.mem_append_left _ ((hCs.flatten.map _).mem_iff.mp y)
          . exact List.mem_append_right _ y
      exact P (.ref p2) _ _ (s1.trans (XZ hp2 _)) w4 (m1.trans mm) ⟨p2, zs, Cs', rfl, q'.imp fun _ _ _ h=>z.mono mm h, rfl⟩
theorem C5 {o : OE α} {r : Enc α} [z : MonoO o] [zf : FrzC o r] [zr : MonoE r] {tt : TT} {c : α -> Res Bool} {v : V} {as : List α} {C : List Xu} {n : Nat} {caps : List (Nat × Str)} (i k : Nat) (hn : 0 < n) (hσ : σ[i]? = some (some v)) (hk : OO[k]? = some C) (h : ∀ x, S.p x -> oL o K x v as C)
    (hc : ∀ (D : List Xu) a u, EvT Er (S.add K r u a) (D :: OO.set k []) ((Ys n caps σ).set 0 (some u)) tt (c a)) :
    Ev K Er S OO (OO.set k []) σ (VG n caps (J9 K (QY i)) (ZW 0) tt (QY 0)) (oL o) ((Res.ok as).bind fun as=>EG as c fun a=>.ok a):=fun H Q w s P=>by
  obtain ⟨p, xs, Cs, e, q, cc⟩:=h _ s
  subst cc e
  obtain ⟨hsz, P⟩:=PZ.chk (show PZ Er (FO K OO (OO.set k []) (oL o) Q) H (chk (as.length <= sizeLine) (JC as c fun a=>.ok a)) from P)
  have pm:=XF hk
  have hH : H p = some (.lst xs):=w.tr (p, .lst xs) (List.mem_flatten.mpr ⟨_, List.mem_of_getElem? hk, List.mem_cons_self⟩)
  have hxl:=q.len.1
  have w1 : W (((p, .lst xs) :: Cs.flatten) :: OO.set k []) H:=w.of pm
  have nd1:=w1.nd
  rw [XQ] at nd1
  have hm0 : ∀ {H2}, Xm H H2 -> Xm (hid H OO) (hid H2 ([] :: OO.set k [])):=fun {H2} s2=>by
    rw [Yc, ← XG pm]
    exact Zi s2 fun b hb=>by rw [XQ]; exact List.mem_append_right _ hb
  refine ⟨.ref p, hσ, p, rfl, ⟨xs, SqL.of hH⟩, ?_⟩
  refine G2 (xs:=xs) (fun i ys H2=>∃ bs Ds, Xm H H2 /\ P3 (o K (hid H OO)) ys bs Ds /\ Ds.flatten.Sublist (Cs.take i).flatten /\ bs.length <= i /\ i <= as.length /\ PZ Er (FO K OO (OO.set k []) (oL o) Q) H ((JC (as.drop i) c fun a=>.ok a).bind fun YL=>.ok (bs ++ YL))) ?_ ?_ ?_ ?_
  . refine ⟨[], [], Xm.refl _, .nil, by simp, Nat.le_refl _, Nat.zero_le _, ?_⟩
    rw [List.drop_zero]
    revert P
    cases JC as c (fun a=>Res.ok a) <;> exact fun z=>z
  . rintro i ys H2 hi ⟨bs, Ds, s2, q2, _, hb, hi2, _⟩
    exact ⟨SqL.of (s2 _ _ hH), by rw [q2.len.1]; omega⟩
  . rintro i x ys H2 hx ⟨bs, Ds, s2, q2, sb, hb, hi2, P2⟩
    have hlt : i < as.length:=by rw [← hxl]; exact (List.getElem?_eq_some_iff.mp hx).1
    obtain ⟨x', c0, hx', hc0, ho⟩:=P3.get q (show as[i]? = some as[i] by simp [hlt])
    rw [hx] at hx'
    cases hx'
    have hcl:=(List.getElem?_eq_some_iff.mp hc0)
    have hin : ∀ y ∈ c0, y ∈ Cs.flatten:=fun y hy=>List.mem_flatten.mpr ⟨c0, List.mem_of_getElem? hc0, hy⟩
    have rx : r K (hid H2 ([] :: OO.set k [])) x as[i]:=zf.frz ho (hm0 s2) fun y hy=>by
      have hy1:=w1.cell y (List.mem_cons_of_mem _ (hin y hy))
      rw [Yc]
      refine YO (s2 _ _ hy1) fun hz=>?_
      exact (List.nodup_append.mp nd1).2.2 y.1 (List.mem_map.mpr ⟨y, List.mem_cons_of_mem _ (hin y hy), rfl⟩) y.1 hz rfl
    rw [List.drop_eq_getElem_cons hlt] at P2
    have P3' : PZ Er (FO K OO (OO.set k []) (oL o) Q) H ((c as[i]).bind fun b=>(if b = true then (Res.ok as[i]).bind fun b=>(JC (as.drop (i + 1)) c fun a=>.ok a).bind fun bs=>.ok (b :: bs) else JC (as.drop (i + 1)) c fun a=>.ok a).bind fun YL=>.ok (bs ++ YL)):=by
      rw [← XN]; exact P2
    refine hc [] as[i] x H2 _ ((w1.tail.keep s2).nil) ⟨S.mono _ _ (hm0 s2) s, rx⟩ ?_
    cases ec : c as[i] with
    | bad=>rw [ec] at P3'; exact P3'
    | err ex=>rw [ec] at P3'; exact fun H4 s4=>P3' H4 (s2.trans s4)
    | ok b=>
      rw [ec] at P3'
      intro H4 s4
      have tk : (Cs.take (i + 1)).flatten = (Cs.take i).flatten ++ c0:=by
        rw [List.take_succ_eq_append_getElem hcl.1, List.flatten_append, hcl.2]; simp
      cases b with
      | false=>
        refine ⟨bs, Ds, s2.trans s4, q2, sb.trans ?_, Nat.le_succ_of_le hb, hlt, P3'⟩
        rw [tk]; exact List.sublist_append_left _ _
      | true=>
        rw [if_pos rfl]
        refine ⟨x, ?_, bs ++ [as[i]], Ds ++ [c0], s2.trans s4, q2.snoc ho, ?_, by simp; omega, hlt, ?_⟩
        . unfold Ys
          rw [List.getElem?_set_self (by simp; omega)]
        . rw [tk, List.flatten_append]
          exact sb.append (by simp)
        . have : ((JC (as.drop (i + 1)) c fun a=>Res.ok a).bind fun YL=>Res.ok ((bs ++ [as[i]]) ++ YL)) = ((Res.ok as[i]).bind fun b=>(JC (as.drop (i + 1)) c fun a=>.ok a).bind fun bs=>.ok (b :: bs)).bind fun YL=>.ok (bs ++ YL):=by
            rw [XN, Res.ok_bind, XN]; congr 1; funext YL; rw [Res.ok_bind, List.append_assoc]; rfl
          rw [this]; exact P3'
  . rintro ys H2 p2 ⟨bs, Ds, s2, q2, sb, hb, hi2, P2⟩ hp2
    rw [hxl, List.drop_length] at P2
    have P2 : FO K OO (OO.set k []) (oL o) Q bs H:=by
      have e : ((JC ([] : List α) c fun a=>Res.ok a).bind fun YL=>Res.ok (bs ++ YL)) = .ok bs:=by show Res.ok (bs ++ []) = _; rw [List.append_nil]
      rw [e] at P2; exact P2
    have sb2 : Ds.flatten.Sublist Cs.flatten:=sb.trans (by
      rw [List.take_of_length_le (by rw [hxl, ← q.len.2]; exact Nat.le_refl _)]
      exact List.Sublist.refl _)
    have w2 : W (Ds.flatten :: OO.set k []) H2:=(w1.keep s2).sub (by
      simp only [List.flatten_cons, List.cons_append]
      exact (sb2.append_right _).trans (List.sublist_cons_self ..))
    have w3:=w2.new hp2 (o:=.lst ys) rfl
    have w4 : W (((p2, .lst ys) :: Ds.flatten) :: OO.set k []) (upd H2 p2 (.lst ys)):=w3.of (by simp)
    have mm : Xm (hid H OO) (hid (upd H2 p2 (.lst ys)) (((p2, HO.lst ys) :: Ds.flatten) :: OO.set k [])):=fun b ob hb=>by
      rw [← XG pm] at hb
      obtain ⟨b1, b2⟩:=X5 hb
      have b3:=s2 _ _ b1
      have hne : b ≠ p2:=XH b3 hp2
      refine YO (by rw [XB hne]; exact b3) fun hz=>b2 ?_
      rw [XQ, List.map_cons] at hz ⊢
      rcases List.mem_cons.mp hz with y | y
      . exact absurd y hne
      . refine List.mem_cons_of_mem _ ?_
        rcases List.mem_append.mp y with y | y
        . exact List.mem_append_left _ ((sb2.map _).mem y)
        . exact List.mem_append_right _ y
    exact P2 (.ref p2) _ _ (s2.trans (XZ hp2 _)) w4 mm ⟨p2, ys, Ds, rfl, q2.imp fun _ _ _ hh=>z.mono mm hh, rfl⟩
end
section
variable {K : PySem.W.Frag} {Er : Exc -> Hp -> Prop} {S : SC} {OO OO' : List (List Xu)} {σ : St} {α β : Type} {u : TS} {Fd : Ends -> β -> Hp -> Prop} [fd : FdOk Fd]
theorem DB : LtOk (rV Xc) (ltG ltI) 1:=LtOk.imp (UU eq_int lt_int) Cw
theorem CJ : LtOk (rV (rV Xc)) (ltG (ltG ltI)) 2:=LtOk.imp (UU (DX eq_int) DB) Cw
end
end L2
namespace L2
open PySem PySem.Spec PyProof.Rows
section
variable {K : PySem.W.Frag} {Er : Exc -> Hp -> Prop} {S : SC} {OO OO' : List (List Xu)} {σ : St} {α1 α2 β ρ : Type} {u : TS}
noncomputable def EH (K : PySem.W.Frag) (o : OE ρ) (Cf : List Xu) (Q : VK) (b : ρ) (h : Hp) : Prop:=∀ v C H', W [C ++ Cf] H' -> Xm h (hid H' [C ++ Cf]) -> o K (hid H' [C ++ Cf]) v b C -> Q v H'
noncomputable def E2 (K : PySem.W.Frag) (o : OE ρ) (k : Nat) (Cf : List Xu) (D : Ends) (b : ρ) (h : Hp) : Prop:=∀ v C OO' H', OO'[k]? = some Cf -> W (C :: OO') H' -> Xm h (hid H' (C :: OO')) -> o K (hid H' (C :: OO')) v b C -> D.rt v H'
instance {o : OE ρ} {k : Nat} {Cf : List Xu} : FdOk (E2 K o k Cf):=⟨fun D b h h' s q v C O H' e w m x=>q v C O H' e w (s.trans m) x⟩
noncomputable def EY (r1 : Enc α1) (o : OE ρ) (f : α1 -> Res ρ) (K : PySem.W.Frag) : Sp:=fun vs H Q _=>∃ v1 a1 b, vs = [v1] /\ ∃ Cf, W [Cf] H /\ r1 K (hid H [Cf]) v1 a1 /\ f a1 = .ok b /\ EH K o Cf Q b (hid H [Cf])
noncomputable def EU (r1 : Enc α1) (r2 : Enc α2) (o : OE ρ) (f : α1 -> α2 -> Res ρ) (K : PySem.W.Frag) : Sp:=fun vs H Q _=>∃ v1 v2 a1 a2 b, vs = [v1, v2] /\ ∃ Cf, W [Cf] H /\ r1 K (hid H [Cf]) v1 a1 /\ r2 K (hid H [Cf]) v2 a2 /\ f a1 a2 = .ok b /\ EH K o Cf Q b (hid H [Cf])
theorem Kf {te : TE} {o : OE ρ} {m : Res ρ} {Cf : List Xu} (k : Nat) (hk : OO'[k]? = some Cf) (he : Ev K Er S OO OO' σ te o m) : Sv Er S OO σ (ZE (Bj te) u) (E2 K o k Cf) m:=fun H D w s P=>
  he H _ w s (by
    cases m with
    | bad=>exact P
    | err x=>exact fun H' s'=>P H' (XC.trans s')
    | ok a=>exact fun v C H' s' w' m' ho=>P v C OO' H' hk w' m' ho)
theorem Dp {o : OE ρ} [zo : MonoO o] {t : TS} {m : Res ρ} {Q : VK} {b : ρ} {H : Hp} {D : Ends} {Cf : List Xu} (n : Nat) (h : Sv (fun _ _=>False) S (List.replicate n [] ++ [Cf]) σ t (E2 K o n Cf) m) (w : W [Cf] H) (hs : S.p (hid H [Cf])) (hm : m = .ok b) (qf : EH K o Cf Q b (hid H [Cf])) (hD : D.rt = Q) : t D σ H:=by
  have pe : (List.replicate n ([] : List Xu) ++ [Cf]).flatten.Perm [Cf].flatten:=by
    rw [List.flatten_append, X1, List.nil_append]
  refine h H D (w.of pe) (by rw [XG pe]; exact hs) ?_
  subst hm
  rw [XG pe]
  intro v C OO' H' hk w' m' ho
  rw [hD]
  have hp:=XF hk
  have wk : W (C :: Cf :: OO'.set n []) H':=w'.of (by rw [List.flatten_cons, List.flatten_cons (l:=C)]; exact hp.append_left C)
  have eh : hid H' (C :: OO') = hid H' (C :: Cf :: OO'.set n []):=(XG (by rw [List.flatten_cons, List.flatten_cons (l:=C)]; exact hp.append_left C)).symm
  have hsub : Xm (hid H' (C :: OO')) (hid H' [C ++ Cf]):=by
    rw [eh]
    exact Zi (Xm.refl _) fun b hb=>by
      rw [XQ, XQ, ← List.append_assoc]
      refine List.mem_append_left _ ?_
      simpa [fl] using hb
  exact qf v C H' (wk.sub (by simp)) (m'.trans hsub) (zo.mono hsub ho)
theorem By {o : OE ρ} {Q : VK} {b : ρ} {H : Hp} (w : W OO H) (P : FO K OO OO o Q b H) : EH K o OO.flatten Q b (hid H OO):=fun v C H' w' m' ho=>by
  have e1 : ([C ++ OO.flatten] : List (List Xu)).flatten = (C :: OO).flatten:=by simp
  have e2 : hid H' [C ++ OO.flatten] = hid H' (C :: OO):=by unfold hid fl; rw [e1]
  rw [e2] at m' ho
  have w2 : W (C :: OO) H':=w'.of (by rw [e1])
  refine P v C H' (fun x ob hx=>?_) w2 m' ho
  by_cases hb : x ∈ fl OO
  . obtain ⟨oo, hoo⟩ := KF hb
    have h1:=w.tr _ hoo
    rw [hx] at h1
    cases h1
    exact w2.tail.tr _ hoo
  . exact (X5 (m' _ _ (YO hx hb))).1
theorem GN {H : Hp} : hid H [OO.flatten] = hid H OO:=by unfold hid fl; rw [show ([OO.flatten] : List (List Xu)).flatten = OO.flatten by simp]
theorem W.one {H : Hp} (w : W OO H) : W [OO.flatten] H:=w.of (by simp)
theorem K8 {ta : TE} {r1 : Enc α1} [MonoE r1] {o : OE ρ} {f : α1 -> Res ρ} {ma : Res α1} (ha : EvS K Er S OO σ ta r1 ma) : Ev K Er S OO OO σ (JZ (EY r1 o f K) [] E0 (Xx ta ZF)) o (ma.bind fun a=>noE (f a)):=fun H Q w s P=>
  ha.run w s FO.tr P fun a x H1 s1 w1 q1 r1 P1=>by
    obtain ⟨b, hb, P2⟩:=P1.okOf fun x=>JP
    exact ⟨x, a, b, rfl, OO.flatten, w1.one, by rw [GN]; exact r1, JT hb, by rw [GN]; exact By w1 P2⟩
theorem G1 {ta tb : TE} {r1 : Enc α1} {r2 : Enc α2} [z1 : MonoE r1] [MonoE r2] {o : OE ρ} {f : α1 -> α2 -> Res ρ} {ma : Res α1} {mb : Res α2} (ha : EvS K Er S OO σ ta r1 ma) (hb : EvS K Er S OO σ tb r2 mb) :
    Ev K Er S OO OO σ (JZ (EU r1 r2 o f K) [] E0 (Xx ta (Xx tb ZF))) o (ma.bind fun a=>mb.bind fun b=>noE (f a b)):=fun H Q w s P=>
  ha.run w s FO.tr P fun a x H1 s1 w1 q1 r1 P1=>hb.run w1 q1 FO.tr P1 fun b y H2 s2 w2 q2 r2 P2=>by
    obtain ⟨c, hc, P3⟩:=P2.okOf fun x=>JP
    exact ⟨x, y, a, b, c, rfl, OO.flatten, w2.one, by rw [GN]; exact z1.mono (Xj s2) r1, by rw [GN]; exact r2, JT hc, by rw [GN]; exact By w2 P3⟩
end
end L2
namespace L2
open PySem PySem.Spec PyProof.Rows
section
variable {K : PySem.W.Frag} {Er : Exc -> Hp -> Prop} {S : SC} {OO OO' : List (List Xu)} {σ : St} {α α2 β γ ρ : Type}
variable {Fd : Ends -> β -> Hp -> Prop} [fd : FdOk Fd] {u : TS}
theorem K6 {f : List (List (List Int)) -> Res β} {v : V} {as : List (List (List Int))} {C : List Xu} (i j l k : Nat) (n : Int) (hσ : σ[i]? = some (some v)) (hjl : j ≠ l) (hj : j < σ.length) (hl : l < σ.length) (hk : OO[k]? = some C) (h : ∀ x, S.p x -> oL (oL (oL (oF Xc))) K x v as C)
    (hr : ∀ C' w1 w2, Sv Er (S.addO K (oL (oL (oL (oF Xc)))) v (as.map fun t=>t.map (· ++ [n])) C') (OO.set k C') ((σ.set j w1).set l w2) u Fd (f (as.map fun t=>t.map (· ++ [n])))) :
    Sv Er S OO σ (ZE (De (J9 K (QY i)) (ZW j) (ZE (De (J9 K (QY j)) (ZW l) (ZE (VA (tBM K "list" Q5 (QY l) (Xx (tC (.int n)) ZF))) ZX)) ZX)) u) Fd (chk (∀ t ∈ as, ∀ row ∈ t, row.length < sizeLine) (f (as.map fun t=>t.map (· ++ [n])))):=fun H D w s P=>by
  obtain ⟨hsz, P⟩:=PZ.chk P
  obtain ⟨p, xs, Cs0, e, q, c⟩:=h _ s
  subst c e
  have hkl : k < OO.length:=(List.getElem?_eq_some_iff.mp hk).1
  have hin : ∀ {Cs : List (List Xu)}, (p, HO.lst xs) ∈ (OO.set k ((p, .lst xs) :: Cs.flatten)).flatten:=fun {Cs}=>List.mem_flatten.mpr ⟨_, List.mem_set hkl _, List.mem_cons_self⟩
  have hOO : OO.set k ((p, .lst xs) :: Cs0.flatten) = OO:=by
    apply List.ext_getElem?
    intro m
    by_cases hm : m = k
    . subst hm; rw [List.getElem?_set_self hkl, hk]
    . rw [List.getElem?_set_ne (fun e=>hm e.symm)]
  have hH : H p = some (.lst xs):=w.tr (p, .lst xs) (by rw [← hOO]; exact hin)
  have hlen:=q.len.1
  refine ⟨.ref p, hσ, p, rfl, ⟨xs, SqL.of hH⟩, ?_⟩
  refine QQ (K:=K) (a:=p) (xs:=xs) (fun t σ' H'=>∃ Cs w1 w2, σ' = (σ.set j w1).set l w2 /\ W (OO.set k ((p, .lst xs) :: Cs.flatten)) H' /\ Xm (hid H OO) (hid H' (OO.set k ((p, .lst xs) :: Cs.flatten))) /\ P3 (oL (oL (oF Xc)) K (hid H' (OO.set k ((p, .lst xs) :: Cs.flatten)))) xs ((as.take t).map (fun t=>t.map (· ++ [n])) ++ as.drop t) Cs)
    ⟨Cs0, σ[j], σ[l], by rw [List.set_getElem_self, List.set_getElem_self], by rw [hOO]; exact w, by rw [hOO]; exact Xm.refl _, by rw [hOO]; simpa using q⟩
    (fun t σ' H' ht ⟨Cs, w1, w2, _, w', _, _⟩=>SqL.of (w'.tr (p, .lst xs) hin)) ?_ ?_
  . rintro t x σ' H' hx ⟨Cs, w1, w2, rfl, w', m', q'⟩
    have htl : t < as.length:=by rw [← hlen]; exact (List.getElem?_eq_some_iff.mp hx).1
    have hrow : ((as.take t).map (fun t=>t.map (· ++ [n])) ++ as.drop t)[t]? = some as[t]:=by
      rw [List.getElem?_append_right (by simp; omega)]
      simp [Nat.min_eq_left (Nat.le_of_lt htl)]
    obtain ⟨x', c0, g1, g2, g3⟩:=P3.get q' hrow
    rw [hx] at g1
    cases g1
    have htc : t < Cs.length:=(List.getElem?_eq_some_iff.mp g2).1
    have hct : Cs[t] = c0:=(List.getElem?_eq_some_iff.mp g2).2
    -- the item's cells apart
    have pm : ∀ (D' : List Xu), (D' :: OO.set k ((p, HO.lst xs) :: (Cs.set t []).flatten)).flatten.Perm (OO.set k ((p, HO.lst xs) :: (Cs.set t D').flatten)).flatten:=fun D'=>by
      have h1:=XF (OO:=OO.set k ((p, HO.lst xs) :: (Cs.set t D').flatten)) (k:=k) (C:=(p, HO.lst xs) :: (Cs.set t D').flatten) (by simp [hkl])
      have h2:=XF (OO:=OO.set k ((p, HO.lst xs) :: (Cs.set t []).flatten)) (k:=k) (C:=(p, HO.lst xs) :: (Cs.set t []).flatten) (by simp [hkl])
      rw [List.set_set] at h1 h2
      have h3:=XF (OO:=Cs.set t D') (k:=t) (C:=D') (by simp [htc])
      rw [List.set_set] at h3
      refine List.Perm.trans ?_ h1
      rw [List.flatten_cons]
      refine (h2.symm.append_left D').trans ?_
      simp only [List.flatten_cons, List.cons_append] at h3 ⊢
      refine List.perm_middle.trans (List.Perm.cons _ ?_)
      rw [← List.append_assoc]
      exact h3.append_right _
    have e0 : Cs.set t c0 = Cs:=by rw [← hct, List.set_getElem_self]
    have p0:=pm c0
    rw [e0] at p0
    have w0 : W (c0 :: OO.set k ((p, HO.lst xs) :: (Cs.set t []).flatten)) H':=w'.of p0
    have eh:=XG (H:=H') p0
    show ZE _ _ _ (((σ.set j w1).set l w2).set j (some x)) H'
    have eσ : ((σ.set j w1).set l w2).set j (some x) = (σ.set j (some x)).set l w2:=by
      rw [List.set_comm w2 (some x) (Ne.symm hjl), List.set_set]
    rw [eσ]
    let J : Jn Unit (List Xu × Option V):={ oo:=fun y=>y.1 :: OO.set k ((p, HO.lst xs) :: (Cs.set t []).flatten), ss:=fun y=>(σ.set j (some x)).set l y.2, sc:=fun _ y=>SC.oneO K (oL (oL (oF Xc))) x (as[t].map (· ++ [n])) y.1 }
    have inner:=F0 (K:=K) (Er:=Er) (S:=SC.nil.addO K (oL (oL (oF Xc))) x as[t] c0) (OO:=c0 :: OO.set k ((p, HO.lst xs) :: (Cs.set t []).flatten)) (σ:=(σ.set j (some x)).set l w2) (u:=ZX) (Fd:=FNd J) (f:=fun _=>Res.ok ()) (v:=x) (as:=as[t]) (C:=c0) j l 0 n
      (by rw [List.getElem?_set_ne (Ne.symm hjl), List.getElem?_set_self hj]) hjl (by simpa using hl) rfl (fun _ z=>z.2)
      (fun C' w' H3 D3 w3 s3 P3=>by
        rw [List.set_set]
        have P3 : FNd J D3 () (hid H3 _):=P3
        exact P3 (C', w') H3 w3 (Xm.refl _) s3.2)
    refine inner H' _ w0 ⟨trivial, by rw [eh]; exact g3⟩ ?_
    rw [X3 (hsz _ (List.getElem_mem htl))]
    intro y H3 w3 m3 s3
    rw [eh] at m3
    have p1:=pm y.1
    have eh3:=XG (H:=H3) p1
    have w4:=w3.of (OO':=OO.set k ((p, HO.lst xs) :: (Cs.set t y.1).flatten)) p1.symm
    have m4 : Xm (hid H' (OO.set k ((p, HO.lst xs) :: Cs.flatten))) (hid H3 (OO.set k ((p, HO.lst xs) :: (Cs.set t y.1).flatten))):=by rw [← eh3]; exact m3
    have s4 : oL (oL (oF Xc)) K (hid H3 (OO.set k ((p, HO.lst xs) :: (Cs.set t y.1).flatten))) x (as[t].map (· ++ [n])) y.1:=by rw [← eh3]; exact s3
    show ∃ Cs w1 w2, _
    refine ⟨Cs.set t y.1, some x, y.2, rfl, w4, m'.trans m4, ?_⟩
    have e6 : ((as.take t).map (fun t=>t.map (· ++ [n])) ++ as.drop t).set t (as[t].map (· ++ [n])) = (as.take (t + 1)).map (fun t=>t.map (· ++ [n])) ++ as.drop (t + 1):=by
      rw [List.set_append_right _ _ (by simp; omega)]
      simp only [List.length_map, List.length_take, Nat.min_eq_left (Nat.le_of_lt htl), Nat.sub_self]
      rw [List.drop_eq_getElem_cons htl, List.set_cons_zero, List.take_succ_eq_append_getElem htl, List.map_append, List.append_assoc]
      rfl
    have q5:=P3.set (F:=oL (oL (oF Xc)) K (hid H3 (OO.set k ((p, HO.lst xs) :: (Cs.set t y.1).flatten)))) s4 t (q'.imp fun _ _ _ z=>MonoO.mono m4 z)
    rw [e6] at q5
    have ex : xs.set t x = xs:=by
      have:=List.getElem?_eq_some_iff.mp hx
      rw [← this.2, List.set_getElem_self]
    rw [ex] at q5
    exact q5
  . rintro σ' H' ⟨Cs, w1, w2, rfl, w', m', q'⟩
    rw [hlen, List.take_length, List.drop_length, List.append_nil] at q'
    exact hr _ w1 w2 H' D w' ⟨S.mono _ _ m' s, ⟨p, xs, Cs, rfl, q', rfl⟩⟩ (PZ.tr (fd.tr D) m' P)
noncomputable def Fh (c : α -> Res Bool) : List α -> Res Bool
  | []=>.ok true
  | r :: l=>(c r).bind fun b=>if b = true then .ok false else Fh c l
theorem Ce {tt : TT} {c : List Int -> Res Bool} {v : V} {as : List (List (List Int))} {C : List Xu} (i j l k : Nat) (hσ : σ[i]? = some (some v)) (hjl : j ≠ l) (hj : j < σ.length) (hl : l < σ.length) (hk : OO[k]? = some C) (h : ∀ x, S.p x -> oL (oL (oL (oF Xc))) K x v as C)
    (hc : ∀ w1 y row, EvT Er (S.add K (rV Xc) y row) (OO.set k []) ((σ.set j w1).set l (some y)) tt (c row)) :
    Sv Er S OO σ (ZE (De (J9 K (QY i)) (ZW j) (ZE (De (J9 K (QY j)) (ZW l) (ZE (Cb tt (ZE (Bj (tC (.bl false))) ZX) ZX) ZX)) ZX)) (ZE (Bj (tC (.bl true))) ZX)) (Dv K (oF XM) (oL (oL (oL (oF Xc)))) v) ((Fh c as.flatten).bind fun b=>.ok (b, as)):=fun H D w s P=>by
  obtain ⟨p, xs, Cs, e, q, cc⟩:=h _ s
  subst cc e
  have pm:=XF hk
  have hH : H p = some (.lst xs):=w.tr (p, .lst xs) (List.mem_flatten.mpr ⟨_, List.mem_of_getElem? hk, List.mem_cons_self⟩)
  have hlen:=q.len.1
  have w1 : W (((p, .lst xs) :: Cs.flatten) :: OO.set k []) H:=w.of pm
  have nd1:=w1.nd
  rw [XQ] at nd1
  have hm0 : ∀ {H2}, Xm H H2 -> Xm (hid H OO) (hid H2 (OO.set k [])):=fun {H2} s2=>by
    rw [← XG pm]
    exact Zi s2 fun b hb=>by rw [XQ]; exact List.mem_append_right _ hb
  -- the end, both ways
  have fin : ∀ (b : Bool) H2, Xm H H2 -> PZ Er (Dv K (oF XM) (oL (oL (oL (oF Xc)))) (.ref p) D) (hid H OO) (Res.ok (b, as)) -> D.rt (.bl b) H2:=fun b H2 s2 PP=>by
    have PP : Dv K (oF XM) (oL (oL (oL (oF Xc)))) (.ref p) D (b, as) (hid H OO):=PP
    have wk : W ([] :: ((p, .lst xs) :: Cs.flatten) :: OO.set k []) H2:=(w1.keep s2).nil
    have eh : hid H2 ([] :: ((p, .lst xs) :: Cs.flatten) :: OO.set k []) = hid H2 OO:=by rw [Yc, XG pm]
    refine PP (.bl b) [] _ (OO.set k []) H2 wk (by rw [eh]; exact Xj s2) ⟨rfl, rfl⟩ ?_
    rw [eh]
    exact ⟨p, xs, Cs, rfl, q.imp fun _ _ _ z=>MonoO.mono (Xj s2) z, rfl⟩
  refine ⟨.ref p, hσ, p, rfl, ⟨xs, SqL.of hH⟩, ?_⟩
  refine QQ (K:=K) (a:=p) (xs:=xs) (fun t σ' H'=>∃ w1 w2, σ' = (σ.set j w1).set l w2 /\ Xm H H' /\ PZ Er (Dv K (oF XM) (oL (oL (oL (oF Xc)))) (.ref p) D) (hid H OO) ((Fh c (as.drop t).flatten).bind fun b=>.ok (b, as)))
    ⟨σ[j], σ[l], by rw [List.set_getElem_self, List.set_getElem_self], Xm.refl _, by rw [List.drop_zero]; exact P⟩ (fun t σ' H' ht ⟨_, _, _, s', _⟩=>SqL.of (s' _ _ hH)) ?_ ?_
  . rintro t x σ' H' hx ⟨a1, a2, rfl, s', P'⟩
    have htl : t < as.length:=by rw [← hlen]; exact (List.getElem?_eq_some_iff.mp hx).1
    obtain ⟨x', c0, g1, g2, g3⟩:=P3.get q (show as[t]? = some as[t] by simp [htl])
    rw [hx] at g1
    cases g1
    obtain ⟨p0, ys, Ds, rfl, q0, rfl⟩:=g3
    have hin0 : ∀ y ∈ (p0, HO.lst ys) :: Ds.flatten, y ∈ Cs.flatten:=fun y hy=>List.mem_flatten.mpr ⟨_, List.mem_of_getElem? g2, hy⟩
    have hp0 : H p0 = some (.lst ys):=w1.cell (p0, .lst ys) (List.mem_cons_of_mem _ (hin0 _ List.mem_cons_self))
    have hlen0:=q0.len.1
    show ZE _ _ _ (((σ.set j a1).set l a2).set j (some (.ref p0))) H'
    have eσ : ((σ.set j a1).set l a2).set j (some (V.ref p0)) = (σ.set j (some (.ref p0))).set l a2:=by
      rw [List.set_comm a2 (some (V.ref p0)) (Ne.symm hjl), List.set_set]
    rw [eσ]
    refine ⟨.ref p0, by rw [List.getElem?_set_ne (Ne.symm hjl), List.getElem?_set_self hj], p0, rfl, ⟨ys, SqL.of (s' _ _ hp0)⟩, ?_⟩
    rw [List.drop_eq_getElem_cons htl, List.flatten_cons] at P'
    refine QQ (K:=K) (a:=p0) (xs:=ys) (fun r σ' H'=>∃ w2, σ' = (σ.set j (some (.ref p0))).set l w2 /\ Xm H H' /\ PZ Er (Dv K (oF XM) (oL (oL (oL (oF Xc)))) (.ref p) D) (hid H OO) ((Fh c (as[t].drop r ++ (as.drop (t + 1)).flatten)).bind fun b=>.ok (b, as)))
      ⟨a2, rfl, s', by rw [List.drop_zero]; exact P'⟩ (fun r σ' H' hr ⟨_, _, s', _⟩=>SqL.of (s' _ _ hp0)) ?_ ?_
    . rintro r y σ' H2 hy ⟨b2, rfl, s2, P2⟩
      have hrl : r < as[t].length:=by rw [← hlen0]; exact (List.getElem?_eq_some_iff.mp hy).1
      obtain ⟨y', d0, k1, k2, k3⟩:=P3.get q0 (show (as[t])[r]? = some (as[t])[r] by simp [hrl])
      rw [hy] at k1
      cases k1
      have ry : rV Xc K (hid H2 (OO.set k [])) y (as[t])[r]:=FrzC.frz (o:=oL (oF Xc)) k3 (hm0 s2) fun z hz=>by
        have hz1 : z ∈ Cs.flatten:=hin0 z (List.mem_cons_of_mem _ (List.mem_flatten.mpr ⟨_, List.mem_of_getElem? k2, hz⟩))
        have hz2:=w1.cell z (List.mem_cons_of_mem _ hz1)
        refine YO (s2 _ _ hz2) fun hf=>?_
        exact (List.nodup_append.mp nd1).2.2 z.1 (List.mem_map.mpr ⟨z, List.mem_cons_of_mem _ hz1, rfl⟩) z.1 hf rfl
      rw [List.drop_eq_getElem_cons hrl, List.cons_append, Fh] at P2
      show ZE _ _ _ (((σ.set j (some (.ref p0))).set l b2).set l (some y)) H2
      rw [List.set_set]
      refine hc (some (.ref p0)) y (as[t])[r] H2 _ (w1.tail.keep s2) ⟨S.mono _ _ (hm0 s2) s, ry⟩ ?_
      have P2' : PZ Er (Dv K (oF XM) (oL (oL (oL (oF Xc)))) (.ref p) D) (hid H OO) ((c (as[t])[r]).bind fun b=>(if b = true then Res.ok false else Fh c (as[t].drop (r + 1) ++ (as.drop (t + 1)).flatten)).bind fun b=>.ok (b, as)):=by rw [← XN]; exact P2
      cases ec : c (as[t])[r] with
      | bad=>rw [ec] at P2'; exact P2'
      | err ex=>rw [ec] at P2'; exact fun H4 s4=>P2' H4 (XC.trans (s2.trans s4))
      | ok b=>
        rw [ec] at P2'
        intro H4 s4
        cases b with
        | true=>exact fin false H4 (s2.trans s4) P2'
        | false=>exact ⟨some y, rfl, s2.trans s4, P2'⟩
    . rintro σ' H2 ⟨b2, rfl, s2, P2⟩
      rw [hlen0, List.drop_length, List.nil_append] at P2
      exact ⟨some (.ref p0), b2, rfl, s2, P2⟩
  . rintro σ' H2 ⟨a1, a2, rfl, s2, P2⟩
    rw [hlen, List.drop_length] at P2
    exact fin true H2 s2 P2
noncomputable def EX (q : OE γ) (r2 : Enc α2) (o : OE ρ) (f : γ -> α2 -> Res (ρ × γ)) (K : PySem.W.Frag) : Sp:=fun vs H Q _=>∃ v1 v2 a1 a2 b, vs = [v1, v2] /\ ∃ C, W [C] H /\ q K (hid H [C]) v1 a1 C /\ r2 K (hid H [C]) v2 a2 /\ f a1 a2 = .ok b /\ Hg K o q v1 Q b (hid H [C])
theorem Kj {t2 : TE} {r2 : Enc α2} [z2 : MonoE r2] {q : OE γ} [zq : FlatO q] [mq : MonoO q] {f : γ -> α2 -> Res (Bool × γ)} {m2 : Res α2} {g : γ -> Res Bool} {vy : V} {ay : γ} {Cy : List Xu} (i k : Nat) (hσ : σ[i]? = some (some vy)) (hk : OO[k]? = some Cy) (h : ∀ x, S.p x -> q K x vy ay Cy)
    (h2 : EvS K Er S OO σ t2 r2 m2)
    (hr : ∀ b C', Sv Er (S.addO K q vy b C') (OO.set k C') σ u (FTd K (oF XM)) (g b)) :
    Sv Er S OO σ (ZE (Cb (EW (tB (JZ (EX q r2 (oF XM) f K) [] E0 (Xx (QY i) (Xx t2 ZF))))) (ZE (Bj (tC (.bl false))) ZX) ZX) u) (FTd K (oF XM)) (m2.bind fun a=>(noE (f ay a)).bind fun b=>if b.1 = true then g b.2 else .ok false):=fun H D w s P=>
  ⟨vy, hσ, h2.st (Fd:=FTd K (oF XM)) w s P fun d y H3 s3 w3 q3 e3 P3=>by
    cases en : f ay d with
    | bad=>rw [en] at P3; exact P3.elim
    | err ex=>rw [en] at P3; exact P3.elim
    | ok b=>
      rw [en] at P3
      have P3 : PZ Er (FTd K (oF XM) D) (hid H3 OO) (if b.1 = true then g b.2 else .ok false):=P3
      have hp:=XF hk
      have wk : W (Cy :: OO.set k []) H3:=w3.of hp
      have hkl : k < OO.length:=(List.getElem?_eq_some_iff.mp hk).1
      have m0 : Xm (hid H3 OO) (hid H3 [Cy]):=by
        rw [← XG hp]
        exact Zi (Xm.refl _) fun b hb=>by
          rw [XQ]
          refine List.mem_append_left _ ?_
          simpa [fl] using hb
      have wo : W (OO.set k []) (hid H3 [Cy]):=⟨fun cc hc=>YO (wk.tail.tr cc hc) (fun z=>by
          have nd:=wk.nd
          rw [XQ] at nd
          exact (List.nodup_append.mp nd).2.2 cc.1 (by simpa [fl] using z) cc.1 (Q0 hc) rfl), wk.tail.nd, wk.tail.mu⟩
      refine ⟨vy, y, ay, d, b, rfl, Cy, wk.sub (by simp), mq.mono m0 (h _ q3), z2.mono m0 e3, en, fun v C C' H' w' m' ho hq=>?_⟩
      obtain ⟨hC, hv⟩:=ho
      subst hC
      have hv : v = .bl b.1:=hv
      subst hv
      obtain ⟨w4, n4, i4⟩:=Et wo w' m'
      rw [List.nil_append] at w4 n4
      have nn : Xm (hid H3 OO) (hid H' (C' :: OO.set k [])):=by
        refine Xm.trans (fun bb uu hb=>?_) n4
        obtain ⟨b1, b2⟩:=X5 hb
        refine YO (m0 _ _ hb) fun z=>b2 ?_
        rw [← Up hp, XQ]
        exact List.mem_append_right _ z
      have hq':=zq.flat i4 hq
      rw [List.nil_append] at hq'
      obtain ⟨w6, m6⟩:=Hk (k:=k) w4 (by rw [List.length_set]; exact hkl)
      rw [List.set_set] at w6 m6
      refine ⟨b.1, rfl, ?_⟩
      cases hb1 : b.1 with
      | false=>
        rw [hb1] at P3
        have P3 : FTd K (oF XM) D false (hid H3 OO):=P3
        show D.rt (.bl false) H'
        refine P3 (.bl false) [] (OO.set k C') H' w6.nil ?_ ⟨rfl, rfl⟩
        rw [Yc]; exact nn.trans m6
      | true=>
        rw [hb1] at P3
        have P3 : PZ Er (FTd K (oF XM) D) (hid H3 OO) (g b.2):=P3
        exact hr b.2 C' H' D w6 ⟨S.mono _ _ (nn.trans m6) q3, mq.mono m6 hq'⟩ (PZ.tr (FdOk.tr D) (nn.trans m6) P3)⟩
end
end L2
namespace My
open PySem L2
noncomputable def YF (a_0 : Int) (a_1 : Int) : Res Unit:=(Res.bind (Res.bind (Res.ok a_1) fun x5=>(Res.bind (Res.ok a_0) fun x6=>(Res.ok (decide (x6 < x5))))) fun x7=>(if x7 = true then Res.bad else (Res.ok ())))
noncomputable def YA (a_0 : (List (List Int))) (a_1 : Int) : Res (List (List Int)):=(Res.bind (Res.ok []) fun a1=>(Res.bind (Res.ok a_0) fun x37=>(Res.bind (forN x37 (a1) (fun g6 a8=>(Res.bind (Res.bind (Res.ok a_1) fun x10=>(Jm 0 x10)) fun x34=>(Res.bind (forN x34 (g6) (fun g13 a15=>(Res.bind (Res.bind (Res.bind (Res.ok a15) fun x17=>(Res.bind (Res.ok a8) fun x18=>(Res.ok (!(decide (x17 ∈ x18)))))) fun x19=>(if x19 = true then (Res.bind (Res.bind (Res.ok a8) fun x22=>(Res.bind (Res.bind (Res.bind (Res.ok a15) fun x25=>(Res.bind (Res.ok []) fun x26=>(Res.ok (x25 :: x26)))) fun x24=>(chk (x24.length <= sizeLine) (Res.ok x24))) fun x23=>(DS x22 x23))) fun a27=>(chk (g13.length < sizeLine) ((fun a29=>(Res.ok (a29))) (g13 ++ [a27])))) else (Res.ok (g13)))) fun g31=>(Res.ok (g31))))) fun g32=>(Res.ok (g32)))))) fun g35=>(Res.ok g35))))
noncomputable def Zx (a_0 : Int) : Res (List (List Int)):=(Res.bind (Res.bind (Res.bind (Res.ok []) fun x5=>(Res.bind (Res.ok []) fun x6=>(Res.ok (x5 :: x6)))) fun x4=>(chk (x4.length <= sizeLine) (Res.ok x4))) fun a1=>(Res.bind (Res.bind (Res.ok a_0) fun x7=>(Jm 0 x7)) fun x22=>(Res.bind (forN x22 (a1) (fun g10 a12=>(Res.bind (Res.bind (Res.ok g10) fun x18=>(Res.bind (Res.ok a_0) fun x19=>(noE (YA x18 x19)))) fun a14=>(Res.ok (a14))))) fun g20=>(Res.ok g20))))
noncomputable def Yw (a_0 : (List (List Int))) : Res (Option (Int × Int)):=(Res.bind (Res.bind (Res.ok a_0) fun x1=>(Res.ok (J1 x1))) fun x20=>(Res.bind (forC x20 () (fun g4 a6=>(Res.bind (Res.bind (Res.bind (Res.ok a6.2) fun x8=>(Res.bind (Res.ok a6.1) fun x9=>(atR x8 x9))) fun x10=>(Res.bind (Res.ok a6.1) fun x11=>(Res.ok (!(decide (x10 = x11)))))) fun x12=>(if x12 = true then (Res.bind (Res.bind (Res.bind (Res.ok (1 : Int)) fun x13=>(Res.bind (Res.ok a6.1) fun x14=>(Res.ok (x13, x14)))) fun x15=>(Res.ok (some x15))) fun x17=>(Res.ok (Ctl.ret x17))) else (Res.bind (Res.ok ()) fun x16=>(Res.ok (Ctl.nx x16))))))) (Z4 fun g18=>(Res.ok none))))
noncomputable def Y9 (a_0 : (List Int)) : Res (Option (Int × Int)):=(Res.bind (Res.bind (Res.ok a_0) fun x1=>(Res.ok (J1 x1))) fun x29=>(Res.bind (forC x29 () (fun g4 a6=>(Res.bind (Res.bind (Res.ok a6.2) fun x14=>(Res.bind (Res.bind (Res.ok a_0) fun x11=>(Res.bind (Res.bind (Res.bind (Res.ok a6.1) fun x8=>(Res.bind (Res.ok (1 : Int)) fun x9=>(Res.ok (x8 + x9)))) fun x10=>(Res.ok (some x10))) fun x12=>(Res.bind (Res.ok none) fun x13=>(Res.ok (Gu x11 x12 x13))))) fun x15=>(Res.ok (decide (x14 ∈ x15))))) fun x16=>(if x16 = true then (Res.bind (Res.bind (Res.bind (Res.ok a6.1) fun x22=>(Res.bind (Res.bind (Res.ok a_0) fun x19=>(Res.bind (Res.ok a6.2) fun x20=>(Res.bind (Res.bind (Res.ok a6.1) fun x17=>(Res.bind (Res.ok (1 : Int)) fun x18=>(Res.ok (x17 + x18)))) fun x21=>(Eo x19 x20 x21)))) fun x23=>(Res.ok (x22, x23)))) fun x24=>(Res.ok (some x24))) fun x26=>(Res.ok (Ctl.ret x26))) else (Res.bind (Res.ok ()) fun x25=>(Res.ok (Ctl.nx x25))))))) (Z4 fun g27=>(Res.ok none))))
noncomputable def Yv (a_0 : (List (List Int))) : Res (Option (Int × Int × Int × Int)):=(Res.bind (Res.bind (Res.bind (Res.ok a_0) fun x1=>(Res.ok (x1.length : Int))) fun x2=>(Jm 0 x2)) fun x32=>(Res.bind (forC x32 () (fun g5 a7=>(Res.bind (Res.bind (Res.bind (Res.ok a_0) fun x15=>(UI x15 (fun a13=>(Res.bind (Res.ok a13) fun x16=>(Res.bind (Res.ok a7) fun x17=>(atR x16 x17)))))) fun x18=>(noE (Y9 x18))) fun a9=>(Res.bind (Res.bind (Res.ok a9) fun x19=>(Res.ok x19.isSome)) fun x20=>(if x20 = true then (Res.bind (Res.bind (Res.bind (Res.ok (2 : Int)) fun x23=>(Res.bind (Res.ok a7) fun x24=>(Res.bind (Res.bind (Res.bind (Res.ok a9) EZ) fun x21=>(Res.ok x21.1)) fun x25=>(Res.bind (Res.bind (Res.bind (Res.ok a9) EZ) fun x22=>(Res.ok x22.2)) fun x26=>(Res.ok (x23, x24, x25, x26)))))) fun x27=>(Res.ok (some x27))) fun x29=>(Res.ok (Ctl.ret x29))) else (Res.bind (Res.ok ()) fun x28=>(Res.ok (Ctl.nx x28)))))))) (Z4 fun g30=>(Res.ok none))))
noncomputable def Yf (a_0 : (List (List Int))) : Res (Option (Int × Int × Int × Int)):=(Res.bind (Res.bind (Res.ok a_0) fun x1=>(Res.ok (J1 x1))) fun x57=>(Res.bind (forC x57 () (fun g4 a6=>(Res.bind (Res.bind (Res.ok a6.2) fun x8=>(Res.ok (J1 x8))) fun x54=>(Res.bind (forC x54 () (fun g11 a13=>(Res.bind (Res.bind (Res.bind (Res.ok a_0) fun x15=>(Res.ok (x15.length : Int))) fun x16=>(Jm 0 x16)) fun x50=>(Res.bind (forC x50 () (fun g19 a21=>(Res.bind (Res.bind (Res.bind (Res.bind (Res.ok a_0) fun x23=>(Res.bind (Res.ok a13.2) fun x24=>(atR x23 x24))) fun x25=>(Res.bind (Res.ok a21) fun x26=>(atR x25 x26))) fun x37=>(Res.bind (Res.bind (Res.bind (Res.ok a_0) fun x29=>(Res.bind (Res.bind (Res.ok a6.2) fun x27=>(Res.bind (Res.ok a21) fun x28=>(atR x27 x28))) fun x30=>(atR x29 x30))) fun x35=>(Res.bind (Res.bind (Res.bind (Res.ok a_0) fun x31=>(Res.bind (Res.ok a13.1) fun x32=>(atR x31 x32))) fun x33=>(Res.bind (Res.ok a21) fun x34=>(atR x33 x34))) fun x36=>(atR x35 x36))) fun x38=>(Res.ok (!(decide (x37 = x38)))))) fun x39=>(if x39 = true then (Res.bind (Res.bind (Res.bind (Res.ok (3 : Int)) fun x40=>(Res.bind (Res.ok a6.1) fun x41=>(Res.bind (Res.ok a13.1) fun x42=>(Res.bind (Res.ok a21) fun x43=>(Res.ok (x40, x41, x42, x43)))))) fun x44=>(Res.ok (some x44))) fun x46=>(Res.ok (Ctl.ret x46))) else (Res.bind (Res.ok ()) fun x45=>(Res.ok (Ctl.nx x45))))))) (Z2 fun g47=>(Res.bind (Res.ok ()) fun x49=>(Res.ok (Ctl.nx x49)))))))) (Z2 fun g51=>(Res.bind (Res.ok ()) fun x53=>(Res.ok (Ctl.nx x53)))))))) (Z4 fun g55=>(Res.ok none))))
noncomputable def QR (a_0 : (List (List Int))) : Res (Option (List Int)):=(Res.bind (Res.bind (Res.bind (Res.ok a_0) fun x4=>(noE (Yw x4))) fun x5=>(Res.ok (x5.map fun p=>[p.1, p.2]))) fun a1=>(Res.bind (Res.bind (Res.bind (Res.ok a1) fun x6=>(Res.ok x6.isNone)) fun x7=>(if x7 = true then (Res.bind (Res.bind (Res.bind (Res.ok a_0) fun x13=>(noE (Yv x13))) fun x14=>(Res.ok (x14.map fun p=>[p.1, p.2.1, p.2.2.1, p.2.2.2]))) fun a10=>(Res.ok (a10))) else (Res.ok (a1)))) fun g16=>(Res.bind (Res.bind (Res.bind (Res.ok g16) fun x17=>(Res.ok x17.isNone)) fun x18=>(if x18 = true then (Res.bind (Res.bind (Res.bind (Res.ok a_0) fun x24=>(noE (Yf x24))) fun x25=>(Res.ok (x25.map fun p=>[p.1, p.2.1, p.2.2.1, p.2.2.2]))) fun a21=>(Res.ok (a21))) else (Res.ok (g16)))) fun g27=>(Res.ok g27))))
noncomputable def Yb (a_0 : (List (List Int))) : Res (List (List Int)):=(Res.bind (Res.bind (Res.bind (Res.ok a_0) fun x1=>(Res.ok (x1.length : Int))) fun x2=>(Jm 0 x2)) fun x6=>(UI x6 (fun a4=>(Res.bind (Res.ok a_0) fun x10=>(UI x10 (fun a8=>(Res.bind (Res.ok a8) fun x11=>(Res.bind (Res.ok a4) fun x12=>(atR x11 x12)))))))))
noncomputable def X4 (a_0 : (List (List (List Int)))) (a_1 : (List (List Int))) : Res (List (List (List Int))):=(Res.bind (Res.ok []) fun a1=>(Res.bind (Res.ok a_0) fun x24=>(Res.bind (forN x24 (a1) (fun g6 a8=>(Res.bind (Res.bind (Res.ok a_1) fun x13=>(UI x13 (fun a11=>(Res.bind (Res.ok a8) fun x14=>(Res.bind (Res.bind (Res.bind (Res.ok a11) fun x17=>(Res.bind (Res.ok []) fun x18=>(Res.ok (x17 :: x18)))) fun x16=>(chk (x16.length <= sizeLine) (Res.ok x16))) fun x15=>(DS x14 x15)))))) fun a19=>(chk (g6.length + a19.length <= sizeLine) ((fun a21=>(Res.ok (a21))) (g6 ++ a19)))))) fun g22=>(Res.ok g22))))
noncomputable def YR (a_0 : Int) : Res (List (List (List Int))):=(Res.bind (Res.bind (Res.ok a_0) fun x4=>(noE (Zx x4))) fun a1=>(Res.bind (Res.bind (Res.bind (Res.ok []) fun x9=>(Res.bind (Res.ok []) fun x10=>(Res.ok (x9 :: x10)))) fun x8=>(chk (x8.length <= sizeLine) (Res.ok x8))) fun a5=>(Res.bind (Res.bind (Res.ok a_0) fun x11=>(Jm 0 x11)) fun x34=>(Res.bind (forN x34 (a5) (fun g14 a16=>(Res.bind (Res.bind (Res.ok g14) fun x30=>(Res.bind (Res.bind (Res.ok a1) fun x25=>(EG x25 (fun a23=>(Res.bind (Res.bind (Res.ok a23) fun x26=>(Res.bind (Res.ok a16) fun x27=>(atR x26 x27))) fun x28=>(Res.bind (Res.ok a16) fun x29=>(Res.ok (decide (x28 = x29)))))) (fun a23=>(Res.ok a23)))) fun x31=>(noE (X4 x30 x31)))) fun a18=>(Res.ok (a18))))) fun g32=>(Res.ok g32)))))
noncomputable def Ye (a_0 : Int) : Res (List (List (List Int))):=(Res.bind (Res.bind (Res.ok (4 : Int)) fun x2=>(Res.bind (Res.ok a_0) fun x3=>(noE (YF x2 x3)))) fun x4=>(Res.bind (Res.bind (Res.bind (Res.ok a_0) fun x9=>(noE (YR x9))) fun x13=>(UI x13 (fun a11=>(Res.bind (Res.ok a11) fun x15=>(noE (Yb x15)))))) fun a5=>(Res.bind (Res.bind (Res.ok a5) fun x20=>(EG x20 (fun a18=>(Res.bind (Res.bind (Res.ok a18) fun x22=>(noE (QR x22))) fun x23=>(Res.ok x23.isNone))) (fun a18=>(Res.ok a18)))) fun x16=>(chk (x16.length < 64 /\ x16.Nodup) (Res.ok (Vy (ltG (ltG ltI)) x16))))))
noncomputable def QX (a_0 : (List Int)) (a_1 : Int) : Res Int:=(Res.bind (Res.bind (Res.ok a_1) fun x2=>(Res.bind (Res.bind (Res.ok a_0) fun x1=>(Res.ok (x1.length : Int))) fun x3=>(Res.ok (decide (x2 < x3))))) fun x4=>(if x4 = true then (Res.bind (Res.ok a_0) fun x5=>(Res.bind (Res.ok a_1) fun x6=>(atR x5 x6))) else (Res.bind (Res.ok (5 : Int)) fun a7=>(Res.bind (Res.bind (Res.ok a_0) fun x10=>(Res.bind (Res.ok none) fun x11=>(Res.bind (Res.bind (Res.ok (63 : Int)) fun x9=>(Res.ok (some x9))) fun x12=>(Res.ok (Gu x10 x11 x12))))) fun x39=>(Res.bind (forN x39 (a7) (fun g15 a17=>(Res.bind (Res.bind (Res.bind (Res.bind (Res.bind (Res.ok g15) fun x21=>(Res.bind (Res.ok (48271 : Int)) fun x22=>(Ue x21 x22))) fun x25=>(Res.bind (Res.bind (Res.ok a17) fun x23=>(Res.bind (Res.ok (1000003 : Int)) fun x24=>(QT x23 x24))) fun x26=>(Res.ok (x25 + x26)))) fun x27=>(Res.bind (Res.ok (1 : Int)) fun x28=>(Res.ok (x27 + x28)))) fun x29=>(Res.bind (Res.ok (2147483647 : Int)) fun x30=>(QT x29 x30))) fun a19=>(Res.ok (a19))))) fun g31=>(Res.bind (Res.bind (Res.ok g31) fun x35=>(Res.bind (Res.bind (Res.ok (7919 : Int)) fun x33=>(Res.bind (Res.ok a_1) fun x34=>(Ue x33 x34))) fun x36=>(Res.ok (x35 + x36)))) fun x37=>(Res.bind (Res.ok (1000003 : Int)) fun x38=>(QT x37 x38))))))))
noncomputable def Ul (a_0 : Int) (a_1 : Int) : Res Int:=(Res.bind (Res.bind (Res.bind (Res.bind (Res.bind (Res.bind (Res.ok a_0) fun x3=>(Res.bind (Res.ok (2147483629 : Int)) fun x4=>(QT x3 x4))) fun x7=>(Res.bind (Res.bind (Res.ok (1013 : Int)) fun x5=>(Res.bind (Res.ok a_1) fun x6=>(Ue x5 x6))) fun x8=>(Res.ok (x7 + x8)))) fun x9=>(Res.bind (Res.ok (7919 : Int)) fun x10=>(Res.ok (x9 + x10)))) fun x11=>(Res.bind (Res.ok (3 : Int)) fun x12=>(Ex x11 x12))) fun x13=>(Res.bind (Res.ok (2147483647 : Int)) fun x14=>(QT x13 x14))) fun a1=>(Res.bind (Res.bind (Res.bind (Res.bind (Res.bind (Res.ok a1) fun x17=>(Res.bind (Res.ok (40699 : Int)) fun x18=>(Ue x17 x18))) fun x23=>(Res.bind (Res.bind (Res.bind (Res.ok (3793 : Int)) fun x19=>(Res.bind (Res.ok a_1) fun x20=>(Ue x19 x20))) fun x21=>(Res.bind (Res.ok a_1) fun x22=>(Ue x21 x22))) fun x24=>(Res.ok (x23 + x24)))) fun x25=>(Res.bind (Res.ok (11 : Int)) fun x26=>(Res.ok (x25 + x26)))) fun x27=>(Res.bind (Res.ok (2147483399 : Int)) fun x28=>(QT x27 x28))) fun a15=>(Res.bind (Res.ok a15) fun x29=>(Res.bind (Res.ok (101 : Int)) fun x30=>(Bi x29 x30)))))
noncomputable def V0 (a_0 : (List Int)) (a_1 : Int) (a_2 : (List Int)) : Res (List Int):=(Res.bind (Res.bind (Res.ok a_0) fun x4=>(Res.bind (Res.ok a_1) fun x5=>(noE (QX x4 x5)))) fun a1=>(Res.bind (Res.ok a1) fun a6=>(Res.bind (Res.ok []) fun a8=>(Res.bind (Res.bind (Res.bind (Res.ok a_2) fun x11=>(Res.ok (x11.length : Int))) fun x12=>(Jm 0 x12)) fun x81=>(Res.bind (forN x81 (a8, a6) (fun g15 a17=>(Res.bind (Res.bind (Res.bind (Res.ok a1) fun x21=>(Res.bind (Res.bind (Res.ok (10 : Int)) fun x19=>(Res.bind (Res.ok (18 : Int)) fun x20=>(Ex x19 x20))) fun x22=>(Res.ok (decide (x21 < x22))))) fun x23=>(if x23 = true then (Res.bind (Res.bind (Res.bind (Res.ok a1) fun x27=>(Res.bind (Res.ok a17) fun x28=>(noE (Ul x27 x28)))) fun x31=>(Res.bind (Res.bind (Res.ok a_2) fun x29=>(Res.bind (Res.ok a17) fun x30=>(atR x29 x30))) fun x32=>(QT x31 x32))) fun a33=>(chk (g15.1.length < sizeLine) ((fun a35=>(Res.ok (a35, g15.2))) (g15.1 ++ [a33])))) else (Res.bind (Res.bind (Res.bind (Res.ok g15.2) fun x36=>(Res.bind (Res.ok (0 : Int)) fun x37=>(Res.ok (decide (x37 < x36))))) fun x38=>(if x38 = true then (Res.bind (Res.bind (Res.ok g15.2) fun x43=>(Res.bind (Res.bind (Res.ok a_2) fun x41=>(Res.bind (Res.ok a17) fun x42=>(atR x41 x42))) fun x44=>(QT x43 x44))) fun a45=>(chk (g15.1.length < sizeLine) ((fun a47=>(Res.bind (Res.bind (Res.ok g15.2) fun x52=>(Res.bind (Res.bind (Res.ok a_2) fun x50=>(Res.bind (Res.ok a17) fun x51=>(atR x50 x51))) fun x53=>(Bi x52 x53))) fun a48=>(Res.ok (a48, a47)))) (g15.1 ++ [a45])))) else (Res.bind (Res.bind (Res.ok a_0) fun x63=>(Res.bind (Res.bind (Res.bind (Res.bind (Res.ok a_1) fun x57=>(Res.bind (Res.ok (1 : Int)) fun x58=>(Res.ok (x57 + x58)))) fun x59=>(Res.bind (Res.ok a17) fun x60=>(Res.ok (x59 + x60)))) fun x61=>(Res.bind (Res.ok (63 : Int)) fun x62=>(QT x61 x62))) fun x64=>(noE (QX x63 x64)))) fun a54=>(Res.bind (Res.bind (Res.bind (Res.ok a54) fun x66=>(Res.bind (Res.ok a17) fun x67=>(noE (Ul x66 x67)))) fun x70=>(Res.bind (Res.bind (Res.ok a_2) fun x68=>(Res.bind (Res.ok a17) fun x69=>(atR x68 x69))) fun x71=>(QT x70 x71))) fun a72=>(chk (g15.1.length < sizeLine) ((fun a74=>(Res.ok (g15.2, a74))) (g15.1 ++ [a72]))))))) fun g76=>(Res.ok (g76.2, g76.1))))) fun g78=>(Res.ok (g78.1, g78.2))))) fun g79=>(Res.ok g79.1))))))
noncomputable def Y2 (a_0 : Int) (a_1 : Int) (a_2 : Int) (a_3 : Int) (a_4 : Int) : Res Int:=(Res.bind (Res.bind (Res.ok a_1) fun x3=>(Res.bind (Res.ok (2 : Int)) fun x4=>(Bi x3 x4))) fun a1=>(Res.bind (Res.bind (Res.ok a_0) fun x5=>(Res.bind (Res.ok (1 : Int)) fun x6=>(Res.ok (decide (x5 = x6))))) fun x7=>(if x7 = true then (Res.bind (Res.bind (Res.bind (Res.ok (2 : Int)) fun x8=>(Res.bind (Res.ok a_4) fun x9=>(Ue x8 x9))) fun x10=>(Res.bind (Res.ok a_3) fun x11=>(Res.ok (x10 - x11)))) fun x12=>(Res.bind (Res.ok a_1) fun x13=>(QT x12 x13))) else (Res.bind (Res.bind (Res.ok a_0) fun x14=>(Res.bind (Res.ok (2 : Int)) fun x15=>(Res.ok (decide (x14 = x15))))) fun x16=>(if x16 = true then (Res.bind (Res.bind (Res.bind (Res.ok a_2) fun x17=>(Res.bind (Res.ok a_3) fun x18=>(Ue x17 x18))) fun x23=>(Res.bind (Res.bind (Res.bind (Res.ok (1 : Int)) fun x19=>(Res.bind (Res.ok a_2) fun x20=>(Res.ok (x19 - x20)))) fun x21=>(Res.bind (Res.ok a_4) fun x22=>(Ue x21 x22))) fun x24=>(Res.ok (x23 + x24)))) fun x25=>(Res.bind (Res.ok a_1) fun x26=>(QT x25 x26))) else (Res.bind (QW (Res.bind (Res.ok a_0) fun x27=>(Res.bind (Res.ok (3 : Int)) fun x28=>(Res.ok (decide (x27 = x28))))) (QW (Res.bind (Res.ok a_1) fun x29=>(Res.bind (Res.ok (2 : Int)) fun x30=>(Res.ok (decide (x30 < x29))))) (QW (Res.bind (Res.ok a_3) fun x31=>(Res.bind (Res.ok (2 : Int)) fun x32=>(Res.ok (decide (x31 < x32))))) (Res.bind (Res.ok a_4) fun x35=>(Res.bind (Res.bind (Res.ok a_1) fun x33=>(Res.bind (Res.ok (1 : Int)) fun x34=>(Res.ok (x33 - x34)))) fun x36=>(Res.ok (decide (x35 = x36)))))))) fun x37=>(if x37 = true then (Res.bind (Res.ok (1 : Int)) fun x38=>(Res.bind (Res.ok a_3) fun x39=>(Res.ok (x38 - x39)))) else (Res.bind (QW (Res.bind (Res.ok a_0) fun x40=>(Res.bind (Res.ok (6 : Int)) fun x41=>(Res.ok (decide (x40 = x41))))) (QW (Res.bind (Res.ok a_3) fun x44=>(Res.bind (Res.bind (Res.ok a_1) fun x42=>(Res.bind (Res.ok (1 : Int)) fun x43=>(Res.ok (x42 - x43)))) fun x45=>(Res.ok (decide (x44 < x45))))) (Res.bind (Res.ok a_4) fun x48=>(Res.bind (Res.bind (Res.ok a_1) fun x46=>(Res.bind (Res.ok (1 : Int)) fun x47=>(Res.ok (x46 - x47)))) fun x49=>(Res.ok (decide (x48 = x49))))))) fun x50=>(if x50 = true then (Res.bind (Res.bind (Res.ok a_3) fun x51=>(Res.bind (Res.ok (1 : Int)) fun x52=>(Res.ok (x51 + x52)))) fun x55=>(Res.bind (Res.bind (Res.ok a_1) fun x53=>(Res.bind (Res.ok (1 : Int)) fun x54=>(Res.ok (x53 - x54)))) fun x56=>(QT x55 x56))) else (Res.bind (QW (Res.bind (Res.ok a_0) fun x57=>(Res.bind (Res.ok (4 : Int)) fun x58=>(Res.ok (decide (x57 = x58))))) (QW (Res.bind (Res.ok a_3) fun x59=>(Res.bind (Res.ok a1) fun x60=>(Res.ok (decide (x59 < x60))))) (Res.bind (Res.ok a_4) fun x61=>(Res.bind (Res.ok a1) fun x62=>(Res.ok (decide (x61 < x62))))))) fun x63=>(if x63 = true then (Res.bind (Res.bind (Res.bind (Res.ok (2 : Int)) fun x64=>(Res.bind (Res.ok a_4) fun x65=>(Ue x64 x65))) fun x66=>(Res.bind (Res.ok a_3) fun x67=>(Res.ok (x66 - x67)))) fun x68=>(Res.bind (Res.ok a1) fun x69=>(QT x68 x69))) else (Res.bind (QW (Res.bind (Res.ok a_0) fun x70=>(Res.bind (Res.ok (4 : Int)) fun x71=>(Res.ok (decide (x70 = x71))))) (QW (Res.bind (Res.ok a_3) fun x72=>(Res.bind (Res.ok a1) fun x73=>(Res.ok (decide (x73 <= x72))))) (Res.bind (Res.ok a_4) fun x74=>(Res.bind (Res.ok a1) fun x75=>(Res.ok (decide (x75 <= x74))))))) fun x76=>(if x76 = true then (Res.bind (Res.ok a1) fun x87=>(Res.bind (Res.bind (Res.bind (Res.bind (Res.bind (Res.ok (2 : Int)) fun x77=>(Res.bind (Res.ok a_4) fun x78=>(Ue x77 x78))) fun x79=>(Res.bind (Res.ok a_3) fun x80=>(Res.ok (x79 - x80)))) fun x81=>(Res.bind (Res.ok a1) fun x82=>(Res.ok (x81 - x82)))) fun x85=>(Res.bind (Res.bind (Res.ok a_1) fun x83=>(Res.bind (Res.ok a1) fun x84=>(Res.ok (x83 - x84)))) fun x86=>(QT x85 x86))) fun x88=>(Res.ok (x87 + x88)))) else (Res.ok a_3))))))))))))))
noncomputable def ZT (a_0 : Int) (a_1 : Int) : Res Int:=(Res.bind (Res.bind (Res.ok a_0) fun x1=>(Res.ok (x1.natAbs : Int))) fun a3=>(Res.bind (Res.bind (Res.ok a_1) fun x2=>(Res.ok (x2.natAbs : Int))) fun a4=>(Res.bind (QE (a3.natAbs + a4.natAbs + 2) (a3, a4) (fun g9=>(Res.bind (Res.ok g9.2) fun x11=>(Res.bind (Res.ok (0 : Int)) fun x12=>(Res.ok (decide (x12 < x11)))))) (fun g9=>(Res.bind (Res.ok g9.2) fun a15=>(Res.bind (Res.bind (Res.ok g9.1) fun x13=>(Res.bind (Res.ok g9.2) fun x14=>(QT x13 x14))) fun a16=>(Res.ok (a15, a16)))))) fun g19=>(Res.ok g19.1))))
noncomputable def JR (a_0 : Int) (a_1 : Int) (a_2 : Int) : Res (List (List Int)):=(Res.bind (QW (Res.bind (Res.ok a_0) fun x1=>(Res.bind (Res.ok (5 : Int)) fun x2=>(Res.ok (decide (x1 = x2))))) (Res.bind (Res.ok a_1) fun x3=>(Res.bind (Res.ok (4 : Int)) fun x4=>(Res.ok (decide (x3 = x4)))))) fun x5=>(if x5 = true then (Res.bind (Res.bind (Res.bind (Res.bind (Res.ok (0 : Int)) fun x14=>(Res.bind (Res.bind (Res.ok (3 : Int)) fun x12=>(Res.bind (Res.bind (Res.ok (1 : Int)) fun x10=>(Res.bind (Res.bind (Res.ok (2 : Int)) fun x8=>(Res.bind (Res.ok []) fun x9=>(Res.ok (x8 :: x9)))) fun x11=>(Res.ok (x10 :: x11)))) fun x13=>(Res.ok (x12 :: x13)))) fun x15=>(Res.ok (x14 :: x15)))) fun x7=>(chk (x7.length <= sizeLine) (Res.ok x7))) fun x49=>(Res.bind (Res.bind (Res.bind (Res.bind (Res.ok (2 : Int)) fun x23=>(Res.bind (Res.bind (Res.ok (1 : Int)) fun x21=>(Res.bind (Res.bind (Res.ok (3 : Int)) fun x19=>(Res.bind (Res.bind (Res.ok (0 : Int)) fun x17=>(Res.bind (Res.ok []) fun x18=>(Res.ok (x17 :: x18)))) fun x20=>(Res.ok (x19 :: x20)))) fun x22=>(Res.ok (x21 :: x22)))) fun x24=>(Res.ok (x23 :: x24)))) fun x16=>(chk (x16.length <= sizeLine) (Res.ok x16))) fun x47=>(Res.bind (Res.bind (Res.bind (Res.bind (Res.ok (3 : Int)) fun x32=>(Res.bind (Res.bind (Res.ok (0 : Int)) fun x30=>(Res.bind (Res.bind (Res.ok (2 : Int)) fun x28=>(Res.bind (Res.bind (Res.ok (1 : Int)) fun x26=>(Res.bind (Res.ok []) fun x27=>(Res.ok (x26 :: x27)))) fun x29=>(Res.ok (x28 :: x29)))) fun x31=>(Res.ok (x30 :: x31)))) fun x33=>(Res.ok (x32 :: x33)))) fun x25=>(chk (x25.length <= sizeLine) (Res.ok x25))) fun x45=>(Res.bind (Res.bind (Res.bind (Res.bind (Res.ok (1 : Int)) fun x41=>(Res.bind (Res.bind (Res.ok (2 : Int)) fun x39=>(Res.bind (Res.bind (Res.ok (0 : Int)) fun x37=>(Res.bind (Res.bind (Res.ok (3 : Int)) fun x35=>(Res.bind (Res.ok []) fun x36=>(Res.ok (x35 :: x36)))) fun x38=>(Res.ok (x37 :: x38)))) fun x40=>(Res.ok (x39 :: x40)))) fun x42=>(Res.ok (x41 :: x42)))) fun x34=>(chk (x34.length <= sizeLine) (Res.ok x34))) fun x43=>(Res.bind (Res.ok []) fun x44=>(Res.ok (x43 :: x44)))) fun x46=>(Res.ok (x45 :: x46)))) fun x48=>(Res.ok (x47 :: x48)))) fun x50=>(Res.ok (x49 :: x50)))) fun x6=>(chk (x6.length <= sizeLine) (Res.ok x6))) else (Res.bind (QE (a_1.natAbs + 2) (a_2) (fun g53=>(Res.bind (Res.bind (Res.ok g53) fun x56=>(Res.bind (Res.ok a_1) fun x57=>(noE (ZT x56 x57)))) fun x58=>(Res.bind (Res.ok (1 : Int)) fun x59=>(Res.ok (!(decide (x58 = x59))))))) (fun g53=>(Res.bind (Res.bind (Res.ok g53) fun x62=>(Res.bind (Res.ok (1 : Int)) fun x63=>(Res.ok (x62 + x63)))) fun a60=>(Res.ok (a60))))) fun g64=>(Res.bind (Res.ok []) fun a66=>(Res.bind (Res.bind (Res.ok a_1) fun x69=>(Jm 0 x69)) fun x92=>(Res.bind (forN x92 (a66) (fun g72 a74=>(Res.bind (Res.bind (Res.bind (Res.ok a_1) fun x76=>(Jm 0 x76)) fun x80=>(UI x80 (fun a78=>(Res.bind (Res.ok a_0) fun x82=>(Res.bind (Res.ok a_1) fun x83=>(Res.bind (Res.ok g64) fun x84=>(Res.bind (Res.ok a74) fun x85=>(Res.bind (Res.ok a78) fun x86=>(noE (Y2 x82 x83 x84 x85 x86)))))))))) fun a87=>(chk (g72.length < sizeLine) ((fun a89=>(Res.ok (a89))) (g72 ++ [a87])))))) fun g90=>(Res.ok g90)))))))
noncomputable def Zm (a_0 : (List Int)) (a_1 : Int) : Res (List Int):=(Res.bind (Res.bind (Res.ok a_1) fun x4=>(chk (0 <= x4 /\ x4 <= 1000) (Res.ok (Zb 0 x4)))) fun a1=>(Res.bind (Res.ok []) fun a5=>(Res.bind (Res.bind (Res.ok a_1) fun x8=>(Jm 0 x8)) fun x29=>(Res.bind (forN x29 (a5, a1) (fun g11 a13=>(Res.bind (Res.bind (Res.bind (Res.ok a_0) fun x15=>(Res.bind (Res.ok a13) fun x16=>(atR x15 x16))) fun x18=>(Res.bind (Res.bind (Res.ok g11.2) fun x17=>(Res.ok (x17.length : Int))) fun x19=>(QT x18 x19))) fun x25=>(Res.bind (Ft g11.2 x25) fun p26=>(chk (g11.1.length < sizeLine) ((fun a21 a22=>(Res.ok (a22, a21))) p26.2 (g11.1 ++ [p26.1]))))))) fun g27=>(Res.ok g27.1)))))
noncomputable def ZU (a_0 : (List (List Int))) (a_1 : (List Int)) : Res (List (List Int)):=(Res.bind (Res.bind (Res.ok a_0) fun x7=>(UI x7 (fun a5=>(Res.bind (Res.ok a5) fun x8=>(Res.ok x8))))) fun a1=>(Res.bind (Res.bind (Res.bind (Res.ok a_0) fun x9=>(Res.ok (x9.length : Int))) fun x10=>(Jm 0 x10)) fun x47=>(Res.bind (forN x47 (a1) (fun g13 a15=>(Res.bind (Res.bind (Res.bind (Res.ok a_0) fun x17=>(Res.ok (x17.length : Int))) fun x18=>(Jm 0 x18)) fun x44=>(Res.bind (forN x44 (g13) (fun g21 a23=>(Res.bind (Res.bind (Res.ok a_1) fun x29=>(Res.bind (Res.bind (Res.bind (Res.ok a_0) fun x25=>(Res.bind (Res.ok a15) fun x26=>(atR x25 x26))) fun x27=>(Res.bind (Res.ok a23) fun x28=>(atR x27 x28))) fun x30=>(atR x29 x30))) fun x35=>(Res.bind (Res.bind (Res.ok a_1) fun x31=>(Res.bind (Res.ok a15) fun x32=>(atR x31 x32))) fun x36=>(Res.bind (atR g21 x36) fun x40=>(Res.bind (Res.bind (Res.ok a_1) fun x33=>(Res.bind (Res.ok a23) fun x34=>(atR x33 x34))) fun x37=>(Res.bind (Uf x40 x37 x35) fun x41=>(Res.bind (Uf g21 x36 x41) fun a38=>(Res.ok (a38)))))))))) fun g42=>(Res.ok (g42)))))) fun g45=>(Res.ok g45))))
noncomputable def Z7 (a_0 : (List Int)) (a_1 : Int) (a_2 : Int) : Res (List (List Int)):=(Res.bind (Res.bind (Res.ok a_0) fun x20=>(Res.bind (Res.ok a_1) fun x21=>(Res.bind (Res.bind (Res.bind (Res.bind (Res.ok (7 : Int)) fun x13=>(Res.bind (Res.bind (Res.ok (24 : Int)) fun x11=>(Res.bind (Res.bind (Res.ok (6 : Int)) fun x9=>(Res.bind (Res.bind (Res.ok (2 : Int)) fun x7=>(Res.bind (Res.ok []) fun x8=>(Res.ok (x7 :: x8)))) fun x10=>(Res.ok (x9 :: x10)))) fun x12=>(Res.ok (x11 :: x12)))) fun x14=>(Res.ok (x13 :: x14)))) fun x6=>(chk (x6.length <= sizeLine) (Res.ok x6))) fun x4=>(Res.bind (Res.bind (Res.bind (Res.bind (Res.ok (24 : Int)) fun x18=>(Res.bind (Res.ok []) fun x19=>(Res.ok (x18 :: x19)))) fun x17=>(chk (x17.length <= sizeLine) (Res.ok x17))) fun x15=>(Res.bind (Res.ok (24 : Int)) fun x16=>(BP x15 x16))) fun x5=>(DS x4 x5))) fun x22=>(noE (V0 x20 x21 x22))))) fun a1=>(Res.bind (Res.bind (Res.ok (1 : Int)) fun x29=>(Res.bind (Res.bind (Res.bind (Res.ok a1) fun x25=>(Res.bind (Res.ok (1 : Int)) fun x26=>(atR x25 x26))) fun x27=>(Res.bind (Res.ok a_2) fun x28=>(QT x27 x28))) fun x30=>(Res.ok (x29 + x30)))) fun a23=>(Res.bind (Res.bind (Res.bind (Res.ok a1) fun x35=>(Res.bind (Res.ok (0 : Int)) fun x36=>(atR x35 x36))) fun x41=>(Res.bind (Res.ok a23) fun x42=>(Res.bind (Res.bind (Res.ok (2 : Int)) fun x39=>(Res.bind (Res.bind (Res.ok a1) fun x37=>(Res.bind (Res.ok (2 : Int)) fun x38=>(atR x37 x38))) fun x40=>(Res.ok (x39 + x40)))) fun x43=>(noE (JR x41 x42 x43))))) fun a31=>(Res.bind (Res.bind (Res.bind (Res.ok a1) fun x44=>(Res.bind (Res.ok (3 : Int)) fun x45=>(atR x44 x45))) fun x46=>(Res.bind (Res.ok (0 : Int)) fun x47=>(Res.ok (decide (x46 = x47))))) fun x48=>(if x48 = true then (Res.ok a31) else (Res.bind (Res.ok a31) fun x57=>(Res.bind (Res.bind (Res.bind (Res.ok a1) fun x52=>(Res.bind (Res.bind (Res.ok (4 : Int)) fun x51=>(Res.ok (some x51))) fun x53=>(Res.bind (Res.ok none) fun x54=>(Res.ok (Gu x52 x53 x54))))) fun x55=>(Res.bind (Res.ok a23) fun x56=>(noE (Zm x55 x56)))) fun x58=>(noE (ZU x57 x58)))))))))
noncomputable def ZR (a_0 : Int) : Res Bool:=(QW (Res.bind (Res.ok a_0) fun x1=>(Res.ok true)) (Res.bind (Res.bind (Res.ok a_0) fun x2=>(Res.ok false)) fun x3=>(Res.ok (!x3))))
noncomputable def YT (a_0 : (List (List Int))) (a_1 : Int) : Res Bool:=(Res.bind (orR (Res.bind (Res.bind (Res.ok a_0) fun x1=>(Res.ok true)) fun x2=>(Res.ok (!x2))) (Res.bind (Res.bind (Res.ok a_0) fun x3=>(Res.ok (x3.length : Int))) fun x4=>(Res.bind (Res.ok a_1) fun x5=>(Res.ok (!(decide (x4 = x5))))))) fun x6=>(if x6 = true then (Res.ok false) else (Res.bind (Res.ok a_0) fun x38=>(Res.bind (forC x38 () (fun g9 a11=>(Res.bind (orR (Res.bind (Res.bind (Res.ok a11) fun x13=>(Res.ok true)) fun x14=>(Res.ok (!x14))) (Res.bind (Res.bind (Res.ok a11) fun x15=>(Res.ok (x15.length : Int))) fun x16=>(Res.bind (Res.ok a_1) fun x17=>(Res.ok (!(decide (x16 = x17))))))) fun x18=>(if x18 = true then (Res.bind (Res.ok false) fun x35=>(Res.ok (Ctl.ret x35))) else (Res.bind (Res.ok a11) fun x34=>(Res.bind (forC x34 () (fun g21 a23=>(Res.bind (Res.bind (Res.bind (Res.ok a23) fun x26=>(noE (ZR x26))) fun x27=>(Res.ok (!x27))) fun x28=>(if x28 = true then (Res.bind (Res.ok false) fun x30=>(Res.ok (Ctl.ret x30))) else (Res.bind (Res.ok ()) fun x29=>(Res.ok (Ctl.nx x29))))))) (Z2 fun g31=>(Res.bind (Res.ok ()) fun x33=>(Res.ok (Ctl.nx x33)))))))))) (Z4 fun g36=>(Res.ok true))))))
noncomputable def Zc (a_0 : (List (List Int))) : Res Bool:=(Res.bind (Res.bind (Res.ok a_0) fun x3=>(Res.ok (x3.length : Int))) fun a1=>(Res.bind (Res.bind (Res.ok a1) fun x4=>(Jm 0 x4)) fun x104=>(Res.bind (forC x104 () (fun g7 a9=>(Res.bind (Res.bind (Res.bind (Res.bind (Res.ok a_0) fun x11=>(Res.bind (Res.ok a9) fun x12=>(atR x11 x12))) fun x13=>(Res.bind (Res.ok a9) fun x14=>(atR x13 x14))) fun x15=>(Res.bind (Res.ok a9) fun x16=>(Res.ok (!(decide (x15 = x16)))))) fun x17=>(if x17 = true then (Res.bind (Res.ok false) fun x19=>(Res.ok (Ctl.ret x19))) else (Res.bind (Res.ok ()) fun x18=>(Res.ok (Ctl.nx x18))))))) (Z4 fun g20=>(Res.bind (Res.bind (Res.ok a1) fun x22=>(Jm 0 x22)) fun x103=>(Res.bind (forC x103 () (fun g25 a27=>(Res.bind (Res.bind (Res.bind (Res.bind (Res.ok a_0) fun x33=>(UI x33 (fun a31=>(Res.bind (Res.ok a31) fun x34=>(Res.bind (Res.ok a27) fun x35=>(atR x34 x35)))))) fun x29=>(chk (x29.length < 64) (Res.ok (JA x29)))) fun x37=>(Res.bind (Res.bind (Res.ok a1) fun x36=>(chk (0 <= x36 /\ x36 <= 1000) (Res.ok (Zb 0 x36)))) fun x38=>(Res.ok (!(decide (x37 = x38)))))) fun x39=>(if x39 = true then (Res.bind (Res.ok false) fun x41=>(Res.ok (Ctl.ret x41))) else (Res.bind (Res.ok ()) fun x40=>(Res.ok (Ctl.nx x40))))))) (Z4 fun g42=>(Res.bind (Res.bind (Res.ok a1) fun x44=>(Jm 0 x44)) fun x102=>(Res.bind (forC x102 () (fun g47 a49=>(Res.bind (Res.bind (Res.ok a1) fun x51=>(Jm 0 x51)) fun x99=>(Res.bind (forC x99 () (fun g54 a56=>(Res.bind (Res.bind (Res.ok a1) fun x58=>(Jm 0 x58)) fun x95=>(Res.bind (forC x95 () (fun g61 a63=>(Res.bind (Res.bind (Res.bind (Res.ok a_0) fun x71=>(Res.bind (Res.bind (Res.bind (Res.ok a_0) fun x67=>(Res.bind (Res.ok a49) fun x68=>(atR x67 x68))) fun x69=>(Res.bind (Res.ok a56) fun x70=>(atR x69 x70))) fun x72=>(atR x71 x72))) fun x73=>(Res.bind (Res.ok a63) fun x74=>(atR x73 x74))) fun a65=>(Res.bind (Res.bind (Res.ok a65) fun x87=>(Res.bind (Res.bind (Res.bind (Res.ok a_0) fun x79=>(Res.bind (Res.bind (Res.bind (Res.ok a_0) fun x75=>(Res.bind (Res.ok a49) fun x76=>(atR x75 x76))) fun x77=>(Res.bind (Res.ok a63) fun x78=>(atR x77 x78))) fun x80=>(atR x79 x80))) fun x85=>(Res.bind (Res.bind (Res.bind (Res.ok a_0) fun x81=>(Res.bind (Res.ok a56) fun x82=>(atR x81 x82))) fun x83=>(Res.bind (Res.ok a63) fun x84=>(atR x83 x84))) fun x86=>(atR x85 x86))) fun x88=>(Res.ok (!(decide (x87 = x88)))))) fun x89=>(if x89 = true then (Res.bind (Res.ok false) fun x91=>(Res.ok (Ctl.ret x91))) else (Res.bind (Res.ok ()) fun x90=>(Res.ok (Ctl.nx x90)))))))) (Z2 fun g92=>(Res.bind (Res.ok ()) fun x94=>(Res.ok (Ctl.nx x94)))))))) (Z2 fun g96=>(Res.bind (Res.ok ()) fun x98=>(Res.ok (Ctl.nx x98)))))))) (Z4 fun g100=>(Res.ok true)))))))))))
noncomputable def YW (a_0 : (List (List (List Int)))) (a_1 : Int) : Res Bool:=(Res.bind (orR (Res.bind (Res.bind (Res.ok a_0) fun x1=>(Res.ok true)) fun x2=>(Res.ok (!x2))) (Res.bind (Res.bind (Res.ok a_0) fun x3=>(Res.ok (x3.length : Int))) fun x4=>(Res.bind (Res.ok (0 : Int)) fun x5=>(Res.ok (decide (x4 = x5)))))) fun x6=>(if x6 = true then (Res.ok false) else (Res.bind (Res.bind (Res.bind (Res.ok a_0) fun x7=>(Res.ok (x7.length : Int))) fun x8=>(Jm 0 x8)) fun x44=>(Res.bind (forC x44 () (fun g11 a13=>(Res.bind (orR (Res.bind (Res.bind (Res.bind (Res.ok a_0) fun x16=>(Res.bind (Res.ok a13) fun x17=>(atR x16 x17))) fun x18=>(Res.bind (Res.ok a_1) fun x19=>(noE (YT x18 x19)))) fun x20=>(Res.ok (!x20))) (Res.bind (Res.bind (Res.bind (Res.ok a_0) fun x22=>(Res.bind (Res.ok a13) fun x23=>(atR x22 x23))) fun x24=>(noE (Zc x24))) fun x25=>(Res.ok (!x25)))) fun x26=>(if x26 = true then (Res.bind (Res.ok false) fun x41=>(Res.ok (Ctl.ret x41))) else (Res.bind (QW (Res.bind (Res.ok a13) fun x27=>(Res.bind (Res.ok (0 : Int)) fun x28=>(Res.ok (decide (x28 < x27))))) (Res.bind (Res.bind (Res.bind (Res.ok a_0) fun x31=>(Res.bind (Res.bind (Res.ok a13) fun x29=>(Res.bind (Res.ok (1 : Int)) fun x30=>(Res.ok (x29 - x30)))) fun x32=>(atR x31 x32))) fun x35=>(Res.bind (Res.bind (Res.ok a_0) fun x33=>(Res.bind (Res.ok a13) fun x34=>(atR x33 x34))) fun x36=>(Res.ok (ltG (ltG ltI) x35 x36)))) fun x37=>(Res.ok (!x37)))) fun x38=>(if x38 = true then (Res.bind (Res.ok false) fun x40=>(Res.ok (Ctl.ret x40))) else (Res.bind (Res.ok ()) fun x39=>(Res.ok (Ctl.nx x39))))))))) (Z4 fun g42=>(Res.ok true))))))
noncomputable def Qa (a_0 : (List (List (List Int)))) (a_1 : Int) : Res (Bool × (List (List (List Int)))):=(chk (∀ t ∈ a_0, ∀ row ∈ t, row.length < sizeLine) ((fun (a4 : List (List (List Int)))=>(Res.bind (Fh (fun a7=>(Res.bind (Res.bind (Res.ok a7) fun x9=>(Res.ok (x9.length : Int))) fun x12=>(Res.bind (Res.bind (Res.ok a_1) fun x10=>(Res.bind (Res.ok (1 : Int)) fun x11=>(Res.ok (x10 + x11)))) fun x13=>(Res.ok (!(decide (x12 = x13))))))) (List.flatten a4)) fun x8=>(Res.ok (x8, a4)))) (a_0.map (fun t=>t.map (· ++ [9])))))
noncomputable def Uu (a_0 : (List Int)) : Res Bool:=(Res.bind (Res.bind (Res.ok a_0) fun x16=>(Res.bind (Res.ok (1 : Int)) fun x17=>(Res.bind (Res.bind (Res.bind (Res.bind (Res.ok (3 : Int)) fun x9=>(Res.bind (Res.bind (Res.ok (2 : Int)) fun x7=>(Res.bind (Res.ok []) fun x8=>(Res.ok (x7 :: x8)))) fun x10=>(Res.ok (x9 :: x10)))) fun x6=>(chk (x6.length <= sizeLine) (Res.ok x6))) fun x4=>(Res.bind (Res.bind (Res.bind (Res.bind (Res.ok (3 : Int)) fun x14=>(Res.bind (Res.ok []) fun x15=>(Res.ok (x14 :: x15)))) fun x13=>(chk (x13.length <= sizeLine) (Res.ok x13))) fun x11=>(Res.bind (Res.ok (9 : Int)) fun x12=>(BP x11 x12))) fun x5=>(DS x4 x5))) fun x18=>(noE (V0 x16 x17 x18))))) fun a1=>(Res.bind (Res.bind (Res.ok (1 : Int)) fun x23=>(Res.bind (Res.bind (Res.ok a1) fun x21=>(Res.bind (Res.ok (0 : Int)) fun x22=>(atR x21 x22))) fun x24=>(Res.ok (x23 + x24)))) fun a19=>(Res.bind (Res.ok []) fun a25=>(Res.bind (Res.bind (Res.ok a19) fun x28=>(Jm 0 x28)) fun x115=>(Res.bind (forN x115 (a25) (fun g31 a33=>(Res.bind (Res.bind (Res.bind (Res.ok a19) fun x35=>(Jm 0 x35)) fun x39=>(UI x39 (fun a37=>(Res.bind (Res.bind (Res.ok a1) fun x46=>(Res.bind (Res.bind (Res.bind (Res.ok (2 : Int)) fun x42=>(Res.bind (Res.bind (Res.ok (3 : Int)) fun x40=>(Res.bind (Res.ok a33) fun x41=>(Ue x40 x41))) fun x43=>(Res.ok (x42 + x43)))) fun x44=>(Res.bind (Res.ok a37) fun x45=>(Res.ok (x44 + x45)))) fun x47=>(atR x46 x47))) fun x48=>(Res.bind (Res.ok a19) fun x49=>(QT x48 x49)))))) fun a50=>(chk (g31.length < sizeLine) ((fun a52=>(Res.ok (a52))) (g31 ++ [a50])))))) fun g53=>(Res.bind (Res.bind (Res.bind (Res.bind (Res.ok a1) fun x55=>(Res.bind (Res.ok (1 : Int)) fun x56=>(atR x55 x56))) fun x57=>(Res.bind (Res.ok (0 : Int)) fun x58=>(Res.ok (decide (x57 = x58))))) fun x59=>(if x59 = true then (Res.bind (Res.bind (Res.ok a_0) fun x66=>(Res.bind (Res.ok (0 : Int)) fun x67=>(Res.bind (Res.ok (3 : Int)) fun x68=>(noE (Z7 x66 x67 x68))))) fun a62=>(Res.bind (Res.bind (Res.ok a62) fun x71=>(Res.ok (x71.length : Int))) fun a69=>(Res.ok (a62, a69)))) else (Res.ok (g53, a19)))) fun g73=>(Res.bind (Res.bind (Res.ok g73.2) fun x78=>(noE (Ye x78))) fun a74=>(Res.bind (orR (Res.bind (Res.bind (Res.ok a74) fun x80=>(Res.bind (Res.ok g73.2) fun x81=>(noE (YW x80 x81)))) fun x82=>(Res.ok (!x82))) (Res.bind (Res.bind (Res.ok g73.1) fun x83=>(Res.bind (Res.ok a74) fun x84=>(Res.ok ((F8 x83 x84))))) fun x87=>(Res.bind (Res.bind (Res.ok g73.1) fun x86=>(noE (Zc x86))) fun x88=>(Res.ok (!(decide (x87 = x88))))))) fun x89=>(if x89 = true then (Res.ok false) else (Res.bind (Res.bind (Res.ok a74) fun x92=>(Res.ok (x92.length : Int))) fun a90=>(Res.bind (Res.ok g73.2) fun x93=>(Res.bind (noE (Qa a74 x93)) fun b94=>(if b94.1 = true then ((fun (a95 : (List (List (List Int))))=>(chk (0 < a95.length) ((fun (a98 : (List (List (List Int))))=>(Res.bind (Res.bind (Res.ok g73.2) fun x102=>(noE (Ye x102))) fun a99=>(QW (Res.bind (Res.bind (Res.ok a99) fun x103=>(Res.ok (x103.length : Int))) fun x104=>(Res.bind (Res.ok a90) fun x105=>(Res.ok (decide (x104 = x105))))) (QW (Res.bind (Res.ok a99) fun x107=>(Res.bind (Res.ok g73.2) fun x108=>(noE (YW x107 x108)))) (Res.bind (Res.bind (Res.ok g73.1) fun x109=>(Res.bind (Res.ok a99) fun x110=>(Res.ok ((F8 x109 x110))))) fun x113=>(Res.bind (Res.bind (Res.ok g73.1) fun x112=>(noE (Zc x112))) fun x114=>(Res.ok (decide (x113 = x114))))))))) (a95).dropLast))) b94.2) else Res.ok false)))))))))))))
end My
namespace L2
open PySem
section
variable {α β γ ρ : Type}
theorem Res.okb (a : α) (f : α -> Res β) : (Res.ok a).bind f = f a:=(Eq.refl (f a)).symm.symm
theorem KS {f : α -> Res β} {h : α -> β} : ∀ {as : List α}, (∀ a ∈ as, f a = .ok (h a)) -> KB as f = .ok (as.map h)
  | [], _=>rfl
  | a :: as, hf=>by
    show (f a).bind _ = _
    rw [hf a (by simp), Res.ok_bind, KS fun b hb=>hf b (by simp [hb])]; rfl
theorem Ur {f : α -> Res β} {h : α -> β} {as : List α} (hl : as.length <= sizeLine) (hf : ∀ a ∈ as, f a = .ok (h a)) : UI as f = .ok (as.map h):=by
  unfold UI; rw [X3 hl]; exact KS hf
theorem VR {f : γ -> α -> Res γ} (P : Nat -> γ -> Prop) : ∀ (as : List α) (k : Nat) (g : γ), P k g -> (∀ i a g, as[i]? = some a -> P (k + i) g -> ∃ g', f g a = .ok g' /\ P (k + i + 1) g') -> ∃ g', forN as g f = .ok g' /\ P (k + as.length) g'
  | [], k, g, h0, _=>⟨g, rfl, h0⟩
  | a :: as, k, g, h0, hs=>by
    obtain ⟨g1, e1, p1⟩:=hs 0 a g rfl h0
    obtain ⟨g2, e2, p2⟩:=VR P as (k + 1) g1 p1 fun i b g hb hp=>by
      obtain ⟨g', e', p'⟩:=hs (i + 1) b g (by simpa using hb) (by rw [show k + (i + 1) = k + 1 + i by omega]; exact hp)
      exact ⟨g', e', by rw [show k + 1 + i + 1 = k + (i + 1) + 1 by omega]; exact p'⟩
    refine ⟨g2, ?_, by rw [List.length_cons, show k + (as.length + 1) = k + 1 + as.length by omega]; exact p2⟩
    show (f g a).bind _ = _
    rw [e1, Res.ok_bind]; exact e2
theorem UY {f : γ -> α -> Res γ} (P : Nat -> γ -> Prop) {as : List α} {g : γ} (h0 : P 0 g) (hs : ∀ i a g, as[i]? = some a -> P i g -> ∃ g', f g a = .ok g' /\ P (i + 1) g') : ∃ g', forN as g f = .ok g' /\ P as.length g':=by
  have:=VR P as 0 g h0 (by simpa using hs)
  simpa using this
theorem Jl {f : List β -> α -> Res (List β)} {h : α -> β} : ∀ {as : List α} {g : List β}, g.length + as.length <= sizeLine -> (∀ g : List β, g.length < sizeLine -> ∀ a ∈ as, f g a = .ok (g ++ [h a])) -> forN as g f = .ok (g ++ as.map h)
  | [], g, _, _=>by simp [forN]
  | a :: as, g, hl, hf=>by
    show (f g a).bind _ = _
    rw [List.length_cons] at hl
    rw [hf g (by omega) a (by simp), Res.ok_bind, Jl (by simp; omega) fun g hg b hb=>hf g hg b (by simp [hb])]
    simp
theorem QV {f : γ -> α -> Res (Ctl ρ γ)} : ∀ {as : List α} {g : γ}, (∀ a ∈ as, f g a = .ok (.nx g)) -> forC as g f = .ok (.nx g)
  | [], _, _=>rfl
  | a :: as, g, hf=>by
    show (f g a).bind _ = _
    rw [hf a (by simp), Res.ok_bind]
    exact QV fun b hb=>hf b (by simp [hb])
theorem VB {f : γ -> α -> Res (Ctl ρ γ)} (P : Nat -> γ -> Prop) : ∀ (as : List α) (k : Nat) (g : γ), P k g -> (∀ i a g, as[i]? = some a -> P (k + i) g -> ∃ g', f g a = .ok (.nx g') /\ P (k + i + 1) g') -> ∃ g', forC as g f = .ok (.nx g') /\ P (k + as.length) g'
  | [], k, g, h0, _=>⟨g, rfl, h0⟩
  | a :: as, k, g, h0, hs=>by
    obtain ⟨g1, e1, p1⟩:=hs 0 a g rfl h0
    obtain ⟨g2, e2, p2⟩:=VB P as (k + 1) g1 p1 fun i b g hb hp=>by
      obtain ⟨g', e', p'⟩:=hs (i + 1) b g (by simpa using hb) (by rw [show k + (i + 1) = k + 1 + i by omega]; exact hp)
      exact ⟨g', e', by rw [show k + 1 + i + 1 = k + (i + 1) + 1 by omega]; exact p'⟩
    refine ⟨g2, ?_, by rw [List.length_cons, show k + (as.length + 1) = k + 1 + as.length by omega]; exact p2⟩
    show (f g a).bind _ = _
    rw [e1, Res.ok_bind]; exact e2
theorem Fx {f : γ -> α -> Res (Ctl ρ γ)} (P : Nat -> γ -> Prop) {as : List α} {g : γ} (h0 : P 0 g) (hs : ∀ i a g, as[i]? = some a -> P i g -> ∃ g', f g a = .ok (.nx g') /\ P (i + 1) g') : ∃ g', forC as g f = .ok (.nx g') /\ P as.length g':=by
  have:=VB P as 0 g h0 (by simpa using hs)
  simpa using this
theorem Yx {a b : Int} (h : 0 < b) : QT a b = .ok (a % b):=X3 h
theorem Ju {a b : Int} (h1 : -(2 ^ 64) < a) (h2 : a < 2 ^ 64) : Ue a b = .ok (a * b):=X3 (.inl ⟨h1, h2⟩)
theorem Ja {a b : Int} (h1 : -(2 ^ 64) < b) (h2 : b < 2 ^ 64) : Ue a b = .ok (a * b):=X3 (.inr ⟨h1, h2⟩)
theorem G9 {a b : Int} (h : 0 < b) (h2 : b < 2 ^ 250) : Bi a b = .ok (a / b):=X3 ⟨h, by
  have h3 : b.natAbs < 2 ^ 250:=by omega
  rcases Nat.eq_zero_or_pos b.natAbs with h0 | h0
  . omega
  . have := (Nat.log2_lt (by omega)).mpr h3
    omega⟩
theorem Dz {a b : Int} (h0 : 0 <= b) (h1 : b <= 1000000) (h2 : -(2 ^ 64) < a) (h3 : a < 2 ^ 64) : Ex a b = .ok (a ^ b.toNat):=X3 ⟨h0, h1, by omega⟩
theorem ZK {as : List α} {i : Nat} {a : α} (h : as[i]? = some a) : atR as (i : Int) = .ok a:=by
  have hlt:=(List.getElem?_eq_some_iff.mp h).1
  unfold atR atI ixN
  rw [if_pos (by omega), if_pos (by omega)]
  simp [h]
theorem BF {as : List α} {i : Int} {a : α} (h0 : 0 <= i) (h : as[i.toNat]? = some a) : atR as i = .ok a:=by
  have : i = (i.toNat : Int):=by omega
  rw [this]; exact ZK h
theorem Jf {n : Nat} (h : n < 2 ^ 62) : Jm 0 (n : Int) = .ok ((List.range n).map fun (i : Nat)=>(i : Int)):=by
  unfold Jm
  rw [X3 (by omega)]
  unfold Zb
  congr 1
  rw [Int.sub_zero, Int.toNat_natCast]
  exact List.map_congr_left fun i _=>by omega
theorem Qf {n i : Nat} {a : Int} (h : ((List.range n).map fun (i : Nat)=>(i : Int))[i]? = some a) : a = (i : Int) /\ i < n:=by
  have hlt:=(List.getElem?_eq_some_iff.mp h).1
  simp only [List.length_map, List.length_range] at hlt
  rw [List.getElem?_map, List.getElem?_range hlt] at h
  exact ⟨(Option.some.inj h).symm, hlt⟩
theorem XL {n : Nat} {a : Int} (h : a ∈ (List.range n).map fun (i : Nat)=>(i : Int)) : ∃ i : Nat, i < n /\ a = (i : Int):=by
  obtain ⟨i, hi, rfl⟩:=List.mem_map.mp h
  exact ⟨i, List.mem_range.mp hi, rfl⟩
theorem ZL {n : Nat} : ((List.range n).map fun (i : Nat)=>(i : Int)).length = n:=by simp
theorem Dy {a : Bool} {b : Res Bool} {c : Bool} (h : a = true -> b = .ok c) : QW (.ok a) b = .ok (a && c):=by
  cases a with
  | false=>rfl
  | true=>
    show (if true = true then b else Res.ok false) = _
    rw [if_pos rfl, h rfl]; rfl
theorem sz {n : Nat} (h : n <= 100000) : n <= sizeLine:=Nat.le_trans h (by decide)
theorem E3 {n : Nat} (h : n <= 100000) : n < sizeLine:=Nat.lt_of_le_of_lt h (by decide)
noncomputable def Ok (m : Res β) (R : β -> Prop) : Prop:=∃ r, m = .ok r /\ R r
theorem Ok.pure {R : β -> Prop} {a : β} (h : R a) : Ok (.ok a) R:=⟨a, rfl, h⟩
theorem Ok.bind {m : Res α} {f : α -> Res β} {R : α -> Prop} {T : β -> Prop} (h : Ok m R) (hf : ∀ a, R a -> Ok (f a) T) : Ok (m.bind f) T:=by
  obtain ⟨a, e, ha⟩:=h
  rw [e]; exact hf a ha
theorem Ok.imp {m : Res α} {R T : α -> Prop} (h : Ok m R) (hf : ∀ a, R a -> T a) : Ok m T:=by
  obtain ⟨a, e, ha⟩:=h
  exact ⟨a, e, hf a ha⟩
theorem Ok.noE {m : Res α} {R : α -> Prop} (h : Ok m R) : Ok (noE m) R:=by
  obtain ⟨a, e, ha⟩:=h
  rw [e]; exact ⟨a, rfl, ha⟩
theorem Ok.chk {c : Prop} [Decidable c] {m : Res α} {R : α -> Prop} (hc : c) (h : Ok m R) : Ok (chk c m) R:=by rw [X3 hc]; exact h
theorem Ok.ite {b : Bool} {m n : Res α} {R : α -> Prop} (h1 : b = true -> Ok m R) (h2 : b = false -> Ok n R) : Ok (if b = true then m else n) R:=by
  cases b with
  | true=>rw [if_pos rfl]; exact h1 rfl
  | false=>rw [if_neg Bool.false_ne_true]; exact h2 rfl
theorem Ok.forN {f : γ -> α -> Res γ} (P : Nat -> γ -> Prop) {as : List α} {g : γ} (h0 : P 0 g) (hs : ∀ i a g, as[i]? = some a -> P i g -> Ok (f g a) (P (i + 1))) : Ok (forN as g f) (P as.length):=UY P h0 hs
theorem Ok.forC {f : γ -> α -> Res (Ctl ρ γ)} (P : Nat -> γ -> Prop) {as : List α} {g : γ} (h0 : P 0 g) (hs : ∀ i a g, as[i]? = some a -> P i g -> ∃ g', f g a = .ok (.nx g') /\ P (i + 1) g') : Ok (forC as g f) (fun c=>∃ g', c = .nx g' /\ P as.length g'):=by
  obtain ⟨g', e, h⟩:=Fx P h0 hs
  exact ⟨_, e, g', rfl, h⟩
theorem UP {f : γ -> Res ρ} (g : γ) : Z4 f (.nx g) = f g:=(Eq.refl (f g)).symm.symm
theorem YD (a : α) : noE (Res.ok a) = .ok a:=(Eq.refl (Res.ok a)).symm.symm
theorem Ok.of {m : Res α} {a : α} (h : m = .ok a) : Ok m (fun b=>b = a):=⟨a, h, rfl⟩
theorem Ok.eq {m : Res α} {a : α} (h : Ok m (fun b=>b = a)) : m = .ok a:=by
  obtain ⟨b, e, rfl⟩:=h
  exact e
end
end L2
namespace My
noncomputable def Zl (n : Nat) (f : Nat -> Nat -> Nat) (a : Nat) : List Int:=(List.range n).map fun b=>(f a b : Int)
noncomputable def XX (n : Nat) (f : Nat -> Nat -> Nat) : List (List Int):=(List.range n).map (Zl n f)
theorem Yr (n : Nat) (f : Nat -> Nat -> Nat) (a : Nat) : (Zl n f a).length = n:=by simp [Zl]
theorem XJ (n : Nat) (f : Nat -> Nat -> Nat) : (XX n f).length = n:=by simp [XX]
theorem Y0 {n : Nat} {f : Nat -> Nat -> Nat} {a b : Nat} (h : b < n) : (Zl n f a)[b]? = some (f a b : Int):=by
  unfold Zl; rw [List.getElem?_map, List.getElem?_range h]; rfl
theorem Y7 {n : Nat} {f : Nat -> Nat -> Nat} {a : Nat} (h : a < n) : (XX n f)[a]? = some (Zl n f a):=by
  unfold XX; rw [List.getElem?_map, List.getElem?_range h]; rfl
theorem Jt {n : Nat} {f g : Nat -> Nat -> Nat} {a : Nat} (h : ∀ b, b < n -> f a b = g a b) : Zl n f a = Zl n g a:=by
  unfold Zl
  exact List.map_congr_left fun b hb=>by rw [h b (List.mem_range.mp hb)]
theorem YU {n : Nat} {f g : Nat -> Nat -> Nat} (h : ∀ a b, a < n -> b < n -> f a b = g a b) : XX n f = XX n g:=by
  unfold XX
  exact List.map_congr_left fun a ha=>Jt fun b hb=>h a b (List.mem_range.mp ha) hb
theorem Gk {n : Nat} {f g : Nat -> Nat -> Nat} (e : XX n f = XX n g) : ∀ a b, a < n -> b < n -> f a b = g a b:=fun a b ha hb=>by
  have h1:=Y7 (f:=f) ha
  rw [e, Y7 ha] at h1
  have h2:=Y0 (f:=f) (a:=a) hb
  rw [← Option.some.inj h1, Y0 hb] at h2
  have:=Option.some.inj h2
  omega
theorem Fb {n : Nat} {f : Nat -> Nat -> Nat} {r : List Int} (h : r ∈ XX n f) : r.length = n:=by
  unfold XX at h
  obtain ⟨a, _, rfl⟩:=List.mem_map.mp h
  exact Yr n f a
structure Col (n : Nat) (f : Nat -> Nat -> Nat) : Prop where
  lt : ∀ a b, a < n -> b < n -> f a b < n
  r2 : ∀ x y b, x < n -> y < n -> b < n -> f x b = f y b -> x = y
structure GoodF (n : Nat) (f : Nat -> Nat -> Nat) : Prop extends Col n f where
  r1 : ∀ a, a < n -> f a a = a
  r3 : ∀ a b c, a < n -> b < n -> c < n -> f (f a b) c = f (f a c) (f b c)
theorem GoodF.congr {n : Nat} {f g : Nat -> Nat -> Nat} (h : GoodF n f) (e : ∀ a b, a < n -> b < n -> g a b = f a b) : GoodF n g where
  lt a b ha hb:=by rw [e a b ha hb]; exact h.lt a b ha hb
  r2 x y b hx hy hb q:=by rw [e x b hx hb, e y b hy hb] at q; exact h.r2 x y b hx hy hb q
  r1 a ha:=by rw [e a a ha ha]; exact h.r1 a ha
  r3 a b c ha hb hc:=by
    rw [e a b ha hb, e a c ha hc, e b c hb hc, e _ c (h.lt a b ha hb) hc, e _ _ (h.lt a c ha hc) (h.lt b c hb hc)]
    exact h.r3 a b c ha hb hc
theorem Jr : ∀ (n : Nat) (p : Nat -> Nat), (∀ a, a < n -> p a < n) -> (∀ a b, a < n -> b < n -> p a = p b -> a = b) -> ∀ y, y < n -> ∃ x, x < n /\ p x = y
  | 0, _, _, _, y, hy=>absurd hy (Nat.not_lt_zero _)
  | n + 1, p, hl, hi, y, hy=>by
    by_cases hh : ∃ x, x < n + 1 /\ p x = y
    . exact hh
    . exfalso
      -- send n to y, and y's place away
      have hne : ∀ x, x < n + 1 -> p x ≠ y:=fun x hx e=>hh ⟨x, hx, e⟩
      -- among the first n: p', which skips y
      let s : Nat -> Nat:=fun v=>if v < y then v else v - 1
      have hs : ∀ a, a < n + 1 -> s (p a) < n:=fun a ha=>by
        have h1:=hl a ha; have h2:=hne a ha
        show (if p a < y then p a else p a - 1) < n
        split <;> omega
      have hsi : ∀ a b, a < n + 1 -> b < n + 1 -> s (p a) = s (p b) -> a = b:=fun a b ha hb e=>by
        have h1:=hne a ha; have h2:=hne b hb
        refine hi a b ha hb ?_
        have e' : (if p a < y then p a else p a - 1) = (if p b < y then p b else p b - 1):=e
        split at e' <;> split at e' <;> omega
      obtain ⟨x, hx, ex⟩:=Jr n (fun a=>s (p a)) (fun a ha=>hs a (by omega)) (fun a b ha hb e=>hsi a b (by omega) (by omega) e) (s (p n)) (hs n (by omega))
      have:=hsi x n (by omega) (by omega) ex
      omega
structure PermN (n : Nat) (p q : Nat -> Nat) : Prop where
  lt : ∀ a, a < n -> p a < n
  qlt : ∀ a, a < n -> q a < n
  pq : ∀ a, a < n -> p (q a) = a
  qp : ∀ a, a < n -> q (p a) = a
theorem PermN.good {n : Nat} {p q : Nat -> Nat} {f : Nat -> Nat -> Nat} (h : PermN n p q) (g : GoodF n f) : GoodF n (fun x y=>p (f (q x) (q y))) where
  lt a b ha hb:=h.lt _ (g.lt _ _ (h.qlt a ha) (h.qlt b hb))
  r2 x y b hx hy hb e:=by
    have e1 : q (p (f (q x) (q b))) = q (p (f (q y) (q b))):=congrArg q e
    rw [h.qp _ (g.lt _ _ (h.qlt x hx) (h.qlt b hb)), h.qp _ (g.lt _ _ (h.qlt y hy) (h.qlt b hb))] at e1
    have:=g.r2 _ _ _ (h.qlt x hx) (h.qlt y hy) (h.qlt b hb) e1
    rw [← h.pq x hx, ← h.pq y hy, this]
  r1 a ha:=by
    show p (f (q a) (q a)) = a
    rw [g.r1 _ (h.qlt a ha), h.pq a ha]
  r3 a b c ha hb hc:=by
    have l1:=g.lt _ _ (h.qlt a ha) (h.qlt b hb)
    have l2:=g.lt _ _ (h.qlt a ha) (h.qlt c hc)
    have l3:=g.lt _ _ (h.qlt b hb) (h.qlt c hc)
    show p (f (q (p (f (q a) (q b)))) (q c)) = p (f (q (p (f (q a) (q c)))) (q (p (f (q b) (q c)))))
    rw [h.qp _ l1, h.qp _ l2, h.qp _ l3, g.r3 _ _ _ (h.qlt a ha) (h.qlt b hb) (h.qlt c hc)]
theorem Cv {n : Nat} {p : Nat -> Nat} (hl : ∀ a, a < n -> p a < n) (hi : ∀ a b, a < n -> b < n -> p a = p b -> a = b) : ∃ q, PermN n p q:=by
  have ho:=Jr n p hl hi
  refine ⟨fun y=>if h : y < n then Classical.choose (ho y h) else 0, hl, fun a ha=>?_, fun a ha=>?_, fun a ha=>?_⟩
  . simp only [dif_pos ha]; exact (Classical.choose_spec (ho a ha)).1
  . simp only [dif_pos ha]; exact (Classical.choose_spec (ho a ha)).2
  . simp only [dif_pos (hl a ha)]
    have:=Classical.choose_spec (ho (p a) (hl a ha))
    exact hi _ _ this.1 ha this.2
theorem Uo {A B n z : Int} (h : A - B = n * z) : A % n = B % n:=by
  have : A = B + n * z:=by omega
  rw [this, Int.add_mul_emod_self_left]
noncomputable def K4 (k n a b : Int) : Int:=(k * a + (1 - k) * b) % n
noncomputable def Fg (k : Int) (n : Nat) (a b : Nat) : Nat:=(K4 k n a b).toNat
theorem X0 {k : Int} {n : Nat} (hn : 0 < n) (a b : Nat) : ((Fg k n a b : Nat) : Int) = K4 k n a b:=by
  unfold Fg
  have:=Int.emod_nonneg (k * a + (1 - k) * b) (show (n : Int) ≠ 0 by omega)
  unfold K4
  omega
theorem J8 {k : Int} {n : Nat} (hn : 0 < n) (hk : ∀ x : Int, (n : Int) ∣ k * x -> (n : Int) ∣ x) : GoodF n (Fg k n) where
  lt a b _ _:=by
    have h:=X0 (k:=k) hn a b
    have:=Int.emod_lt_of_pos (k * a + (1 - k) * b) (show 0 < (n : Int) by omega)
    unfold K4 at h
    omega
  r1 a ha:=by
    have h:=X0 (k:=k) hn a a
    have e : k * (a : Int) + (1 - k) * a = a:=by grind
    unfold K4 at h
    rw [e, Int.emod_eq_of_lt (by omega) (by omega)] at h
    omega
  r2 x y b hx hy hb e:=by
    have h1:=X0 (k:=k) hn x b
    have h2:=X0 (k:=k) hn y b
    rw [e, h2] at h1
    unfold K4 at h1
    have:=Int.emod_eq_emod_iff_emod_sub_eq_zero.mp h1
    have hd : (n : Int) ∣ k * ((y : Int) - x):=by
      have:=Int.dvd_of_emod_eq_zero this
      have e2 : (k * (y : Int) + (1 - k) * b) - (k * x + (1 - k) * b) = k * ((y : Int) - x):=by grind
      rwa [e2] at this
    obtain ⟨z, hz⟩:=hk _ hd
    have hz1 : z < 1:=by
      apply Int.lt_of_mul_lt_mul_left (a:=(n : Int)) _ (by omega)
      omega
    have hz2 : -1 < z:=by
      apply Int.lt_of_mul_lt_mul_left (a:=(n : Int)) _ (by omega)
      omega
    have : z = 0:=by omega
    subst this
    omega
  r3 a b c _ _ _:=by
    have e1:=X0 (k:=k) hn a b
    have e2:=X0 (k:=k) hn a c
    have e3:=X0 (k:=k) hn b c
    have e4:=X0 (k:=k) hn (Fg k n a b) c
    have e5:=X0 (k:=k) hn (Fg k n a c) (Fg k n b c)
    have hh : K4 k n (Fg k n a b : Nat) c = K4 k n (Fg k n a c : Nat) (Fg k n b c : Nat):=by
      rw [e1, e2, e3]
      unfold K4
      have q1:=Int.emod_add_mul_ediv (k * (a : Int) + (1 - k) * b) n
      have q2:=Int.emod_add_mul_ediv (k * (a : Int) + (1 - k) * c) n
      have q3:=Int.emod_add_mul_ediv (k * (b : Int) + (1 - k) * c) n
      generalize (k * (a : Int) + (1 - k) * b) / n = d1 at q1
      generalize (k * (a : Int) + (1 - k) * c) / n = d2 at q2
      generalize (k * (b : Int) + (1 - k) * c) / n = d3 at q3
      generalize (k * (a : Int) + (1 - k) * b) % n = m1 at *
      generalize (k * (a : Int) + (1 - k) * c) % n = m2 at *
      generalize (k * (b : Int) + (1 - k) * c) % n = m3 at *
      refine Uo (z:=-k * d1 + k * d2 + (1 - k) * d3) ?_
      grind
    omega
theorem Ks {k : Int} {n : Nat} (h : Int.gcd k n = 1) (x : Int) (hd : (n : Int) ∣ k * x) : (n : Int) ∣ x:=by
  have h1:=Int.natAbs_dvd_natAbs.mpr hd
  rw [Int.natAbs_mul, Int.natAbs_natCast] at h1
  have h2 : Nat.Coprime n k.natAbs:=by
    have : Nat.gcd k.natAbs n = 1:=h
    rw [Nat.gcd_comm] at this
    exact this
  exact Int.natAbs_dvd_natAbs.mp (by rw [Int.natAbs_natCast]; exact h2.dvd_of_dvd_mul_left h1)
theorem UK {n : Nat} (x : Int) (hd : (n : Int) ∣ (-1) * x) : (n : Int) ∣ x:=by
  have : (-1) * x = -x:=by omega
  rw [this] at hd
  exact Int.dvd_neg.mp hd
theorem Qw (n : Nat) : GoodF n (fun a _=>a):=⟨⟨fun _ _ h _=>h, fun _ _ _ _ _ _ e=>e⟩, fun _ _=>rfl, fun _ _ _ _ _ _=>rfl⟩
theorem VV {n : Nat} {p : Nat -> Nat} (h1 : ∀ a, a < n -> p a < n) (h2 : ∀ a, a + 1 = n -> p a = a) (h3 : ∀ x y, x < n -> y < n -> p x = p y -> x = y) : GoodF n (fun a b=>if b + 1 = n then p a else a) where
  lt a b ha hb:=by
    show (if b + 1 = n then p a else a) < n
    split
    . exact h1 a ha
    . exact ha
  r1 a ha:=by
    show (if a + 1 = n then p a else a) = a
    split
    . next h=>exact h2 a h
    . rfl
  r2 x y b hx hy hb e:=by
    have e : (if b + 1 = n then p x else x) = if b + 1 = n then p y else y:=e
    by_cases h : b + 1 = n
    . rw [if_pos h, if_pos h] at e; exact h3 x y hx hy e
    . rw [if_neg h, if_neg h] at e; exact e
  r3 a b c ha hb hc:=by
    show (if c + 1 = n then p (if b + 1 = n then p a else a) else if b + 1 = n then p a else a) = if (if c + 1 = n then p b else b) + 1 = n then p (if c + 1 = n then p a else a) else if c + 1 = n then p a else a
    by_cases h : c + 1 = n
    . rw [if_pos h, if_pos h, if_pos h]
      by_cases g : b + 1 = n
      . rw [if_pos g, h2 b g, if_pos g]
      . rw [if_neg g, if_neg fun z => g ?_]
        have hp : p b = b:=by
          refine h3 _ _ (h1 b hb) hb (h2 _ z)
        rw [hp] at z
        exact z
    . rw [if_neg h, if_neg h, if_neg h]
theorem GC (n : Nat) : GoodF n (fun a b=>if 2 < n /\ a < 2 /\ b + 1 = n then 1 - a else a):=by
  by_cases hn : 2 < n
  . refine (VV (n := n) (p := fun a => if a < 2 then 1 - a else a) (fun a ha => ?_) (fun a ha => if_neg (by omega)) fun x y _ _ e => ?_).congr fun a b _ _ => ?_
    . show (if a < 2 then 1 - a else a) < n
      split
      . omega
      . exact ha
    . have e : (if x < 2 then 1 - x else x) = if y < 2 then 1 - y else y := e
      by_cases h : x < 2
      . by_cases g : y < 2
        . rw [if_pos h, if_pos g] at e; clear hn; omega
        . rw [if_pos h, if_neg g] at e; clear hn; omega
      . by_cases g : y < 2
        . rw [if_neg h, if_pos g] at e; clear hn; omega
        . rw [if_neg h, if_neg g] at e; exact e
    . show (if 2 < n /\ a < 2 /\ b + 1 = n then 1 - a else a) = if b + 1 = n then (if a < 2 then 1 - a else a) else a
      by_cases g : b + 1 = n
      . rw [if_pos g]
        by_cases h : a < 2
        . rw [if_pos h, if_pos ⟨hn, h, g⟩]
        . rw [if_neg h, if_neg fun z=>h z.2.1]
      . rw [if_neg g, if_neg fun z=>g z.2.2]
  . exact (Qw n).congr fun a b _ _=>if_neg fun z=>hn z.1
theorem Kq (n : Nat) : GoodF n (fun a b=>if a + 1 < n /\ b + 1 = n then (if a + 2 < n then a + 1 else 0) else a):=by
  refine (VV (n:=n) (p:=fun a=>if a + 1 < n then (if a + 2 < n then a + 1 else 0) else a) (fun a ha=>?_) (fun a ha=>if_neg (by omega)) fun x y hx hy e=>?_).congr fun a b _ _=>?_
  . show (if a + 1 < n then (if a + 2 < n then a + 1 else 0) else a) < n
    split
    . split
      . assumption
      . exact Nat.lt_of_le_of_lt (Nat.zero_le _) ha
    . exact ha
  . have e : (if x + 1 < n then (if x + 2 < n then x + 1 else 0) else x) = if y + 1 < n then (if y + 2 < n then y + 1 else 0) else y := e
    by_cases h : x + 1 < n
    . rw [if_pos h] at e
      by_cases g : y + 1 < n
      . rw [if_pos g] at e
        by_cases h' : x + 2 < n
        . rw [if_pos h'] at e
          by_cases g' : y + 2 < n
          . rw [if_pos g'] at e; exact Nat.succ.inj e
          . rw [if_neg g'] at e; exact nomatch e
        . rw [if_neg h'] at e
          by_cases g' : y + 2 < n
          . rw [if_pos g'] at e; exact nomatch e
          . clear e hx hy; omega
      . rw [if_neg g] at e
        by_cases h' : x + 2 < n
        . rw [if_pos h'] at e; clear hx hy h; omega
        . rw [if_neg h'] at e; clear hx hy h'; omega
    . rw [if_neg h] at e
      by_cases g : y + 1 < n
      . rw [if_pos g] at e
        by_cases h' : y + 2 < n
        . rw [if_pos h'] at e; clear hx hy g; omega
        . rw [if_neg h'] at e; clear hx hy h'; omega
      . rw [if_neg g] at e; exact e
  . show (if a + 1 < n /\ b + 1 = n then (if a + 2 < n then a + 1 else 0) else a) = if b + 1 = n then (if a + 1 < n then (if a + 2 < n then a + 1 else 0) else a) else a
    by_cases g : b + 1 = n
    . rw [if_pos g]
      by_cases h : a + 1 < n
      . rw [if_pos h, if_pos ⟨h, g⟩]
      . rw [if_neg h, if_neg fun z=>h z.1]
    . rw [if_neg g, if_neg fun z=>g z.2]
noncomputable def Jy (h : Nat) (f g : Nat -> Nat -> Nat) (a b : Nat) : Nat:=if a < h /\ b < h then f a b else if h <= a /\ h <= b then h + g (a - h) (b - h) else a
theorem Go {h m : Nat} {f g : Nat -> Nat -> Nat} (F : GoodF h f) (G : GoodF m g) : GoodF (h + m) (Jy h f g):=by
  have s1 : ∀ a b, a < h -> b < h -> Jy h f g a b = f a b:=fun a b ha hb=>by unfold Jy; rw [if_pos ⟨ha, hb⟩]
  have s2 : ∀ a b, Jy h f g (h + a) (h + b) = h + g a b:=fun a b=>by unfold Jy; rw [if_neg (by omega), if_pos (by omega), Nat.add_sub_cancel_left, Nat.add_sub_cancel_left]
  have s3 : ∀ a b, a < h -> Jy h f g a (h + b) = a:=fun a b ha=>by unfold Jy; rw [if_neg (by omega), if_neg (by omega)]
  have s4 : ∀ a b, b < h -> Jy h f g (h + a) b = h + a:=fun a b ha=>by unfold Jy; rw [if_neg (by omega), if_neg (by omega)]
  have up : ∀ a, h <= a -> ∃ a', a = h + a':=fun a ha=>⟨a - h, by omega⟩
  refine ⟨⟨fun a b ha hb=>?_, fun x y b hx hy hb e=>?_⟩, fun a ha=>?_, fun a b c ha hb hc=>?_⟩
  . by_cases h1 : a < h <;> by_cases h2 : b < h
    . rw [s1 a b h1 h2]; have:=F.lt a b h1 h2; omega
    . obtain ⟨b, rfl⟩:=up b (by omega); rw [s3 a b h1]; omega
    . obtain ⟨a, rfl⟩:=up a (by omega); rw [s4 a b h2]; omega
    . obtain ⟨a, rfl⟩ := up a (by omega); obtain ⟨b, rfl⟩ := up b (by omega)
      rw [s2]; have:=G.lt a b (by omega) (by omega); omega
  . by_cases h1 : x < h <;> by_cases h2 : y < h <;> by_cases h3 : b < h
    . rw [s1 _ _ h1 h3, s1 _ _ h2 h3] at e; exact F.r2 x y b h1 h2 h3 e
    . obtain ⟨b, rfl⟩:=up b (by omega); rw [s3 _ _ h1, s3 _ _ h2] at e; exact e
    . obtain ⟨y, rfl⟩:=up y (by omega); rw [s1 _ _ h1 h3, s4 _ _ h3] at e; have:=F.lt x b h1 h3; omega
    . obtain ⟨y, rfl⟩:=up y (by omega); obtain ⟨b, rfl⟩:=up b (by omega); rw [s3 _ _ h1, s2] at e; omega
    . obtain ⟨x, rfl⟩:=up x (by omega); rw [s4 _ _ h3, s1 _ _ h2 h3] at e; have:=F.lt y b h2 h3; omega
    . obtain ⟨x, rfl⟩:=up x (by omega); obtain ⟨b, rfl⟩:=up b (by omega); rw [s2, s3 _ _ h2] at e; omega
    . obtain ⟨x, rfl⟩:=up x (by omega); obtain ⟨y, rfl⟩:=up y (by omega); rw [s4 _ _ h3, s4 _ _ h3] at e; exact e
    . obtain ⟨x, rfl⟩ := up x (by omega); obtain ⟨y, rfl⟩ := up y (by omega); obtain ⟨b, rfl⟩ := up b (by omega)
      rw [s2, s2] at e
      rw [G.r2 x y b (by omega) (by omega) (by omega) (by omega)]
  . by_cases h1 : a < h
    . rw [s1 _ _ h1 h1, F.r1 a h1]
    . obtain ⟨a, rfl⟩:=up a (by omega); rw [s2, G.r1 a (by omega)]
  . by_cases h1 : a < h <;> by_cases h2 : b < h <;> by_cases h3 : c < h
    . rw [s1 a b h1 h2, s1 a c h1 h3, s1 b c h2 h3, s1 _ _ (F.lt a b h1 h2) h3, s1 _ _ (F.lt a c h1 h3) (F.lt b c h2 h3)]; exact F.r3 a b c h1 h2 h3
    . obtain ⟨c, rfl⟩ := up c (by omega)
      rw [s1 a b h1 h2, s3 a c h1, s3 b c h2, s3 _ c (F.lt a b h1 h2), s1 a b h1 h2]
    . obtain ⟨b, rfl⟩ := up b (by omega)
      rw [s3 a b h1, s4 b c h3, s1 a c h1 h3, s3 _ b (F.lt a c h1 h3)]
    . obtain ⟨b, rfl⟩ := up b (by omega); obtain ⟨c, rfl⟩ := up c (by omega)
      rw [s3 a b h1, s3 a c h1, s2 b c, s3 _ _ h1]
    . obtain ⟨a, rfl⟩ := up a (by omega)
      rw [s4 a b h2, s4 a c h3, s1 b c h2 h3, s4 _ _ (F.lt b c h2 h3)]
    . obtain ⟨a, rfl⟩ := up a (by omega); obtain ⟨c, rfl⟩ := up c (by omega)
      rw [s4 a b h2, s2 a c, s3 b c h2, s4 _ _ h2]
    . obtain ⟨a, rfl⟩ := up a (by omega); obtain ⟨b, rfl⟩ := up b (by omega)
      rw [s2 a b, s4 _ c h3, s4 a c h3, s4 b c h3, s2 a b]
    . obtain ⟨a, rfl⟩ := up a (by omega); obtain ⟨b, rfl⟩ := up b (by omega); obtain ⟨c, rfl⟩ := up c (by omega)
      rw [s2 a b, s2 a c, s2 b c, s2, s2, G.r3 a b c (by omega) (by omega) (by omega)]
noncomputable def Kk (way n k a b : Int) : Int:=
  if way = 1 then (2 * b - a) % n else if way = 2 then (k * a + (1 - k) * b) % n else if way = 3 /\ n > 2 /\ a < 2 /\ b = n - 1 then 1 - a else
  if way = 6 /\ a < n - 1 /\ b = n - 1 then (a + 1) % (n - 1) else if way = 4 /\ a < n / 2 /\ b < n / 2 then (2 * b - a) % (n / 2) else
  if way = 4 /\ a ≥ n / 2 /\ b ≥ n / 2 then n / 2 + (2 * b - a - n / 2) % (n - n / 2) else a
noncomputable def VI (way k : Int) (n a b : Nat) : Nat:=(Kk way n k a b).toNat
theorem Vh (n : Int) (a b : Int) : (2 * b - a) % n = K4 (-1) n a b:=by
  unfold K4
  congr 1
  omega
theorem GM {way k : Int} {n : Nat} (hn : 0 < n) (hk : Int.gcd k n = 1) : GoodF n (VI way k n) /\ ∀ a b, a < n -> b < n -> ((VI way k n a b : Nat) : Int) = Kk way n k a b:=by
  suffices h : ∃ f, GoodF n f /\ ∀ a b, a < n -> b < n -> ((f a b : Nat) : Int) = Kk way n k a b by
    obtain ⟨f, g, e⟩:=h
    have e2 : ∀ a b, a < n -> b < n -> VI way k n a b = f a b:=fun a b ha hb=>by unfold VI; rw [← e a b ha hb]; omega
    exact ⟨g.congr e2, fun a b ha hb=>by rw [e2 a b ha hb]; exact e a b ha hb⟩
  unfold Kk
  by_cases w1 : way = 1
  . refine ⟨_, J8 (k := -1) hn UK, fun a b ha hb => ?_⟩
    rw [if_pos w1, X0 hn, Vh]
  by_cases w2 : way = 2
  . refine ⟨_, J8 (k := k) hn (Ks hk), fun a b ha hb => ?_⟩
    rw [if_neg w1, if_pos w2, X0 hn]; rfl
  by_cases w3 : way = 3
  . refine ⟨_, GC n, fun a b ha hb => ?_⟩
    rw [if_neg w1, if_neg w2]
    by_cases c : 2 < n /\ a < 2 /\ b + 1 = n
    . rw [if_pos c, if_pos ⟨w3, by omega, by omega, by omega⟩]; omega
    . rw [if_neg c, if_neg (fun z=>c ⟨by omega, by omega, by omega⟩), if_neg (fun z=>by omega), if_neg (fun z=>by omega), if_neg (fun z=>by omega)]
  by_cases w6 : way = 6
  . refine ⟨_, Kq n, fun a b ha hb => ?_⟩
    have n3 : ¬ (way = 3 /\ (n : Int) > 2 /\ (a : Int) < 2 /\ (b : Int) = n - 1):=fun z=>w3 z.1
    by_cases c : a + 1 < n /\ b + 1 = n
    . have y6 : way = 6 /\ (a : Int) < n - 1 /\ (b : Int) = n - 1 := ⟨w6, by omega, by omega⟩
      rw [if_pos c, if_neg w1, if_neg w2, if_neg n3, if_pos y6]
      by_cases c2 : a + 2 < n
      . rw [if_pos c2, Int.emod_eq_of_lt (by omega) (by omega)]; omega
      . rw [if_neg c2]
        have : (a : Int) + 1 = (n : Int) - 1:=by omega
        rw [this, Int.emod_self]; rfl
    . rw [if_neg c, if_neg w1, if_neg w2, if_neg n3, if_neg (fun z=>c ⟨by omega, by omega⟩), if_neg (fun z=>by omega), if_neg (fun z=>by omega)]
  by_cases w4 : way = 4
  . have hh : ∀ m : Nat, 0 < m -> GoodF m (Fg (-1) m) := fun m hm => J8 hm UK
    by_cases h0 : n / 2 = 0
    . have hn1 : n = 1 := by omega
      subst hn1
      refine ⟨_, Qw 1, fun a b ha hb=>?_⟩
      have : a = 0:=by omega
      have : b = 0:=by omega
      subst a b
      rw [if_neg w1, if_neg w2, if_neg (fun z=>w3 z.1), if_neg (fun z=>w6 z.1), if_neg (fun z=>by omega), if_pos ⟨w4, by omega, by omega⟩]
      decide
    . have g := Go (hh (n / 2) (by omega)) (hh (n - n / 2) (by omega))
      rw [show n / 2 + (n - n / 2) = n by omega] at g
      refine ⟨_, g, fun a b ha hb=>?_⟩
      have hc : ((n / 2 : Nat) : Int) = (n : Int) / 2:=by omega
      rw [if_neg w1, if_neg w2, if_neg (fun z=>w3 z.1), if_neg (fun z=>w6 z.1)]
      unfold Jy
      by_cases c1 : a < n / 2 /\ b < n / 2
      . rw [if_pos c1, if_pos ⟨w4, by omega, by omega⟩, X0 (by omega), ← Vh, hc]
      . have m4 : ¬ (way = 4 /\ (a : Int) < (n : Int) / 2 /\ (b : Int) < (n : Int) / 2) := fun z => c1 ⟨by omega, by omega⟩
        rw [if_neg c1, if_neg m4]
        by_cases c2 : n / 2 <= a /\ n / 2 <= b
        . have y4 : way = 4 /\ (a : Int) ≥ (n : Int) / 2 /\ (b : Int) ≥ (n : Int) / 2 := ⟨w4, by omega, by omega⟩
          rw [if_pos c2, if_pos y4]
          have hm : (((n - n / 2 : Nat)) : Int) = (n : Int) - (n : Int) / 2:=by omega
          have:=X0 (k:=-1) (n:=n - n / 2) (by omega) (a - n / 2) (b - n / 2)
          rw [← Vh, hm] at this
          rw [show 2 * (b : Int) - a - (n : Int) / 2 = 2 * ((b - n / 2 : Nat) : Int) - ((a - n / 2 : Nat) : Int) by omega, ← this]
          omega
        . rw [if_neg c2, if_neg (fun z=>c2 ⟨by omega, by omega⟩)]
  refine ⟨_, Qw n, fun a b ha hb=>?_⟩
  rw [if_neg w1, if_neg w2, if_neg (fun z=>w3 z.1), if_neg (fun z=>w6 z.1), if_neg (fun z=>w4 z.1), if_neg (fun z=>w4 z.1)]
noncomputable def QG (a b : Nat) : Nat:=(([[0, 3, 1, 2], [2, 1, 3, 0], [3, 0, 2, 1], [1, 2, 0, 3]] : List (List Nat)).getD a []).getD b 0
theorem GJ : GoodF 4 QG:=by
  have h1 : ∀ a, a < 4 -> ∀ b, b < 4 -> QG a b < 4:=by decide +kernel
  have h2 : ∀ b, b < 4 -> ∀ x, x < 4 -> ∀ y, y < 4 -> QG x b = QG y b -> x = y:=by decide +kernel
  have h3 : ∀ a, a < 4 -> QG a a = a:=by decide +kernel
  have h4 : ∀ a, a < 4 -> ∀ b, b < 4 -> ∀ c, c < 4 -> QG (QG a b) c = QG (QG a c) (QG b c):=by decide +kernel
  exact ⟨⟨fun a b ha hb=>h1 a ha b hb, fun x y b hx hy hb=>h2 b hb x hx y hy⟩, h3, fun a b c ha hb hc=>h4 a ha b hb c hc⟩
theorem Dh : XX 4 QG = [[0, 3, 1, 2], [2, 1, 3, 0], [3, 0, 2, 1], [1, 2, 0, 3]]:=by decide +kernel
end My
namespace My
open PySem L2
theorem Q7 {n : Nat} {f : Nat -> Nat -> Nat} {a : Nat} (h : a < n) : atR (XX n f) (a : Int) = .ok (Zl n f a):=ZK (Y7 h)
theorem JU {n : Nat} {f : Nat -> Nat -> Nat} {a b : Nat} (h : b < n) : atR (Zl n f a) (b : Int) = .ok (f a b : Int):=ZK (Y0 h)
theorem Gi {α : Type} {as : List α} {i : Nat} {a : α} (h : i < as.length) : Uf as (i : Int) a = .ok (as.set i a):=by
  unfold Uf ixN
  rw [if_pos (by omega), if_pos (by omega)]
  simp
theorem CQ {n : Nat} {f : Nat -> Nat -> Nat} {a b v : Nat} : (Zl n f a).set b (v : Int) = Zl n (fun x y=>if x = a /\ y = b then v else f x y) a:=by
  apply List.ext_getElem?
  intro j
  by_cases hj : j < n
  . rw [Y0 hj]
    by_cases e : j = b
    . subst e; rw [List.getElem?_set_self (by rw [Yr]; exact hj)]; simp
    . rw [List.getElem?_set_ne (fun z=>e z.symm), Y0 hj]; simp [e]
  . rw [List.getElem?_eq_none (by rw [List.length_set, Yr]; omega), List.getElem?_eq_none (by rw [Yr]; omega)]
theorem CP {n : Nat} {f : Nat -> Nat -> Nat} {a b v : Nat} (ha : a < n) : (XX n f).set a ((Zl n f a).set b (v : Int)) = XX n (fun x y=>if x = a /\ y = b then v else f x y):=by
  apply List.ext_getElem?
  intro j
  by_cases hj : j < n
  . rw [Y7 hj]
    by_cases e : j = a
    . subst e; rw [List.getElem?_set_self (by rw [XJ]; exact hj), CQ]
    . rw [List.getElem?_set_ne (fun z => e z.symm), Y7 hj]
      congr 1
      exact Jt fun y _=>by simp [e]
  . rw [List.getElem?_eq_none (by rw [List.length_set, XJ]; omega), List.getElem?_eq_none (by rw [XJ]; omega)]
noncomputable def VM (n : Nat) (sp : List Int) (p q : Nat -> Nat) : Prop:=PermN n p q /\ sp = (List.range n).map fun i=>((p i : Nat) : Int)
theorem VM.get {n : Nat} {sp : List Int} {p q : Nat -> Nat} (h : VM n sp p q) {i : Nat} (hi : i < n) : atR sp (i : Int) = .ok ((p i : Nat) : Int):=ZK (by rw [h.2, List.getElem?_map, List.getElem?_range hi]; rfl)
theorem BC {as : List Int} {i : Nat} (h : i < as.length) (hl : as.length <= 100000) : Ft as (i : Int) = .ok (as[i], as.eraseIdx i):=by
  unfold Ft
  rw [X3 (by omega)]
  have e : seqIndex? (i : Int) as.length = some i:=by
    unfold seqIndex?
    have h0 : ¬ ((i : Int) < 0):=by omega
    simp [h0, h]
  rw [e]
  simp [h]
theorem F3 {n : Nat} {sp : List Int} (h : sp.Perm ((List.range n).map fun (i : Nat)=>(i : Int))) : ∃ p q, VM n sp p q:=by
  have hl : sp.length = n:=by have:=h.length_eq; simpa using this
  have hlt : ∀ i, i < n -> ∃ k : Nat, k < n /\ sp[i]? = some (k : Int):=fun i hi=>by
    have hm : sp[i]'(by omega) ∈ (List.range n).map fun (i : Nat)=>(i : Int):=h.mem_iff.mp (List.getElem_mem _)
    obtain ⟨k, hk, e⟩:=XL hm
    exact ⟨k, hk, by rw [List.getElem?_eq_getElem (by omega), e]⟩
  let p : Nat -> Nat:=fun i=>(sp[i]?.getD 0).toNat
  have hp : ∀ i, i < n -> p i < n /\ sp[i]? = some (p i : Int):=fun i hi=>by
    obtain ⟨k, hk, e⟩:=hlt i hi
    have : p i = k:=by simp [p, e]
    rw [this]; exact ⟨hk, e⟩
  have nd : sp.Nodup:=h.nodup_iff.mpr (by
    rw [List.nodup_iff_pairwise_ne, List.pairwise_map]
    exact List.nodup_range.imp fun {a b} h e=>h (by omega))
  obtain ⟨q, hq⟩:=Cv (n:=n) (p:=p) (fun a ha=>(hp a ha).1) fun a b ha hb e=>by
    have h1:=(hp a ha).2
    have h2:=(hp b hb).2
    rw [← e] at h2
    exact (List.getElem?_inj (by omega) nd).mp (h1.trans h2.symm)
  refine ⟨p, q, hq, ?_⟩
  apply List.ext_getElem?
  intro i
  by_cases hi : i < n
  . rw [(hp i hi).2, List.getElem?_map, List.getElem?_range hi]; rfl
  . rw [List.getElem?_eq_none (by omega), List.getElem?_eq_none (by simp; omega)]
theorem JJ : ∀ {as : List Int} {i : Nat} (h : i < as.length), (as[i] :: as.eraseIdx i).Perm as
  | a :: as, 0, _=>by simp
  | a :: as, i + 1, h=>by
    have:=JJ (as:=as) (i:=i) (by simpa using h)
    simp only [List.getElem_cons_succ, List.eraseIdx_cons_succ]
    exact (List.Perm.swap _ _ _).trans (this.cons a)
theorem Fr {α : Type} (as : List α) {k : Nat} (h : k <= as.length) : Gu as (some (k : Int)) none = as.drop k:=by
  unfold Gu
  rw [HT.sIx_nat, HT.sIx_none, Nat.min_eq_left h, List.take_of_length_le (by rw [List.length_drop]; omega)]
end My
namespace My
theorem mem_set {α : Type} : ∀ {l : List α} {j : Nat} {v x : α}, x ∈ l.set j v -> x ∈ l ∨ x = v
  | [], _, _, _, h=>by simp at h
  | a :: r, 0, v, x, h=>by
    rw [List.set_cons_zero] at h
    rcases List.mem_cons.mp h with h | h
    . exact .inr h
    . exact .inl (List.mem_cons_of_mem _ h)
  | a :: r, j + 1, v, x, h=>by
    rw [List.set_cons_succ] at h
    rcases List.mem_cons.mp h with h | h
    . exact .inl (by rw [h]; exact List.mem_cons_self)
    . rcases mem_set h with h | h
      . exact .inl (List.mem_cons_of_mem _ h)
      . exact .inr h
end My
namespace My
noncomputable def EA (S : Nat) : List Int:=(List.range S).map fun (k : Nat)=>(k : Int)
theorem F9 {S : Nat} {x : Int} : x ∈ EA S ↔ 0 <= x /\ x < (S : Int):=by
  unfold EA
  rw [List.mem_map]
  constructor
  . rintro ⟨k, hk, rfl⟩
    have:=List.mem_range.mp hk
    omega
  . rintro ⟨h0, h1⟩
    exact ⟨x.toNat, List.mem_range.mpr (by omega), by omega⟩
theorem Qg {α β : Type} {f : α -> β} : ∀ {l : List α}, (∀ a b, a ∈ l -> b ∈ l -> f a = f b -> a = b) -> l.Nodup -> (l.map f).Nodup
  | [], _, _=>List.nodup_nil
  | a :: r, h, nd=>by
    rw [List.map_cons, List.nodup_cons]
    refine ⟨fun m=>?_, Qg (fun x y hx hy=>h x y (List.mem_cons_of_mem _ hx) (List.mem_cons_of_mem _ hy)) (List.nodup_cons.mp nd).2⟩
    obtain ⟨b, hb, e⟩:=List.mem_map.mp m
    have:=h b a (List.mem_cons_of_mem _ hb) List.mem_cons_self e
    exact (List.nodup_cons.mp nd).1 (by rw [← this]; exact hb)
theorem KE (S : Nat) : (EA S).Nodup:=Qg (fun a b _ _ e=>by omega) List.nodup_range
theorem JI {α : Type} [DecidableEq α] : ∀ {l m : List α}, l.Nodup -> m.Nodup -> (∀ x, x ∈ l ↔ x ∈ m) -> l.Perm m
  | [], m, _, _, h=>by
    cases m with
    | nil=>exact List.Perm.refl _
    | cons a r=>exact absurd ((h a).mpr List.mem_cons_self) (by simp)
  | a :: r, m, nl, nm, h=>by
    have ha : a ∈ m:=(h a).mp List.mem_cons_self
    have hp : m.Perm (a :: m.erase a):=List.perm_cons_erase ha
    refine List.Perm.trans (List.Perm.cons a ?_) hp.symm
    have nd2 : (a :: m.erase a).Nodup:=hp.nodup_iff.mp nm
    refine JI (List.nodup_cons.mp nl).2 (List.nodup_cons.mp nd2).2 fun x=>?_
    constructor
    . intro hx
      have hxa : x ≠ a:=fun e=>(List.nodup_cons.mp nl).1 (by rw [← e]; exact hx)
      have : x ∈ a :: m.erase a:=hp.mem_iff.mp ((h x).mp (List.mem_cons_of_mem _ hx))
      exact (List.mem_cons.mp this).resolve_left hxa
    . intro hx
      have hxa : x ≠ a:=fun e=>(List.nodup_cons.mp nd2).1 (e ▸ hx)
      have : x ∈ a :: r:=(h x).mpr (hp.mem_iff.mpr (List.mem_cons_of_mem _ hx))
      exact (List.mem_cons.mp this).resolve_left hxa
end My
namespace My
structure Done (S : Int) (seen : List Bool) (ps : List Int) : Prop where
  nd : ps.Nodup
  at' : ∀ p ∈ ps, 0 <= p /\ p < S /\ seen[p.toNat]? = some true
  of : ∀ q : Nat, seen[q]? = some true -> (q : Int) ∈ ps
theorem Done.none (S : Int) (n : Nat) : Done S (List.replicate n false) []:=
  ⟨List.nodup_nil, fun p h=>by simp at h, fun q h=>by
    rw [List.getElem?_replicate] at h
    split at h <;> cases h⟩
theorem FW {l : List Bool} {j q : Nat} (h : l[q]? = some true) : (l.set j true)[q]? = some true:=by
  by_cases e : j = q
  . subst e
    rw [List.getElem?_set_self (List.getElem?_eq_some_iff.mp h).1]
  . rw [List.getElem?_set_ne e]; exact h
theorem Done.snoc {S : Int} {seen : List Bool} {ps : List Int} {a : Int} (h : Done S seen ps) (a0 : 0 <= a) (a1 : a < S) (e : seen[a.toNat]? = some false) : Done S (seen.set a.toNat true) (ps ++ [a]):=by
  have hl : a.toNat < seen.length:=(List.getElem?_eq_some_iff.mp e).1
  have hn : a ∉ ps:=fun m=>by
    have:=(h.at' a m).2.2
    rw [e] at this; cases this
  refine ⟨?_, fun p hp=>?_, fun q hq=>?_⟩
  . rw [List.nodup_append]
    refine ⟨h.nd, by simp, fun x hx y hy=>?_⟩
    rw [List.mem_singleton.mp hy]
    exact fun e=>hn (e ▸ hx)
  . rcases List.mem_append.mp hp with hp | hp
    . obtain ⟨h1, h2, h3⟩ := h.at' p hp
      exact ⟨h1, h2, FW h3⟩
    . rw [List.mem_singleton.mp hp]
      exact ⟨a0, a1, by rw [List.getElem?_set_self hl]⟩
  . by_cases hqa : a.toNat = q
    . exact List.mem_append_right _ (List.mem_singleton.mpr (by omega))
    . rw [List.getElem?_set_ne hqa] at hq
      exact List.mem_append_left _ (h.of q hq)
theorem Done.all {S : Int} {seen : List Bool} {ps : List Int} (h : Done S seen ps) (hl : seen.length = S.toNat) (h0 : 0 <= S) (ha : ∀ q : Nat, q < S.toNat -> seen[q]? = some true) : ps.Perm (EA S.toNat):=by
  refine JI h.nd (KE _) fun x=>?_
  rw [F9]
  constructor
  . intro hx
    obtain ⟨h1, h2, _⟩:=h.at' x hx
    omega
  . rintro ⟨x0, x1⟩
    have:=h.of x.toNat (ha x.toNat (by omega))
    rw [show ((x.toNat : Nat) : Int) = x by omega] at this
    exact this
end My
namespace My
open PySem L2
theorem KQ (ns : List Int) {p : Int} (hp : 0 <= p) : ∃ c, QX ns p = .ok c:=by
  unfold QX
  simp only [Res.okb]
  by_cases h : p < (ns.length : Int)
  . rw [decide_eq_true h, if_pos rfl]
    have hl : p.toNat < ns.length:=by omega
    exact ⟨ns[p.toNat], BF hp (by simp [hl])⟩
  . rw [decide_eq_false h, if_neg Bool.false_ne_true]
    obtain ⟨g, e, _⟩:=UY (as:=Gu ns none (some 63)) (g:=(5 : Int)) (f:=fun g15 a17=>(Res.bind (Res.bind (Res.bind (Res.bind (Ue g15 48271) fun x25=>(Res.bind (QT a17 1000003) fun x26=>(Res.ok (x25 + x26)))) fun x27=>Res.ok (x27 + 1)) fun x29=>QT x29 2147483647) fun a19=>(Res.ok (a19)))) (fun _ _=>True) True.intro fun i a g _ _=>by
      rw [Ja (by decide) (by decide), Res.ok_bind, Yx (by decide), Res.ok_bind, Res.ok_bind, Res.ok_bind, Yx (by decide), Res.ok_bind]
      exact ⟨_, rfl, True.intro⟩
    rw [e, Res.ok_bind, Ju (by decide) (by decide), Res.ok_bind, Res.ok_bind, Yx (by decide)]
    exact ⟨_, rfl⟩
theorem DG (c : Int) {k : Int} (h0 : 0 <= k) (h1 : k <= 100000) : ∃ y, Ul c k = .ok y /\ 0 <= y:=by
  unfold Ul
  simp only [Res.okb]
  have hm : 0 <= c % 2147483629 /\ c % 2147483629 < 2147483629:=⟨Int.emod_nonneg _ (by decide), Int.emod_lt_of_pos _ (by decide)⟩
  rw [Yx (by decide), Res.ok_bind, Ju (by decide) (by decide), Res.ok_bind, Res.ok_bind, Res.ok_bind, Dz (by decide) (by decide) (by omega) (by omega), Res.ok_bind, Yx (by decide), Res.ok_bind]
  rw [Ja (by decide) (by decide), Res.ok_bind, Ju (by decide) (by decide), Res.ok_bind, Ja (by omega) (by omega), Res.ok_bind, Res.ok_bind, Res.ok_bind, Yx (by decide), Res.ok_bind, G9 (by decide) (by decide)]
  exact ⟨_, rfl, Int.ediv_nonneg (Int.emod_nonneg _ (by decide)) (by decide)⟩
theorem Du (ns : List Int) {p : Int} (hp : 0 <= p) (sizes : List Int) (hl : sizes.length <= 100000) (hs : ∀ x ∈ sizes, 0 < x /\ x < 2 ^ 250) :
    Ok (V0 ns p sizes) fun r=>r.length = sizes.length /\ ∀ (i : Nat) x s, r[i]? = some x -> sizes[i]? = some s -> 0 <= x /\ x < s:=by
  obtain ⟨c, ec⟩:=KQ ns hp
  unfold V0
  simp only [Res.okb]
  rw [ec, show noE (Res.ok c) = .ok c from rfl, Res.ok_bind, Jf (by omega), Res.ok_bind, Dz (by decide) (by decide) (by decide) (by decide)]
  simp only [Res.okb]
  have key : ∀ (i : Nat) (a : Int) (g : List Int × Int), ((List.range sizes.length).map fun (i : Nat)=>(i : Int))[i]? = some a -> (g.1.length = i /\ ∀ (j : Nat) x s, g.1[j]? = some x -> sizes[j]? = some s -> 0 <= x /\ x < s) -> ∀ y z : Int, ∀ s, sizes[i]? = some s -> 0 <= y /\ y < s -> ((g.1 ++ [y], z).1.length = i + 1 /\ ∀ (j : Nat) x s, (g.1 ++ [y], z).1[j]? = some x -> sizes[j]? = some s -> 0 <= x /\ x < s):=by
    intro i a g ha ⟨hg, hq⟩ y z s hs1 hy
    refine ⟨by simp [hg], fun j x s' hx hs'=>?_⟩
    have hx : (g.1 ++ [y])[j]? = some x:=hx
    rcases Nat.lt_trichotomy j i with hj | hj | hj
    . rw [List.getElem?_append_left (by omega)] at hx; exact hq j x s' hx hs'
    . subst hj
      rw [List.getElem?_append_right (by omega), hg, Nat.sub_self] at hx
      have : y = x:=by simpa using hx
      rw [hs1] at hs'
      cases hs'
      rw [← this]; exact hy
    . rw [List.getElem?_eq_none (by simp; omega)] at hx; cases hx
  refine Ok.bind (Ok.forN (fun i (g : List Int × Int)=>g.1.length = i /\ ∀ (j : Nat) x s, g.1[j]? = some x -> sizes[j]? = some s -> 0 <= x /\ x < s) ⟨rfl, fun j x s h _=>by simp at h⟩ fun i a g ha hg=>?_) (T:=fun (r : List Int)=>r.length = sizes.length /\ ∀ (i : Nat) x s, r[i]? = some x -> sizes[i]? = some s -> 0 <= x /\ x < s) fun g ⟨hg, hq⟩=>?_
  . obtain ⟨rfl, hi⟩ := Qf ha
    have hsz : sizes[i]? = some sizes[i]:=by simp [hi]
    have hsp:=hs _ (List.getElem_mem hi)
    have hgl : g.1.length < sizeLine:=E3 (by have:=hg.1; omega)
    by_cases hc : c < 10 ^ (18 : Int).toNat
    . rw [decide_eq_true hc, if_pos rfl]
      obtain ⟨y, ey, hy⟩:=DG c (k:=(i : Int)) (by omega) (by omega)
      rw [ey, show noE (Res.ok y) = .ok y from rfl, Res.ok_bind, ZK hsz, Res.ok_bind, Yx hsp.1, Res.ok_bind, X3 hgl]
      exact ⟨_, rfl, key i _ g ha hg _ _ _ hsz ⟨Int.emod_nonneg _ (by omega), Int.emod_lt_of_pos _ hsp.1⟩⟩
    . rw [decide_eq_false hc, if_neg Bool.false_ne_true]
      by_cases hq : 0 < g.2
      . rw [decide_eq_true hq, if_pos rfl, ZK hsz, Res.ok_bind, Yx hsp.1, Res.ok_bind, X3 hgl]
        simp only [Res.okb]
        rw [G9 hsp.1 hsp.2]
        exact ⟨_, rfl, key i _ g ha hg _ _ _ hsz ⟨Int.emod_nonneg _ (by omega), Int.emod_lt_of_pos _ hsp.1⟩⟩
      . rw [decide_eq_false hq, if_neg Bool.false_ne_true, Yx (by decide), Res.ok_bind]
        obtain ⟨c2, ec2⟩:=KQ ns (p:=(p + 1 + (i : Int)) % 63) (Int.emod_nonneg _ (by decide))
        obtain ⟨y, ey, hy⟩:=DG c2 (k:=(i : Int)) (by omega) (by omega)
        rw [ec2, show noE (Res.ok c2) = .ok c2 from rfl, Res.ok_bind, ey, show noE (Res.ok y) = .ok y from rfl, Res.ok_bind, ZK hsz, Res.ok_bind, Yx hsp.1, Res.ok_bind, X3 hgl]
        exact ⟨_, rfl, key i _ g ha hg _ _ _ hsz ⟨Int.emod_nonneg _ (by omega), Int.emod_lt_of_pos _ hsp.1⟩⟩
  . rw [ZL] at hg
    exact ⟨g.1, rfl, hg, hq⟩
end My
namespace My
open PySem L2
theorem Q4 {α : Type} {r : List α} {k : Int} {n : Nat} (e : k = (n : Int)) (h : n < r.length) : atR r k = .ok r[n]:=by
  subst e; exact ZK (by simp [h])
theorem Vn {γ : Type} {c : γ -> Res Bool} {f : γ -> Res γ} (P : γ -> Prop) (μ : γ -> Nat) (hs : ∀ g, P g -> ∃ b, c g = .ok b /\ (b = true -> Ok (f g) fun g'=>P g' /\ μ g' < μ g)) : ∀ (n : Nat) (g : γ), P g -> μ g < n -> Ok (QE n g c f) fun g'=>P g' /\ c g' = .ok false
  | 0, _, _, h=>by omega
  | n + 1, g, hp, hm=>by
    obtain ⟨b, hb, h⟩:=hs g hp
    show Ok ((c g).bind _) _
    rw [hb, Res.okb]
    cases b with
    | false=>rw [if_neg Bool.false_ne_true]; exact ⟨g, rfl, hp, hb⟩
    | true=>
      rw [if_pos rfl]
      exact Ok.bind (h rfl) fun g' h'=>Vn P μ hs n g' h'.1 (by omega)
end My
namespace My
open PySem L2
theorem Kl {r : List Int} {n : Nat} (hn : n <= 1000) (hr : n <= r.length) : Ok (Zm r (n : Int)) fun sp=>∃ p q, VM n sp p q:=by
  unfold Zm
  simp only [Res.okb]
  rw [X3 (by omega)]
  simp only [Res.okb]
  rw [Jf (by omega)]
  simp only [Res.okb]
  have e0 : Zb 0 (n : Int) = (List.range n).map fun (i : Nat)=>(i : Int):=by
    unfold Zb
    rw [Int.sub_zero, Int.toNat_natCast]
    exact List.map_congr_left fun i _=>by omega
  refine Ok.bind (Ok.forN (fun i (g : List Int × List Int)=>g.1.length = i /\ (g.1 ++ g.2).Perm ((List.range n).map fun (i : Nat)=>(i : Int))) ⟨rfl, by rw [e0]; exact List.Perm.refl _⟩ fun i a g ha hg=>?_) fun g hg=>?_
  . obtain ⟨rfl, hi⟩ := Qf ha
    obtain ⟨h1, h2⟩:=hg
    have hl:=h2.length_eq
    simp only [List.length_append, List.length_map, List.length_range] at hl
    have hri : r[i]? = some r[i]:=by simp [show i < r.length by omega]
    have hpos : (0 : Int) < (g.2.length : Int):=by omega
    have hm1:=Int.emod_nonneg r[i] (show (g.2.length : Int) ≠ 0 by omega)
    have hm2:=Int.emod_lt_of_pos r[i] hpos
    rw [ZK hri, Res.okb, Yx hpos, Res.okb]
    generalize hk : r[i] % (g.2.length : Int) = k at hm1 hm2
    obtain ⟨j, rfl⟩ : ∃ j : Nat, k = j:=⟨k.toNat, by omega⟩
    have hj : j < g.2.length:=by omega
    rw [BC hj (by omega), Res.okb, X3 (E3 (by omega))]
    refine ⟨_, rfl, by simp [h1], ?_⟩
    refine List.Perm.trans ?_ h2
    show ((g.1 ++ [g.2[j]]) ++ g.2.eraseIdx j).Perm (g.1 ++ g.2)
    rw [List.append_assoc]
    exact (JJ hj).append_left _
  . obtain ⟨h1, h2⟩ := hg
    rw [ZL] at h1
    have hl:=h2.length_eq
    simp only [List.length_append, List.length_map, List.length_range] at hl
    have : g.2 = []:=List.length_eq_zero_iff.mp (by omega)
    rw [this, List.append_nil] at h2
    exact ⟨_, rfl, F3 h2⟩
theorem K7 {n : Nat} {f : Nat -> Nat -> Nat} {sp : List Int} {p q : Nat -> Nat} (hn : n <= 1000) (hf : ∀ a b, a < n -> b < n -> f a b < n) (hp : VM n sp p q) : ZU (XX n f) sp = .ok (XX n fun x y=>p (f (q x) (q y))):=by
  have P:=hp.1
  unfold ZU
  simp only [Res.okb]
  rw [Ur (h:=fun a=>a) (sz (by rw [XJ]; omega)) fun a _=>rfl, Res.okb]
  simp only [List.map_id', XJ]
  rw [Jf (by omega), Res.okb]
  apply Ok.eq
  refine Ok.bind (Ok.forN (fun i g=>g = XX n fun x y=>if q x < i then p (f (q x) (q y)) else f x y) (YU fun x y _ _=>by simp) fun i a g ha hg=>?_) fun g hg=>⟨g, rfl, ?_⟩
  . obtain ⟨rfl, hi⟩ := Qf ha
    subst hg
    simp only [Res.okb]
    refine Ok.bind (Ok.forN (fun j g=>g = XX n fun x y=>if q x < i ∨ (q x = i /\ q y < j) then p (f (q x) (q y)) else f x y) (YU fun x y _ _=>by simp) fun j b g hb hg=>?_) fun g hg=>⟨g, rfl, ?_⟩
    . obtain ⟨rfl, hj⟩ := Qf hb
      subst hg
      have hv:=hf i j hi hj
      rw [Q7 hi, Res.okb, JU hj, Res.okb, hp.get hv, Res.okb, hp.get hi, Res.okb, Q7 (P.lt i hi), Res.okb, hp.get hj, Res.okb, Gi (by rw [Yr]; exact P.lt j hj), Res.okb, Gi (by rw [XJ]; exact P.lt i hi), Res.okb]
      refine ⟨_, rfl, ?_⟩
      rw [CP (P.lt i hi)]
      refine YU fun x y hx hy=>?_
      by_cases e : x = p i /\ y = p j
      . rw [if_pos e, e.1, e.2, P.qp i hi, P.qp j hj, if_pos (by omega)]
      . rw [if_neg e]
        have : ¬ (q x = i /\ q y = j):=fun ⟨e1, e2⟩=>e ⟨by rw [← e1, P.pq x hx], by rw [← e2, P.pq y hy]⟩
        by_cases c : q x < i ∨ (q x = i /\ q y < j)
        . rw [if_pos c, if_pos (by omega)]
        . rw [if_neg c, if_neg (by omega)]
    . subst hg
      rw [ZL]
      refine YU fun x y hx hy=>?_
      have:=P.qlt y hy
      by_cases c : q x < i + 1
      . rw [if_pos c, if_pos (by omega)]
      . rw [if_neg c, if_neg (by omega)]
  . subst hg
    rw [ZL]
    exact YU fun x y hx hy=>by rw [if_pos (P.qlt x hx)]
end My
namespace My
open PySem L2
theorem J5 (a b : Bool) : QW (.ok a) (.ok b) = .ok (a && b):=Dy fun _=>rfl
theorem KD {way k : Int} {n a b : Nat} (hn : 0 < n) (h1 : n <= 1000) (ha : a < n) (hb : b < n) : Y2 way (n : Int) k (a : Int) (b : Int) = .ok (Kk way n k a b):=by
  unfold Y2 Kk
  simp only [Res.okb, J5, Bool.and_eq_true, decide_eq_true_eq, gt_iff_lt, ge_iff_le]
  rw [G9 (by decide) (by decide)]
  simp only [Res.okb, J5, Bool.and_eq_true, decide_eq_true_eq]
  rw [Ju (a:=2) (by decide) (by decide), Ja (a:=k) (by omega) (by omega), Ja (a:=1 - k) (by omega) (by omega)]
  simp only [Res.okb]
  by_cases c1 : way = 1
  . rw [if_pos c1, if_pos c1]; exact Yx (by omega)
  rw [if_neg c1, if_neg c1]
  by_cases c2 : way = 2
  . rw [if_pos c2, if_pos c2]; exact Yx (by omega)
  rw [if_neg c2, if_neg c2]
  by_cases c3 : way = 3 /\ 2 < (n : Int) /\ (a : Int) < 2 /\ (b : Int) = (n : Int) - 1
  . rw [if_pos c3, if_pos c3]
  rw [if_neg c3, if_neg c3]
  by_cases c4 : way = 6 /\ (a : Int) < (n : Int) - 1 /\ (b : Int) = (n : Int) - 1
  . rw [if_pos c4, if_pos c4]; exact Yx (by omega)
  rw [if_neg c4, if_neg c4]
  by_cases c5 : way = 4 /\ (a : Int) < (n : Int) / 2 /\ (b : Int) < (n : Int) / 2
  . rw [if_pos c5, if_pos c5]; exact Yx (by omega)
  rw [if_neg c5, if_neg c5]
  by_cases c6 : way = 4 /\ (n : Int) / 2 <= (a : Int) /\ (n : Int) / 2 <= (b : Int)
  . rw [if_pos c6, if_pos c6, Yx (by omega), Res.okb]
  rw [if_neg c6, if_neg c6]
theorem Ua (x y : Int) : ZT x y = .ok (Int.gcd x y : Int):=by
  unfold ZT
  simp only [Res.okb]
  apply Ok.eq
  refine Ok.bind (Vn (fun g : Int × Int=>∃ u v : Nat, g = ((u : Int), (v : Int)) /\ Nat.gcd u v = Int.gcd x y) (fun g=>g.2.toNat) (fun g hg=>?_) _ ((x.natAbs : Int), (y.natAbs : Int)) ⟨x.natAbs, y.natAbs, rfl, rfl⟩ ?_) fun g hg=>?_
  . obtain ⟨u, v, rfl, h⟩ := hg
    refine ⟨_, rfl, fun c=>?_⟩
    have c' : (0 : Int) < (v : Int):=of_decide_eq_true c
    show Ok ((QT (u : Int) (v : Int)).bind _) _
    rw [Yx c', Res.okb]
    refine ⟨_, rfl, ⟨v, u % v, by rw [Int.natCast_emod], ?_⟩, ?_⟩
    . rw [← h, Nat.gcd_comm u v, Nat.gcd_rec v u, Nat.gcd_comm]
    . show ((u : Int) % (v : Int)).toNat < ((v : Int)).toNat
      have:=Int.emod_lt_of_pos (u : Int) c'
      have:=Int.emod_nonneg (u : Int) (show (v : Int) ≠ 0 by omega)
      omega
  . show ((y.natAbs : Int)).toNat < _
    omega
  . obtain ⟨⟨u, v, rfl, h⟩, hc⟩ := hg
    have hc' : ¬ (0 : Int) < (v : Int):=by
      have:=Res.ok.inj hc
      simpa using this
    have : v = 0:=by omega
    subst this
    rw [Nat.gcd_zero_right] at h
    exact ⟨_, rfl, by show (u : Int) = _; rw [h]⟩
theorem Co {n : Nat} {t z : Int} (h : t = 1 + (n : Int) * z) : Int.gcd t n = 1:=by
  have h1 : ((Int.gcd t n : Nat) : Int) ∣ t:=Int.gcd_dvd_left ..
  have h2 : ((Int.gcd t n : Nat) : Int) ∣ (n : Int):=Int.gcd_dvd_right ..
  have h3 : ((Int.gcd t n : Nat) : Int) ∣ 1:=by
    have : (1 : Int) = t - (n : Int) * z:=by omega
    rw [this]
    exact Int.dvd_sub h1 (Int.dvd_trans h2 (Int.dvd_mul_right ..))
  have h4:=Int.eq_one_of_dvd_one (by omega) h3
  omega
theorem DT {way k : Int} {n : Nat} (hn : 0 < n) (h1 : n <= 1000) : Ok (JR way (n : Int) k) fun t=>∃ f, GoodF n f /\ t = XX n f:=by
  unfold JR
  simp only [Res.okb, J5, Bool.and_eq_true, decide_eq_true_eq]
  by_cases c5 : way = 5 /\ (n : Int) = 4
  . rw [if_pos c5]
    have hn : n = 4:=by omega
    subst hn
    exact ⟨[[0, 3, 1, 2], [2, 1, 3, 0], [3, 0, 2, 1], [1, 2, 0, 3]], rfl, QG, GJ, Dh.symm⟩
  rw [if_neg c5]
  have ht:=Int.emod_add_mul_ediv (1 - k) (n : Int)
  have ht0:=Int.emod_nonneg (1 - k) (show (n : Int) ≠ 0 by omega)
  have ht1:=Int.emod_lt_of_pos (1 - k) (show (0 : Int) < (n : Int) by omega)
  generalize hq : (1 - k) % (n : Int) = m at ht ht0 ht1
  have hcop : Int.gcd (k + m) n = 1:=Co (z:=-((1 - k) / (n : Int))) (by rw [Int.mul_neg]; omega)
  refine Ok.bind (Vn (fun g : Int=>k <= g /\ g <= k + m) (fun g=>(k + m - g).toNat) (fun g hg=>?_) _ k ⟨Int.le_refl _, by omega⟩ ?_) fun g hg=>?_
  . rw [Ua, YD, Res.okb]
    refine ⟨_, rfl, fun c=>?_⟩
    have hne : g ≠ k + m:=fun e=>by
      rw [e, hcop] at c
      exact absurd c (by decide)
    refine ⟨_, rfl, ⟨by omega, by omega⟩, ?_⟩
    show (k + m - (g + 1)).toNat < (k + m - g).toNat
    omega
  . show (k + m - k).toNat < _
    omega
  . obtain ⟨_, hc⟩ := hg
    rw [Ua, YD, Res.okb] at hc
    have hg1 : Int.gcd g n = 1:=by
      have:=Res.ok.inj hc
      simp at this
      omega
    obtain ⟨gd, hce⟩:=GM (way:=way) (k:=g) (n:=n) hn hg1
    refine ⟨XX n (VI way g n), ?_, _, gd, rfl⟩
    rw [Jf (by omega), Res.okb]
    have hrow : ∀ a : Nat, a < n -> UI ((List.range n).map fun (i : Nat)=>(i : Int)) (fun b=>noE (Y2 way (n : Int) g (a : Int) b)) = .ok (Zl n (VI way g n) a):=fun a ha=>by
      rw [Ur (h:=fun x=>((VI way g n a x.toNat : Nat) : Int)) (sz (by simp; omega)) fun x hx=>?_]
      . rw [List.map_map]; rfl
      . obtain ⟨b, hb, rfl⟩ := XL hx
        rw [KD hn h1 ha hb, YD, Int.toNat_natCast, hce a b ha hb]
    rw [Jl (h:=fun x=>Zl n (VI way g n) x.toNat) (sz (by simp; omega)) fun l hl x hx=>?_]
    . rw [Res.okb, List.nil_append, List.map_map]; rfl
    . obtain ⟨a, ha, rfl⟩ := XL hx
      rw [Res.okb, hrow a ha, Res.okb, X3 hl, Int.toNat_natCast]
end My
namespace My
open PySem L2
theorem Db (ns : List Int) {p : Int} (hp : 0 <= p) {most : Nat} (h0 : 0 < most) (hm : most <= 24) : Ok (Z7 ns p (most : Int)) fun t=>∃ n f, 0 < n /\ n <= most /\ GoodF n f /\ t = XX n f:=by
  unfold Z7
  simp only [Res.okb]
  rw [X3 (sz (by simp))]
  simp only [Res.okb]
  rw [X3 (sz (by simp))]
  simp only [Res.okb]
  rw [show BP [(24 : Int)] 24 = .ok (List.replicate 24 24) from rfl]
  simp only [Res.okb]
  rw [show DS [(7 : Int), 24, 6, 2] (List.replicate 24 24) = .ok ([(7 : Int), 24, 6, 2] ++ List.replicate 24 24) from X3 (sz (by simp))]
  simp only [Res.okb]
  refine Ok.bind (Ok.noE (Du ns hp _ (by simp) fun x hx=>?_)) fun r hr=>?_
  . rw [List.mem_append] at hx
    rcases hx with h | h
    . simp only [List.mem_cons, List.not_mem_nil, or_false] at h
      rcases h with rfl | rfl | rfl | rfl <;> decide
    . rw [(List.mem_replicate.mp h).2]; decide
  obtain ⟨hl, hv⟩:=hr
  have hl' : r.length = 28:=by rw [hl]; simp
  clear hl hv
  rw [Q4 (r:=r) (k:=0) (n:=0) rfl (by omega), Q4 (r:=r) (k:=1) (n:=1) rfl (by omega), Q4 (r:=r) (k:=2) (n:=2) rfl (by omega), Q4 (r:=r) (k:=3) (n:=3) rfl (by omega)]
  simp only [Res.okb, J5]
  rw [Yx (by omega)]
  simp only [Res.okb]
  have a0:=Int.emod_nonneg r[1] (show (most : Int) ≠ 0 by omega)
  have a1:=Int.emod_lt_of_pos r[1] (show (0 : Int) < (most : Int) by omega)
  obtain ⟨s, es⟩ : ∃ s : Int, s = (1 : Int) + r[1] % (most : Int):=⟨_, rfl⟩
  rw [← es]
  have hs : 0 < s /\ s <= (most : Int):=by omega
  clear es
  obtain ⟨n, rfl⟩ : ∃ n : Nat, s = (n : Int):=⟨s.toNat, by omega⟩
  refine Ok.bind (Ok.noE (DT (by omega) (by omega))) fun t ht=>?_
  obtain ⟨f, gd, rfl⟩:=ht
  refine Ok.ite (fun _=>⟨_, rfl, n, f, by omega, by omega, gd, rfl⟩) fun _=>?_
  rw [show Gu r (some 4) none = r.drop 4 from Fr r (k:=4) (by omega)]
  refine Ok.bind (Ok.noE (Kl (by omega) (by rw [List.length_drop]; omega))) fun sp hsp=>?_
  obtain ⟨q, q', hq⟩:=hsp
  rw [K7 (by omega) gd.lt hq, YD]
  exact ⟨_, rfl, n, _, by omega, by omega, hq.1.good gd, rfl⟩
end My
namespace My
open PySem L2
section
variable {n : Nat}
theorem J3 {α β : Type} {f : α -> β} : ∀ {l : List α}, (∀ a b, a ∈ l -> b ∈ l -> f a = f b -> a = b) -> l.Nodup -> (l.map f).Nodup
  | [], _, _=>List.nodup_nil
  | x :: l, h, hn=>by
    have h2:=List.nodup_cons.mp hn
    refine List.nodup_cons.mpr ⟨fun hm=>?_, J3 (fun a b ha hb=>h a b (.tail _ ha) (.tail _ hb)) h2.2⟩
    obtain ⟨y, hy, e⟩:=List.mem_map.mp hm
    exact h2.1 ((h y x (.tail _ hy) (.head _) e) ▸ hy)
theorem KI {α : Type} [DecidableEq α] : ∀ {l m : List α}, l.Nodup -> (∀ x ∈ l, x ∈ m) -> l.length <= m.length
  | [], m, _, _=>Nat.zero_le _
  | x :: l, m, h, hs=>by
    have hx:=hs x (.head _)
    have h2:=List.nodup_cons.mp h
    have:=KI (l:=l) (m:=m.erase x) h2.2 fun y hy=>(List.mem_erase_of_ne fun e=>h2.1 (by rw [← e]; exact hy)).mpr (hs y (.tail _ hy))
    rw [List.length_erase_of_mem hx] at this
    have:=List.length_pos_of_mem hx
    rw [List.length_cons]
    omega
theorem Uq {l : List Int} (h : l.Nodup) (hl : l.length = n) (hr : ∀ x ∈ l, ∃ i : Nat, i < n /\ x = i) : l.Perm ((List.range n).map fun (i : Nat)=>(i : Int)):=by
  have hnd : ((List.range n).map fun (i : Nat)=>(i : Int)).Nodup:=List.Pairwise.map _ (fun a b h e=>h (Int.ofNat.inj e)) List.nodup_range
  have hs : ∀ x ∈ l, x ∈ (List.range n).map fun (i : Nat)=>(i : Int):=fun x hx=>by
    obtain ⟨i, hi, rfl⟩:=hr x hx
    exact List.mem_map.mpr ⟨i, List.mem_range.mpr hi, rfl⟩
  refine (List.perm_ext_iff_of_nodup h hnd).mpr fun x=>⟨hs x, fun hx=>?_⟩
  by_cases hm : x ∈ l
  . exact hm
  . have:=KI (l:=x :: l) (m:=(List.range n).map fun (i : Nat)=>(i : Int)) (List.nodup_cons.mpr ⟨hm, h⟩) fun y hy=>by
      rcases List.mem_cons.mp hy with z | z
      . rw [z]; exact hx
      . exact hs y z
    rw [List.length_cons, hl, List.length_map, List.length_range] at this
    exact absurd this (Nat.not_succ_le_self n)
theorem KG (n : Nat) : ((List.range n).map fun (i : Nat)=>(i : Int)).Pairwise (· <= ·):=List.Pairwise.map _ (fun a b h=>Int.ofNat_le.mpr (Nat.le_of_lt h)) List.pairwise_lt_range
end
end My
namespace My
open PySem L2
noncomputable def rl (n : Nat) : List Int:=(List.range n).map fun (i : Nat)=>(i : Int)
theorem GZ (n : Nat) : Zb 0 (n : Int) = rl n:=by
  unfold Zb rl
  simp
theorem Qe {α : Type} {g : Unit -> α -> Res (Ctl Bool Unit)} {Q : α -> Prop} : ∀ {as : List α}, (∀ a ∈ as, (Q a -> g () a = .ok (.nx ())) /\ (¬ Q a -> g () a = .ok (.ret false))) -> ((∀ a ∈ as, Q a) -> forC as () g = .ok (.nx ())) /\ (¬ (∀ a ∈ as, Q a) -> forC as () g = .ok (.ret false))
  | [], _=>⟨fun _=>rfl, fun h=>absurd (fun a ha=>nomatch ha) h⟩
  | a :: as, h=>by
    have ih:=Qe (as:=as) fun b hb=>h b (List.mem_cons_of_mem _ hb)
    obtain ⟨h1, h2⟩:=h a List.mem_cons_self
    by_cases c : Q a
    . refine ⟨fun q => ?_, fun q => ?_⟩
      . show (g () a).bind _ = _
        rw [h1 c, Res.okb]; exact ih.1 fun b hb=>q b (List.mem_cons_of_mem _ hb)
      . show (g () a).bind _ = _
        rw [h1 c, Res.okb]; exact ih.2 fun z=>q fun b hb=>(List.mem_cons.mp hb).elim (fun e=>e ▸ c) (z b)
    . refine ⟨fun q => absurd (q a List.mem_cons_self) c, fun _ => ?_⟩
      show (g () a).bind _ = _
      rw [h2 c, Res.okb]
theorem bs {α : Type} {as : List α} {g : Unit -> α -> Res (Ctl Bool Unit)} {k : Ctl Bool Unit -> Res Bool} {C : Prop} (P : α -> Prop) (h1 : ∀ a ∈ as, (P a -> g () a = .ok (.nx ())) /\ (¬ P a -> g () a = .ok (.ret false))) (h2 : (∀ a ∈ as, P a) -> ∃ b, k (.nx ()) = .ok b /\ (b = true ↔ C)) (h3 : C -> ∀ a ∈ as, P a) (h4 : k (.ret false) = .ok false) : ∃ b, (forC as () g).bind k = .ok b /\ (b = true ↔ C):=by
  by_cases c : ∀ a ∈ as, P a
  . rw [(Qe h1).1 c, Res.okb]; exact h2 c
  . rw [(Qe h1).2 c, Res.okb]; exact ⟨false, h4, ⟨fun z=>(by cases z), fun z=>absurd (h3 z) c⟩⟩
theorem bsC {α : Type} {as : List α} {g : Unit -> α -> Res (Ctl Bool Unit)} {k : Ctl Bool Unit -> Res (Ctl Bool Unit)} {P : Prop} (Q : α -> Prop) (h1 : ∀ a ∈ as, (Q a -> g () a = .ok (.nx ())) /\ (¬ Q a -> g () a = .ok (.ret false))) (hP : P ↔ ∀ a ∈ as, Q a) (h3 : k (.nx ()) = .ok (.nx ())) (h4 : k (.ret false) = .ok (.ret false)) :
    (P -> (forC as () g).bind k = .ok (.nx ())) /\ (¬ P -> (forC as () g).bind k = .ok (.ret false)):=
  ⟨fun p=>by rw [(Qe h1).1 (hP.mp p), Res.okb, h3], fun p=>by rw [(Qe h1).2 fun z=>p (hP.mpr z), Res.okb, h4]⟩
theorem ER {a : Nat} {P : Nat -> Prop} : (∀ i : Nat, (a : Int) = i -> P i) ↔ P a:=⟨fun h=>h a rfl, fun h i e=>by
  obtain rfl : a = i:=by omega
  exact h⟩
theorem ifD {c : Prop} [Decidable c] : (c -> (if (!(decide c)) = true then Res.ok (Ctl.ret false : Ctl Bool Unit) else Res.ok (Ctl.nx ())) = .ok (.nx ())) /\ (¬ c -> (if (!(decide c)) = true then Res.ok (Ctl.ret false : Ctl Bool Unit) else Res.ok (Ctl.nx ())) = .ok (.ret false)):=
  ⟨fun h=>by rw [decide_eq_true h]; rfl, fun h=>by rw [decide_eq_false h]; rfl⟩
section
variable {n : Nat} {f : Nat -> Nat -> Nat}
theorem VO {P : Int -> Prop} : (∀ x ∈ rl n, P x) ↔ ∀ i : Nat, i < n -> P i:=⟨fun h i hi=>h i (List.mem_map.mpr ⟨i, List.mem_range.mpr hi, rfl⟩), fun h x hx=>by
  obtain ⟨i, hi, rfl⟩:=XL hx
  exact h i hi⟩
noncomputable def JK (n : Nat) (f : Nat -> Nat -> Nat) (b : Nat) : List Int:=(List.range n).map fun x=>((f x b : Nat) : Int)
theorem Br (hn : n <= 1000) {b : Nat} (hb : b < n) : UI (XX n f) (fun r=>atR r (b : Int)) = .ok (JK n f b):=by
  unfold UI
  rw [X3 (sz (by rw [XJ]; omega))]
  unfold XX JK
  have : ∀ l : List Nat, KB (l.map (Zl n f)) (fun r=>atR r (b : Int)) = .ok (l.map fun x=>((f x b : Nat) : Int)):=by
    intro l
    induction l with
    | nil=>rfl
    | cons x l ih=>
      show (atR (Zl n f x) (b : Int)).bind _ = _
      rw [JU hb, Res.okb, ih]
      rfl
  exact this _
theorem Uh {b : Nat} : (JK n f b).Nodup ↔ ∀ x y, x < n -> y < n -> f x b = f y b -> x = y:=by
  unfold JK
  constructor
  . intro h x y hx hy e
    have:=List.pairwise_iff_getElem.mp h
    rcases Nat.lt_trichotomy x y with z | z | z
    . exact absurd (by rw [List.getElem_map, List.getElem_map, List.getElem_range, List.getElem_range, e]) (this x y (by simpa using hx) (by simpa using hy) z)
    . exact z
    . exact absurd (by rw [List.getElem_map, List.getElem_map, List.getElem_range, List.getElem_range, e]) (this y x (by simpa using hy) (by simpa using hx) z)
  . intro h
    exact J3 (fun x y hx hy e=>h x y (List.mem_range.mp hx) (List.mem_range.mp hy) (Int.ofNat.inj e)) List.nodup_range
theorem F6 (lt : ∀ a b, a < n -> b < n -> f a b < n) {b : Nat} (hb : b < n) : JA (JK n f b) = rl n ↔ (JK n f b).Nodup:=by
  have hr : (rl n).Pairwise (· <= ·):=KG n
  have hnd : (rl n).Nodup:=J3 (fun x y _ _ e=>Int.ofNat.inj e) List.nodup_range
  constructor
  . intro e
    have:=Qx (JK n f b)
    rw [e] at this
    exact this.nodup_iff.mp hnd
  . intro h
    refine (U9 (List.Perm.symm (Uq h (by simp [JK]) fun x hx=>?_)) hr).symm
    obtain ⟨y, hy, rfl⟩:=List.mem_map.mp hx
    exact ⟨_, lt y b (List.mem_range.mp hy) hb, rfl⟩
theorem Ki (lt : ∀ a b, a < n -> b < n -> f a b < n) (hn : n <= 24) : ∃ b, Zc (XX n f) = .ok b /\ (b = true ↔ GoodF n f):=by
  unfold Zc
  simp only [Res.okb]
  rw [XJ, Jf (by omega), Res.okb]
  refine bs (fun x : Int=>∀ i : Nat, x = i -> f i i = i) (fun x hx=>?_) (fun c1=>?_) (fun F x hx i e=>?_) rfl
  . obtain ⟨a, ha, rfl⟩ := XL hx
    rw [Q7 ha, Res.okb, JU ha, Res.okb, Res.okb]
    have e : (∀ i : Nat, (a : Int) = i -> f i i = i) ↔ ((f a a : Nat) : Int) = a:=by rw [ER (P:=fun i=>f i i = i)]; omega
    rw [e]
    exact ifD
  . rw [UP, Res.okb]
    refine bs (fun x : Int=>∀ i : Nat, x = i -> (JK n f i).Nodup) (fun x hx=>?_) (fun c2=>?_) (fun F x hx i e=>?_) rfl
    . obtain ⟨b, hb, rfl⟩ := XL hx
      rw [Br (by omega) hb, Res.okb, X3 (by unfold JK; simp; omega), Res.okb, X3 (by omega), Res.okb, GZ, Res.okb]
      have e : (∀ i : Nat, (b : Int) = i -> (JK n f i).Nodup) ↔ JA (JK n f b) = rl n:=by rw [F6 lt hb, ER (P:=fun i=>(JK n f i).Nodup)]
      rw [e]
      exact ifD
    . rw [UP, Res.okb]
      refine bs (fun x : Int=>∀ i : Nat, x = i -> ∀ b c, b < n -> c < n -> f (f i b) c = f (f i c) (f b c)) (fun x hx=>?_) (fun c3=>?_) (fun F x hx i e=>?_) rfl
      . obtain ⟨a, ha, rfl⟩ := XL hx
        rw [Res.okb]
        refine bsC (fun x : Int=>∀ i : Nat, x = i -> ∀ c, c < n -> f (f a i) c = f (f a c) (f i c)) (fun x hx=>?_) ?_ rfl rfl
        . obtain ⟨b, hb, rfl⟩ := XL hx
          rw [Res.okb]
          refine bsC (fun x : Int=>∀ i : Nat, x = i -> f (f a b) i = f (f a i) (f b i)) (fun x hx=>?_) ?_ rfl rfl
          . obtain ⟨c, hc, rfl⟩ := XL hx
            simp only [Res.okb, Q7 ha, JU hb, Q7 (lt a b ha hb), JU hc, Q7 (lt a c ha hc), Q7 hb, JU (lt b c hb hc)]
            have e : (∀ i : Nat, (c : Int) = i -> f (f a b) i = f (f a i) (f b i)) ↔ ((f (f a b) c : Nat) : Int) = (f (f a c) (f b c) : Nat):=by rw [ER (P:=fun i=>f (f a b) i = f (f a i) (f b i))]; omega
            rw [e]
            exact ifD
          . constructor
            . intro h x hx i e
              obtain ⟨c, hc, rfl⟩:=XL hx
              have : c = i:=by omega
              subst this
              exact h b rfl c hc
            . intro h i e c hc
              have : b = i:=by omega
              subst this
              exact VO.mp h c hc c rfl
        . constructor
          . intro h x hx i e c hc
            obtain ⟨b, hb, rfl⟩:=XL hx
            have : b = i:=by omega
            subst this
            exact h a rfl b c hb hc
          . intro h i e b c hb hc
            have : a = i:=by omega
            subst this
            exact VO.mp h b hb b rfl c hc
      . refine ⟨true, rfl, fun _ => ⟨⟨lt, fun x y b hx hy hb e => ?_⟩, fun a ha => VO.mp c1 a ha a rfl, fun a b c ha hb hc => VO.mp c3 a ha a rfl b c hb hc⟩, fun _ => rfl⟩
        exact Uh.mp (VO.mp c2 b hb b rfl) x y hx hy e
      . obtain ⟨a, ha, rfl⟩ := XL hx
        have : a = i:=by omega
        subst this
        exact fun b c hb hc=>F.r3 a b c ha hb hc
    . obtain ⟨b, hb, rfl⟩ := XL hx
      have : b = i:=by omega
      subst this
      exact Uh.mpr fun x y hx hy e=>F.r2 x y b hx hy hb e
  . obtain ⟨a, ha, rfl⟩ := XL hx
    have : a = i:=by omega
    subst this
    exact F.r1 a ha
end
end My
namespace My
open PySem L2
noncomputable def tat (t : List (List Int)) (a b : Nat) : Int:=(t.getD a []).getD b 0
noncomputable def Ey (n : Nat) (p : Nat -> Nat -> Nat -> Bool) : Bool:=(List.range n).all fun a=>(List.range n).all fun b=>(List.range n).all fun c=>p a b c
noncomputable def g3B (n : Nat) (t : List (List Int)) : Bool:=Ey n fun a b c=>decide (tat t (tat t a b).toNat c = tat t (tat t a c).toNat (tat t b c).toNat)
noncomputable def inB (n : Nat) (t : List (List Int)) : Bool:=decide (t.length = n) && t.all fun r=>decide (r.length = n) && r.all fun x=>decide (0 <= x) && decide (x < (n : Int))
noncomputable def g1B (n : Nat) (t : List (List Int)) : Bool:=(List.range n).all fun a=>decide (tat t a a = (a : Int))
noncomputable def g2B (n : Nat) (t : List (List Int)) : Bool:=Ey n fun x y b=>decide (tat t x b = tat t y b -> x = y)
noncomputable def gdB (n : Nat) (t : List (List Int)) : Bool:=inB n t && g1B n t && g2B n t && g3B n t
noncomputable def nds : List Int -> Bool
  | []=>true
  | a :: l=>!(l.contains a) && nds l
noncomputable def E1 (n : Nat) : Nat -> List (List Int)
  | 0=>[[]]
  | m + 1=>(List.range n).flatMap fun (a : Nat)=>(E1 n m).map fun l=>(a : Int) :: l
noncomputable def C0 (n b : Nat) : List (List Int):=(E1 n n).filter fun c=>nds c && decide (c.getD b 0 = (b : Int))
noncomputable def Ez (n : Nat) : Nat -> List (List (List Int))
  | 0=>[[]]
  | k + 1=>(Ez n k).flatMap fun cs=>(C0 n k).map fun c=>cs ++ [c]
noncomputable def Bg (n : Nat) (cs : List (List Int)) : List (List Int):=(List.range n).map fun a=>cs.map fun c=>c.getD a 0
noncomputable def Es : List (List (List Int)) -> Bool
  | a :: b :: l=>ltG (ltG ltI) a b && Es (b :: l)
  | _=>true
noncomputable def Ed (n : Int) : Bool:=match Ye n with
  | .ok l=>decide (0 < l.length /\ l.length < 64) && l.all (gdB n.toNat) && Es l && (Ez n.toNat n.toNat).all fun cs=>!(g3B n.toNat (Bg n.toNat cs)) || l.contains (Bg n.toNat cs)
  | _=>false
theorem Ke {n : Nat} {p : Nat -> Nat -> Nat -> Bool} : Ey n p = true ↔ ∀ a b c, a < n -> b < n -> c < n -> p a b c = true:=by
  unfold Ey
  simp only [List.all_eq_true, List.mem_range]
  exact ⟨fun h a b c ha hb hc=>h a ha b hb c hc, fun h a ha b hb c hc=>h a b c ha hb hc⟩
section
variable {n : Nat} {f : Nat -> Nat -> Nat}
theorem Ji {a b : Nat} (ha : a < n) (hb : b < n) : tat (XX n f) a b = (f a b : Int):=by
  have e1 : (XX n f).getD a [] = Zl n f a:=by rw [List.getD_eq_getElem?_getD, Y7 ha, Option.getD_some]
  unfold tat
  rw [e1, List.getD_eq_getElem?_getD, Y0 hb, Option.getD_some]
theorem Dr {t : List (List Int)} (hl : t.length = n) (hr : ∀ r ∈ t, r.length = n /\ ∀ x ∈ r, 0 <= x /\ x < (n : Int)) : t = XX n (fun a b=>(tat t a b).toNat) /\ ∀ a b, a < n -> b < n -> 0 <= tat t a b /\ tat t a b < n:=by
  have ge : ∀ a b, a < n -> b < n -> 0 <= tat t a b /\ tat t a b < n:=fun a b ha hb=>by
    unfold tat
    have hge : ∀ {α : Type} {l : List α} {i : Nat} {d : α}, i < l.length -> l.getD i d ∈ l:=fun {α l i d} hi=>by rw [List.getD_eq_getElem?_getD, List.getElem?_eq_getElem hi]; exact List.getElem_mem _
    have hrow:=hr (t.getD a []) (hge (by omega))
    exact hrow.2 ((t.getD a []).getD b 0) (hge (by omega))
  refine ⟨?_, ge⟩
  refine List.ext_getElem (by rw [XJ]; exact hl) fun a h1 h2=>?_
  have ha : a < n:=by omega
  have e:=Y7 (f:=fun a b=>(tat t a b).toNat) ha
  rw [List.getElem?_eq_getElem h2] at e
  rw [Option.some.inj e]
  have hrow:=(hr t[a] (List.getElem_mem _)).1
  refine List.ext_getElem (by rw [Yr]; exact hrow) fun b h3 h4=>?_
  have hb : b < n:=by omega
  have e2:=Y0 (f:=fun a b=>(tat t a b).toNat) (a:=a) hb
  rw [List.getElem?_eq_getElem h4] at e2
  rw [Option.some.inj e2]
  have hg:=ge a b ha hb
  have e3 : tat t a b = t[a][b]:=by
    have e4 : t.getD a [] = t[a]:=by rw [List.getD_eq_getElem?_getD, List.getElem?_eq_getElem h1, Option.getD_some]
    unfold tat
    rw [e4, List.getD_eq_getElem?_getD, List.getElem?_eq_getElem h3, Option.getD_some]
  show t[a][b] = ((tat t a b).toNat : Int)
  omega
theorem Dg {t : List (List Int)} (h : gdB n t = true) : ∃ f, t = XX n f /\ GoodF n f:=by
  unfold gdB inB g1B g2B g3B at h
  simp only [Bool.and_eq_true, decide_eq_true_eq, List.all_eq_true, Ke, List.mem_range] at h
  obtain ⟨⟨⟨⟨hl, hr⟩, h1⟩, h2⟩, h3⟩:=h
  obtain ⟨et, ge⟩:=Dr hl hr
  refine ⟨fun a b=>(tat t a b).toNat, et, ⟨⟨fun a b ha hb=>?_, fun x y b hx hy hb e=>?_⟩, fun a ha=>?_, fun a b c ha hb hc=>?_⟩⟩
  . have := ge a b ha hb
    show (tat t a b).toNat < n
    omega
  . have := ge x b hx hb
    have:=ge y b hy hb
    have e : (tat t x b).toNat = (tat t y b).toNat:=e
    exact h2 x y b hx hy hb (by omega)
  . have := h1 a ha
    show (tat t a a).toNat = a
    omega
  . have := h3 a b c ha hb hc
    show (tat t (tat t a b).toNat c).toNat = (tat t (tat t a c).toNat (tat t b c).toNat).toNat
    rw [this]
theorem Kc : ∀ {m : Nat} {l : List Int}, l.length = m -> (∀ x ∈ l, 0 <= x /\ x < (n : Int)) -> l ∈ E1 n m
  | 0, l, h, _=>by rw [List.length_eq_zero_iff.mp h]; exact List.mem_singleton.mpr rfl
  | m + 1, [], h, _=>nomatch h
  | m + 1, a :: l, h, hx=>by
    have ha:=hx a List.mem_cons_self
    refine List.mem_flatMap.mpr ⟨a.toNat, List.mem_range.mpr (by omega), List.mem_map.mpr ⟨l, Kc (by simpa using h) fun x hx'=>hx x (List.mem_cons_of_mem _ hx'), ?_⟩⟩
    rw [show ((a.toNat : Nat) : Int) = a by omega]
theorem Dw : ∀ {l : List Int}, l.Nodup -> nds l = true
  | [], _=>rfl
  | a :: l, h=>by
    rw [List.nodup_cons] at h
    rw [nds, Dw h.2, Bool.and_true, Bool.not_eq_true', List.contains_eq_mem, decide_eq_false_iff_not]
    exact h.1
theorem FH (F : GoodF n f) {b : Nat} (hb : b < n) : JK n f b ∈ C0 n b:=by
  unfold C0
  rw [List.mem_filter, Bool.and_eq_true, decide_eq_true_eq]
  refine ⟨Kc (by simp [JK]) fun x hx=>?_, Dw (Uh.mpr fun x y hx hy e=>F.r2 x y b hx hy hb e), ?_⟩
  . obtain ⟨y, hy, rfl⟩ := List.mem_map.mp hx
    have:=F.lt y b (List.mem_range.mp hy) hb
    omega
  . unfold JK
    rw [List.getD_eq_getElem?_getD, List.getElem?_map, List.getElem?_range hb, Option.map_some, Option.getD_some, F.r1 b hb]
theorem UV (F : GoodF n f) : ∀ {k : Nat}, k <= n -> (List.range k).map (JK n f) ∈ Ez n k
  | 0, _=>List.mem_singleton.mpr rfl
  | k + 1, hk=>by
    rw [List.range_succ, List.map_append]
    exact List.mem_flatMap.mpr ⟨_, UV F (by omega), List.mem_map.mpr ⟨_, FH F (by omega), rfl⟩⟩
theorem CD : Bg n ((List.range n).map (JK n f)) = XX n f:=by
  unfold Bg XX
  refine List.map_congr_left fun a ha=>?_
  unfold Zl
  rw [List.map_map]
  refine List.map_congr_left fun b hb=>?_
  show (JK n f b).getD a 0 = _
  unfold JK
  rw [List.getD_eq_getElem?_getD, List.getElem?_map, List.getElem?_range (List.mem_range.mp ha), Option.map_some, Option.getD_some]
theorem G4 : ∀ {l : List (List (List Int))}, Es l = true -> ∀ k x y, l[k]? = some x -> l[k + 1]? = some y -> ltG (ltG ltI) x y = true
  | [], _, k, x, y, h, _=>by simp at h
  | [a], _, k, x, y, _, h=>by simp at h
  | a :: b :: l, h, k, x, y, h1, h2=>by
    rw [Es, Bool.and_eq_true] at h
    cases k with
    | zero=>simp at h1 h2; rw [← h1, ← h2]; exact h.1
    | succ k=>exact G4 h.2 k x y (by simpa using h1) (by simpa using h2)
structure TabsOk (n : Nat) (l : List (List (List Int))) : Prop where
  some' : 0 < l.length
  len : l.length < 64
  good : ∀ t ∈ l, ∃ f, t = XX n f /\ GoodF n f
  rise : ∀ k x y, l[k]? = some x -> l[k + 1]? = some y -> ltG (ltG ltI) x y = true
  all : ∀ f, GoodF n f -> XX n f ∈ l
theorem Ut (h : Ed (n : Int) = true) : ∃ l, Ye (n : Int) = .ok l /\ TabsOk n l:=by
  unfold Ed at h
  cases e : Ye (n : Int) with
  | bad=>rw [e] at h; cases h
  | err x=>rw [e] at h; cases h
  | ok l=>
    rw [e] at h
    have h : (decide (0 < l.length /\ l.length < 64) && l.all (gdB n) && Es l && (Ez n n).all fun cs=>!(g3B n (Bg n cs)) || l.contains (Bg n cs)) = true:=h
    simp only [Bool.and_eq_true, List.all_eq_true, decide_eq_true_eq] at h
    obtain ⟨⟨⟨h0, h1⟩, h2⟩, h3⟩:=h
    refine ⟨l, rfl, h0.1, h0.2, fun t ht=>Dg (h1 t ht), G4 h2, fun f F=>?_⟩
    have:=h3 _ (UV F (Nat.le_refl n))
    rw [CD, Bool.or_eq_true, Bool.not_eq_true'] at this
    rcases this with z | z
    . have g : g3B n (XX n f) = true:=Ke.mpr fun a b c ha hb hc=>by
        rw [Ji ha hb, Ji ha hc, Ji hb hc, Int.toNat_natCast, Int.toNat_natCast, Int.toNat_natCast, Ji (F.lt a b ha hb) hc, Ji (F.lt a c ha hc) (F.lt b c hb hc), F.r3 a b c ha hb hc]
        exact decide_eq_true rfl
      rw [g] at z; cases z
    . simpa using z
end
end My
namespace My
open PySem L2
theorem VF {L : List (List Int)} {k : Nat} (h1 : L.length = k) (h2 : ∀ r ∈ L, r.length = k) : YT L (k : Int) = .ok true:=by
  unfold YT
  simp only [Res.okb]
  rw [h1, decide_eq_true rfl, show orR (Res.ok (!true)) (Res.ok (!true)) = .ok false from rfl, Res.okb, if_neg Bool.false_ne_true]
  rw [QV]
  . rfl
  intro row hrow
  rw [h2 row hrow, decide_eq_true rfl, show orR (Res.ok (!true)) (Res.ok (!true)) = .ok false from rfl, Res.okb, if_neg Bool.false_ne_true]
  rw [QV]
  . rfl
  intro x _
  rfl
end My
namespace My
open PySem L2
theorem Hv : Ed 1 = true:=by decide +kernel
theorem HD : Ed 2 = true:=by decide +kernel
theorem Hz : Ed 3 = true:=by decide +kernel
theorem Bl {α : Type} [DecidableEq α] {a : α} {l : List α} : F8 a l = true ↔ a ∈ l:=decide_eq_true_iff
section
variable {n : Nat} {l : List (List (List Int))}
theorem U3 (hn : n <= 24) (TT : TabsOk n l) : YW l (n : Int) = .ok true:=by
  unfold YW
  simp only [Res.okb]
  have h0:=TT.some'
  have hlen:=TT.len
  rw [decide_eq_false (show ¬ ((l.length : Int) = 0) by omega), show orR (Res.ok (!true)) (Res.ok false) = .ok false from rfl, Res.okb, if_neg (by decide)]
  rw [Jf (n:=l.length) (by omega), Res.okb, QV fun a ha=>?_]
  . rfl
  . obtain ⟨i, hi, rfl⟩ := XL ha
    obtain ⟨g, eg, G⟩:=TT.good l[i] (List.getElem_mem hi)
    have ea : atR l (i : Int) = .ok (XX n g):=by rw [← eg]; exact ZK (by simp [hi])
    rw [ea]
    simp only [Res.okb]
    rw [VF (k:=n) (XJ n g) fun r hr=>Fb hr, YD, Res.okb]
    obtain ⟨b, eb, hb⟩:=Ki G.lt hn
    rw [hb.mpr G] at eb
    rw [eb, YD, Res.okb]
    rw [show orR (Res.ok (!true)) (Res.ok (!true)) = .ok false from rfl, Res.okb, if_neg (by decide)]
    rw [Dy (c:=false) fun h=>?_, Bool.and_false, Res.okb, if_neg (by decide)]
    have h0 : (0 : Int) < i:=of_decide_eq_true h
    obtain ⟨k, rfl⟩ : ∃ k, i = k + 1:=⟨i - 1, by omega⟩
    have ek : atR l (((k + 1 : Nat) : Int) - 1) = .ok l[k]:=by
      rw [show ((k + 1 : Nat) : Int) - 1 = (k : Int) by omega]
      exact ZK (by simp)
    rw [ek]
    simp only [Res.okb]
    rw [← eg, TT.rise k l[k] l[k + 1] (by simp) (by simp)]
    rfl
theorem Gw {α : Type} {c : α -> Res Bool} : ∀ {l : List α}, (∀ r ∈ l, c r = .ok false) -> Fh c l = .ok true
  | [], _=>rfl
  | r :: l, h=>by
    rw [Fh, h r List.mem_cons_self, Res.okb, if_neg (by decide)]
    exact Gw fun x hx=>h x (List.mem_cons_of_mem _ hx)
theorem Fi (hn : n <= 24) (TT : TabsOk n l) : ∃ l', Qa l (n : Int) = .ok (true, l') /\ 0 < l'.length:=by
  unfold Qa
  simp only [Res.okb]
  have hrow : ∀ t ∈ l, ∀ row ∈ t, row.length = n:=fun t ht row hr=>by
    obtain ⟨g, rfl, G⟩:=TT.good t ht
    exact Fb hr
  rw [X3 fun t ht row hr=>E3 (by rw [hrow t ht row hr]; omega)]
  rw [Gw fun r hr=>?_]
  . exact ⟨_, rfl, by rw [List.length_map]; exact TT.some'⟩
  . obtain ⟨t', ht', hr'⟩ := List.mem_flatten.mp hr
    obtain ⟨t, ht, rfl⟩:=List.mem_map.mp ht'
    obtain ⟨row, hrow', rfl⟩:=List.mem_map.mp hr'
    rw [List.length_append, hrow t ht row hrow', decide_eq_true (by simp)]
    rfl
theorem CU {f : Nat -> Nat -> Nat} (lt : ∀ a b, a < n -> b < n -> f a b < n) (hn : n <= 24) (TT : TabsOk n l) : ∃ b, Zc (XX n f) = .ok b /\ F8 (XX n f) l = b:=by
  obtain ⟨b, eb, hb⟩:=Ki lt hn
  refine ⟨b, eb, ?_⟩
  rw [Bool.eq_iff_iff, Bl, hb]
  exact ⟨fun hm=>by
    obtain ⟨g, e, G⟩:=TT.good _ hm
    exact G.congr fun a b ha hb=>Gk e a b ha hb, TT.all f⟩
end
theorem CZ {n : Nat} (h0 : 0 < n) (h3 : n <= 3) : ∃ l, Ye (n : Int) = .ok l /\ TabsOk n l:=by
  rcases (show n = 1 ∨ n = 2 ∨ n = 3 by omega) with rfl | rfl | rfl
  . exact Ut Hv
  . exact Ut HD
  . exact Ut Hz
theorem Fo (ns : List Int) (_ : ns.length <= 63) : Uu ns = .ok true:=by
  unfold Uu
  simp only [Res.okb]
  have s1 : (Res.bind (chk ((((3 : Int) :: ((2 : Int) :: [])).length) <= sizeLine) (Res.ok ((3 : Int) :: ((2 : Int) :: [])))) fun x4=>(Res.bind (Res.bind (chk ((((3 : Int) :: []).length) <= sizeLine) (Res.ok ((3 : Int) :: []))) fun x11=>(BP x11 (9 : Int))) fun x5=>(DS x4 x5))) = .ok (3 :: 2 :: List.replicate 9 3):=rfl
  rw [s1, Res.okb]
  obtain ⟨r, er, hl, hv⟩:=Du ns (p:=1) (by decide) (3 :: 2 :: List.replicate 9 3) (by decide) (by decide)
  have hl : r.length = 11:=hl
  rw [er, YD, Res.okb, Q4 (r:=r) (k:=0) (n:=0) rfl (by omega), Q4 (r:=r) (k:=1) (n:=1) rfl (by omega)]
  simp only [Res.okb]
  have hr0:=hv 0 r[0] 3 (by simp) rfl
  obtain ⟨n, hn0, hn3, en⟩ : ∃ n : Nat, 0 < n /\ n <= 3 /\ (1 : Int) + r[0] = n:=⟨(1 + r[0]).toNat, by omega, by omega, by omega⟩
  rw [en]
  rw [Jf (by omega), Res.okb]
  rw [Jl (h:=fun a : Int=>((List.range n).map fun (i : Nat)=>(i : Int)).map fun b : Int=>(r.getD (2 + 3 * a.toNat + b.toNat) 0) % (n : Int)) (sz (by simp; omega)) fun acc hacc a ha=>?_]
  . rw [Res.okb, List.nil_append]
    have tab : ∃ f : Nat -> Nat -> Nat, (∀ a b, a < n -> b < n -> f a b < n) /\ (((List.range n).map fun (i : Nat)=>(i : Int)).map fun a : Int=>((List.range n).map fun (i : Nat)=>(i : Int)).map fun b : Int=>(r.getD (2 + 3 * a.toNat + b.toNat) 0) % (n : Int)) = XX n f:=by
      obtain ⟨et, ge⟩:=Dr (n:=n) (t:=((List.range n).map fun (i : Nat)=>(i : Int)).map fun a : Int=>((List.range n).map fun (i : Nat)=>(i : Int)).map fun b : Int=>(r.getD (2 + 3 * a.toNat + b.toNat) 0) % (n : Int)) (by simp) fun row hrow=>by
        obtain ⟨x, hx, rfl⟩:=List.mem_map.mp hrow
        refine ⟨by simp, fun y hy=>?_⟩
        obtain ⟨z, hz, rfl⟩:=List.mem_map.mp hy
        exact ⟨Int.emod_nonneg _ (by omega), Int.emod_lt_of_pos _ (by omega)⟩
      exact ⟨_, fun a b ha hb=>by have:=ge a b ha hb; omega, et⟩
    obtain ⟨f, hf, ef⟩:=tab
    rw [ef]
    have YL : ∀ (m : Nat) (g : Nat -> Nat -> Nat), 0 < m -> m <= 3 -> (∀ a b, a < m -> b < m -> g a b < m) -> (Res.bind (noE (Ye (m : Int))) fun a74=>(Res.bind (orR (Res.bind (noE (YW a74 (m : Int))) fun x82=>(Res.ok (!x82))) (Res.bind (noE (Zc (XX m g))) fun x88=>(Res.ok (!(decide ((F8 (XX m g) a74) = x88)))))) fun x89=>(if x89 = true then (Res.ok false) else (Res.bind (noE (Qa a74 (m : Int))) fun b94=>(if b94.1 = true then ((fun (a95 : (List (List (List Int))))=>(chk (0 < a95.length) ((fun (a98 : (List (List (List Int))))=>(Res.bind (noE (Ye (m : Int))) fun a99=>(QW (Res.ok (decide ((a99.length : Int) = (a74.length : Int)))) (QW (noE (YW a99 (m : Int))) (Res.bind (noE (Zc (XX m g))) fun x114=>(Res.ok (decide ((F8 (XX m g) a99) = x114)))))))) (a95).dropLast))) b94.2) else (Res.ok false)))))) = .ok true:=fun m g h0 h3 hg=>by
      obtain ⟨l, el, TT⟩:=CZ h0 h3
      obtain ⟨b, eb, hb⟩:=CU hg (by omega) TT
      obtain ⟨l', el', hl'⟩:=Fi (by omega) TT
      rw [el, YD, Res.okb, U3 (by omega) TT, YD, eb, YD]
      simp only [Res.okb]
      rw [hb, decide_eq_true rfl, show orR (Res.ok (!true)) (Res.ok (!true)) = .ok false from rfl, Res.okb, if_neg (by decide), el', YD]
      simp only [Res.okb]
      rw [if_pos trivial, X3 hl', U3 (by omega) TT, YD, decide_eq_true trivial]
      rfl
    split
    . obtain ⟨t, et, m, g, hm0, hm3, gd, rfl⟩ := Db ns (p := 0) (by decide) (most := 3) (by decide) (by decide)
      have et : Z7 ns 0 3 = .ok (XX m g):=et
      rw [et, YD]
      simp only [Res.okb, XJ]
      exact YL m g hm0 hm3 gd.lt
    . simp only [Res.okb]
      exact YL n f hn0 hn3 hf
  . obtain ⟨i, hi, rfl⟩ := XL ha
    rw [Res.okb, Ur (h:=fun b : Int=>(r.getD (2 + 3 * i + b.toNat) 0) % (n : Int)) (sz (by rw [ZL]; omega)) fun b hb=>?_]
    . rw [Res.okb, X3 hacc, Int.toNat_natCast]
    . obtain ⟨j, hj, rfl⟩ := XL hb
      rw [Ju (by decide) (by decide)]
      simp only [Res.okb]
      rw [Q4 (r:=r) (n:=2 + 3 * i + j) (by omega) (by omega), Res.okb, Yx (by omega), Int.toNat_natCast, List.getD_eq_getElem?_getD, List.getElem?_eq_getElem (by omega), Option.getD_some]
end My
namespace My
open PySem L2
noncomputable def top (i : Nat) : Stmt:=PySem.Challenge.pw_plait_k41_all_of_up_to_three.main.body.getD i (.Pass ⟨0, 0, 0, 0⟩)
noncomputable abbrev Zh : Stmt:=top 4
noncomputable abbrev Z5 : Stmt:=top 5
noncomputable abbrev Y1 : Stmt:=top 6
noncomputable abbrev Vp : Stmt:=top 8
noncomputable abbrev Y6 : Stmt:=top 9
noncomputable abbrev Yy : Stmt:=top 10
noncomputable abbrev ZP : Stmt:=top 11
noncomputable abbrev YC : Stmt:=top 12
noncomputable abbrev Ql : Stmt:=top 15
noncomputable abbrev YQ : Stmt:=top 16
noncomputable abbrev X8 : Stmt:=top 17
noncomputable abbrev XU : Stmt:=top 18
noncomputable abbrev GU : Stmt:=top 20
noncomputable abbrev Ba : Stmt:=top 21
noncomputable abbrev DR : Stmt:=top 22
noncomputable abbrev Jw : Stmt:=top 23
noncomputable abbrev Vb : Stmt:=top 24
noncomputable abbrev UX : Stmt:=top 25
noncomputable abbrev QZ : Stmt:=top 26
noncomputable abbrev QP : Stmt:=top 27
noncomputable abbrev Uw : Stmt:=top 28
noncomputable abbrev QA : Stmt:=top 29
noncomputable abbrev Qy : Stmt:=top 30
noncomputable abbrev Kh : Stmt:=top 31
noncomputable abbrev Us : Stmt:=top 32
noncomputable abbrev Uz : Stmt:=top 33
noncomputable abbrev JD : Stmt:=top 34
theorem VC {X : Cx} : PE X (.List [.List [.Constant (.int 0) 0 ⟨120, 17, 120, 18⟩, .Constant (.int 3) 0 ⟨120, 20, 120, 21⟩, .Constant (.int 1) 0 ⟨120, 23, 120, 24⟩, .Constant (.int 2) 0 ⟨120, 26, 120, 27⟩] ⟨120, 16, 120, 28⟩, .List [.Constant (.int 2) 0 ⟨120, 31, 120, 32⟩, .Constant (.int 1) 0 ⟨120, 34, 120, 35⟩, .Constant (.int 3) 0 ⟨120, 37, 120, 38⟩, .Constant (.int 0) 0 ⟨120, 40, 120, 41⟩] ⟨120, 30, 120, 42⟩, .List [.Constant (.int 3) 0 ⟨120, 45, 120, 46⟩, .Constant (.int 0) 0 ⟨120, 48, 120, 49⟩, .Constant (.int 2) 0 ⟨120, 51, 120, 52⟩, .Constant (.int 1) 0 ⟨120, 54, 120, 55⟩] ⟨120, 44, 120, 56⟩, .List [.Constant (.int 1) 0 ⟨120, 59, 120, 60⟩, .Constant (.int 2) 0 ⟨120, 62, 120, 63⟩, .Constant (.int 0) 0 ⟨120, 65, 120, 66⟩, .Constant (.int 3) 0 ⟨120, 68, 120, 69⟩] ⟨120, 58, 120, 70⟩] ⟨120, 15, 120, 71⟩) (Fk (Xx (Fk (Xx (tC (.int 0)) (Xx (tC (.int 3)) (Xx (tC (.int 1)) (Xx (tC (.int 2)) ZF))))) (Xx (Fk (Xx (tC (.int 2)) (Xx (tC (.int 1)) (Xx (tC (.int 3)) (Xx (tC (.int 0)) ZF))))) (Xx (Fk (Xx (tC (.int 3)) (Xx (tC (.int 0)) (Xx (tC (.int 2)) (Xx (tC (.int 1)) ZF))))) (Xx (Fk (Xx (tC (.int 1)) (Xx (tC (.int 2)) (Xx (tC (.int 0)) (Xx (tC (.int 3)) ZF))))) ZF))))):=by
  refine Yn ?_
  refine Vw ?_ ?_
  . exact Yn (Xd Xh (Xd Xh (Xd Xh (Xd Xh Xg))))
  refine Vw ?_ ?_
  . exact Yn (Xd Xh (Xd Xh (Xd Xh (Xd Xh Xg))))
  refine Vw ?_ ?_
  . exact Yn (Xd Xh (Xd Xh (Xd Xh (Xd Xh Xg))))
  refine Vw ?_ ?_
  . exact Yn (Xd Xh (Xd Xh (Xd Xh (Xd Xh Xg))))
  exact Xg
noncomputable def Fq : Scope:={ kind:=PySem.ScopeKind.function, names:=[ (PySem.Str.ofString ".0", PySem.NameKind.local), (PySem.Str.ofString "a", PySem.NameKind.cell), (PySem.Str.ofString "columns", PySem.NameKind.free)], isGenerator:=false, isCoroutine:=false, more:=[] : PySem.Scope }
structure Blt (mg : Str -> Option Value) : Prop where
  b_abs : mg "abs" = none
  b_bool : mg "bool" = none
  b_enumerate : mg "enumerate" = none
  b_int : mg "int" = none
  b_isinstance : mg "isinstance" = none
  b_len : mg "len" = none
  b_list : mg "list" = none
  b_range : mg "range" = none
  b_sorted : mg "sorted" = none
  c_MOST_OF_ALL : ∃ u, mg "MOST_OF_ALL" = some u /\ X2 (.int 4) u
section
variable {P : Program} {w : World} {K : PySem.W.Frag} {mg : Str -> Option Value} {base : Heap}
theorem Jk : FnScope ["most", "size"] ["most", "size"] (Xi Zh):=⟨rfl, rfl, rfl, by decide +kernel, rfl, by decide +kernel, by decide +kernel⟩
set_option maxHeartbeats 4000000 in
theorem Jj (D : Def K mg "refuse_above" Zh ["most", "size"])  (Z : Blt mg) : Fn P w K mg base 1 "refuse_above" ["most", "size"] (sp2 Xc Xc oU YF K):=by
  refine YH D Jk (fun vs H Q E h=>?_) (fun f cdv A outer s H vs Q E hr h=>?_)
  . obtain ⟨v_0, v_1, a_0, a_1, b, rfl, _⟩:=h; rfl
  obtain ⟨v_0, v_1, a_0, a_1, b, rfl, h_0, h_1, hm, q⟩:=h
  have hu:=hu8 hr
  have hu1:=YE hr
  refine ⟨_, (Xb (Ym (Xo KP (pv 1) (pv 0) (Xz _))
      (Xb FV
      Xe)
      Xe)
    Xe), ?_⟩
  refine ET (J:=({ oo:=fun x3=>[], ss:=fun x3=>[some v_0, some v_1], sc:=fun g4 x3=>(SC.add (SC.add SC.nil K Xc v_0 a_0) K Xc v_1 a_1) } : Jn (Unit) (Unit))) (K:=K) (S:=(SC.add (SC.add SC.nil K Xc v_0 a_0) K Xc v_1 a_1)) (σ:=[some v_0, some v_1]) 0 ?_ (SC.i (SC.i SC.t h_0) h_1) hm q (fun _ _=>rfl)
  unfold YF
  exact (BJ (Xl (K:=K) (V7 (Xa (r:=Xc) 1 rfl (fun _ s=>(SC.r s))) (Xa (r:=Xc) 0 rfl (fun _ s=>(SC.r (SC.l s)))))) (XE (J:=_) () () rfl rfl (fun _ s=>(SC.i (SC.i SC.t (SC.r (SC.l s))) (SC.r s)))))
theorem Yq : FnScope ["lists", "count", "longer", "ahead", "number"] ["lists", "count"] (Xi Y1):=⟨rfl, rfl, rfl, by decide +kernel, rfl, by decide +kernel, by decide +kernel⟩
set_option maxHeartbeats 4000000 in
theorem QH (D : Def K mg "longer_by_one" Y1 ["lists", "count"])  (Z : Blt mg) : Fn P w K mg base 1 "longer_by_one" ["lists", "count"] (sp2 (rV (rV Xc)) Xc (oL (oL (oF Xc))) YA K):=by
  refine YH D Yq (fun vs H Q E h=>?_) (fun f cdv A outer s H vs Q E hr h=>?_)
  . obtain ⟨v_0, v_1, a_0, a_1, b, rfl, _⟩:=h; rfl
  obtain ⟨v_0, v_1, a_0, a_1, b, rfl, h_0, h_1, hm, q⟩:=h
  have hu:=hu8 hr
  have hu1:=YE hr
  refine ⟨_, (Xb (XI (i:=2) Yq.nd rfl (Or.inl rfl) (Yn Xg))
    (Xb (XT PassesOwn.never rfl (XW (K:=K) rfl (pv 0)) (Xn (i:=3) Yq.nd rfl (Or.inl rfl))
      (Xb (XT PassesOwn.never rfl (XD rfl Z.b_range (Xd (pv 1) Xg)) (Xn (i:=4) Yq.nd rfl (Or.inl rfl))
        (Xb (Ym (Xo Uc (pv 4) (pv 3) rfl)
          (Xb (YX (Q8 PySem.F.plainAttrs_list PySem.F.slot_list_append PySem.F.type_list_append YG (pv 2) (Xd (Xs UJ (pv 3) (Yn (Xd (pv 4) Xg))) Xg)))
          Xe)
          Xe)
        Xe))
      Xe))
    (Xb (Xr (pv 2))
    Xe))), ?_⟩
  refine Y5 (S:=(SC.add (SC.add SC.nil K (rV (rV Xc)) v_0 a_0) K Xc v_1 a_1)) (σ:=[some v_0, some v_1, none, none, none]) 1 ?_ (SC.i (SC.i SC.t h_0) h_1) hm q rfl
  unfold YA
  exact (Yi (K:=K) (o:=(oL (oL (oF Xc)))) 2 0 (VE (o:=(oL (oF Xc)))) (Nat.le_of_ble_eq_true rfl) fun a1 v2 C3=>(ZA (K:=K) (J:=({ oo:=fun x4=>[x4.2.2.2], ss:=fun x4=>[some v_0, some v_1, some x4.2.2.1, x4.1, x4.2.1], sc:=fun g5 x4=>(SC.addO (SC.add (SC.add SC.nil K (rV (rV Xc)) v_0 a_0) K Xc v_1 a_1) K (oL (oL (oF Xc))) x4.2.2.1 g5 x4.2.2.2) } : Jn ((List (List Int))) (Option V × Option V × V × List Xu))) (fun _=>tg1 3) ((none), (none), v2, C3) (a1) (X9 (Xt (r:=(rV (rV Xc))) 0 rfl (fun _ s=>(SC.r (SC.l (SC.l s)))))) rfl rfl (fun _ s=>(SC.i (SC.i (SC.i SC.t (SC.r (SC.l (SC.l s)))) (SC.r (SC.l s))) (SC.r s))) (fun g6 x7 a8 v9=>(ZA (K:=K) (J:=({ oo:=fun x11=>[x11.2.2], ss:=fun x11=>[some v_0, some v_1, some x11.2.1, some v9, x11.1], sc:=fun g12 x11=>(SC.addO (SC.add (SC.add (SC.add SC.nil K (rV (rV Xc)) v_0 a_0) K Xc v_1 a_1) K (rV Xc) v9 a8) K (oL (oL (oF Xc))) x11.2.1 g12 x11.2.2) } : Jn ((List (List Int))) (Option V × V × List Xu))) (fun _=>tg1 4) ((x7.2.1), x7.2.2.1, x7.2.2.2) (g6) (Xq (Xa (r:=Xc) 1 rfl (fun _ s=>(SC.r (SC.l (SC.l s)))))) rfl rfl (fun _ s=>(SC.i (SC.i (SC.i (SC.i SC.t (SC.r (SC.l (SC.l (SC.l s))))) (SC.r (SC.l (SC.l s)))) (SC.r s)) (SC.r (SC.l s)))) (fun g13 x14 a15 v16=>(Qv (J:=({ oo:=fun x20=>[x20.2], ss:=fun x20=>[some v_0, some v_1, some x20.1, some v9, some v16], sc:=fun g21 x20=>(SC.addO (SC.add (SC.add (SC.add (SC.add SC.nil K (rV (rV Xc)) v_0 a_0) K Xc v_1 a_1) K (rV Xc) v9 a8) K Xc v16 a15) K (oL (oL (oF Xc))) x20.1 g21 x20.2) } : Jn ((List (List Int))) (V × List Xu))) (JN (Fd:=FNd ({ oo:=fun x20=>[x20.2], ss:=fun x20=>[some v_0, some v_1, some x20.1, some v9, some v16], sc:=fun g21 x20=>(SC.addO (SC.add (SC.add (SC.add (SC.add SC.nil K (rV (rV Xc)) v_0 a_0) K Xc v_1 a_1) K (rV Xc) v9 a8) K Xc v16 a15) K (oL (oL (oF Xc))) x20.1 g21 x20.2) } : Jn ((List (List Int))) (V × List Xu))) (Xl (K:=K) (Cq (Xa (r:=Xc) 4 rfl (fun _ s=>(SC.r s))) (Xa (r:=(rV Xc)) 3 rfl (fun _ s=>(SC.r (SC.l (SC.l s))))))) (JH (K:=K) (o:=(oL (oF Xc))) (f:=fun a29=>(Res.ok (a29))) 2 0 rfl rfl rfl (fun _ s=>(SC.r (SC.l s))) (Kb (EvS.ls (Xt (r:=(rV Xc)) 3 rfl (fun _ s=>(SC.r (SC.l (SC.l s)))))) (Ev.ls (Z3 (XA (Xt (r:=Xc) 4 rfl (fun _ s=>(SC.r s))) Zg)))) fun a27 C28=>(XE (J:=_) (x14.2.1, C28) ((g13 ++ [a27])) rfl rfl (fun _ s=>(SC.i (SC.i (SC.i (SC.i (SC.i SC.t (SC.r (SC.l (SC.l (SC.l (SC.l (SC.l s))))))) (SC.r (SC.l (SC.l (SC.l (SC.l s)))))) (SC.r (SC.l (SC.l (SC.l s))))) (SC.r (SC.l s))) (SC.r s))))) (XE (J:=_) (x14.2.1, x14.2.2) (g13) rfl rfl (fun _ s=>(SC.i (SC.i (SC.i (SC.i (SC.i SC.t (SC.r (SC.l (SC.l (SC.l (SC.l s)))))) (SC.r (SC.l (SC.l (SC.l s))))) (SC.r (SC.l (SC.l s)))) (SC.r s)) (SC.r (SC.l s)))))) fun g31 x30=>(XE (J:=_) ((some v16), x30.1, x30.2) (g31) rfl rfl (fun _ s=>(SC.i (SC.i (SC.i (SC.i SC.t (SC.r (SC.l (SC.l (SC.l (SC.l s)))))) (SC.r (SC.l (SC.l (SC.l s))))) (SC.r (SC.l (SC.l s)))) (SC.r s)))))) fun g32 x33=>(XE (J:=_) ((some v9), (x33.1), x33.2.1, x33.2.2) (g32) rfl rfl (fun _ s=>(SC.i (SC.i (SC.i SC.t (SC.r (SC.l (SC.l (SC.l s))))) (SC.r (SC.l (SC.l s)))) (SC.r s)))))) fun g35 x36=>(Xv (Zz (o:=(oL (oL (oF Xc)))) 2 0 rfl rfl (fun _ s=>(SC.r s))))))
theorem Y8 : FnScope ["count", "told", "place"] ["count"] (Xi Z5):=⟨rfl, rfl, rfl, by decide +kernel, rfl, by decide +kernel, by decide +kernel⟩
set_option maxHeartbeats 4000000 in
theorem V5 (D : Def K mg "each_once" Z5 ["count"]) (g_longer_by_one : Fn P w K mg base 1 "longer_by_one" ["lists", "count"] (sp2 (rV (rV Xc)) Xc (oL (oL (oF Xc))) YA K)) (Z : Blt mg) : Fn P w K mg base 2 "each_once" ["count"] (sp1 Xc (oL (oL (oF Xc))) Zx K):=by
  refine YH D Y8 (fun vs H Q E h=>?_) (fun f cdv A outer s H vs Q E hr h=>?_)
  . obtain ⟨v_0, a_0, b, rfl, _⟩:=h; rfl
  obtain ⟨v_0, a_0, b, rfl, h_0, hm, q⟩:=h
  have hu:=hu8 hr
  have hu1:=YE hr
  refine ⟨_, (Xb (XI (i:=1) Y8.nd rfl (Or.inl rfl) (Yn (Xd (Yn Xg) Xg Jd)))
    (Xb (XT PassesOwn.never rfl (XD rfl Z.b_range (Xd (pv 0) Xg)) (Xn (i:=2) Y8.nd rfl (Or.inl rfl))
      (Xb (XI (i:=1) Y8.nd rfl (Or.inl rfl) (Yh g_longer_by_one hr (by decide) (Xd (pv 1) (Xd (pv 0) Xg))))
      Xe))
    (Xb (Xr (pv 1))
    Xe))), ?_⟩
  refine Y5 (S:=(SC.add SC.nil K Xc v_0 a_0)) (σ:=[some v_0, none, none]) 1 ?_ (SC.i SC.t h_0) hm q rfl
  unfold Zx
  exact (Yi (K:=K) (o:=(oL (oL (oF Xc)))) 1 0 (Uk (Zj (VE (o:=(oF Xc))) fun _=>Va)) (Nat.le_of_ble_eq_true rfl) fun a1 v2 C3=>(ZA (K:=K) (J:=({ oo:=fun x8=>[x8.2.2], ss:=fun x8=>[some v_0, some x8.2.1, x8.1], sc:=fun g9 x8=>(SC.addO (SC.add SC.nil K Xc v_0 a_0) K (oL (oL (oF Xc))) x8.2.1 g9 x8.2.2) } : Jn ((List (List Int))) (Option V × V × List Xu))) (fun _=>tg1 2) ((none), v2, C3) (a1) (Xq (Xa (r:=Xc) 0 rfl (fun _ s=>(SC.r (SC.l s))))) rfl rfl (fun _ s=>(SC.i (SC.i SC.t (SC.r (SC.l s))) (SC.r s))) (fun g10 x11 a12 v13=>(Yi (K:=K) (o:=(oL (oL (oF Xc)))) 1 0 (Yp (YY (o:=(oL (oL (oF Xc)))) 1 0 rfl rfl (fun _ s=>(SC.r (SC.l s)))) (Xa (r:=Xc) 0 rfl (fun _ s=>(SC.r (SC.l (SC.l s)))))) (Nat.le_of_ble_eq_true rfl) fun a14 v15 C16=>(XE (J:=_) ((some v13), v15, C16) (a14) rfl rfl (fun _ s=>(SC.i (SC.i SC.t (SC.r (SC.l (SC.l (SC.l s))))) (SC.r s)))))) fun g20 x21=>(Xv (Zz (o:=(oL (oL (oF Xc)))) 1 0 rfl rfl (fun _ s=>(SC.r s))))))
theorem YM : FnScope ["table", "a", "row"] ["table"] (Xi Y6):=⟨rfl, rfl, rfl, by decide +kernel, rfl, by decide +kernel, by decide +kernel⟩
set_option maxHeartbeats 4000000 in
theorem QK (D : Def K mg "breach_of_one" Y6 ["table"])  (Z : Blt mg) : Fn P w K mg base 1 "breach_of_one" ["table"] (sp1 (rV (rV Xc)) (oF (ZG (rP2 Xc Xc))) Yw K):=by
  refine YH D YM (fun vs H Q E h=>?_) (fun f cdv A outer s H vs Q E hr h=>?_)
  . obtain ⟨v_0, a_0, b, rfl, _⟩:=h; rfl
  obtain ⟨v_0, a_0, b, rfl, h_0, hm, q⟩:=h
  have hu:=hu8 hr
  have hu1:=YE hr
  refine ⟨_, (Xb (XT PassesOwn.never rfl (Vv rfl Z.b_enumerate (pv 0)) (U5 rfl (Zd (Xn (i:=1) YM.nd rfl (Or.inl rfl)) (Zd (Xn (i:=2) YM.nd rfl (Or.inl rfl)) J4)))
      (Xb (Ym (Xo Vj (XR (Xk K rfl) (pv 2) (pv 1) (fun _ _=>rfl)) (pv 1) (Xz _))
        (Xb (Xr (UM (Xd Xh (Xd (pv 1) Xg))))
        Xe)
        Xe)
      Xe))
    (Xb (Xr QB)
    Xe)), ?_⟩
  refine Y5 (S:=(SC.add SC.nil K (rV (rV Xc)) v_0 a_0)) (σ:=[some v_0, none, none]) 0 ?_ (SC.i SC.t h_0) hm q rfl
  unfold Yw
  exact (Zt (K:=K) (J:=({ oo:=fun x2=>[], ss:=fun x2=>[some v_0, x2.1, x2.2], sc:=fun g3 x2=>(SC.add SC.nil K (rV (rV Xc)) v_0 a_0) } : Jn (Unit) (Option V × Option V))) (fun _=>tg2 1 2) ((none), (none)) () (Qj (Xt (r:=(rV (rV Xc))) 0 rfl (fun _ s=>(SC.r s)))) rfl rfl (fun _ s=>(SC.i SC.t (SC.r s))) (fun g4 x5 a6 v7=>(YZ (Xl (K:=K) (Qp (Xw (Xa (r:=(rV Xc)) 2 rfl (fun _ s=>(SC.r s))) (Xa (r:=Xc) 1 rfl (fun _ s=>(SC.r (SC.l s))))) (Xa (r:=Xc) 1 rfl (fun _ s=>(SC.r (SC.l s)))))) (Xv (QS BT (EvS.ev (UQ (EvB.sh (Xf 1)) (Xt (r:=Xc) 1 rfl (fun _ s=>(SC.r (SC.l s)))))))) (Za (XE (J:=_) ((some v7.1), (some v7.2)) () rfl rfl (fun _ s=>(SC.i SC.t (SC.r (SC.l (SC.l s))))))))) fun g18 x19=>(Xv Vt))
theorem Zp : FnScope ["column", "x", "colour"] ["column"] (Xi ZP):=⟨rfl, rfl, rfl, by decide +kernel, rfl, by decide +kernel, by decide +kernel⟩
set_option maxHeartbeats 4000000 in
theorem Vz (D : Def K mg "first_same" ZP ["column"])  (Z : Blt mg) : Fn P w K mg base 1 "first_same" ["column"] (sp1 (rV Xc) (oF (ZG (rP2 Xc Xc))) Y9 K):=by
  refine YH D Zp (fun vs H Q E h=>?_) (fun f cdv A outer s H vs Q E hr h=>?_)
  . obtain ⟨v_0, a_0, b, rfl, _⟩:=h; rfl
  obtain ⟨v_0, a_0, b, rfl, h_0, hm, q⟩:=h
  have hu:=hu8 hr
  have hu1:=YE hr
  refine ⟨_, (Xb (XT PassesOwn.never rfl (Vv rfl Z.b_enumerate (pv 0)) (U5 rfl (Zd (Xn (i:=1) Zp.nd rfl (Or.inl rfl)) (Zd (Xn (i:=2) Zp.nd rfl (Or.inl rfl)) J4)))
      (Xb (Ym (Xo GK (pv 2) (Vx (Vi K rfl) (pv 0) (UF (Xs Yl (pv 1) Xh)) Ui) rfl)
        (Xb (Xr (UM (Xd (pv 1) (Xd (Q8 PySem.F.plainAttrs_list PySem.F.slot_list_index PySem.F.type_list_index GB (pv 0) (Xd (pv 2) (Xd (Xs Yl (pv 1) Xh) Xg))) Xg))))
        Xe)
        Xe)
      Xe))
    (Xb (Xr QB)
    Xe)), ?_⟩
  refine Y5 (S:=(SC.add SC.nil K (rV Xc) v_0 a_0)) (σ:=[some v_0, none, none]) 0 ?_ (SC.i SC.t h_0) hm q rfl
  unfold Y9
  exact (Zt (K:=K) (J:=({ oo:=fun x2=>[], ss:=fun x2=>[some v_0, x2.1, x2.2], sc:=fun g3 x2=>(SC.add SC.nil K (rV Xc) v_0 a_0) } : Jn (Unit) (Option V × Option V))) (fun _=>tg2 1 2) ((none), (none)) () (Qj (Xt (r:=(rV Xc)) 0 rfl (fun _ s=>(SC.r s)))) rfl rfl (fun _ s=>(SC.i SC.t (SC.r s))) (fun g4 x5 a6 v7=>(YZ (Xl (K:=K) (B3 (Xa (r:=Xc) 2 rfl (fun _ s=>(SC.r s))) (Ev.toB (US (EvS.ls (Xt (r:=(rV Xc)) 0 rfl (fun _ s=>(SC.r (SC.l (SC.l s)))))) (Vm (K:=K) (XY (Xa (r:=Xc) 1 rfl (fun _ s=>(SC.r (SC.l s)))) (Xf 1))) J0)))) (Xv (QS BT (EvS.ev (UQ (Xt (r:=Xc) 1 rfl (fun _ s=>(SC.r (SC.l s)))) (EvB.sh (Ko (Xa (r:=(rV Xc)) 0 rfl (fun _ s=>(SC.r (SC.l (SC.l s))))) (Xa (r:=Xc) 2 rfl (fun _ s=>(SC.r s))) (XY (Xa (r:=Xc) 1 rfl (fun _ s=>(SC.r (SC.l s)))) (Xf 1)))))))) (Za (XE (J:=_) ((some v7.1), (some v7.2)) () rfl rfl (fun _ s=>(SC.i SC.t (SC.r (SC.l (SC.l s))))))))) fun g27 x28=>(Xv Vt))
theorem YI : FnScope ["table", "b", "pair"] ["table"] (Xi Yy):=⟨rfl, rfl, rfl, by decide +kernel, rfl, by decide +kernel, by decide +kernel⟩
set_option maxHeartbeats 4000000 in
theorem QI (D : Def K mg "breach_of_two" Yy ["table"]) (g_first_same : Fn P w K mg base 1 "first_same" ["column"] (sp1 (rV Xc) (oF (ZG (rP2 Xc Xc))) Y9 K)) (Z : Blt mg) : Fn P w K mg base 2 "breach_of_two" ["table"] (sp1 (rV (rV Xc)) (oF (ZG (rP4 Xc Xc Xc Xc))) Yv K):=by
  refine YH D YI (fun vs H Q E h=>?_) (fun f cdv A outer s H vs Q E hr h=>?_)
  . obtain ⟨v_0, a_0, b, rfl, _⟩:=h; rfl
  obtain ⟨v_0, a_0, b, rfl, h_0, hm, q⟩:=h
  have hu:=hu8 hr
  have hu1:=YE hr
  refine ⟨_, (Xb (XT PassesOwn.never rfl (XD rfl Z.b_range (Xd (Xy (Xp K rfl) rfl Z.b_len PySem.boot_len (Xd (pv 0) Xg)) Xg)) (Xn (i:=1) YI.nd rfl (Or.inr rfl))
      (Xb (XI (i:=2) YI.nd rfl (Or.inl rfl) (Yh g_first_same hr (by decide) (Xd (Zu (sc:=(Xi Yy)) (N0:=["table", "b", "pair"]) (tns:=["row"]) (caps:=[(1, "b")]) rfl (XW (K:=K) rfl (pv 0)) (Y3 (by decide)) (fun cl C s H ex E=>⟨Xn (i:=0) (show List.Nodup (["row", "b"] : List Str) by decide +kernel) rfl (Or.inl rfl), Zy, (XR (Xk K rfl) (pv 0) (pv 1) (fun _ _=>rfl))⟩)) Xg)))
      (Xb (Ym (Xo CV (pv 2) QB (Xz _))
        (Xb (Xr (UM (Xd Xh (Xd (pv 1) (Xd (XR (K5 K rfl) (pv 2) Xh (fun _ _=>rfl)) (Xd (XR (K5 K rfl) (pv 2) Xh (fun _ _=>rfl)) Xg))))))
        Xe)
        Xe)
      Xe)))
    (Xb (Xr QB)
    Xe)), ?_⟩
  refine Y5 (S:=(SC.add SC.nil K (rV (rV Xc)) v_0 a_0)) (σ:=[some v_0, none, none]) 0 ?_ (SC.i SC.t h_0) hm q rfl
  unfold Yv
  exact (Zt (K:=K) (J:=({ oo:=fun x3=>[], ss:=fun x3=>[some v_0, x3.1, x3.2], sc:=fun g4 x3=>(SC.add SC.nil K (rV (rV Xc)) v_0 a_0) } : Jn (Unit) (Option V × Option V))) (fun _=>tg1 1) ((none), (none)) () (Xq (Yj (Xa (r:=(rV (rV Xc))) 0 rfl (fun _ s=>(SC.r s))))) rfl rfl (fun _ s=>(SC.i SC.t (SC.r s))) (fun g5 x6 a7 v8=>(Ya (K:=K) (r:=(ZG (rP2 Xc Xc))) 2 (EvB.sh (Ev.toB (Yd (Ev.toB (Zr (fun _=>tg1 0) (X9 (Xt (r:=(rV (rV Xc))) 0 rfl (fun _ s=>(SC.r (SC.l s))))) (fun C12 a13 v14=>(EvS.ev (EvB.sh (Xw (Xa (r:=(rV Xc)) 0 rfl (fun _ s=>(SC.r s))) (Xa (r:=Xc) 1 rfl (fun _ s=>(SC.r (SC.l s))))))))))))) fun a9 v10=>(YZ (Xl (K:=K) (Fu (tb:=tC .non) (Xa (r:=(ZG (rP2 Xc Xc))) 2 rfl (fun _ s=>(SC.r s))))) (Xv (QS BL (EvS.ev (U1 (EvB.sh (Xf 2)) (Xt (r:=Xc) 1 rfl (fun _ s=>(SC.r (SC.l s)))) (EvB.sh (Ck (DA (Xa (r:=(ZG (rP2 Xc Xc))) 2 rfl (fun _ s=>(SC.r s)))))) (EvB.sh (DZ (DA (Xa (r:=(ZG (rP2 Xc Xc))) 2 rfl (fun _ s=>(SC.r s)))))))))) (Za (XE (J:=_) ((some v8), (some v10)) () rfl rfl (fun _ s=>(SC.i SC.t (SC.r (SC.l (SC.l s)))))))))) fun g30 x31=>(Xv Vt))
theorem XO : FnScope ["table", "a", "row", "b", "colour", "c"] ["table"] (Xi YC):=⟨rfl, rfl, rfl, by decide +kernel, rfl, by decide +kernel, by decide +kernel⟩
set_option maxHeartbeats 4000000 in
theorem Qq (D : Def K mg "breach_of_three" YC ["table"])  (Z : Blt mg) : Fn P w K mg base 1 "breach_of_three" ["table"] (sp1 (rV (rV Xc)) (oF (ZG (rP4 Xc Xc Xc Xc))) Yf K):=by
  refine YH D XO (fun vs H Q E h=>?_) (fun f cdv A outer s H vs Q E hr h=>?_)
  . obtain ⟨v_0, a_0, b, rfl, _⟩:=h; rfl
  obtain ⟨v_0, a_0, b, rfl, h_0, hm, q⟩:=h
  have hu:=hu8 hr
  have hu1:=YE hr
  refine ⟨_, (Xb (XT PassesOwn.never rfl (Vv rfl Z.b_enumerate (pv 0)) (U5 rfl (Zd (Xn (i:=1) XO.nd rfl (Or.inl rfl)) (Zd (Xn (i:=2) XO.nd rfl (Or.inl rfl)) J4)))
      (Xb (XT PassesOwn.never rfl (Vv rfl Z.b_enumerate (pv 2)) (U5 rfl (Zd (Xn (i:=3) XO.nd rfl (Or.inl rfl)) (Zd (Xn (i:=4) XO.nd rfl (Or.inl rfl)) J4)))
        (Xb (XT PassesOwn.never rfl (XD rfl Z.b_range (Xd (Xy (Xp K rfl) rfl Z.b_len PySem.boot_len (Xd (pv 0) Xg)) Xg)) (Xn (i:=5) XO.nd rfl (Or.inl rfl))
          (Xb (Ym (Xo Vj (XR (Xk K rfl) (XR (Xk K rfl) (pv 0) (pv 4) (fun _ _=>rfl)) (pv 5) (fun _ _=>rfl)) (XR (Xk K rfl) (XR (Xk K rfl) (pv 0) (XR (Xk K rfl) (pv 2) (pv 5) (fun _ _=>rfl)) (fun _ _=>rfl)) (XR (Xk K rfl) (XR (Xk K rfl) (pv 0) (pv 3) (fun _ _=>rfl)) (pv 5) (fun _ _=>rfl)) (fun _ _=>rfl)) (Xz _))
            (Xb (Xr (UM (Xd Xh (Xd (pv 1) (Xd (pv 3) (Xd (pv 5) Xg))))))
            Xe)
            Xe)
          Xe))
        Xe))
      Xe))
    (Xb (Xr QB)
    Xe)), ?_⟩
  refine Y5 (S:=(SC.add SC.nil K (rV (rV Xc)) v_0 a_0)) (σ:=[some v_0, none, none, none, none, none]) 0 ?_ (SC.i SC.t h_0) hm q rfl
  unfold Yf
  exact (Zt (K:=K) (J:=({ oo:=fun x2=>[], ss:=fun x2=>[some v_0, x2.1, x2.2.1, x2.2.2.1, x2.2.2.2.1, x2.2.2.2.2], sc:=fun g3 x2=>(SC.add SC.nil K (rV (rV Xc)) v_0 a_0) } : Jn (Unit) (Option V × Option V × Option V × Option V × Option V))) (fun _=>tg2 1 2) ((none), (none), (none), (none), (none)) () (Qj (Xt (r:=(rV (rV Xc))) 0 rfl (fun _ s=>(SC.r s)))) rfl rfl (fun _ s=>(SC.i SC.t (SC.r s))) (fun g4 x5 a6 v7=>(Qo (K:=K) (J:=({ oo:=fun x9=>[], ss:=fun x9=>[some v_0, some v7.1, some v7.2, x9.1, x9.2.1, x9.2.2], sc:=fun g10 x9=>(SC.add (SC.add (SC.add SC.nil K (rV (rV Xc)) v_0 a_0) K Xc v7.1 a6.1) K (rV Xc) v7.2 a6.2) } : Jn (Unit) (Option V × Option V × Option V))) (fun _=>tg2 3 4) ((x5.2.2.1), (x5.2.2.2.1), (x5.2.2.2.2)) () (Qj (Xt (r:=(rV Xc)) 2 rfl (fun _ s=>(SC.r s)))) rfl rfl (fun _ s=>(SC.i (SC.i (SC.i SC.t (SC.r (SC.l (SC.l s)))) (SC.r (SC.l s))) (SC.r s))) (fun g11 x12 a13 v14=>(Qo (K:=K) (J:=({ oo:=fun x17=>[], ss:=fun x17=>[some v_0, some v7.1, some v7.2, some v14.1, some v14.2, x17], sc:=fun g18 x17=>(SC.add (SC.add (SC.add (SC.add (SC.add SC.nil K (rV (rV Xc)) v_0 a_0) K Xc v7.1 a6.1) K (rV Xc) v7.2 a6.2) K Xc v14.1 a13.1) K Xc v14.2 a13.2) } : Jn (Unit) (Option V))) (fun _=>tg1 5) ((x12.2.2)) () (Xq (Yj (Xa (r:=(rV (rV Xc))) 0 rfl (fun _ s=>(SC.r (SC.l (SC.l (SC.l (SC.l s))))))))) rfl rfl (fun _ s=>(SC.i (SC.i (SC.i (SC.i (SC.i SC.t (SC.r (SC.l (SC.l (SC.l (SC.l s)))))) (SC.r (SC.l (SC.l (SC.l s))))) (SC.r (SC.l (SC.l s)))) (SC.r (SC.l s))) (SC.r s))) (fun g19 x20 a21 v22=>(YZ (Xl (K:=K) (Qp (Xw (Xw (Xa (r:=(rV (rV Xc))) 0 rfl (fun _ s=>(SC.r (SC.l (SC.l (SC.l (SC.l (SC.l s)))))))) (Xa (r:=Xc) 4 rfl (fun _ s=>(SC.r (SC.l s))))) (Xa (r:=Xc) 5 rfl (fun _ s=>(SC.r s)))) (Xw (Xw (Xa (r:=(rV (rV Xc))) 0 rfl (fun _ s=>(SC.r (SC.l (SC.l (SC.l (SC.l (SC.l s)))))))) (Xw (Xa (r:=(rV Xc)) 2 rfl (fun _ s=>(SC.r (SC.l (SC.l (SC.l s)))))) (Xa (r:=Xc) 5 rfl (fun _ s=>(SC.r s))))) (Xw (Xw (Xa (r:=(rV (rV Xc))) 0 rfl (fun _ s=>(SC.r (SC.l (SC.l (SC.l (SC.l (SC.l s)))))))) (Xa (r:=Xc) 3 rfl (fun _ s=>(SC.r (SC.l (SC.l s)))))) (Xa (r:=Xc) 5 rfl (fun _ s=>(SC.r s))))))) (Xv (QS BL (EvS.ev (U1 (EvB.sh (Xf 3)) (Xt (r:=Xc) 1 rfl (fun _ s=>(SC.r (SC.l (SC.l (SC.l (SC.l s))))))) (Xt (r:=Xc) 3 rfl (fun _ s=>(SC.r (SC.l (SC.l s))))) (Xt (r:=Xc) 5 rfl (fun _ s=>(SC.r s))))))) (Za (XE (J:=_) ((some v22)) () rfl rfl (fun _ s=>(SC.i (SC.i (SC.i (SC.i (SC.i SC.t (SC.r (SC.l (SC.l (SC.l (SC.l (SC.l s))))))) (SC.r (SC.l (SC.l (SC.l (SC.l s)))))) (SC.r (SC.l (SC.l (SC.l s))))) (SC.r (SC.l (SC.l s)))) (SC.r (SC.l s)))))))) fun g47 x48=>(Za (XE (J:=_) ((some v14.1), (some v14.2), (x48)) () rfl rfl (fun _ s=>(SC.i (SC.i (SC.i SC.t (SC.r (SC.l (SC.l (SC.l (SC.l s)))))) (SC.r (SC.l (SC.l (SC.l s))))) (SC.r (SC.l (SC.l s))))))))) fun g51 x52=>(Za (XE (J:=_) ((some v7.1), (some v7.2), (x52.1), (x52.2.1), (x52.2.2)) () rfl rfl (fun _ s=>(SC.i SC.t (SC.r (SC.l (SC.l s))))))))) fun g55 x56=>(Xv Vt))
theorem Qk : FnScope ["table", "wrong"] ["table"] (Xi Vp):=⟨rfl, rfl, rfl, by decide +kernel, rfl, by decide +kernel, by decide +kernel⟩
set_option maxHeartbeats 4000000 in
theorem GH (D : Def K mg "broken" Vp ["table"]) (g_breach_of_one : Fn P w K mg base 1 "breach_of_one" ["table"] (sp1 (rV (rV Xc)) (oF (ZG (rP2 Xc Xc))) Yw K)) (g_breach_of_two : Fn P w K mg base 2 "breach_of_two" ["table"] (sp1 (rV (rV Xc)) (oF (ZG (rP4 Xc Xc Xc Xc))) Yv K)) (g_breach_of_three : Fn P w K mg base 1 "breach_of_three" ["table"] (sp1 (rV (rV Xc)) (oF (ZG (rP4 Xc Xc Xc Xc))) Yf K)) (Z : Blt mg) : Fn P w K mg base 3 "broken" ["table"] (sp1 (rV (rV Xc)) (oF (ZG (rPL Xc))) QR K):=by
  refine YH D Qk (fun vs H Q E h=>?_) (fun f cdv A outer s H vs Q E hr h=>?_)
  . obtain ⟨v_0, a_0, b, rfl, _⟩:=h; rfl
  obtain ⟨v_0, a_0, b, rfl, h_0, hm, q⟩:=h
  have hu:=hu8 hr
  have hu1:=YE hr
  refine ⟨_, (Xb (XI (i:=1) Qk.nd rfl (Or.inl rfl) (Yh g_breach_of_one hr (by decide) (Xd (pv 0) Xg)))
    (Xb (Ym (Xo Gq (pv 1) QB (Xz _))
      (Xb (XI (i:=1) Qk.nd rfl (Or.inl rfl) (Yh g_breach_of_two hr (by decide) (Xd (pv 0) Xg)))
      Xe)
      Xe)
    (Xb (Ym (Xo Gq (pv 1) QB (Xz _))
      (Xb (XI (i:=1) Qk.nd rfl (Or.inl rfl) (Yh g_breach_of_three hr (by decide) (Xd (pv 0) Xg)))
      Xe)
      Xe)
    (Xb (Xr (pv 1))
    Xe)))), ?_⟩
  refine Y5 (S:=(SC.add SC.nil K (rV (rV Xc)) v_0 a_0)) (σ:=[some v_0, none]) 0 ?_ (SC.i SC.t h_0) hm q rfl
  unfold QR
  exact (Ya (K:=K) (r:=(ZG (rPL Xc))) 1 (Ev.sh (Fv (Yd (Xa (r:=(rV (rV Xc))) 0 rfl (fun _ s=>(SC.r s)))))) fun a1 v2=>(Qv (J:=({ oo:=fun x8=>[], ss:=fun x8=>[some v_0, some x8], sc:=fun g9 x8=>(SC.add (SC.add SC.nil K (rV (rV Xc)) v_0 a_0) K (ZG (rPL Xc)) x8 g9) } : Jn ((Option (List Int))) (V))) (JN (Fd:=FNd ({ oo:=fun x8=>[], ss:=fun x8=>[some v_0, some x8], sc:=fun g9 x8=>(SC.add (SC.add SC.nil K (rV (rV Xc)) v_0 a_0) K (ZG (rPL Xc)) x8 g9) } : Jn ((Option (List Int))) (V))) (Xl (K:=K) (UG (tb:=tC .non) (Xa (r:=(ZG (rPL Xc))) 1 rfl (fun _ s=>(SC.r s))))) (Ya (K:=K) (r:=(ZG (rPL Xc))) 1 (Ev.sh (U7 (Yd (Xa (r:=(rV (rV Xc))) 0 rfl (fun _ s=>(SC.r (SC.l s))))))) fun a10 v11=>(XE (J:=_) (v11) (a10) rfl rfl (fun _ s=>(SC.i (SC.i SC.t (SC.r (SC.l (SC.l s)))) (SC.r s))))) (XE (J:=_) (v2) (a1) rfl rfl (fun _ s=>(SC.i (SC.i SC.t (SC.r (SC.l s))) (SC.r s))))) fun g16 x15=>(Qv (J:=({ oo:=fun x19=>[], ss:=fun x19=>[some v_0, some x19], sc:=fun g20 x19=>(SC.add (SC.add SC.nil K (rV (rV Xc)) v_0 a_0) K (ZG (rPL Xc)) x19 g20) } : Jn ((Option (List Int))) (V))) (JN (Fd:=FNd ({ oo:=fun x19=>[], ss:=fun x19=>[some v_0, some x19], sc:=fun g20 x19=>(SC.add (SC.add SC.nil K (rV (rV Xc)) v_0 a_0) K (ZG (rPL Xc)) x19 g20) } : Jn ((Option (List Int))) (V))) (Xl (K:=K) (UG (tb:=tC .non) (Xa (r:=(ZG (rPL Xc))) 1 rfl (fun _ s=>(SC.r s))))) (Ya (K:=K) (r:=(ZG (rPL Xc))) 1 (Ev.sh (U7 (Yd (Xa (r:=(rV (rV Xc))) 0 rfl (fun _ s=>(SC.r (SC.l s))))))) fun a21 v22=>(XE (J:=_) (v22) (a21) rfl rfl (fun _ s=>(SC.i (SC.i SC.t (SC.r (SC.l (SC.l s)))) (SC.r s))))) (XE (J:=_) (x15) (g16) rfl rfl (fun _ s=>(SC.i (SC.i SC.t (SC.r (SC.l s))) (SC.r s))))) fun g27 x26=>(Xv (EvS.ev (Xt (r:=(ZG (rPL Xc))) 1 rfl (fun _ s=>(SC.r s))))))))
theorem Qc : FnScope ["columns"] ["columns"] (Xi XU):=⟨rfl, rfl, rfl, by decide +kernel, rfl, by decide +kernel, by decide +kernel⟩
set_option maxHeartbeats 4000000 in
theorem Z8 (D : Def K mg "table_of_columns" XU ["columns"])  (Z : Blt mg) : Fn P w K mg base 1 "table_of_columns" ["columns"] (sp1 (rV (rV Xc)) (oL (oL (oF Xc))) Yb K):=by
  refine YH D Qc (fun vs H Q E h=>?_) (fun f cdv A outer s H vs Q E hr h=>?_)
  . obtain ⟨v_0, a_0, b, rfl, _⟩:=h; rfl
  obtain ⟨v_0, a_0, b, rfl, h_0, hm, q⟩:=h
  have hu:=hu8 hr
  have hu1:=YE hr
  refine ⟨_, (Xb (Xr (U8 (sc:=(Xi XU)) (N0:=["columns"]) (tns:=["a"]) (caps:=[(0, "columns")]) rfl (XD rfl Z.b_range (Xd (Xy (Xp K rfl) rfl Z.b_len PySem.boot_len (Xd (pv 0) Xg)) Xg)) (Y3 (by decide)) (fun cl C s H ex E=>⟨Xn (i:=0) (show List.Nodup (["a", "columns"] : List Str) by decide +kernel) rfl (Or.inr rfl) (hf:=Or.inl rfl), Zy, (U8 (sc:=(ES Fq (Xi XU))) (N0:=["a", "columns"]) (tns:=["column"]) (caps:=[(0, "a")]) rfl (XW (K:=K) rfl (pv 1)) (Y3 (by decide)) (fun cl C s H ex E=>⟨Xn (i:=0) (show List.Nodup (["column", "a"] : List Str) by decide +kernel) rfl (Or.inl rfl), Zy, (XR (Xk K rfl) (pv 0) (pv 1) (fun _ _=>rfl))⟩))⟩)))
    Xe), ?_⟩
  refine Y5 (S:=(SC.add SC.nil K (rV (rV Xc)) v_0 a_0)) (σ:=[some v_0]) 0 ?_ (SC.i SC.t h_0) hm q rfl
  unfold Yb
  exact (Xv (Zr (fun _=>tg1 0) (Xq (Yj (Xa (r:=(rV (rV Xc))) 0 rfl (fun _ s=>(SC.r s))))) (fun C3 a4 v5=>(Zr (fun _=>tg1 0) (X9 (Xt (r:=(rV (rV Xc))) 1 rfl (fun _ s=>(SC.r (SC.l s))))) (fun C7 a8 v9=>(EvS.ev (EvB.sh (Xw (Xa (r:=(rV Xc)) 0 rfl (fun _ s=>(SC.r s))) (Xa (r:=Xc) 1 rfl (fun _ s=>(SC.r (SC.l s))))))))))))
theorem Yg : FnScope ["choices", "columns", "longer", "ahead"] ["choices", "columns"] (Xi X8):=⟨rfl, rfl, rfl, by decide +kernel, rfl, by decide +kernel, by decide +kernel⟩
set_option maxHeartbeats 4000000 in
theorem ZZ (D : Def K mg "longer_by_columns" X8 ["choices", "columns"])  (Z : Blt mg) : Fn P w K mg base 1 "longer_by_columns" ["choices", "columns"] (EU (rV (rV (rV Xc))) (rV (rV Xc)) (oL (oL (oF (rV Xc)))) X4 K):=by
  refine YH D Yg (fun vs H Q E h=>?_) (fun f cdv A outer s H vs Q E hr h=>?_)
  . obtain ⟨v_0, v_1, a_0, a_1, b, rfl, _⟩:=h; rfl
  obtain ⟨v_0, v_1, a_0, a_1, b, rfl, Cf, hw, h_0, h_1, hm, q⟩:=h
  have hu:=hu8 hr
  have hu1:=YE hr
  refine ⟨_, (Xb (XI (i:=2) Yg.nd rfl (Or.inl rfl) (Yn Xg))
    (Xb (XT PassesOwn.never rfl (XW (K:=K) rfl (pv 0)) (Xn (i:=3) Yg.nd rfl (Or.inr rfl))
      (Xb (YX (Q8 PySem.F.plainAttrs_list PySem.F.slot_list_extend PySem.F.type_list_extend Gc (pv 2) (Xd (Zu (sc:=(Xi X8)) (N0:=["choices", "columns", "longer", "ahead"]) (tns:=["column"]) (caps:=[(3, "ahead")]) rfl (XW (K:=K) rfl (pv 1)) (Y3 (by decide)) (fun cl C s H ex E=>⟨Xn (i:=0) (show List.Nodup (["column", "ahead"] : List Str) by decide +kernel) rfl (Or.inl rfl), Zy, (Xs UJ (pv 1) (Yn (Xd (pv 0) Xg)))⟩)) Xg)))
      Xe))
    (Xb (Xr (pv 2))
    Xe))), ?_⟩
  refine Dp (S:=(SC.add (SC.add SC.nil K (rV (rV (rV Xc))) v_0 a_0) K (rV (rV Xc)) v_1 a_1)) (σ:=[some v_0, some v_1, none, none]) 1 ?_ hw (SC.i (SC.i SC.t h_0) h_1) hm q rfl
  unfold X4
  exact (Yi (K:=K) (o:=(oL (oL (oF (rV Xc))))) 2 0 (VE (o:=(oL (oF (rV Xc))))) (Nat.le_of_ble_eq_true rfl) fun a1 v2 C3=>(ZA (K:=K) (J:=({ oo:=fun x4=>[x4.2.2, Cf], ss:=fun x4=>[some v_0, some v_1, some x4.2.1, x4.1], sc:=fun g5 x4=>(SC.addO (SC.add (SC.add SC.nil K (rV (rV (rV Xc))) v_0 a_0) K (rV (rV Xc)) v_1 a_1) K (oL (oL (oF (rV Xc)))) x4.2.1 g5 x4.2.2) } : Jn ((List (List (List Int)))) (Option V × V × List Xu))) (fun _=>tg1 3) ((none), v2, C3) (a1) (X9 (Xt (r:=(rV (rV (rV Xc)))) 0 rfl (fun _ s=>(SC.r (SC.l (SC.l s)))))) rfl rfl (fun _ s=>(SC.i (SC.i (SC.i SC.t (SC.r (SC.l (SC.l s)))) (SC.r (SC.l s))) (SC.r s))) (fun g6 x7 a8 v9=>(BW (K:=K) (o:=(oL (oF (rV Xc)))) (f:=fun a21=>(Res.ok (a21))) 2 0 rfl rfl rfl (fun _ s=>(SC.r (SC.l s))) (Zr (fun _=>tg1 0) (X9 (Xt (r:=(rV (rV Xc))) 1 rfl (fun _ s=>(SC.r (SC.l (SC.l s)))))) (fun C10 a11 v12=>(Kb (EvS.ls (Xt (r:=(rV (rV Xc))) 1 rfl (fun _ s=>(SC.r (SC.l s))))) (Ev.ls (Z3 (XA (Xt (r:=(rV Xc)) 0 rfl (fun _ s=>(SC.r s))) Zg)))))) fun a19 C20=>(XE (J:=_) ((some v9), x7.2.1, C20) ((g6 ++ a19)) rfl rfl (fun _ s=>(SC.i (SC.i (SC.i SC.t (SC.r (SC.l (SC.l (SC.l (SC.l s)))))) (SC.r (SC.l (SC.l (SC.l s))))) (SC.r s)))))) fun g22 x23=>(Kf (K:=K) 1 rfl (Zz (o:=(oL (oL (oF (rV Xc))))) 2 0 rfl rfl (fun _ s=>(SC.r s))))))
theorem Yo : FnScope ["size", "lists", "told", "b"] ["size"] (Xi YQ):=⟨rfl, rfl, rfl, by decide +kernel, rfl, by decide +kernel, by decide +kernel⟩
set_option maxHeartbeats 4000000 in
theorem Jz (D : Def K mg "all_columns" YQ ["size"]) (g_each_once : Fn P w K mg base 2 "each_once" ["count"] (sp1 Xc (oL (oL (oF Xc))) Zx K)) (g_longer_by_columns : Fn P w K mg base 1 "longer_by_columns" ["choices", "columns"] (EU (rV (rV (rV Xc))) (rV (rV Xc)) (oL (oL (oF (rV Xc)))) X4 K)) (Z : Blt mg) : Fn P w K mg base 3 "all_columns" ["size"] (EY Xc (oL (oL (oF (rV Xc)))) YR K):=by
  refine YH D Yo (fun vs H Q E h=>?_) (fun f cdv A outer s H vs Q E hr h=>?_)
  . obtain ⟨v_0, a_0, b, rfl, _⟩:=h; rfl
  obtain ⟨v_0, a_0, b, rfl, Cf, hw, h_0, hm, q⟩:=h
  have hu:=hu8 hr
  have hu1:=YE hr
  refine ⟨_, (Xb (XI (i:=1) Yo.nd rfl (Or.inl rfl) (Yh g_each_once hr (by decide) (Xd (pv 0) Xg)))
    (Xb (XI (i:=2) Yo.nd rfl (Or.inl rfl) (Yn (Xd (Yn Xg) Xg Jd)))
    (Xb (XT PassesOwn.never rfl (XD rfl Z.b_range (Xd (pv 0) Xg)) (Xn (i:=3) Yo.nd rfl (Or.inr rfl))
      (Xb (XI (i:=2) Yo.nd rfl (Or.inl rfl) (Yh g_longer_by_columns hr (by decide) (Xd (pv 2) (Xd (Zu (sc:=(Xi YQ)) (N0:=["size", "lists", "told", "b"]) (tns:=["order"]) (caps:=[(3, "b")]) rfl (XW (K:=K) rfl (pv 1)) (Y3 (by decide)) (fun cl C s H ex E=>⟨Xn (i:=0) (show List.Nodup (["order", "b"] : List Str) by decide +kernel) rfl (Or.inl rfl), (GX (Xo Z0 (XR (Xk K rfl) (pv 0) (pv 1) (fun _ _=>rfl)) (pv 1) (Xz _))), (pv 0)⟩)) Xg))))
      Xe))
    (Xb (Xr (pv 2))
    Xe)))), ?_⟩
  refine Dp (S:=(SC.add SC.nil K Xc v_0 a_0)) (σ:=[some v_0, none, none, none]) 1 ?_ hw (SC.i SC.t h_0) hm q rfl
  unfold YR
  exact (Ya (K:=K) (r:=(rV (rV Xc))) 1 (Ev.sh (Yd (Xa (r:=Xc) 0 rfl (fun _ s=>(SC.r s))))) fun a1 v2=>(Yi (K:=K) (o:=(oL (oL (oF (rV Xc))))) 2 0 (Uk (Zj (VE (o:=(oF (rV Xc)))) fun _=>Va)) (Nat.le_of_ble_eq_true rfl) fun a5 v6 C7=>(ZA (K:=K) (J:=({ oo:=fun x12=>[x12.2.2, Cf], ss:=fun x12=>[some v_0, some v2, some x12.2.1, x12.1], sc:=fun g13 x12=>(SC.addO (SC.add (SC.add SC.nil K Xc v_0 a_0) K (rV (rV Xc)) v2 a1) K (oL (oL (oF (rV Xc)))) x12.2.1 g13 x12.2.2) } : Jn ((List (List (List Int)))) (Option V × V × List Xu))) (fun _=>tg1 3) ((none), v6, C7) (a5) (Xq (Xa (r:=Xc) 0 rfl (fun _ s=>(SC.r (SC.l (SC.l s)))))) rfl rfl (fun _ s=>(SC.i (SC.i (SC.i SC.t (SC.r (SC.l (SC.l s)))) (SC.r (SC.l s))) (SC.r s))) (fun g14 x15 a16 v17=>(En (K:=K) (o:=(oL (oL (oF (rV Xc))))) 0 rfl (fun _ s=>(SC.r (SC.l s))) (Yi (K:=K) (o:=(oL (oL (oF (rV Xc))))) 2 0 (G1 (Xt (r:=(rV (rV (rV Xc)))) 2 rfl (fun _ s=>(SC.r s))) (Ev.sh (Fm (fun _=>tg1 0) (X9 (Xt (r:=(rV (rV Xc))) 1 rfl (fun _ s=>(SC.r (SC.l (SC.l (SC.l s))))))) (fun C22 a23 v24=>(Xl (K:=K) (YN (Xw (Xa (r:=(rV Xc)) 0 rfl (fun _ s=>(SC.r s))) (Xa (r:=Xc) 1 rfl (fun _ s=>(SC.r (SC.l (SC.l s)))))) (Xa (r:=Xc) 1 rfl (fun _ s=>(SC.r (SC.l (SC.l s)))))))) (fun C22 a23 v24=>(EvS.ev (Xt (r:=(rV Xc)) 0 rfl (fun _ s=>(SC.r s)))))))) (Nat.le_of_ble_eq_true rfl) fun a18 v19 C20=>(XE (J:=_) ((some v17), v19, C20) (a18) rfl rfl (fun _ s=>(SC.i (SC.i (SC.i SC.t (SC.r (SC.l (SC.l (SC.l (SC.l (SC.l s))))))) (SC.r (SC.l (SC.l (SC.l (SC.l s)))))) (SC.r s))))))) fun g32 x33=>(Kf (K:=K) 1 rfl (Zz (o:=(oL (oL (oF (rV Xc))))) 2 0 rfl rfl (fun _ s=>(SC.r s)))))))
theorem VX : FnScope ["size", "tried"] ["size"] (Xi Ql):=⟨rfl, rfl, rfl, by decide +kernel, rfl, by decide +kernel, by decide +kernel⟩
set_option maxHeartbeats 4000000 in
theorem Gj (D : Def K mg "tables" Ql ["size"]) (g_refuse_above : Fn P w K mg base 1 "refuse_above" ["most", "size"] (sp2 Xc Xc oU YF K)) (g_table_of_columns : Fn P w K mg base 1 "table_of_columns" ["columns"] (sp1 (rV (rV Xc)) (oL (oL (oF Xc))) Yb K)) (g_all_columns : Fn P w K mg base 3 "all_columns" ["size"] (EY Xc (oL (oL (oF (rV Xc)))) YR K)) (g_broken : Fn P w K mg base 3 "broken" ["table"] (sp1 (rV (rV Xc)) (oF (ZG (rPL Xc))) QR K)) (Z : Blt mg) : Fn P w K mg base 4 "tables" ["size"] (sp1 Xc (oL (oL (oL (oF Xc)))) Ye K):=by
  refine YH D VX (fun vs H Q E h=>?_) (fun f cdv A outer s H vs Q E hr h=>?_)
  . obtain ⟨v_0, a_0, b, rfl, _⟩:=h; rfl
  obtain ⟨v_0, a_0, b, rfl, h_0, hm, q⟩:=h
  have hu:=hu8 hr
  have hu1:=YE hr
  refine ⟨_, (Xb (YX (Yh g_refuse_above hr (by decide) (Xd (Ej Z.c_MOST_OF_ALL rfl) (Xd (pv 0) Xg))))
    (Xb (Ge 1 (Xi Ql) ["size", "tried"] ["columns"] [] rfl VX.nd rfl rfl (XW (K:=K) rfl (Yh g_all_columns hr (by decide) (Xd (pv 0) Xg))) (Y3 (by decide)) (fun cl C s H ex E=>⟨Xn (i:=0) (show List.Nodup (["columns"] : List Str) by decide +kernel) rfl (Or.inl rfl), Zy, (Yh g_table_of_columns hr (by decide) (Xd (pv 0) Xg))⟩))
    (Xb (Xr (Xy (Jg (DX eq_int) DB (VH Df) K rfl (Cr (by decide) hu)) rfl Z.b_sorted PyProof.Rows.boot_sorted (Xd (Zu (sc:=(Xi Ql)) (N0:=["size", "tried"]) (tns:=["table"]) (caps:=[]) rfl (XW (K:=K) rfl (pv 1)) (Y3 (by decide)) (fun cl C s H ex E=>⟨Xn (i:=0) (show List.Nodup (["table"] : List Str) by decide +kernel) rfl (Or.inl rfl), (GX (Xo Gq (Yh g_broken hr (by decide) (Xd (pv 0) Xg)) QB (Xz _))), (pv 0)⟩)) Xg)))
    Xe))), ?_⟩
  refine Y5 (S:=(SC.add SC.nil K Xc v_0 a_0)) (σ:=[some v_0, none]) 1 ?_ (SC.i SC.t h_0) hm q rfl
  unfold Ye
  exact (DP (Ev.toB (Yp (Xf 4) (Xa (r:=Xc) 0 rfl (fun _ s=>(SC.r s))))) (Yi (K:=K) (o:=(oL (oL (oL (oF Xc))))) 1 0 (Zr (fun _=>tg1 0) (X9 (Ev.sh (K8 (Xt (r:=Xc) 0 rfl (fun _ s=>(SC.r s)))))) (fun C10 a11 v12=>(Yd (Xa (r:=(rV (rV Xc))) 0 rfl (fun _ s=>(SC.r s)))))) (Nat.le_of_ble_eq_true rfl) fun a5 v6 C7=>(Xv (FM (r:=rV Xc) (lt:=ltG ltI) (C5 (K:=K) (o:=(oL (oL (oF Xc)))) (r:=(rV (rV Xc))) 1 0 (by decide) rfl rfl (fun _ s=>(SC.r s)) (fun C17 a18 v19=>(Xl (K:=K) (UG (tb:=tC .non) (Ev.toB (Yd (Xa (r:=(rV (rV Xc))) 0 rfl (fun _ s=>(SC.r s)))))))))))))
theorem Vr : FnScope ["_law_script", "_law_place", "_law_seed", "_law_cell_here"] ["_law_script", "_law_place"] (Xi GU):=⟨rfl, rfl, rfl, by decide +kernel, rfl, by decide +kernel, by decide +kernel⟩
set_option maxHeartbeats 4000000 in
theorem CC (D : Def K mg "_law_cell" GU ["_law_script", "_law_place"])  (Z : Blt mg) : Fn P w K mg base 1 "_law_cell" ["_law_script", "_law_place"] (sp2 (rL Xc) Xc (oF Xc) QX K):=by
  refine YH D Vr (fun vs H Q E h=>?_) (fun f cdv A outer s H vs Q E hr h=>?_)
  . obtain ⟨v_0, v_1, a_0, a_1, b, rfl, _⟩:=h; rfl
  obtain ⟨v_0, v_1, a_0, a_1, b, rfl, h_0, h_1, hm, q⟩:=h
  have hu:=hu8 hr
  have hu1:=YE hr
  refine ⟨_, (Xb (Ym (Xo Kv (pv 1) (Xy (Xp K rfl) rfl Z.b_len PySem.boot_len (Xd (pv 0) Xg)) (Xz _))
      (Xb (Xr (XR (Xk K rfl) (pv 0) (pv 1) (fun _ _=>rfl)))
      Xe)
      Xe)
    (Xb (XI (i:=2) Vr.nd rfl (Or.inl rfl) Xh)
    (Xb (XT PassesOwn.never rfl (XW (K:=K) rfl (Vx (Vi K rfl) (pv 0) Ui (UF Xh))) (Xn (i:=3) Vr.nd rfl (Or.inl rfl))
      (Xb (XI (i:=2) Vr.nd rfl (Or.inl rfl) (Xs Yu (Xs Yl (Xs Yl (Xs ZB (pv 2) Xh) (Xs Yu (pv 3) Xh)) Xh) Xh))
      Xe))
    (Xb (Xr (Xs Yu (Xs Yl (pv 2) (Xs ZB Xh (pv 1))) Xh))
    Xe)))), ?_⟩
  refine Y5 (S:=(SC.add (SC.add SC.nil K (rL Xc) v_0 a_0) K Xc v_1 a_1)) (σ:=[some v_0, some v_1, none, none]) 0 ?_ (SC.i (SC.i SC.t h_0) h_1) hm q rfl
  unfold QX
  exact (ZD (Xl (K:=K) (JW (Xa (r:=Xc) 1 rfl (fun _ s=>(SC.r s))) (Fj (Xa (r:=(rL Xc)) 0 rfl (fun _ s=>(SC.r (SC.l s))))))) (Xv (EvS.ev (EvB.sh (CY (Xa (r:=(rL Xc)) 0 rfl (fun _ s=>(SC.r (SC.l s)))) (Xa (r:=Xc) 1 rfl (fun _ s=>(SC.r s))))))) (Ya (K:=K) (r:=Xc) 2 (EvB.sh (Xf 5)) fun a7 v8=>(ZA (K:=K) (J:=({ oo:=fun x13=>[], ss:=fun x13=>[some v_0, some v_1, some x13.2, x13.1], sc:=fun g14 x13=>(SC.add (SC.add (SC.add SC.nil K (rL Xc) v_0 a_0) K Xc v_1 a_1) K Xc x13.2 g14) } : Jn (Int) (Option V × V))) (fun _=>tg1 3) ((none), v8) (a7) (X9 (Ev.sh (GG (Xa (r:=(rL Xc)) 0 rfl (fun _ s=>(SC.r (SC.l (SC.l s))))) J0 (Vm (K:=K) (Xf 63))))) rfl rfl (fun _ s=>(SC.i (SC.i (SC.i SC.t (SC.r (SC.l (SC.l s)))) (SC.r (SC.l s))) (SC.r s))) (fun g15 x16 a17 v18=>(Ya (K:=K) (r:=Xc) 2 (EvB.sh (X7 (XY (XY (YJ (Xa (r:=Xc) 2 rfl (fun _ s=>(SC.r (SC.l s)))) (Xf 48271)) (X7 (Xa (r:=Xc) 3 rfl (fun _ s=>(SC.r s))) (Xf 1000003))) (Xf 1)) (Xf 2147483647))) fun a19 v20=>(XE (J:=_) ((some v18), v20) (a19) rfl rfl (fun _ s=>(SC.i (SC.i (SC.i SC.t (SC.r (SC.l (SC.l (SC.l (SC.l s)))))) (SC.r (SC.l (SC.l (SC.l s))))) (SC.r s)))))) fun g31 x32=>(Xv (EvS.ev (EvB.sh (X7 (XY (Xa (r:=Xc) 2 rfl (fun _ s=>(SC.r s))) (YJ (Xf 7919) (Xa (r:=Xc) 1 rfl (fun _ s=>(SC.r (SC.l s)))))) (Xf 1000003))))))))
theorem GI : FnScope ["_law_cell_here", "_law_k", "_law_one", "_law_two"] ["_law_cell_here", "_law_k"] (Xi Ba):=⟨rfl, rfl, rfl, by decide +kernel, rfl, by decide +kernel, by decide +kernel⟩
set_option maxHeartbeats 4000000 in
theorem Bz (D : Def K mg "_law_mix" Ba ["_law_cell_here", "_law_k"])  (Z : Blt mg) : Fn P w K mg base 1 "_law_mix" ["_law_cell_here", "_law_k"] (sp2 Xc Xc (oF Xc) Ul K):=by
  refine YH D GI (fun vs H Q E h=>?_) (fun f cdv A outer s H vs Q E hr h=>?_)
  . obtain ⟨v_0, v_1, a_0, a_1, b, rfl, _⟩:=h; rfl
  obtain ⟨v_0, v_1, a_0, a_1, b, rfl, h_0, h_1, hm, q⟩:=h
  have hu:=hu8 hr
  have hu1:=YE hr
  refine ⟨_, (Xb (XI (i:=2) GI.nd rfl (Or.inl rfl) (Xs Yu (Xs DE (Xs Yl (Xs Yl (Xs Yu (pv 0) Xh) (Xs ZB Xh (pv 1))) Xh) Xh) Xh))
    (Xb (XI (i:=3) GI.nd rfl (Or.inl rfl) (Xs Yu (Xs Yl (Xs Yl (Xs ZB (pv 2) Xh) (Xs ZB (Xs ZB Xh (pv 1)) (pv 1))) Xh) Xh))
    (Xb (Xr (Xs J6 (pv 3) Xh))
    Xe))), ?_⟩
  refine Y5 (S:=(SC.add (SC.add SC.nil K Xc v_0 a_0) K Xc v_1 a_1)) (σ:=[some v_0, some v_1, none, none]) 0 ?_ (SC.i (SC.i SC.t h_0) h_1) hm q rfl
  unfold Ul
  exact (Ya (K:=K) (r:=Xc) 2 (EvB.sh (X7 (KN (XY (XY (X7 (Xa (r:=Xc) 0 rfl (fun _ s=>(SC.r (SC.l s)))) (Xf 2147483629)) (YJ (Xf 1013) (Xa (r:=Xc) 1 rfl (fun _ s=>(SC.r s))))) (Xf 7919)) (Xf 3)) (Xf 2147483647))) fun a1 v2=>(Ya (K:=K) (r:=Xc) 3 (EvB.sh (X7 (XY (XY (YJ (Xa (r:=Xc) 2 rfl (fun _ s=>(SC.r s))) (Xf 40699)) (YJ (YJ (Xf 3793) (Xa (r:=Xc) 1 rfl (fun _ s=>(SC.r (SC.l s))))) (Xa (r:=Xc) 1 rfl (fun _ s=>(SC.r (SC.l s)))))) (Xf 11)) (Xf 2147483399))) fun a15 v16=>(Xv (EvS.ev (EvB.sh (UA (Xa (r:=Xc) 3 rfl (fun _ s=>(SC.r s))) (Xf 101)))))))
theorem Q6 : FnScope ["_law_script", "_law_place", "_law_sizes", "_law_cell_here", "_law_left", "_law_some", "_law_k", "_law_other"] ["_law_script", "_law_place", "_law_sizes"] (Xi DR):=⟨rfl, rfl, rfl, by decide +kernel, rfl, by decide +kernel, by decide +kernel⟩
set_option maxHeartbeats 4000000 in
theorem Ec (D : Def K mg "_law_row" DR ["_law_script", "_law_place", "_law_sizes"]) (g_cell : Fn P w K mg base 1 "_law_cell" ["_law_script", "_law_place"] (sp2 (rL Xc) Xc (oF Xc) QX K)) (g_mix : Fn P w K mg base 1 "_law_mix" ["_law_cell_here", "_law_k"] (sp2 Xc Xc (oF Xc) Ul K)) (Z : Blt mg) : Fn P w K mg base 2 "_law_row" ["_law_script", "_law_place", "_law_sizes"] (sp3 (rL Xc) Xc (rV Xc) (oL (oF Xc)) V0 K):=by
  refine YH D Q6 (fun vs H Q E h=>?_) (fun f cdv A outer s H vs Q E hr h=>?_)
  . obtain ⟨v_0, v_1, v_2, a_0, a_1, a_2, b, rfl, _⟩:=h; rfl
  obtain ⟨v_0, v_1, v_2, a_0, a_1, a_2, b, rfl, h_0, h_1, h_2, hm, q⟩:=h
  have hu:=hu8 hr
  have hu1:=YE hr
  refine ⟨_, (Xb (XI (i:=3) Q6.nd rfl (Or.inl rfl) (Yh g_cell hr (by decide) (Xd (pv 0) (Xd (pv 1) Xg))))
    (Xb (XI (i:=4) Q6.nd rfl (Or.inl rfl) (pv 3))
    (Xb (XI (i:=5) Q6.nd rfl (Or.inl rfl) (Yn Xg))
    (Xb (XT PassesOwn.never rfl (XD rfl Z.b_range (Xd (Xy (Xp K rfl) rfl Z.b_len PySem.boot_len (Xd (pv 2) Xg)) Xg)) (Xn (i:=6) Q6.nd rfl (Or.inl rfl))
      (Xb (Ym (Xo Kv (pv 3) (Xs DE Xh Xh) (Xz _))
        (Xb (YX (Q8 PySem.F.plainAttrs_list PySem.F.slot_list_append PySem.F.type_list_append YG (pv 5) (Xd (Xs Yu (Yh g_mix hr (by decide) (Xd (pv 3) (Xd (pv 6) Xg))) (XR (Xk K rfl) (pv 2) (pv 6) (fun _ _=>rfl))) Xg)))
        Xe)
        (Xb (Ym (Xo KP (pv 4) Xh (Xz _))
          (Xb (YX (Q8 PySem.F.plainAttrs_list PySem.F.slot_list_append PySem.F.type_list_append YG (pv 5) (Xd (Xs Yu (pv 4) (XR (Xk K rfl) (pv 2) (pv 6) (fun _ _=>rfl))) Xg)))
          (Xb (XI (i:=4) Q6.nd rfl (Or.inl rfl) (Xs J6 (pv 4) (XR (Xk K rfl) (pv 2) (pv 6) (fun _ _=>rfl))))
          Xe))
          (Xb (XI (i:=7) Q6.nd rfl (Or.inl rfl) (Yh g_cell hr (by decide) (Xd (pv 0) (Xd (Xs Yu (Xs Yl (Xs Yl (pv 1) Xh) (pv 6)) Xh) Xg))))
          (Xb (YX (Q8 PySem.F.plainAttrs_list PySem.F.slot_list_append PySem.F.type_list_append YG (pv 5) (Xd (Xs Yu (Yh g_mix hr (by decide) (Xd (pv 7) (Xd (pv 6) Xg))) (XR (Xk K rfl) (pv 2) (pv 6) (fun _ _=>rfl))) Xg)))
          Xe)))
        Xe))
      Xe))
    (Xb (Xr (pv 5))
    Xe))))), ?_⟩
  refine Y5 (S:=(SC.add (SC.add (SC.add SC.nil K (rL Xc) v_0 a_0) K Xc v_1 a_1) K (rV Xc) v_2 a_2)) (σ:=[some v_0, some v_1, some v_2, none, none, none, none, none]) 1 ?_ (SC.i (SC.i (SC.i SC.t h_0) h_1) h_2) hm q rfl
  unfold V0
  exact (Ya (K:=K) (r:=Xc) 3 (EvB.sh (Ev.toB (Yp (Xa (r:=(rL Xc)) 0 rfl (fun _ s=>(SC.r (SC.l (SC.l s))))) (Xa (r:=Xc) 1 rfl (fun _ s=>(SC.r (SC.l s))))))) fun a1 v2=>(Ya (K:=K) (r:=Xc) 4 (Xt (r:=Xc) 3 rfl (fun _ s=>(SC.r s))) fun a6 v7=>(Yi (K:=K) (o:=(oL (oF Xc))) 5 0 (VE (o:=(oF Xc))) (Nat.le_of_ble_eq_true rfl) fun a8 v9 C10=>(ZA (K:=K) (J:=({ oo:=fun x13=>[x13.2.2.2.2], ss:=fun x13=>[some v_0, some v_1, some v_2, some v2, some x13.2.2.1, some x13.2.1, x13.1, x13.2.2.2.1], sc:=fun g14 x13=>(SC.add (SC.addO (SC.add (SC.add (SC.add (SC.add SC.nil K (rL Xc) v_0 a_0) K Xc v_1 a_1) K (rV Xc) v_2 a_2) K Xc v2 a1) K (oL (oF Xc)) x13.2.1 g14.1 x13.2.2.2.2) K Xc x13.2.2.1 g14.2) } : Jn ((List Int) × Int) (Option V × V × V × Option V × List Xu))) (fun _=>tg1 6) ((none), v9, v7, (none), C10) (a8, a6) (Xq (Yj (Xa (r:=(rV Xc)) 2 rfl (fun _ s=>(SC.r (SC.l (SC.l (SC.l s)))))))) rfl rfl (fun _ s=>(SC.i (SC.i (SC.i (SC.i (SC.i (SC.i SC.t (SC.r (SC.l (SC.l (SC.l (SC.l (SC.l s))))))) (SC.r (SC.l (SC.l (SC.l (SC.l s)))))) (SC.r (SC.l (SC.l (SC.l s))))) (SC.r (SC.l (SC.l s)))) (SC.r s)) (SC.r (SC.l s)))) (fun g15 x16 a17 v18=>(Qv (J:=({ oo:=fun x24=>[x24.2.2.2], ss:=fun x24=>[some v_0, some v_1, some v_2, some v2, some x24.2.1, some x24.1, some v18, x24.2.2.1], sc:=fun g25 x24=>(SC.add (SC.addO (SC.add (SC.add (SC.add (SC.add (SC.add SC.nil K (rL Xc) v_0 a_0) K Xc v_1 a_1) K (rV Xc) v_2 a_2) K Xc v2 a1) K Xc v18 a17) K (oL (oF Xc)) x24.1 g25.1 x24.2.2.2) K Xc x24.2.1 g25.2) } : Jn ((List Int) × Int) (V × V × Option V × List Xu))) (JN (Fd:=FNd ({ oo:=fun x24=>[x24.2.2.2], ss:=fun x24=>[some v_0, some v_1, some v_2, some v2, some x24.2.1, some x24.1, some v18, x24.2.2.1], sc:=fun g25 x24=>(SC.add (SC.addO (SC.add (SC.add (SC.add (SC.add (SC.add SC.nil K (rL Xc) v_0 a_0) K Xc v_1 a_1) K (rV Xc) v_2 a_2) K Xc v2 a1) K Xc v18 a17) K (oL (oF Xc)) x24.1 g25.1 x24.2.2.2) K Xc x24.2.1 g25.2) } : Jn ((List Int) × Int) (V × V × Option V × List Xu))) (Xl (K:=K) (JW (Xa (r:=Xc) 3 rfl (fun _ s=>(SC.r (SC.l (SC.l (SC.l s)))))) (KN (Xf 10) (Xf 18)))) (JH (K:=K) (o:=(oF Xc)) (f:=fun a35=>(Res.ok (a35, g15.2))) 5 0 rfl rfl rfl (fun _ s=>(SC.r (SC.l (SC.l s)))) (EvS.ev (EvB.sh (X7 (Ev.toB (Yp (Xa (r:=Xc) 3 rfl (fun _ s=>(SC.r (SC.l (SC.l (SC.l s)))))) (Xa (r:=Xc) 6 rfl (fun _ s=>(SC.r s))))) (Xw (Xa (r:=(rV Xc)) 2 rfl (fun _ s=>(SC.r (SC.l (SC.l (SC.l (SC.l s))))))) (Xa (r:=Xc) 6 rfl (fun _ s=>(SC.r s))))))) fun a33 C34=>(XE (J:=_) (x16.2.1, x16.2.2.1, (x16.2.2.2.1), C34) ((g15.1 ++ [a33]), g15.2) rfl rfl (fun _ s=>(SC.i (SC.i (SC.i (SC.i (SC.i (SC.i (SC.i SC.t (SC.r (SC.l (SC.l (SC.l (SC.l (SC.l (SC.l (SC.l s))))))))) (SC.r (SC.l (SC.l (SC.l (SC.l (SC.l (SC.l s)))))))) (SC.r (SC.l (SC.l (SC.l (SC.l (SC.l s))))))) (SC.r (SC.l (SC.l (SC.l (SC.l s)))))) (SC.r (SC.l s))) (SC.r s)) (SC.r (SC.l (SC.l s))))))) (Qv (J:=({ oo:=fun x39=>[x39.2.2.2], ss:=fun x39=>[some v_0, some v_1, some v_2, some v2, some x39.1, some x39.2.2.1, some v18, x39.2.1], sc:=fun g40 x39=>(SC.addO (SC.add (SC.add (SC.add (SC.add (SC.add (SC.add SC.nil K (rL Xc) v_0 a_0) K Xc v_1 a_1) K (rV Xc) v_2 a_2) K Xc v2 a1) K Xc v18 a17) K Xc x39.1 g40.1) K (oL (oF Xc)) x39.2.2.1 g40.2 x39.2.2.2) } : Jn (Int × (List Int)) (V × Option V × V × List Xu))) (JN (Fd:=FNd ({ oo:=fun x39=>[x39.2.2.2], ss:=fun x39=>[some v_0, some v_1, some v_2, some v2, some x39.1, some x39.2.2.1, some v18, x39.2.1], sc:=fun g40 x39=>(SC.addO (SC.add (SC.add (SC.add (SC.add (SC.add (SC.add SC.nil K (rL Xc) v_0 a_0) K Xc v_1 a_1) K (rV Xc) v_2 a_2) K Xc v2 a1) K Xc v18 a17) K Xc x39.1 g40.1) K (oL (oF Xc)) x39.2.2.1 g40.2 x39.2.2.2) } : Jn (Int × (List Int)) (V × Option V × V × List Xu))) (Xl (K:=K) (V7 (Xa (r:=Xc) 4 rfl (fun _ s=>(SC.r (SC.l s)))) (Xf 0))) (JH (K:=K) (o:=(oF Xc)) (f:=fun a47=>(Res.bind (Res.bind (Res.ok g15.2) fun x52=>(Res.bind (Res.bind (Res.ok a_2) fun x50=>(Res.bind (Res.ok a17) fun x51=>(atR x50 x51))) fun x53=>(Bi x52 x53))) fun a48=>(Res.ok (a48, a47)))) 5 0 rfl rfl rfl (fun _ s=>(SC.r (SC.l (SC.l s)))) (EvS.ev (EvB.sh (X7 (Xa (r:=Xc) 4 rfl (fun _ s=>(SC.r (SC.l s)))) (Xw (Xa (r:=(rV Xc)) 2 rfl (fun _ s=>(SC.r (SC.l (SC.l (SC.l (SC.l s))))))) (Xa (r:=Xc) 6 rfl (fun _ s=>(SC.r s))))))) fun a45 C46=>(Ya (K:=K) (r:=Xc) 4 (EvB.sh (UA (Xa (r:=Xc) 4 rfl (fun _ s=>(SC.r (SC.l (SC.l s))))) (Xw (Xa (r:=(rV Xc)) 2 rfl (fun _ s=>(SC.r (SC.l (SC.l (SC.l (SC.l (SC.l s)))))))) (Xa (r:=Xc) 6 rfl (fun _ s=>(SC.r (SC.l s))))))) fun a48 v49=>(XE (J:=_) (v49, (x16.2.2.2.1), x16.2.1, C46) (a48, (g15.1 ++ [a45])) rfl rfl (fun _ s=>(SC.i (SC.i (SC.i (SC.i (SC.i (SC.i (SC.i SC.t (SC.r (SC.l (SC.l (SC.l (SC.l (SC.l (SC.l (SC.l (SC.l s)))))))))) (SC.r (SC.l (SC.l (SC.l (SC.l (SC.l (SC.l (SC.l s))))))))) (SC.r (SC.l (SC.l (SC.l (SC.l (SC.l (SC.l s)))))))) (SC.r (SC.l (SC.l (SC.l (SC.l (SC.l s))))))) (SC.r (SC.l (SC.l s)))) (SC.r s)) (SC.r (SC.l s))))))) (Ya (K:=K) (r:=Xc) 7 (EvB.sh (Ev.toB (Yp (Xa (r:=(rL Xc)) 0 rfl (fun _ s=>(SC.r (SC.l (SC.l (SC.l (SC.l (SC.l (SC.l s))))))))) (X7 (XY (XY (Xa (r:=Xc) 1 rfl (fun _ s=>(SC.r (SC.l (SC.l (SC.l (SC.l (SC.l s)))))))) (Xf 1)) (Xa (r:=Xc) 6 rfl (fun _ s=>(SC.r s)))) (Xf 63))))) fun a54 v55=>(JH (K:=K) (o:=(oF Xc)) (f:=fun a74=>(Res.ok (g15.2, a74))) 5 0 rfl rfl rfl (fun _ s=>(SC.r (SC.l (SC.l (SC.l s))))) (EvS.ev (EvB.sh (X7 (Ev.toB (Yp (Xa (r:=Xc) 7 rfl (fun _ s=>(SC.r s))) (Xa (r:=Xc) 6 rfl (fun _ s=>(SC.r (SC.l s)))))) (Xw (Xa (r:=(rV Xc)) 2 rfl (fun _ s=>(SC.r (SC.l (SC.l (SC.l (SC.l (SC.l s)))))))) (Xa (r:=Xc) 6 rfl (fun _ s=>(SC.r (SC.l s)))))))) fun a72 C73=>(XE (J:=_) (x16.2.2.1, (some v55), x16.2.1, C73) (g15.2, (g15.1 ++ [a72])) rfl rfl (fun _ s=>(SC.i (SC.i (SC.i (SC.i (SC.i (SC.i (SC.i SC.t (SC.r (SC.l (SC.l (SC.l (SC.l (SC.l (SC.l (SC.l (SC.l s)))))))))) (SC.r (SC.l (SC.l (SC.l (SC.l (SC.l (SC.l (SC.l s))))))))) (SC.r (SC.l (SC.l (SC.l (SC.l (SC.l (SC.l s)))))))) (SC.r (SC.l (SC.l (SC.l (SC.l (SC.l s))))))) (SC.r (SC.l (SC.l s)))) (SC.r (SC.l (SC.l (SC.l s))))) (SC.r s))))))) fun g76 x75=>(XE (J:=_) (x75.2.2.1, x75.1, (x75.2.1), x75.2.2.2) (g76.2, g76.1) rfl rfl (fun _ s=>(SC.i (SC.i (SC.i (SC.i (SC.i (SC.i (SC.i SC.t (SC.r (SC.l (SC.l (SC.l (SC.l (SC.l (SC.l s)))))))) (SC.r (SC.l (SC.l (SC.l (SC.l (SC.l s))))))) (SC.r (SC.l (SC.l (SC.l (SC.l s)))))) (SC.r (SC.l (SC.l (SC.l s))))) (SC.r (SC.l (SC.l s)))) (SC.r s)) (SC.r (SC.l s))))))) fun g78 x77=>(XE (J:=_) ((some v18), x77.1, x77.2.1, (x77.2.2.1), x77.2.2.2) (g78.1, g78.2) rfl rfl (fun _ s=>(SC.i (SC.i (SC.i (SC.i (SC.i (SC.i SC.t (SC.r (SC.l (SC.l (SC.l (SC.l (SC.l (SC.l s)))))))) (SC.r (SC.l (SC.l (SC.l (SC.l (SC.l s))))))) (SC.r (SC.l (SC.l (SC.l (SC.l s)))))) (SC.r (SC.l (SC.l (SC.l s))))) (SC.r (SC.l s))) (SC.r s)))))) fun g79 x80=>(Xv (Zz (o:=(oL (oF Xc))) 5 0 rfl rfl (fun _ s=>(SC.r (SC.l s)))))))))
theorem JF : FnScope ["_law_way", "_law_size", "_law_factor", "_law_a", "_law_b", "_law_half"] ["_law_way", "_law_size", "_law_factor", "_law_a", "_law_b"] (Xi Jw):=⟨rfl, rfl, rfl, by decide +kernel, rfl, by decide +kernel, by decide +kernel⟩
set_option maxHeartbeats 4000000 in
theorem Ky (D : Def K mg "_law_cell_of" Jw ["_law_way", "_law_size", "_law_factor", "_law_a", "_law_b"])  (Z : Blt mg) : Fn P w K mg base 1 "_law_cell_of" ["_law_way", "_law_size", "_law_factor", "_law_a", "_law_b"] (sp5 Xc Xc Xc Xc Xc (oF Xc) Y2 K):=by
  refine YH D JF (fun vs H Q E h=>?_) (fun f cdv A outer s H vs Q E hr h=>?_)
  . obtain ⟨v_0, v_1, v_2, v_3, v_4, a_0, a_1, a_2, a_3, a_4, b, rfl, _⟩:=h; rfl
  obtain ⟨v_0, v_1, v_2, v_3, v_4, a_0, a_1, a_2, a_3, a_4, b, rfl, h_0, h_1, h_2, h_3, h_4, hm, q⟩:=h
  have hu:=hu8 hr
  have hu1:=YE hr
  refine ⟨_, (Xb (XI (i:=5) JF.nd rfl (Or.inl rfl) (Xs J6 (pv 1) Xh))
    (Xb (Ym (Xo Z0 (pv 0) Xh (Xz _))
      (Xb (Xr (Xs Yu (Xs ZC (Xs ZB Xh (pv 4)) (pv 3)) (pv 1)))
      Xe)
      Xe)
    (Xb (Ym (Xo Z0 (pv 0) Xh (Xz _))
      (Xb (Xr (Xs Yu (Xs Yl (Xs ZB (pv 2) (pv 3)) (Xs ZB (Xs ZC Xh (pv 2)) (pv 4))) (pv 1)))
      Xe)
      Xe)
    (Xb (Ym (PW.pt (ZN (Xo Z0 (pv 0) Xh (Xz _)) (ZN (Xo KP (pv 1) Xh (Xz _)) (ZN (Xo Kv (pv 3) Xh (Xz _)) (Qu (Xo Z0 (pv 4) (Xs ZC (pv 1) Xh) (Xz _)))))))
      (Xb (Xr (Xs ZC Xh (pv 3)))
      Xe)
      Xe)
    (Xb (Ym (PW.pt (ZN (Xo Z0 (pv 0) Xh (Xz _)) (ZN (Xo Kv (pv 3) (Xs ZC (pv 1) Xh) (Xz _)) (Qu (Xo Z0 (pv 4) (Xs ZC (pv 1) Xh) (Xz _))))))
      (Xb (Xr (Xs Yu (Xs Yl (pv 3) Xh) (Xs ZC (pv 1) Xh)))
      Xe)
      Xe)
    (Xb (Ym (PW.pt (ZN (Xo Z0 (pv 0) Xh (Xz _)) (ZN (Xo Kv (pv 3) (pv 5) (Xz _)) (Qu (Xo Kv (pv 4) (pv 5) (Xz _))))))
      (Xb (Xr (Xs Yu (Xs ZC (Xs ZB Xh (pv 4)) (pv 3)) (pv 5)))
      Xe)
      Xe)
    (Xb (Ym (PW.pt (ZN (Xo Z0 (pv 0) Xh (Xz _)) (ZN (Xo B4 (pv 3) (pv 5) (Xz _)) (Qu (Xo B4 (pv 4) (pv 5) (Xz _))))))
      (Xb (Xr (Xs Yl (pv 5) (Xs Yu (Xs ZC (Xs ZC (Xs ZB Xh (pv 4)) (pv 3)) (pv 5)) (Xs ZC (pv 1) (pv 5)))))
      Xe)
      Xe)
    (Xb (Xr (pv 3))
    Xe)))))))), ?_⟩
  refine Y5 (S:=(SC.add (SC.add (SC.add (SC.add (SC.add SC.nil K Xc v_0 a_0) K Xc v_1 a_1) K Xc v_2 a_2) K Xc v_3 a_3) K Xc v_4 a_4)) (σ:=[some v_0, some v_1, some v_2, some v_3, some v_4, none]) 0 ?_ (SC.i (SC.i (SC.i (SC.i (SC.i SC.t h_0) h_1) h_2) h_3) h_4) hm q rfl
  unfold Y2
  exact (Ya (K:=K) (r:=Xc) 5 (EvB.sh (UA (Xa (r:=Xc) 1 rfl (fun _ s=>(SC.r (SC.l (SC.l (SC.l s)))))) (Xf 2))) fun a1 v2=>(ZD (Xl (K:=K) (YN (Xa (r:=Xc) 0 rfl (fun _ s=>(SC.r (SC.l (SC.l (SC.l (SC.l (SC.l s)))))))) (Xf 1))) (Xv (EvS.ev (EvB.sh (X7 (YK (YJ (Xf 2) (Xa (r:=Xc) 4 rfl (fun _ s=>(SC.r (SC.l s))))) (Xa (r:=Xc) 3 rfl (fun _ s=>(SC.r (SC.l (SC.l s)))))) (Xa (r:=Xc) 1 rfl (fun _ s=>(SC.r (SC.l (SC.l (SC.l (SC.l s))))))))))) (ZD (Xl (K:=K) (YN (Xa (r:=Xc) 0 rfl (fun _ s=>(SC.r (SC.l (SC.l (SC.l (SC.l (SC.l s)))))))) (Xf 2))) (Xv (EvS.ev (EvB.sh (X7 (XY (YJ (Xa (r:=Xc) 2 rfl (fun _ s=>(SC.r (SC.l (SC.l (SC.l s)))))) (Xa (r:=Xc) 3 rfl (fun _ s=>(SC.r (SC.l (SC.l s)))))) (YJ (YK (Xf 1) (Xa (r:=Xc) 2 rfl (fun _ s=>(SC.r (SC.l (SC.l (SC.l s))))))) (Xa (r:=Xc) 4 rfl (fun _ s=>(SC.r (SC.l s)))))) (Xa (r:=Xc) 1 rfl (fun _ s=>(SC.r (SC.l (SC.l (SC.l (SC.l s))))))))))) (ZD (Y4 (Xl (K:=K) (YN (Xa (r:=Xc) 0 rfl (fun _ s=>(SC.r (SC.l (SC.l (SC.l (SC.l (SC.l s)))))))) (Xf 3))) (Y4 (Xl (K:=K) (V7 (Xa (r:=Xc) 1 rfl (fun _ s=>(SC.r (SC.l (SC.l (SC.l (SC.l s))))))) (Xf 2))) (Y4 (Xl (K:=K) (JW (Xa (r:=Xc) 3 rfl (fun _ s=>(SC.r (SC.l (SC.l s))))) (Xf 2))) (Xl (K:=K) (YN (Xa (r:=Xc) 4 rfl (fun _ s=>(SC.r (SC.l s)))) (YK (Xa (r:=Xc) 1 rfl (fun _ s=>(SC.r (SC.l (SC.l (SC.l (SC.l s))))))) (Xf 1))))))) (Xv (EvS.ev (EvB.sh (YK (Xf 1) (Xa (r:=Xc) 3 rfl (fun _ s=>(SC.r (SC.l (SC.l s))))))))) (ZD (Y4 (Xl (K:=K) (YN (Xa (r:=Xc) 0 rfl (fun _ s=>(SC.r (SC.l (SC.l (SC.l (SC.l (SC.l s)))))))) (Xf 6))) (Y4 (Xl (K:=K) (JW (Xa (r:=Xc) 3 rfl (fun _ s=>(SC.r (SC.l (SC.l s))))) (YK (Xa (r:=Xc) 1 rfl (fun _ s=>(SC.r (SC.l (SC.l (SC.l (SC.l s))))))) (Xf 1)))) (Xl (K:=K) (YN (Xa (r:=Xc) 4 rfl (fun _ s=>(SC.r (SC.l s)))) (YK (Xa (r:=Xc) 1 rfl (fun _ s=>(SC.r (SC.l (SC.l (SC.l (SC.l s))))))) (Xf 1)))))) (Xv (EvS.ev (EvB.sh (X7 (XY (Xa (r:=Xc) 3 rfl (fun _ s=>(SC.r (SC.l (SC.l s))))) (Xf 1)) (YK (Xa (r:=Xc) 1 rfl (fun _ s=>(SC.r (SC.l (SC.l (SC.l (SC.l s))))))) (Xf 1)))))) (ZD (Y4 (Xl (K:=K) (YN (Xa (r:=Xc) 0 rfl (fun _ s=>(SC.r (SC.l (SC.l (SC.l (SC.l (SC.l s)))))))) (Xf 4))) (Y4 (Xl (K:=K) (JW (Xa (r:=Xc) 3 rfl (fun _ s=>(SC.r (SC.l (SC.l s))))) (Xa (r:=Xc) 5 rfl (fun _ s=>(SC.r s))))) (Xl (K:=K) (JW (Xa (r:=Xc) 4 rfl (fun _ s=>(SC.r (SC.l s)))) (Xa (r:=Xc) 5 rfl (fun _ s=>(SC.r s))))))) (Xv (EvS.ev (EvB.sh (X7 (YK (YJ (Xf 2) (Xa (r:=Xc) 4 rfl (fun _ s=>(SC.r (SC.l s))))) (Xa (r:=Xc) 3 rfl (fun _ s=>(SC.r (SC.l (SC.l s)))))) (Xa (r:=Xc) 5 rfl (fun _ s=>(SC.r s))))))) (ZD (Y4 (Xl (K:=K) (YN (Xa (r:=Xc) 0 rfl (fun _ s=>(SC.r (SC.l (SC.l (SC.l (SC.l (SC.l s)))))))) (Xf 4))) (Y4 (Xl (K:=K) (DN (Xa (r:=Xc) 3 rfl (fun _ s=>(SC.r (SC.l (SC.l s))))) (Xa (r:=Xc) 5 rfl (fun _ s=>(SC.r s))))) (Xl (K:=K) (DN (Xa (r:=Xc) 4 rfl (fun _ s=>(SC.r (SC.l s)))) (Xa (r:=Xc) 5 rfl (fun _ s=>(SC.r s))))))) (Xv (EvS.ev (EvB.sh (XY (Xa (r:=Xc) 5 rfl (fun _ s=>(SC.r s))) (X7 (YK (YK (YJ (Xf 2) (Xa (r:=Xc) 4 rfl (fun _ s=>(SC.r (SC.l s))))) (Xa (r:=Xc) 3 rfl (fun _ s=>(SC.r (SC.l (SC.l s)))))) (Xa (r:=Xc) 5 rfl (fun _ s=>(SC.r s)))) (YK (Xa (r:=Xc) 1 rfl (fun _ s=>(SC.r (SC.l (SC.l (SC.l (SC.l s))))))) (Xa (r:=Xc) 5 rfl (fun _ s=>(SC.r s))))))))) (Xv (EvS.ev (Xt (r:=Xc) 3 rfl (fun _ s=>(SC.r (SC.l (SC.l s))))))))))))))
theorem Jh : FnScope ["_law_one", "_law_other"] ["_law_one", "_law_other"] (Xi Vb):=⟨rfl, rfl, rfl, by decide +kernel, rfl, by decide +kernel, by decide +kernel⟩
set_option maxHeartbeats 4000000 in
theorem GE (D : Def K mg "_law_common" Vb ["_law_one", "_law_other"])  (Z : Blt mg) : Fn P w K mg base 1 "_law_common" ["_law_one", "_law_other"] (sp2 Xc Xc (oF Xc) ZT K):=by
  refine YH D Jh (fun vs H Q E h=>?_) (fun f cdv A outer s H vs Q E hr h=>?_)
  . obtain ⟨v_0, v_1, a_0, a_1, b, rfl, _⟩:=h; rfl
  obtain ⟨v_0, v_1, a_0, a_1, b, rfl, h_0, h_1, hm, q⟩:=h
  have hu:=hu8 hr
  have hu1:=YE hr
  refine ⟨_, (Xb (Dt (i:=0) (j:=1) rfl Jh.nd rfl rfl (by decide) rfl rfl (Xd (Xy U0 rfl Z.b_abs PyProof.Rows.boot_abs (Xd (pv 0) Xg)) (Xd (Xy U0 rfl Z.b_abs PyProof.Rows.boot_abs (Xd (pv 1) Xg)) Xg)) rfl)
    (Xb (Kd PassesOwn.never (Xo KP (pv 1) Xh (Xz _))
      (Xb (Dt (i:=0) (j:=1) rfl Jh.nd rfl rfl (by decide) rfl rfl (Xd (pv 1) (Xd (Xs Yu (pv 0) (pv 1)) Xg)) rfl)
      Xe))
    (Xb (Xr (pv 0))
    Xe))), ?_⟩
  refine Y5 (S:=(SC.add (SC.add SC.nil K Xc v_0 a_0) K Xc v_1 a_1)) (σ:=[some v_0, some v_1]) 0 ?_ (SC.i (SC.i SC.t h_0) h_1) hm q rfl
  unfold ZT
  exact (Dm (K:=K) 0 1 (EvB.sh (GQ (Xa (r:=Xc) 0 rfl (fun _ s=>(SC.r (SC.l s)))))) (EvB.sh (GQ (Xa (r:=Xc) 1 rfl (fun _ s=>(SC.r s))))) fun a3 a4 v5 v6=>(UO (J:=({ oo:=fun x7=>[], ss:=fun x7=>[some x7.1, some x7.2], sc:=fun g8 x7=>(SC.add (SC.add SC.nil K Xc x7.1 g8.1) K Xc x7.2 g8.2) } : Jn (Int × Int) (V × V))) (a3.natAbs + a4.natAbs + 2) (v5, v6) (a3, a4) rfl rfl (fun _ s=>(SC.i (SC.i SC.t (SC.r (SC.l s))) (SC.r s))) (fun g9 x10=>(Xl (K:=K) (V7 (Xa (r:=Xc) 1 rfl (fun _ s=>(SC.r s))) (Xf 0)))) (fun g9 x10=>(Dm (K:=K) 0 1 (Xt (r:=Xc) 1 rfl (fun _ s=>(SC.r s))) (EvB.sh (X7 (Xa (r:=Xc) 0 rfl (fun _ s=>(SC.r (SC.l s)))) (Xa (r:=Xc) 1 rfl (fun _ s=>(SC.r s))))) fun a15 a16 v17 v18=>(XE (J:=_) (v17, v18) (a15, a16) rfl rfl (fun _ s=>(SC.i (SC.i SC.t (SC.r (SC.l s))) (SC.r s)))))) fun g19 x20=>(Xv (EvS.ev (Xt (r:=Xc) 0 rfl (fun _ s=>(SC.r (SC.l s))))))))
theorem Vo : FnScope ["_law_way", "_law_size", "_law_factor", "_law_some", "_law_a"] ["_law_way", "_law_size", "_law_factor"] (Xi UX):=⟨rfl, rfl, rfl, by decide +kernel, rfl, by decide +kernel, by decide +kernel⟩
set_option maxHeartbeats 4000000 in
theorem CK (D : Def K mg "_law_made" UX ["_law_way", "_law_size", "_law_factor"]) (g_common : Fn P w K mg base 1 "_law_common" ["_law_one", "_law_other"] (sp2 Xc Xc (oF Xc) ZT K)) (g_cell_of : Fn P w K mg base 1 "_law_cell_of" ["_law_way", "_law_size", "_law_factor", "_law_a", "_law_b"] (sp5 Xc Xc Xc Xc Xc (oF Xc) Y2 K)) (Z : Blt mg) : Fn P w K mg base 2 "_law_made" ["_law_way", "_law_size", "_law_factor"] (sp3 Xc Xc Xc (oL (oL (oF Xc))) JR K):=by
  refine YH D Vo (fun vs H Q E h=>?_) (fun f cdv A outer s H vs Q E hr h=>?_)
  . obtain ⟨v_0, v_1, v_2, a_0, a_1, a_2, b, rfl, _⟩:=h; rfl
  obtain ⟨v_0, v_1, v_2, a_0, a_1, a_2, b, rfl, h_0, h_1, h_2, hm, q⟩:=h
  have hu:=hu8 hr
  have hu1:=YE hr
  refine ⟨_, (Xb (Ym (PW.pt (ZN (Xo Z0 (pv 0) Xh (Xz _)) (Qu (Xo Z0 (pv 1) Xh (Xz _)))))
      (@Xb _ _ _ _ _ (@Xr _ _ _ _ (@VC _))
      Xe)
      Xe)
    (Xb (Kd PassesOwn.never (Xo Vj (Yh g_common hr (by decide) (Xd (pv 2) (Xd (pv 1) Xg))) Xh (Xz _))
      (Xb (XI (i:=2) Vo.nd rfl (Or.inr rfl) (Xs Yl (pv 2) Xh))
      Xe))
    (Xb (XI (i:=3) Vo.nd rfl (Or.inl rfl) (Yn Xg))
    (Xb (XT PassesOwn.never rfl (XD rfl Z.b_range (Xd (pv 1) Xg)) (Xn (i:=4) Vo.nd rfl (Or.inr rfl))
      (Xb (YX (Q8 PySem.F.plainAttrs_list PySem.F.slot_list_append PySem.F.type_list_append YG (pv 3) (Xd (Zu (sc:=(Xi UX)) (N0:=["_law_way", "_law_size", "_law_factor", "_law_some", "_law_a"]) (tns:=["_law_b"]) (caps:=[(0, "_law_way"), (1, "_law_size"), (2, "_law_factor"), (4, "_law_a")]) rfl (XD rfl Z.b_range (Xd (pv 1) Xg)) (Y3 (by decide)) (fun cl C s H ex E=>⟨Xn (i:=0) (show List.Nodup (["_law_b", "_law_way", "_law_size", "_law_factor", "_law_a"] : List Str) by decide +kernel) rfl (Or.inl rfl), Zy, (Yh g_cell_of hr (by decide) (Xd (pv 1) (Xd (pv 2) (Xd (pv 3) (Xd (pv 4) (Xd (pv 0) Xg))))))⟩)) Xg)))
      Xe))
    (Xb (Xr (pv 3))
    Xe))))), ?_⟩
  refine Y5 (S:=(SC.add (SC.add (SC.add SC.nil K Xc v_0 a_0) K Xc v_1 a_1) K Xc v_2 a_2)) (σ:=[some v_0, some v_1, some v_2, none, none]) 1 ?_ (SC.i (SC.i (SC.i SC.t h_0) h_1) h_2) hm q rfl
  unfold JR
  exact (ZD (Y4 (Xl (K:=K) (YN (Xa (r:=Xc) 0 rfl (fun _ s=>(SC.r (SC.l (SC.l s))))) (Xf 5))) (Xl (K:=K) (YN (Xa (r:=Xc) 1 rfl (fun _ s=>(SC.r (SC.l s)))) (Xf 4)))) (Xv (Uk (Zj (Z3 (XA (EvB.sh (Xf 0)) (XA (EvB.sh (Xf 3)) (XA (EvB.sh (Xf 1)) (XA (EvB.sh (Xf 2)) Zg))))) fun _=>(Zj (Z3 (XA (EvB.sh (Xf 2)) (XA (EvB.sh (Xf 1)) (XA (EvB.sh (Xf 3)) (XA (EvB.sh (Xf 0)) Zg))))) fun _=>(Zj (Z3 (XA (EvB.sh (Xf 3)) (XA (EvB.sh (Xf 0)) (XA (EvB.sh (Xf 2)) (XA (EvB.sh (Xf 1)) Zg))))) fun _=>(Zj (Z3 (XA (EvB.sh (Xf 1)) (XA (EvB.sh (Xf 2)) (XA (EvB.sh (Xf 0)) (XA (EvB.sh (Xf 3)) Zg))))) fun _=>Va)))))) (UO (J:=({ oo:=fun x51=>[[]], ss:=fun x51=>[some v_0, some v_1, some x51, none, none], sc:=fun g52 x51=>(SC.add (SC.add (SC.add SC.nil K Xc v_0 a_0) K Xc v_1 a_1) K Xc x51 g52) } : Jn (Int) (V))) (a_1.natAbs + 2) (v_2) (a_2) rfl rfl (fun _ s=>(SC.i (SC.i (SC.i SC.t (SC.r (SC.l (SC.l s)))) (SC.r (SC.l s))) (SC.r s))) (fun g53 x54=>(Xl (K:=K) (Qp (Ev.toB (Yp (Xa (r:=Xc) 2 rfl (fun _ s=>(SC.r s))) (Xa (r:=Xc) 1 rfl (fun _ s=>(SC.r (SC.l s)))))) (Xf 1)))) (fun g53 x54=>(Ya (K:=K) (r:=Xc) 2 (EvB.sh (XY (Xa (r:=Xc) 2 rfl (fun _ s=>(SC.r s))) (Xf 1))) fun a60 v61=>(XE (J:=_) (v61) (a60) rfl rfl (fun _ s=>(SC.i (SC.i (SC.i SC.t (SC.r (SC.l (SC.l (SC.l s))))) (SC.r (SC.l (SC.l s)))) (SC.r s)))))) fun g64 x65=>(Yi (K:=K) (o:=(oL (oL (oF Xc)))) 3 0 (VE (o:=(oL (oF Xc)))) (Nat.le_of_ble_eq_true rfl) fun a66 v67 C68=>(ZA (K:=K) (J:=({ oo:=fun x70=>[x70.2.2], ss:=fun x70=>[some v_0, some v_1, some x65, some x70.2.1, x70.1], sc:=fun g71 x70=>(SC.addO (SC.add (SC.add (SC.add SC.nil K Xc v_0 a_0) K Xc v_1 a_1) K Xc x65 g64) K (oL (oL (oF Xc))) x70.2.1 g71 x70.2.2) } : Jn ((List (List Int))) (Option V × V × List Xu))) (fun _=>tg1 4) ((none), v67, C68) (a66) (Xq (Xa (r:=Xc) 1 rfl (fun _ s=>(SC.r (SC.l (SC.l s)))))) rfl rfl (fun _ s=>(SC.i (SC.i (SC.i (SC.i SC.t (SC.r (SC.l (SC.l (SC.l s))))) (SC.r (SC.l (SC.l s)))) (SC.r (SC.l s))) (SC.r s))) (fun g72 x73 a74 v75=>(JH (K:=K) (o:=(oL (oF Xc))) (f:=fun a89=>(Res.ok (a89))) 3 0 rfl rfl rfl (fun _ s=>(SC.r (SC.l s))) (Zr (fun _=>tg1 0) (Xq (Xa (r:=Xc) 1 rfl (fun _ s=>(SC.r (SC.l (SC.l (SC.l s))))))) (fun C77 a78 v79=>(Dd (Xa (r:=Xc) 1 rfl (fun _ s=>(SC.r (SC.l (SC.l (SC.l (SC.l (SC.l s)))))))) (Xa (r:=Xc) 2 rfl (fun _ s=>(SC.r (SC.l (SC.l (SC.l (SC.l s))))))) (Xa (r:=Xc) 3 rfl (fun _ s=>(SC.r (SC.l (SC.l (SC.l s)))))) (Xa (r:=Xc) 4 rfl (fun _ s=>(SC.r (SC.l s)))) (Xa (r:=Xc) 0 rfl (fun _ s=>(SC.r s)))))) fun a87 C88=>(XE (J:=_) ((some v75), x73.2.1, C88) ((g72 ++ [a87])) rfl rfl (fun _ s=>(SC.i (SC.i (SC.i (SC.i SC.t (SC.r (SC.l (SC.l (SC.l (SC.l (SC.l s))))))) (SC.r (SC.l (SC.l (SC.l (SC.l s)))))) (SC.r (SC.l (SC.l (SC.l s))))) (SC.r s)))))) fun g90 x91=>(Xv (Zz (o:=(oL (oL (oF Xc)))) 3 0 rfl rfl (fun _ s=>(SC.r s))))))))
theorem ZV : FnScope ["_law_some", "_law_count", "_law_left", "_law_found", "_law_k"] ["_law_some", "_law_count"] (Xi QZ):=⟨rfl, rfl, rfl, by decide +kernel, rfl, by decide +kernel, by decide +kernel⟩
set_option maxHeartbeats 4000000 in
theorem Kp (D : Def K mg "_law_ordered" QZ ["_law_some", "_law_count"])  (Z : Blt mg) : Fn P w K mg base 1 "_law_ordered" ["_law_some", "_law_count"] (sp2 (rV Xc) Xc (oL (oF Xc)) Zm K):=by
  refine YH D ZV (fun vs H Q E h=>?_) (fun f cdv A outer s H vs Q E hr h=>?_)
  . obtain ⟨v_0, v_1, a_0, a_1, b, rfl, _⟩:=h; rfl
  obtain ⟨v_0, v_1, a_0, a_1, b, rfl, h_0, h_1, hm, q⟩:=h
  have hu:=hu8 hr
  have hu1:=YE hr
  refine ⟨_, (Xb (XI (i:=2) ZV.nd rfl (Or.inl rfl) (QC rfl rfl rfl Z.b_list Z.b_range (Xd (pv 1) Xg)))
    (Xb (XI (i:=3) ZV.nd rfl (Or.inl rfl) (Yn Xg))
    (Xb (XT PassesOwn.never rfl (XD rfl Z.b_range (Xd (pv 1) Xg)) (Xn (i:=4) ZV.nd rfl (Or.inl rfl))
      (Xb (YX (Q8 PySem.F.plainAttrs_list PySem.F.slot_list_append PySem.F.type_list_append YG (pv 3) (Xd (Q8 PySem.F.plainAttrs_list PySem.F.slot_list_pop PySem.F.type_list_pop FG (pv 2) (Xd (Xs Yu (XR (Xk K rfl) (pv 0) (pv 4) (fun _ _=>rfl)) (Xy (Xp K rfl) rfl Z.b_len PySem.boot_len (Xd (pv 2) Xg))) Xg)) Xg)))
      Xe))
    (Xb (Xr (pv 3))
    Xe)))), ?_⟩
  refine Y5 (S:=(SC.add (SC.add SC.nil K (rV Xc) v_0 a_0) K Xc v_1 a_1)) (σ:=[some v_0, some v_1, none, none, none]) 2 ?_ (SC.i (SC.i SC.t h_0) h_1) hm q rfl
  unfold Zm
  exact (Yi (K:=K) (o:=(oL (oF Xc))) 2 1 (QF (Xa (r:=Xc) 1 rfl (fun _ s=>(SC.r s)))) (Nat.le_of_ble_eq_true rfl) fun a1 v2 C3=>(Yi (K:=K) (o:=(oL (oF Xc))) 3 0 (VE (o:=(oF Xc))) (Nat.le_of_ble_eq_true rfl) fun a5 v6 C7=>(ZA (K:=K) (J:=({ oo:=fun x9=>[x9.2.2.2.1, x9.2.2.2.2], ss:=fun x9=>[some v_0, some v_1, some x9.2.2.1, some x9.2.1, x9.1], sc:=fun g10 x9=>(SC.addO (SC.addO (SC.add (SC.add SC.nil K (rV Xc) v_0 a_0) K Xc v_1 a_1) K (oL (oF Xc)) x9.2.1 g10.1 x9.2.2.2.1) K (oL (oF Xc)) x9.2.2.1 g10.2 x9.2.2.2.2) } : Jn ((List Int) × (List Int)) (Option V × V × V × List Xu × List Xu))) (fun _=>tg1 4) ((none), v6, v2, C7, C3) (a5, a1) (Xq (Xa (r:=Xc) 1 rfl (fun _ s=>(SC.r (SC.l (SC.l s)))))) rfl rfl (fun _ s=>(SC.i (SC.i (SC.i (SC.i SC.t (SC.r (SC.l (SC.l (SC.l s))))) (SC.r (SC.l (SC.l s)))) (SC.r s)) (SC.r (SC.l s)))) (fun g11 x12 a13 v14=>(Di (K:=K) (r:=Xc) (f:=fun a21 a22=>(Res.ok (a22, a21))) 2 1 3 0 (by decide) rfl rfl (fun _ s=>(SC.r (SC.l s))) rfl rfl (fun _ s=>(SC.r (SC.l (SC.l s)))) (X7 (Xw (Xa (r:=(rV Xc)) 0 rfl (fun _ s=>(SC.r (SC.l (SC.l (SC.l (SC.l s))))))) (Xa (r:=Xc) 4 rfl (fun _ s=>(SC.r s)))) (Yj (YY (o:=(oL (oF Xc))) 2 1 rfl rfl (fun _ s=>(SC.r (SC.l s)))))) fun a20 a21 C23 C24=>(XE (J:=_) ((some v14), x12.2.1, x12.2.2.1, C24, C23) ((g11.1 ++ [a20]), a21) rfl rfl (fun _ s=>(SC.i (SC.i (SC.i (SC.i SC.t (SC.r (SC.l (SC.l (SC.l (SC.l (SC.l (SC.l s)))))))) (SC.r (SC.l (SC.l (SC.l (SC.l (SC.l s))))))) (SC.r s)) (SC.r (SC.l s))))))) fun g27 x28=>(Xv (Zz (o:=(oL (oF Xc))) 3 0 rfl rfl (fun _ s=>(SC.r (SC.l s))))))))
theorem Qh : FnScope ["_law_some", "_law_spots", "_law_found", "_law_a", "_law_b"] ["_law_some", "_law_spots"] (Xi QP):=⟨rfl, rfl, rfl, by decide +kernel, rfl, by decide +kernel, by decide +kernel⟩
set_option maxHeartbeats 4000000 in
theorem Fe (D : Def K mg "_law_relaid" QP ["_law_some", "_law_spots"])  (Z : Blt mg) : Fn P w K mg base 1 "_law_relaid" ["_law_some", "_law_spots"] (sp2 (rV (rV Xc)) (rV Xc) (oL (oL (oF Xc))) ZU K):=by
  refine YH D Qh (fun vs H Q E h=>?_) (fun f cdv A outer s H vs Q E hr h=>?_)
  . obtain ⟨v_0, v_1, a_0, a_1, b, rfl, _⟩:=h; rfl
  obtain ⟨v_0, v_1, a_0, a_1, b, rfl, h_0, h_1, hm, q⟩:=h
  have hu:=hu8 hr
  have hu1:=YE hr
  refine ⟨_, (Xb (Ge 2 (Xi QP) ["_law_some", "_law_spots", "_law_found", "_law_a", "_law_b"] ["_law_line"] [] rfl Qh.nd rfl rfl (XW (K:=K) rfl (pv 0)) (Y3 (by decide)) (fun cl C s H ex E=>⟨Xn (i:=0) (show List.Nodup (["_law_line"] : List Str) by decide +kernel) rfl (Or.inl rfl), Zy, (KY (Vd K rfl) rfl Z.b_list PyProof.Rows.boot_list (Xd (pv 0) Xg))⟩))
    (Xb (XT PassesOwn.never rfl (XD rfl Z.b_range (Xd (Xy (Xp K rfl) rfl Z.b_len PySem.boot_len (Xd (pv 0) Xg)) Xg)) (Xn (i:=3) Qh.nd rfl (Or.inl rfl))
      (Xb (XT PassesOwn.never rfl (XD rfl Z.b_range (Xd (Xy (Xp K rfl) rfl Z.b_len PySem.boot_len (Xd (pv 0) Xg)) Xg)) (Xn (i:=4) Qh.nd rfl (Or.inl rfl))
        (Xb (Bs (XR (Xk K rfl) (pv 1) (XR (Xk K rfl) (XR (Xk K rfl) (pv 0) (pv 3) (fun _ _=>rfl)) (pv 4) (fun _ _=>rfl)) (fun _ _=>rfl)) (BO (XR (Xk K rfl) (pv 2) (XR (Xk K rfl) (pv 1) (pv 3) (fun _ _=>rfl)) (fun _ _=>rfl)) (XR (Xk K rfl) (pv 1) (pv 4) (fun _ _=>rfl)) FC))
        Xe))
      Xe))
    (Xb (Xr (pv 2))
    Xe))), ?_⟩
  refine Y5 (S:=(SC.add (SC.add SC.nil K (rV (rV Xc)) v_0 a_0) K (rV Xc) v_1 a_1)) (σ:=[some v_0, some v_1, none, none, none]) 1 ?_ (SC.i (SC.i SC.t h_0) h_1) hm q rfl
  unfold ZU
  exact (Yi (K:=K) (o:=(oL (oL (oF Xc)))) 2 0 (Zr (fun _=>tg1 0) (X9 (Xt (r:=(rV (rV Xc))) 0 rfl (fun _ s=>(SC.r (SC.l s))))) (fun C4 a5 v6=>(Ci (EvS.ls (Xt (r:=(rV Xc)) 0 rfl (fun _ s=>(SC.r s))))))) (Nat.le_of_ble_eq_true rfl) fun a1 v2 C3=>(ZA (K:=K) (J:=({ oo:=fun x11=>[x11.2.2.2], ss:=fun x11=>[some v_0, some v_1, some x11.2.2.1, x11.1, x11.2.1], sc:=fun g12 x11=>(SC.addO (SC.add (SC.add SC.nil K (rV (rV Xc)) v_0 a_0) K (rV Xc) v_1 a_1) K (oL (oL (oF Xc))) x11.2.2.1 g12 x11.2.2.2) } : Jn ((List (List Int))) (Option V × Option V × V × List Xu))) (fun _=>tg1 3) ((none), (none), v2, C3) (a1) (Xq (Yj (Xa (r:=(rV (rV Xc))) 0 rfl (fun _ s=>(SC.r (SC.l (SC.l s))))))) rfl rfl (fun _ s=>(SC.i (SC.i (SC.i SC.t (SC.r (SC.l (SC.l s)))) (SC.r (SC.l s))) (SC.r s))) (fun g13 x14 a15 v16=>(ZA (K:=K) (J:=({ oo:=fun x19=>[x19.2.2], ss:=fun x19=>[some v_0, some v_1, some x19.2.1, some v16, x19.1], sc:=fun g20 x19=>(SC.addO (SC.add (SC.add (SC.add SC.nil K (rV (rV Xc)) v_0 a_0) K (rV Xc) v_1 a_1) K Xc v16 a15) K (oL (oL (oF Xc))) x19.2.1 g20 x19.2.2) } : Jn ((List (List Int))) (Option V × V × List Xu))) (fun _=>tg1 4) ((x14.2.1), x14.2.2.1, x14.2.2.2) (g13) (Xq (Yj (Xa (r:=(rV (rV Xc))) 0 rfl (fun _ s=>(SC.r (SC.l (SC.l (SC.l s)))))))) rfl rfl (fun _ s=>(SC.i (SC.i (SC.i (SC.i SC.t (SC.r (SC.l (SC.l (SC.l s))))) (SC.r (SC.l (SC.l s)))) (SC.r s)) (SC.r (SC.l s)))) (fun g21 x22 a23 v24=>(KU (K:=K) (r:=Xc) 2 0 rfl rfl (fun _ s=>(SC.r (SC.l s))) (EvB.sh (Xw (Xa (r:=(rV Xc)) 1 rfl (fun _ s=>(SC.r (SC.l (SC.l (SC.l s)))))) (Xw (Xw (Xa (r:=(rV (rV Xc))) 0 rfl (fun _ s=>(SC.r (SC.l (SC.l (SC.l (SC.l s))))))) (Xa (r:=Xc) 3 rfl (fun _ s=>(SC.r (SC.l (SC.l s)))))) (Xa (r:=Xc) 4 rfl (fun _ s=>(SC.r s)))))) (Xw (Xa (r:=(rV Xc)) 1 rfl (fun _ s=>(SC.r (SC.l (SC.l (SC.l s)))))) (Xa (r:=Xc) 3 rfl (fun _ s=>(SC.r (SC.l (SC.l s)))))) (Xw (Xa (r:=(rV Xc)) 1 rfl (fun _ s=>(SC.r (SC.l (SC.l (SC.l s)))))) (Xa (r:=Xc) 4 rfl (fun _ s=>(SC.r s)))) fun a38 C39=>(XE (J:=_) ((some v24), x22.2.1, C39) (a38) rfl rfl (fun _ s=>(SC.i (SC.i (SC.i (SC.i SC.t (SC.r (SC.l (SC.l (SC.l (SC.l (SC.l s))))))) (SC.r (SC.l (SC.l (SC.l (SC.l s)))))) (SC.r (SC.l (SC.l (SC.l s))))) (SC.r s)))))) fun g42 x43=>(XE (J:=_) ((some v16), (x43.1), x43.2.1, x43.2.2) (g42) rfl rfl (fun _ s=>(SC.i (SC.i (SC.i SC.t (SC.r (SC.l (SC.l (SC.l s))))) (SC.r (SC.l (SC.l s)))) (SC.r s)))))) fun g45 x46=>(Xv (Zz (o:=(oL (oL (oF Xc)))) 2 0 rfl rfl (fun _ s=>(SC.r s))))))
theorem QN : FnScope ["_law_script", "_law_place", "_law_most", "_law_some", "_law_size", "_law_found"] ["_law_script", "_law_place", "_law_most"] (Xi Uw):=⟨rfl, rfl, rfl, by decide +kernel, rfl, by decide +kernel, by decide +kernel⟩
set_option maxHeartbeats 4000000 in
theorem FE (D : Def K mg "_law_table" Uw ["_law_script", "_law_place", "_law_most"]) (g_row : Fn P w K mg base 2 "_law_row" ["_law_script", "_law_place", "_law_sizes"] (sp3 (rL Xc) Xc (rV Xc) (oL (oF Xc)) V0 K)) (g_made : Fn P w K mg base 2 "_law_made" ["_law_way", "_law_size", "_law_factor"] (sp3 Xc Xc Xc (oL (oL (oF Xc))) JR K)) (g_relaid : Fn P w K mg base 1 "_law_relaid" ["_law_some", "_law_spots"] (sp2 (rV (rV Xc)) (rV Xc) (oL (oL (oF Xc))) ZU K)) (g_ordered : Fn P w K mg base 1 "_law_ordered" ["_law_some", "_law_count"] (sp2 (rV Xc) Xc (oL (oF Xc)) Zm K)) (Z : Blt mg) : Fn P w K mg base 3 "_law_table" ["_law_script", "_law_place", "_law_most"] (sp3 (rL Xc) Xc Xc (oL (oL (oF Xc))) Z7 K):=by
  refine YH D QN (fun vs H Q E h=>?_) (fun f cdv A outer s H vs Q E hr h=>?_)
  . obtain ⟨v_0, v_1, v_2, a_0, a_1, a_2, b, rfl, _⟩:=h; rfl
  obtain ⟨v_0, v_1, v_2, a_0, a_1, a_2, b, rfl, h_0, h_1, h_2, hm, q⟩:=h
  have hu:=hu8 hr
  have hu1:=YE hr
  refine ⟨_, (Xb (XI (i:=3) QN.nd rfl (Or.inl rfl) (Yh g_row hr (by decide) (Xd (pv 0) (Xd (pv 1) (Xd (Xs UJ (Yn (Xd Xh (Xd Xh (Xd Xh (Xd Xh Xg))))) (Xs DL (Yn (Xd Xh Xg)) Xh)) Xg)))))
    (Xb (XI (i:=4) QN.nd rfl (Or.inl rfl) (Xs Yl Xh (Xs Yu (XR (Xk K rfl) (pv 3) Xh (fun _ _=>rfl)) (pv 2))))
    (Xb (XI (i:=5) QN.nd rfl (Or.inl rfl) (Yh g_made hr (by decide) (Xd (XR (Xk K rfl) (pv 3) Xh (fun _ _=>rfl)) (Xd (pv 4) (Xd (Xs Yl Xh (XR (Xk K rfl) (pv 3) Xh (fun _ _=>rfl))) Xg)))))
    (Xb (Ym (Xo Z0 (XR (Xk K rfl) (pv 3) Xh (fun _ _=>rfl)) Xh (Xz _))
      (Xb (Xr (pv 5))
      Xe)
      Xe)
    (Xb (Xr (Yh g_relaid hr (by decide) (Xd (pv 5) (Xd (Yh g_ordered hr (by decide) (Xd (Vx (Vi K rfl) (pv 3) (UF Xh) Ui) (Xd (pv 4) Xg))) Xg))))
    Xe))))), ?_⟩
  refine Y5 (S:=(SC.add (SC.add (SC.add SC.nil K (rL Xc) v_0 a_0) K Xc v_1 a_1) K Xc v_2 a_2)) (σ:=[some v_0, some v_1, some v_2, none, none, none]) 1 ?_ (SC.i (SC.i (SC.i SC.t h_0) h_1) h_2) hm q rfl
  unfold Z7
  exact (Ya (K:=K) (r:=(rV Xc)) 3 (Ev.sh (QU (Xa (r:=(rL Xc)) 0 rfl (fun _ s=>(SC.r (SC.l (SC.l s))))) (Xa (r:=Xc) 1 rfl (fun _ s=>(SC.r (SC.l s)))) (Ev.toB (Kb (Ev.ls (Z3 (XA (EvB.sh (Xf 7)) (XA (EvB.sh (Xf 24)) (XA (EvB.sh (Xf 6)) (XA (EvB.sh (Xf 2)) Zg)))))) (Ev.ls (Dq (Ev.ls (Z3 (XA (EvB.sh (Xf 24)) Zg))) (Xf 24))))))) fun a1 v2=>(Ya (K:=K) (r:=Xc) 4 (EvB.sh (XY (Xf 1) (X7 (Xw (Xa (r:=(rV Xc)) 3 rfl (fun _ s=>(SC.r s))) (Xf 1)) (Xa (r:=Xc) 2 rfl (fun _ s=>(SC.r (SC.l s))))))) fun a23 v24=>(Yi (K:=K) (o:=(oL (oL (oF Xc)))) 5 0 (QU (Xw (Xa (r:=(rV Xc)) 3 rfl (fun _ s=>(SC.r (SC.l s)))) (Xf 0)) (Xa (r:=Xc) 4 rfl (fun _ s=>(SC.r s))) (XY (Xf 2) (Xw (Xa (r:=(rV Xc)) 3 rfl (fun _ s=>(SC.r (SC.l s)))) (Xf 2)))) (Nat.le_of_ble_eq_true rfl) fun a31 v32 C33=>(ZD (Xl (K:=K) (YN (Xw (Xa (r:=(rV Xc)) 3 rfl (fun _ s=>(SC.r (SC.l (SC.l s))))) (Xf 3)) (Xf 0))) (Xv (Zz (o:=(oL (oL (oF Xc)))) 5 0 rfl rfl (fun _ s=>(SC.r s)))) (Xv (Yp (YY (o:=(oL (oL (oF Xc)))) 5 0 rfl rfl (fun _ s=>(SC.r s))) (Ev.toB (Yp (Ev.toB (US (EvS.ls (Xt (r:=(rV Xc)) 3 rfl (fun _ s=>(SC.r (SC.l (SC.l s)))))) (Vm (K:=K) (Xf 4)) J0)) (Xa (r:=Xc) 4 rfl (fun _ s=>(SC.r (SC.l s))))))))))))
theorem Uv : FnScope ["_law_one"] ["_law_one"] (Xi QA):=⟨rfl, rfl, rfl, by decide +kernel, rfl, by decide +kernel, by decide +kernel⟩
set_option maxHeartbeats 4000000 in
theorem Um (D : Def K mg "_law_is_whole" QA ["_law_one"])  (Z : Blt mg) : Fn P w K mg base 1 "_law_is_whole" ["_law_one"] (sp1 Xc (oF XM) ZR K):=by
  refine YH D Uv (fun vs H Q E h=>?_) (fun f cdv A outer s H vs Q E hr h=>?_)
  . obtain ⟨v_0, a_0, b, rfl, _⟩:=h; rfl
  obtain ⟨v_0, a_0, b, rfl, h_0, hm, q⟩:=h
  have hu:=hu8 hr
  have hu1:=YE hr
  refine ⟨_, (Xb (Xr (Gp (Xy YV rfl Z.b_isinstance PyProof.Rows.boot_isinstance (Xd (pv 0) (Xd (Jq (v:=V.ty "int") rfl Z.b_int PyProof.Rows.boot_int rfl) Xg))) (Dx (BD (Xy YV rfl Z.b_isinstance PyProof.Rows.boot_isinstance (Xd (pv 0) (Xd (Jq (v:=V.ty "bool") rfl Z.b_bool PyProof.Rows.boot_bool rfl) Xg)))))))
    Xe), ?_⟩
  refine Y5 (S:=(SC.add SC.nil K Xc v_0 a_0)) (σ:=[some v_0]) 0 ?_ (SC.i SC.t h_0) hm q rfl
  unfold ZR
  exact (Xv (EvS.ev (EvB.sh (Vg (Zn "int" true (QO K "int") (Xa (r:=Xc) 0 rfl (fun _ s=>(SC.r s)))) (FX (Zn "bool" false (VT K) (Xa (r:=Xc) 0 rfl (fun _ s=>(SC.r s)))))))))
theorem Z6 : FnScope ["_law_found", "_law_size", "_law_line", "_law_one"] ["_law_found", "_law_size"] (Xi Qy):=⟨rfl, rfl, rfl, by decide +kernel, rfl, by decide +kernel, by decide +kernel⟩
set_option maxHeartbeats 4000000 in
theorem Ux (D : Def K mg "_law_is_table" Qy ["_law_found", "_law_size"]) (g_is_whole : Fn P w K mg base 1 "_law_is_whole" ["_law_one"] (sp1 Xc (oF XM) ZR K)) (Z : Blt mg) : Fn P w K mg base 2 "_law_is_table" ["_law_found", "_law_size"] (sp2 (rV (rV Xc)) Xc (oF XM) YT K):=by
  refine YH D Z6 (fun vs H Q E h=>?_) (fun f cdv A outer s H vs Q E hr h=>?_)
  . obtain ⟨v_0, v_1, a_0, a_1, b, rfl, _⟩:=h; rfl
  obtain ⟨v_0, v_1, a_0, a_1, b, rfl, h_0, h_1, hm, q⟩:=h
  have hu:=hu8 hr
  have hu1:=YE hr
  refine ⟨_, (Xb (Ym (PW.pt (G6 (Qt (QD (Xy YV rfl Z.b_isinstance PyProof.Rows.boot_isinstance (Xd (pv 0) (Xd (Jq (v:=V.ty "list") rfl Z.b_list PyProof.Rows.boot_list rfl) Xg))))) (V8 (Xo Vj (Xy (Xp K rfl) rfl Z.b_len PySem.boot_len (Xd (pv 0) Xg)) (pv 1) (Xz _)))))
      (Xb (Xr ZY)
      Xe)
      Xe)
    (Xb (XT PassesOwn.never rfl (XW (K:=K) rfl (pv 0)) (Xn (i:=2) Z6.nd rfl (Or.inl rfl))
      (Xb (Ym (PW.pt (G6 (Qt (QD (Xy YV rfl Z.b_isinstance PyProof.Rows.boot_isinstance (Xd (pv 2) (Xd (Jq (v:=V.ty "list") rfl Z.b_list PyProof.Rows.boot_list rfl) Xg))))) (V8 (Xo Vj (Xy (Xp K rfl) rfl Z.b_len PySem.boot_len (Xd (pv 2) Xg)) (pv 1) (Xz _)))))
        (Xb (Xr ZY)
        Xe)
        Xe)
      (Xb (XT PassesOwn.never rfl (XW (K:=K) rfl (pv 2)) (Xn (i:=3) Z6.nd rfl (Or.inl rfl))
        (Xb (Ym (Qt (QD (Yh g_is_whole hr (by decide) (Xd (pv 3) Xg))))
          (Xb (Xr ZY)
          Xe)
          Xe)
        Xe))
      Xe)))
    (Xb (Xr ZY)
    Xe))), ?_⟩
  refine Y5 (S:=(SC.add (SC.add SC.nil K (rV (rV Xc)) v_0 a_0) K Xc v_1 a_1)) (σ:=[some v_0, some v_1, none, none]) 0 ?_ (SC.i (SC.i SC.t h_0) h_1) hm q rfl
  unfold YT
  exact (ZD (V6 (ZJ (VQ (K:=K) (Zn "list" true (QO K "list") (Xa (r:=(rV (rV Xc))) 0 rfl (fun _ s=>(SC.r (SC.l s))))))) (Xl (K:=K) (Qp (Yj (Xa (r:=(rV (rV Xc))) 0 rfl (fun _ s=>(SC.r (SC.l s))))) (Xa (r:=Xc) 1 rfl (fun _ s=>(SC.r s)))))) (Xv (EvS.ev (EvB.sh (Zk false)))) (Zt (K:=K) (J:=({ oo:=fun x7=>[], ss:=fun x7=>[some v_0, some v_1, x7.1, x7.2], sc:=fun g8 x7=>(SC.add (SC.add SC.nil K (rV (rV Xc)) v_0 a_0) K Xc v_1 a_1) } : Jn (Unit) (Option V × Option V))) (fun _=>tg1 2) ((none), (none)) () (X9 (Xt (r:=(rV (rV Xc))) 0 rfl (fun _ s=>(SC.r (SC.l s))))) rfl rfl (fun _ s=>(SC.i (SC.i SC.t (SC.r (SC.l s))) (SC.r s))) (fun g9 x10 a11 v12=>(YZ (V6 (ZJ (VQ (K:=K) (Zn "list" true (QO K "list") (Xa (r:=(rV Xc)) 2 rfl (fun _ s=>(SC.r s)))))) (Xl (K:=K) (Qp (Yj (Xa (r:=(rV Xc)) 2 rfl (fun _ s=>(SC.r s)))) (Xa (r:=Xc) 1 rfl (fun _ s=>(SC.r (SC.l s))))))) (Xv (EvS.ev (EvB.sh (Zk false)))) (Qo (K:=K) (J:=({ oo:=fun x19=>[], ss:=fun x19=>[some v_0, some v_1, some v12, x19], sc:=fun g20 x19=>(SC.add (SC.add (SC.add SC.nil K (rV (rV Xc)) v_0 a_0) K Xc v_1 a_1) K (rV Xc) v12 a11) } : Jn (Unit) (Option V))) (fun _=>tg1 3) ((x10.2)) () (X9 (Xt (r:=(rV Xc)) 2 rfl (fun _ s=>(SC.r s)))) rfl rfl (fun _ s=>(SC.i (SC.i (SC.i SC.t (SC.r (SC.l (SC.l s)))) (SC.r (SC.l s))) (SC.r s))) (fun g21 x22 a23 v24=>(YZ (ZJ (VQ (K:=K) (Ev.toB (Yd (Xa (r:=Xc) 3 rfl (fun _ s=>(SC.r s))))))) (Xv (EvS.ev (EvB.sh (Zk false)))) (Za (XE (J:=_) ((some v24)) () rfl rfl (fun _ s=>(SC.i (SC.i (SC.i SC.t (SC.r (SC.l (SC.l (SC.l s))))) (SC.r (SC.l (SC.l s)))) (SC.r (SC.l s)))))))) fun g31 x32=>(Za (XE (J:=_) ((some v12), (x32)) () rfl rfl (fun _ s=>(SC.i (SC.i SC.t (SC.r (SC.l (SC.l s)))) (SC.r (SC.l s))))))))) fun g36 x37=>(Xv (EvS.ev (EvB.sh (Zk true))))))
theorem ZM : FnScope ["_law_some", "_law_size", "_law_a", "_law_b", "_law_c", "_law_left"] ["_law_some"] (Xi Kh):=⟨rfl, rfl, rfl, by decide +kernel, rfl, by decide +kernel, by decide +kernel⟩
set_option maxHeartbeats 4000000 in
theorem CT (D : Def K mg "_law_good" Kh ["_law_some"])  (Z : Blt mg) : Fn P w K mg base 1 "_law_good" ["_law_some"] (sp1 (rV (rV Xc)) (oF XM) Zc K):=by
  refine YH D ZM (fun vs H Q E h=>?_) (fun f cdv A outer s H vs Q E hr h=>?_)
  . obtain ⟨v_0, a_0, b, rfl, _⟩:=h; rfl
  obtain ⟨v_0, a_0, b, rfl, h_0, hm, q⟩:=h
  have hu:=hu8 hr
  have hu1:=YE hr
  refine ⟨_, (Xb (XI (i:=1) ZM.nd rfl (Or.inl rfl) (Xy (Xp K rfl) rfl Z.b_len PySem.boot_len (Xd (pv 0) Xg)))
    (Xb (XT PassesOwn.never rfl (XD rfl Z.b_range (Xd (pv 1) Xg)) (Xn (i:=2) ZM.nd rfl (Or.inl rfl))
      (Xb (Ym (Xo Vj (XR (Xk K rfl) (XR (Xk K rfl) (pv 0) (pv 2) (fun _ _=>rfl)) (pv 2) (fun _ _=>rfl)) (pv 2) (Xz _))
        (Xb (Xr ZY)
        Xe)
        Xe)
      Xe))
    (Xb (XT PassesOwn.never rfl (XD rfl Z.b_range (Xd (pv 1) Xg)) (Xn (i:=3) ZM.nd rfl (Or.inr rfl))
      (Xb (Ym (Xo (B7 (DX eq_int) (Cr (by decide) hu)) (Xy (JB K rfl) rfl Z.b_sorted PyProof.Rows.boot_sorted (Xd (Zu (sc:=(Xi Kh)) (N0:=["_law_some", "_law_size", "_law_a", "_law_b", "_law_c", "_law_left"]) (tns:=["_law_line"]) (caps:=[(3, "_law_b")]) rfl (XW (K:=K) rfl (pv 0)) (Y3 (by decide)) (fun cl C s H ex E=>⟨Xn (i:=0) (show List.Nodup (["_law_line", "_law_b"] : List Str) by decide +kernel) rfl (Or.inl rfl), Zy, (XR (Xk K rfl) (pv 0) (pv 1) (fun _ _=>rfl))⟩)) Xg)) (QC rfl rfl rfl Z.b_list Z.b_range (Xd (pv 1) Xg)) (Xz _))
        (Xb (Xr ZY)
        Xe)
        Xe)
      Xe))
    (Xb (XT PassesOwn.never rfl (XD rfl Z.b_range (Xd (pv 1) Xg)) (Xn (i:=2) ZM.nd rfl (Or.inl rfl))
      (Xb (XT PassesOwn.never rfl (XD rfl Z.b_range (Xd (pv 1) Xg)) (Xn (i:=3) ZM.nd rfl (Or.inr rfl))
        (Xb (XT PassesOwn.never rfl (XD rfl Z.b_range (Xd (pv 1) Xg)) (Xn (i:=4) ZM.nd rfl (Or.inl rfl))
          (Xb (XI (i:=5) ZM.nd rfl (Or.inl rfl) (XR (Xk K rfl) (XR (Xk K rfl) (pv 0) (XR (Xk K rfl) (XR (Xk K rfl) (pv 0) (pv 2) (fun _ _=>rfl)) (pv 3) (fun _ _=>rfl)) (fun _ _=>rfl)) (pv 4) (fun _ _=>rfl)))
          (Xb (Ym (Xo Vj (pv 5) (XR (Xk K rfl) (XR (Xk K rfl) (pv 0) (XR (Xk K rfl) (XR (Xk K rfl) (pv 0) (pv 2) (fun _ _=>rfl)) (pv 4) (fun _ _=>rfl)) (fun _ _=>rfl)) (XR (Xk K rfl) (XR (Xk K rfl) (pv 0) (pv 3) (fun _ _=>rfl)) (pv 4) (fun _ _=>rfl)) (fun _ _=>rfl)) (Xz _))
            (Xb (Xr ZY)
            Xe)
            Xe)
          Xe)))
        Xe))
      Xe))
    (Xb (Xr ZY)
    Xe))))), ?_⟩
  refine Y5 (S:=(SC.add SC.nil K (rV (rV Xc)) v_0 a_0)) (σ:=[some v_0, none, none, none, none, none]) 0 ?_ (SC.i SC.t h_0) hm q rfl
  unfold Zc
  exact (Ya (K:=K) (r:=Xc) 1 (EvB.sh (Yj (Xa (r:=(rV (rV Xc))) 0 rfl (fun _ s=>(SC.r s))))) fun a1 v2=>(Zt (K:=K) (J:=({ oo:=fun x5=>[], ss:=fun x5=>[some v_0, some v2, x5, none, none, none], sc:=fun g6 x5=>(SC.add (SC.add SC.nil K (rV (rV Xc)) v_0 a_0) K Xc v2 a1) } : Jn (Unit) (Option V))) (fun _=>tg1 2) ((none)) () (Xq (Xa (r:=Xc) 1 rfl (fun _ s=>(SC.r s)))) rfl rfl (fun _ s=>(SC.i (SC.i SC.t (SC.r (SC.l s))) (SC.r s))) (fun g7 x8 a9 v10=>(YZ (Xl (K:=K) (Qp (Xw (Xw (Xa (r:=(rV (rV Xc))) 0 rfl (fun _ s=>(SC.r (SC.l (SC.l s))))) (Xa (r:=Xc) 2 rfl (fun _ s=>(SC.r s)))) (Xa (r:=Xc) 2 rfl (fun _ s=>(SC.r s)))) (Xa (r:=Xc) 2 rfl (fun _ s=>(SC.r s))))) (Xv (EvS.ev (EvB.sh (Zk false)))) (Za (XE (J:=_) ((some v10)) () rfl rfl (fun _ s=>(SC.i (SC.i SC.t (SC.r (SC.l (SC.l s)))) (SC.r (SC.l s)))))))) fun g20 x21=>(Zt (K:=K) (J:=({ oo:=fun x23=>[], ss:=fun x23=>[some v_0, some v2, x21, x23, none, none], sc:=fun g24 x23=>(SC.add (SC.add SC.nil K (rV (rV Xc)) v_0 a_0) K Xc v2 a1) } : Jn (Unit) (Option V))) (fun _=>tg1 3) ((none)) () (Xq (Xa (r:=Xc) 1 rfl (fun _ s=>(SC.r s)))) rfl rfl (fun _ s=>(SC.i (SC.i SC.t (SC.r (SC.l s))) (SC.r s))) (fun g25 x26 a27 v28=>(YZ (Xl (K:=K) (DU (Ev.toB (Fp (Ev.ls (Zr (fun _=>tg1 0) (X9 (Xt (r:=(rV (rV Xc))) 0 rfl (fun _ s=>(SC.r (SC.l (SC.l s)))))) (fun C30 a31 v32=>(EvS.ev (EvB.sh (Xw (Xa (r:=(rV Xc)) 0 rfl (fun _ s=>(SC.r s))) (Xa (r:=Xc) 1 rfl (fun _ s=>(SC.r (SC.l s)))))))))))) (Ev.toB (QF (Xa (r:=Xc) 1 rfl (fun _ s=>(SC.r (SC.l s)))))))) (Xv (EvS.ev (EvB.sh (Zk false)))) (Za (XE (J:=_) ((some v28)) () rfl rfl (fun _ s=>(SC.i (SC.i SC.t (SC.r (SC.l (SC.l s)))) (SC.r (SC.l s)))))))) fun g42 x43=>(Zt (K:=K) (J:=({ oo:=fun x45=>[], ss:=fun x45=>[some v_0, some v2, x45.1, x45.2.1, x45.2.2.1, x45.2.2.2], sc:=fun g46 x45=>(SC.add (SC.add SC.nil K (rV (rV Xc)) v_0 a_0) K Xc v2 a1) } : Jn (Unit) (Option V × Option V × Option V × Option V))) (fun _=>tg1 2) ((x21), (x43), (none), (none)) () (Xq (Xa (r:=Xc) 1 rfl (fun _ s=>(SC.r s)))) rfl rfl (fun _ s=>(SC.i (SC.i SC.t (SC.r (SC.l s))) (SC.r s))) (fun g47 x48 a49 v50=>(Qo (K:=K) (J:=({ oo:=fun x52=>[], ss:=fun x52=>[some v_0, some v2, some v50, x52.1, x52.2.1, x52.2.2], sc:=fun g53 x52=>(SC.add (SC.add (SC.add SC.nil K (rV (rV Xc)) v_0 a_0) K Xc v2 a1) K Xc v50 a49) } : Jn (Unit) (Option V × Option V × Option V))) (fun _=>tg1 3) ((x48.2.1), (x48.2.2.1), (x48.2.2.2)) () (Xq (Xa (r:=Xc) 1 rfl (fun _ s=>(SC.r (SC.l s))))) rfl rfl (fun _ s=>(SC.i (SC.i (SC.i SC.t (SC.r (SC.l (SC.l s)))) (SC.r (SC.l s))) (SC.r s))) (fun g54 x55 a56 v57=>(Qo (K:=K) (J:=({ oo:=fun x59=>[], ss:=fun x59=>[some v_0, some v2, some v50, some v57, x59.1, x59.2], sc:=fun g60 x59=>(SC.add (SC.add (SC.add (SC.add SC.nil K (rV (rV Xc)) v_0 a_0) K Xc v2 a1) K Xc v50 a49) K Xc v57 a56) } : Jn (Unit) (Option V × Option V))) (fun _=>tg1 4) ((x55.2.1), (x55.2.2)) () (Xq (Xa (r:=Xc) 1 rfl (fun _ s=>(SC.r (SC.l (SC.l s)))))) rfl rfl (fun _ s=>(SC.i (SC.i (SC.i (SC.i SC.t (SC.r (SC.l (SC.l (SC.l s))))) (SC.r (SC.l (SC.l s)))) (SC.r (SC.l s))) (SC.r s))) (fun g61 x62 a63 v64=>(Ya (K:=K) (r:=Xc) 5 (EvB.sh (Xw (Xw (Xa (r:=(rV (rV Xc))) 0 rfl (fun _ s=>(SC.r (SC.l (SC.l (SC.l (SC.l s))))))) (Xw (Xw (Xa (r:=(rV (rV Xc))) 0 rfl (fun _ s=>(SC.r (SC.l (SC.l (SC.l (SC.l s))))))) (Xa (r:=Xc) 2 rfl (fun _ s=>(SC.r (SC.l (SC.l s)))))) (Xa (r:=Xc) 3 rfl (fun _ s=>(SC.r (SC.l s)))))) (Xa (r:=Xc) 4 rfl (fun _ s=>(SC.r s))))) fun a65 v66=>(YZ (Xl (K:=K) (Qp (Xa (r:=Xc) 5 rfl (fun _ s=>(SC.r s))) (Xw (Xw (Xa (r:=(rV (rV Xc))) 0 rfl (fun _ s=>(SC.r (SC.l (SC.l (SC.l (SC.l (SC.l s)))))))) (Xw (Xw (Xa (r:=(rV (rV Xc))) 0 rfl (fun _ s=>(SC.r (SC.l (SC.l (SC.l (SC.l (SC.l s)))))))) (Xa (r:=Xc) 2 rfl (fun _ s=>(SC.r (SC.l (SC.l (SC.l s))))))) (Xa (r:=Xc) 4 rfl (fun _ s=>(SC.r (SC.l s)))))) (Xw (Xw (Xa (r:=(rV (rV Xc))) 0 rfl (fun _ s=>(SC.r (SC.l (SC.l (SC.l (SC.l (SC.l s)))))))) (Xa (r:=Xc) 3 rfl (fun _ s=>(SC.r (SC.l (SC.l s)))))) (Xa (r:=Xc) 4 rfl (fun _ s=>(SC.r (SC.l s)))))))) (Xv (EvS.ev (EvB.sh (Zk false)))) (Za (XE (J:=_) ((some v64), (some v66)) () rfl rfl (fun _ s=>(SC.i (SC.i (SC.i (SC.i SC.t (SC.r (SC.l (SC.l (SC.l (SC.l (SC.l s))))))) (SC.r (SC.l (SC.l (SC.l (SC.l s)))))) (SC.r (SC.l (SC.l (SC.l s))))) (SC.r (SC.l (SC.l s)))))))))) fun g92 x93=>(Za (XE (J:=_) ((some v57), (x93.1), (x93.2)) () rfl rfl (fun _ s=>(SC.i (SC.i (SC.i SC.t (SC.r (SC.l (SC.l (SC.l s))))) (SC.r (SC.l (SC.l s)))) (SC.r (SC.l s)))))))) fun g96 x97=>(Za (XE (J:=_) ((some v50), (x97.1), (x97.2.1), (x97.2.2)) () rfl rfl (fun _ s=>(SC.i (SC.i SC.t (SC.r (SC.l (SC.l s)))) (SC.r (SC.l s)))))))) fun g100 x101=>(Xv (EvS.ev (EvB.sh (Zk true))))))))
theorem U4 : FnScope ["_law_found", "_law_size", "_law_k"] ["_law_found", "_law_size"] (Xi Us):=⟨rfl, rfl, rfl, by decide +kernel, rfl, by decide +kernel, by decide +kernel⟩
set_option maxHeartbeats 4000000 in
theorem FD (D : Def K mg "_law_right" Us ["_law_found", "_law_size"]) (g_is_table : Fn P w K mg base 2 "_law_is_table" ["_law_found", "_law_size"] (sp2 (rV (rV Xc)) Xc (oF XM) YT K)) (g_good : Fn P w K mg base 1 "_law_good" ["_law_some"] (sp1 (rV (rV Xc)) (oF XM) Zc K)) (Z : Blt mg) : Fn P w K mg base 3 "_law_right" ["_law_found", "_law_size"] (sp2 (rV (rV (rV Xc))) Xc (oF XM) YW K):=by
  refine YH D U4 (fun vs H Q E h=>?_) (fun f cdv A outer s H vs Q E hr h=>?_)
  . obtain ⟨v_0, v_1, a_0, a_1, b, rfl, _⟩:=h; rfl
  obtain ⟨v_0, v_1, a_0, a_1, b, rfl, h_0, h_1, hm, q⟩:=h
  have hu:=hu8 hr
  have hu1:=YE hr
  refine ⟨_, (Xb (Ym (PW.pt (G6 (Qt (QD (Xy YV rfl Z.b_isinstance PyProof.Rows.boot_isinstance (Xd (pv 0) (Xd (Jq (v:=V.ty "list") rfl Z.b_list PyProof.Rows.boot_list rfl) Xg))))) (V8 (Xo Z0 (Xy (Xp K rfl) rfl Z.b_len PySem.boot_len (Xd (pv 0) Xg)) Xh (Xz _)))))
      (Xb (Xr ZY)
      Xe)
      Xe)
    (Xb (XT PassesOwn.never rfl (XD rfl Z.b_range (Xd (Xy (Xp K rfl) rfl Z.b_len PySem.boot_len (Xd (pv 0) Xg)) Xg)) (Xn (i:=2) U4.nd rfl (Or.inl rfl))
      (Xb (Ym (PW.pt (G6 (Qt (QD (Yh g_is_table hr (by decide) (Xd (XR (Xk K rfl) (pv 0) (pv 2) (fun _ _=>rfl)) (Xd (pv 1) Xg))))) (V8 (Qt (QD (Yh g_good hr (by decide) (Xd (XR (Xk K rfl) (pv 0) (pv 2) (fun _ _=>rfl)) Xg)))))))
        (Xb (Xr ZY)
        Xe)
        Xe)
      (Xb (Ym (PW.pt (ZN (Xo KP (pv 2) Xh (Xz _)) (Qu (Qt (Xo (Ei CJ K rfl (Cr (by decide) hu)) (XR (Xk K rfl) (pv 0) (Xs ZC (pv 2) Xh) (fun _ _=>rfl)) (XR (Xk K rfl) (pv 0) (pv 2) (fun _ _=>rfl)) (Xz _))))))
        (Xb (Xr ZY)
        Xe)
        Xe)
      Xe)))
    (Xb (Xr ZY)
    Xe))), ?_⟩
  refine Y5 (S:=(SC.add (SC.add SC.nil K (rV (rV (rV Xc))) v_0 a_0) K Xc v_1 a_1)) (σ:=[some v_0, some v_1, none]) 0 ?_ (SC.i (SC.i SC.t h_0) h_1) hm q rfl
  unfold YW
  exact (ZD (V6 (ZJ (VQ (K:=K) (Zn "list" true (QO K "list") (Xa (r:=(rV (rV (rV Xc)))) 0 rfl (fun _ s=>(SC.r (SC.l s))))))) (Xl (K:=K) (YN (Yj (Xa (r:=(rV (rV (rV Xc)))) 0 rfl (fun _ s=>(SC.r (SC.l s))))) (Xf 0)))) (Xv (EvS.ev (EvB.sh (Zk false)))) (Zt (K:=K) (J:=({ oo:=fun x9=>[], ss:=fun x9=>[some v_0, some v_1, x9], sc:=fun g10 x9=>(SC.add (SC.add SC.nil K (rV (rV (rV Xc))) v_0 a_0) K Xc v_1 a_1) } : Jn (Unit) (Option V))) (fun _=>tg1 2) ((none)) () (Xq (Yj (Xa (r:=(rV (rV (rV Xc)))) 0 rfl (fun _ s=>(SC.r (SC.l s)))))) rfl rfl (fun _ s=>(SC.i (SC.i SC.t (SC.r (SC.l s))) (SC.r s))) (fun g11 x12 a13 v14=>(YZ (V6 (ZJ (VQ (K:=K) (Ev.toB (Yp (Xw (Xa (r:=(rV (rV (rV Xc)))) 0 rfl (fun _ s=>(SC.r (SC.l (SC.l s))))) (Xa (r:=Xc) 2 rfl (fun _ s=>(SC.r s)))) (Xa (r:=Xc) 1 rfl (fun _ s=>(SC.r (SC.l s)))))))) (ZJ (VQ (K:=K) (Ev.toB (Yd (Xw (Xa (r:=(rV (rV (rV Xc)))) 0 rfl (fun _ s=>(SC.r (SC.l (SC.l s))))) (Xa (r:=Xc) 2 rfl (fun _ s=>(SC.r s))))))))) (Xv (EvS.ev (EvB.sh (Zk false)))) (YZ (Y4 (Xl (K:=K) (V7 (Xa (r:=Xc) 2 rfl (fun _ s=>(SC.r s))) (Xf 0))) (ZJ (Xl (K:=K) (CH (lt:=ltG (ltG ltI)) (Xw (Xa (r:=(rV (rV (rV Xc)))) 0 rfl (fun _ s=>(SC.r (SC.l (SC.l s))))) (YK (Xa (r:=Xc) 2 rfl (fun _ s=>(SC.r s))) (Xf 1))) (Xw (Xa (r:=(rV (rV (rV Xc)))) 0 rfl (fun _ s=>(SC.r (SC.l (SC.l s))))) (Xa (r:=Xc) 2 rfl (fun _ s=>(SC.r s)))))))) (Xv (EvS.ev (EvB.sh (Zk false)))) (Za (XE (J:=_) ((some v14)) () rfl rfl (fun _ s=>(SC.i (SC.i SC.t (SC.r (SC.l (SC.l s)))) (SC.r (SC.l s))))))))) fun g42 x43=>(Xv (EvS.ev (EvB.sh (Zk true))))))
theorem Qd : FnScope ["_law_found", "_law_size", "_law_some", "_law_line"] ["_law_found", "_law_size"] (Xi Uz):=⟨rfl, rfl, rfl, by decide +kernel, rfl, by decide +kernel, by decide +kernel⟩
set_option maxHeartbeats 4000000 in
theorem Fz (D : Def K mg "_law_apart" Uz ["_law_found", "_law_size"])  (Z : Blt mg) : Fn P w K mg base 1 "_law_apart" ["_law_found", "_law_size"] (EX (oL (oL (oL (oF Xc)))) Xc (oF XM) Qa K):=by
  refine YH D Qd (fun vs H Q E h=>?_) (fun f cdv A outer s H vs Q E hr h=>?_)
  . obtain ⟨v_0, v_1, a_0, a_1, b, rfl, _⟩:=h; rfl
  obtain ⟨v_0, v_1, a_0, a_1, b, rfl, C_0, hw, h_0, h_1, hm, q⟩:=h
  have hu:=hu8 hr
  have hu1:=YE hr
  refine ⟨_, (Xb (XT PassesOwn.never rfl (XW (K:=K) rfl (pv 0)) (Xn (i:=2) Qd.nd rfl (Or.inl rfl))
      (Xb (XT PassesOwn.never rfl (XW (K:=K) rfl (pv 2)) (Xn (i:=3) Qd.nd rfl (Or.inl rfl))
        (Xb (YX (Q8 PySem.F.plainAttrs_list PySem.F.slot_list_append PySem.F.type_list_append YG (pv 3) (Xd Xh Xg)))
        Xe))
      Xe))
    (Xb (XT PassesOwn.never rfl (XW (K:=K) rfl (pv 0)) (Xn (i:=2) Qd.nd rfl (Or.inl rfl))
      (Xb (XT PassesOwn.never rfl (XW (K:=K) rfl (pv 2)) (Xn (i:=3) Qd.nd rfl (Or.inl rfl))
        (Xb (Ym (Xo Vj (Xy (Xp K rfl) rfl Z.b_len PySem.boot_len (Xd (pv 3) Xg)) (Xs Yl (pv 1) Xh) (Xz _))
          (Xb (Xr ZY)
          Xe)
          Xe)
        Xe))
      Xe))
    (Xb (Xr ZY)
    Xe))), ?_⟩
  refine BZ (S:=(SC.add (SC.addO SC.nil K (oL (oL (oL (oF Xc)))) v_0 a_0 C_0) K Xc v_1 a_1)) (σ:=[some v_0, some v_1, none, none]) 1 0 (by decide) ?_ hw (SC.i (SC.i SC.t h_0) h_1) hm q rfl
  unfold Qa
  exact (K6 (K:=K) (f:=fun a4=>(Res.bind (Fh (fun a7=>(Res.bind (Res.bind (Res.ok a7) fun x9=>(Res.ok (x9.length : Int))) fun x12=>(Res.bind (Res.bind (Res.ok a_1) fun x10=>(Res.bind (Res.ok (1 : Int)) fun x11=>(Res.ok (x10 + x11)))) fun x13=>(Res.ok (!(decide (x12 = x13))))))) (List.flatten a4)) fun x8=>(Res.ok (x8, a4)))) 0 2 3 0 9 rfl (by decide) (Nat.le_of_ble_eq_true rfl) (Nat.le_of_ble_eq_true rfl) rfl (fun _ s=>(SC.r (SC.l s))) fun C1 w2 w3=>(Ce (K:=K) (as:=(a_0.map (fun t=>t.map (· ++ [9])))) (c:=fun a7=>(Res.bind (Res.bind (Res.ok a7) fun x9=>(Res.ok (x9.length : Int))) fun x12=>(Res.bind (Res.bind (Res.ok a_1) fun x10=>(Res.bind (Res.ok (1 : Int)) fun x11=>(Res.ok (x10 + x11)))) fun x13=>(Res.ok (!(decide (x12 = x13))))))) 0 2 3 0 rfl (by decide) (Nat.le_of_ble_eq_true rfl) (Nat.le_of_ble_eq_true rfl) rfl (fun _ s=>(SC.r s)) fun w5 v6 a7=>(Xl (K:=K) (Qp (Yj (Xa (r:=(rV Xc)) 3 rfl (fun _ s=>(SC.r s)))) (XY (Xa (r:=Xc) 1 rfl (fun _ s=>(SC.r (SC.l (SC.l s))))) (Xf 1))))))
theorem Z1 : FnScope ["_law_script", "_law_some", "_law_size", "_law_drawn", "_law_a", "_law_found", "_law_count", "_law_again"] ["_law_script"] (Xi JD):=⟨rfl, rfl, rfl, by decide +kernel, rfl, by decide +kernel, by decide +kernel⟩
set_option maxHeartbeats 4000000 in
theorem Ek {f : Addr} {fd : FuncData} (F : Fun K "law" "law" JD f fd) (g_row : Fn P w K mg base 2 "_law_row" ["_law_script", "_law_place", "_law_sizes"] (sp3 (rL Xc) Xc (rV Xc) (oL (oF Xc)) V0 K)) (g_tables : Fn P w K mg base 4 "tables" ["size"] (sp1 Xc (oL (oL (oL (oF Xc)))) Ye K)) (g_table : Fn P w K mg base 3 "_law_table" ["_law_script", "_law_place", "_law_most"] (sp3 (rL Xc) Xc Xc (oL (oL (oF Xc))) Z7 K)) (g_apart : Fn P w K mg base 1 "_law_apart" ["_law_found", "_law_size"] (EX (oL (oL (oL (oF Xc)))) Xc (oF XM) Qa K)) (g_right : Fn P w K mg base 3 "_law_right" ["_law_found", "_law_size"] (sp2 (rV (rV (rV Xc))) Xc (oF XM) YW K)) (g_good : Fn P w K mg base 1 "_law_good" ["_law_some"] (sp1 (rV (rV Xc)) (oF XM) Zc K)) (Z : Blt mg) : FnOk P w K mg base CX0 5 f fd ["_law_script"] (sp1 (rL Xc) (oF XM) Uu K):=by
  refine F.ok Z1 (fun vs H Q E h=>?_) (fun cdv A outer s H vs Q E hr h=>?_)
  . obtain ⟨v_0, a_0, b, rfl, _⟩:=h; rfl
  obtain ⟨v_0, a_0, b, rfl, h_0, hm, q⟩:=h
  have hu:=hu8 hr
  have hu1:=YE hr
  refine ⟨_, (Xb (XI (i:=1) Z1.nd rfl (Or.inr rfl) (Yh g_row hr (by decide) (Xd (pv 0) (Xd Xh (Xd (Xs UJ (Yn (Xd Xh (Xd Xh Xg))) (Xs DL (Yn (Xd Xh Xg)) Xh)) Xg)))))
    (Xb (XI (i:=2) Z1.nd rfl (Or.inr rfl) (Xs Yl Xh (XR (Xk K rfl) (pv 1) Xh (fun _ _=>rfl))))
    (Xb (XI (i:=3) Z1.nd rfl (Or.inl rfl) (Yn Xg))
    (Xb (XT PassesOwn.never rfl (XD rfl Z.b_range (Xd (pv 2) Xg)) (Xn (i:=4) Z1.nd rfl (Or.inr rfl))
      (Xb (YX (Q8 PySem.F.plainAttrs_list PySem.F.slot_list_append PySem.F.type_list_append YG (pv 3) (Xd (Zu (sc:=(Xi JD)) (N0:=["_law_script", "_law_some", "_law_size", "_law_drawn", "_law_a", "_law_found", "_law_count", "_law_again"]) (tns:=["_law_b"]) (caps:=[(1, "_law_some"), (4, "_law_a"), (2, "_law_size")]) rfl (XD rfl Z.b_range (Xd (pv 2) Xg)) (Y3 (by decide)) (fun cl C s H ex E=>⟨Xn (i:=0) (show List.Nodup (["_law_b", "_law_some", "_law_a", "_law_size"] : List Str) by decide +kernel) rfl (Or.inl rfl), Zy, (Xs Yu (XR (Xk K rfl) (pv 1) (Xs Yl (Xs Yl Xh (Xs ZB Xh (pv 2))) (pv 0)) (fun _ _=>rfl)) (pv 3))⟩)) Xg)))
      Xe))
    (Xb (Ym (Xo Z0 (XR (Xk K rfl) (pv 1) Xh (fun _ _=>rfl)) Xh (Xz _))
      (Xb (XI (i:=3) Z1.nd rfl (Or.inl rfl) (Yh g_table hr (by decide) (Xd (pv 0) (Xd Xh (Xd Xh Xg)))))
      (Xb (XI (i:=2) Z1.nd rfl (Or.inr rfl) (Xy (Xp K rfl) rfl Z.b_len PySem.boot_len (Xd (pv 3) Xg)))
      Xe))
      Xe)
    (Xb (XI (i:=5) Z1.nd rfl (Or.inl rfl) (Yh g_tables hr (by decide) (Xd (pv 2) Xg)))
    (Xb (Ym (PW.pt (G6 (Qt (QD (Yh g_right hr (by decide) (Xd (pv 5) (Xd (pv 2) Xg))))) (V8 (Xo Vj (Vf (Dl K rfl (DX (DX eq_int)) (by decide) hu) (pv 3) (pv 5) rfl) (Yh g_good hr (by decide) (Xd (pv 3) Xg)) (Xz _)))))
      (Xb (Xr ZY)
      Xe)
      Xe)
    (Xb (XI (i:=6) Z1.nd rfl (Or.inl rfl) (Xy (Xp K rfl) rfl Z.b_len PySem.boot_len (Xd (pv 5) Xg)))
    (Xb (Ym (Qt (QD (Yh g_apart hr (by decide) (Xd (pv 5) (Xd (pv 2) Xg)))))
      (Xb (Xr ZY)
      Xe)
      Xe)
    (Xb (YX (Bn PySem.F.plainAttrs_list PySem.F.slot_list_pop PySem.F.type_list_pop Eg (pv 5)))
    (Xb (XI (i:=7) Z1.nd rfl (Or.inl rfl) (Yh g_tables hr (by decide) (Xd (pv 2) Xg)))
    (Xb (Xr (Gp (Vf Z0 (Xy (Xp K rfl) rfl Z.b_len PySem.boot_len (Xd (pv 7) Xg)) (pv 6) (Xz _)) (Gp (Yh g_right hr (by decide) (Xd (pv 7) (Xd (pv 2) Xg))) (Dx (Vf Z0 (Vf (Dl K rfl (DX (DX eq_int)) (by decide) hu) (pv 3) (pv 7) rfl) (Yh g_good hr (by decide) (Xd (pv 3) Xg)) (Xz _))))))
    Xe)))))))))))), ?_⟩
  refine Y5 (S:=(SC.add SC.nil K (rL Xc) v_0 a_0)) (σ:=[some v_0, none, none, none, none, none, none, none]) 2 ?_ (SC.i SC.t h_0) hm q rfl
  unfold Uu
  exact (Ya (K:=K) (r:=(rV Xc)) 1 (Ev.sh (QU (Xa (r:=(rL Xc)) 0 rfl (fun _ s=>(SC.r s))) (Xf 1) (Ev.toB (Kb (Ev.ls (Z3 (XA (EvB.sh (Xf 3)) (XA (EvB.sh (Xf 2)) Zg)))) (Ev.ls (Dq (Ev.ls (Z3 (XA (EvB.sh (Xf 3)) Zg))) (Xf 9))))))) fun a1 v2=>(Ya (K:=K) (r:=Xc) 2 (EvB.sh (XY (Xf 1) (Xw (Xa (r:=(rV Xc)) 1 rfl (fun _ s=>(SC.r s))) (Xf 0)))) fun a19 v20=>(Yi (K:=K) (o:=(oL (oL (oF Xc)))) 3 1 (VE (o:=(oL (oF Xc)))) (Nat.le_of_ble_eq_true rfl) fun a25 v26 C27=>(ZA (K:=K) (J:=({ oo:=fun x29=>[[], x29.2.2], ss:=fun x29=>[some v_0, some v2, some v20, some x29.2.1, x29.1, none, none, none], sc:=fun g30 x29=>(SC.addO (SC.add (SC.add (SC.add SC.nil K (rL Xc) v_0 a_0) K (rV Xc) v2 a1) K Xc v20 a19) K (oL (oL (oF Xc))) x29.2.1 g30 x29.2.2) } : Jn ((List (List Int))) (Option V × V × List Xu))) (fun _=>tg1 4) ((none), v26, C27) (a25) (Xq (Xa (r:=Xc) 2 rfl (fun _ s=>(SC.r (SC.l s))))) rfl rfl (fun _ s=>(SC.i (SC.i (SC.i (SC.i SC.t (SC.r (SC.l (SC.l (SC.l s))))) (SC.r (SC.l (SC.l s)))) (SC.r (SC.l s))) (SC.r s))) (fun g31 x32 a33 v34=>(JH (K:=K) (o:=(oL (oF Xc))) (f:=fun a52=>(Res.ok (a52))) 3 1 rfl rfl rfl (fun _ s=>(SC.r (SC.l s))) (Zr (fun _=>tg1 0) (Xq (Xa (r:=Xc) 2 rfl (fun _ s=>(SC.r (SC.l (SC.l s)))))) (fun C36 a37 v38=>(EvS.ev (EvB.sh (X7 (Xw (Xa (r:=(rV Xc)) 1 rfl (fun _ s=>(SC.r (SC.l (SC.l (SC.l (SC.l s))))))) (XY (XY (Xf 2) (YJ (Xf 3) (Xa (r:=Xc) 2 rfl (fun _ s=>(SC.r (SC.l s)))))) (Xa (r:=Xc) 0 rfl (fun _ s=>(SC.r s))))) (Xa (r:=Xc) 3 rfl (fun _ s=>(SC.r (SC.l (SC.l (SC.l s))))))))))) fun a50 C51=>(XE (J:=_) ((some v34), x32.2.1, C51) ((g31 ++ [a50])) rfl rfl (fun _ s=>(SC.i (SC.i (SC.i (SC.i SC.t (SC.r (SC.l (SC.l (SC.l (SC.l (SC.l s))))))) (SC.r (SC.l (SC.l (SC.l (SC.l s)))))) (SC.r (SC.l (SC.l (SC.l s))))) (SC.r s)))))) fun g53 x54=>(Qv (J:=({ oo:=fun x60=>[[], x60.2.2], ss:=fun x60=>[some v_0, some v2, some x60.2.1, some x60.1, x54.1, none, none, none], sc:=fun g61 x60=>(SC.add (SC.addO (SC.add (SC.add SC.nil K (rL Xc) v_0 a_0) K (rV Xc) v2 a1) K (oL (oL (oF Xc))) x60.1 g61.1 x60.2.2) K Xc x60.2.1 g61.2) } : Jn ((List (List Int)) × Int) (V × V × List Xu))) (JN (Fd:=FNd ({ oo:=fun x60=>[[], x60.2.2], ss:=fun x60=>[some v_0, some v2, some x60.2.1, some x60.1, x54.1, none, none, none], sc:=fun g61 x60=>(SC.add (SC.addO (SC.add (SC.add SC.nil K (rL Xc) v_0 a_0) K (rV Xc) v2 a1) K (oL (oL (oF Xc))) x60.1 g61.1 x60.2.2) K Xc x60.2.1 g61.2) } : Jn ((List (List Int)) × Int) (V × V × List Xu))) (Xl (K:=K) (YN (Xw (Xa (r:=(rV Xc)) 1 rfl (fun _ s=>(SC.r (SC.l (SC.l s))))) (Xf 1)) (Xf 0))) (Yi (K:=K) (o:=(oL (oL (oF Xc)))) 3 1 (QU (Xa (r:=(rL Xc)) 0 rfl (fun _ s=>(SC.r (SC.l (SC.l (SC.l s)))))) (Xf 0) (Xf 3)) (Nat.le_of_ble_eq_true rfl) fun a62 v63 C64=>(Ya (K:=K) (r:=Xc) 2 (EvB.sh (Yj (YY (o:=(oL (oL (oF Xc)))) 3 1 rfl rfl (fun _ s=>(SC.r s))))) fun a69 v70=>(XE (J:=_) (v63, v70, C64) (a62, a69) rfl rfl (fun _ s=>(SC.i (SC.i (SC.i (SC.i SC.t (SC.r (SC.l (SC.l (SC.l (SC.l (SC.l s))))))) (SC.r (SC.l (SC.l (SC.l (SC.l s)))))) (SC.r (SC.l s))) (SC.r s)))))) (XE (J:=_) (x54.2.1, v20, x54.2.2) (g53, a19) rfl rfl (fun _ s=>(SC.i (SC.i (SC.i (SC.i SC.t (SC.r (SC.l (SC.l (SC.l s))))) (SC.r (SC.l (SC.l s)))) (SC.r s)) (SC.r (SC.l s)))))) fun g73 x72=>(Yi (K:=K) (o:=(oL (oL (oL (oF Xc))))) 5 0 (Yd (Xa (r:=Xc) 2 rfl (fun _ s=>(SC.r s)))) (Nat.le_of_ble_eq_true rfl) fun a74 v75 C76=>(ZD (V6 (ZJ (VQ (K:=K) (Ev.toB (Yp (YY (o:=(oL (oL (oL (oF Xc))))) 5 0 rfl rfl (fun _ s=>(SC.r s))) (Xa (r:=Xc) 2 rfl (fun _ s=>(SC.r (SC.l s)))))))) (Xl (K:=K) (Qp (GW (r:=(rV (rV Xc))) (YY (o:=(oL (oL (oF Xc)))) 3 1 rfl rfl (fun _ s=>(SC.r (SC.l (SC.l s))))) (YY (o:=(oL (oL (oL (oF Xc))))) 5 0 rfl rfl (fun _ s=>(SC.r s)))) (Ev.toB (Yd (YY (o:=(oL (oL (oF Xc)))) 3 1 rfl rfl (fun _ s=>(SC.r (SC.l (SC.l s)))))))))) (Xv (EvS.ev (EvB.sh (Zk false)))) (Ya (K:=K) (r:=Xc) 6 (EvB.sh (Yj (YY (o:=(oL (oL (oL (oF Xc))))) 5 0 rfl rfl (fun _ s=>(SC.r s))))) fun a90 v91=>(Kj (K:=K) (g:=fun (a95 : (List (List (List Int))))=>(chk (0 < a95.length) ((fun (a98 : (List (List (List Int))))=>(Res.bind (Res.bind (Res.ok g73.2) fun x102=>(noE (Ye x102))) fun a99=>(QW (Res.bind (Res.bind (Res.ok a99) fun x103=>(Res.ok (x103.length : Int))) fun x104=>(Res.bind (Res.ok a90) fun x105=>(Res.ok (decide (x104 = x105))))) (QW (Res.bind (Res.ok a99) fun x107=>(Res.bind (Res.ok g73.2) fun x108=>(noE (YW x107 x108)))) (Res.bind (Res.bind (Res.ok g73.1) fun x109=>(Res.bind (Res.ok a99) fun x110=>(Res.ok ((F8 x109 x110))))) fun x113=>(Res.bind (Res.bind (Res.ok g73.1) fun x112=>(noE (Zc x112))) fun x114=>(Res.ok (decide (x113 = x114))))))))) (a95).dropLast))) 5 0 rfl rfl (fun _ s=>(SC.r (SC.l s))) (Xt (r:=Xc) 2 rfl (fun _ s=>(SC.r (SC.l (SC.l s))))) fun a95 C96=>(Cl (K:=K) (o:=(oL (oL (oF Xc)))) (f:=fun a98=>(Res.bind (Res.bind (Res.ok g73.2) fun x102=>(noE (Ye x102))) fun a99=>(QW (Res.bind (Res.bind (Res.ok a99) fun x103=>(Res.ok (x103.length : Int))) fun x104=>(Res.bind (Res.ok a90) fun x105=>(Res.ok (decide (x104 = x105))))) (QW (Res.bind (Res.ok a99) fun x107=>(Res.bind (Res.ok g73.2) fun x108=>(noE (YW x107 x108)))) (Res.bind (Res.bind (Res.ok g73.1) fun x109=>(Res.bind (Res.ok a99) fun x110=>(Res.ok ((F8 x109 x110))))) fun x113=>(Res.bind (Res.bind (Res.ok g73.1) fun x112=>(noE (Zc x112))) fun x114=>(Res.ok (decide (x113 = x114))))))))) 5 0 rfl rfl (fun _ s=>(SC.r s)) fun C97=>(Ya (K:=K) (r:=(rV (rV (rV Xc)))) 7 (Ev.sh (Yd (Xa (r:=Xc) 2 rfl (fun _ s=>(SC.r (SC.l (SC.l (SC.l (SC.l s))))))))) fun a99 v100=>(Xv (EvS.ev (EvB.sh (Vg (YN (Yj (Xa (r:=(rV (rV (rV Xc)))) 7 rfl (fun _ s=>(SC.r s)))) (Xa (r:=Xc) 6 rfl (fun _ s=>(SC.r (SC.l (SC.l (SC.l s))))))) (Vg (Ev.toB (Yp (Xa (r:=(rV (rV (rV Xc)))) 7 rfl (fun _ s=>(SC.r s))) (Xa (r:=Xc) 2 rfl (fun _ s=>(SC.r (SC.l (SC.l (SC.l (SC.l (SC.l s)))))))))) (YN (GW (r:=(rV (rV Xc))) (YY (o:=(oL (oL (oF Xc)))) 3 1 rfl rfl (fun _ s=>(SC.r (SC.l (SC.l (SC.l (SC.l (SC.l (SC.l s))))))))) (Xa (r:=(rV (rV (rV Xc)))) 7 rfl (fun _ s=>(SC.r s)))) (Ev.toB (Yd (YY (o:=(oL (oL (oF Xc)))) 3 1 rfl rfl (fun _ s=>(SC.r (SC.l (SC.l (SC.l (SC.l (SC.l (SC.l s))))))))))))))))))))))))))))
end
theorem Gg {K : PySem.W.Frag} {mg : Str -> Option Value} {h : Heap} (X : K.In h) (G : h.Ns mainGlobals mg) {x p0 : Str} {st : Stmt} {f : Addr} {oc : Value} {od an : Option Addr} {osl : Array (Option Value)} {kV doc pm cdv ct : Value} (hb : ∀ (kV doc pm : Value) (an : Option Addr) (cdv ct u0 : Value), bindArgs (PySem.W.fnOf x x (YB st) (Yk st) (Xi st) .none kV doc pm an cdv ct) ⟨[u0], []⟩ = pure ([p0].zip [u0])) (a : PySem.W.nsIn K mainGlobals x = some (some (.ref f))) (l : K.lookup f = some ⟨oc, od, .func (PySem.W.fnOf x x (YB st) (Yk st) (Xi st) .none kV doc pm an cdv ct), osl⟩) (c : PySem.W.codeIn K cdv x = true) (k : PySem.W.keepIn K (.ref f) = true) : Def K mg x st [p0]:=⟨f, _, Qm l c k, (Qm l c k).binds fun _ _ _ _ _ _ us hl=>(by obtain ⟨_, rfl⟩:=Ea hl; exact hb ..), PySem.W.mg_of X G a⟩
theorem GY {K : PySem.W.Frag} {mg : Str -> Option Value} {h : Heap} (X : K.In h) (G : h.Ns mainGlobals mg) {x p0 p1 : Str} {st : Stmt} {f : Addr} {oc : Value} {od an : Option Addr} {osl : Array (Option Value)} {kV doc pm cdv ct : Value} (hb : ∀ (kV doc pm : Value) (an : Option Addr) (cdv ct u0 u1 : Value), bindArgs (PySem.W.fnOf x x (YB st) (Yk st) (Xi st) .none kV doc pm an cdv ct) ⟨[u0, u1], []⟩ = pure ([p0, p1].zip [u0, u1])) (a : PySem.W.nsIn K mainGlobals x = some (some (.ref f))) (l : K.lookup f = some ⟨oc, od, .func (PySem.W.fnOf x x (YB st) (Yk st) (Xi st) .none kV doc pm an cdv ct), osl⟩) (c : PySem.W.codeIn K cdv x = true) (k : PySem.W.keepIn K (.ref f) = true) : Def K mg x st [p0, p1]:=⟨f, _, Qm l c k, (Qm l c k).binds fun _ _ _ _ _ _ us hl=>(by obtain ⟨_, _, rfl⟩:=BV hl; exact hb ..), PySem.W.mg_of X G a⟩
theorem EK {K : PySem.W.Frag} {mg : Str -> Option Value} {h : Heap} (X : K.In h) (G : h.Ns mainGlobals mg) {x p0 p1 p2 : Str} {st : Stmt} {f : Addr} {oc : Value} {od an : Option Addr} {osl : Array (Option Value)} {kV doc pm cdv ct : Value} (hb : ∀ (kV doc pm : Value) (an : Option Addr) (cdv ct u0 u1 u2 : Value), bindArgs (PySem.W.fnOf x x (YB st) (Yk st) (Xi st) .none kV doc pm an cdv ct) ⟨[u0, u1, u2], []⟩ = pure ([p0, p1, p2].zip [u0, u1, u2])) (a : PySem.W.nsIn K mainGlobals x = some (some (.ref f))) (l : K.lookup f = some ⟨oc, od, .func (PySem.W.fnOf x x (YB st) (Yk st) (Xi st) .none kV doc pm an cdv ct), osl⟩) (c : PySem.W.codeIn K cdv x = true) (k : PySem.W.keepIn K (.ref f) = true) : Def K mg x st [p0, p1, p2]:=⟨f, _, Qm l c k, (Qm l c k).binds fun _ _ _ _ _ _ us hl=>(by obtain ⟨_, _, _, rfl⟩:=Bq hl; exact hb ..), PySem.W.mg_of X G a⟩
theorem HC {K : PySem.W.Frag} {mg : Str -> Option Value} {h : Heap} (X : K.In h) (G : h.Ns mainGlobals mg) {x p0 p1 p2 p3 p4 : Str} {st : Stmt} {f : Addr} {oc : Value} {od an : Option Addr} {osl : Array (Option Value)} {kV doc pm cdv ct : Value} (hb : ∀ (kV doc pm : Value) (an : Option Addr) (cdv ct u0 u1 u2 u3 u4 : Value), bindArgs (PySem.W.fnOf x x (YB st) (Yk st) (Xi st) .none kV doc pm an cdv ct) ⟨[u0, u1, u2, u3, u4], []⟩ = pure ([p0, p1, p2, p3, p4].zip [u0, u1, u2, u3, u4])) (a : PySem.W.nsIn K mainGlobals x = some (some (.ref f))) (l : K.lookup f = some ⟨oc, od, .func (PySem.W.fnOf x x (YB st) (Yk st) (Xi st) .none kV doc pm an cdv ct), osl⟩) (c : PySem.W.codeIn K cdv x = true) (k : PySem.W.keepIn K (.ref f) = true) : Def K mg x st [p0, p1, p2, p3, p4]:=⟨f, _, Qm l c k, (Qm l c k).binds fun _ _ _ _ _ _ us hl=>(by obtain ⟨_, _, _, _, _, rfl⟩:=EI hl; exact hb ..), PySem.W.mg_of X G a⟩
theorem Bm {l : PySem.W.OpenLaw} {w : World} {K : PySem.W.Frag} {h : Heap} {mg : Str -> Option Value} {fa f : Addr} {tk0 : Tok} (X : K.In h) (G : h.Ns mainGlobals mg) (hfa : mg "law" = some (.ref fa)) {od an : Option Addr} {sl : Array (Option Value)} {oc kV dc pm cd ct : Value}
    (D1 : Def K mg "refuse_above" Zh ["most", "size"])
    (D2 : Def K mg "each_once" Z5 ["count"])
    (D3 : Def K mg "longer_by_one" Y1 ["lists", "count"])
    (D4 : Def K mg "broken" Vp ["table"])
    (D5 : Def K mg "breach_of_one" Y6 ["table"])
    (D6 : Def K mg "breach_of_two" Yy ["table"])
    (D7 : Def K mg "first_same" ZP ["column"])
    (D8 : Def K mg "breach_of_three" YC ["table"])
    (D9 : Def K mg "tables" Ql ["size"])
    (D10 : Def K mg "all_columns" YQ ["size"])
    (D11 : Def K mg "longer_by_columns" X8 ["choices", "columns"])
    (D12 : Def K mg "table_of_columns" XU ["columns"])
    (D13 : Def K mg "_law_cell" GU ["_law_script", "_law_place"])
    (D14 : Def K mg "_law_mix" Ba ["_law_cell_here", "_law_k"])
    (D15 : Def K mg "_law_row" DR ["_law_script", "_law_place", "_law_sizes"])
    (D16 : Def K mg "_law_cell_of" Jw ["_law_way", "_law_size", "_law_factor", "_law_a", "_law_b"])
    (D17 : Def K mg "_law_common" Vb ["_law_one", "_law_other"])
    (D18 : Def K mg "_law_made" UX ["_law_way", "_law_size", "_law_factor"])
    (D19 : Def K mg "_law_ordered" QZ ["_law_some", "_law_count"])
    (D20 : Def K mg "_law_relaid" QP ["_law_some", "_law_spots"])
    (D21 : Def K mg "_law_table" Uw ["_law_script", "_law_place", "_law_most"])
    (D22 : Def K mg "_law_is_whole" QA ["_law_one"])
    (D23 : Def K mg "_law_is_table" Qy ["_law_found", "_law_size"])
    (D24 : Def K mg "_law_good" Kh ["_law_some"])
    (D25 : Def K mg "_law_right" Us ["_law_found", "_law_size"])
    (D26 : Def K mg "_law_apart" Uz ["_law_found", "_law_size"])
    (a : PySem.W.nsIn K mainGlobals "law" = some (some (.ref f))) (l0 : K.lookup f = some ⟨oc, od, .func (PySem.W.fnOf "law" "law" (YB JD) (Yk JD) (Xi JD) .none kV dc pm an cd ct), sl⟩) (c : PySem.W.codeIn K cd "law" = true) (k : PySem.W.keepIn K (.ref f) = true)
    (z1 : PySem.W.nsIn K mainGlobals "abs" = some none)
    (z2 : PySem.W.nsIn K mainGlobals "bool" = some none)
    (z3 : PySem.W.nsIn K mainGlobals "enumerate" = some none)
    (z4 : PySem.W.nsIn K mainGlobals "int" = some none)
    (z5 : PySem.W.nsIn K mainGlobals "isinstance" = some none)
    (z6 : PySem.W.nsIn K mainGlobals "len" = some none)
    (z7 : PySem.W.nsIn K mainGlobals "list" = some none)
    (z8 : PySem.W.nsIn K mainGlobals "range" = some none)
    (z9 : PySem.W.nsIn K mainGlobals "sorted" = some none)
    (w0 : PySem.W.nsIn K mainGlobals "MOST_OF_ALL" = some (some (.int 4 tk0)))
    : ∃ fd : FuncData, (∀ (s : Shared) (v : Value), BindsTo s fd ⟨[v], []⟩ [("_law_script", v)]) /\ ∀ base : Heap, K.In base -> base.Ns mainGlobals mg -> FnOk l.prog w K mg base CX0 5 fa fd ["_law_script"] (sp1 (rL Xc) (oF XM) Uu K):=by
  have e:=hfa.symm.trans (PySem.W.mg_of X G a)
  cases e
  have N : ∀ {x : Str}, PySem.W.nsIn K mainGlobals x = some none -> mg x = none:=fun z=>PySem.W.mg_none_of X G z
  have Z : Blt mg:=⟨N z1, N z2, N z3, N z4, N z5, N z6, N z7, N z8, N z9, ⟨_, PySem.W.mg_of X G w0, _, rfl⟩⟩
  refine ⟨PySem.W.fnOf "law" "law" (YB JD) (Yk JD) (Xi JD) .none kV dc pm an cd ct, fun s v=>.of_eq rfl, fun base _ _=>?_⟩
  have g_cell:=CC (P:=l.prog) (w:=w) (base:=base) D13  Z
  have g_mix:=Bz (P:=l.prog) (w:=w) (base:=base) D14  Z
  have g_row:=Ec (P:=l.prog) (w:=w) (base:=base) D15 g_cell g_mix Z
  have g_refuse_above:=Jj (P:=l.prog) (w:=w) (base:=base) D1  Z
  have g_table_of_columns:=Z8 (P:=l.prog) (w:=w) (base:=base) D12  Z
  have g_longer_by_one:=QH (P:=l.prog) (w:=w) (base:=base) D3  Z
  have g_each_once:=V5 (P:=l.prog) (w:=w) (base:=base) D2 g_longer_by_one Z
  have g_longer_by_columns:=ZZ (P:=l.prog) (w:=w) (base:=base) D11  Z
  have g_all_columns:=Jz (P:=l.prog) (w:=w) (base:=base) D10 g_each_once g_longer_by_columns Z
  have g_breach_of_one:=QK (P:=l.prog) (w:=w) (base:=base) D5  Z
  have g_first_same:=Vz (P:=l.prog) (w:=w) (base:=base) D7  Z
  have g_breach_of_two:=QI (P:=l.prog) (w:=w) (base:=base) D6 g_first_same Z
  have g_breach_of_three:=Qq (P:=l.prog) (w:=w) (base:=base) D8  Z
  have g_broken:=GH (P:=l.prog) (w:=w) (base:=base) D4 g_breach_of_one g_breach_of_two g_breach_of_three Z
  have g_tables:=Gj (P:=l.prog) (w:=w) (base:=base) D9 g_refuse_above g_table_of_columns g_all_columns g_broken Z
  have g_common:=GE (P:=l.prog) (w:=w) (base:=base) D17  Z
  have g_cell_of:=Ky (P:=l.prog) (w:=w) (base:=base) D16  Z
  have g_made:=CK (P:=l.prog) (w:=w) (base:=base) D18 g_common g_cell_of Z
  have g_relaid:=Fe (P:=l.prog) (w:=w) (base:=base) D20  Z
  have g_ordered:=Kp (P:=l.prog) (w:=w) (base:=base) D19  Z
  have g_table:=FE (P:=l.prog) (w:=w) (base:=base) D21 g_row g_made g_relaid g_ordered Z
  have g_apart:=Fz (P:=l.prog) (w:=w) (base:=base) D26  Z
  have g_is_whole:=Um (P:=l.prog) (w:=w) (base:=base) D22  Z
  have g_is_table:=Ux (P:=l.prog) (w:=w) (base:=base) D23 g_is_whole Z
  have g_good:=CT (P:=l.prog) (w:=w) (base:=base) D24  Z
  have g_right:=FD (P:=l.prog) (w:=w) (base:=base) D25 g_is_table g_good Z
  exact Ek (P:=l.prog) (w:=w) (base:=base) (Qm (st:=JD) l0 c k) g_row g_tables g_table g_apart g_right g_good Z
theorem Hx {l : PySem.W.OpenLaw} {q : Program} {loose : List Str} {XP : (Str -> Option Value) -> Heap -> Prop} {YP : World -> Heap -> Prop} {d : DefRec} {K : Params -> PySem.W.Frag} (hn : l.most = some 63) (hdf : d.params.defaults = [])
    (hY : ∀ (w : World) (h : Heap), YP w h -> (K w.params).In h)
    (F : ∀ (w : World) (mg : Str -> Option Value) (fa : Addr) (h : Heap), (K w.params).In h -> h.Ns mainGlobals mg -> mg d.name = some (.ref fa) ->
      ∃ fd : FuncData, (∀ (s : Shared) (u : Value), BindsTo s fd ⟨[u], []⟩ [("_law_script", u)]) /\ ∀ base : Heap, (K w.params).In base -> base.Ns mainGlobals mg -> FnOk l.prog w (K w.params) mg base CX0 5 fa fd ["_law_script"] (sp1 (rL Xc) (oF XM) Uu (K w.params))) :
    PySem.W.WalkO q loose XP YP l.row.toRowW d [] (fun f vs=>PySem.call f vs):=
  L2.DV (n:=63) (k:=5) (x:="_law_script") (CX:=fun _=>CX0) (sp:=fun w=>sp1 (rL Xc) (oF XM) Uu (K w.params)) hn (by decide) hdf ⟨rfl, by decide, by decide⟩ hY F (fun _ _ a ns hl _ hS=>⟨.ref a, ns, true, rfl, ⟨a, _, rfl, hS, UD ns⟩, Fo ns hl, fun v C H' w m ho=>ho.2⟩) fun _ _ _ _ _ z=>z
end My
open PySem PySem.W PyProof.Rows
set_option maxRecDepth 100000 in
set_option maxHeartbeats 0 in
theorem PySem.Challenge.cw_plait_k41_all_of_up_to_three_holds : PySem.Challenge.rw_plait_k41_all_of_up_to_three.Holds := by
  w_on; o_law; k_head; (case hw => w_witness2)
  k_fill
  refine My.Hx (l := PySem.Challenge.rw_plait_k41_all_of_up_to_three) rfl rfl (fun w h Y => PySem.W.kIn_of Y) ?F
  case F =>
    intro w mg fa h KX G hmg
    refine' My.Bm KX G hmg (My.GY KX G (by intros; rfl) ?a1 ?l1 ?c1 ?k1) (My.Gg KX G (by intros; rfl) ?a2 ?l2 ?c2 ?k2) (My.GY KX G (by intros; rfl) ?a3 ?l3 ?c3 ?k3) (My.Gg KX G (by intros; rfl) ?a4 ?l4 ?c4 ?k4) (My.Gg KX G (by intros; rfl) ?a5 ?l5 ?c5 ?k5) (My.Gg KX G (by intros; rfl) ?a6 ?l6 ?c6 ?k6) (My.Gg KX G (by intros; rfl) ?a7 ?l7 ?c7 ?k7) (My.Gg KX G (by intros; rfl) ?a8 ?l8 ?c8 ?k8) (My.Gg KX G (by intros; rfl) ?a9 ?l9 ?c9 ?k9) (My.Gg KX G (by intros; rfl) ?a10 ?l10 ?c10 ?k10) (My.GY KX G (by intros; rfl) ?a11 ?l11 ?c11 ?k11) (My.Gg KX G (by intros; rfl) ?a12 ?l12 ?c12 ?k12) (My.GY KX G (by intros; rfl) ?a13 ?l13 ?c13 ?k13) (My.GY KX G (by intros; rfl) ?a14 ?l14 ?c14 ?k14) (My.EK KX G (by intros; rfl) ?a15 ?l15 ?c15 ?k15) (My.HC KX G (by intros; rfl) ?a16 ?l16 ?c16 ?k16) (My.GY KX G (by intros; rfl) ?a17 ?l17 ?c17 ?k17) (My.EK KX G (by intros; rfl) ?a18 ?l18 ?c18 ?k18) (My.GY KX G (by intros; rfl) ?a19 ?l19 ?c19 ?k19) (My.GY KX G (by intros; rfl) ?a20 ?l20 ?c20 ?k20) (My.EK KX G (by intros; rfl) ?a21 ?l21 ?c21 ?k21) (My.Gg KX G (by intros; rfl) ?a22 ?l22 ?c22 ?k22) (My.GY KX G (by intros; rfl) ?a23 ?l23 ?c23 ?k23) (My.Gg KX G (by intros; rfl) ?a24 ?l24 ?c24 ?k24) (My.GY KX G (by intros; rfl) ?a25 ?l25 ?c25 ?k25) (My.GY KX G (by intros; rfl) ?a26 ?l26 ?c26 ?k26) ?a27 ?l27 ?c27 ?k27 ?z1 ?z2 ?z3 ?z4 ?z5 ?z6 ?z7 ?z8 ?z9 ?w0
    (case a1 => k_is); (case l1 => k_is); (case c1 => k_is); (case k1 => k_is); (case a2 => k_is); (case l2 => k_is); (case c2 => k_is); (case k2 => k_is); (case a3 => k_is); (case l3 => k_is); (case c3 => k_is); (case k3 => k_is); (case a4 => k_is); (case l4 => k_is); (case c4 => k_is); (case k4 => k_is); (case a5 => k_is); (case l5 => k_is); (case c5 => k_is); (case k5 => k_is); (case a6 => k_is); (case l6 => k_is); (case c6 => k_is); (case k6 => k_is); (case a7 => k_is); (case l7 => k_is); (case c7 => k_is); (case k7 => k_is); (case a8 => k_is); (case l8 => k_is); (case c8 => k_is); (case k8 => k_is); (case a9 => k_is); (case l9 => k_is); (case c9 => k_is); (case k9 => k_is); (case a10 => k_is); (case l10 => k_is); (case c10 => k_is); (case k10 => k_is); (case a11 => k_is); (case l11 => k_is); (case c11 => k_is); (case k11 => k_is); (case a12 => k_is); (case l12 => k_is); (case c12 => k_is); (case k12 => k_is); (case a13 => k_is); (case l13 => k_is); (case c13 => k_is); (case k13 => k_is); (case a14 => k_is); (case l14 => k_is); (case c14 => k_is); (case k14 => k_is); (case a15 => k_is); (case l15 => k_is); (case c15 => k_is); (case k15 => k_is); (case a16 => k_is); (case l16 => k_is); (case c16 => k_is); (case k16 => k_is); (case a17 => k_is); (case l17 => k_is); (case c17 => k_is); (case k17 => k_is); (case a18 => k_is); (case l18 => k_is); (case c18 => k_is); (case k18 => k_is); (case a19 => k_is); (case l19 => k_is); (case c19 => k_is); (case k19 => k_is); (case a20 => k_is); (case l20 => k_is); (case c20 => k_is); (case k20 => k_is); (case a21 => k_is); (case l21 => k_is); (case c21 => k_is); (case k21 => k_is); (case a22 => k_is); (case l22 => k_is); (case c22 => k_is); (case k22 => k_is); (case a23 => k_is); (case l23 => k_is); (case c23 => k_is); (case k23 => k_is); (case a24 => k_is); (case l24 => k_is); (case c24 => k_is); (case k24 => k_is); (case a25 => k_is); (case l25 => k_is); (case c25 => k_is); (case k25 => k_is); (case a26 => k_is); (case l26 => k_is); (case c26 => k_is); (case k26 => k_is); (case a27 => k_is); (case l27 => k_is); (case c27 => k_is); (case k27 => k_is); (case z1 => k_is); (case z2 => k_is); (case z3 => k_is); (case z4 => k_is); (case z5 => k_is); (case z6 => k_is); (case z7 => k_is); (case z8 => k_is); (case z9 => k_is); (case w0 => k_is)
