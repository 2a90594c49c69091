import PyProof.Rows.All
import Wide.All
import OpenK.AllK
import Wide.FinOn
import Lean
import PyProof.EqAt
import PyProof.EqKinds
import PyProof.TupleCall
import PySem.Challenge.RW_plait_k86_no_prime_no_unit
set_option Elab.async false
set_option linter.all false
set_option maxRecDepth 100000
set_option maxHeartbeats 4000000
set_option genSizeOf false
set_option genInjectivity false
namespace L2
open PySem PySem.Spec PyProof.Rows
theorem Zau1 (h : True:=by first | exact .inl rfl | exact .inr rfl | assumption) : True:=h
theorem Zau2 (h : True:=by decide) : True:=h
theorem Zau3 (h : True:=by first | exact nobehind _ (by decide) (by decide) | rfl) : True:=h
theorem Zau4 (h : True:=by intro _; rfl) : True:=h
theorem Zau5 (h : True:=by rfl) : True:=h
theorem Zau6 (h : True:=by intros; rfl) : True:=h
theorem Zau7 (h : True:=by first | exact Or.inl rfl | exact Or.inr (Or.inl rfl) | exact Or.inr (Or.inr rfl)) : True:=h
theorem Zau8 (h : True:=by decide +kernel) : True:=h
theorem Zau9 (h : True:=by exact Nat.le_of_ble_eq_true rfl) : True:=h
theorem Zau10 (h : True:=by first | decide | decide +kernel) : True:=h
noncomputable abbrev Key:=Sum Int Str
noncomputable def UC : Key -> Value -> Bool
  | .inl k, v=>Value.isInt k v
  | .inr x, v=>Value.isStrOf x v
noncomputable def MW (w : World) : Key -> Int
  | .inl k=>hashInt k
  | .inr x=>hashStr w x
theorem Yx : ∀ {k : Key} {v : Value}, UC k v = true -> (∃ i t, k = Sum.inl i /\ v = Value.int i t) ∨ (∃ x t, k = Sum.inr x /\ v = Value.str x t)
  | .inl i, v, h=>by
    obtain ⟨t, e⟩:=Value.isInt_shape (k:=i) (v:=v) h
    exact .inl ⟨i, t, rfl, e⟩
  | .inr x, v, h=>by
    obtain ⟨t, e⟩:=Value.isStrOf_shape (x:=x) (v:=v) h
    exact .inr ⟨x, t, rfl, e⟩
theorem CK (i : Int) (t : Tok) : UC (.inl i) (.int i t) = true:=by simp [UC, Value.isInt]
theorem FW (x : Str) (t : Tok) : UC (.inr x) (.str x t) = true:=by simp [UC, Value.isStrOf]
theorem LQ (a b : Int) : decide ((Sum.inl a : Key) = Sum.inl b) = (a == b):=by
  by_cases e : a = b
  . subst e; simp
  . have h : ¬ (Sum.inl a : Key) = Sum.inl b := λq => e (Sum.inl.inj q)
    rw [decide_eq_false h]
    exact (beq_eq_false_iff_ne.mpr e).symm
theorem LW (a b : Str) : decide ((Sum.inr a : Key) = Sum.inr b) = decide (a = b):=by
  by_cases e : a = b
  . subst e; simp
  . have h : ¬ (Sum.inr a : Key) = Sum.inr b := λq => e (Sum.inr.inj q)
    rw [decide_eq_false h, decide_eq_false e]
theorem Lw (a : Int) (b : Str) : decide ((Sum.inl a : Key) = Sum.inr b) = false:=decide_eq_false (λq=>nomatch q)
theorem IN (a : Str) (b : Int) : decide ((Sum.inr a : Key) = Sum.inl b) = false:=decide_eq_false (λq=>nomatch q)
noncomputable def Yy (prog : Program) (w : World) : PySem.KeyKind prog w Key where
  is:=UC
  hash:=MW w
  inj:=λv a b ha hb=>by
    rcases Yx ha with ⟨i, t, rfl, rfl⟩ | ⟨x, t, rfl, rfl⟩
    . rcases Yx hb with ⟨j, u, rfl, e⟩ | ⟨y, u, rfl, e⟩
      . injection e with e1 _; rw [e1]
      . exact nomatch e
    . rcases Yx hb with ⟨j, u, rfl, e⟩ | ⟨y, u, rfl, e⟩
      . exact nomatch e
      . injection e with e1 _; rw [e1]
  byValue := λk v h => by
    rcases Yx h with ⟨i, t, rfl, rfl⟩ | ⟨x, t, rfl, rfl⟩ <;> rfl
  pyHash:=λhv h=>by
    rcases Yx hv with ⟨i, t, rfl, rfl⟩ | ⟨x, t, rfl, rfl⟩
    . exact wpAny_pyHash_int h
    . exact wpAny_pyHash_str h
  eqBool:=λhu hv h=>by
    rcases Yx hu with ⟨i, t, rfl, rfl⟩ | ⟨x, t, rfl, rfl⟩
    . rcases Yx hv with ⟨j, u, rfl, rfl⟩ | ⟨y, u, rfl, rfl⟩
      . rw [LQ] at h; exact wpAny_eqBool_int h
      . rw [Lw] at h; exact SeqAt.EqAt.int_str i t y u _ _ _ _ h
    . rcases Yx hv with ⟨j, u, rfl, rfl⟩ | ⟨y, u, rfl, rfl⟩
      . rw [IN] at h; exact SeqAt.EqAt.str_int x t j u _ _ _ _ h
      . rw [LW] at h; exact wpAny_eqBool_str h
  «strs»:=λk x t v h=>by
    rcases Yx h with ⟨i, u, rfl, e⟩ | ⟨y, u, rfl, e⟩
    . exact nomatch e
    . injection e with e1 _
      subst e1
      cases v <;> rfl
theorem Gc (prog : Program) (w : World) (i : Int) (t : Tok) : (Yy prog w).is (.inl i) (.int i t) = true:=CK i t
theorem K0 (prog : Program) (w : World) (x : Str) (t : Tok) : (Yy prog w).is (.inr x) (.str x t) = true:=FW x t
set_option genInjectivity true in
inductive V where
  | non | bl (b : Bool) | int (i : Int) | str (x : Str) | byt (b : Array UInt8) | flt (b : UInt64) | ref (a : Addr) | ty (n : String)
  deriving DecidableEq
noncomputable def Yi : V -> Value -> Prop
  | .non, u=>u = Value.none
  | .bl b, u=>u = Value.bool b
  | .int i, u=>∃ t, u = Value.int i t
  | .str x, u=>∃ t, u = Value.str x t
  | .byt b, u=>∃ t, u = Value.bytes b t
  | .flt b, u=>∃ t, u = Value.float b t
  | .ref a, u=>u = Value.ref a
  | .ty n, u=>u = Value.type n
noncomputable abbrev Ym : List V -> List Value -> Prop:=Paired Yi
theorem Ym.length {xs : List V} {us : List Value} (r : Ym xs us) : xs.length = us.length:=Paired.length r
theorem Ym.get : ∀ {xs : List V} {us : List Value} {i : Nat} {x : V}, Ym xs us -> xs[i]? = some x -> ∃ u, us[i]? = some u /\ Yi x u
  | _, _, _, _, .nil, e=>by simp at e
  | _, _, 0, _, .cons r _, e=>by simp at e; subst e; exact ⟨_, rfl, r⟩
  | _, _, i + 1, x, .cons _ t, e=>by
    obtain ⟨u, h1, h2⟩:=Ym.get (i:=i) (x:=x) t (by simpa using e)
    exact ⟨u, by simpa using h1, h2⟩
theorem Ym.set {x : V} {u : Value} (r : Yi x u) : ∀ {xs : List V} {us : List Value} (i : Nat), Ym xs us -> Ym (xs.set i x) (us.set i u)
  | _, _, _, .nil=>.nil
  | _, _, 0, .cons _ t=>.cons r t
  | _, _, i + 1, .cons q t=>.cons q (Ym.set r i t)
theorem Ym.append : ∀ {xs ys : List V} {us ws : List Value}, Ym xs us -> Ym ys ws -> Ym (xs ++ ys) (us ++ ws):=λp s=>by
  induction p with
  | nil=>exact s
  | cons r _ ih=>exact .cons r ih
theorem Ym.take : ∀ {xs : List V} {us : List Value} (n : Nat), Ym xs us -> Ym (xs.take n) (us.take n)
  | _, _, 0, _=>.nil
  | _, _, _ + 1, .nil=>.nil
  | _, _, n + 1, .cons r t=>.cons r (Ym.take n t)
theorem Ym.drop : ∀ {xs : List V} {us : List Value} (n : Nat), Ym xs us -> Ym (xs.drop n) (us.drop n)
  | _, _, 0, r=>r
  | _, _, _ + 1, .nil=>.nil
  | _, _, n + 1, .cons _ t=>Ym.drop n t
noncomputable def Dk : Option V -> Option Value -> Prop
  | some v, some u=>Yi v u
  | none, none=>True
  | _, _=>False
noncomputable def KV {κ : Type} : List (κ × V) -> List (κ × Value) -> Prop:=Paired λ(p : κ × V) (q : κ × Value)=>p.1 = q.1 /\ Yi p.2 q.2
noncomputable def kV : Key -> V
  | .inl i=>.int i
  | .inr x=>.str x
set_option genInjectivity true in
inductive HO where
  /-- a list -/
  | lst (xs : List V)
  /-- a tuple (never changes) -/
  | tup (xs : List V)
  /-- a dict whose keys are ints and texts; one whose keys are tuples of ints and texts (the empty one is both) -/
  | dK (kvs : List (Key × V)) | dT (kvs : List (List Key × V))
  /-- a set of ints: its members, its size -/
  | set (S : Int -> Bool) (n : Nat)
  /-- an instance of the class at C, its dict at dx, its attributes -/
  | ins (C dx : Addr) (fs : List (Str × V))
  /-- the dict of the instance at x -/
  | own (x : Addr)
  /-- the dict of an exception -/
  | xd (fs : List (Str × V))
  /-- a bound method, f of x -/
  | met (f x : Addr)
  /-- a range object lo, lo + 1, .. below hi -/
  | rng (lo hi : Int)
  /-- a thing that is known to the object (the script; a dict while a loop walks it): read, never written while it is so -/
  | frz (o : Obj) (u : HO)
  /-- a code object's table -/
  | tbl (ps : Array Value)
  /-- any other thing, by what is true of its one object (a def of one's own: SetO a S n:=HO.ext λh=>..) -/
  | ext (φ : Heap -> Prop)
noncomputable abbrev Hp:=Addr -> Option HO
noncomputable def upd (H : Hp) (a : Addr) (o : HO) : Hp:=λb=>if b = a then some o else H b
theorem Yv {H : Hp} {a : Addr} {o : HO} : upd H a o a = some o:=by unfold upd; rw [if_pos rfl]
theorem Xv {H : Hp} {a b : Addr} {o : HO} (h : b ≠ a) : upd H a o b = H b:=by unfold upd; rw [if_neg h]
theorem Cj {H : Hp} {a b : Addr} {o u : HO} (h : H a = some o) (h' : H b = some u) (d : o ≠ u) : a ≠ b:=by
  intro e; subst e; rw [h] at h'; exact d (Option.some.inj h')
theorem Yc {H : Hp} {a b : Addr} {o : HO} (h : H a = some o) (h' : H b = none) : a ≠ b:=by
  intro e; subst e; rw [h] at h'; cases h'
section
variable (P : Program) (w : World)
noncomputable def YJ (H : Hp) (h : Heap) (a : Addr) : HO -> Prop
  | .lst xs=>xs.length <= sizeLine /\ ∃ (its : List Value) (n : Nat), Ym xs its /\ h.get? a = some { cls:=.type "list", data:=.seq its.toArray n }
  | .tup xs=>xs.length <= sizeLine /\ ∃ its : List Value, Ym xs its /\ IsTup h a its.toArray
  | .dK kvs=>kvs.length <= sizeLine /\ (a == sysModules) = false /\ ∃ vs, KV kvs vs /\ h.DictOf (Yy P w) a vs
  | .dT kvs=>kvs.length <= sizeLine /\ (a == sysModules) = false /\ ∃ xs : List (List Key × Addr × Value),
      Paired (λ(p : List Key × V) (q : List Key × Addr × Value)=>p.1 = q.1 /\ H q.2.1 = some (.tup (p.1.map kV)) /\ Yi p.2 q.2.2) kvs xs /\
      ∃ o es ep, h.get? a = some o /\ o.ExactDict /\ o.data = .dict es ep /\ es.toList = xs.map (entryOfKey (tupleKind (Yy P w))) /\ (xs.map (·.1)).Nodup
  | .set S n=>h.SetOf (intKind P w) a S n
  | .ins C dx fs=>H dx = some (.own a) /\ fs.length <= 1000 /\ dx ≠ a /\ h.get? a = some (PySem.W.instObj C dx) /\
      ∃ mA, h.Ns1 dx mA /\ (∀ f, Dk (fs.lookup f) (mA f)) /\ PySem.Within mA (fs.map (·.1))
  | .own _=>∃ o, h.get? a = some o
  | .xd fs=>∃ mA, h.Ns1 a mA /\ ∀ f, Dk (fs.lookup f) (mA f)
  | .rng lo hi=>∃ t u v, h.get? a = some { cls:=.type "range", data:=.fields #[.int lo t, .int hi u, .int 1 v] }
  | .frz o u=>h.get? a = some o /\ YJ H h a u
  | .tbl ps=>h.get? a = some { cls:=.none, data:=.fields ps }
  | .met f x=>h.get? a = some (PySem.W.methodObj (.ref f) (.ref x))
  | .ext φ=>φ h /\ (∃ o, h.get? a = some o) /\ ∀ h1 h2 : Heap, φ h1 -> (∀ o, h1.get? a = some o -> h2.get? a = some o) -> φ h2
noncomputable def HOk (H : Hp) (h : Heap) : Prop:=∀ a o, H a = some o -> YJ P w H h a o
end
section
variable {P : Program} {w : World} {H H' : Hp} {h h' : Heap} {a : Addr} {o : HO}
theorem YJ.lt (x : YJ P w H h a o) : a < h.objs.size:=by
  cases o with
  | lst xs=>obtain ⟨_, _, _, _, e⟩:=x; exact Heap.lt_size e
  | tup xs=>obtain ⟨_, _, _, p⟩:=x; exact p.lt
  | dK kvs=>obtain ⟨_, _, _, _, o, _, _, e, _⟩:=x; exact Heap.lt_size e
  | dT kvs=>obtain ⟨_, _, _, _, o, _, _, e, _⟩:=x; exact Heap.lt_size e
  | set S n=>obtain ⟨o, _, _, _, e, _⟩:=x; exact Heap.lt_size e
  | ins C dx fs=>obtain ⟨_, _, _, e, _⟩:=x; exact Heap.lt_size e
  | own y=>obtain ⟨_, e⟩:=x; exact Heap.lt_size e
  | xd fs=>obtain ⟨_, ⟨_, _, _, e, _⟩, _⟩:=x; exact Heap.lt_size e
  | rng lo hi=>obtain ⟨_, _, _, e⟩:=x; exact Heap.lt_size e
  | frz ob u=>obtain ⟨e, _⟩:=x; exact Heap.lt_size e
  | tbl ps=>exact Heap.lt_size (show h.get? a = some _ from x)
  | met f y=>exact Heap.lt_size (show h.get? a = some _ from x)
  | ext φ=>obtain ⟨_, ⟨_, e⟩, _⟩:=x; exact Heap.lt_size e
theorem Paired.mapP {α β : Type} {F G : α -> β -> Prop} : ∀ {l₁ : List α} {l₂ : List β}, Paired F l₁ l₂ -> (∀ a b, F a b -> G a b) -> Paired G l₁ l₂:=λp f=>by
  induction p with
  | nil=>exact .nil
  | cons r _ ih=>exact .cons (f _ _ r) ih
theorem YJ.stay (x : YJ P w H h a o) (k : ∀ b u, (b = a ∨ H b = some (.own a)) -> h.get? b = some u -> h'.get? b = some u)
    (ho : ∀ b, H b = some (.own a) -> H' b = some (.own a)) (ht : ∀ b xs, H b = some (.tup xs) -> H' b = some (.tup xs)) : YJ P w H' h' a o:=by
  induction o with
  | lst xs=>obtain ⟨z, its, n, r, e⟩:=x; exact ⟨z, its, n, r, k _ _ (.inl rfl) e⟩
  | tup xs=>obtain ⟨z, its, r, ob, e, c⟩:=x; exact ⟨z, its, r, ob, k _ _ (.inl rfl) e, c⟩
  | dK kvs=>obtain ⟨z, y, vs, r, ob, es, ep, e, c⟩:=x; exact ⟨z, y, vs, r, ob, es, ep, k _ _ (.inl rfl) e, c⟩
  | dT kvs=>
    obtain ⟨z, y, xs, r, ob, es, ep, e, c⟩:=x
    exact ⟨z, y, xs, Paired.mapP r λp q z=>⟨z.1, ht _ _ z.2.1, z.2.2⟩, ob, es, ep, k _ _ (.inl rfl) e, c⟩
  | set S n=>obtain ⟨ob, es, ep, t, e, c⟩:=x; exact ⟨ob, es, ep, t, k _ _ (.inl rfl) e, c⟩
  | ins C dx fs=>
    obtain ⟨d, z, ne, e, mA, ⟨od, es, ep, e2, c⟩, r⟩:=x
    exact ⟨ho _ d, z, ne, k _ _ (.inl rfl) e, mA, ⟨od, es, ep, k _ _ (.inr d) e2, c⟩, r⟩
  | own y=>obtain ⟨ob, e⟩:=x; exact ⟨ob, k _ _ (.inl rfl) e⟩
  | xd fs=>obtain ⟨mA, ⟨od, es, ep, e, c⟩, r⟩:=x; exact ⟨mA, ⟨od, es, ep, k _ _ (.inl rfl) e, c⟩, r⟩
  | rng lo hi=>obtain ⟨t, u, v, e⟩:=x; exact ⟨t, u, v, k _ _ (.inl rfl) e⟩
  | frz ob u ih=>obtain ⟨e, q⟩:=x; exact ⟨k _ _ (.inl rfl) e, ih q⟩
  | tbl ps=>
    have e : h.get? a = some { cls:=.none, data:=.fields ps }:=x
    show h'.get? a = some { cls:=.none, data:=.fields ps }
    exact k a _ (.inl rfl) e
  | met f y=>
    have e : h.get? a = some (PySem.W.methodObj (.ref f) (.ref y)):=x
    show h'.get? a = some (PySem.W.methodObj (.ref f) (.ref y))
    exact k a _ (.inl rfl) e
  | ext φ=>obtain ⟨p, ⟨o, e⟩, st⟩:=x; exact ⟨st _ _ p λo q=>k _ _ (.inl rfl) q, ⟨o, k _ _ (.inl rfl) e⟩, st⟩
theorem HOk.lt (x : HOk P w H h) (e : H a = some o) : a < h.objs.size:=(x a o e).lt
theorem HOk.fresh (x : HOk P w H h) (e : h.objs.size <= a) : H a = none:=by
  cases q : H a with
  | none=>rfl
  | some u=>exact absurd (Nat.lt_of_lt_of_le (x.lt q) e) (Nat.lt_irrefl _)
theorem HOk.kept (x : HOk P w H h) (k : ∀ b u, h.get? b = some u -> h'.get? b = some u) : HOk P w H h':=λa o e=>
  (x a o e).stay (λb u _ q=>k b u q) (λ_ q=>q) λ_ _ q=>q
theorem HOk.laid (x : HOk P w H h) (k : ∀ b u, h.get? b = some u -> h'.get? b = some u) (hp : h.objs.size <= a) (new : YJ P w (upd H a o) h' a o) : HOk P w (upd H a o) h':=λb u e=>by
  have hn:=x.fresh hp
  by_cases hb : b = a
  . subst hb; rw [Yv] at e; cases e; exact new
  . rw [Xv hb] at e
    exact (x b u e).stay (λc v _ q=>k c v q) (λc q=>by rw [Xv (Yc q hn)]; exact q) λc xs q=>by rw [Xv (Yc q hn)]; exact q
end
noncomputable def Rd (H : Hp) (a : Addr) (u : HO) : Prop:=H a = some u ∨ ∃ o, H a = some (.frz o u)
theorem Rd.ok {P : Program} {w : World} {H : Hp} {h : Heap} {a : Addr} {u : HO} (r : Rd H a u) (x : HOk P w H h) : YJ P w H h a u:=by
  rcases r with r | ⟨o, r⟩
  . exact x a u r
  . obtain ⟨_, q⟩ := x a _ r
    exact q
noncomputable def Mut : Option HO -> Prop
  | some (.lst _)=>True
  | some (.dK _)=>True
  | some (.dT _)=>True
  | some (.set _ _)=>True
  | some (.ins _ _ _)=>True
  | some (.ext _)=>True
  | _=>False
section
variable {P : Program} {w : World} {H : Hp} {h h' : Heap} {x e : Addr} {o' : HO}
theorem HOk.write (ok : HOk P w H h) (mu : Mut (H x)) (he : e = x ∨ H e = some (.own x)) (k : ∀ b u, b ≠ e -> h.get? b = some u -> h'.get? b = some u) (heo : ∃ u, h'.get? e = some u)
    (new : YJ P w (upd H x o') h' x o') : HOk P w (upd H x o') h':=λb u q=>by
  have nown : ∀ c y, H c = some (.own y) -> c ≠ x:=λc y r z=>by subst z; rw [r] at mu; exact mu
  have ntup : ∀ c xs, H c = some (.tup xs) -> c ≠ x:=λc xs r z=>by subst z; rw [r] at mu; exact mu
  by_cases hb : b = x
  . subst hb; rw [Yv] at q; cases q; exact new
  . rw [Xv hb] at q
    by_cases hbe : b = e
    . have q' : H b = some (.own x):=by
        rcases he with z | z
        . exact absurd (hbe.trans z) hb
        . rw [hbe]; exact z
      rw [q] at q'; cases q'
      obtain ⟨v, hv⟩:=heo
      exact ⟨v, by rw [hbe]; exact hv⟩
    . refine (ok b u q).stay (λc v hc r => k c v ?_ r) (λc r => by rw [Xv (nown c b r)]; exact r) λc xs r => by rw [Xv (ntup c xs r)]; exact r
      rcases hc with rfl | hc
      . exact hbe
      . rintro rfl
        rcases he with z | z
        . exact nown c b hc z
        . rw [hc] at z; cases z; exact hb rfl
end
structure Un (fs ex : List Addr) (H H' : Hp) (h h' : Heap) : Prop where
  keep : ∀ b o, h.get? b = some o -> H b = none -> b ∉ fs -> b ∉ ex -> h'.get? b = some o
  slot : ∀ b o, h.get? b = some o -> H b = none -> b ∈ fs -> b ∉ ex -> ∃ sl, h'.get? b = some { o with slots:=sl }
  free : ∀ b o, h.get? b = some o -> H b = none -> b ∉ ex -> H' b = none
  there : ∀ b o, h.get? b = some o -> b ∉ ex -> ∃ o', h'.get? b = some o'
  tups : ∀ b xs, H b = some (.tup xs) -> H' b = some (.tup xs)
  frzs : ∀ b o u, H b = some (.frz o u) -> H' b = some (.frz o u)
  tbls : ∀ b ps, H b = some (.tbl ps) -> ∃ more, H' b = some (.tbl (ps ++ more))
section
variable {fs fs' ex ex' : List Addr} {H H1 H2 : Hp} {h h1 h2 h' : Heap} {a x e : Addr} {o : HO}
theorem Un.any (u : Un fs ex H H1 h h1) {b : Addr} {ob : Obj} (q : h.get? b = some ob) (n : H b = none) (hx : b ∉ ex) : ∃ sl, h1.get? b = some { ob with slots:=sl }:=by
  by_cases hb : b ∈ fs
  . exact u.slot b ob q n hb hx
  . exact ⟨ob.slots, u.keep b ob q n hb hx⟩
theorem Un.kept (k : ∀ b u, h.get? b = some u -> h'.get? b = some u) : Un fs ex H H h h':=
  ⟨λb ob q _ _ _=>k b ob q, λb ob q _ _ _=>⟨ob.slots, k b ob q⟩, λ_ _ _ n _=>n, λb ob q _=>⟨ob, k b ob q⟩, λ_ _ q=>q, λ_ _ _ q=>q, λ_ ps q=>⟨#[], by rw [q]; simp⟩⟩
theorem Un.refl : Un fs ex H H h h:=Un.kept λ_ _ q=>q
theorem Un.laid (k : ∀ b u, h.get? b = some u -> h'.get? b = some u) (hp : h.objs.size <= a) (hn : H a = none) : Un fs ex H (upd H a o) h h' where
  keep:=λb u q _ _ _=>k b u q
  slot:=λb u q _ _ _=>⟨u.slots, k b u q⟩
  free:=λb u q n _=>by rw [Xv (Nat.ne_of_lt (Nat.lt_of_lt_of_le (Heap.lt_size q) hp))]; exact n
  there:=λb u q _=>⟨u, k b u q⟩
  tups:=λb xs q=>by rw [Xv (Yc q hn)]; exact q
  frzs:=λb u xs q=>by rw [Xv (Yc q hn)]; exact q
  tbls:=λb ps q=>⟨#[], by rw [Xv (Yc q hn), q]; simp⟩
theorem Un.write (mu : Mut (H x)) (he : e = x ∨ H e = some (.own x)) (k : ∀ b u, b ≠ e -> h.get? b = some u -> h'.get? b = some u) (heo : ∃ u, h'.get? e = some u) : Un fs ex H (upd H x o) h h':=by
  have hx : ∀ b, H b = none -> b ≠ x:=λb n z=>by subst z; rw [n] at mu; exact mu
  have hb : ∀ b, H b = none -> b ≠ e:=λb n z=>by
    subst z
    rcases he with r | r
    . exact hx b n r
    . rw [n] at r; cases r
  have hm : ∀ b u, H b = some u -> ¬ Mut (some u) -> b ≠ x:=λb u q nm z=>by subst z; rw [q] at mu; exact nm mu
  refine ⟨λb u q n _ _=>k b u (hb b n) q, λb u q n _ _=>⟨u.slots, k b u (hb b n) q⟩, λb u q n _=>by rw [Xv (hx b n)]; exact n, λb u q _=>?_,
    λb xs q=>by rw [Xv (hm b _ q λz=>z)]; exact q, λb u xs q=>by rw [Xv (hm b _ q λz=>z)]; exact q, λb ps q=>⟨#[], by rw [Xv (hm b _ q λz=>z), q]; simp⟩⟩
  by_cases hbe : b = e
  . subst hbe; exact heo
  . exact ⟨u, k b u hbe q⟩
end
noncomputable def trk (h : Heap) (H : Hp) : List Addr:=(List.range h.objs.size).filter λa=>(H a).isSome
noncomputable def Bh (h : Heap) (H : Hp) : Heap:=PySem.W.hideAll h (trk h H)
theorem Dy (h : Heap) (H : Hp) : (Bh h H).objs.size = h.objs.size:=PySem.W.hideAll_size _ _
theorem G6 {h : Heap} {H : Hp} {b : Addr} {o : Obj} (e : h.get? b = some o) (n : H b = none) : (Bh h H).get? b = some o:=
  PySem.W.hideAll_get _ e λhm=>by
    have q : (H b).isSome = true:=(List.mem_filter.mp hm).2
    rw [n] at q; simp at q
theorem CZ {h : Heap} {H : Hp} {b : Addr} {o : Obj} (e : (Bh h H).get? b = some o) : h.get? b = some o /\ H b = none:=by
  have e' : h.get? b = some o:=PySem.W.of_hideAll (trk h H) e
  refine ⟨e', ?_⟩
  cases q : H b with
  | none=>rfl
  | some x=>
    have hm : b ∈ trk h H:=List.mem_filter.mpr ⟨List.mem_range.mpr (Heap.lt_size e'), by simp [q]⟩
    have z : (Bh h H).get? b = none:=PySem.W.hideAll_none (trk h H) hm
    rw [z] at e; cases e
structure Mod (K : PySem.W.Frag) (mg : Str -> Option Value) (base : Heap) : Prop where
  kin : K.In base
  glob : base.Ns mainGlobals mg
  blt : ∃ mb, base.Ns builtinsNs mb /\ ∀ x : Str, x ≠ "__name__" -> mb x = bootBuiltins x
  nolimit : base.NoLimit
structure Cx where
  prog : Program
  w : World
  K : PySem.W.Frag
  mg : Str -> Option Value
  base : Heap
  A : Around
  N : List Str
  s₀ : Shared
  H₀ : Hp
  env : Env
  outer : List Env
  stack : List Env
  ex : List Addr
  fn : Str -> Bool
  calm : Bool
  pn : List (Addr × Obj)
  xe : Value -> Shared -> Prop
noncomputable def frs (l : List Env) : List Addr:=l.filterMap (·.frame)
noncomputable abbrev Cx.fs (X : Cx) : List Addr:=frs X.outer
noncomputable def Vis (sc : Scope) (x : Str) : Prop:=sc.names.lookup x = some .local ∨ sc.names.lookup x = some .cell ∨ sc.names.lookup x = some .free
noncomputable def Loc (sc : Scope) (x : Str) : Prop:=sc.names.lookup x = some .local ∨ sc.names.lookup x = some .cell
noncomputable def M1 (env : Env) (h : Heap) (m : Str -> Option Value) (x : Str) (u : Value) : Prop:=
  (env.kindOf x = some .local /\ m x = some u) ∨ ((env.kindOf x = some .cell ∨ env.kindOf x = some .free) /\ ∃ c, env.cells.lookup x = some c /\ h.IsCell c (some u))
structure Cx.Ok (X : Cx) : Prop where
  mod : Mod X.K X.mg X.base
  kind : X.env.scope.kind = .function
  glob : X.env.globals = mainGlobals
  blt : X.env.builtins = builtinsNs
  above : X.s₀.heap.objs.size <= X.env.locals
  inj : ∀ x y c, X.env.cells.lookup x = some c -> X.env.cells.lookup y = some c -> x = y
  has : ∀ x, (X.env.kindOf x = some .cell ∨ X.env.kindOf x = some .free) -> ∃ c, X.env.cells.lookup x = some c
  cab : ∀ x c, X.fn x = true -> X.env.cells.lookup x = some c -> X.s₀.heap.objs.size <= c
  hd : X.calm = true -> X.A.handled = none
  frames : X.A.frames = some X.stack
  stk : X.stack = X.outer ∨ (X.stack = X.env :: X.outer /\ X.env.frame = some X.env.locals)
  exf : ∀ b ∈ X.ex, b ≠ X.env.locals /\ ∀ x c, X.env.cells.lookup x = some c -> c ≠ b
  bs : ∀ b o, X.base.get? b = some o -> X.s₀.heap.get? b = some o /\ X.H₀ b = none
  bsz : X.base.objs.size <= X.s₀.heap.objs.size
  noex : ∀ b o, X.base.get? b = some o -> b ∉ X.ex
  exfs : ∀ b ∈ X.ex, b ∉ X.fs
  funs : X.s₀.heap.FunFrames X.base X.outer
  frf : ∀ b ∈ X.fs, X.H₀ b = none
structure Inv (X : Cx) (pins : List (Addr × Obj)) (σ : List (Option V)) (H : Hp) (s : Shared) : Prop where
  ok : X.Ok
  os : s.os = X.s₀.os
  bare : AllBare s.gens
  base : Un X.fs X.ex X.H₀ H X.s₀.heap s.heap
  loc : ∃ m, s.heap.Ns X.env.locals m /\ ∀ (i : Nat) (x : Str) (v : V), X.N[i]? = some x -> σ[i]? = some (some v) -> Vis X.env.scope x -> ∃ u, Yi v u /\ M1 X.env s.heap m x u
  cell : ∀ x c, X.env.cells.lookup x = some c -> ∃ v, s.heap.IsCell c v
  free : H X.env.locals = none
  freeC : ∀ x c, X.env.cells.lookup x = some c -> H c = none
  pin : ∀ p ∈ X.pn ++ pins, s.heap.get? p.1 = some p.2 /\ H p.1 = none /\ p.1 ≠ X.env.locals /\ p.1 ∉ X.fs /\ ∀ v, p.2.data ≠ .cell v
  hok : HOk X.prog X.w H s.heap
  len : σ.length = X.N.length
section
variable {X : Cx} {pins : List (Addr × Obj)} {σ : List (Option V)} {H H' : Hp} {s : Shared} {h' : Heap}
theorem Cx.Ok.nofr (ok : X.Ok) {b : Addr} {o : Obj} (e : X.base.get? b = some o) : b ∉ X.fs:=λhb=>by
  have:=(ok.funs.mem hb).1
  rw [e] at this; cases this
theorem Inv.bs (I : Inv X pins σ H s) : ∀ b o, X.base.get? b = some o -> s.heap.get? b = some o /\ H b = none:=λb o e=>
  ⟨I.base.keep b o (I.ok.bs b o e).1 (I.ok.bs b o e).2 (I.ok.nofr e) (I.ok.noex b o e), I.base.free b o (I.ok.bs b o e).1 (I.ok.bs b o e).2 (I.ok.noex b o e)⟩
theorem Inv.bk (I : Inv X pins σ H s) : ∀ b o, X.base.get? b = some o -> s.heap.get? b = some o:=λb o e=>(I.bs b o e).1
theorem Inv.mod (I : Inv X pins σ H s) : Mod X.K X.mg X.base:=I.ok.mod
theorem Inv.kIn (I : Inv X pins σ H s) : X.K.In s.heap:=I.ok.mod.kin.keeps I.bk
theorem Inv.lt (I : Inv X pins σ H s) : X.env.locals < s.heap.objs.size:=let ⟨_, hn, _⟩:=I.loc; hn.lt
theorem Inv.sz (I : Inv X pins σ H s) : X.s₀.heap.objs.size <= s.heap.objs.size:=Nat.le_trans I.ok.above (Nat.le_of_lt I.lt)
theorem Inv.nofs (I : Inv X pins σ H s) {a : Addr} (h : s.heap.objs.size <= a) : a ∉ X.fs:=λhb=>by
  obtain ⟨_, o, ho, _⟩:=I.ok.funs.mem hb
  exact absurd (Nat.lt_of_lt_of_le (Heap.lt_size ho) (Nat.le_trans I.sz h)) (Nat.lt_irrefl _)
theorem Inv.cne (I : Inv X pins σ H s) : ∀ x c, X.env.cells.lookup x = some c -> c ≠ X.env.locals:=λx c e z=>by
  obtain ⟨v, o, ho, hd⟩:=I.cell x c e
  obtain ⟨m, ⟨o', es, ep, ho', hd', _⟩, _⟩:=I.loc
  rw [z, ho'] at ho; cases ho; rw [hd'] at hd; cases hd
theorem Inv.funs (I : Inv X pins σ H s) : s.heap.FunFrames X.base X.outer:=by
  have all : ∀ (l : List Env), (∀ b ∈ frs l, b ∈ X.fs) -> X.s₀.heap.FunFrames X.base l -> s.heap.FunFrames X.base l:=by
    intro l
    induction l with
    | nil=>intro _ _; trivial
    | cons env r ih=>
      intro hs hl
      obtain ⟨hk, ⟨L, o, hf, hn, ho, hd⟩, hr⟩:=hl
      have hL : L ∈ X.fs:=hs L (by unfold frs; rw [List.filterMap_cons, hf]; exact List.mem_cons_self)
      obtain ⟨sl, e⟩:=I.base.slot L o ho (I.ok.frf L hL) hL λz=>I.ok.exfs L z hL
      exact ⟨hk, ⟨L, _, hf, hn, e, hd⟩, ih (λb hb=>hs b (by unfold frs; rw [List.filterMap_cons, hf]; exact List.mem_cons_of_mem _ hb)) hr⟩
  exact all X.outer (λ_ hb=>hb) I.ok.funs
theorem Inv.stack (I : Inv X pins σ H s) : s.heap.FunFrames X.base X.stack:=by
  rcases I.ok.stk with e | ⟨e, hf⟩
  . rw [e]; exact I.funs
  . rw [e]
    obtain ⟨m, hn, _⟩:=I.loc
    refine .cons (by rw [I.ok.kind]; decide) hf hn ?_ I.funs
    exact Heap.get?_none_of_le (Nat.le_trans I.ok.bsz I.ok.above)
theorem Inv.stkSub (I : Inv X pins σ H s) : ∀ b ∈ frs X.stack, b ∈ X.env.locals :: X.fs:=λb hb=>by
  rcases I.ok.stk with e | ⟨e, hf⟩
  . rw [e] at hb; exact List.mem_cons_of_mem _ hb
  . rw [e] at hb
    unfold frs at hb
    rw [List.filterMap_cons, hf] at hb
    exact hb
theorem Inv.stkFree (I : Inv X pins σ H s) : ∀ b ∈ frs X.stack, H b = none:=λb hb=>by
  rcases List.mem_cons.mp (I.stkSub b hb) with e | hb
  . rw [e]; exact I.free
  . obtain ⟨_, o, ho, _⟩ := I.ok.funs.mem hb
    exact I.base.free b o ho (I.ok.frf b hb) λz=>I.ok.exfs b z hb
theorem Inv.step {g' : Array GenState} {t' : Nat} {d' : Drawn} {ch : List Addr} (I : Inv X pins σ H s)
    (hch : ∀ b ∈ ch, (b ∈ X.ex ∨ X.s₀.heap.objs.size <= b) /\ b ≠ X.env.locals /\ (∀ x c, X.env.cells.lookup x = some c -> c ≠ b) /\ ∀ p ∈ X.pn ++ pins, p.1 ≠ b)
    (keep : ∀ b o, b ≠ X.env.locals -> b ∉ X.fs -> b ∉ ch -> s.heap.get? b = some o -> H b = none -> h'.get? b = some o)
    (slot : ∀ b o, b ≠ X.env.locals -> b ∈ X.fs -> b ∉ ch -> s.heap.get? b = some o -> H b = none -> ∃ sl, h'.get? b = some { o with slots:=sl }) (free : ∀ b o, b ∉ ch -> s.heap.get? b = some o -> H b = none -> H' b = none)
    (there : ∀ b o, b ∉ ch -> s.heap.get? b = some o -> ∃ o', h'.get? b = some o')
    (tups : ∀ b xs, H b = some (.tup xs) -> H' b = some (.tup xs)) (frzs : ∀ b o u, H b = some (.frz o u) -> H' b = some (.frz o u)) (tbls : ∀ b ps, H b = some (.tbl ps) -> ∃ more, H' b = some (.tbl (ps ++ more)))
    (ns : ∀ m, s.heap.Ns X.env.locals m -> h'.Ns X.env.locals m) (hok : HOk X.prog X.w H' h') (hg : AllBare g') :
    Inv X pins σ H' { s with heap:=h', gens:=g', drawn:=d', toks:=t' }:=by
  have neL : ∀ b o, X.s₀.heap.get? b = some o -> b ≠ X.env.locals:=λb o e=>Nat.ne_of_lt (Nat.lt_of_lt_of_le (Heap.lt_size e) I.ok.above)
  have neC : ∀ b o, X.s₀.heap.get? b = some o -> b ∉ X.ex -> b ∉ ch:=λb o e hx hb=>by
    rcases (hch b hb).1 with z | z
    . exact hx z
    . exact absurd (Nat.lt_of_lt_of_le (Heap.lt_size e) z) (Nat.lt_irrefl _)
  have cellK : ∀ x c, X.env.cells.lookup x = some c -> ∀ v, s.heap.IsCell c v -> h'.IsCell c v:=λx c e v ⟨o, ho, hd⟩=>by
    have nch : c ∉ ch:=λz=>(hch c z).2.2.1 x c e rfl
    by_cases hc : c ∈ X.fs
    . obtain ⟨sl, q⟩ := slot c o (I.cne x c e) hc nch ho (I.freeC x c e)
      exact ⟨_, q, hd⟩
    . exact ⟨o, keep c o (I.cne x c e) hc nch ho (I.freeC x c e), hd⟩
  refine ⟨I.ok, I.os, hg, ⟨λb o e n hb hx=>?_, λb o e n hb hx=>?_, λb o e n hx=>?_, λb o e hx=>?_, λb xs e=>tups b xs (I.base.tups b xs e), λb o xs e=>frzs b o xs (I.base.frzs b o xs e), λb ps e=>?_⟩, ?_, λx c e=>?_, ?_, λx c e=>?_, λp hp=>?_, hok, I.len⟩
  . exact keep b o (neL b o e) hb (neC b o e hx) (I.base.keep b o e n hb hx) (I.base.free b o e n hx)
  . obtain ⟨sl, e1⟩ := I.base.slot b o e n hb hx
    obtain ⟨sl', e2⟩:=slot b _ (neL b o e) hb (neC b o e hx) e1 (I.base.free b o e n hx)
    exact ⟨sl', e2⟩
  . obtain ⟨o', e1⟩ := I.base.there b o e hx
    exact free b o' (neC b o e hx) e1 (I.base.free b o e n hx)
  . obtain ⟨o', e1⟩ := I.base.there b o e hx
    exact there b o' (neC b o e hx) e1
  . obtain ⟨m1, e1⟩ := I.base.tbls b ps e
    obtain ⟨m2, e2⟩:=tbls b _ e1
    exact ⟨m1 ++ m2, by rw [e2, Array.append_assoc]⟩
  . obtain ⟨m, hn, hl⟩ := I.loc
    refine ⟨m, ns m hn, λi x v e1 e2 e3=>?_⟩
    obtain ⟨u, r, l⟩:=hl i x v e1 e2 e3
    refine ⟨u, r, ?_⟩
    rcases l with l | ⟨k, c, e, z⟩
    . exact .inl l
    . exact .inr ⟨k, c, e, cellK x c e _ z⟩
  . obtain ⟨v, z⟩ := I.cell x c e
    exact ⟨v, cellK x c e v z⟩
  . obtain ⟨m, ⟨o, _, _, ho, _⟩, _⟩ := I.loc
    exact free _ o (λz=>(hch _ z).2.1 rfl) ho I.free
  . obtain ⟨v, o, ho, hd⟩ := I.cell x c e
    exact free c o (λz=>(hch c z).2.2.1 x c e rfl) ho (I.freeC x c e)
  . obtain ⟨e, n, ne, nf, d⟩ := I.pin p hp
    have nch : p.1 ∉ ch:=λz=>(hch p.1 z).2.2.2 p hp rfl
    exact ⟨keep p.1 p.2 ne nf nch e n, free p.1 p.2 nch e n, ne, nf, d⟩
theorem Inv.un {t' : Nat} (I : Inv X pins σ H s) (u : Un X.fs [] H H' s.heap h') (hok : HOk X.prog X.w H' h') : Inv X pins σ H' { s with heap:=h', toks:=t' }:=by
  obtain ⟨m, ⟨o, es, ep, ho, r⟩, _⟩:=id I.loc
  obtain ⟨sl, hL⟩:=u.any ho I.free (by simp)
  exact I.step (g':=s.gens) (d':=s.drawn) (ch:=[]) (λ_ z=>nomatch z) (λb o _ hb _ e n=>u.keep b o e n hb (by simp)) (λb o _ hb _ e n=>u.slot b o e n hb (by simp)) (λb o _ e n=>u.free b o e n (by simp)) (λb o _ e=>u.there b o e (by simp)) u.tups u.frzs u.tbls (λm' hm=>by
    obtain ⟨o', es', ep', ho', r'⟩:=hm
    rw [ho] at ho'; cases ho'
    exact ⟨_, es', ep', hL, r'⟩) hok I.bare
theorem Inv.call {g' : Array GenState} {t' : Nat} {d' : Drawn} {ch : List Addr} (I : Inv X pins σ H s) (u : Un (frs X.stack) ch H H' s.heap h') (hok : HOk X.prog X.w H' h') (hg : AllBare g')
    (hch : ∀ b ∈ ch, (b ∈ X.ex ∨ X.s₀.heap.objs.size <= b) /\ b ≠ X.env.locals /\ (∀ x c, X.env.cells.lookup x = some c -> c ≠ b) /\ ∀ p ∈ X.pn ++ pins, p.1 ≠ b) :
    Inv X pins σ H' { s with heap:=h', gens:=g', drawn:=d', toks:=t' }:=by
  obtain ⟨m, ⟨o, es, ep, ho, r⟩, _⟩:=id I.loc
  obtain ⟨sl, hL⟩:=u.any ho I.free λz=>(hch _ z).2.1 rfl
  exact I.step (ch:=ch) hch (λb o hL hb hc e n=>u.keep b o e n (λz=>(List.mem_cons.mp (I.stkSub b z)).elim hL hb) hc) (λb o _ _ hc e n=>u.any e n hc) (λb o hc e n=>u.free b o e n hc) (λb o hc e=>u.there b o e hc) u.tups u.frzs u.tbls (λm' hm=>by
    obtain ⟨o', es', ep', ho', r'⟩:=hm
    rw [ho] at ho'; cases ho'
    exact ⟨_, es', ep', hL, r'⟩) hok hg
theorem Inv.turned {t' : Nat} {it : Addr} (I : Inv X pins σ H s) (k : ∀ b o, b ≠ it -> s.heap.get? b = some o -> h'.get? b = some o) (hn : H it = none) (hL : it ≠ X.env.locals)
    (h1 : it ∈ X.ex ∨ X.s₀.heap.objs.size <= it) (h2 : ∀ x c, X.env.cells.lookup x = some c -> c ≠ it) (h3 : ∀ p ∈ X.pn ++ pins, p.1 ≠ it) : Inv X pins σ H { s with heap:=h', toks:=t' }:=by
  have nit : ∀ b u, H b = some u -> b ≠ it:=λb u e z=>by rw [z, hn] at e; cases e
  refine I.step (g':=s.gens) (d':=s.drawn) (ch:=[it]) (λb hb=>?_) (λb o _ _ hc e _=>k b o (λz=>hc (by simp [z])) e) (λb o _ _ hc e _=>⟨o.slots, k b o (λz=>hc (by simp [z])) e⟩) (λ_ _ _ _ n=>n)
    (λb o hc e=>⟨o, k b o (λz=>hc (by simp [z])) e⟩) (λ_ _ e=>e) (λ_ _ _ e=>e) (λb ps e=>⟨#[], by rw [e]; simp⟩) (λm hm=>?_) (λb u e=>?_) I.bare
  . have e : b = it := by simpa using hb
    subst e
    exact ⟨h1, hL, h2, h3⟩
  . obtain ⟨o, es, ep, ho, r⟩ := hm
    exact ⟨o, es, ep, k _ o (Ne.symm hL) ho, r⟩
  . refine (I.hok b u e).stay (λc v hc q => k c v ?_ q) (λ_ q => q) λ_ _ q => q
    rcases hc with z | z
    . rw [z]; exact nit b u e
    . exact nit c _ z
theorem Inv.tok (I : Inv X pins σ H s) (t : Nat) : Inv X pins σ H { s with toks:=t }:=I.un (h':=s.heap) (t':=t) Un.refl I.hok
theorem Inv.kept {t' : Nat} (I : Inv X pins σ H s) (k : ∀ b u, s.heap.get? b = some u -> h'.get? b = some u) : Inv X pins σ H { s with heap:=h', toks:=t' }:=I.un (Un.kept k) (I.hok.kept k)
theorem Inv.laid {a : Addr} {o : HO} {t' : Nat} (I : Inv X pins σ H s) (k : ∀ b u, s.heap.get? b = some u -> h'.get? b = some u) (hp : s.heap.objs.size <= a) (new : YJ X.prog X.w (upd H a o) h' a o) :
    Inv X pins σ (upd H a o) { s with heap:=h', toks:=t' }:=I.un (Un.laid k hp (I.hok.fresh hp)) (I.hok.laid k hp new)
theorem Inv.write {x e : Addr} {o : HO} {t' : Nat} (I : Inv X pins σ H s) (mu : Mut (H x)) (he : e = x ∨ H e = some (.own x)) (k : ∀ b u, b ≠ e -> s.heap.get? b = some u -> h'.get? b = some u) (heo : ∃ u, h'.get? e = some u)
    (new : YJ X.prog X.w (upd H x o) h' x o) : Inv X pins σ (upd H x o) { s with heap:=h', toks:=t' }:=I.un (Un.write mu he k heo) (I.hok.write mu he k heo new)
theorem Inv.weak {σ' : List (Option V)} (I : Inv X pins σ H s) (hl : σ'.length = σ.length) (w : ∀ (i : Nat) v, σ'[i]? = some (some v) -> σ[i]? = some (some v)) : Inv X pins σ' H s:=
  ⟨I.ok, I.os, I.bare, I.base, let ⟨m, hn, hl'⟩:=I.loc; ⟨m, hn, λi x v e1 e2 e3=>hl' i x v e1 (w i v e2) e3⟩, I.cell, I.free, I.freeC, I.pin, I.hok, hl.trans I.len⟩
theorem Inv.pins_of {pins' : List (Addr × Obj)} (I : Inv X pins σ H s) (h : ∀ p ∈ pins', s.heap.get? p.1 = some p.2 /\ H p.1 = none /\ p.1 ≠ X.env.locals /\ p.1 ∉ X.fs /\ ∀ v, p.2.data ≠ .cell v) : Inv X pins' σ H s:=
  ⟨I.ok, I.os, I.bare, I.base, I.loc, I.cell, I.free, I.freeC, λp hp=>(List.mem_append.mp hp).elim (λz=>I.pin p (List.mem_append_left _ z)) (h p), I.hok, I.len⟩
theorem G4 {N : List Str} (hN : N.Nodup) {i j : Nat} {x : Str} (a : N[i]? = some x) (b : N[j]? = some x) : i = j:=by
  obtain ⟨h1, e1⟩:=List.getElem?_eq_some_iff.mp a
  obtain ⟨h2, e2⟩:=List.getElem?_eq_some_iff.mp b
  exact (List.getElem_inj hN).mp (e1.trans e2.symm)
theorem UQ {M : Model} {A : Around} {E : Value -> Shared -> Prop} {i : Nat} {x : Str} {v : V} {u : Value} {Q : Unit -> Shared -> Prop} (I : Inv X pins σ H s) (hN : X.N.Nodup) (hi : X.N[i]? = some x) (hx : Loc X.env.scope x) (r : Yi v u)
    (h : ∀ s', Inv X pins (σ.set i (some v)) H s' -> (∃ a, Heap.SameBut a s.heap s'.heap /\ (a = X.env.locals ∨ X.env.cells.lookup x = some a)) -> Q () s') (hf : autoParam (X.fn x = true ∨ X.env.scope.names.lookup x = some .local) L2.Zau1._auto_1) : wpAny M A (storeName X.env x u) Q E s:=by
  obtain ⟨m, hn, hl⟩:=id I.loc
  have hcls : (X.env.scope.kind == .class || (X.env.scope.kind == .module && X.env.locals != X.env.globals)) = false:=by rw [I.ok.kind]; rfl
  have hiσ : i < σ.length:=by rw [I.len]; exact (List.getElem?_eq_some_iff.mp hi).1
  have cne:=I.cne
  have tracked : ∀ {a : Addr} {h' : Heap}, (∃ o, s.heap.get? a = some o /\ H a = none) -> Heap.SameBut a s.heap h' -> HOk X.prog X.w H h':=fun {a h'} ha hs b ob e=>by
    obtain ⟨_, _, hfree⟩:=ha
    refine (I.hok b ob e).stay (λc w' hc q=>(hs.2 c ?_).trans q) (λ_ q=>q) λ_ _ q=>q
    rintro rfl
    rcases hc with rfl | hc
    . rw [hfree] at e; cases e
    . rw [hfree] at hc; cases hc
  rcases hx with hk | hk
  . refine wpAny_storeName_local hk hn (λh' hn' hs => ?_) hcls
    obtain ⟨oL, _, _, hoL, _⟩:=id hn
    refine h _ ⟨I.ok, I.os, I.bare, ⟨λb o e n hb hx=>?_, λb o e n hb hx=>?_, I.base.free, λb o e hx=>?_, I.base.tups, I.base.frzs, I.base.tbls⟩, ⟨_, hn', λj y v' e1 e2 e3=>?_⟩, λy c e=>?_, I.free, I.freeC, λp hp=>?_, tracked ⟨oL, hoL, I.free⟩ hs, by simpa using I.len⟩ ⟨_, hs, .inl rfl⟩
    . exact (hs.2 b (Nat.ne_of_lt (Nat.lt_of_lt_of_le (Heap.lt_size e) I.ok.above))).trans (I.base.keep b o e n hb hx)
    . obtain ⟨sl, e1⟩ := I.base.slot b o e n hb hx
      exact ⟨sl, (hs.2 b (Nat.ne_of_lt (Nat.lt_of_lt_of_le (Heap.lt_size e) I.ok.above))).trans e1⟩
    . obtain ⟨o', e1⟩ := I.base.there b o e hx
      exact ⟨o', (hs.2 b (Nat.ne_of_lt (Nat.lt_of_lt_of_le (Heap.lt_size e) I.ok.above))).trans e1⟩
    . by_cases hj : j = i
      . subst hj
        rw [hi] at e1; cases e1
        rw [List.getElem?_set_self hiσ] at e2
        cases e2
        exact ⟨u, r, .inl ⟨hk, by simp⟩⟩
      . rw [List.getElem?_set_ne (Ne.symm hj)] at e2
        obtain ⟨u', r', q⟩:=hl j y v' e1 e2 e3
        refine ⟨u', r', ?_⟩
        rcases q with ⟨k, e⟩ | ⟨k, c, e, z⟩
        . refine .inl ⟨k, ?_⟩
          have : y ≠ x:=λe=>hj (G4 hN e1 (e ▸ hi))
          simp [this, e]
        . exact .inr ⟨k, c, e, z.sameBut hs (cne y c e)⟩
    . obtain ⟨w', z⟩ := I.cell y c e
      exact ⟨w', z.sameBut hs (cne y c e)⟩
    . obtain ⟨e, n, ne, nf, d⟩ := I.pin p hp
      exact ⟨(hs.2 p.1 ne).trans e, n, ne, nf, d⟩
  . have hfn : X.fn x = true:=by
      rcases hf with z | z
      . exact z
      . rw [z] at hk; cases hk
    obtain ⟨c, hc⟩:=I.ok.has x (.inl hk)
    obtain ⟨w', z⟩:=I.cell x c hc
    refine wpAny_storeName_cell I.ok.kind hk hc z (λh' hc' hs=>?_)
    obtain ⟨oc, hoc, hocd⟩:=id z
    refine h { s with heap:=h' } ⟨I.ok, I.os, I.bare, ⟨λb o e n hb hx=>?_, λb o e n hb hx=>?_, I.base.free, λb o e hx=>?_, I.base.tups, I.base.frzs, I.base.tbls⟩, ⟨m, hn.sameBut hs (Ne.symm (cne x c hc)), λj y v' e1 e2 e3=>?_⟩, λy c' e=>?_, I.free, I.freeC, λp hp=>?_, tracked ⟨oc, hoc, I.freeC x c hc⟩ hs, by simpa using I.len⟩ ⟨c, hs, .inr hc⟩
    . exact (hs.2 b (Nat.ne_of_lt (Nat.lt_of_lt_of_le (Heap.lt_size e) (I.ok.cab x c hfn hc)))).trans (I.base.keep b o e n hb hx)
    . obtain ⟨sl, e1⟩ := I.base.slot b o e n hb hx
      exact ⟨sl, (hs.2 b (Nat.ne_of_lt (Nat.lt_of_lt_of_le (Heap.lt_size e) (I.ok.cab x c hfn hc)))).trans e1⟩
    . obtain ⟨o', e1⟩ := I.base.there b o e hx
      exact ⟨o', (hs.2 b (Nat.ne_of_lt (Nat.lt_of_lt_of_le (Heap.lt_size e) (I.ok.cab x c hfn hc)))).trans e1⟩
    . by_cases hj : j = i
      . subst hj
        rw [hi] at e1; cases e1
        rw [List.getElem?_set_self hiσ] at e2
        cases e2
        exact ⟨u, r, .inr ⟨.inl hk, c, hc, hc'⟩⟩
      . rw [List.getElem?_set_ne (Ne.symm hj)] at e2
        obtain ⟨u', r', q⟩:=hl j y v' e1 e2 e3
        refine ⟨u', r', ?_⟩
        rcases q with q | ⟨k, c', e, z'⟩
        . exact .inl q
        . refine .inr ⟨k, c', e, z'.sameBut hs ?_⟩
          rintro rfl
          exact hj (G4 hN e1 (I.ok.inj _ _ _ e hc ▸ hi))
    . by_cases hcc : c' = c
      . subst hcc; exact ⟨_, hc'⟩
      . obtain ⟨w2, z2⟩ := I.cell y c' e
        exact ⟨w2, z2.sameBut hs hcc⟩
    . obtain ⟨e, n, ne, nf, d⟩ := I.pin p hp
      refine ⟨(hs.2 p.1 ?_).trans e, n, ne, nf, d⟩
      intro q
      rw [q, hoc] at e
      have q' : oc = p.2:=Option.some.inj e
      exact d w' (by rw [← q']; exact hocd)
theorem JI {M : Model} {A : Around} {E : Value -> Shared -> Prop} {i : Nat} {x : Str} {v : V} {u : Value} {Q : Unit -> Shared -> Prop} (I : Inv X pins σ H s) (hN : X.N.Nodup) (hi : X.N[i]? = some x) (hx : Loc X.env.scope x) (r : Yi v u)
    (h : ∀ s', Inv X pins (σ.set i (some v)) H s' -> Q () s') (hf : autoParam (X.fn x = true ∨ X.env.scope.names.lookup x = some .local) L2.Zau1._auto_1) : wpAny M A (storeName X.env x u) Q E s:=
  UQ I hN hi hx r (λs' I' _=>h s' I') hf
theorem Inv.call' {s' : Shared} {ch : List Addr} (I : Inv X pins σ H s) (ho : s'.os = s.os) (u : Un (frs X.stack) ch H H' s.heap s'.heap) (hok : HOk X.prog X.w H' s'.heap) (hg : AllBare s'.gens)
    (hch : ∀ b ∈ ch, (b ∈ X.ex ∨ X.s₀.heap.objs.size <= b) /\ b ≠ X.env.locals /\ (∀ x c, X.env.cells.lookup x = some c -> c ≠ b) /\ ∀ p ∈ X.pn ++ pins, p.1 ≠ b) : Inv X pins σ H' s':=by
  obtain ⟨h', g', d', t', o'⟩:=s'
  have e : o' = s.os:=ho
  subst e
  exact I.call (g':=g') (t':=t') (d':=d') u hok hg hch
end
noncomputable abbrev XK:=Value -> Option Addr -> Hp -> Prop
noncomputable abbrev St:=List (Option V)
noncomputable abbrev VK:=V -> Hp -> Prop
noncomputable abbrev TE:=St -> Hp -> VK -> Prop
noncomputable abbrev TT:=St -> Hp -> (Bool -> Hp -> Prop) -> Prop
noncomputable abbrev TA:=St -> Hp -> (List V -> Hp -> Prop) -> Prop
structure Ends where
  nx : St -> Hp -> Prop
  rt : VK
  bk : St -> Hp -> Prop:=λ_ _=>False
  ct : St -> Hp -> Prop:=λ_ _=>False
noncomputable abbrev TS:=Ends -> St -> Hp -> Prop
noncomputable def EP (X : Cx) (pins : List (Addr × Obj)) (σ : St) (Q : VK) (u : Value) (s' : Shared) : Prop:=∃ v H', Inv X pins σ H' s' /\ Yi v u /\ Q v H'
noncomputable def TP (X : Cx) (pins : List (Addr × Obj)) (σ : St) (Q : Bool -> Hp -> Prop) (b : Bool) (s' : Shared) : Prop:=∃ H', Inv X pins σ H' s' /\ Q b H'
noncomputable def AP (X : Cx) (pins : List (Addr × Obj)) (σ : St) (Q : List V -> Hp -> Prop) (us : List Value) (s' : Shared) : Prop:=∃ vs H', Inv X pins σ H' s' /\ Ym vs us /\ Q vs H'
noncomputable def SP (X : Cx) (pins : List (Addr × Obj)) (D : Ends) (f : Flow) (s' : Shared) : Prop:=
  match f with
  | .next=>∃ σ' H', Inv X pins σ' H' s' /\ D.nx σ' H'
  | .brk=>∃ σ' H', Inv X pins σ' H' s' /\ D.bk σ' H'
  | .cont=>∃ σ' H', Inv X pins σ' H' s' /\ D.ct σ' H'
  | .ret u=>∃ v σ' H', Inv X pins σ' H' s' /\ Yi v u /\ D.rt v H'
noncomputable def PE (X : Cx) (e : Expr) (t : TE) : Prop:=
  ∀ (pins : List (Addr × Obj)) (s : Shared) (σ : St) (H : Hp) (Q : VK), Inv X pins σ H s -> t σ H Q -> wpAny (model X.prog X.w) X.A (eval e X.env) (EP X pins σ Q) X.xe s
noncomputable def PT (X : Cx) (e : Expr) (t : TT) : Prop:=
  ∀ (pins : List (Addr × Obj)) (s : Shared) (σ : St) (H : Hp) (Q : Bool -> Hp -> Prop), Inv X pins σ H s -> t σ H Q -> wpAny (model X.prog X.w) X.A (isTrue e X.env (eval e X.env)) (TP X pins σ Q) X.xe s
noncomputable def PW (X : Cx) (e : Expr) (t : TT) : Prop:=
  ∀ (whole : Sem Value) (pins : List (Addr × Obj)) (s : Shared) (σ : St) (H : Hp) (Q : Bool -> Hp -> Prop), Inv X pins σ H s -> t σ H Q -> wpAny (model X.prog X.w) X.A (isTrue e X.env whole) (TP X pins σ Q) X.xe s
theorem PW.pt {X : Cx} {e : Expr} {t : TT} (h : PW X e t) : PT X e t:=h _
noncomputable def PA (X : Cx) (es : List Expr) (t : TA) : Prop:=
  ∀ (pos : Pos) (pins : List (Addr × Obj)) (s : Shared) (σ : St) (H : Hp) (Q : List V -> Hp -> Prop), Inv X pins σ H s -> t σ H Q -> wpAny (model X.prog X.w) X.A (spliced (backTo pos (starEach es X.env))) (AP X pins σ Q) X.xe s
noncomputable def PS (X : Cx) (st : Stmt) (t : TS) : Prop:=
  ∀ (pins : List (Addr × Obj)) (s : Shared) (σ : St) (H : Hp) (D : Ends), Inv X pins σ H s -> t D σ H -> wpAny (model X.prog X.w) X.A (exec st X.env) (SP X pins D) X.xe s
noncomputable def PSs (X : Cx) (st : List Stmt) (t : TS) : Prop:=
  ∀ (pins : List (Addr × Obj)) (s : Shared) (σ : St) (H : Hp) (D : Ends), Inv X pins σ H s -> t D σ H -> wpAny (model X.prog X.w) X.A (execs st X.env) (SP X pins D) X.xe s
theorem thn {α : Type} {t : Sem α} {Q Q' : α -> Shared -> Prop} {M : Model} {A : Around} {E : Value -> Shared -> Prop} {s : Shared} (h : wpAny M A t Q E s) (hQ : ∀ a s, Q a s -> Q' a s) : wpAny M A t Q' E s:=wpAny_mono h hQ λ_ _ x=>x
section
variable {X : Cx}
noncomputable def UY (i : Nat) : TE:=λσ H Q=>∃ v, σ[i]? = some (some v) /\ Q v H
noncomputable def tC (v : V) : TE:=λ_ H Q=>Q v H
theorem IU {i : Nat} {x : Str} {pos : Pos} (hN : X.N[i]? = some x) (hv : Vis X.env.scope x) (hd : autoParam ((x == ("__debug__" : Str)) = false) L2.Zau2._auto_1) (hcd : autoParam ((x == ("__classdict__" : Str)) = false) L2.Zau2._auto_1) : PE X (.Name x pos) (UY i):=by
  intro pins s σ H Q I h
  obtain ⟨v, e, h⟩:=h
  obtain ⟨m, hn, hl⟩:=I.loc
  obtain ⟨u, r, l⟩:=hl i x v hN e hv
  have fin : EP X pins σ Q u s:=⟨v, H, I, r, h⟩
  rcases l with ⟨hk, hm⟩ | ⟨hk, c, hc, hcell⟩
  . exact wpAny_Name (wpAny_loadName_local I.ok.kind hk hn hm fin) hd
  . rcases hk with hk | hk
    . exact wpAny_Name (wpAny_loadName_cell I.ok.kind hk hc hcell fin) hd
    . exact wpAny_Name (wpAny_loadName_free I.ok.kind hk hc hcell fin hcd) hd
theorem Xg {i j pos} : PE X (.Constant (.int i) j pos) (tC (.int i)):=λ_ _ _ H _ I h=>wpAny_Constant_int ⟨.int i, H, I.tok _, ⟨_, rfl⟩, h⟩
theorem QM {b j pos} : PE X (.Constant (.bool b) j pos) (tC (.bl b)):=λ_ _ _ H _ I h=>Constant_bool ⟨.bl b, H, I, rfl, h⟩
theorem JB {x j pos} : PE X (.Constant (.str x) j pos) (tC (.str x)):=λ_ _ _ H _ I h=>Calls.Constant_str ⟨.str x, H, I.tok _, ⟨_, rfl⟩, h⟩
noncomputable def Gl (X : Cx) (x : Str) : Prop:=X.env.kindOf x = some .globalImplicit
theorem Uj {E : Value -> Shared -> Prop} {pins : List (Addr × Obj)} {s : Shared} {σ : St} {H : Hp} {x : Str} {u : Value} {pos : Pos} {Q : Value -> Shared -> Prop} (I : Inv X pins σ H s) (hg : Gl X x) (hm : X.mg x = some u) (h : Q u s)
    (hd : autoParam ((x == ("__debug__" : Str)) = false) L2.Zau2._auto_1) : wpAny (model X.prog X.w) X.A (eval (.Name x pos) X.env) Q E s:=
  Calls.Name_function_global I.ok.kind hg (Calls.loadGlobal_global (by rw [I.ok.glob]; exact I.mod.glob.keeps I.bk) hm h) hd
theorem V2 {E : Value -> Shared -> Prop} {pins : List (Addr × Obj)} {s : Shared} {σ : St} {H : Hp} {x : Str} {u : Value} {pos : Pos} {Q : Value -> Shared -> Prop} (I : Inv X pins σ H s) (hg : Gl X x) (hm : X.mg x = none) (hv : bootBuiltins x = some u) (h : Q u s)
    (hn : autoParam (x ≠ "__name__") L2.Zau2._auto_1) (hd : autoParam ((x == ("__debug__" : Str)) = false) L2.Zau2._auto_1) : wpAny (model X.prog X.w) X.A (eval (.Name x pos) X.env) Q E s:=by
  obtain ⟨mb, h1, h2⟩:=I.mod.blt
  exact Calls.Name_function_global I.ok.kind hg (Calls.loadGlobal_builtin (by rw [I.ok.glob]; exact I.mod.glob.keeps I.bk) hm (by rw [I.ok.blt]; exact h1.keeps I.bk) ((h2 x hn).trans hv) h) hd
theorem Gj {x : Str} {v : V} {u : Value} {pos : Pos} (hg : Gl X x) (hm : X.mg x = some u) (r : Yi v u) (hd : autoParam ((x == ("__debug__" : Str)) = false) L2.Zau2._auto_1) : PE X (.Name x pos) (tC v):=
  λ_ _ _ H _ I h=>Uj I hg hm ⟨v, H, I, r, h⟩ hd
theorem Ua {x : Str} {v : V} {u : Value} {pos : Pos} (hg : Gl X x) (hm : X.mg x = none) (hv : bootBuiltins x = some u) (r : Yi v u) (hn : autoParam (x ≠ "__name__") L2.Zau2._auto_1) (hd : autoParam ((x == ("__debug__" : Str)) = false) L2.Zau2._auto_1) : PE X (.Name x pos) (tC v):=
  λ_ _ _ H _ I h=>V2 I hg hm hv ⟨v, H, I, r, h⟩ hn hd
variable {a b : Expr} {ta tb : TE} {pos : Pos}
noncomputable def PC (X : Cx) (op : CmpOp) (a b : Expr) (t : TE) : Prop:=
  ∀ (pins : List (Addr × Obj)) (s : Shared) (σ : St) (H : Hp) (Q : VK), Inv X pins σ H s -> t σ H Q ->
    wpAny (model X.prog X.w) X.A (eval a X.env) (λv s₁=>wpAny (model X.prog X.w) X.A (eval b X.env) (λu s₂=>wpAny (model X.prog X.w) X.A (compareOp op v u) (EP X pins σ Q) X.xe s₂) X.xe s₁) X.xe s
noncomputable def tB (t : TE) : TT:=λσ H Q=>t σ H λx H1=>∃ c, x = .bl c /\ Q c H1
theorem Lm {op : CmpOp} {t : TE} (h : PC X op a b t) (h1 : autoParam (behindInMarks op b = false) L2.Zau3._auto_1) : PT X (.Compare a [op] [b] pos) (tB t):=by
  intro pins s σ H Q I hw
  refine wpAny_isTrue_Compare1 (thn (h pins s σ H _ I hw) λv s1 h1=>thn h1 λu s2 h2=>thn h2 λc s3 r9=>?_) h1
  obtain ⟨x, H1, I1, r1, q1⟩:=r9
  obtain ⟨d, rfl, q⟩:=q1
  cases r1
  exact wpAny_truthy_bool ⟨H1, I1, q⟩
theorem G0 {e : Expr} {t : TE} (h : PE X e t) (he : autoParam (∀ whole, isTrue e X.env whole = (do let v ← whole; standAt e.pos; holding [v] (truthy v))) L2.Zau4._auto_1) : PT X e (tB t):=by
  intro pins s σ H Q I hw
  refine isTrue_plain (thn (h pins s σ H _ I hw) λv s1 r9=>?_) (he _)
  obtain ⟨x, H1, I1, r1, q1⟩:=r9
  obtain ⟨d, rfl, q⟩:=q1
  cases r1
  exact wpAny_truthy_bool ⟨H1, I1, q⟩
variable {tA tB' : TT} {rest : List Expr}
noncomputable def tOr (t u : TT) : TT:=λσ H Q=>t σ H λc H1=>if c = true then Q true H1 else u σ H1 Q
noncomputable def MD (t : TT) : TT:=λσ H Q=>t σ H λc H1=>Q (!c) H1
theorem Ez (ha : PT X a tA) : PW X (.BoolOp .Or [a] pos) tA:=by
  intro wh pins s σ H Q I h
  refine isTrue_or (thn (ha pins s σ H Q I h) λc s1 e=>?_)
  cases c with
  | false=>exact isTrue_or_nil e
  | true=>exact e
theorem LX (ha : PT X a tA) (hb : PW X (.BoolOp .Or (b :: rest) pos) tB') : PW X (.BoolOp .Or (a :: b :: rest) pos) (tOr tA tB'):=by
  intro wh pins s σ H Q I h
  refine isTrue_or (thn (ha pins s σ H _ I h) λc s1 r9=>?_)
  obtain ⟨H1, I1, q1⟩:=r9
  cases c with
  | true=>exact ⟨H1, I1, q1⟩
  | false=>exact hb wh pins s1 σ H1 Q I1 q1
theorem GR (ha : PT X a tA) : PT X (.UnaryOp .Not a pos) (MD tA):=by
  intro pins s σ H Q I h
  exact isTrue_not (ha pins s σ H (λc H1=>Q (!c) H1) I h)
noncomputable def IQ (ta tb : TE) : TE:=λσ H Q=>ta σ H λx H1=>∃ c, x = .bl c /\ if c = true then tb σ H1 Q else Q (.bl false) H1
noncomputable def LA (ta : TE) : TE:=λσ H Q=>ta σ H λx H1=>∃ c, x = .bl c /\ Q (.bl (!c)) H1
theorem GW {op} {t : TE} (h : PE X a t) : PE X (.BoolOp op [a] pos) t:=λpins s σ H Q I hw=>BoolOp_one (h pins s σ H Q I hw)
theorem GM (ha : PE X a ta) (hb : PE X (.BoolOp .And (b :: rest) pos) tb) : PE X (.BoolOp .And (a :: b :: rest) pos) (IQ ta tb):=by
  intro pins s σ H Q I h
  refine BoolOp_and (thn (ha pins s σ H _ I h) λv s1 r9=>?_)
  obtain ⟨x, H1, I1, r1, q1⟩:=r9
  obtain ⟨c, rfl, q1⟩:=q1
  cases r1
  refine wpAny_truthy_bool ?_
  cases c with
  | true=>exact hb pins s1 σ H1 Q I1 q1
  | false=>exact ⟨.bl false, H1, I1, rfl, q1⟩
theorem Ll (ha : PE X a ta) : PE X (.UnaryOp .Not a pos) (LA ta):=by
  intro pins s σ H Q I h
  refine UnaryOp_ (thn (ha pins s σ H _ I h) λv s1 r9=>?_)
  obtain ⟨x, H1, I1, r1, q1⟩:=r9
  obtain ⟨c, rfl, q1⟩:=q1
  cases r1
  exact not_of (wpAny_truthy_bool ⟨.bl (!c), H1, I1, rfl, q1⟩)
noncomputable def tIf (t : TT) (ta tb : TE) : TE:=λσ H Q=>t σ H λc H1=>if c = true then ta σ H1 Q else tb σ H1 Q
theorem BN {c : Expr} (hc : PT X c tA) (ha : PE X a ta) (hb : PE X b tb) : PE X (.IfExp c a b pos) (tIf tA ta tb):=by
  intro pins s σ H Q I h
  refine wpAny_IfExp (thn (hc pins s σ H _ I h) λd s1 r9=>?_)
  obtain ⟨H1, I1, q1⟩:=r9
  cases d with
  | true=>exact ha pins s1 σ H1 Q I1 q1
  | false=>exact hb pins s1 σ H1 Q I1 q1
end
noncomputable def SqL (K : PySem.W.Frag) (H : Hp) (a : Addr) (xs : List V) : Prop:=
  Rd H a (.lst xs) ∨
    ∃ (o : Obj) (its : Array Value) (n : Nat), K.lookup a = some o /\ o.cls = .type "list" /\ o.dict = none /\ o.data = .seq its n /\ its.size <= sizeLine /\ Ym xs its.toList
noncomputable def SqT (K : PySem.W.Frag) (H : Hp) (a : Addr) (xs : List V) : Prop:=
  Rd H a (.tup xs) ∨
    ∃ (o : Obj) (its : Array Value) (n : Nat), K.lookup a = some o /\ o.cls = .type "tuple" /\ o.data = .seq its n /\ its.size <= sizeLine /\ Ym xs its.toList
noncomputable def M0 : Value -> Option V
  | .none=>some .non
  | .bool b=>some (.bl b)
  | .int i _=>some (.int i)
  | .str x _=>some (.str x)
  | .bytes b _=>some (.byt b)
  | .float b _=>some (.flt b)
  | .ref a=>some (.ref a)
  | .type n=>some (.ty n)
  | _=>none
theorem Yi.abs {x : V} {u : Value} (r : Yi x u) : M0 u = some x:=by
  cases x with
  | non=>cases r; rfl
  | bl _=>cases r; rfl
  | int _=>obtain ⟨t, rfl⟩:=r; rfl
  | str _=>obtain ⟨t, rfl⟩:=r; rfl
  | byt _=>obtain ⟨t, rfl⟩:=r; rfl
  | flt _=>obtain ⟨t, rfl⟩:=r; rfl
  | ref _=>cases r; rfl
  | ty _=>cases r; rfl
theorem Yi.inj {x y : V} {u : Value} (r : Yi x u) (q : Yi y u) : x = y:=Option.some.inj (r.abs.symm.trans q.abs)
theorem Ym.inj : ∀ {xs ys : List V} {us : List Value}, Ym xs us -> Ym ys us -> xs = ys:=fun {xs ys us} p=>by
  induction p generalizing ys with
  | nil=>intro q; cases q; rfl
  | cons r _ ih=>intro q; cases q with | cons r' t'=>rw [r.inj r', ih t']
section
variable {X : Cx} {pins : List (Addr × Obj)} {σ : St} {H : Hp} {s : Shared} {a : Addr} {xs ys : List V}
theorem SqL.of {K : PySem.W.Frag} (h : H a = some (.lst xs)) : SqL K H a xs:=.inl (.inl h)
theorem SqT.of {K : PySem.W.Frag} (h : H a = some (.tup xs)) : SqT K H a xs:=.inl (.inl h)
theorem Inv.list (I : Inv X pins σ H s) (h : SqL X.K H a xs) : ∃ its : List Value, Ym xs its /\ PlainL s.heap a its.toArray /\ xs.length <= sizeLine:=by
  rcases h with h | ⟨o, its, n, hk, hc, hd, hs, hz, r⟩
  . obtain ⟨z, its, n, r, e⟩ := h.ok I.hok
    exact ⟨its, r, ⟨_, n, e, rfl, rfl, rfl⟩, z⟩
  . refine ⟨its.toList, r, ⟨o, n, I.kIn a o hk, hc, hd, by simpa using hs⟩, ?_⟩
    have e:=r.length
    simp only [Array.length_toList] at e
    lia
theorem Inv.tuple (I : Inv X pins σ H s) (h : SqT X.K H a xs) : ∃ its : List Value, Ym xs its /\ IsTup s.heap a its.toArray /\ xs.length <= sizeLine:=by
  rcases h with h | ⟨o, its, n, hk, hc, hs, hz, r⟩
  . obtain ⟨z, its, r, p⟩ := h.ok I.hok
    exact ⟨its, r, p, z⟩
  . refine ⟨its.toList, r, ⟨o, I.kIn a o hk, hc, n, by simpa using hs⟩, ?_⟩
    have e:=r.length
    simp only [Array.length_toList] at e
    lia
theorem Inv.list_inj (I : Inv X pins σ H s) (h : SqL X.K H a xs) (h' : SqL X.K H a ys) : xs = ys:=by
  obtain ⟨its, r, ⟨o, n, e, _, _, d⟩, _⟩:=I.list h
  obtain ⟨its', r', ⟨o', n', e', _, _, d'⟩, _⟩:=I.list h'
  rw [e] at e'; cases e'
  rw [d] at d'
  injection d' with d1 _
  have : its = its':=by simpa using congrArg Array.toList d1
  subst this
  exact r.inj r'
theorem Inv.tuple_inj (I : Inv X pins σ H s) (h : SqT X.K H a xs) (h' : SqT X.K H a ys) : xs = ys:=by
  obtain ⟨its, r, ⟨o, e, _, n, d⟩, _⟩:=I.tuple h
  obtain ⟨its', r', ⟨o', e', _, n', d'⟩, _⟩:=I.tuple h'
  rw [e] at e'; cases e'
  rw [d] at d'
  injection d' with d1 _
  have : its = its':=by simpa using congrArg Array.toList d1
  subst this
  exact r.inj r'
end
noncomputable abbrev Cx.wish (X : Cx) (E : Value -> Shared -> Prop) : Cx:={ X with xe:=E }
noncomputable abbrev Cx.nox (X : Cx) : Cx:=X.wish λ_ _=>False
theorem Cx.Ok.wish {X : Cx} (ok : X.Ok) (E : Value -> Shared -> Prop) : (X.wish E).Ok:=
  ⟨ok.mod, ok.kind, ok.glob, ok.blt, ok.above, ok.inj, ok.has, ok.cab, ok.hd, ok.frames, ok.stk, ok.exf, ok.bs, ok.bsz, ok.noex, ok.exfs, ok.funs, ok.frf⟩
theorem Cx.Ok.unwish {X : Cx} {E : Value -> Shared -> Prop} (ok : (X.wish E).Ok) : X.Ok:=
  ⟨ok.mod, ok.kind, ok.glob, ok.blt, ok.above, ok.inj, ok.has, ok.cab, ok.hd, ok.frames, ok.stk, ok.exf, ok.bs, ok.bsz, ok.noex, ok.exfs, ok.funs, ok.frf⟩
section
variable {X : Cx} {pins : List (Addr × Obj)} {σ : St} {H : Hp} {s : Shared} {E : Value -> Shared -> Prop}
theorem Inv.wish (I : Inv X pins σ H s) (E : Value -> Shared -> Prop) : Inv (X.wish E) pins σ H s:=⟨I.ok.wish E, I.os, I.bare, I.base, I.loc, I.cell, I.free, I.freeC, I.pin, I.hok, I.len⟩
theorem Inv.unwish (I : Inv (X.wish E) pins σ H s) : Inv X pins σ H s:=⟨I.ok.unwish, I.os, I.bare, I.base, I.loc, I.cell, I.free, I.freeC, I.pin, I.hok, I.len⟩
theorem SP.unwish {D : Ends} {f : Flow} {s' : Shared} (h : SP (X.wish E) pins D f s') : SP X pins D f s':=by
  cases f with
  | next=>obtain ⟨σ', H', I, q⟩:=h; exact ⟨σ', H', I.unwish, q⟩
  | brk=>obtain ⟨σ', H', I, q⟩:=h; exact ⟨σ', H', I.unwish, q⟩
  | cont=>obtain ⟨σ', H', I, q⟩:=h; exact ⟨σ', H', I.unwish, q⟩
  | ret u=>obtain ⟨v, σ', H', I, r, q⟩:=h; exact ⟨v, σ', H', I.unwish, r, q⟩
theorem PSs.nox {st : List Stmt} {t : TS} (h : PSs X.nox st t) : PSs X st t:=λpins s σ H D I hw=>
  wpAny_mono (h pins s σ H D (I.wish _) hw) (λ_ _ q=>q.unwish) λ_ _ z=>False.elim z
end
section
variable {X : Cx} {st : Stmt} {rest : List Stmt} {t u : TS} {e : Expr} {te : TE} {pos : Pos}
noncomputable def Fy : TS:=λD σ H=>D.nx σ H
noncomputable def Jg (t u : TS) : TS:=λD σ H=>t { D with nx:=u D } σ H
theorem Xi : PSs X [] Fy:=λ_ _ σ H _ I h=>wpAny_execs_nil ⟨σ, H, I, h⟩
theorem Xd (h1 : PS X st t) (h2 : PSs X rest u) : PSs X (st :: rest) (Jg t u):=by
  intro pins s σ H D I h
  refine wpAny_execs_cons (thn (h1 pins s σ H { D with nx:=u D } I h) λf s1 q=>?_)
  cases f with
  | next=>
    obtain ⟨σ', H', I', q⟩:=q
    exact h2 pins s1 σ' H' D I' q
  | ret v=>exact q
  | brk=>exact q
  | cont=>exact q
theorem Inv.quiet {pins : List (Addr × Obj)} {σ : St} {H : Hp} {s : Shared} (I : Inv X pins σ H s) : interactive X.env = false:=by simp [interactive, I.ok.kind]
noncomputable def Fk (te : TE) : TS:=λD σ H=>te σ H λ_ H1=>D.nx σ H1
theorem YR (he : PE X e te) (hs : autoParam (swapsWith e none pos.line X.env = pure false) L2.Zau5._auto_1) : PS X (.Expr e pos) (Fk te):=by
  intro pins s σ H D I h
  exact wpAny_Expr_any (thn (he pins s σ H _ I h) λv s1 r9=>by obtain ⟨x, H1, I1, r1, q1⟩:=r9; exact ⟨σ, H1, I1, q1⟩) I.quiet hs
noncomputable def MN (te : TE) : TS:=λD σ H=>te σ H D.rt
theorem XL (he : PE X e te) : PS X (.Return (some e) pos) (MN te):=by
  intro pins s σ H D I h
  exact wpAny_Return_some (thn (he pins s σ H _ I h) λv s1 r9=>by obtain ⟨x, H1, I1, r1, q1⟩:=r9; exact ⟨x, σ, H1, I1, r1, q1⟩)
noncomputable def Lx (c : TT) (t u : TS) : TS:=λD σ H=>c σ H λb H1=>if b = true then t D σ H1 else u D σ H1
theorem Zu {c : Expr} {a b : List Stmt} {tc : TT} (hc : PT X c tc) (ha : PSs X a t) (hb : PSs X b u) : PS X (.If c a b pos) (Lx tc t u):=by
  intro pins s σ H D I h
  refine wpAny_If (thn (hc pins s σ H _ I h) λd s1 r9=>?_)
  obtain ⟨H1, I1, q1⟩:=r9
  cases d with
  | true=>exact ha pins s1 σ H1 D I1 q1
  | false=>exact hb pins s1 σ H1 D I1 q1
end
noncomputable abbrev TG:=V -> St -> Hp -> (St -> Hp -> Prop) -> Prop
noncomputable abbrev TGs:=List V -> St -> Hp -> (St -> Hp -> Prop) -> Prop
noncomputable def PG (X : Cx) (target : Expr) (t : TG) : Prop:=
  ∀ (pins : List (Addr × Obj)) (s : Shared) (σ : St) (H : Hp) (v : V) (u : Value) (Q : St -> Hp -> Prop), Inv X pins σ H s -> Yi v u -> t v σ H Q ->
    wpAny (model X.prog X.w) X.A (assign target X.env u) (λ_ s'=>∃ σ' H', Inv X pins σ' H' s' /\ Q σ' H') X.xe s
noncomputable def PGs (X : Cx) (ts : List Expr) (t : TGs) : Prop:=
  ∀ (pins : List (Addr × Obj)) (s : Shared) (σ : St) (H : Hp) (vs : List V) (us : List Value) (Q : St -> Hp -> Prop), Inv X pins σ H s -> Ym vs us -> t vs σ H Q ->
    wpAny (model X.prog X.w) X.A (assignInOrder ((assignEach ts X.env).map (·.2)) us) (λ_ s'=>∃ σ' H', Inv X pins σ' H' s' /\ Q σ' H') X.xe s
noncomputable abbrev LK:=V -> V -> V -> Hp -> (Hp -> Prop) -> Prop
noncomputable def Mf (X : Cx) (t : LK) : Prop:=
  ∀ (pins : List (Addr × Obj)) (s : Shared) (σ : St) (H : Hp) (o i v : V) (ov iv u : Value) (Q : Hp -> Prop), Inv X pins σ H s -> Yi o ov -> Yi i iv -> Yi v u -> t o i v H Q ->
    wpAny (model X.prog X.w) X.A (setItem ov iv u) (λ_ s'=>∃ H', Inv X pins σ H' s' /\ Q H') X.xe s
noncomputable abbrev TIp:=V -> V -> Hp -> VK -> Prop
noncomputable def PIp (X : Cx) (op : Operator) (t : TIp) : Prop:=
  ∀ (pins : List (Addr × Obj)) (s : Shared) (σ : St) (H : Hp) (x y : V) (v u : Value) (Q : VK), Inv X pins σ H s -> Yi x v -> Yi y u -> t x y H Q ->
    wpAny (model X.prog X.w) X.A (inplaceOp op v u) (EP X pins σ Q) X.xe s
section
variable {X : Cx} {pos : Pos}
noncomputable def ZE (i : Nat) : TG:=λv σ H Q=>Q (σ.set i (some v)) H
theorem Xp {i : Nat} {x : Str} (hN : X.N.Nodup) (hi : X.N[i]? = some x) (hx : Loc X.env.scope x) (hf : autoParam (X.fn x = true ∨ X.env.scope.names.lookup x = some .local) L2.Zau1._auto_1) : PG X (.Name x pos) (ZE i):=by
  intro pins s σ H v u Q I r h
  exact wpAny_assign_Name (JI I hN hi hx r (λs' I'=>⟨_, H, I', h⟩) hf)
noncomputable def Lv : TGs:=λvs σ H Q=>vs = [] /\ Q σ H
noncomputable def Ja (t : TG) (u : TGs) : TGs:=λvs σ H Q=>∃ v r, vs = v :: r /\ t v σ H λσ' H'=>u r σ' H' Q
theorem ZJ : PGs X [] Lv:=by
  intro pins s σ H vs us Q I r h
  obtain ⟨e, h⟩:=h
  subst e
  cases r
  exact assignInOrder_nil ⟨σ, H, I, h⟩
theorem XQ {e : Expr} {es : List Expr} {t : TG} {u : TGs} (h1 : PG X e t) (h2 : PGs X es u)
    (hs : autoParam ((assignEach (e :: es) X.env).map (·.2) = assign e X.env :: (assignEach es X.env).map (·.2)) L2.Zau5._auto_1) : PGs X (e :: es) (Ja t u):=by
  intro pins s σ H vs us Q I r h
  obtain ⟨v, vr, e1, h⟩:=h
  subst e1
  cases r with
  | cons r rr=>
    rw [hs]
    refine assignInOrder_cons (thn (h1 pins s σ H _ _ _ I r h) λ_ s1 r9=>?_)
    obtain ⟨σ1, H1, I1, q1⟩:=r9
    exact h2 pins s1 σ1 H1 _ _ Q I1 rr q1
noncomputable def Iv (K : PySem.W.Frag) (n : Nat) (t : TGs) : TG:=λv σ H Q=>∃ a xs, v = .ref a /\ SqT K H a xs /\ xs.length = n /\ t xs σ H Q
theorem VU {es : List Expr} {k : Nat} {t : TGs} {n : Nat} (hc : X.calm = true) (h : PGs X es t)
    (hn : autoParam ((assignEach es X.env).length = n) L2.Zau5._auto_1) (hst : autoParam ((assignEach es X.env).findIdx? (·.1) = none) L2.Zau5._auto_1) : PG X (.Tuple es k pos) (Iv X.K n t):=by
  intro pins s σ H v u Q I r hw
  obtain ⟨a, xs, e1, hq, hl, hw⟩:=hw
  subst e1
  cases r
  obtain ⟨its, rv, ht, hz⟩:=I.tuple hq
  refine assign_Tuple_tuple (I.ok.hd hc) ht (by simp [hn, ← hl, rv.length]) hst λh' hx=>?_
  have I1 : Inv X pins σ H { s with heap:=h' }:=I.kept (t':=s.toks) λb o e=>hx b o (Nat.ne_of_lt (Heap.lt_size e)) e
  exact h pins _ σ H xs _ Q I1 (by simpa using rv) hw
noncomputable def MF (to ti : TE) (t : LK) : TG:=λv σ H Q=>to σ H λo H1=>ti σ H1 λi H2=>t o i v H2 λH3=>Q σ H3
theorem Df {o i : Expr} {to ti : TE} {t : LK} (ho : PE X o to) (hi : PE X i ti) (hs : Mf X t)
    (ha : autoParam (∀ v, assign (.Subscript o i pos) X.env v = (do
      let ov ← holding [v] (eval o X.env)
      let iv ← holding [v, ov] (eval i X.env)
      standAt pos
      holding [v, ov, iv] (setItem ov iv v)
      release [v, ov, iv] [])) L2.Zau4._auto_1) : PG X (.Subscript o i pos) (MF to ti t):=by
  intro pins s σ H v u Q I r h
  rw [ha]
  refine wpAny_bind (wpAny_holding (thn (ho pins s σ H _ I h) λov s1 r9=>?_))
  obtain ⟨x, H1, I1, r1, q1⟩:=r9
  refine wpAny_bind (wpAny_holding (thn (hi pins s1 σ H1 _ I1 q1) λiv s2 r9=>?_))
  obtain ⟨y, H2, I2, r2, q2⟩:=r9
  refine wpAny_bind (wpAny_standAt (wpAny_bind (wpAny_holding (thn (hs pins s2 σ H2 x y v ov iv u _ I2 r1 r2 r q2) λ_ s3 r9=>?_))))
  obtain ⟨H3, I3, q3⟩:=r9
  exact wpAny_release ⟨σ, H3, I3, q3⟩
noncomputable def Ef (te : TE) (g : TG) : TS:=λD σ H=>te σ H λx H1=>g x σ H1 D.nx
theorem Co {tg e : Expr} {te : TE} {g : TG} (he : PE X e te) (hg : PG X tg g) (hs : autoParam (swapsWithSole [tg] e pos.line X.env = pure false) L2.Zau5._auto_1) (hw : autoParam (swappedStores [tg] e X.env = pure none) L2.Zau5._auto_1)
    (h1 : autoParam ((assignEach [tg] X.env).map (·.2) = [assign tg X.env]) L2.Zau5._auto_1) : PS X (.Assign [tg] e pos) (Ef te g):=by
  intro pins s σ H D I h
  refine wpAny_Assign_stores (thn (he pins s σ H _ I h) λv s1 r9=>?_) hs hw
  obtain ⟨x, H1, I1, r1, q1⟩:=r9
  rw [h1]
  exact thn (hg pins s1 σ H1 x v _ I1 r1 q1) λ_ s2 q=>q
theorem Xl {i : Nat} {x : Str} {e : Expr} {te : TE} {pos' : Pos} (hN : X.N.Nodup) (hi : X.N[i]? = some x) (hx : Loc X.env.scope x) (he : PE X e te) (hs : autoParam (swapsWith e (some (.Name x pos')) pos.line X.env = pure false) L2.Zau5._auto_1) (hf : autoParam (X.fn x = true ∨ X.env.scope.names.lookup x = some .local) L2.Zau1._auto_1) :
    PS X (.Assign [.Name x pos'] e pos) (Ef te (ZE i)):=by
  intro pins s σ H D I h
  refine wpAny_Assign_Name (thn (he pins s σ H _ I h) λv s1 r9=>?_) hs
  obtain ⟨y, H1, I1, r1, q1⟩:=r9
  exact JI I1 hN hi hx r1 (λs2 I2=>⟨_, H1, I2, q1⟩) hf
noncomputable def LY (i : Nat) (te : TE) (ti : TIp) : TS:=λD σ H=>∃ x, σ[i]? = some (some x) /\ te σ H λy H1=>ti x y H1 λz H2=>D.nx (σ.set i (some z)) H2
theorem Kk {i : Nat} {x : Str} {e : Expr} {te : TE} {op : Operator} {ti : TIp} {pos' : Pos} (hN : X.N.Nodup) (hi : X.N[i]? = some x) (hx : Loc X.env.scope x) (he : PE X e te) (ho : PIp X op ti) (hf : autoParam (X.fn x = true ∨ X.env.scope.names.lookup x = some .local) L2.Zau1._auto_1) :
    PS X (.AugAssign (.Name x pos') op e pos) (LY i te ti):=by
  intro pins s σ H D I h
  obtain ⟨v, e1, h⟩:=h
  obtain ⟨m, hn, hl⟩:=I.loc
  have vis : Vis X.env.scope x:=by rcases hx with k | k; exact .inl k; exact .inr (.inl k)
  obtain ⟨u, r, l⟩:=hl i x v hi e1 vis
  refine wpAny_AugAssign_Name ?_
  have go : wpAny (model X.prog X.w) X.A (eval e X.env) (λw s₂=>wpAny (model X.prog X.w) X.A (inplaceOp op u w) (λr s₃=>wpAny (model X.prog X.w) X.A (storeName X.env x r) (λ_=>SP X pins D .next) X.xe s₃) X.xe s₂) X.xe s:=by
    refine thn (he pins s σ H _ I h) λw s1 r9=>?_
    obtain ⟨y, H1, I1, r1, q1⟩:=r9
    refine thn (ho pins s1 σ H1 v y u w _ I1 r r1 q1) λz s2 r9=>?_
    obtain ⟨zv, H2, I2, r2, q2⟩:=r9
    exact JI I2 hN hi hx r2 (λs3 I3=>⟨_, H2, I3, q2⟩) hf
  rcases l with ⟨hk, hm⟩ | ⟨hk, c, hc, hcell⟩
  . exact wpAny_loadName_local I.ok.kind hk hn hm go
  . rcases hk with hk | hk
    . exact wpAny_loadName_cell I.ok.kind hk hc hcell go
    . rcases hx with k | k
      . have : X.env.scope.names.lookup x = some .free := hk
        rw [k] at this; cases this
      . have : X.env.scope.names.lookup x = some .free := hk
        rw [k] at this; cases this
noncomputable def I9 (to ti te : TE) (tget : V -> V -> Hp -> VK -> Prop) (tip : TIp) (tset : LK) : TS:=λD σ H=>to σ H λo H1=>ti σ H1 λi H2=>tget o i H2 λx H3=>te σ H3 λy H4=>tip x y H4 λz H5=>tset o i z H5 λH6=>D.nx σ H6
noncomputable def MB (X : Cx) (t : V -> V -> Hp -> VK -> Prop) : Prop:=
  ∀ (pins : List (Addr × Obj)) (s : Shared) (σ : St) (H : Hp) (o i : V) (ov iv : Value) (Q : VK), Inv X pins σ H s -> Yi o ov -> Yi i iv -> t o i H Q ->
    wpAny (model X.prog X.w) X.A (getItem ov iv) (EP X pins σ Q) X.xe s
theorem KR {o i e : Expr} {to ti te : TE} {tget : V -> V -> Hp -> VK -> Prop} {tip : TIp} {tset : LK} {op : Operator} {tpos : Pos} (ho : PE X o to) (hi : PE X i ti) (hg : MB X tget) (he : PE X e te) (hp : PIp X op tip) (hs : Mf X tset)
    (ha : autoParam (∀ ov iv new, augStore i ov iv new = (do holding [new, ov, iv] (setItem ov iv new); release [new, ov, iv] []; pure .next)) L2.Zau6._auto_1) : PS X (.AugAssign (.Subscript o i tpos) op e pos) (I9 to ti te tget tip tset):=by
  intro pins s σ H D I h
  refine wpAny_AugAssign_SubscriptAny (thn (ho pins s σ H _ I h) λov s1 r9=>?_) ha
  obtain ⟨x1, H1, I1, r1, q1⟩:=r9
  refine thn (hi pins s1 σ H1 _ I1 q1) λiv s2 r9=>?_
  obtain ⟨x2, H2, I2, r2, q2⟩:=r9
  refine thn (hg pins s2 σ H2 x1 x2 ov iv _ I2 r1 r2 q2) λold s3 r9=>?_
  obtain ⟨x3, H3, I3, r3, q3⟩:=r9
  refine thn (he pins s3 σ H3 _ I3 q3) λv s4 r9=>?_
  obtain ⟨x4, H4, I4, r4, q4⟩:=r9
  refine thn (hp pins s4 σ H4 x3 x4 old v _ I4 r3 r4 q4) λnew s5 r9=>?_
  obtain ⟨x5, H5, I5, r5, q5⟩:=r9
  exact thn (hs pins s5 σ H5 x1 x2 x5 ov iv new _ I5 r1 r2 r5 q5) λ_ s6 r9=>by obtain ⟨H6, I6, q6⟩:=r9; exact ⟨σ, H6, I6, q6⟩
noncomputable def ipI (f : Int -> Int -> Int) : TIp:=λx y H Q=>∃ i j, x = .int i /\ y = .int j /\ Q (.int (f i j)) H
theorem Kz : PIp X .Add (ipI λi j=>i + j):=by
  intro pins s σ H x y v u Q I r1 r2 h
  obtain ⟨i, j, e1, e2, q⟩:=h
  subst e1; subst e2
  obtain ⟨t, rfl⟩:=r1
  obtain ⟨t', rfl⟩:=r2
  exact iadd_int ⟨.int _, H, I.tok _, ⟨_, rfl⟩, q⟩
theorem Lj : PIp X .Sub (ipI λi j=>i - j):=by
  intro pins s σ H x y v u Q I r1 r2 h
  obtain ⟨i, j, e1, e2, q⟩:=h
  subst e1; subst e2
  obtain ⟨t, rfl⟩:=r1
  obtain ⟨t', rfl⟩:=r2
  exact isub_int ⟨.int _, H, I.tok _, ⟨_, rfl⟩, q⟩
end
section
variable {X : Cx} {pos : Pos}
noncomputable def Dr (c : TT) (tb : TS) : TS:=λD σ H=>∃ W : Nat -> St -> Hp -> Prop, (∃ m, W m σ H) /\ ∀ m σ H, W m σ H ->
  c σ H λb H1=>if b = true then ∃ N : St -> Hp -> Prop, (∀ σ' H', N σ' H' -> ∃ m', m' < m /\ W m' σ' H') /\ tb { D with nx:=N, ct:=N, bk:=D.nx } σ H1 else D.nx σ H1
theorem JN {c : Expr} {body : List Stmt} {tc : TT} {tb : TS} (hp : PassesOwn (model X.prog X.w) X.A X.env X.xe) (hc : PT X c tc) (hb : PSs X body tb) : PS X (.While c body [] pos) (Dr tc tb):=by
  intro pins s σ H D I h
  obtain ⟨W, ⟨m0, w0⟩, turn⟩:=h
  refine wpAny_While (codeAny_whileLoop (λn s'=>∃ σ' H', Inv X pins σ' H' s' /\ W n σ' H') ?_ m0 ⟨σ, H, I, w0⟩)
  rintro n s1 ⟨σ1, H1, I1, w1⟩
  refine wpAny_passesOwn hp (thn (hc pins s1 σ1 H1 _ I1 (turn n σ1 H1 w1)) λb s2 r9=>?_)
  obtain ⟨H2, I2, q2⟩:=r9
  cases b with
  | true=>
    obtain ⟨N, hN, q2⟩:=q2
    rw [if_pos rfl]
    refine wpAny_passesOwn hp (thn (hb pins s2 σ1 H2 _ I2 q2) λf s3 q3=>?_)
    cases f with
    | next=>
      obtain ⟨σ3, H3, I3, n3⟩:=q3
      obtain ⟨m', hm, w3⟩:=hN σ3 H3 n3
      exact ⟨m', hm, σ3, H3, I3, w3⟩
    | cont=>
      obtain ⟨σ3, H3, I3, n3⟩:=q3
      obtain ⟨m', hm, w3⟩:=hN σ3 H3 n3
      exact ⟨m', hm, σ3, H3, I3, w3⟩
    | brk=>exact q3
    | ret v=>exact q3
  | false=>
    rw [if_neg Bool.false_ne_true]
    exact wpAny_execs_nil ⟨σ1, H2, I2, q2⟩
end
structure It where
  go : Nat -> Hp -> Prop
  yld : Nat -> Hp -> V -> Hp -> Prop
  stop : Nat -> Hp -> Prop
noncomputable def KE (X : Cx) (pins : List (Addr × Obj)) (H : Hp) (b : Addr) : Prop:=
  H b = none /\ b ≠ X.env.locals /\ b ∉ X.fs /\ (b ∈ X.ex ∨ X.s₀.heap.objs.size <= b) /\ (∀ x c, X.env.cells.lookup x = some c -> c ≠ b) /\ ∀ p ∈ X.pn ++ pins, p.1 ≠ b
theorem Inv.fpOk {X : Cx} {pins : List (Addr × Obj)} {σ : St} {H H' : Hp} {s : Shared} {b : Addr} (I : Inv X pins σ H s) (hb : s.heap.objs.size <= b) (hn : H' b = none) : KE X pins H' b:=by
  refine ⟨hn, Nat.ne_of_gt (Nat.lt_of_lt_of_le I.lt hb), I.nofs hb, .inr (Nat.le_trans I.sz hb), λx c e z=>?_, λp hp z=>?_⟩
  . obtain ⟨v, q⟩ := I.cell x c e
    exact absurd (Nat.lt_of_lt_of_le q.lt (by rw [z]; exact hb)) (Nat.lt_irrefl _)
  . exact absurd (Nat.lt_of_lt_of_le (Heap.lt_size (I.pin p hp).1) (by rw [z]; exact hb)) (Nat.lt_irrefl _)
structure Turn (P : Program) (w : World) (K : PySem.W.Frag) (tg : Expr) (J : It) (fp : List Addr) (it : Addr) (tn : Nat -> Heap -> Prop) : Prop where
  mem : it ∈ fp
  obj : ∀ i h, tn i h -> ∀ b ∈ fp, ∃ o, h.get? b = some o /\ ∀ v, o.data ≠ .cell v
  keep : ∀ i h h', tn i h -> (∀ b ∈ fp, ∀ o, h.get? b = some o -> h'.get? b = some o) -> tn i h'
  item : ∀ (X : Cx), X.prog = P -> X.w = w -> X.K = K -> X.calm = true -> ∀ (i : Nat) (pins : List (Addr × Obj)) (s : Shared) (σ : St) (H : Hp) (E : Value -> Shared -> Prop), Inv X pins σ H s -> (∀ b ∈ fp, KE X pins H b) -> tn i s.heap -> J.go i H ->
    wpAny (model P w) X.A (pyNext (.ref it)) (λr s1=>∃ u, r = some u /\
      wpAny (model P w) X.A (letOwnedTupleGo tg (.ref it) u) (λ_ s2=>∃ x H', Inv X pins σ H' s2 /\ Yi x u /\ J.yld i H x H' /\ tn (i + 1) s2.heap /\ ∀ b ∈ fp, H' b = none) E s1) E s
  done : ∀ (X : Cx), X.prog = P -> X.w = w -> X.K = K -> X.calm = true -> ∀ (i : Nat) (pins : List (Addr × Obj)) (s : Shared) (σ : St) (H : Hp) (E : Value -> Shared -> Prop), Inv X pins σ H s -> (∀ b ∈ fp, KE X pins H b) -> tn i s.heap -> J.stop i H ->
    wpAny (model P w) X.A (pyNext (.ref it)) (λr s1=>r = none /\ Inv X pins σ H s1) E s
  self : ∀ (A : Around) (i : Nat) (s : Shared) (Q : Value -> Shared -> Prop) (E : Value -> Shared -> Prop), tn i s.heap -> Q (.ref it) s -> wpAny (model P w) A (pyIter (.ref it)) Q E s
noncomputable abbrev TI:=St -> Hp -> (It -> Hp -> Prop) -> Prop
noncomputable def PIE (X : Cx) (pins : List (Addr × Obj)) (σ : St) (tg : Expr) (R : It -> Hp -> Prop) (itv : Value) (s2 : Shared) : Prop:=
  ∃ (it : Addr) (fp : List Addr) (tn : Nat -> Heap -> Prop) (J : It) (H' : Hp), itv = .ref it /\ Inv X pins σ H' s2 /\ Turn X.prog X.w X.K tg J fp it tn /\ tn 0 s2.heap /\ (∀ b ∈ fp, KE X pins H' b) /\ R J H'
noncomputable def PI (X : Cx) (tg iter : Expr) (wi : TI) : Prop:=
  ∀ (pins : List (Addr × Obj)) (s : Shared) (σ : St) (H : Hp) (R : It -> Hp -> Prop), Inv X pins σ H s -> wi σ H R ->
    wpAny (model X.prog X.w) X.A (eval iter X.env) (λv s1=>wpAny (model X.prog X.w) X.A (pyIter v) (PIE X pins σ tg R) X.xe s1) X.xe s
theorem Lu {M : Model} {A : Around} {E : Value -> Shared -> Prop} {s : Shared} {tg : Expr} {it : Addr} {u : Value} {o : Obj} {n : String} {vs : Array Value} {Q : Unit -> Shared -> Prop} (ho : s.heap.get? it = some o) (hc : o.cls = .type n) (hd : o.data = .fields vs)
    (hn : ["enumerate", "zip", "dict_itemiterator", "dict_reverseitemiterator", "odict_iterator", "itertools.zip_longest", "itertools.pairwise"].contains n = false) (hQ : Q () s) : wpAny M A (letOwnedTupleGo tg (.ref it) u) Q E s:=by
  unfold letOwnedTupleGo
  cases tg <;> first
    | exact wpAny_pure hQ
    | (cases u <;> first
        | exact wpAny_pure hQ
        | (refine wpAny_bind (wpAny_load ho ?_)
           rw [hc, hd]
           show wpAny M A (if (["enumerate", "zip", "dict_itemiterator", "dict_reverseitemiterator", "odict_iterator", "itertools.zip_longest", "itertools.pairwise"].contains n && vs[0]? == some (rawInt _)) = true then _ else _) Q E s
           rw [if_neg (by intro h; rw [hn, Bool.false_and] at h; cases h)]
           exact wpAny_pure hQ))
noncomputable def Itl (K : PySem.W.Frag) (a : Addr) : It:=
  ⟨λi H=>∃ xs x, SqL K H a xs /\ xs[i]? = some x, λi H x H'=>H' = H /\ ∀ xs, SqL K H a xs -> xs[i]? = some x, λi H=>∃ xs, SqL K H a xs /\ xs.length <= i⟩
noncomputable def Itr (lo : Int) (n : Nat) : It:=⟨λi _=>i < n, λi H x H'=>H' = H /\ x = .int (lo + i), λi _=>n <= i⟩
theorem CU {P : Program} {w : World} {K : PySem.W.Frag} {tg : Expr} (a it : Addr) : Turn P w K tg (Itl K a) [it] it (λi h=>h.IsListIter it a i) where
  mem:=by simp
  obj:=λi h st b hb=>by
    have e : b = it:=by simpa using hb
    subst e
    obtain ⟨o, e, c, d⟩:=st
    exact ⟨o, e, λv z=>by rw [d] at z; cases z⟩
  keep:=λi h h' st k=>st.at λo e=>k it (by simp) o e
  item:=by
    intro X hP hw hK hc i pins s σ H E I hf st hg
    subst hP hw hK
    obtain ⟨xs, x, hq, hx⟩:=hg
    obtain ⟨its, rv, p, hz⟩:=I.list hq
    obtain ⟨u, hu, ru⟩:=rv.get hx
    obtain ⟨f0, f1, f2, f3, f4, f5⟩:=hf it (by simp)
    refine wpAny_pyNext_list_item st p.isList (x:=u) (by simpa using hu) λh' st' sb=>?_
    have I1 : Inv X pins σ H { s with heap:=h' }:=I.turned (t':=s.toks) (λb o hb e=>(sb.2 b hb).trans e) f0 f1 f3 f4 f5
    obtain ⟨o, e, c, d⟩:=id st'
    exact ⟨u, rfl, Lu (s:={ s with heap:=h' }) e c d (by decide) ⟨x, H, I1, ru, ⟨rfl, λys hy=>by rw [I.list_inj hy hq]; exact hx⟩, st', λb hb=>(hf b hb).1⟩⟩
  done:=by
    intro X hP hw hK hc i pins s σ H E I hf st hg
    subst hP hw hK
    obtain ⟨xs, hq, hx⟩:=hg
    obtain ⟨its, rv, p, hz⟩:=I.list hq
    obtain ⟨f0, f1, f2, f3, f4, f5⟩:=hf it (by simp)
    have hl:=rv.length
    exact wpAny_pyNext_list_end (I.ok.hd hc) st p.isList (by simp; lia) λh' eb=>⟨rfl, I.turned (t':=s.toks) (λb o hb e=>eb b o hb e) f0 f1 f3 f4 f5⟩
  self:=λ_ _ _ _ _ st h=>wpAny_pyIter_listiter st h
theorem Fr {P : Program} {w : World} {K : PySem.W.Frag} {tg : Expr} (it : Addr) (lo : Int) (n : Nat) : Turn P w K tg (Itr lo n) [it] it (λi h=>IsRangeIter h it (lo + (i : Nat) * 1) ((n : Int) - (i : Nat)) 1) where
  mem:=by simp
  obj:=λi h st b hb=>by
    have e : b = it:=by simpa using hb
    subst e
    exact ⟨_, st, λv z=>by
      have z' : Data.fields _ = Data.cell v:=z
      cases z'⟩
  keep:=λi h h' st k=>k it (by simp) _ st
  item:=by
    intro X hP hw hK hc i pins s σ H E I hf st hg
    subst hP hw hK
    obtain ⟨f0, f1, f2, f3, f4, f5⟩:=hf it (by simp)
    have W:=Walks.range (prog:=X.prog) (w:=X.w) (I.ok.hd hc) it lo 1 n
    refine W.item i s _ _ hg st λv h' tk hv st' kk=>?_
    obtain ⟨t, rfl⟩:=hv
    have I1 : Inv X pins σ H { s with heap:=h', toks:=tk }:=I.turned (λb o hb e=>kk b o (by simpa using hb) e) f0 f1 f3 f4 f5
    refine ⟨_, rfl, Lu (s:={ s with heap:=h', toks:=tk }) (n:="range_iterator") st' rfl rfl (by decide) ⟨.int (lo + i), H, I1, ⟨t, ?_⟩, ⟨rfl, rfl⟩, st', λb hb=>(hf b hb).1⟩⟩
    rw [Int.mul_one]
  done:=by
    intro X hP hw hK hc i pins s σ H E I hf st hg
    subst hP hw hK
    obtain ⟨f0, f1, f2, f3, f4, f5⟩:=hf it (by simp)
    exact wpAny_pyNext_range_end (I.ok.hd hc) st (by have : n <= i:=hg; lia) λh' eb=>⟨rfl, I.turned (t':=s.toks) (λb o hb e=>eb b o hb e) f0 f1 f3 f4 f5⟩
  self:=λ_ _ _ _ _ st h=>wpAny_pyIter_rangeiter st h
section
variable {X : Cx} {tg : Expr}
noncomputable def Ir (K : PySem.W.Frag) (tl : TE) : TI:=λσ H R=>tl σ H λx H1=>∃ a, x = .ref a /\ (∃ xs, SqL K H1 a xs) /\ R (Itl K a) H1
theorem Hn {l : Expr} {tl : TE} (hl : PE X l tl) : PI X tg l (Ir X.K tl):=by
  intro pins s σ H R I h
  refine thn (hl pins s σ H _ I h) λv s1 r9=>?_
  obtain ⟨x, H1, I1, r1, q1⟩:=r9
  obtain ⟨a, e, ⟨xs, hq⟩, q⟩:=q1
  subst e
  cases r1
  obtain ⟨its, rv, p, hz⟩:=I1.list hq
  refine wpAny_pyIter_list p.isList ?_
  refine ⟨s1.heap.objs.size, [s1.heap.objs.size], _, _, H1, rfl, I1.kept (t':=s1.toks) λb o e=>Heap.get?_push_of_some _ e, CU a _, ⟨_, Heap.get?_push_size _ rfl, rfl, rfl⟩, λb hb=>?_, q⟩
  have e : b = s1.heap.objs.size:=by simpa using hb
  subst e
  exact I1.fpOk (Nat.le_refl _) (I1.hok.fresh (Nat.le_refl _))
theorem Bx {pins : List (Addr × Obj)} {σ : St} {H : Hp} {s : Shared} {R : It -> Hp -> Prop} {E : Value -> Shared -> Prop} {lo hi : Int} {t u v : Tok} {tk : Nat} (I : Inv X pins σ H s) (h1 : -(2 ^ 62) <= lo) (h2 : lo < 2 ^ 62) (h3 : -(2 ^ 62) <= hi) (h4 : hi < 2 ^ 62)
    (q : R (Itr lo (hi - lo).toNat) H) : wpAny (model X.prog X.w) X.A (pyIter (.ref s.heap.objs.size)) (PIE X pins σ tg R) E { s with heap:=s.heap.push { cls:=.type "range", data:=.fields #[.int lo t, .int hi u, .int 1 v] }, toks:=tk }:=by
  refine wpAny_pyIter_range (IsRange.new ..) (small_one h1 h2 h3 h4) ?_
  have I1 : Inv X pins σ H { s with heap:=s.heap.push { cls:=.type "range", data:=.fields #[.int lo t, .int hi u, .int 1 v] }, toks:=tk }:=I.kept λb o e=>Heap.get?_push_of_some _ e
  refine ⟨(s.heap.push { cls:=.type "range", data:=.fields #[.int lo t, .int hi u, .int 1 v] }).objs.size, [(s.heap.push { cls:=.type "range", data:=.fields #[.int lo t, .int hi u, .int 1 v] }).objs.size], _, _, H, rfl,
    I1.kept (t':=tk) λb o e=>Heap.get?_push_of_some _ e, Fr _ lo (hi - lo).toNat, ?_, λb hb=>?_, q⟩
  . have e1 : lo + ((0 : Nat) : Int) * 1 = lo := by simp
    have e2 : (((hi - lo).toNat : Nat) : Int) - ((0 : Nat) : Int) = Builtin.Range.rangeSize lo hi 1:=by rw [rangeSize_one]; split <;> lia
    show IsRangeIter _ _ (lo + ((0 : Nat) : Int) * 1) ((((hi - lo).toNat : Nat) : Int) - ((0 : Nat) : Int)) 1
    rw [e1, e2]
    exact Heap.get?_push_size _ rfl
  . have e : b = (s.heap.push { cls := .type "range", data := .fields #[.int lo t, .int hi u, .int 1 v] }).objs.size := by simpa using hb
    subst e
    exact I1.fpOk (Nat.le_refl _) (I1.hok.fresh (Nat.le_refl _))
noncomputable def Ln (ta : TA) : TI:=λσ H R=>ta σ H λvs H1=>∃ j : Int, vs = [.int j] /\ -(2 ^ 62) <= j /\ j < 2 ^ 62 /\ R (Itr 0 j.toNat) H1
theorem YS {a : Expr} {ta : TA} {p pos : Pos} (hg : Gl X "range") (hm : X.mg "range" = none) (ha : PA X [a] ta) (hs : autoParam (starEach [a] X.env = [(false, eval a X.env)]) L2.Zau5._auto_1) : PI X tg (.Call (.Name "range" p) [a] [] pos) (Ln ta):=by
  intro pins s σ H R I h
  refine Call_ (V2 I hg hm boot_range (PyProof.Rows.callWith_type1 (thn (ha pos pins s σ H _ I h) λus s1 r9=>?_) hs rfl))
  obtain ⟨vs, H1, I1, r1, q1⟩:=r9
  obtain ⟨j, e, q1, q2, q⟩:=q1
  subst e
  cases r1 with
  | cons r rr=>
    cases rr
    obtain ⟨t, rfl⟩:=r
    exact call_range_1 (Bx I1 (by lia) (by lia) q1 q2 (by simpa using q))
noncomputable def Mn (wi : TI) (g : TG) (tb : TS) : TS:=λD σ H=>wi σ H λJ H1=>∃ W : Nat -> Nat -> St -> Hp -> Prop, (∃ m, W 0 m σ H1) /\ ∀ i m σ H, W i m σ H ->
  (J.stop i H /\ D.nx σ H) ∨ (J.go i H /\ ∃ N : St -> Hp -> Prop, (∀ σ' H', N σ' H' -> ∃ m', m' < m /\ W (i + 1) m' σ' H') /\ ∀ x H', J.yld i H x H' -> g x σ H' λσ2 H2=>tb { D with nx:=N, ct:=N, bk:=D.nx } σ2 H2)
noncomputable def US (fp : List Addr) (h : Heap) : List (Addr × Obj):=fp.filterMap λb=>(h.get? b).map λo=>(b, o)
theorem Je {fp : List Addr} {h : Heap} {b : Addr} {o : Obj} (hb : b ∈ fp) (e : h.get? b = some o) : (b, o) ∈ US fp h:=List.mem_filterMap.mpr ⟨b, hb, by rw [e]; rfl⟩
theorem Dg {fp : List Addr} {h : Heap} {p : Addr × Obj} (hp : p ∈ US fp h) : p.1 ∈ fp /\ h.get? p.1 = some p.2:=by
  obtain ⟨b, hb, e⟩:=List.mem_filterMap.mp hp
  cases q : h.get? b with
  | none=>rw [q] at e; cases e
  | some o=>
    rw [q] at e
    have e' : (b, o) = p:=Option.some.inj e
    subst e'
    exact ⟨hb, q⟩
theorem Inv.pinned {pins : List (Addr × Obj)} {σ : St} {H : Hp} {s : Shared} {fp : List Addr} (I : Inv X pins σ H s) (hf : ∀ b ∈ fp, KE X pins H b) (ho : ∀ b ∈ fp, ∃ o, s.heap.get? b = some o /\ ∀ v, o.data ≠ .cell v) : Inv X (pins ++ US fp s.heap) σ H s:=
  I.pins_of λp hp=>(List.mem_append.mp hp).elim (λz=>I.pin p (List.mem_append_right _ z)) λz=>by
    obtain ⟨hb, e⟩:=Dg z
    obtain ⟨f0, f1, f2, _⟩:=hf p.1 hb
    obtain ⟨o, e', d⟩:=ho p.1 hb
    rw [e] at e'; cases e'
    exact ⟨e, f0, f1, f2, d⟩
theorem Inv.unpinned {pins pl : List (Addr × Obj)} {σ : St} {H : Hp} {s : Shared} (I : Inv X (pins ++ pl) σ H s) : Inv X pins σ H s:=I.pins_of λp hp=>I.pin p (List.mem_append_right _ (List.mem_append_left _ hp))
theorem YZ {iter : Expr} {body : List Stmt} {wi : TI} {g : TG} {tb : TS} {pos : Pos} (hp : PassesOwn (model X.prog X.w) X.A X.env X.xe) (hc : X.calm = true) (hi : PI X tg iter wi) (hg : PG X tg g) (hb : PSs X body tb)
    (hs : autoParam (∀ x, foldedSetIterable iter X.env x = pure x) L2.Zau4._auto_1) : PS X (.For tg iter body [] pos) (Mn wi g tb):=by
  intro pins s σ H D I h
  refine wpAny_For (thn (hi pins s σ H _ I h) λv s1 h1=>thn h1 λitv s2 h2=>?_) hs
  obtain ⟨it, fp, tn, J, H2, e, I2, T, st2, f2, W, ⟨m0, w0⟩, turn⟩:=h2
  subst e
  -- what stays true of the iterator's objects through the loop
  have stat : ∀ {H' : Hp}, (∀ b ∈ fp, H' b = none) -> ∀ b ∈ fp, KE X pins H' b:=λhn b hb=>⟨hn b hb, (f2 b hb).2⟩
  refine codeAny_forLoop_any (λn s'=>∃ i σ' H', Inv X pins σ' H' s' /\ tn i s'.heap /\ (∀ b ∈ fp, H' b = none) /\ W i n σ' H') ?_ m0 ⟨0, σ, H2, I2, st2, λb hb=>(f2 b hb).1, w0⟩
  rintro n s3 ⟨i, σ3, H3, I3, st3, fr3, w3⟩
  rcases turn i n σ3 H3 w3 with ⟨stop, qn⟩ | ⟨go, N, hN, step⟩
  . refine wpAny_passesOwn hp (thn (T.done X rfl rfl rfl hc i pins s3 σ3 H3 X.xe I3 (stat fr3) st3 stop) λr s4 r9 => ?_)
    obtain ⟨hr, I4⟩:=r9
    subst hr
    exact wpAny_execs_nil ⟨σ3, H3, I4, qn⟩
  . refine wpAny_passesOwn hp (thn (T.item X rfl rfl rfl hc i pins s3 σ3 H3 X.xe I3 (stat fr3) st3 go) λr s4 r9 => ?_)
    obtain ⟨u, hr, h4⟩:=r9
    subst hr
    refine wpAny_passesOwn hp (thn h4 λ_ s5 r9=>?_)
    obtain ⟨x, H5, I5, r5, y5, st5, fr5⟩:=r9
    have I5':=I5.pinned (stat fr5) (T.obj _ _ st5)
    refine wpAny_passesOwn hp (thn (hg _ s5 σ3 H5 x u _ I5' r5 (step x H5 y5)) λ_ s6 r9=>?_)
    obtain ⟨σ6, H6, I6, q6⟩:=r9
    refine wpAny_passesOwn hp (thn (hb _ s6 σ6 H6 _ I6 q6) λf s7 q7=>?_)
    have again : ∀ {σ7 : St} {H7 : Hp}, Inv X (pins ++ US fp s5.heap) σ7 H7 s7 -> N σ7 H7 -> ∃ m, m < n /\ ∃ i σ' H', Inv X pins σ' H' s7 /\ tn i s7.heap /\ (∀ b ∈ fp, H' b = none) /\ W i m σ' H':=fun {σ7 H7} I7 n7=>by
      obtain ⟨m', hm, w7⟩:=hN σ7 H7 n7
      refine ⟨m', hm, i + 1, σ7, H7, I7.unpinned, T.keep _ _ _ st5 λb hb o e=>(I7.pin (b, o) (List.mem_append_right _ (List.mem_append_right _ (Je hb e)))).1, λb hb=>?_, w7⟩
      obtain ⟨o, e, d⟩:=T.obj _ _ st5 b hb
      exact (I7.pin (b, o) (List.mem_append_right _ (List.mem_append_right _ (Je hb e)))).2.1
    cases f with
    | next=>obtain ⟨σ7, H7, I7, n7⟩:=q7; exact again I7 n7
    | cont=>obtain ⟨σ7, H7, I7, n7⟩:=q7; exact again I7 n7
    | brk=>obtain ⟨σ7, H7, I7, q7⟩:=q7; exact ⟨σ7, H7, I7.unpinned, q7⟩
    | ret v=>obtain ⟨x7, σ7, H7, I7, r7, q7⟩:=q7; exact ⟨x7, σ7, H7, I7.unpinned, r7, q7⟩
end
noncomputable abbrev R2:=V -> V -> Hp -> VK -> Prop
noncomputable def OpR (X : Cx) (f : Value -> Value -> Sem Value) (r : R2) : Prop:=
  ∀ (pins : List (Addr × Obj)) (s : Shared) (σ : St) (H : Hp) (x y : V) (v u : Value) (Q : VK), Inv X pins σ H s -> Yi x v -> Yi y u -> r x y H Q ->
    wpAny (model X.prog X.w) X.A (f v u) (EP X pins σ Q) X.xe s
noncomputable def UnR (X : Cx) (f : Value -> Sem Value) (r : V -> Hp -> VK -> Prop) : Prop:=
  ∀ (pins : List (Addr × Obj)) (s : Shared) (σ : St) (H : Hp) (x : V) (v : Value) (Q : VK), Inv X pins σ H s -> Yi x v -> r x H Q ->
    wpAny (model X.prog X.w) X.A (f v) (EP X pins σ Q) X.xe s
noncomputable def Jc (X : Cx) (f : Value) (r : List V -> Hp -> VK -> Prop) : Prop:=
  ∀ (pins : List (Addr × Obj)) (s : Shared) (σ : St) (H : Hp) (xs : List V) (us : List Value) (Q : VK), Inv X pins σ H s -> Ym xs us -> r xs H Q ->
    wpAny (model X.prog X.w) X.A (call f us) (EP X pins σ Q) X.xe s
noncomputable def tOp (r : R2) (ta tb : TE) : TE:=λσ H Q=>ta σ H λx H1=>tb σ H1 λy H2=>r x y H2 Q
noncomputable def tUn (r : V -> Hp -> VK -> Prop) (ta : TE) : TE:=λσ H Q=>ta σ H λx H1=>r x H1 Q
noncomputable def rI (C : Int -> Int -> Prop) (g : Int -> Int -> V) : R2:=λx y H Q=>∃ i j, x = .int i /\ y = .int j /\ C i j /\ Q (g i j) H
noncomputable def rI0 (g : Int -> Int -> V) : R2:=λx y H Q=>∃ i j, x = .int i /\ y = .int j /\ Q (g i j) H
noncomputable def rU (g : Int -> V) : V -> Hp -> VK -> Prop:=λx H Q=>∃ i, x = .int i /\ Q (g i) H
section
variable {X : Cx} {a b c : Expr} {ta tb tc : TE} {pos : Pos}
theorem Mt (ha : PE X a ta) (hb : PE X b tb) {pins : List (Addr × Obj)} {s : Shared} {σ : St} {H : Hp} {R : V -> V -> Hp -> Prop} (I : Inv X pins σ H s)
    (h : ta σ H λx H1=>tb σ H1 λy H2=>R x y H2) {Q : Value -> Shared -> Prop} {f : Value -> Value -> Sem Value}
    (hf : ∀ v u s2 x y H2, Inv X pins σ H2 s2 -> Yi x v -> Yi y u -> R x y H2 -> wpAny (model X.prog X.w) X.A (f v u) Q X.xe s2) :
    wpAny (model X.prog X.w) X.A (eval a X.env) (λv s₁=>wpAny (model X.prog X.w) X.A (eval b X.env) (λu s₂=>wpAny (model X.prog X.w) X.A (f v u) Q X.xe s₂) X.xe s₁) X.xe s:=by
  refine thn (ha pins s σ H _ I h) λv s1 r9=>?_
  obtain ⟨x, H1, I1, r1, q1⟩:=r9
  refine thn (hb pins s1 σ H1 _ I1 q1) λu s2 r9=>?_
  obtain ⟨y, H2, I2, r2, q2⟩:=r9
  exact hf v u s2 x y H2 I2 r1 r2 q2
theorem Xo {op : Operator} {r : R2} (ho : OpR X (binaryOp op) r) (ha : PE X a ta) (hb : PE X b tb) : PE X (.BinOp a op b pos) (tOp r ta tb):=by
  intro pins s σ H Q I h
  exact wpAny_BinOp (Mt ha hb I h λv u s2 x y H2 I2 rx ry q=>ho pins s2 σ H2 x y v u Q I2 rx ry q)
theorem KJ {op : UnaryOp} {r : V -> Hp -> VK -> Prop} (ho : UnR X (unaryOp op) r) (ha : PE X a ta) : PE X (.UnaryOp op a pos) (tUn r ta):=by
  intro pins s σ H Q I h
  exact UnaryOp_ (thn (ha pins s σ H _ I h) λv s1 r9=>by obtain ⟨x, H1, I1, r1, q1⟩:=r9; exact ho pins s1 σ H1 x v Q I1 r1 q1)
theorem opI {f : Value -> Value -> Sem Value} {C : Int -> Int -> Prop} {g : Int -> Int -> Int}
    (rule : ∀ (i j : Int) (t u : Tok) (s : Shared) (Q : Value -> Shared -> Prop) (E : Value -> Shared -> Prop), C i j -> Q (.int (g i j) s.toks) { s with toks:=s.toks + 1 } -> wpAny (model X.prog X.w) X.A (f (.int i t) (.int j u)) Q E s) :
    OpR X f (rI C λi j=>.int (g i j)):=by
  intro pins s σ H x y v u Q I rx ry h
  obtain ⟨i, j, rfl, rfl, hc, q⟩:=h
  obtain ⟨t, rfl⟩:=rx
  obtain ⟨t', rfl⟩:=ry
  exact rule i j t t' s _ _ hc ⟨.int (g i j), H, I.tok _, ⟨_, rfl⟩, q⟩
theorem MP {f : Value -> Value -> Sem Value} {g : Int -> Int -> Int}
    (rule : ∀ (i j : Int) (t u : Tok) (s : Shared) (Q : Value -> Shared -> Prop) (E : Value -> Shared -> Prop), Q (.int (g i j) s.toks) { s with toks:=s.toks + 1 } -> wpAny (model X.prog X.w) X.A (f (.int i t) (.int j u)) Q E s) :
    OpR X f (rI0 λi j=>.int (g i j)):=by
  intro pins s σ H x y v u Q I rx ry h
  obtain ⟨i, j, rfl, rfl, q⟩:=h
  obtain ⟨t, rfl⟩:=rx
  obtain ⟨t', rfl⟩:=ry
  exact rule i j t t' s _ _ ⟨.int (g i j), H, I.tok _, ⟨_, rfl⟩, q⟩
theorem Mb {f : Value -> Value -> Sem Value} {g : Int -> Int -> Bool}
    (rule : ∀ (i j : Int) (t u : Tok) (s : Shared) (Q : Value -> Shared -> Prop) (E : Value -> Shared -> Prop), Q (.bool (g i j)) s -> wpAny (model X.prog X.w) X.A (f (.int i t) (.int j u)) Q E s) :
    OpR X f (rI0 λi j=>.bl (g i j)):=by
  intro pins s σ H x y v u Q I rx ry h
  obtain ⟨i, j, rfl, rfl, q⟩:=h
  obtain ⟨t, rfl⟩:=rx
  obtain ⟨t', rfl⟩:=ry
  exact rule i j t t' s _ _ ⟨.bl (g i j), H, I, rfl, q⟩
noncomputable def MX (i j : Int) : Prop:=0 < j /\ j < 1073741824
noncomputable def MJ (i j : Int) : Prop:=0 <= j /\ j <= 1000000 /\ i.natAbs < 2 ^ 64
noncomputable def Lz (i j : Int) : Prop:=(-(2 ^ 64) < i /\ i < 2 ^ 64) ∨ (-(2 ^ 64) < j /\ j < 2 ^ 64)
theorem Lz.ok {i j : Int} (h : Lz i j) : IntMulOk i j:=by
  rcases h with ⟨h1, h2⟩ | ⟨h1, h2⟩
  . exact .of_left (intBits_le_64 h1 h2)
  . exact .of_right (intBits_le_64 h1 h2)
theorem Yh : OpR X (binaryOp .Add) (rI0 λi j=>.int (i + j)):=MP λ_ _ _ _ _ _ _ q=>add_int q
theorem V0 : OpR X (binaryOp .Sub) (rI0 λi j=>.int (i - j)):=MP λ_ _ _ _ _ _ _ q=>sub_int q
theorem Yr : OpR X (binaryOp .Mult) (rI Lz λi j=>.int (i * j)):=opI λ_ _ _ _ _ _ _ hc q=>mul_int q hc.ok
theorem Yj : OpR X (binaryOp .Mod) (rI (λ_ j=>0 < j) λi j=>.int (i % j)):=opI λi j _ _ _ _ _ hc q=>by
  have h1 : (0 : Int) < j:=hc
  exact mod_int' (by lia) (by rw [Int.fmod_eq_emod_of_nonneg i (by lia)]; exact q)
theorem UK : OpR X (binaryOp .Pow) (rI MJ λi j=>.int (i ^ j.toNat)):=opI λ_ _ _ _ _ _ _ hc q=>pow_int_small hc.1 hc.2.1 hc.2.2 q
theorem unI {f : Value -> Sem Value} {g : Int -> Int}
    (rule : ∀ (i : Int) (t : Tok) (s : Shared) (Q : Value -> Shared -> Prop) (E : Value -> Shared -> Prop), Q (.int (g i) s.toks) { s with toks:=s.toks + 1 } -> wpAny (model X.prog X.w) X.A (f (.int i t)) Q E s) :
    UnR X f (rU λi=>.int (g i)):=by
  intro pins s σ H x v Q I rx h
  obtain ⟨i, rfl, q⟩:=h
  obtain ⟨t, rfl⟩:=rx
  exact rule i t s _ _ ⟨.int (g i), H, I.tok _, ⟨_, rfl⟩, q⟩
theorem Vl : UnR X (unaryOp .USub) (rU λi=>.int (-i)):=unI λ_ _ _ _ _ q=>neg_int q
end
noncomputable def Mp : V -> V -> Bool
  | .non, .non=>true | .non, .int _=>true | .int _, .non=>true | .non, .bl _=>true | .bl _, .non=>true | .non, .str _=>true | .str _, .non=>true
  | .int _, .int _=>true | .bl _, .bl _=>true | .str _, .str _=>true | .byt _, .byt _=>true
  | .int _, .str _=>true | .str _, .int _=>true | .bl _, .str _=>true | .str _, .bl _=>true
  | _, _=>false
noncomputable def rEq : R2:=λx y H Q=>Mp x y = true /\ Q (.bl (decide (x = y))) H
noncomputable def rNe : R2:=λx y H Q=>Mp x y = true /\ Q (.bl (!decide (x = y))) H
theorem FX {i j : Int} : decide (V.int i = V.int j) = (i == j):=by
  rw [Bool.eq_iff_iff]
  simp
theorem Ei {i j : Bool} : decide (V.bl i = V.bl j) = (i == j):=by
  rw [Bool.eq_iff_iff]
  simp
theorem Dj {i j : Str} : decide (V.str i = V.str j) = (i == j):=by
  rw [Bool.eq_iff_iff]
  simp
theorem Do {i j : Array UInt8} : decide (V.byt i = V.byt j) = (i.toList == j.toList):=by
  rw [Bool.eq_iff_iff]
  cases i
  cases j
  simp
section
variable {X : Cx} {a b c : Expr} {ta tb tc : TE} {pos : Pos}
theorem Yg {pins : List (Addr × Obj)} {σ : St} {H : Hp} {s : Shared} {Q : VK} {k k' : Bool} (I : Inv X pins σ H s) (q : Q (.bl k) H) (e : k = k') : EP X pins σ Q (.bool k') s:=by
  subst e
  exact ⟨.bl k, H, I, rfl, q⟩
theorem Qx : OpR X (compareOp .Eq) rEq:=by
  intro pins s σ H x y v u Q I rx ry h
  obtain ⟨hs, q⟩:=h
  cases x with
  | non=>
    cases rx
    cases y with
    | non=>cases ry; exact PySem.EqNone.eq_none_none (Yg I q (by simp))
    | bl j=>cases ry; exact PySem.EqNone.eq_none_bool (Yg I q (by simp))
    | int j=>obtain ⟨t', rfl⟩:=ry; exact PySem.EqNone.eq_none_int (Yg I q (by simp))
    | str j=>obtain ⟨t', rfl⟩:=ry; exact PySem.EqNone.eq_none_str (Yg I q (by simp))
    | _=>exact absurd (show false = true from hs) Bool.false_ne_true
  | bl i=>
    cases rx
    cases y with
    | non=>cases ry; exact PySem.EqNone.eq_bool_none (Yg I q (by simp))
    | bl j=>cases ry; exact eq_bool (Yg I q Ei)
    | str j=>obtain ⟨t', rfl⟩:=ry; exact PySem.EqMixed.eq_bool_str (Yg I q (by simp))
    | _=>exact absurd (show false = true from hs) Bool.false_ne_true
  | int i=>
    obtain ⟨t, rfl⟩:=rx
    cases y with
    | non=>cases ry; exact PySem.EqNone.eq_int_none (Yg I q (by simp))
    | int j=>obtain ⟨t', rfl⟩:=ry; exact eq_int (Yg I q FX)
    | str j=>obtain ⟨t', rfl⟩:=ry; exact PySem.EqMixed.eq_int_str (Yg I q (by simp))
    | _=>exact absurd (show false = true from hs) Bool.false_ne_true
  | str i=>
    obtain ⟨t, rfl⟩:=rx
    cases y with
    | non=>cases ry; exact PySem.EqNone.eq_str_none (Yg I q (by simp))
    | bl j=>cases ry; exact PySem.EqMixed.eq_str_bool (Yg I q (by simp))
    | int j=>obtain ⟨t', rfl⟩:=ry; exact PySem.EqMixed.eq_str_int (Yg I q (by simp))
    | str j=>obtain ⟨t', rfl⟩:=ry; exact eq_str (Yg I q Dj)
    | _=>exact absurd (show false = true from hs) Bool.false_ne_true
  | byt i=>
    obtain ⟨t, rfl⟩:=rx
    cases y with
    | byt j=>obtain ⟨t', rfl⟩:=ry; exact PySem.W.eq_bytes (Yg I q Do)
    | _=>exact absurd (show false = true from hs) Bool.false_ne_true
  | _=>cases y <;> exact absurd (show false = true from hs) Bool.false_ne_true
theorem Mu : OpR X (compareOp .NotEq) rNe:=by
  intro pins s σ H x y v u Q I rx ry h
  obtain ⟨hs, q⟩:=h
  cases x with
  | non=>
    cases rx
    cases y with
    | non=>cases ry; exact PySem.EqNone.ne_none_none (Yg I q (by simp))
    | bl j=>cases ry; exact PySem.EqNone.ne_none_bool (Yg I q (by simp))
    | int j=>obtain ⟨t', rfl⟩:=ry; exact PySem.EqNone.ne_none_int (Yg I q (by simp))
    | str j=>obtain ⟨t', rfl⟩:=ry; exact PySem.EqNone.ne_none_str (Yg I q (by simp))
    | _=>exact absurd (show false = true from hs) Bool.false_ne_true
  | bl i=>
    cases rx
    cases y with
    | non=>cases ry; exact PySem.EqNone.ne_bool_none (Yg I q (by simp))
    | bl j=>cases ry; exact ne_bool (Yg I q (congrArg not Ei))
    | str j=>obtain ⟨t', rfl⟩:=ry; exact PySem.EqMixed.ne_bool_str (Yg I q (by simp))
    | _=>exact absurd (show false = true from hs) Bool.false_ne_true
  | int i=>
    obtain ⟨t, rfl⟩:=rx
    cases y with
    | non=>cases ry; exact PySem.EqNone.ne_int_none (Yg I q (by simp))
    | int j=>obtain ⟨t', rfl⟩:=ry; exact ne_int (Yg I q (congrArg not FX))
    | str j=>obtain ⟨t', rfl⟩:=ry; exact PySem.EqMixed.ne_int_str (Yg I q (by simp))
    | _=>exact absurd (show false = true from hs) Bool.false_ne_true
  | str i=>
    obtain ⟨t, rfl⟩:=rx
    cases y with
    | non=>cases ry; exact PySem.EqNone.ne_str_none (Yg I q (by simp))
    | bl j=>cases ry; exact PySem.EqMixed.ne_str_bool (Yg I q (by simp))
    | int j=>obtain ⟨t', rfl⟩:=ry; exact PySem.EqMixed.ne_str_int (Yg I q (by simp))
    | str j=>obtain ⟨t', rfl⟩:=ry; exact ne_str (Yg I q (congrArg not Dj))
    | _=>exact absurd (show false = true from hs) Bool.false_ne_true
  | byt i=>
    obtain ⟨t, rfl⟩:=rx
    cases y with
    | byt j=>obtain ⟨t', rfl⟩:=ry; exact PySem.W.ne_bytes (Yg I q (congrArg not Do))
    | _=>exact absurd (show false = true from hs) Bool.false_ne_true
  | _=>cases y <;> exact absurd (show false = true from hs) Bool.false_ne_true
theorem Ke : OpR X (compareOp .Lt) (rI0 λi j=>.bl (decide (i < j))):=Mb λ_ _ _ _ _ _ _ q=>lt_int q
theorem LR : OpR X (compareOp .LtE) (rI0 λi j=>.bl (decide (i <= j))):=Mb λ_ _ _ _ _ _ _ q=>le_int q
theorem CP : OpR X (compareOp .Gt) (rI0 λi j=>.bl (decide (j < i))):=Mb λ_ _ _ _ _ _ _ q=>gt_int q
theorem X5 (b : Expr) {op : CmpOp} (h : autoParam (op ≠ .In) L2.Zau2._auto_1) (h2 : autoParam (op ≠ .NotIn) L2.Zau2._auto_1) : behindInMarks op b = false:=by
  have e1 : (op == CmpOp.In) = false:=by cases op <;> first | rfl | exact absurd rfl h
  have e2 : (op == CmpOp.NotIn) = false:=by cases op <;> first | rfl | exact absurd rfl h2
  cases b <;> simp [behindInMarks, e1, e2]
theorem Ub {op : CmpOp} {r : R2} (ho : OpR X (compareOp op) r) (ha : PE X a ta) (hb : PE X b tb) (hm : behindInMarks op b = false) : PE X (.Compare a [op] [b] pos) (tOp r ta tb):=by
  intro pins s σ H Q I h
  exact wpAny_Compare1 (Mt ha hb I h λv u s2 x y H2 I2 rx ry q=>ho pins s2 σ H2 x y v u Q I2 rx ry q) hm
noncomputable def II (t : TE) : TT:=λσ H Q=>t σ H λx H'=>∃ k, x = .bl k /\ Q k H'
theorem XR {op : CmpOp} {r : R2} (ho : OpR X (compareOp op) r) (ha : PE X a ta) (hb : PE X b tb) (hm : behindInMarks op b = false) : PT X (.Compare a [op] [b] pos) (II (tOp r ta tb)):=by
  intro pins s σ H Q I h
  refine wpAny_isTrue_Compare1 (thn (ha pins s σ H _ I h) λv s1 ⟨x, H1, I1, r1, q1⟩=>thn (hb pins s1 σ H1 _ I1 q1) λu s2 ⟨y, H2, I2, r2, q2⟩=>
    thn (ho pins s2 σ H2 x y v u _ I2 r1 r2 q2) λc s3 ⟨z, H3, I3, r3, k, e, q3⟩=>?_) hm
  subst e
  cases r3
  exact wpAny_truthy_bool ⟨H3, I3, q3⟩
theorem KA : (sizeLine : Nat) < 2 ^ 63:=by rw [sizeLine_eq]; decide
theorem CH {x : V} {us : List Value} (r : Ym [x] us) : ∃ u, us = [u] /\ Yi x u:=by
  cases r with
  | cons r1 r2=>cases r2; exact ⟨_, rfl, r1⟩
theorem Lb {x y : V} {us : List Value} (r : Ym [x, y] us) : ∃ u w', us = [u, w'] /\ Yi x u /\ Yi y w':=by
  cases r with
  | cons r1 r2=>
    cases r2 with
    | cons r3 r4=>cases r4; exact ⟨_, _, rfl, r1, r3⟩
theorem U4 (hc : X.calm = true) : Jc X (.builtin "max") (λxs H Q=>∃ i j, xs = [.int i, .int j] /\ Q (.int (if j > i then j else i)) H):=by
  intro pins s σ H xs us Q I r h
  obtain ⟨i, j, rfl, q⟩:=h
  obtain ⟨u, w', rfl, ⟨t, rfl⟩, ⟨t', rfl⟩⟩:=Lb r
  refine max_two_ints (I.ok.hd hc) λh' tk k=>⟨_, H, I.kept k, ?_, q⟩
  by_cases hj : j > i
  . rw [if_pos hj, if_pos hj]; exact ⟨_, rfl⟩
  . rw [if_neg hj, if_neg hj]; exact ⟨_, rfl⟩
theorem CD (hc : X.calm = true) : Jc X (.builtin "min") (λxs H Q=>∃ i j, xs = [.int i, .int j] /\ Q (.int (if j < i then j else i)) H):=by
  intro pins s σ H xs us Q I r h
  obtain ⟨i, j, rfl, q⟩:=h
  obtain ⟨u, w', rfl, ⟨t, rfl⟩, ⟨t', rfl⟩⟩:=Lb r
  refine min_two_ints (I.ok.hd hc) λh' tk k=>⟨_, H, I.kept k, ?_, q⟩
  by_cases hj : j < i
  . rw [if_pos hj, if_pos hj]; exact ⟨_, rfl⟩
  . rw [if_neg hj, if_neg hj]; exact ⟨_, rfl⟩
end
structure ObjM (h : Heap) (x dx C : Addr) (mA : Str -> Option Value) : Prop where
  obj : h.get? x = some (PySem.W.instObj C dx)
  ns : h.Ns1 dx mA
  ne : dx ≠ x
theorem C0 {h : Heap} {dx : Addr} {mA : Str -> Option Value} (n : h.Ns1 dx mA) : ∃ od, h.get? dx = some od /\ ∀ name, PySem.W.lookIn name od = some (mA name):=by
  obtain ⟨o, es, ep, ho, hd, hk, _, hm⟩:=n
  refine ⟨o, ho, λname=>?_⟩
  have e:=hm name
  unfold nsFind findBy at e
  rw [← Array.find?_toList] at e
  unfold PySem.W.lookIn
  rw [hd]
  dsimp only
  split
  . rename_i y q
    rw [q] at e
    exact congrArg some e
  . rename_i q
    rw [q] at e
    have a : es.toList.any (·.refKey) = false:=by
      rw [List.any_eq_false]
      intro y hy
      obtain ⟨z, t, hkey⟩:=hk y (Array.mem_toList_iff.mp hy)
      simp [DictEntry.refKey, hkey]
    have a' : ¬ es.toList.any (·.refKey) = true:=by rw [a]; exact Bool.false_ne_true
    rw [if_neg a']
    exact congrArg some e
theorem ObjM.look {h : Heap} {x dx C : Addr} {mA : Str -> Option Value} (I : ObjM h x dx C mA) : ∃ od, PySem.W.InstAt h x (PySem.W.instObj C dx) C (some od) /\ ∀ name, PySem.W.lookIn name od = some (mA name):=
  let ⟨od, ho, hl⟩:=C0 I.ns
  ⟨od, ⟨I.obj, rfl, rfl, ho⟩, hl⟩
section
variable {prog : Program} {w : World} {A : Around} {E : Value -> Shared -> Prop} {s : Shared} {K : PySem.W.Frag} {x dx C f : Addr} {mA : Str -> Option Value} {name : Str} {v : Value}
end
theorem Dk.some_of {v : V} {o : Option Value} (r : Dk (some v) o) : ∃ u, o = some u /\ Yi v u:=by
  cases o with
  | none=>exact (show False from r).elim
  | some u=>exact ⟨u, rfl, r⟩
section
variable {P : Program} {w : World} {H H' : Hp} {h h' : Heap} {a C dx : Addr} {fs fs' : List (Str × V)}
theorem EK (hok : HOk P w H h) (e : H a = some (.ins C dx fs)) : ∃ mA, ObjM h a dx C mA /\ (∀ f, Dk (fs.lookup f) (mA f)) /\ PySem.Within mA (fs.map (·.1)) /\ fs.length <= 1000 /\ H dx = some (.own a):=by
  obtain ⟨d, z, ne, ob, mA, n, r, q⟩:=(show YJ P w H h a (.ins C dx fs) from hok a _ e)
  exact ⟨mA, ⟨ob, n, ne⟩, r, q, z, d⟩
end
structure Cls (K : PySem.W.Frag) (C : Addr) : Prop where
  pg : PySem.W.plainGet K C Str.empty = true
  hd : PySem.W.hasDictIn K C = true
  po : PySem.W.plainOver K C = true
  sa : PySem.W.findIn K (.ref C) "__setattr__" = some (some (.builtin "object.__setattr__"))
theorem Cls.get {K : PySem.W.Frag} {C : Addr} (c : Cls K C) (f : Str) : PySem.W.plainGet K C f = true:=c.pg
section
variable {X : Cx} {pins : List (Addr × Obj)} {σ : St} {H : Hp} {s : Shared} {a C dx : Addr} {fs : List (Str × V)} {f : Str} {v : V} {A : Around} {E : Value -> Shared -> Prop}
end
section
variable {X : Cx} {o e value : Expr} {f : Str} {pos pos' tpos : Pos} {ta tv : TE}
end
section
variable {X : Cx} {pins : List (Addr × Obj)} {σ : St} {H : Hp} {s : Shared} {A : Around} {E : Value -> Shared -> Prop} {Q : Value -> Shared -> Prop} {c : Value} {b : Bool}
inductive TyOf (K : PySem.W.Frag) (H : Hp) : V -> Value -> Prop where
  | non : TyOf K H .non (.type "NoneType")
  | bl (x : Bool) : TyOf K H (.bl x) (.type "bool")
  | int (i : Int) : TyOf K H (.int i) (.type "int")
  | str (x : Str) : TyOf K H (.str x) (.type "str")
  | flt (x : UInt64) : TyOf K H (.flt x) (.type "float")
  | lst {a : Addr} {xs : List V} (e : H a = some (.lst xs)) : TyOf K H (.ref a) (.type "list")
  | frz {a : Addr} {o : Obj} {xs : List V} (e : H a = some (.frz o (.lst xs))) : TyOf K H (.ref a) (.type "list")
  | tup {a : Addr} {xs : List V} (e : H a = some (.tup xs)) : TyOf K H (.ref a) (.type "tuple")
  | dK {a : Addr} {kvs : List (Key × V)} (e : H a = some (.dK kvs)) : TyOf K H (.ref a) (.type "dict")
  | dT {a : Addr} {kvs : List (List Key × V)} (e : H a = some (.dT kvs)) : TyOf K H (.ref a) (.type "dict")
  | ins {a C dx : Addr} {fs : List (Str × V)} (e : H a = some (.ins C dx fs)) (cl : Cls K C) (ha : PySem.W.findIn K (.ref C) "__class__" = some (some (.builtin "object.__class__")))
      (hn : PySem.W.specialIn K (.builtin "object.__class__") "__get__" = some (some (.builtin "getset_descriptor.__get__"))) (htk : PySem.W.takesIn K (.builtin "object.__class__") = some true)
      (hm : PySem.W.mroIn K C (.type "object") = some true) : TyOf K H (.ref a) (.ref C)
theorem Cf {x : V} {u t : Value} (I : Inv X pins σ H s) (rx : Yi x u) (ty : TyOf X.K H x t) (e : PySem.W.kitOne X.K t c = some b) (h : ∀ tk, Q (.bool b) { s with toks:=tk }) :
    wpAny (model X.prog X.w) A (call (.builtin "isinstance") [u, c]) Q E s:=by
  cases ty with
  | non=>cases (show u = Value.none from rx); exact PySem.W.kia_one PySem.W.kitx_none I.kIn True.intro e (λz=>nomatch z) h
  | bl y=>cases (show u = Value.bool y from rx); exact PySem.W.kia_one PySem.W.kitx_bool I.kIn True.intro e (λz=>nomatch z) h
  | int i=>obtain ⟨t, q⟩:=(show ∃ t, u = Value.int i t from rx); cases q; exact PySem.W.kia_one PySem.W.kitx_int I.kIn True.intro e (λz=>nomatch z) h
  | str y=>obtain ⟨t, q⟩:=(show ∃ t, u = Value.str y t from rx); cases q; exact PySem.W.kia_one PySem.W.kitx_str I.kIn True.intro e (λz=>nomatch z) h
  | flt y=>obtain ⟨t, q⟩:=(show ∃ t, u = Value.float y t from rx); cases q; exact PySem.W.kia_one PySem.W.kitx_float I.kIn True.intro e (λz=>nomatch z) h
  | @lst a xs ea=>
    cases (show u = Value.ref a from rx)
    obtain ⟨_, _, n, _, h1⟩:=(show YJ X.prog X.w H s.heap a (.lst xs) from I.hok a _ ea)
    exact PySem.W.kia_one PySem.W.kitx_list I.kIn ⟨_, h1, rfl⟩ e (λz=>nomatch z) h
  | @frz a ob xs ea=>
    cases (show u = Value.ref a from rx)
    obtain ⟨_, _, _, n, _, h1⟩:=(show YJ X.prog X.w H s.heap a (.frz ob (.lst xs)) from I.hok a _ ea)
    exact PySem.W.kia_one PySem.W.kitx_list I.kIn ⟨_, h1, rfl⟩ e (λz=>nomatch z) h
  | @tup a xs ea=>
    cases (show u = Value.ref a from rx)
    obtain ⟨_, _, _, p⟩:=(show YJ X.prog X.w H s.heap a (.tup xs) from I.hok a _ ea)
    obtain ⟨o, h1, h2, _⟩:=p
    exact PySem.W.kia_one PySem.W.kitx_tuple I.kIn ⟨o, h1, h2⟩ e (λz=>nomatch z) h
  | @dK a kvs ea=>
    cases (show u = Value.ref a from rx)
    obtain ⟨_, _, vs, _, p⟩:=(show YJ X.prog X.w H s.heap a (.dK kvs) from I.hok a _ ea)
    obtain ⟨o, es, ep, h1, h2, _⟩:=p
    exact PySem.W.kia_one PySem.W.kitx_dict I.kIn ⟨o, h1, h2.1⟩ e (λz=>nomatch z) h
  | @dT a kvs ea=>
    cases (show u = Value.ref a from rx)
    obtain ⟨_, _, xs, _, o, es, ep, h1, h2, _⟩:=(show YJ X.prog X.w H s.heap a (.dT kvs) from I.hok a _ ea)
    exact PySem.W.kia_one PySem.W.kitx_dict I.kIn ⟨o, h1, h2.1⟩ e (λz=>nomatch z) h
  | @ins a C dx fs ea cl ha hn htk hm=>
    cases (show u = Value.ref a from rx)
    obtain ⟨mA, O, _⟩:=EK I.hok ea
    obtain ⟨od, J, _⟩:=O.look
    exact PySem.W.kia_one (PySem.W.kitx_own (cl.get _) cl.hd ha hn htk hm) I.kIn J e (λz=>nomatch z) h
end
structure Room (k : Nat) (A : Around) : Prop where
  hd : A.handled = none
  dp : A.depth + 3 * k + 5 < recursionLimit
  un : A.units + 16 * k + 200 < cLine
theorem Room.mono {j k : Nat} {A : Around} (r : Room k A) (h : j <= k) : Room j A:=⟨r.hd, by have:=r.dp; lia, by have:=r.un; lia⟩
theorem Room.deeper {k : Nat} {A : Around} (r : Room (k + 1) A) (env : Env) : Room k (A.deeper env):=
  ⟨r.hd, by have:=r.dp; show A.depth + 1 + 3 * k + 5 < _; lia, by have:=r.un; show A.units + 3 + 16 * k + 200 < _; lia⟩
theorem Room.depth {k : Nat} {A : Around} (r : Room k A) : A.depth < recursionLimit:=by have:=r.dp; lia
theorem Room.units {k : Nat} {A : Around} (r : Room k A) : A.units + 64 < cLine:=by have:=r.un; lia
noncomputable def ZX : TA:=λ_ H Q=>Q [] H
noncomputable def XN (ta : TE) (tr : TA) : TA:=λσ H Q=>ta σ H λx H1=>tr σ H1 λxs H2=>Q (x :: xs) H2
section
variable {X : Cx} {e : Expr} {es : List Expr} {te : TE} {t : TA} {pos : Pos}
theorem Xh : PA X [] ZX:=λ_ _ _ _ H Q I h=>Calls.spliced_nil ⟨[], H, I, .nil, h⟩
theorem Xc (ha : PE X e te) (hr : PA X es t) (hs : autoParam (starEach (e :: es) X.env = (false, eval e X.env) :: starEach es X.env) L2.Zau5._auto_1) : PA X (e :: es) (XN te t):=by
  intro pos pins s σ H Q I h
  rw [hs]
  show wpAny _ _ (spliced ((false, eval e X.env) :: backTo pos (starEach es X.env))) _ _ s
  refine Calls.spliced_cons (thn (ha pins s σ H _ I h) λu s1 r9=>?_)
  obtain ⟨x, H1, I1, r1, q1⟩:=r9
  exact thn (hr pos pins s1 σ H1 _ I1 q1) λus s2 r9=>by obtain ⟨xs, H2, I2, r2, q2⟩:=r9; exact ⟨x :: xs, H2, I2, .cons r1 r2, q2⟩
noncomputable def Iy (t : TA) : TE:=λσ H Q=>t σ H λxs H1=>xs.length <= sizeLine /\ ∀ p, H1 p = none -> Q (.ref p) (upd H1 p (.tup xs))
noncomputable def LZ (t : TA) : TE:=λσ H Q=>t σ H λxs H1=>xs.length <= sizeLine /\ ∀ p, H1 p = none -> Q (.ref p) (upd H1 p (.lst xs))
theorem Zr {x1} (h : PA X es t) : PE X (.Tuple es x1 pos) (Iy t):=by
  intro pins s σ H Q I hq
  refine wpAny_Tuple_spliced (thn (h pos pins s σ H _ I hq) λus s1 ⟨xs, H1, I1, r, z, q⟩=>⟨by rw [← r.length]; exact z, ?_⟩)
  have hf : H1 s1.heap.objs.size = none:=I1.hok.fresh (Nat.le_refl _)
  refine ⟨.ref s1.heap.objs.size, upd H1 s1.heap.objs.size (.tup xs), I1.laid (t':=s1.toks) (λb u e=>Heap.get?_push_of_some _ e) (Nat.le_refl _) ?_, rfl, q _ hf⟩
  exact ⟨z, us, r, ⟨_, Heap.get?_push_size _ rfl, rfl, _, rfl⟩⟩
theorem Ys (h : PA X es t) : PE X (.List es pos) (LZ t):=by
  intro pins s σ H Q I hq
  refine wpAny_List_spliced (thn (h pos pins s σ H _ I hq) λus s1 ⟨xs, H1, I1, r, z, q⟩=>⟨by rw [← r.length]; exact z, ?_⟩)
  have hf : H1 s1.heap.objs.size = none:=I1.hok.fresh (Nat.le_refl _)
  refine ⟨.ref s1.heap.objs.size, upd H1 s1.heap.objs.size (.lst xs), I1.laid (t':=s1.toks) (λb u e=>Heap.get?_push_of_some _ e) (Nat.le_refl _) ?_, rfl, q _ hf⟩
  exact ⟨z, us, 0, r, Heap.get?_push_size _ rfl⟩
end
noncomputable abbrev Sp:=List V -> Hp -> VK -> XK -> Prop
noncomputable abbrev CXT:=List Env -> Hp -> Shared -> XK -> Value -> Shared -> Prop
structure Env0 (P : Program) (w : World) (K : PySem.W.Frag) (mg : Str -> Option Value) (base : Heap) (A : Around) (outer : List Env) (s : Shared) (H : Hp) : Prop where
  frames : A.frames = some outer
  mod : Mod K mg base
  bs : ∀ b o, base.get? b = some o -> s.heap.get? b = some o /\ H b = none
  bsz : base.objs.size <= s.heap.objs.size
  funs : s.heap.FunFrames base outer
  frf : ∀ b ∈ frs outer, H b = none
  hok : HOk P w H s.heap
  bare : AllBare s.gens
noncomputable def CE (outer : List Env) (P : Program) (w : World) (H : Hp) (s : Shared) (Q : VK) (u : Value) (s' : Shared) : Prop:=
  ∃ v H', s'.os = s.os /\ AllBare s'.gens /\ Un (frs outer) [] H H' s.heap s'.heap /\ HOk P w H' s'.heap /\ Yi v u /\ Q v H'
noncomputable def CR (CX : CXT) (outer : List Env) (P : Program) (w : World) (H : Hp) (s : Shared) (Q : VK) (E : XK) (r : Result) (s' : Shared) : Prop:=
  match r with
  | .ok (.ret u)=>CE outer P w H s Q u s'
  | .ok _=>False
  | .error e=>CX outer H s E e s'
structure FnOk (P : Program) (w : World) (K : PySem.W.Frag) (mg : Str -> Option Value) (base : Heap) (CX : CXT) (k : Nat) (f : Addr) (fd : FuncData) (ps : List Str) (sp : Sp) : Prop where
  len : ∀ vs H Q E, sp vs H Q E -> vs.length = ps.length
  run : ∀ (A : Around) (outer : List Env) (s : Shared) (H : Hp) (args : Args) (us : List Value) (vs : List V) (Q : VK) (E : XK), Room k A -> Env0 P w K mg base A outer s H -> BindsTo s fd args (ps.zip us) -> Ym vs us -> sp vs H Q E ->
    codeAny (model P w) A (.call (.ref f) args) (CR CX outer P w H s Q E) s
section
variable {X : Cx} {pins : List (Addr × Obj)} {σ : St} {H : Hp} {s s' : Shared}
theorem Inv.env0 (I : Inv X pins σ H s) : Env0 X.prog X.w X.K X.mg X.base X.A X.stack s H:=
  ⟨I.ok.frames, I.ok.mod, I.bs, Nat.le_trans I.ok.bsz I.sz, I.stack, I.stkFree, I.hok, I.bare⟩
theorem Inv.after {Q : VK} {u : Value} (I : Inv X pins σ H s) (h : CE X.stack X.prog X.w H s Q u s') : EP X pins σ Q u s':=by
  obtain ⟨v, H', os, bare, un, hok, r, q⟩:=h
  obtain ⟨hh, g, d, t, os'⟩:=s'
  obtain rfl : os' = s.os:=os
  exact ⟨v, H', I.call (h':=hh) (g':=g) (d':=d) (t':=t) (ch:=[]) un hok bare (λb z=>absurd z (by simp)), r, q⟩
end
noncomputable def Ve (sp : Sp) (dvs : List V) (E : XK) (t : TA) : TE:=λσ H Q=>t σ H λvs H1=>sp (vs ++ dvs) H1 Q E
noncomputable def Kt (K : PySem.W.Frag) (fd : FuncData) (ps : List Str) (ds : List Value) : Prop:=
  ∀ (s : Shared) (us : List Value), K.In s.heap -> (us ++ ds).length = ps.length -> BindsTo s fd ⟨us, []⟩ (ps.zip (us ++ ds))
theorem Kt.all {K : PySem.W.Frag} {fd : FuncData} {ps : List Str} (h : ∀ us : List Value, us.length = ps.length -> bindArgs fd ⟨us, []⟩ = pure (ps.zip us)) : Kt K fd ps []:=λs us _ hl=>by
  rw [List.append_nil] at hl ⊢
  exact .of_eq (h us hl)
noncomputable def VZ (CX : CXT) (X : Cx) (E : XK) : Prop:=∀ (pins : List (Addr × Obj)) (σ : St) (H : Hp) (s : Shared) (e : Value) (s' : Shared), Inv X pins σ H s -> CX X.stack H s E e s' -> X.xe e s'
section
variable {X : Cx} {CX : CXT} {k : Nat} {f C : Addr} {fd : FuncData} {ps : List Str} {sp : Sp} {dvs : List V} {ds : List Value} {E : XK} {x m : Str} {p pos apos : Pos} {e o : Expr} {es : List Expr} {ta : TE} {t : TA}
theorem LJ {pins : List (Addr × Obj)} {σ : St} {H : Hp} {s : Shared} {Q : VK} {us : List Value} {vs : List V} (F : FnOk X.prog X.w X.K X.mg X.base CX k f fd ps sp) (hr : Room k X.A) (hb : Kt X.K fd ps ds) (hd : Ym dvs ds) (hx : VZ CX X E)
    (I : Inv X pins σ H s) (r : Ym vs us) (h : sp (vs ++ dvs) H Q E) : wpAny (model X.prog X.w) X.A (call (.ref f) us) (EP X pins σ Q) X.xe s:=by
  have r2 : Ym (vs ++ dvs) (us ++ ds):=r.append hd
  have hl : (us ++ ds).length = ps.length:=by rw [← r2.length]; exact F.len _ _ _ _ h
  refine wpAny_call (codeAny_mono (F.run X.A X.stack s H ⟨us, []⟩ (us ++ ds) (vs ++ dvs) Q E hr I.env0 (hb s us I.kIn hl) r2 h) λr s' hq=>?_)
  cases r with
  | error e=>exact hx pins σ H s e s' I hq
  | ok fl=>
    cases fl with
    | ret u=>exact I.after hq
    | next=>exact False.elim hq
    | brk=>exact False.elim hq
    | cont=>exact False.elim hq
theorem Bd (F : FnOk X.prog X.w X.K X.mg X.base CX k f fd ps sp) (hr : Room k X.A) (hg : Gl X x) (hm : X.mg x = some (.ref f)) (hk : PySem.W.keepIn X.K (.ref f) = true) (hb : Kt X.K fd ps ds) (hd : Ym dvs ds) (hx : VZ CX X E)
    (ha : PA X (e :: es) t) (hdb : autoParam ((x == ("__debug__" : Str)) = false) L2.Zau2._auto_1) (he : autoParam (starEach (e :: es) X.env = (false, eval e X.env) :: starEach es X.env) L2.Zau5._auto_1) (hpl : autoParam ((backTo pos (starEach es X.env)).any (·.1) = false) L2.Zau5._auto_1) :
    PE X (.Call (.Name x p) (e :: es) [] pos) (Ve sp dvs E t):=by
  intro pins s σ H Q I h
  refine wpAny_Call_Name_kw (Uj I hg hm ?_ hdb)
  refine PySem.W.callWith_K (h₀:=X.base) I.ok.mod.kin hk (thn (ha pos pins s σ H _ I h) λus s1 ⟨vs, H1, I1, r, q⟩=>⟨I1.kIn, ?_⟩) he hpl
  exact LJ F hr hb hd hx I1 r q
end
section
variable {X : Cx} {CX : CXT} {k : Nat} {f C : Addr} {fd : FuncData} {ps ks : List Str} {sp : Sp} {E : XK} {x m : Str} {p pos apos kpos : Pos} {e o : Expr} {es : List Expr} {kws : List Keyword} {te ta : TE} {t tk : TA} {nm : Option Str}
variable {g : List Value -> List Value -> List Value} {gV : List V -> List V -> List V}
end
structure FnScope (N P : List Str) (sc : Scope) : Prop where
  kind : sc.kind = .function
  co : sc.isCoroutine = false
  gen : sc.isGenerator = false
  nd : N.Nodup
  pre : N.take P.length = P
  par : ∀ x ∈ P, sc.names.lookup x = some .local ∨ sc.names.lookup x = some .cell
  nofree : ∀ y ∈ sc.names, y.2 ≠ .free
theorem U6 {kindOf : Str -> Option NameKind} {x : Str} : ∀ {binds : List (Str × Value)} {m : Str -> Option Value}, (∀ v, (x, v) ∉ binds) -> bindL kindOf binds m x = m x
  | [], _, _=>rfl
  | (n, v) :: r, m, h=>by
    unfold bindL
    rw [U6 λw hw=>h w (List.mem_cons_of_mem _ hw)]
    split
    . have : x ≠ n := by rintro rfl; exact h v List.mem_cons_self
      simp [this]
    . rfl
theorem U2 {kindOf : Str -> Option NameKind} {x : Str} : ∀ {binds : List (Str × Value)} {m : Str -> Option Value}, (∀ v, (x, v) ∉ binds) -> bindC kindOf binds m x = m x
  | [], _, _=>rfl
  | (n, v) :: r, m, h=>by
    unfold bindC
    rw [U2 λw hw=>h w (List.mem_cons_of_mem _ hw)]
    split
    . rfl
    . have : x ≠ n := by rintro rfl; exact h v List.mem_cons_self
      simp [this]
theorem Kb {kindOf : Str -> Option NameKind} {x : Str} {v : Value} : ∀ {P : List Str} {vs : List Value} {i : Nat} {m : Str -> Option Value}, P.Nodup -> P[i]? = some x -> vs[i]? = some v -> kindOf x = some .local ->
    bindL kindOf (P.zip vs) m x = some v
  | [], _, _, _, _, h, _, _=>by simp at h
  | _ :: _, [], _, _, _, _, h, _=>by simp at h
  | p :: P, w :: vs, 0, m, nd, h1, h2, hk=>by
    simp at h1 h2; subst h1; subst h2
    show bindL kindOf ((p, w) :: P.zip vs) m p = _
    unfold bindL
    rw [U6 λv hv=>(List.nodup_cons.mp nd).1 (List.of_mem_zip hv).1, if_pos hk]
    simp
  | p :: P, w :: vs, i + 1, m, nd, h1, h2, hk=>by
    show bindL kindOf ((p, w) :: P.zip vs) m x = _
    unfold bindL
    exact Kb (i:=i) (List.nodup_cons.mp nd).2 (by simpa using h1) (by simpa using h2) hk
theorem Ku {kindOf : Str -> Option NameKind} {x : Str} {v : Value} : ∀ {P : List Str} {vs : List Value} {i : Nat} {m : Str -> Option Value}, P.Nodup -> P[i]? = some x -> vs[i]? = some v -> kindOf x ≠ some .local ->
    bindC kindOf (P.zip vs) m x = some v
  | [], _, _, _, _, h, _, _=>by simp at h
  | _ :: _, [], _, _, _, _, h, _=>by simp at h
  | p :: P, w :: vs, 0, m, nd, h1, h2, hk=>by
    simp at h1 h2; subst h1; subst h2
    show bindC kindOf ((p, w) :: P.zip vs) m p = _
    unfold bindC
    rw [U2 λv hv=>(List.nodup_cons.mp nd).1 (List.of_mem_zip hv).1, if_neg hk]
    simp
  | p :: P, w :: vs, i + 1, m, nd, h1, h2, hk=>by
    show bindC kindOf ((p, w) :: P.zip vs) m x = _
    unfold bindC
    exact Ku (i:=i) (List.nodup_cons.mp nd).2 (by simpa using h1) (by simpa using h2) hk
noncomputable def VH (N : List Str) (vs : List V) : St:=vs.map some ++ List.replicate (N.length - vs.length) none
noncomputable def Fa (CX : CXT) (P : Program) (w : World) (K : PySem.W.Frag) (mg : Str -> Option Value) (base : Heap) (N : List Str) (qual : Str) (scope : Scope) (f : Addr) (cd : Value) (A : Around) (outer : List Env) (s : Shared) (H : Hp) (E : XK) : Cx where
  prog:=P
  w:=w
  K:=K
  mg:=mg
  base:=base
  A:=A.deeper (envOfC qual scope s.heap.objs.size f cd)
  N:=N
  s₀:=s
  H₀:=H
  env:=envOfC qual scope s.heap.objs.size f cd
  outer:=outer
  stack:=envOfC qual scope s.heap.objs.size f cd :: outer
  ex:=[]
  calm:=true
  fn:=λ_=>true
  pn:=[]
  xe:=λe s'=>wpAny (model P w) (A.deeper (envOfC qual scope s.heap.objs.size f cd)) (leaving (envOfC qual scope s.heap.objs.size f cd) e) (λ_ s''=>CX outer H s E e s'') (λe' s''=>CX outer H s E e' s'') s'
theorem Gu {sc : Scope} {n : Nat} {x : Str} (h : sc.names.lookup x = some .cell) : ∃ c, (cellsFrom n sc.names []).lookup x = some c:=by
  have q:=PySem.W.cellsFrom_some sc.names n [] (.inl h)
  exact Option.isSome_iff_exists.mp q
theorem Di {CX : CXT} {P : Program} {w : World} {K : PySem.W.Frag} {mg : Str -> Option Value} {base : Heap} {N ps : List Str} {qual : Str} {scope : Scope} {f : Addr} {cd : Value} {A : Around} {outer : List Env} {s s1 : Shared} {H : Hp} {E : XK} {us : List Value} {vs : List V}
    (S : FnScope N ps scope) (hd : A.handled = none) (e0 : Env0 P w K mg base A outer s H) (hl : vs.length = ps.length) (r : Ym vs us)
    (x : InCallC s s.heap.objs.size (bindL (envOfC qual scope s.heap.objs.size f cd).kindOf (ps.zip us) λ_=>none) (cellsFrom (s.heap.objs.size + 1) scope.names []) (bindC (envOfC qual scope s.heap.objs.size f cd).kindOf (ps.zip us) λ_=>none) s1) :
    Inv (Fa CX P w K mg base N qual scope f cd A outer s H E) [] (VH N vs) H s1:=by
  have hpl : ps.length <= N.length:=by have:=congrArg List.length S.pre; rw [List.length_take] at this; lia
  obtain ⟨h1, tk, rfl, hk⟩:=x.done
  have noA : ∀ b : Addr, b ∉ (Fa CX P w K mg base N qual scope f cd A outer s H E).ex:=λb z=>absurd (show b ∈ ([] : List Addr) from z) (by simp)
  refine ⟨⟨e0.mod, S.kind, rfl, rfl, Nat.le_refl _, λy z c h1 h2=>?_, λy hy=>?_, λy c _ h=>?_, λ_=>hd, Around.frames_deeper e0.frames, .inr ⟨rfl, rfl⟩, λb z=>absurd z (noA b), e0.bs, e0.bsz, λb _ _=>noA b, λb z=>absurd z (noA b), e0.funs, e0.frf⟩,
    rfl, e0.bare, Un.kept hk, ⟨_, x.toInCall.ns, λi y v h1 h2 h3=>?_⟩, λy c h=>⟨_, x.cell y c h⟩, e0.hok.fresh (Nat.le_refl _), λy c h=>?_, λp hp=>absurd (show p ∈ ([] : List (Addr × Obj)) from hp) (by simp), e0.hok.kept hk, ?_⟩
  . exact name_of_addr x.apart (PySem.mem_of_lookup h1) (PySem.mem_of_lookup h2)
  . have hy : scope.names.lookup y = some .cell ∨ scope.names.lookup y = some .free := hy
    rcases hy with hy | hy
    . exact Gu hy
    . exact absurd rfl (S.nofree _ (PySem.mem_of_lookup hy))
  . exact Nat.le_of_lt (x.above y c (PySem.mem_of_lookup h))
  . have hi : i < vs.length:=by
      unfold VH at h2
      by_cases hi : i < vs.length
      . exact hi
      . rw [List.getElem?_append_right (by simpa using hi)] at h2
        rw [List.getElem?_replicate] at h2
        split at h2 <;> cases h2
    have ha : vs[i]? = some v:=by
      unfold VH at h2
      rw [List.getElem?_append_left (by simpa using hi), List.getElem?_map] at h2
      cases e : vs[i]? with
      | none=>rw [e] at h2; cases h2
      | some a=>rw [e] at h2; cases h2; rfl
    obtain ⟨u, hu, rv⟩:=r.get ha
    have hp : ps[i]? = some y:=by
      rw [← S.pre, List.getElem?_take_of_lt (by lia)]; exact h1
    have ndP : ps.Nodup:=by rw [← S.pre]; exact S.nd.sublist (List.take_sublist _ _)
    refine ⟨u, rv, ?_⟩
    rcases S.par y (List.mem_of_getElem? hp) with k | k
    . exact .inl ⟨k, Kb ndP hp hu k⟩
    . obtain ⟨c, e⟩ := Gu (n := s.heap.objs.size + 1) k
      refine .inr ⟨.inl k, c, e, ?_⟩
      have q:=x.cell y c e
      rw [Ku ndP hp hu (by show scope.names.lookup y ≠ _; rw [k]; decide)] at q
      exact q
  . exact e0.hok.fresh (Nat.le_of_lt (x.above y c (PySem.mem_of_lookup h)))
  . unfold VH
    show _ = N.length
    rw [List.length_append, List.length_map, List.length_replicate]
    lia
theorem LG {CX : CXT} {P : Program} {w : World} {K : PySem.W.Frag} {mg : Str -> Option Value} {base : Heap} {k : Nat} {f : Addr} {name qual : Str} {params : Arguments} {body : List Stmt} {scope : Scope} {dV kV doc pm cdv ct oc : Value} {an od : Option Addr}
    {osl : Array (Option Value)} {N ps : List Str} {sp : Sp} (lk : K.lookup f = some ⟨oc, od, .func (PySem.W.fnOf name qual params body scope dV kV doc pm an cdv ct), osl⟩) (hcd : PySem.W.codeIn K cdv qual = true) (S : FnScope N ps scope)
    (len : ∀ vs H Q E, sp vs H Q E -> vs.length = ps.length)
    (hbody : ∀ (A : Around) (outer : List Env) (s : Shared) (H : Hp) (vs : List V) (Q : VK) (E : XK), Room k (A.deeper (envOfC qual scope s.heap.objs.size f cdv)) -> sp vs H Q E ->
      ∃ t, PSs (Fa CX P w K mg base N qual scope f cdv A outer s H E) body t /\ t { nx:=λ_ H'=>Q .non H', rt:=Q } (VH N vs) H) :
    FnOk P w K mg base CX (k + 1) f (PySem.W.fnOf name qual params body scope dV kV doc pm an cdv ct) ps sp:=by
  refine ⟨len, λA outer s H args us vs Q E hr e0 hb r hsp=>?_⟩
  have hl:=len _ _ _ _ hsp
  have KX : K.In s.heap:=e0.mod.kin.keeps λb o e=>(e0.bs b o e).1
  have lim : s.heap.NoLimit:=e0.mod.nolimit.keeps λb o e=>(e0.bs b o e).1
  have hkind : ∀ y ∈ ps.zip us, scope.names.lookup y.1 = some .local ∨ (scope.names.lookup y.1 = some .cell /\ ((cellsFrom (s.heap.objs.size + 1) scope.names []).lookup y.1).isSome = true):=λ⟨n, v⟩ hy=>by
    rcases S.par n (List.of_mem_zip hy).1 with q | q
    . exact .inl q
    . exact .inr ⟨q, PySem.W.cellsFrom_some _ _ _ (.inl q)⟩
  refine codeAny_call_function hr.depth (KX _ _ lk) rfl S.co S.gen rfl (PySem.W.codeRec_of KX hcd) (hb _ _ _ _ ?_)
  refine wpAny_newFunctionEnv_cells S.kind hkind λenv he s1 x=>?_
  subst he
  refine ⟨lim.keeps x.toInCall.keep, codeAny_func ?_⟩
  obtain ⟨t, ht, hq⟩:=hbody A outer s H vs Q E (hr.deeper _) hsp
  have I : Inv (Fa CX P w K mg base N qual scope f cdv A outer s H E) [] (VH N vs) H s1:=Di S hr.hd e0 hl r x
  refine wpAny_mono (ht [] s1 (VH N vs) H _ I hq) (λfl s' hs=>?_) λe s' hs=>hs
  have fin : ∀ {σ' : St} {H' : Hp} {v : V} {u : Value}, Inv (Fa CX P w K mg base N qual scope f cdv A outer s H E) [] σ' H' s' -> Yi v u -> Q v H' -> CE outer P w H s Q u s':=
    fun {σ' H' v u} J rv q=>⟨v, H', J.os, J.bare, J.base, J.hok, rv, q⟩
  cases fl with
  | ret u=>
    obtain ⟨v, σ', H', J, rv, q⟩:=hs
    exact fin J rv q
  | next=>
    obtain ⟨σ', H', J, q⟩:=hs
    exact fin (v:=V.non) (u:=Value.none) J rfl q
  | brk=>
    obtain ⟨_, _, _, q⟩:=hs
    exact False.elim q
  | cont=>
    obtain ⟨_, _, _, q⟩:=hs
    exact False.elim q
section
variable {X : Cx} {x : Str} {p pos : Pos} {e : Expr} {es : List Expr} {t : TA} {id T : String} {r : List V -> Hp -> VK -> Prop}
noncomputable def tCB (r : List V -> Hp -> VK -> Prop) (t : TA) : TE:=λσ H Q=>t σ H λvs H1=>r vs H1 Q
theorem XF (hc : Jc X (.builtin id) r) (hg : Gl X x) (hm : X.mg x = none) (hv : bootBuiltins x = some (.builtin id)) (ha : PA X (e :: es) t) (hn : autoParam (x ≠ "__name__") L2.Zau2._auto_1) (hdb : autoParam ((x == ("__debug__" : Str)) = false) L2.Zau2._auto_1)
    (he : autoParam (starEach (e :: es) X.env = (false, eval e X.env) :: starEach es X.env) L2.Zau5._auto_1) (hpl : autoParam ((backTo pos (starEach es X.env)).any (·.1) = false) L2.Zau5._auto_1) : PE X (.Call (.Name x p) (e :: es) [] pos) (tCB r t):=by
  intro pins s σ H Q I h
  refine wpAny_Call_Name_kw (V2 I hg hm hv ?_ hn hdb)
  exact PyProof.Rows.callWith_builtin1 (thn (ha pos pins s σ H _ I h) λus s1 r9=>by obtain ⟨vs, H1, I1, r1, q1⟩:=r9; exact hc pins s1 σ H1 vs us Q I1 r1 q1) he hpl
theorem QX (hc : Jc X (.type T) r) (hg : Gl X x) (hm : X.mg x = none) (hv : bootBuiltins x = some (.type T)) (ha : PA X (e :: es) t) (hn : autoParam (x ≠ "__name__") L2.Zau2._auto_1) (hdb : autoParam ((x == ("__debug__" : Str)) = false) L2.Zau2._auto_1)
    (he : autoParam (starEach (e :: es) X.env = (false, eval e X.env) :: starEach es X.env) L2.Zau5._auto_1) (hpl : autoParam ((backTo pos (starEach es X.env)).any (·.1) = false) L2.Zau5._auto_1) : PE X (.Call (.Name x p) (e :: es) [] pos) (tCB r t):=by
  intro pins s σ H Q I h
  refine wpAny_Call_Name_kw (V2 I hg hm hv ?_ hn hdb)
  exact PyProof.Rows.callWith_type1 (thn (ha pos pins s σ H _ I h) λus s1 r9=>by obtain ⟨vs, H1, I1, r1, q1⟩:=r9; exact hc pins s1 σ H1 vs us Q I1 r1 q1) he hpl
end
end L2
namespace HT
open PySem PyProof.Rows
section
open PySem.SeqAt
open PySem.AutoSeq1 (wpAny_loadPart')
open PySem.MeetsSeq PySem.MeetsSeq2 PySem.MeetsSeq3
end
section
variable {prog : Program} {w : World} {A : Around} {E : Value -> Shared -> Prop} {s : Shared}
noncomputable def sIx (n d : Nat) : Option Int -> Nat
  | none=>d
  | some v=>if v < 0 then (v + (n : Int)).toNat else min v.toNat n
theorem sIx_none (n d : Nat) : sIx n d none = d:=rfl
theorem sIx_nat (n d k : Nat) : sIx n d (some (k : Int)) = min k n:=by
  show (if (k : Int) < 0 then ((k : Int) + (n : Int)).toNat else min (k : Int).toNat n) = min k n
  rw [if_neg (by lia), Int.toNat_natCast]
end
end HT
namespace L2
open PySem PySem.Spec PyProof.Rows
noncomputable abbrev TO:=St -> Hp -> (Option Int -> Hp -> Prop) -> Prop
noncomputable def PO (X : Cx) (e : Option Expr) (t : TO) : Prop:=
  ∀ (pins : List (Addr × Obj)) (s : Shared) (σ : St) (H : Hp) (Q : Option Int -> Hp -> Prop), Inv X pins σ H s -> t σ H Q ->
    wpAny (model X.prog X.w) X.A (evalPart e X.env) (λu s'=>∃ o H', Inv X pins σ H' s' /\ IsPart u o /\ Q o H') X.xe s
noncomputable def DR : TO:=λ_ H Q=>Q none H
noncomputable def ID (t : TE) : TO:=λσ H Q=>t σ H λx H1=>∃ i, x = .int i /\ Q (some i) H1
theorem FG {ns : List Int} : ∀ {us : List Value}, Ym (ns.map V.int) us -> IntsAre us ns:=by
  induction ns with
  | nil=>intro us r; rw [List.map_nil] at r; cases r; exact .nil
  | cons n ns ih=>
    intro us r
    rw [List.map_cons] at r
    cases r with
    | cons r1 r2=>
      obtain ⟨t, e⟩:=r1
      subst e
      exact .cons n t (ih r2)
section
variable {X : Cx} {e : Expr} {te : TE} {lo hi : Option Expr} {tl th : TO} {pos p2 : Pos}
theorem KN : PO X none DR:=by
  intro pins s σ H Q I h
  rw [evalPart_none]
  exact wpAny_pure ⟨none, H, I, .none, h⟩
theorem Gh (h : PE X e te) : PO X (some e) (ID te):=by
  intro pins s σ H Q I hw
  rw [evalPart_some]
  refine thn (h pins s σ H _ I hw) λu s1 r9=>?_
  obtain ⟨x, H1, I1, r1, q1⟩:=r9
  obtain ⟨i, rfl, q⟩:=q1
  obtain ⟨t, rfl⟩:=r1
  exact ⟨some i, H1, I1, .int i t, q⟩
noncomputable def SlR (X : Cx) (r : V -> Option Int -> Option Int -> Hp -> VK -> Prop) : Prop:=
  ∀ (pins : List (Addr × Obj)) (s : Shared) (σ : St) (H : Hp) (x : V) (v vl vu : Value) (lo hi : Option Int) (sl : Addr) (Q : VK), Inv X pins σ H s -> Yi x v -> s.heap.IsSliceOf sl vl vu .none -> IsPart vl lo -> IsPart vu hi -> r x lo hi H Q ->
    ∃ T id, typeLookup (.type T) "__getitem__" = pure (some (.builtin id)) /\ s.TypeIs v T /\ wpAny (model X.prog X.w) X.A (getItem v (.ref sl)) (EP X pins σ Q) X.xe s
noncomputable def tSl (r : V -> Option Int -> Option Int -> Hp -> VK -> Prop) (te : TE) (tl th : TO) : TE:=λσ H Q=>te σ H λx H1=>tl σ H1 λl H2=>th σ H2 λu H3=>r x l u H3 Q
theorem Uk {r : V -> Option Int -> Option Int -> Hp -> VK -> Prop} (hr : SlR X r) (he : PE X e te) (hl : PO X lo tl) (hu : PO X hi th) : PE X (.Subscript e (.Slice lo hi none p2) pos) (tSl r te tl th):=by
  intro pins s σ H Q I h
  refine Subscript_ (thn (he pins s σ H _ I h) λv s1 r9=>?_)
  obtain ⟨x, H1, I1, r1, q1⟩:=r9
  refine wpAny_Slice (thn (hl pins s1 σ H1 _ I1 q1) λvl s2 ⟨l, H2, I2, pl, q2⟩=>thn (hu pins s2 σ H2 _ I2 q2) λvu s3 r9=>?_)
  obtain ⟨u, H3, I3, pu, q3⟩:=r9
  rw [evalPart_none]
  refine wpAny_pure ?_
  have I4 : Inv X pins σ H3 { s3 with heap:=s3.heap.push { cls:=.type "slice", data:=.fields #[vl, vu, .none] } }:=I3.kept (t':=s3.toks) λb ob q=>Heap.get?_push_of_some _ q
  obtain ⟨T, id, hT, ht, hg⟩:=hr pins { s3 with heap:=s3.heap.push { cls:=.type "slice", data:=.fields #[vl, vu, .none] } } σ H3 x v vl vu l u s3.heap.objs.size Q I4 r1 (Heap.IsSliceOf.new ..) pl pu q3
  show wpAny (model X.prog X.w) X.A (subscriptTail e (.Slice lo hi none p2) v (.ref s3.heap.objs.size)) (EP X pins σ Q) X.xe { s3 with heap:=s3.heap.push { cls:=.type "slice", data:=.fields #[vl, vu, .none] } }
  exact tail_any (ops:=[.ref s3.heap.objs.size, v]) ht hT hg (by with_unfolding_all rfl)
noncomputable def Iw (xs : List V) (lo hi : Option Int) : List V:=(xs.drop (HT.sIx xs.length 0 lo)).take (HT.sIx xs.length xs.length hi - HT.sIx xs.length 0 lo)
theorem Ge (xs : List V) (lo hi : Option Int) : (Iw xs lo hi).length <= xs.length:=by
  unfold Iw
  rw [List.length_take, List.length_drop]
  lia
end
noncomputable def ixN (n : Nat) (i : Int) : Option Nat:=if 0 <= i then (if i < n then some i.toNat else none) else if -(n : Int) <= i then some (i + n).toNat else none
noncomputable def atI {α : Type} (xs : List α) (i : Int) : Option α:=(ixN xs.length i).bind λj=>xs[j]?
theorem DE {n : Nat} {i : Int} {j : Nat} (h : ixN n i = some j) : seqIndex? i n = some j /\ j < n /\ -(n : Int) <= i /\ i < n:=by
  unfold ixN at h
  by_cases h0 : 0 <= i
  . rw [if_pos h0] at h
    by_cases h1 : i < n
    . rw [if_pos h1] at h
      have e : i.toNat = j:=Option.some.inj h
      exact ⟨by rw [seqIndex_of h0 h1, e], by lia, by lia, h1⟩
    . rw [if_neg h1] at h; cases h
  . rw [if_neg h0] at h
    by_cases h1 : -(n : Int) <= i
    . rw [if_pos h1] at h
      have e : (i + n).toNat = j:=Option.some.inj h
      exact ⟨by rw [seqIndex_neg (by lia) h1, e], by lia, h1, by lia⟩
    . rw [if_neg h1] at h; cases h
theorem KS {α : Type} {xs : List α} {i : Int} {v : α} (h : atI xs i = some v) : ∃ j, seqIndex? i xs.length = some j /\ xs[j]? = some v /\ j < xs.length /\ -(xs.length : Int) <= i /\ i < xs.length:=by
  unfold atI at h
  cases e : ixN xs.length i with
  | none=>rw [e] at h; cases h
  | some j=>
    rw [e] at h
    obtain ⟨h1, h2, h3, h4⟩:=DE e
    exact ⟨j, h1, h, h2, h3, h4⟩
noncomputable def E4 (b : Expr) : Prop:=∀ o i, subscripted b false o i = operate [o, i] (getItem o i)
noncomputable def IxR (X : Cx) (r : R2) : Prop:=
  ∀ (value slice : Expr) (pins : List (Addr × Obj)) (s : Shared) (σ : St) (H : Hp) (x y : V) (v u : Value) (Q : VK), Inv X pins σ H s -> Yi x v -> Yi y u -> r x y H Q ->
    subscripted slice false v u = operate [v, u] (getItem v u) -> wpAny (model X.prog X.w) X.A (subscriptTail value slice v u) (EP X pins σ Q) X.xe s
noncomputable def MtR (X : Cx) (id : String) (r : V -> List V -> Hp -> VK -> Prop) : Prop:=
  ∀ (pins : List (Addr × Obj)) (s : Shared) (σ : St) (H : Hp) (x : V) (xs : List V) (v : Value) (us : List Value) (Q : VK), Inv X pins σ H s -> Yi x v -> Ym xs us -> r x xs H Q ->
    wpAny (model X.prog X.w) X.A (call (.builtin id) (v :: us)) (EP X pins σ Q) X.xe s
section
variable {X : Cx} {a b : Expr} {ta tb : TE} {pos : Pos}
theorem XO {r : R2} (hr : IxR X r) (ha : PE X a ta) (hb : PE X b tb) (hs : E4 b) : PE X (.Subscript a b pos) (tOp r ta tb):=by
  intro pins s σ H Q I h
  exact Subscript_ (Mt ha hb I h λv u s2 x y H2 I2 rx ry q=>hr a b pins s2 σ H2 x y v u Q I2 rx ry q (hs _ _))
noncomputable def Ed (K : PySem.W.Frag) : R2:=λx y H Q=>∃ p xs i v, x = .ref p /\ y = .int i /\ SqL K H p xs /\ atI xs i = some v /\ Q v H
noncomputable def HU (K : PySem.W.Frag) : R2:=λx y H Q=>∃ p xs i v, x = .ref p /\ y = .int i /\ SqT K H p xs /\ atI xs i = some v /\ Q v H
theorem EW : IxR X (Ed X.K):=by
  intro value slice pins s σ H x y v u Q I rx ry h hs
  obtain ⟨p, xs, i, z, rfl, rfl, hq, he, q⟩:=h
  cases rx
  obtain ⟨t, rfl⟩:=ry
  obtain ⟨its, r, pl, hz⟩:=I.list hq
  obtain ⟨j, h1, h2, h3, h4, h5⟩:=KS he
  obtain ⟨w, ew, rw'⟩:=r.get h2
  have hl:=r.length
  have hn:=KA
  have fin : EP X pins σ Q w s:=⟨z, H, I, rw', q⟩
  by_cases h0 : 0 <= i
  . have hj : i.toNat = j:=by
      rw [seqIndex_of h0 h5] at h1
      exact Option.some.inj h1
    exact item_listR pl.isList h0 (by lia) (by rw [hj]; simpa using ew) fin hs
  . have hj : (i + (its.toArray.size : Int)).toNat = j:=by
      rw [seqIndex_neg (by lia) h4] at h1
      rw [List.size_toArray, ← hl]
      exact Option.some.inj h1
    exact subscriptTail_builtinR (x:=w) pl.isList.typeIs slot_list_getitem.lookup
      (wpAny_getItem_list_neg (Q:=λr s'=>r = w /\ EP X pins σ Q r s') pl.isList (by lia) (by rw [List.size_toArray] <;> lia) (by lia) (by rw [hj]; simpa using ew) ⟨rfl, fin⟩) hs
theorem La : IxR X (HU X.K):=by
  intro value slice pins s σ H x y v u Q I rx ry h hs
  obtain ⟨p, xs, i, z, rfl, rfl, hq, he, q⟩:=h
  cases rx
  obtain ⟨t, rfl⟩:=ry
  obtain ⟨its, r, pl, hz⟩:=I.tuple hq
  obtain ⟨j, h1, h2, h3, h4, h5⟩:=KS he
  obtain ⟨w, ew, rw'⟩:=r.get h2
  have hl:=r.length
  have hn:=KA
  have fin : EP X pins σ Q w s:=⟨z, H, I, rw', q⟩
  exact subscriptTail_builtinR (x:=w) pl.typeIs slot_tuple_getitem.lookup
    (getItem_tuple (j:=j) (Q:=λr s'=>r = w /\ EP X pins σ Q r s') pl (by lia) (by lia) (by rw [List.size_toArray, ← hl]; exact h1) (by simpa using ew) ⟨rfl, fin⟩) hs
theorem Ff (its : List Value) (n j : Nat) (u : Value) : Obj.mapSeq (·.setIfInBounds j u) { cls:=.type "list", data:=.seq its.toArray n } = { cls:=.type "list", data:=.seq (its.set j u).toArray n }:=by
  simp [Obj.mapSeq]
theorem Inv.lst {pins : List (Addr × Obj)} {σ : St} {H : Hp} {s : Shared} {p : Addr} {xs : List V} (I : Inv X pins σ H s) (h : H p = some (.lst xs)) :
    ∃ (its : List Value) (n : Nat), Ym xs its /\ s.heap.get? p = some { cls:=.type "list", data:=.seq its.toArray n } /\ xs.length <= sizeLine:=by
  obtain ⟨z, its, n, r, e⟩:=I.hok p _ h
  exact ⟨its, n, r, e, z⟩
theorem Inv.lstUpd {pins : List (Addr × Obj)} {σ : St} {H : Hp} {s : Shared} {p : Addr} {xs ys : List V} {its its' : List Value} {n n' : Nat} {f : Obj -> Obj} (I : Inv X pins σ H s) (h : H p = some (.lst xs))
    (ho : s.heap.get? p = some { cls:=.type "list", data:=.seq its.toArray n }) (hf : f { cls:=.type "list", data:=.seq its.toArray n } = { cls:=.type "list", data:=.seq its'.toArray n' }) (r : Ym ys its') (hz : ys.length <= sizeLine) (t : Nat) :
    Inv X pins σ (upd H p (.lst ys)) { s with heap:=s.heap.update p f, toks:=t }:=by
  have e : (s.heap.update p f).get? p = some { cls:=.type "list", data:=.seq its'.toArray n' }:=by
    rw [Heap.get?_update_self f ho (by rw [hf] <;> rfl), hf]
  refine I.write (x:=p) (e:=p) (by rw [h]; trivial) (.inl rfl) (λb u hb q=>(Heap.get?_update_other _ _ (Ne.symm hb)).trans q) ⟨_, e⟩ ?_
  exact ⟨hz, its', n', r, e⟩
noncomputable def Hu : V -> V -> V -> Hp -> (Hp -> Prop) -> Prop:=λo i v H Q=>∃ p xs k j, o = .ref p /\ i = .int k /\ H p = some (.lst xs) /\ ixN xs.length k = some j /\ Q (upd H p (.lst (xs.set j v)))
theorem Qn : Mf X Hu:=by
  intro pins s σ H o i v ov iv u Q I ro ri rv h
  obtain ⟨p, xs, k, j, rfl, rfl, hp, hj, q⟩:=h
  cases ro
  obtain ⟨t, rfl⟩:=ri
  obtain ⟨its, n, r, ho, hz⟩:=I.lst hp
  obtain ⟨h1, h2, h3, h4⟩:=DE hj
  have hl:=r.length
  have hn:=KA
  have I' : Inv X pins σ (upd H p (.lst (xs.set j v))) { s with heap:=s.heap.update p (Obj.mapSeq (·.setIfInBounds j u)) }:=
    I.lstUpd hp ho (Ff its n j u) (r.set rv j) (by rw [List.length_set]; exact hz) s.toks
  by_cases h0 : 0 <= k
  . have hk : k.toNat = j:=by
      rw [seqIndex_of h0 h4] at h1
      exact Option.some.inj h1
    exact PySem.W.ki_setAt ho h0 (by lia) (by rw [List.size_toArray, ← hl]; exact h4) (by rw [hk]; exact ⟨_, I', q⟩)
  . have hk : (k + (its.toArray.size : Int)).toNat = j:=by
      rw [seqIndex_neg (by lia) h3] at h1
      rw [List.size_toArray, ← hl]
      exact Option.some.inj h1
    exact PySem.W.ki_setBack ho (by lia) (by rw [List.size_toArray, ← hl]; exact h3) (by lia) (by rw [hk]; exact ⟨_, I', q⟩)
theorem UV (lo hi : Option Int) (n : Nat) : (sliceBounds lo hi none n).1 = ((HT.sIx n 0 lo : Nat) : Int) /\ (sliceBounds lo hi none n).2.1 = ((HT.sIx n n hi : Nat) : Int) /\ (sliceBounds lo hi none n).2.2 = 1:=by
  refine ⟨?_, ?_, rfl⟩
  . cases lo with
    | none=>simp [sliceBounds, HT.sIx]
    | some i=>
      simp only [sliceBounds, HT.sIx, Option.getD_none, show (1 : Int) > 0 by decide, if_true]
      by_cases h : i < 0
      . simp only [h, if_true] <;> lia
      . simp only [h, if_false] <;> lia
  . cases hi with
    | none=>simp [sliceBounds, HT.sIx]
    | some i=>
      simp only [sliceBounds, HT.sIx, Option.getD_none, show (1 : Int) > 0 by decide, if_true]
      by_cases h : i < 0
      . simp only [h, if_true] <;> lia
      . simp only [h, if_false] <;> lia
theorem UB (its : List Value) (lo hi : Option Int) : slicePick its.toArray lo hi none = ((its.drop (HT.sIx its.length 0 lo)).take (HT.sIx its.length its.length hi - HT.sIx its.length 0 lo)).toArray:=by
  obtain ⟨h1, h2, h3⟩:=UV lo hi its.toArray.size
  unfold slicePick
  rw [h1, h2, h3]
  simp only [sliceRange_one, pick_run, List.size_toArray] <;> rfl
noncomputable def L5 (K : PySem.W.Frag) : V -> Option Int -> Option Int -> Hp -> VK -> Prop:=λx lo hi H Q=>∃ a xs, x = .ref a /\ SqL K H a xs /\ ∀ p, H p = none -> Q (.ref p) (upd H p (.lst (Iw xs lo hi)))
theorem Ip : SlR X (L5 X.K):=by
  intro pins s σ H x v vl vu lo hi sl Q I rx hs pl pu h
  obtain ⟨a, xs, rfl, hx, q⟩:=h
  cases rx
  obtain ⟨its, r, ht, hz⟩:=I.list hx
  have hlen:=r.length
  refine ⟨"list", _, slot_list_getitem.lookup, ht.isList.typeIs, ?_⟩
  refine wpAny_getItem_list_slice ht.isList hs pl pu .none (by simp) ?_ (by rw [List.size_toArray] <;> lia)
  rw [UB, ← hlen]
  refine ⟨.ref s.heap.objs.size, _, I.laid (t':=s.toks) (o:=.lst (Iw xs lo hi)) (λb ob q=>Heap.get?_push_of_some _ q) (Nat.le_refl _) ?_, rfl, q _ (I.hok.fresh (Nat.le_refl _))⟩
  exact ⟨Nat.le_trans (Ge xs lo hi) hz, _, 0, (r.drop (HT.sIx xs.length 0 lo)).take (HT.sIx xs.length xs.length hi - HT.sIx xs.length 0 lo), Heap.get?_push_size _ rfl⟩
noncomputable def JD : V -> Bool
  | .non=>true
  | .bl _=>true
  | .int _=>true
  | .str _=>true
  | _=>false
noncomputable def eqV : V -> V -> Bool
  | .non, .non=>true
  | .bl a, .bl b=>a == b
  | .bl a, .int b=>(if a then 1 else 0) == b
  | .int a, .bl b=>a == (if b then 1 else 0)
  | .int a, .int b=>a == b
  | .str a, .str b=>a == b
  | _, _=>false
theorem LP {A : Around} {s : Shared} {y x : V} {u v : Value} (ry : Yi y u) (rx : Yi x v) (fy : JD y = true) (fx : JD x = true) : SeqAt.EqAt A s u v (eqV y x):=by
  cases y with
  | non=>
    cases ry
    cases x with
    | non=>cases rx; exact SeqAt.EqAt.same _
    | bl b=>cases rx; exact SeqAt.EqAt.none_bool b
    | int b=>obtain ⟨t, rfl⟩:=rx; exact SeqAt.EqAt.none_int b t
    | str b=>obtain ⟨t, rfl⟩:=rx; exact SeqAt.EqAt.none_str b t
    | _=>exact absurd (show false = true from fx) Bool.false_ne_true
  | bl a=>
    cases ry
    cases x with
    | non=>cases rx; exact SeqAt.EqAt.bool_none a
    | bl b=>cases rx; exact SeqAt.EqAt.bool_bool a b
    | int b=>obtain ⟨t, rfl⟩:=rx; exact SeqAt.EqAt.bool_int a b t
    | str b=>obtain ⟨t, rfl⟩:=rx; exact SeqAt.EqAt.bool_str a b t
    | _=>exact absurd (show false = true from fx) Bool.false_ne_true
  | int a=>
    obtain ⟨t', rfl⟩:=ry
    cases x with
    | non=>cases rx; exact SeqAt.EqAt.int_none a t'
    | bl b=>cases rx; exact SeqAt.EqAt.int_bool a t' b
    | int b=>obtain ⟨t, rfl⟩:=rx; exact SeqAt.EqAt.int_int a t' b t
    | str b=>obtain ⟨t, rfl⟩:=rx; exact SeqAt.EqAt.int_str a t' b t
    | _=>exact absurd (show false = true from fx) Bool.false_ne_true
  | str a=>
    obtain ⟨t', rfl⟩:=ry
    cases x with
    | non=>cases rx; exact SeqAt.EqAt.str_none a t'
    | bl b=>cases rx; exact SeqAt.EqAt.str_bool a t' b
    | int b=>obtain ⟨t, rfl⟩:=rx; exact SeqAt.EqAt.str_int a t' b t
    | str b=>obtain ⟨t, rfl⟩:=rx; exact SeqAt.EqAt.str_str a t' b t
    | _=>exact absurd (show false = true from fx) Bool.false_ne_true
  | _=>exact absurd (show false = true from fy) Bool.false_ne_true
noncomputable def eqU (x : V) (u : Value) : Bool:=match u with
  | .none=>eqV .non x
  | .bool b=>eqV (.bl b) x
  | .int i _=>eqV (.int i) x
  | .str z _=>eqV (.str z) x
  | _=>false
theorem D0 {x y : V} {u : Value} (r : Yi y u) (f : JD y = true) : eqU x u = eqV y x:=by
  cases y with
  | non=>cases r; rfl
  | bl b=>cases r; rfl
  | int i=>obtain ⟨t, rfl⟩:=r; rfl
  | str z=>obtain ⟨t, rfl⟩:=r; rfl
  | _=>exact absurd (show false = true from f) Bool.false_ne_true
theorem KQ {x : V} : ∀ {xs : List V} {us : List Value}, Ym xs us -> xs.all JD = true -> us.any (eqU x) = xs.any λy=>eqV y x
  | _, _, .nil, _=>rfl
  | y :: xs, u :: us, .cons r t, f=>by
    rw [List.all_cons, Bool.and_eq_true] at f
    rw [List.any_cons, List.any_cons, D0 r f.1, KQ t f.2]
theorem JO {A : Around} {s : Shared} {x : V} {v : Value} (rx : Yi x v) (fx : JD x = true) : ∀ {xs : List V} {us : List Value}, Ym xs us -> xs.all JD = true -> ∀ u ∈ us, SeqAt.EqAt A s u v (eqU x u)
  | _, _, .nil, _=>λu hu=>by cases hu
  | y :: xs, u :: us, .cons r t, f=>λu' hu=>by
    rw [List.all_cons, Bool.and_eq_true] at f
    rcases List.mem_cons.mp hu with rfl | hu
    . rw [D0 r f.1]; exact LP r rx f.1 fx
    . exact JO rx fx t f.2 u' hu
noncomputable def inV (x : V) (xs : List V) : Bool:=xs.any λy=>eqV y x
noncomputable def rIn (K : PySem.W.Frag) (neg : Bool) : R2:=λx y H Q=>∃ p xs, y = .ref p /\ (SqL K H p xs ∨ SqT K H p xs) /\ JD x = true /\ xs.all JD = true /\ Q (.bl (if neg then !inV x xs else inV x xs)) H
theorem Cy : OpR X (compareOp .In) (rIn X.K false):=by
  intro pins s σ H x y v u Q I rx ry h
  obtain ⟨p, xs, rfl, hq, fx, fs, q⟩:=h
  cases ry
  rcases hq with hq | hq
  . obtain ⟨its, r, pl, hz⟩ := I.list hq
    refine SeqAt.in_listAt (eqU x) pl.isList (λw hw=>JO rx fx r fs w (by simpa using hw)) ⟨.bl _, H, I, rfl, ?_⟩
    rw [show its.toArray.any (eqU x) = its.any (eqU x) by simp, KQ r fs]
    exact q
  . obtain ⟨its, r, pl, hz⟩ := I.tuple hq
    refine SeqAt.in_tupleAt (eqU x) pl (λw hw=>JO rx fx r fs w (by simpa using hw)) ⟨.bl _, H, I, rfl, ?_⟩
    rw [show its.toArray.any (eqU x) = its.any (eqU x) by simp, KQ r fs]
    exact q
theorem U9 : Jc X (.builtin "len") (λxs H Q=>∃ p ys, xs = [.ref p] /\ (SqL X.K H p ys ∨ SqT X.K H p ys) /\ Q (.int ys.length) H):=by
  intro pins s σ H xs us Q I r h
  obtain ⟨p, ys, rfl, hq, q⟩:=h
  obtain ⟨u, rfl, rx⟩:=CH r
  cases rx
  have hn:=KA
  rcases hq with hq | hq
  . obtain ⟨its, r', pl, hz⟩ := I.list hq
    have hlen:=r'.length
    exact Calls.call_len_list pl.isList (by simp only [List.size_toArray] <;> lia) ⟨.int ys.length, H, I.tok _, ⟨s.toks + 1, by rw [List.size_toArray, hlen]⟩, q⟩
  . obtain ⟨its, r', pl, hz⟩ := I.tuple hq
    have hlen:=r'.length
    exact len_tuple pl (by simp only [List.size_toArray] <;> lia) ⟨.int ys.length, H, I.tok _, ⟨s.toks + 1, by rw [List.size_toArray, hlen]⟩, q⟩
theorem Kv : Jc X (.type "list") (λxs H Q=>∃ p ys, xs = [.ref p] /\ (SqL X.K H p ys ∨ SqT X.K H p ys) /\ ∀ l, H l = none -> Q (.ref l) (upd H l (.lst ys))):=by
  intro pins s σ H xs us Q I r h
  obtain ⟨p, ys, rfl, hq, q⟩:=h
  obtain ⟨u, rfl, rx⟩:=CH r
  cases rx
  have fin : ∀ (its : List Value), Ym ys its -> ys.length <= sizeLine -> ∀ (h' : Heap) (c' : Nat), (∀ b o', s.heap.get? b = some o' -> h'.get? b = some o') ->
      h'.get? s.heap.objs.size = some { cls:=.type "list", dict:=none, data:=.seq its.toArray c', slots:=#[] } -> EP X pins σ Q (.ref s.heap.objs.size) { s with heap:=h' }:=λits r' hz h' c' kp e=>
    ⟨.ref s.heap.objs.size, _, I.laid (t':=s.toks) kp (Nat.le_refl _) (show YJ X.prog X.w _ h' _ (.lst ys) from ⟨hz, its, c', r', e⟩), rfl, q _ (I.hok.fresh (Nat.le_refl _))⟩
  rcases hq with hq | hq
  . obtain ⟨its, r', pl, hz⟩ := I.list hq
    have hlen:=r'.length
    obtain ⟨o, ho, hc, n, hd⟩:=pl.isList
    exact call_list_seq p (.inl rfl) ho hc hd (λh' c' kp e=>fin its r' hz h' c' kp e) (by simp only [List.size_toArray] <;> lia)
  . obtain ⟨its, r', pl, hz⟩ := I.tuple hq
    have hlen:=r'.length
    obtain ⟨o, ho, hc, n, hd⟩:=pl
    exact call_list_seq p (.inr rfl) ho hc hd (λh' c' kp e=>fin its r' hz h' c' kp e) (by simp only [List.size_toArray] <;> lia)
noncomputable def tyV (K : PySem.W.Frag) (T : String) (x : V) (H : Hp) : Prop:=match x with
  | .str _=>T = "str"
  | .int _=>T = "int"
  | .ref p=>(T = "list" /\ ∃ xs, SqL K H p xs) ∨ (T = "tuple" /\ ∃ o, K.lookup p = some o /\ o.cls = .type "tuple" /\ o.dict = none) ∨
      (T = "dict" /\ ((∃ kvs, H p = some (.dK kvs)) ∨ ∃ kvs, H p = some (.dT kvs))) ∨ (T = "set" /\ ∃ S n, H p = some (.set S n))
  | _=>False
theorem Lf {pins : List (Addr × Obj)} {σ : St} {H : Hp} {s : Shared} {T : String} {x : V} {v : Value} (I : Inv X pins σ H s) (r : Yi x v) (ty : tyV X.K T x H) :
    s.TypeIs v T /\ ∀ a, v = .ref a -> ∃ ob, s.heap.get? a = some ob /\ ob.dict = none:=by
  cases x with
  | str z=>
    obtain ⟨t, rfl⟩:=r
    cases (show T = "str" from ty)
    exact ⟨typeIs_str s z t, λ_ e=>nomatch e⟩
  | int i=>
    obtain ⟨t, rfl⟩:=r
    cases (show T = "int" from ty)
    exact ⟨typeIs_int s i t, λ_ e=>nomatch e⟩
  | ref p=>
    cases r
    rcases ty with ⟨rfl, xs, hq⟩ | ⟨rfl, o, hk, hc, hd⟩ | ⟨rfl, hk⟩ | ⟨rfl, S, n, hk⟩
    . obtain ⟨its, _, pl, _⟩ := I.list hq
      refine ⟨pl.isList.typeIs, λa e=>?_⟩
      cases e
      obtain ⟨o, n, e, c, hd, _⟩:=pl
      exact ⟨o, e, hd⟩
    . refine ⟨⟨o, I.kIn p o hk, hc⟩, λa e => ?_⟩
      cases e
      exact ⟨o, I.kIn _ o hk, hd⟩
    . have z : ∃ o, s.heap.get? p = some o /\ o.ExactDict:=by
        rcases hk with ⟨kvs, hk⟩ | ⟨kvs, hk⟩
        . obtain ⟨_, _, _, _, o, _, _, e, ex, _⟩ := I.hok p _ hk
          exact ⟨o, e, ex⟩
        . obtain ⟨_, _, _, _, o, _, _, e, ex, _⟩ := I.hok p _ hk
          exact ⟨o, e, ex⟩
      obtain ⟨o, e, ex⟩:=z
      refine ⟨⟨o, e, ex.1⟩, λa e2=>?_⟩
      cases e2
      exact ⟨o, e, ex.2.1⟩
    . obtain ⟨o, _, _, _, e, ex, _⟩ := I.hok p _ hk
      refine ⟨⟨o, e, ex.1⟩, λa e2=>?_⟩
      cases e2
      exact ⟨o, e, ex.2.1⟩
  | _=>exact False.elim ty
noncomputable def tBM (K : PySem.W.Frag) (T : String) (r : V -> List V -> Hp -> VK -> Prop) (to : TE) (t : TA) : TE:=λσ H Q=>to σ H λx H1=>tyV K T x H1 /\ t σ H1 λxs H2=>r x xs H2 Q
variable {o e : Expr} {es : List Expr} {to : TE} {t : TA} {name : Str} {apos cpos : Pos} {T id : String} {r : V -> List V -> Hp -> VK -> Prop}
theorem Z9 (pa : PlainAttrs T) (slot : Slot T name id) (hty : typeOf (.builtin id) = pure (.type "method_descriptor")) (hm : MtR X id r) (ho : PE X o to) (ha : PA X (e :: es) t)
    (hbase : autoParam (attributeBase o name X.env (eval o X.env) = eval o X.env) L2.Zau5._auto_1)
    (hfew : autoParam (((backTo cpos (starEach (e :: es) X.env)).all (λx=>!x.1) && (backToKw cpos (keywordEach [] X.env)).all (λx=>x.1.isSome)
      && decide ((e :: es).length + ([] : List Keyword).length + (if ([] : List Keyword).isEmpty then 0 else 1) < 30)) = true) L2.Zau5._auto_1)
    (hline : autoParam ((apos.endLine == cpos.line) = true) L2.Zau5._auto_1) (hs : autoParam (starEach (e :: es) X.env = (false, eval e X.env) :: starEach es X.env) L2.Zau5._auto_1) (hplain : autoParam ((backTo cpos (starEach es X.env)).any (·.1) = false) L2.Zau5._auto_1) :
    PE X (.Call (.Attribute o name apos) (e :: es) [] cpos) (tBM X.K T r to t):=by
  intro pins s σ H Q I h
  refine wpAny_Call_method_late hbase hfew hline rfl (thn (ho pins s σ H _ I h) λv s1 r9=>?_)
  obtain ⟨x, H1, I1, r1, ty, q1⟩:=r9
  obtain ⟨h1, h2⟩:=Lf I1 r1 ty
  refine ⟨T, id, pa, slot, hty, h1, h2, ?_⟩
  have hA:=ha cpos pins s1 σ H1 _ I1 q1
  rw [hs] at hA ⊢
  refine Calls.callWith_builtin (by show (false || (backTo cpos (starEach es X.env)).any (·.1)) = false; rw [hplain] <;> rfl) (Calls.evalArgs_plain ?_)
  exact thn hA λus s2 r9=>by obtain ⟨vs, H2, I2, r2, q2⟩:=r9; exact hm pins s2 σ H2 x vs v us Q I2 r1 r2 q2
/- xs.append(e), list.index on a module's tuple .. are MtR facts of 06m -/
end
noncomputable def MtM (X : Cx) (id : String) (r : V -> List V -> Hp -> VK -> Prop) : Prop:=
  ∀ (pins : List (Addr × Obj)) (s : Shared) (σ : St) (H : Hp) (x : V) (xs : List V) (v : Value) (us : List Value) (Q : VK), Inv X pins σ H s -> Yi x v -> Ym xs us -> r x xs H Q ->
    wpAny (model X.prog X.w) X.A (call (.builtin id) (v :: us)) (EP X pins σ Q) X.xe s
theorem Ym.one : ∀ {x : V} {us : List Value}, Ym [x] us -> ∃ u, us = [u] /\ Yi x u:=fun {x us} h=>by
  cases h with
  | cons r t=>
    cases t
    exact ⟨_, rfl, r⟩
theorem Ym.two : ∀ {x y : V} {us : List Value}, Ym [x, y] us -> ∃ u v, us = [u, v] /\ Yi x u /\ Yi y v:=fun {x y us} h=>by
  cases h with
  | cons r t=>
    cases t with
    | cons q t=>
      cases t
      exact ⟨_, _, rfl, r, q⟩
theorem Ym.eraseIdx : ∀ {xs : List V} {us : List Value} (i : Nat), Ym xs us -> Ym (xs.eraseIdx i) (us.eraseIdx i)
  | _, _, _, .nil=>.nil
  | _, _, 0, .cons _ t=>t
  | _, _, i + 1, .cons r t=>.cons r (Ym.eraseIdx i t)
theorem Ym.reverse {xs : List V} {us : List Value} (h : Ym xs us) : Ym xs.reverse us.reverse:=by
  induction h with
  | nil=>exact .nil
  | cons r t ih=>rw [List.reverse_cons, List.reverse_cons]; exact Ym.append ih (.cons r .nil)
theorem Ym.rep {xs : List V} {us : List Value} (h : Ym xs us) : ∀ k : Nat, Ym (List.replicate k xs).flatten (List.replicate k us).flatten
  | 0=>.nil
  | k + 1=>by
    rw [List.replicate_succ, List.replicate_succ, List.flatten_cons, List.flatten_cons]
    exact Ym.append h (Ym.rep h k)
theorem Kd {α : Type} : ∀ (l : List α) (i : Nat), (l.eraseIdx i).length <= l.length
  | [], _=>Nat.le_refl _
  | _ :: _, 0=>Nat.le_succ _
  | _ :: r, i + 1=>Nat.succ_le_succ (Kd r i)
theorem U0 (its : List Value) : ∀ (k : Nat) (acc : List Value),
    List.foldl (λx1 x2=>x1 ++ x2) acc.toArray (List.replicate k its.toArray) = (acc ++ (List.replicate k its).flatten).toArray
  | 0, acc=>by simp
  | k + 1, acc=>by
    have e : acc.toArray ++ its.toArray = (acc ++ its).toArray:=by simp
    have e2 : (acc ++ its) ++ (List.replicate k its).flatten = acc ++ (List.replicate (k + 1) its).flatten:=by
      rw [List.replicate_succ, List.flatten_cons, List.append_assoc]
    rw [← e2, ← U0 its k (acc ++ its), ← e, List.replicate_succ, List.foldl_cons]
section
variable {X : Cx} {pins : List (Addr × Obj)} {σ : St} {H : Hp} {s : Shared} {l b : Addr} {xs ys zs : List V}
theorem Inv.lset {its its' : List Value} {n : Nat} {f : Array Value -> Array Value} {t' : Nat} (I : Inv X pins σ H s) (hH : H l = some (.lst xs))
    (e : s.heap.get? l = some { cls:=.type "list", data:=.seq its.toArray n }) (hf : f its.toArray = its'.toArray) (hv : Ym ys its') (hz : ys.length <= sizeLine) :
    Inv X pins σ (upd H l (.lst ys)) { s with heap:=s.heap.update l (Obj.mapSeq f), toks:=t' }:=by
  have q:=PySem.IsL.update e f
  rw [hf] at q
  refine I.write (x:=l) (e:=l) (by rw [hH]; exact trivial) (.inl rfl) (λb' u hb hu=>(Heap.get?_update_other s.heap (Obj.mapSeq f) (Ne.symm hb)).trans hu) ⟨_, q⟩ ?_
  exact ⟨hz, its', _, hv, q⟩
theorem Inv.lnew {its : List Value} {t' : Nat} (I : Inv X pins σ H s) (hv : Ym ys its) (hz : ys.length <= sizeLine) :
    Inv X pins σ (upd H s.heap.objs.size (.lst ys)) { s with heap:=s.heap.push { cls:=.type "list", data:=.seq its.toArray }, toks:=t' }:=
  I.laid (λ_ _ q=>Heap.get?_push_of_some _ q) (Nat.le_refl _) ⟨hz, its, 0, hv, Heap.get?_push_size _ rfl⟩
theorem Inv.fresh (I : Inv X pins σ H s) : H s.heap.objs.size = none:=I.hok.fresh (Nat.le_refl _)
theorem Inv.lstM (I : Inv X pins σ H s) (hH : H l = some (.lst xs)) : xs.length <= sizeLine /\ ∃ (its : List Value) (n : Nat), Ym xs its /\ xs.length = its.length /\ s.heap.get? l = some { cls:=.type "list", data:=.seq its.toArray n }:=by
  obtain ⟨z, its, n, r, e⟩:=I.hok l _ hH
  exact ⟨z, its, n, r, r.length, e⟩
theorem GD {n : Nat} (h : n <= sizeLine) : Builtin.List.listTooLong n = false:=by
  unfold Builtin.List.listTooLong
  exact decide_eq_false (by lia)
end
section
variable {X : Cx}
noncomputable def Uo : V -> List V -> Hp -> VK -> Prop:=λx vs H Q=>∃ l xs y, x = .ref l /\ vs = [y] /\ H l = some (.lst xs) /\ xs.length < sizeLine /\ Q .non (upd H l (.lst (xs ++ [y])))
theorem Yk : MtM X "list.append" Uo:=by
  intro pins s σ H x vs v us Q I rx rv h
  obtain ⟨l, xs, y, rfl, rfl, hH, hz, q⟩:=h
  cases rx
  obtain ⟨u, rfl, ru⟩:=rv.one
  obtain ⟨z, its, n, r, hl, e⟩:=I.lstM hH
  refine call_meets F.slot_list_append ⟨_, e, rfl⟩ F.entry_list_append (F.args_list_append_2 _ _) (PySem.list_append l its.toArray n u (by rw [List.size_toArray]; lia)) ⟨e, ?_⟩
  refine ⟨.non, _, I.lset (its':=its ++ [u]) hH e (by simp) (r.append (.cons ru .nil)) ?_, rfl, q⟩
  rw [List.length_append, List.length_singleton]
  lia
noncomputable def Cr : V -> List V -> Hp -> VK -> Prop:=λx vs H Q=>∃ l b xs zs, x = .ref l /\ vs = [.ref b] /\ H l = some (.lst xs) /\ H b = some (.lst zs) /\ xs.length + zs.length <= sizeLine /\ Q .non (upd H l (.lst (xs ++ zs)))
theorem DM : MtM X "list.extend" Cr:=by
  intro pins s σ H x vs v us Q I rx rv h
  obtain ⟨l, b, xs, zs, rfl, rfl, hH, hB, hz, q⟩:=h
  cases rx
  obtain ⟨u, rfl, ru⟩:=rv.one
  cases ru
  obtain ⟨z, its, n, r, hl, e⟩:=I.lstM hH
  obtain ⟨z2, its2, n2, r2, hl2, e2⟩:=I.lstM hB
  have hsz : its.toArray.size + its2.toArray.size <= sizeLine:=by rw [List.size_toArray, List.size_toArray]; lia
  have hlong : ¬ (!its.toArray.isEmpty && Builtin.List.listTooLong (its.toArray.size + its2.toArray.size)) = true:=by
    rw [GD hsz, Bool.and_false]
    exact Bool.false_ne_true
  refine call_meets F.slot_list_extend ⟨_, e, rfl⟩ F.entry_list_extend (F.args_list_extend_2 _ _)
    (AutoSeq1.list_extend_list_list_0 l its.toArray n b its2.toArray n2 hlong (by rw [List.size_toArray]; lia) (by lia)) ⟨e, e2, ?_⟩
  refine ⟨.non, _, I.lset (its':=its ++ its2) hH e (by simp) (r.append r2) ?_, rfl, q⟩
  rw [List.length_append]
  lia
noncomputable def GF : V -> List V -> Hp -> VK -> Prop:=λx vs H Q=>∃ l xs i k y, x = .ref l /\ vs = [.int i] /\ H l = some (.lst xs) /\ -(2 ^ 63) <= i /\ i < 2 ^ 63 /\ seqIndex? i xs.length = some k /\ xs[k]? = some y /\ Q y (upd H l (.lst (xs.eraseIdx k)))
theorem G1 : MtM X "list.pop" GF:=by
  intro pins s σ H x vs v us Q I rx rv h
  obtain ⟨l, xs, i, k, y, rfl, rfl, hH, h1, h2, hk, hy, q⟩:=h
  cases rx
  obtain ⟨u, rfl, ru⟩:=rv.one
  obtain ⟨t, rfl⟩:=ru
  obtain ⟨z, its, n, r, hl, e⟩:=I.lstM hH
  obtain ⟨w, hw, rw'⟩:=r.get hy
  refine call_meets F.slot_list_pop ⟨_, e, rfl⟩ F.entry_list_pop (F.args_list_pop_2 _ _)
    (MeetsSeq.list_pop_at l its.toArray n i t k w (fitsIndex_both h1 h2) (by rw [List.size_toArray, ← hl]; exact hk) (by rw [← Array.getElem?_toList]; exact hw) (by rw [List.size_toArray]; lia)) ⟨e, ?_⟩
  refine ⟨y, _, I.lset (its':=its.eraseIdx k) hH e ?_ (r.eraseIdx k) ?_, rw', q⟩
  . show its.toArray.eraseIdxIfInBounds k = (its.eraseIdx k).toArray
    rw [List.eraseIdxIfInBounds_toArray]
  . have := Kd xs k
    lia
noncomputable def Mk : R2:=λx y H Q=>∃ l b xs zs, x = .ref l /\ y = .ref b /\ H l = some (.lst xs) /\ H b = some (.lst zs) /\ xs.length + zs.length <= sizeLine /\ ∀ p, H p = none -> Q (.ref p) (upd H p (.lst (xs ++ zs)))
theorem Gr : OpR X (binaryOp .Add) Mk:=by
  intro pins s σ H x y v u Q I rx ry h
  obtain ⟨l, b, xs, zs, rfl, rfl, hH, hB, hz, q⟩:=h
  cases rx
  cases ry
  obtain ⟨z, its, n, r, hl, e⟩:=I.lstM hH
  obtain ⟨z2, its2, n2, r2, hl2, e2⟩:=I.lstM hB
  refine PySem.P.add_list e e2 ?_ (by rw [List.size_toArray, List.size_toArray]; lia)
  have ea : its.toArray ++ its2.toArray = (its ++ its2).toArray:=by simp
  rw [ea]
  exact ⟨.ref _, _, I.lnew (t':=s.toks) (r.append r2) (by rw [List.length_append]; lia), rfl, q _ I.fresh⟩
noncomputable def Mz : R2:=λx y H Q=>∃ l k xs, x = .ref l /\ y = .int k /\ H l = some (.lst xs) /\ -(2 ^ 63) <= k /\ k < 2 ^ 63 /\ xs.length * k.toNat <= sizeLine /\
  ∀ p, H p = none -> Q (.ref p) (upd H p (.lst (List.replicate k.toNat xs).flatten))
theorem Hk {α : Type} (xs : List α) (k : Nat) : (List.replicate k xs).flatten.length = k * xs.length:=by
  induction k with
  | zero=>simp
  | succ k ih=>rw [List.replicate_succ, List.flatten_cons, List.length_append, ih, Nat.succ_mul, Nat.add_comm]
theorem U7 : OpR X (binaryOp .Mult) Mz:=by
  intro pins s σ H x y v u Q I rx ry h
  obtain ⟨l, k, xs, rfl, rfl, hH, h1, h2, hz, q⟩:=h
  cases rx
  obtain ⟨t, rfl⟩:=ry
  obtain ⟨z, its, n, r, hl, e⟩:=I.lstM hH
  have hlen : its.toArray.size * k.toNat <= sizeLine:=by rw [List.size_toArray, ← hl]; exact hz
  have hcap : ¬ its.toArray.size * k.toNat > (2 ^ 63 - 1) / 8:=by
    have : (sizeLine : Nat) <= (2 ^ 63 - 1) / 8:=by decide
    lia
  have hfit : ¬ (!Builtin.List.listFitsIndex k) = true:=by
    rw [fitsIndex_both h1 h2]
    exact Bool.false_ne_true
  have hlong : ¬ Builtin.List.listTooLong (its.toArray.size * k.toNat) = true:=by
    rw [GD hlen]
    exact Bool.false_ne_true
  have hnew : List.foldl (λx1 x2=>x1 ++ x2) #[] (List.replicate (if its.toArray.isEmpty = true then 0 else k.toNat) its.toArray) = (List.replicate k.toNat its).flatten.toArray:=by
    have f0 : ∀ m : Nat, List.foldl (λx1 x2=>x1 ++ x2) #[] (List.replicate m its.toArray) = (List.replicate m its).flatten.toArray:=λm=>by
      have:=U0 its m []
      rw [List.nil_append] at this
      exact this
    rw [f0]
    cases its with
    | nil=>simp
    | cons a r'=>rw [if_neg (by simp)]
  refine wpAny_binaryOp_repeat_ref (T:="list") (U:="int") (by decide) ⟨_, e, rfl⟩ (λs'=>typeIs_int s' k t) noFill_list_mul F.fills_int_mul F.slot_int_rmul repeat_list F.slot_int_index.lookup
    (call_meets F.slot_int_rmul (typeIs_int s k t) F.entry_int_rmul (F.args_int_rmul_2 _ _) (int___rmul___int_list k t l its.toArray n)
      ⟨e, rfl, ⟨_, e, rfl⟩, call_meets F.slot_list_mul ⟨_, e, rfl⟩ F.entry_list_mul (F.args_list_mul_2 _ _) (AutoListH.list___mul___list_int_3 l its.toArray n k t hfit hcap hlong) ⟨e, ?_⟩⟩)
  rw [hnew]
  exact ⟨.ref _, _, I.lnew (t':=s.toks) (r.rep k.toNat) (by rw [Hk, Nat.mul_comm]; exact hz), rfl, q _ I.fresh⟩
end
section
variable {prog : Program} {w : World} {A : Around} {E : Value -> Shared -> Prop} {s : Shared}
end
section
variable {X : Cx}
end
end L2
namespace Att
open PySem PySem.W PySem.Calls PyProof.Rows
theorem JZ {P : Params} {h : Heap} : ∀ (ns : List Int) (vs : List Value), WellAll P h vs (ns.map WData.int) -> IntsAre vs ns:=by
  intro ns
  induction ns with
  | nil=>
    intro vs w
    rw [List.map_nil] at w
    cases w
    exact .nil
  | cons n ns ih=>
    intro vs w
    rw [List.map_cons] at w
    cases w with
    | cons a b=>
      cases a
      exact .cons _ _ (ih _ b)
theorem CA {l : OpenLaw} {n : Nat} (hn : l.most = some n) {P : Params} {h : Heap} {args : List WData} {vals : List Value}
    (hpre : l.row.toRowW.claim.pre args = true) (hwl : WellAll P h vals args) :
    ∃ a vs ns, vals = [Value.ref a] /\ args = [WData.list (ns.map WData.int)] /\ h.get? a = some { cls:=.type "list", data:=.seq vs.toArray } /\ IntsAre vs ns /\ ns.length <= n:=by
  have hsh : WShape.hasAll [] args [.list .int] = true:=(pre_splitW hpre).1
  have hc : l.pre.holds [] { args:=args } = true:=(pre_splitW hpre).2
  obtain ⟨d, r, rfl, h1, h2⟩:=hasAllW_cons hsh
  obtain rfl:=hasAllW_nil h2
  obtain ⟨xs, rfl, h3⟩:=hasW_list h1
  obtain ⟨ns, rfl⟩:=items_int h3
  have hlen : ns.length <= n:=by
    unfold OpenLaw.pre at hc
    have h4 : (WTm.not (.lt (.lit (.int (n : Int))) (.len (.arg 0)))).holds [] { args:=[.list (ns.map .int)] } = true:=by
      have h4:=(holds_andW hc).1
      rw [hn] at h4
      exact h4
    have h5:=condW_of h4 (w_not (w_lt w_lit (w_len_list (w_arg rfl))))
    rw [List.length_map] at h5
    refine Nat.le_of_not_lt λq=>?_
    have q' : (n : Int) < ((ns.length : Nat) : Int):=by lia
    first
      | (rw [decide_eq_true q'] at h5; exact absurd h5 (by decide))
      | (simp at h5; lia)
  cases hwl with
  | cons w1 w2=>
    cases w2
    cases w1 with
    | list ho hall=>exact ⟨_, _, ns, rfl, rfl, ho, JZ ns _ hall, hlen⟩
theorem Dw (l : OpenLaw) (args : List WData) : l.row.toRowW.claim.post args (.bool true) args = true:=
  postW_of (r:=l.row.toRowW) (X:=(true == true))
    (show WShape.has [] (.bool true) .bool = true by first | rfl | decide | simp [WShape.has, WShape.arms, WShape.armsAll])
    (show (WTm.eq .res (.lit (.bool true))).value [] { args:=args, res:=some (.bool true), after:=args } = some (.bool (true == true)) from w_eq_bool (w_res rfl) w_lit) rfl
theorem attach_call {l : OpenLaw} {n : Nat} {q : Program} {loose : List Str} {XP : (Str -> Option Value) -> Heap -> Prop} {YP : World -> Heap -> Prop} {d : DefRec}
    (hn : l.most = some n) (hdf : d.params.defaults = [])
    (call : ∀ (w : World) (s₀ s₁ : Shared) (mg mb : Str -> Option Value) (fa : Addr) (o : Obj) (pm cd doc : Value) (a : Addr) (vs : List Value) (ns : List Int),
      Ground q loose [] XP w s₀ mg mb s₁.heap -> YP w s₁.heap ->
      s₁.heap.get? fa = some o -> o.data = .func (docDef d.name d.params d.body d.scope pm cd doc) -> s₁.heap.CodeRec cd d.name -> mg d.name = some (.ref fa) ->
      s₁.heap.get? a = some { cls:=.type "list", data:=.seq vs.toArray } -> IntsAre vs ns -> ns.length <= n -> s₁.gens = #[] ->
      codeAny (model l.prog w) callerA (.call (.ref fa) ⟨[.ref a], []⟩) (λr s'=>r = .ok (.ret (.bool true)) /\ OldK s₁.heap s'.heap /\ s'.os = s₁.os /\ AllBare s'.gens) s₁) :
    WalkO q loose XP YP l.row.toRowW d [] (λf vs=>PySem.call f vs):=by
  intro w s₀ s₁ mg mb G Y fa o pm cd doc dV kV ho hd hcd hD hmg hg args vals as hpre hlay hrd hwl hlo
  obtain rfl : dV = .none:=Dflts.none hD hdf
  obtain rfl : kV = .none:=Dflts.noKw hD
  obtain ⟨a, vs, ns, rfl, rfl, hobj, hints, hlen⟩:=CA hn hpre hwl
  refine enter_call (codeAny_mono (call w s₀ s₁ mg mb fa o pm cd doc a vs ns G Y ho (fd_plain hd) hcd hmg hobj hints hlen hg) λr s' hq=>?_)
  obtain ⟨rfl, h2, h3, h4⟩:=hq
  exact ⟨.inl ⟨.bool true, .bool true, [], rfl, λ_=>rfl, .bool true, Dw l _, λ_=>⟨List.Pairwise.nil, λ_ hm=>(nomatch hm)⟩⟩, h2, h3, h4⟩
section
variable {prog : Program} {w : World} {A : Around} {E : Value -> Shared -> Prop} {s : Shared} {K : Frag}
end
end Att
namespace L2
open PySem PySem.Spec PyProof.Rows
theorem DV : ∀ {vs : List Value} {ns : List Int}, IntsAre vs ns -> Ym (ns.map V.int) vs:=λp=>by
  induction p with
  | nil=>exact .nil
  | cons n t _ ih=>exact .cons ⟨t, rfl⟩ ih
noncomputable def Mj (H : Hp) : Prop:=∀ b, H b = none ∨ ∃ o xs, H b = some (.frz o (.lst xs))
theorem Bl {P : Program} {w : World} {K : PySem.W.Frag} {mg mb : Str -> Option Value} {CX : CXT} {k : Nat} {fa a : Addr} {fd : FuncData} {x : Str} {sp : Sp} {s₁ : Shared} {vs : List Value} {ns : List Int}
    (KX : K.In s₁.heap) (hns : s₁.heap.Ns mainGlobals mg) (hb : s₁.heap.Ns builtinsNs mb) (hbb : ∀ x : Str, x ≠ "__name__" -> mb x = bootBuiltins x) (hlim : s₁.heap.NoLimit) (hg : s₁.gens = #[])
    (ha : s₁.heap.get? a = some { cls:=.type "list", data:=.seq vs.toArray }) (hi : IntsAre vs ns) (hl : ns.length <= sizeLine) (hr : Room k callerA)
    (F : ∀ base : Heap, K.In base -> base.Ns mainGlobals mg -> FnOk P w K mg base CX k fa fd [x] sp) (hbind : ∀ (s : Shared) (u : Value), BindsTo s fd ⟨[u], []⟩ [(x, u)])
    (hsp : ∀ H : Hp, Mj H -> SqL K H a (ns.map V.int) -> sp [.ref a] H (λv _=>v = .bl true) λ_ _ _=>False)
    (hCX : ∀ H e s', CX [] H s₁ (λ_ _ _=>False) e s' -> False) :
    codeAny (model P w) callerA (.call (.ref fa) ⟨[.ref a], []⟩) (λr s'=>r = .ok (.ret (.bool true)) /\ OldK s₁.heap s'.heap /\ s'.os = s₁.os /\ AllBare s'.gens) s₁:=by
  have rv:=DV hi
  have lenV:=hi.length
  -- from an abstract heap in which nothing but the script may be tracked
  have core : ∀ H : Hp, Mj H -> SqL K H a (ns.map V.int) -> HOk P w H s₁.heap -> (∀ b, H b ≠ none -> b = a) -> (H a ≠ none -> K.lookup a = none) ->
      codeAny (model P w) callerA (.call (.ref fa) ⟨[.ref a], []⟩) (λr s'=>r = .ok (.ret (.bool true)) /\ OldK s₁.heap s'.heap /\ s'.os = s₁.os /\ AllBare s'.gens) s₁:=by
    intro H hO hS hok hA hK
    have base_of : ∀ {b : Addr} {o : Obj}, s₁.heap.get? b = some o -> H b = none -> (Bh s₁.heap H).get? b = some o:=λe n=>G6 e n
    have noA : ∀ {b : Addr} {o : Obj} {es : Array DictEntry} {ep : Nat}, s₁.heap.get? b = some o -> o.data = .dict es ep -> H b = none:=fun {b o es ep} e d=>by
      cases q : H b with
      | none=>rfl
      | some u=>
        have e' : b = a:=hA b (by rw [q]; simp)
        subst e'
        rw [ha] at e; cases e
        have d' : Data.seq vs.toArray _ = Data.dict es ep:=d
        cases d'
    have nsK : ∀ {b : Addr} {m : Str -> Option Value}, s₁.heap.Ns b m -> (Bh s₁.heap H).Ns b m:=fun {b m} ⟨o, es, ep, e, d, r⟩=>⟨o, es, ep, base_of e (noA e d), d, r⟩
    have hKb : K.In (Bh s₁.heap H):=λb o e=>base_of (KX b o e) (by
      cases q : H b with
      | none=>rfl
      | some u=>
        have e' : b = a:=hA b (by rw [q]; simp)
        subst e'
        rw [hK (by rw [q]; simp)] at e; cases e)
    have hM : Mod K mg (Bh s₁.heap H):=⟨hKb, nsK hns, ⟨mb, nsK hb, hbb⟩, let ⟨mc, h1, h2⟩:=hlim; ⟨mc, nsK h1, h2⟩⟩
    have e0 : Env0 P w K mg (Bh s₁.heap H) callerA [] s₁ H:=⟨rfl, hM, λb o e=>CZ e, Nat.le_of_eq (Dy _ _), trivial, λb hb=>absurd (show b ∈ ([] : List Addr) from hb) (by simp), hok, .of_eq hg⟩
    refine codeAny_mono ((F _ hKb (nsK hns)).run callerA [] s₁ H ⟨[.ref a], []⟩ [.ref a] [.ref a] _ _ hr e0 (hbind s₁ (.ref a)) (.cons rfl .nil) (hsp H hO hS)) λr s' h=>?_
    cases r with
    | error e=>exact (hCX H e s' h).elim
    | ok fl=>
      cases fl with
      | next=>exact False.elim h
      | brk=>exact False.elim h
      | cont=>exact False.elim h
      | ret u=>
        obtain ⟨v, H', os, bare, un, hok', r', q⟩:=h
        have q' : v = .bl true:=q
        subst q'
        obtain rfl : u = Value.bool true:=r'
        refine ⟨rfl, OldK.of_keep λb o e=>?_, os, bare⟩
        cases q : H b with
        | none=>exact un.keep b o e q (by intro z; exact absurd (show b ∈ ([] : List Addr) from z) (by simp)) (by simp)
        | some u=>
          rcases hO b with z | ⟨ob, xs, z⟩
          . rw [q] at z; cases z
          . have z2 := un.frzs b ob _ z
            obtain ⟨e1, _⟩:=hok b _ z
            obtain ⟨e2, _⟩:=hok' b _ z2
            rw [e] at e1; cases e1
            exact e2
  cases hk : K.lookup a with
  | some o=>
    -- the script is one of the module's own objects
    have e:=KX a o hk
    rw [ha] at e
    cases e
    refine core (λ_=>none) (λ_=>.inl rfl) (.inr ⟨_, vs.toArray, _, hk, rfl, rfl, rfl, by rw [List.size_toArray, lenV]; exact hl, by simpa using rv⟩) (λb u z=>by have z' : (none : Option HO) = some u:=z; cases z') (λb z=>absurd rfl z) λz=>absurd rfl z
  | none=>
    refine core (λb=>if b = a then some (.frz { cls:=.type "list", data:=.seq vs.toArray } (.lst (ns.map V.int))) else none) (λb=>?_) (.inl (.inr ⟨{ cls:=.type "list", data:=.seq vs.toArray }, if_pos rfl⟩)) (λb u z=>?_) (λb z=>?_) λ_=>hk
    . by_cases hb : b = a
      . exact .inr ⟨_, _, if_pos hb⟩
      . exact .inl (if_neg hb)
    . by_cases hb : b = a
      . have z' := (if_pos hb).symm.trans z
        cases z'
        subst hb
        exact ⟨ha, by rw [List.length_map]; exact hl, vs, _, rv, ha⟩
      . have z' := (if_neg hb).symm.trans z
        cases z'
    . by_cases hb : b = a
      . exact hb
      . exact absurd (if_neg hb) z
theorem HP {l : PySem.W.OpenLaw} {n k : Nat} {q : Program} {loose : List Str} {XP : (Str -> Option Value) -> Heap -> Prop} {YP : World -> Heap -> Prop} {d : DefRec} {K : Params -> PySem.W.Frag} {CX : World -> CXT} {sp : World -> Sp} {x : Str}
    (hn : l.most = some n) (hn2 : n <= sizeLine) (hdf : d.params.defaults = []) (hr : Room k callerA)
    (hY : ∀ (w : World) (h : Heap), YP w h -> (K w.params).In h)
    (F : ∀ (w : World) (mg : Str -> Option Value) (fa : Addr) (h : Heap), (K w.params).In h -> h.Ns mainGlobals mg -> mg d.name = some (.ref fa) ->
      ∃ fd : FuncData, (∀ (s : Shared) (u : Value), BindsTo s fd ⟨[u], []⟩ [(x, u)]) /\
        ∀ base : Heap, (K w.params).In base -> base.Ns mainGlobals mg -> FnOk l.prog w (K w.params) mg base (CX w) k fa fd [x] (sp w))
    (hsp : ∀ (w : World) (H : Hp) (a : Addr) (ns : List Int), ns.length <= n -> Mj H -> SqL (K w.params) H a (ns.map V.int) -> sp w [.ref a] H (λv _=>v = .bl true) λ_ _ _=>False)
    (hCX : ∀ (w : World) (H : Hp) (s : Shared) (e : Value) (s' : Shared), CX w [] H s (λ_ _ _=>False) e s' -> False) :
    PySem.W.WalkO q loose XP YP l.row.toRowW d [] (λf vs=>PySem.call f vs):=by
  refine Att.attach_call hn hdf λw s₀ s₁ mg mb fa o pm cd doc a vs ns G Y ho hd hcd hmg hobj hints hlen hg=>?_
  have KX:=hY w _ Y
  obtain ⟨fd, hb, hF⟩:=F w mg fa _ KX G.T.g hmg
  exact Bl KX G.T.g G.T.b G.T.builtins G.T.nolimit hg hobj hints (Nat.le_trans hlen hn2) hr hF hb (λH hO hS=>hsp w H a ns hlen hO hS) λH e s'=>hCX w H s₁ e s'
noncomputable def XA (s : Stmt) : Arguments:=match s with
  | .FunctionDef _ a _ _ _ _ _ _ _ _=>a
  | _=>{ posonlyargs:=[], args:=[], vararg:=none, kwonlyargs:=[], kw_defaults:=[], kwarg:=none, defaults:=[] }
noncomputable def Xw (s : Stmt) : List Stmt:=match s with
  | .FunctionDef _ _ b _ _ _ _ _ _ _=>b
  | _=>[]
noncomputable def Xf (s : Stmt) : Scope:=match s with
  | .FunctionDef _ _ _ _ _ _ sc _ _ _=>sc
  | _=>{ kind:=.function, names:=[], isGenerator:=false, isCoroutine:=false }
noncomputable abbrev CX0 : CXT:=λ_ _ _ _ _ _=>False
noncomputable abbrev E0 : XK:=λ_ _ _=>False
theorem L9 {X : Cx} : VZ CX0 X E0:=λ_ _ _ _ _ _ _ h=>h.elim
structure Fun (K : PySem.W.Frag) (x qual : Str) (st : Stmt) (f : Addr) (fd : FuncData) : Prop where
  ex : ∃ (oc : Value) (od : Option Addr) (kV doc pm : Value) (an : Option Addr) (cdv ct : Value) (osl : Array (Option Value)),
    fd = PySem.W.fnOf x qual (XA st) (Xw st) (Xf st) .none kV doc pm an cdv ct /\ K.lookup f = some ⟨oc, od, .func fd, osl⟩ /\ PySem.W.codeIn K cdv qual = true
  kp : PySem.W.keepIn K (.ref f) = true
section
variable {P : Program} {w : World} {K : PySem.W.Frag} {mg : Str -> Option Value} {base : Heap}
theorem Fun.ok {x qual : Str} {st : Stmt} {f : Addr} {fd : FuncData} {N ps : List Str} {k : Nat} {sp : Sp} (F : Fun K x qual st f fd) (S : FnScope N ps (Xf st)) (len : ∀ vs H Q E, sp vs H Q E -> vs.length = ps.length)
    (hbody : ∀ (cdv : Value) (A : Around) (outer : List Env) (s : Shared) (H : Hp) (vs : List V) (Q : VK) (E : XK), Room k (A.deeper (envOfC qual (Xf st) s.heap.objs.size f cdv)) -> sp vs H Q E ->
      ∃ t, PSs (Fa CX0 P w K mg base N qual (Xf st) f cdv A outer s H E).nox (Xw st) t /\ t { nx:=λ_ H'=>Q .non H', rt:=Q } (VH N vs) H) : FnOk P w K mg base CX0 (k + 1) f fd ps sp:=by
  obtain ⟨oc, od, kV, doc, pm, an, cdv, ct, osl, rfl, lk, hcd⟩:=F.ex
  refine LG lk hcd S len λA outer s H vs Q E hr hsp=>?_
  obtain ⟨t, h, q⟩:=hbody cdv A outer s H vs Q E hr hsp
  exact ⟨t, h.nox, q⟩
theorem Fun.binds {x qual : Str} {st : Stmt} {f : Addr} {fd : FuncData} {ps : List Str} (F : Fun K x qual st f fd)
    (h : ∀ (kV doc pm : Value) (an : Option Addr) (cdv ct : Value) (us : List Value), us.length = ps.length -> bindArgs (PySem.W.fnOf x qual (XA st) (Xw st) (Xf st) .none kV doc pm an cdv ct) ⟨us, []⟩ = pure (ps.zip us)) : Kt K fd ps []:=by
  obtain ⟨oc, od, kV, doc, pm, an, cdv, ct, osl, rfl, lk, hcd⟩:=F.ex
  exact .all (h kV doc pm an cdv ct)
theorem Xq {x qual : Str} {st : Stmt} {f : Addr} {oc : Value} {od an : Option Addr} {osl : Array (Option Value)} {kV doc pm cdv ct : Value} (l : K.lookup f = some ⟨oc, od, .func (PySem.W.fnOf x qual (XA st) (Xw st) (Xf st) .none kV doc pm an cdv ct), osl⟩)
    (c : PySem.W.codeIn K cdv qual = true) (k : PySem.W.keepIn K (.ref f) = true) : Fun K x qual st f (PySem.W.fnOf x qual (XA st) (Xw st) (Xf st) .none kV doc pm an cdv ct):=⟨⟨oc, od, kV, doc, pm, an, cdv, ct, osl, rfl, l, c⟩, k⟩
end
theorem YI {A : Around} {k : Nat} (hr : Room k A) : A.units + 1 < cLine:=Nat.lt_of_le_of_lt (Nat.add_le_add_left (by decide : 1 <= 64) _) hr.units
section
variable {X : Cx}
theorem pv (i : Nat) {x : Str} {pos : Pos} (hN : autoParam (X.N[i]? = some x) L2.Zau5._auto_1) (hv : autoParam (Vis X.env.scope x) L2.Zau7._auto_1) (hd : autoParam ((x == ("__debug__" : Str)) = false) L2.Zau2._auto_1)
    (hcd : autoParam ((x == ("__classdict__" : Str)) = false) L2.Zau2._auto_1) : PE X (.Name x pos) (UY i):=IU hN hv hd hcd
end
noncomputable def Xz (H H' : Hp) : Prop:=∀ b o, H b = some o -> H' b = some o
theorem Xz.refl (H : Hp) : Xz H H:=λ_ _ h=>h
theorem Xz.trans {H H1 H2 : Hp} (a : Xz H H1) (b : Xz H1 H2) : Xz H H2:=λc o h=>b c o (a c o h)
theorem Xz.seq {K : PySem.W.Frag} {H H' : Hp} {a : Addr} {xs : List V} (e : Xz H H') (h : SqL K H a xs) : SqL K H' a xs:=by
  rcases h with (h | ⟨o, h⟩) | h
  . exact .inl (.inl (e _ _ h))
  . exact .inl (.inr ⟨o, e _ _ h⟩)
  . exact .inr h
section
variable {κ : Type} [DecidableEq κ]
noncomputable def Fi (kvs : List (κ × V)) (k : κ) : Option V:=(kvs.find? λkv=>decide (kv.1 = k)).map (·.2)
noncomputable def VM (kvs : List (κ × V)) (k : κ) (v : V) : List (κ × V):=
  if (kvs.any λkv=>decide (kv.1 = k)) = true then kvs.map (λkv=>if kv.1 = k then (kv.1, v) else kv) else kvs ++ [(k, v)]
theorem JQ {p : κ × V} {r : List (κ × V)} {k : κ} (e : p.1 = k) : Fi (p :: r) k = some p.2:=by simp [Fi, List.find?_cons, e]
theorem JM {p : κ × V} {r : List (κ × V)} {k : κ} (e : ¬ p.1 = k) : Fi (p :: r) k = Fi r k:=by simp [Fi, List.find?_cons, e]
theorem Gw (k : κ) : ∀ kvs : List (κ × V), (kvs.any λkv=>decide (kv.1 = k)) = (Fi kvs k).isSome
  | []=>rfl
  | p :: r=>by
    rw [List.any_cons]
    by_cases e : p.1 = k
    . simp only [JQ e, decide_eq_true e, Bool.true_or, Option.isSome_some]
    . rw [JM e, decide_eq_false e, Bool.false_or]; exact Gw k r
theorem VD (kvs : List (κ × V)) (k : κ) (v : V) : (VM kvs k v).length <= kvs.length + 1:=by
  unfold VM
  split
  . rw [List.length_map]; lia
  . rw [List.length_append, List.length_cons, List.length_nil]; lia
theorem Dk.isSome_eq {o : Option V} {u : Option Value} (r : Dk o u) : o.isSome = u.isSome:=by
  cases o with
  | none=>cases u with
    | none=>rfl
    | some _=>exact (show False from r).elim
  | some _=>cases u with
    | none=>exact (show False from r).elim
    | some _=>rfl
theorem KV.val {kvs : List (κ × V)} {vs : List (κ × Value)} (r : KV kvs vs) (k : κ) : Dk (Fi kvs k) (valueAt vs k):=by
  unfold KV at r
  induction r with
  | nil=>exact True.intro
  | @cons p q ps qs h t ih=>
    obtain ⟨h1, h2⟩:=h
    by_cases e : p.1 = k
    . have e' : q.1 = k := h1.symm.trans e
      have b : valueAt (q :: qs) k = some q.2:=by simp [valueAt, List.find?_cons, e']
      rw [JQ e, b]; exact h2
    . have e' : ¬ q.1 = k := λz => e (h1.trans z)
      have b : valueAt (q :: qs) k = valueAt qs k:=by simp [valueAt, List.find?_cons, e']
      rw [JM e, b]; exact ih
theorem KV.any {kvs : List (κ × V)} {vs : List (κ × Value)} (r : KV kvs vs) (k : κ) : (kvs.any λkv=>decide (kv.1 = k)) = vs.any λkv=>decide (kv.1 = k):=by
  unfold KV at r
  induction r with
  | nil=>rfl
  | cons h t ih=>rw [List.any_cons, List.any_cons, ih, h.1]
theorem KV.repl {kvs : List (κ × V)} {vs : List (κ × Value)} (r : KV kvs vs) (k : κ) {y : V} {u : Value} (ry : Yi y u) :
    KV (kvs.map λkv=>if kv.1 = k then (kv.1, y) else kv) (vs.map λkv=>if kv.1 = k then (kv.1, u) else kv):=by
  unfold KV at r ⊢
  induction r with
  | nil=>exact .nil
  | @cons p q ps qs h t ih=>
    rw [List.map_cons, List.map_cons]
    refine .cons ?_ ih
    obtain ⟨h1, h2⟩:=h
    by_cases e : p.1 = k
    . rw [if_pos e, if_pos (h1.symm.trans e)]; exact ⟨h1, ry⟩
    . rw [if_neg e, if_neg (λz=>e (h1.trans z))]; exact ⟨h1, h2⟩
theorem KV.put {kvs : List (κ × V)} {vs : List (κ × Value)} (r : KV kvs vs) (k : κ) {y : V} {u : Value} (ry : Yi y u) : KV (VM kvs k y) (stored vs k u):=by
  unfold VM stored
  rw [r.any k]
  by_cases e : (vs.any λkv=>decide (kv.1 = k)) = true
  . rw [if_pos e, if_pos e]; exact r.repl k ry
  . rw [if_neg e, if_neg e]; exact Paired.snoc r ⟨rfl, ry⟩
theorem KV.length {kvs : List (κ × V)} {vs : List (κ × Value)} (r : KV kvs vs) : kvs.length = vs.length:=Paired.length r
end
theorem Ba {P : Program} {w : World} {k : Key} {u : Value} (r : Yi (kV k) u) : (Yy P w).is k u = true:=by
  cases k with
  | inl i=>obtain ⟨t, e⟩:=(show ∃ t, u = Value.int i t from r); subst e; exact Gc P w i t
  | inr x=>obtain ⟨t, e⟩:=(show ∃ t, u = Value.str x t from r); subst e; exact K0 P w x t
theorem U3 {P : Program} {w : World} : ∀ {ks : List Key} {us : List Value}, Ym (ks.map kV) us -> ItemsAre (Yy P w) ks us
  | [], _, r=>by rw [List.map_nil] at r; cases r; exact .nil
  | k :: ks, _, r=>by
    rw [List.map_cons] at r
    cases r with
    | cons h t=>exact .cons (Ba h) (U3 t)
noncomputable abbrev KT (H : Hp) : List (List Key × V) -> List (List Key × Addr × Value) -> Prop:=Paired λp q=>p.1 = q.1 /\ H q.2.1 = some (.tup (p.1.map kV)) /\ Yi p.2 q.2.2
theorem KT.val {H : Hp} {kvs : List (List Key × V)} {xs : List (List Key × Addr × Value)} (r : KT H kvs xs) (k : List Key) : Dk (Fi kvs k) ((atKey xs k).map (·.2)):=by
  induction r with
  | nil=>exact True.intro
  | @cons p q ps qs h t ih=>
    obtain ⟨h1, _, h2⟩:=h
    by_cases e : p.1 = k
    . have e' : q.1 = k := h1.symm.trans e
      have b : atKey (q :: qs) k = some q.2:=by simp [atKey, List.find?_cons, e']
      rw [JQ e, b]; exact h2
    . have e' : ¬ q.1 = k := λz => e (h1.trans z)
      have b : atKey (q :: qs) k = atKey qs k:=by simp [atKey, List.find?_cons, e']
      rw [JM e, b]; exact ih
theorem KT.repl {H : Hp} {kvs : List (List Key × V)} {xs : List (List Key × Addr × Value)} (r : KT H kvs xs) (k : List Key) {y : V} {u : Value} (ry : Yi y u) :
    KT H (kvs.map λkv=>if kv.1 = k then (kv.1, y) else kv) (xs.map (putAt k u)):=by
  induction r with
  | nil=>exact .nil
  | @cons p q ps qs h t ih=>
    rw [List.map_cons, List.map_cons]
    refine .cons ?_ ih
    obtain ⟨h1, h2, h3⟩:=h
    unfold putAt
    by_cases e : p.1 = k
    . rw [if_pos e, if_pos (h1.symm.trans e)]; exact ⟨h1, h2, ry⟩
    . rw [if_neg e, if_neg (λz=>e (h1.trans z))]; exact ⟨h1, h2, h3⟩
theorem KT.put {H : Hp} {kvs : List (List Key × V)} {xs : List (List Key × Addr × Value)} (r : KT H kvs xs) (k : List Key) {b : Addr} {y : V} {u : Value} (hb : H b = some (.tup (k.map kV))) (ry : Yi y u) :
    KT H (VM kvs k y) (storedH xs k b u):=by
  have e : (kvs.any λkv=>decide (kv.1 = k)) = (atKey xs k).isSome:=by
    rw [Gw, (r.val k).isSome_eq, Option.isSome_map]
  unfold VM storedH
  rw [e]
  by_cases q : (atKey xs k).isSome = true
  . rw [if_pos q, if_pos q]; exact r.repl k ry
  . rw [if_neg q, if_neg q]; exact Paired.snoc r ⟨rfl, hb, ry⟩
theorem KT.keeps {H H' : Hp} {kvs : List (List Key × V)} {xs : List (List Key × Addr × Value)} (r : KT H kvs xs) (ht : ∀ b ys, H b = some (.tup ys) -> H' b = some (.tup ys)) : KT H' kvs xs:=
  Paired.mapP r λ_ _ z=>⟨z.1, ht _ _ z.2.1, z.2.2⟩
section
variable {P : Program} {w : World} {H : Hp} {h : Heap} {a : Addr}
theorem LD {u : HO} (ok : HOk P w H h) (e : Rd H a u) : YJ P w H h a u:=e.ok ok
theorem B3 {kvs : List (Key × V)} (ok : HOk P w H h) (e : Rd H a (.dK kvs)) : kvs.length <= sizeLine /\ (a == sysModules) = false /\ ∃ vs, KV kvs vs /\ h.DictOf (Yy P w) a vs:=
  show YJ P w H h a (.dK kvs) from LD ok e
theorem Mv {kvs : List (Key × V)} (ok : HOk P w H h) (e : H a = some (.dK kvs)) : kvs.length <= sizeLine /\ (a == sysModules) = false /\ ∃ vs, KV kvs vs /\ h.DictOf (Yy P w) a vs:=B3 ok (.inl e)
theorem Gx {ks : List Key} (ok : HOk P w H h) (e : H a = some (.tup (ks.map kV))) : (tupleKind (Yy P w)).is h ks a:=by
  obtain ⟨_, its, r, o, h1, h2, n, h3⟩:=(show YJ P w H h a (.tup (ks.map kV)) from ok a _ e)
  exact ⟨o, its.toArray, n, h1, h2, h3, by simpa using U3 r⟩
theorem BU {kvs : List (List Key × V)} (ok : HOk P w H h) (e : Rd H a (.dT kvs)) : kvs.length <= sizeLine /\ (a == sysModules) = false /\
    ∃ xs, KT H kvs xs /\ h.DictOfH (tupleKind (Yy P w)) a xs:=by
  obtain ⟨z, y, xs, r, o, es, ep, h1, h2, h3, h4, h5⟩:=(show YJ P w H h a (.dT kvs) from LD ok e)
  refine ⟨z, y, xs, r, o, es, ep, h1, h2, h3, h4, λx hx=>?_, h5⟩
  have all : ∀ {l : List (List Key × V)} {m : List (List Key × Addr × Value)}, KT H l m -> ∀ x ∈ m, (tupleKind (Yy P w)).is h x.1 x.2.1:=by
    intro l m q
    induction q with
    | nil=>intro x hx; exact nomatch hx
    | @cons p q ps qs hq t ih=>
      intro x hx
      rcases List.mem_cons.mp hx with e | hx
      . subst e
        exact Gx ok (by rw [← hq.1]; exact hq.2.1)
      . exact ih x hx
  exact all r x hx
theorem Mm {kvs : List (List Key × V)} (ok : HOk P w H h) (e : H a = some (.dT kvs)) : kvs.length <= sizeLine /\ (a == sysModules) = false /\
    ∃ xs, KT H kvs xs /\ h.DictOfH (tupleKind (Yy P w)) a xs:=BU ok (.inl e)
end
noncomputable def IV (H : Hp) (a : Addr) (y : V) (r : Option V) : Prop:=
  (∃ kvs k, Rd H a (.dK kvs) /\ y = kV k /\ r = Fi kvs k) ∨ ∃ kvs k b, Rd H a (.dT kvs) /\ y = .ref b /\ H b = some (.tup (k.map kV)) /\ r = Fi kvs k
noncomputable def MH (H : Hp) (a : Addr) (y v : V) (H' : Hp) : Prop:=
  (∃ kvs k, H a = some (.dK kvs) /\ y = kV k /\ kvs.length < sizeLine /\ H' = upd H a (.dK (VM kvs k v))) ∨
  ∃ kvs k b, H a = some (.dT kvs) /\ y = .ref b /\ H b = some (.tup (k.map kV)) /\ kvs.length < sizeLine /\ H' = upd H a (.dT (VM kvs k v))
section
variable {X : Cx} {pins : List (Addr × Obj)} {σ : St} {H : Hp} {s : Shared} {a : Addr} {y v : V} {u r : Value} {o : Option V} {A : Around} {E : Value -> Shared -> Prop}
theorem Inv.big (I : Inv X pins σ H s) : sysModules < s.heap.objs.size:=by
  have h : mainGlobals < s.heap.objs.size:=(I.mod.glob.keeps I.bk).lt
  exact Nat.lt_trans (by decide) h
theorem F8 {Q : Value -> Shared -> Prop} (hu : A.units + 1 < cLine) (I : Inv X pins σ H s) (g : IV H a y (some v)) (ry : Yi y u) (h : ∀ w' s', Inv X pins σ H s' -> Yi v w' -> Q w' s') :
    wpAny (model X.prog X.w) A (getItem (.ref a) u) Q E s:=by
  rcases g with ⟨kvs, k, e, ey, l⟩ | ⟨kvs, k, b, e, ey, eb, l⟩
  . subst ey
    obtain ⟨z, hd, vs, rel, dd⟩:=B3 I.hok e
    obtain ⟨w', hw, rw'⟩:=Dk.some_of (v:=v) (o:=valueAt vs k) (by rw [l]; exact rel.val k)
    exact wpAny_getItem_of (Ba ry) dd.mapOf hw (h w' _ (I.tok _) rw')
  . subst ey
    cases (show u = Value.ref b from ry)
    obtain ⟨z, hd, xs, rel, dd⟩:=BU I.hok e
    obtain ⟨w', hw, rw'⟩:=Dk.some_of (v:=v) (o:=(atKey xs k).map (·.2)) (by rw [l]; exact rel.val k)
    obtain ⟨p, hp, hp2⟩:=Option.map_eq_some_iff.mp hw
    refine wpAny_getItem_heap (tupleKind_room_in1 hu) (Gx I.hok eb) dd hp ?_
    rw [hp2]
    exact h w' _ (I.tok _) rw'
theorem HA {Q : Value -> Shared -> Prop} (hu : A.units + 1 < cLine) (I : Inv X pins σ H s) (g : IV H a y o) (ry : Yi y u) (h : ∀ s', Inv X pins σ H s' -> Q (.bool (!o.isSome)) s') :
    wpAny (model X.prog X.w) A (compareOp .NotIn u (.ref a)) Q E s:=by
  rcases g with ⟨kvs, k, e, ey, l⟩ | ⟨kvs, k, b, e, ey, eb, l⟩
  . subst ey
    obtain ⟨z, hd, vs, rel, dd⟩:=B3 I.hok e
    refine wpAny_notIn_of (Ba ry) hd dd.mapOf ?_
    rw [← (rel.val k).isSome_eq, ← l]
    exact h _ (I.tok _)
  . subst ey
    cases (show u = Value.ref b from ry)
    obtain ⟨z, hd, xs, rel, dd⟩:=BU I.hok e
    refine wpAny_notIn_heap (tupleKind_room_in1 hu) (Gx I.hok eb) hd dd ?_
    have q:=(rel.val k).isSome_eq
    rw [Option.isSome_map] at q
    rw [← q, ← l]
    exact h _ (I.tok _)
theorem Bf {h' : Heap} {t' : Nat} {ob : HO} (I : Inv X pins σ H s) (mu : Mut (H a)) (hs : Heap.SameBut a s.heap h') (he : ∃ q, h'.get? a = some q) (new : YJ X.prog X.w (upd H a ob) h' a ob) :
    Inv X pins σ (upd H a ob) { s with heap:=h', toks:=t' }:=
  I.write (x:=a) (e:=a) mu (.inl rfl) (λb q hb z=>(hs.2 b hb).trans z) he new
theorem IS {P : Program} {w : World} {H' : Hp} {h' : Heap} {kvs : List (Key × V)} {vs : List (Key × Value)} (z : kvs.length <= sizeLine) (hd : (a == sysModules) = false) (rel : KV kvs vs) (dd : h'.DictOf (Yy P w) a vs) :
    YJ P w H' h' a (.dK kvs):=⟨z, hd, vs, rel, dd⟩
theorem Da {H' : Hp} {Q : Unit -> Shared -> Prop} (hu : A.units + 1 < cLine) (I : Inv X pins σ H s) (g : MH H a y v H') (ry : Yi y u) (rv : Yi v r) (h : ∀ s', Inv X pins σ H' s' -> Q () s') :
    wpAny (model X.prog X.w) A (setItem (.ref a) u r) Q E s:=by
  rcases g with ⟨kvs, k, e, ey, l, eH⟩ | ⟨kvs, k, b, e, ey, eb, l, eH⟩
  . subst ey eH
    obtain ⟨z, hd, vs, rel, dd⟩:=Mv I.hok e
    have hz : vs.length <= sizeLine:=by rw [← rel.length]; exact z
    have hl : (VM kvs k v).length <= sizeLine:=by have:=VD kvs k v; lia
    refine wpAny_setItem_pairs (hsz:=hz) (Ba ry) dd λh' dd' hs=>h _ ?_
    have he : ∃ q, h'.get? a = some q:=let ⟨q, _, _, hq, _⟩:=dd'; ⟨q, hq⟩
    exact Bf I (by rw [e]; exact True.intro) hs he (IS hl hd (rel.put k rv) dd')
  . subst ey eH
    cases (show u = Value.ref b from ry)
    obtain ⟨z, hd, xs, rel, dd⟩:=Mm I.hok e
    have hz : xs.length <= sizeLine:=by rw [← Paired.length rel]; exact z
    have hl : (VM kvs k v).length <= sizeLine:=by have:=VD kvs k v; lia
    refine wpAny_setItem_heap (hsz:=hz) (tupleKind_room_in1 hu) (Gx I.hok eb) dd λh' dd' hs=>h _ ?_
    obtain ⟨q, es, ep, hq, h2, h3, h4, _, h5⟩:=dd'
    refine Bf I (by rw [e]; exact True.intro) hs ⟨q, hq⟩ ⟨hl, hd, _, (rel.put k eb rv).keeps λc ys ec=>?_, q, es, ep, hq, h2, h3, h4, h5⟩
    rw [Xv (Cj ec e (λz=>nomatch z))]
    exact ec
end
section
variable {X : Cx} {pins : List (Addr × Obj)} {σ : St} {H : Hp} {s : Shared} {a : Addr} {kvs : List (Key × V)} {k : Key} {u : Value} {A : Around} {E : Value -> Shared -> Prop}
end
noncomputable def ME (i : Expr) : Prop:=∀ ov iv, subscripted i false ov iv = operate [ov, iv] (getItem ov iv)
theorem HR {prog : Program} {w : World} {A : Around} {E : Value -> Shared -> Prop} {s : Shared} {env : Env} {value slice : Expr} {pos : Pos} {T id : String} {Q : Value -> Shared -> Prop}
    (hl : typeLookup (.type T) "__getitem__" = pure (some (.builtin id))) (hs : ME slice)
    (h : wpAny (model prog w) A (eval value env) (λo s₁=>wpAny (model prog w) A (eval slice env) (λi s₂=>s₂.TypeIs o T /\ wpAny (model prog w) A (getItem o i) Q E s₂) E s₁) E s) :
    wpAny (model prog w) A (eval (.Subscript value slice pos) env) Q E s:=by
  refine Subscript_ (wpAny_mono h (λo s₁ h₁=>wpAny_mono h₁ (λi s₂ h₂=>?_) λ_ _ x=>x) λ_ _ x=>x)
  obtain ⟨hT, h₂⟩:=h₂
  unfold subscriptTail
  refine wpAny_bind ?_
  rw [getitemInPython_of_ne hT.not_modules]
  refine wpAny_bind (wpAny_specialOf hT hl ?_)
  have fin : wpAny (model prog w) A (subscripted slice false o i) (λr s₃=>wpAny (model prog w) A (letTemporaryGo value o r >>= λ_=>pure r) Q E s₃) E s₂:=by
    rw [hs o i]
    exact wpAny_operating (wpAny_mono h₂ (λr s₃ h₃=>wpAny_bind (wpAny_letTemporaryGo (wpAny_pure h₃))) λ_ _ x=>x)
  first
    | exact wpAny_pure (wpAny_bind fin)
    | exact wpAny_bind (wpAny_pure (wpAny_bind fin))
    | exact wpAny_bind fin
theorem KO {X : Cx} {pins : List (Addr × Obj)} {σ : St} {H : Hp} {s : Shared} {a : Addr} {y : V} {o : Option V} (I : Inv X pins σ H s) (g : IV H a y o) : s.TypeIs (.ref a) "dict":=by
  rcases g with ⟨kvs, k, e, _, _⟩ | ⟨kvs, k, b, e, _, _, _⟩
  . obtain ⟨_, _, vs, _, dd⟩ := B3 I.hok e
    exact dd.typeIs
  . obtain ⟨_, _, xs, _, dd⟩ := BU I.hok e
    exact dd.typeIs
noncomputable def Lp (td ty : TE) : TE:=λσ H Q=>td σ H λx H1=>ty σ H1 λy H2=>∃ a v, x = .ref a /\ IV H2 a y (some v) /\ Q v H2
noncomputable def Cp (ty td : TE) : TE:=λσ H Q=>ty σ H λy H1=>td σ H1 λx H2=>∃ a o, x = .ref a /\ IV H2 a y o /\ Q (.bl (!o.isSome)) H2
noncomputable def LM (td ty tv : TE) : TS:=λD σ H=>tv σ H λv H1=>td σ H1 λx H2=>ty σ H2 λy H3=>∃ a H4, x = .ref a /\ MH H3 a y v H4 /\ D.nx σ H4
section
variable {X : Cx} {o i e value : Expr} {pos pos' tpos : Pos} {td ty tv : TE}
theorem KI (hu : X.A.units + 1 < cLine) (ho : PE X o td) (hi : PE X i ty) (hs : ME i) : PE X (.Subscript o i pos) (Lp td ty):=by
  intro pins s σ H Q I h
  refine HR PySem.F.slot_dict_getitem.lookup hs (thn (ho pins s σ H _ I h) λu s1 ⟨x, H1, I1, rx, q1⟩=>thn (hi pins s1 σ H1 _ I1 q1) λiv s2 r9=>?_)
  obtain ⟨y, H2, I2, ry, a, v, ex, g, q2⟩:=r9
  subst ex
  obtain rfl : u = Value.ref a:=rx
  exact ⟨KO I2 g, F8 hu I2 g ry λw' s3 I3 rw'=>⟨v, H2, I3, rw', q2⟩⟩
theorem DB (hu : X.A.units + 1 < cLine) (hi : PE X i ty) (ho : PE X o td) : PC X .NotIn i o (Cp ty td):=by
  intro pins s σ H Q I h
  refine thn (hi pins s σ H _ I h) λiv s1 ⟨y, H1, I1, ry, q1⟩=>thn (ho pins s1 σ H1 _ I1 q1) λu s2 r9=>?_
  obtain ⟨x, H2, I2, rx, a, ov, ex, g, q2⟩:=r9
  subst ex
  obtain rfl : u = Value.ref a:=rx
  exact HA hu I2 g ry λs3 I3=>⟨.bl (!ov.isSome), H2, I3, rfl, q2⟩
theorem E6 (hu : X.A.units + 1 < cLine) (ho : PE X o td) (hi : PE X i ty) (hv : PE X value tv) (hs : swapsWith value (some (.Subscript o i pos')) pos.line X.env = pure false) :
    PS X (.Assign [.Subscript o i pos'] value pos) (LM td ty tv):=by
  intro pins s σ H D I h
  refine wpAny_Assign_Subscript (thn (hv pins s σ H _ I h) λr s1 ⟨v, H1, I1, rv, q1⟩=>thn (ho pins s1 σ H1 _ I1 q1) λu s2 ⟨x, H2, I2, rx, q2⟩=>thn (hi pins s2 σ H2 _ I2 q2) λiv s3 r9=>?_) hs
  obtain ⟨y, H3, I3, ry, a, H4, ex, g, q3⟩:=r9
  subst ex
  obtain rfl : u = Value.ref a:=rx
  exact Da hu I3 g ry rv λs4 I4=>⟨σ, H4, I4, q3⟩
end
theorem Bz {P : Program} {w : World} {H : Hp} (h : Heap) (hb : sysModules < h.objs.size) : YJ P w H (h.push { cls:=.type "dict", data:=.dict #[] }) h.objs.size (.dK []):=
  ⟨Nat.zero_le _, beq_eq_false_iff_ne.mpr (Ne.symm (Nat.ne_of_lt hb)), [], .nil, Heap.DictOf.new h⟩
noncomputable def En : TE:=λ_ H Q=>∀ p, H p = none -> Q (.ref p) (upd H p (.dK []))
section
variable {X : Cx} {pos : Pos}
theorem BQ : PE X (.Dict [] [] pos) En:=λpins s σ H Q I h=>
  wpAny_Dict_empty ⟨.ref s.heap.objs.size, _, I.laid (a:=s.heap.objs.size) (o:=.dK []) (t':=s.toks) (λ_ _ q=>Heap.get?_push_of_some _ q) (Nat.le_refl _) (Bz s.heap I.big), rfl, h _ (I.hok.fresh (Nat.le_refl _))⟩
end
section
variable {X : Cx} {pins : List (Addr × Obj)} {σ : St} {H : Hp} {s : Shared} {a : Addr} {y d : V} {u r : Value} {o : Option V} {A : Around} {E : Value -> Shared -> Prop}
end
section
variable {X : Cx} {o e f : Expr} {apos cpos : Pos} {td ty tx : TE}
end
section
variable {X : Cx} {pins : List (Addr × Obj)} {σ : St} {H : Hp} {s : Shared} {a : Addr} {kvs : List (Key × V)} {A : Around} {E : Value -> Shared -> Prop}
end
section
variable {X : Cx} {pins : List (Addr × Obj)} {σ : St} {H : Hp} {s : Shared} {a : Addr} {y : V} {u : Value} {A : Around} {E : Value -> Shared -> Prop}
end
section
variable {X : Cx}
end
section
variable {κ : Type} [DecidableEq κ]
end
theorem F6 {env : Env} : ∀ (names : List (Str × NameKind)), (∀ x ∈ names, x.2 = NameKind.free -> ∃ c, env.cells.lookup x.1 = some c) ->
    ∀ cs : List (Str × Addr), (∀ x c, cs.lookup x = some c -> env.cells.lookup x = some c) ->
    ∃ cl : List (Str × Addr), (forIn names cs (λ(x : Str × NameKind) (r : List (Str × Addr))=>(if (x.2 == NameKind.free) = true then do let a ← cellOf env x.1; pure (ForInStep.yield ((x.1, a) :: r)) else pure (ForInStep.yield r) : Sem (ForInStep (List (Str × Addr)))))) = (pure cl : Sem (List (Str × Addr))) /\
      (∀ x c, cl.lookup x = some c -> env.cells.lookup x = some c) /\ (∀ x, ((x, NameKind.free) ∈ names ∨ ∃ c, cs.lookup x = some c) -> ∃ c, cl.lookup x = some c)
  | [], _, cs, hs=>⟨cs, by rw [List.forIn_nil], hs, λx h=>h.elim (λz=>nomatch z) id⟩
  | (n, k) :: r, hf, cs, hs=>by
    have hr : ∀ x ∈ r, x.2 = NameKind.free -> ∃ c, env.cells.lookup x.1 = some c:=λx hx=>hf x (List.mem_cons_of_mem _ hx)
    by_cases hk : k = NameKind.free
    . subst hk
      obtain ⟨a, ha⟩:=hf (n, NameKind.free) List.mem_cons_self rfl
      have hs' : ∀ x c, ((n, a) :: cs).lookup x = some c -> env.cells.lookup x = some c:=λx c h=>by
        rw [List.lookup_cons] at h
        by_cases hx : x = n
        . subst hx
          simp only [beq_self_eq_true] at h
          rw [← h]; exact ha
        . have : (x == n) = false := beq_eq_false_iff_ne.mpr hx
          rw [this] at h
          exact hs x c h
      obtain ⟨cl, e, h1, h2⟩:=F6 r hr ((n, a) :: cs) hs'
      refine ⟨cl, ?_, h1, λx h=>h2 x ?_⟩
      . rw [List.forIn_cons]
        have e1 : cellOf env n = pure a:=by unfold cellOf; rw [show env.cells.lookup n = some a from ha]
        simp only [beq_self_eq_true, if_true, e1]
        exact e
      . rcases h with h | ⟨c, h⟩
        . rcases List.mem_cons.mp h with h | h
          . have : x = n := congrArg Prod.fst h
            subst this
            exact .inr ⟨a, by rw [List.lookup_cons]; simp⟩
          . exact .inl h
        . by_cases hx : x = n
          . subst hx; exact .inr ⟨a, by rw [List.lookup_cons]; simp⟩
          . exact .inr ⟨c, by rw [List.lookup_cons, beq_eq_false_iff_ne.mpr hx]; exact h⟩
    . obtain ⟨cl, e, h1, h2⟩ := F6 r hr cs hs
      refine ⟨cl, ?_, h1, λx h=>h2 x ?_⟩
      . rw [List.forIn_cons]
        have hb : (k == NameKind.free) = false:=by simpa using hk
        simp only [hb, Bool.false_eq_true, if_false]
        exact e
      . rcases h with h | h
        . rcases List.mem_cons.mp h with h | h
          . exact absurd (congrArg Prod.snd h).symm hk
          . exact .inl h
        . exact .inr h
theorem Dh {scope : Scope} {env : Env} (hf : ∀ x ∈ scope.names, x.2 = NameKind.free -> ∃ c, env.cells.lookup x.1 = some c) :
    ∃ cl : List (Str × Addr), closureFor scope env = pure cl /\ (∀ x c, cl.lookup x = some c -> env.cells.lookup x = some c) /\ (∀ x, (x, NameKind.free) ∈ scope.names -> ∃ c, cl.lookup x = some c):=by
  obtain ⟨cl, e, h1, h2⟩:=F6 scope.names hf [] (λx c h=>by simp at h)
  refine ⟨cl, ?_, h1, λx h=>h2 x (.inl h)⟩
  unfold closureFor
  show ((forIn scope.names [] (λ(x : Str × NameKind) (r : List (Str × Addr))=>(if (x.2 == NameKind.free) = true then do let a ← cellOf env x.1; pure (ForInStep.yield ((x.1, a) :: r)) else pure (ForInStep.yield r) : Sem (ForInStep (List (Str × Addr)))))) >>= λs=>pure s) = pure cl
  rw [e]
  rfl
theorem QN {env : Env} : ∀ {names : List (Str × NameKind)} {x : Str} {k : NameKind}, (∀ y ∈ names, y.2 ≠ NameKind.cell) ->
    (names.map λ(n, k)=>if (k == NameKind.free && env.scope.kind == .function && env.kindOf n == some .cell) then (n, NameKind.cell) else (n, k)).lookup x = some k -> (k = .cell ∨ k = .free) -> (x, NameKind.free) ∈ names
  | [], _, _, _, h, _=>by simp at h
  | (n, kk) :: r, x, k, hc, h, hk=>by
    have ih:=@QN env r x k (λy hy=>hc y (List.mem_cons_of_mem _ hy))
    have hh:=hc (n, kk) List.mem_cons_self
    simp only [List.map_cons] at h
    by_cases hcond : (kk == NameKind.free && env.scope.kind == .function && env.kindOf n == some .cell) = true
    . rw [if_pos hcond, List.lookup_cons] at h
      have hfree : kk = NameKind.free:=by
        rw [Bool.and_eq_true, Bool.and_eq_true] at hcond
        simpa using hcond.1.1
      cases hx : x == n with
      | true=>
        have : x = n:=by simpa using hx
        subst this; subst hfree
        exact List.mem_cons_self
      | false=>rw [hx] at h; exact List.mem_cons_of_mem _ (ih h hk)
    . rw [if_neg hcond, List.lookup_cons] at h
      cases hx : x == n with
      | true=>
        rw [hx] at h
        have hkk : kk = k:=Option.some.inj h
        have : x = n:=by simpa using hx
        subst this; subst hkk
        rcases hk with z | z
        . exact absurd z hh
        . subst z; exact List.mem_cons_self
      | false=>rw [hx] at h; exact List.mem_cons_of_mem _ (ih h hk)
theorem Jr {env : Env} : ∀ {names : List (Str × NameKind)} {x : Str}, names.lookup x = some .free ->
    let l:=(names.map λ(n, k)=>if (k == NameKind.free && env.scope.kind == .function && env.kindOf n == some .cell) then (n, NameKind.cell) else (n, k))
    l.lookup x = some .cell ∨ l.lookup x = some .free
  | [], _, h=>by simp at h
  | (n, kk) :: r, x, h=>by
    have ih:=@Jr env r x
    simp only [List.map_cons]
    rw [List.lookup_cons] at h
    by_cases hcond : (kk == NameKind.free && env.scope.kind == .function && env.kindOf n == some .cell) = true
    . rw [if_pos hcond, List.lookup_cons]
      cases hx : x == n with
      | true=>exact .inl rfl
      | false=>rw [hx] at h; exact ih h
    . rw [if_neg hcond, List.lookup_cons]
      cases hx : x == n with
      | true=>rw [hx] at h; exact .inr h
      | false=>rw [hx] at h; exact ih h
noncomputable abbrev Cx.comp (X : Cx) (N : List Str) (scope : Scope) (cl : List (Str × Addr)) (C : Addr) (s : Shared) (H : Hp) (ex : List Addr) (E : Value -> Shared -> Prop) : Cx:=
  { X with N:=N, s₀:=s, H₀:=H, env:=compEnvC scope cl C X.env, outer:=X.stack, ex:=ex, fn:=λ_=>false, pn:=[], xe:=E }
noncomputable def PTs (X : Cx) (ifs : List Expr) (t : TT) : Prop:=
  ∀ (pins : List (Addr × Obj)) (s : Shared) (σ : St) (H : Hp) (Q : Bool -> Hp -> Prop), Inv X pins σ H s -> t σ H Q ->
    wpAny (model X.prog X.w) X.A (forIn ifs true λc r=>if r = true then do let ok ← isTrue c X.env (eval c X.env); pure (ForInStep.yield ok) else pure (ForInStep.yield r)) (TP X pins σ Q) X.xe s
noncomputable def UD : TT:=λ_ H Q=>Q true H
theorem IH {σ : St} {H : Hp} {A B : Hp -> Prop} (h : A H) : UD σ H λc H5=>if c = true then A H5 else B H5:=by
  show if true = true then A H else B H
  rw [if_pos rfl]
  exact h
theorem Za {X : Cx} : PTs X [] UD:=λ_ _ _ H _ I h=>wpAny_tests_nil ⟨H, I, h⟩
theorem UJ {X : Cx} {c : Expr} {t : TT} (h : PT X c t) : PTs X [c] t:=λpins s σ H Q I hw=>wpAny_tests_one (h pins s σ H Q I hw)
noncomputable def Uz (n : Nat) (g : TG) : Prop:=∀ x σ H Q, g x σ H Q -> g x σ H λσ2 H2=>Q σ2 H2 /\ σ2.length = σ.length /\ ∀ i, n <= i -> σ2[i]? = σ[i]?
theorem Zg {n i : Nat} (h : i < n) : Uz n (ZE i):=λx σ H Q q=>⟨q, by simp, λj hj=>by rw [List.getElem?_set_ne (by lia)]⟩
theorem VF {K : PySem.W.Frag} {n i j : Nat} (hi : i < n) (hj : j < n) : Uz n (Iv K 2 (Ja (ZE i) (Ja (ZE j) Lv))):=λx σ H Q q=>by
  obtain ⟨a, xs, e1, hq, hl, v, r, e2, w, r2, e3, e4, q⟩:=q
  exact ⟨a, xs, e1, hq, hl, v, r, e2, w, r2, e3, e4, q, by simp, λk hk=>by rw [List.getElem?_set_ne (by lia), List.getElem?_set_ne (by lia)]⟩
noncomputable def QQ (n : Nat) (caps : List (Nat × Str)) (σ : St) : St:=List.replicate n none ++ caps.map λp=>(σ[p.1]?).join
noncomputable def He (g : TG) (tt : TT) (te : TE) (σ : St) (Q : VK) (J : It) (W : Nat -> Nat -> List V -> Hp -> Prop) : Prop:=
  ∀ i m ys H2, W i m ys H2 -> ys.length <= sizeLine /\
    ((J.stop i H2 /\ ∀ p, H2 p = none -> Q (.ref p) (upd H2 p (.lst ys))) ∨
    (J.go i H2 /\ ∃ N : List V -> Hp -> Prop, (∀ ys' H', N ys' H' -> ∃ m', m' < m /\ W (i + 1) m' ys' H') /\ ∀ x H3, J.yld i H2 x H3 -> g x σ H3 λσ4 H4=>tt σ4 H4 λc H5=>
      if c = true then te σ4 H5 λv H6=>N (ys ++ [v]) H6 else N ys H5))
noncomputable def Ew (n : Nat) (caps : List (Nat × Str)) (g : TG) (tt : TT) (te : TE) (σ : St) (Q : VK) (J : It) (H1 : Hp) : Prop:=
  ∃ W : Nat -> Nat -> List V -> Hp -> Prop, (∃ m, W 0 m [] H1) /\ He g tt te (QQ n caps σ) Q J W
noncomputable def CJ (n : Nat) (caps : List (Nat × Str)) (wi : TI) (g : TG) (tt : TT) (te : TE) : TE:=λσ H Q=>wi σ H λJ H1=>Ew n caps g tt te σ Q J H1
noncomputable def Kl (sc scope : Scope) (N0 tns : List Str) (caps : List (Nat × Str)) : Bool:=
  scope.kind == .function && scope.names.all (λy=>!(y.2 == .cell)) && scope.names.all (λy=>!(y.2 == .local) || scope.names.lookup y.1 == some .local) &&
  scope.names.all (λy=>!(y.2 == .free) || sc.names.lookup y.1 == some .cell) && caps.all (λp=>N0[p.1]? == some p.2 && sc.names.lookup p.2 == some .cell && scope.names.lookup p.2 == some .free)
theorem G9 {α : Type} {p : α} {P : Prop} (h : p ∈ ([] : List α)) : P:=nomatch h
noncomputable def LV (M : Model) (A : Around) (elt tg : Expr) (ifs : List Expr) (acc : Value) (env : Env) (E : Value -> Shared -> Prop) (K : Shared -> Prop) (v : Value) (s : Shared) : Prop:=
  wpAny M A (assign tg env v) (λ_ s₂=>wpAny M A (forIn ifs true λc r=>if r = true then do let ok ← isTrue c env (eval c env); pure (ForInStep.yield ok) else pure (ForInStep.yield r)) (λok s₃=>
    if ok = true then wpAny M A (eval elt env) (λx s₄=>wpAny M A (call (.builtin "list.append") [acc, x]) (λ_ s₅=>K s₅) E s₄) E s₃ else K s₃) E s₂) E s
noncomputable def Mx (M : Model) (A : Around) (elt tg : Expr) (ifs : List Expr) (it acc : Value) (env : Env) (E : Value -> Shared -> Prop) (Rn K : Shared -> Prop) (s : Shared) : Prop:=
  wpAny M A (pyNext it) (λr s₁=>r = none /\ Rn s₁ ∨ ∃ v, r = some v /\ wpAny M A (letOwnedTupleGo tg it v) (λ_ s₁=>LV M A elt tg ifs acc env E K v s₁) E s₁) E s
section
variable {prog : Program} {w : World} {A : Around} {R : Result -> Shared -> Prop} {s : Shared}
theorem Kx {elt target iter : Expr} {ifs : List Expr} {scope : Scope} {pos : Pos} {it acc : Value} {env : Env} {E : Value -> Shared -> Prop} (I : Nat -> Shared -> Prop) (hE : (notedBy (model prog w) A env λe s'=>R (.error e) s') = E)
    (turn : ∀ n s, I n s -> Mx (model prog w) A elt target ifs it acc env E (λs=>R (.ok .next) s) (λs=>∃ m, m < n /\ I m s) s) (n : Nat) (h : I n s) :
    codeAny (model prog w) A (.compLoop (.ListComp elt [⟨target, iter, ifs, 0⟩] scope pos) 0 it acc env) R s:=by
  subst hE
  refine codeAny_loop rfl I (λn s hI=>?_) n h
  show wpAny _ A ((compTurn (.ListComp elt [⟨target, iter, ifs, 0⟩] scope pos) 0 it acc env).onRaise (λx=>do noteFrame x env; theTreesLotGoes x)) _ _ s
  refine wpAny_noted ?_
  rw [compTurn_list]
  refine wpAny_bind (wpAny_standAt (wpAny_bind (thn (turn n s hI) λr s₁ h₁=>?_)))
  rcases h₁ with ⟨rfl, h₁⟩ | ⟨v, rfl, h₁⟩
  . exact wpAny_pure h₁
  . refine wpAny_bind (thn h₁ λ_ s₁' h₁' => wpAny_bind (thn h₁' λ_ s₂ h₂ => wpAny_bind (thn h₂ λok s₃ h₃ => ?_)))
    cases ok with
    | false=>exact wpAny_pure ⟨rfl, h₃⟩
    | true=>exact wpAny_bind (wpAny_bind (thn h₃ λx s₄ h₄=>wpAny_bind (thn h₄ λ_ s₅ h₅=>wpAny_pure (wpAny_pure ⟨rfl, h₅⟩))))
end
noncomputable def lob (its : List Value) (k : Nat) : Obj:={ cls:=.type "list", data:=.seq (List.toArray its) k }
structure CIn (Y : Cx) (tn : Nat -> Heap -> Prop) (fp : List Addr) (D : Addr) (σ : St) (i : Nat) (H : Hp) (o : Obj) (s : Shared) : Prop where
  I : Inv Y [] σ H s
  t : tn i s.heap
  f : ∀ b ∈ fp, H b = none
  l : s.heap.get? D = some o
  n : H D = none
inductive CI (Y : Cx) (tn : Nat -> Heap -> Prop) (fp : List Addr) (D : Addr) (σ : St) (W : Nat -> Nat -> List V -> Hp -> Prop) (m : Nat) (s : Shared) : Prop
  | mk (i : Nat) (H : Hp) (ys : List V) (its : List Value) (k : Nat) (c : CIn Y tn fp D σ i H (lob its k) s) (r : Ym ys its) (w : W i m ys H)
structure CAt (Y : Cx) (fp : List Addr) (D : Addr) : Prop where
  calm : Y.calm = true
  pn : Y.pn = []
  ne : D ≠ Y.env.locals
  fs : D ∉ Y.fs
  sz : Y.s₀.heap.objs.size <= D
  cl : ∀ x c, Y.env.cells.lookup x = some c -> c ≠ D
  fpn : ∀ b ∈ fp, b ≠ D
  ok : ∀ b ∈ fp, ∀ H : Hp, H b = none -> KE Y [] H b
section
variable {Y : Cx} {tn : Nat -> Heap -> Prop} {fp : List Addr} {D it : Addr} {σ : St} {tg elt iter : Expr} {ifs : List Expr} {J : It} {g : TG} {tt : TT} {te : TE} {n i : Nat} {H : Hp} {s : Shared} {o : Obj} {Kn : Shared -> Prop}
theorem CAt.pins (c : CAt Y fp D) (hn : ∀ b ∈ fp, H b = none) : ∀ b ∈ fp, KE Y [(D, o)] H b:=λb hb=>
  have z:=c.ok b hb H (hn b hb)
  ⟨z.1, z.2.1, z.2.2.1, z.2.2.2.1, z.2.2.2.2.1, λp hp e=>by
    rw [c.pn] at hp
    cases List.mem_singleton.mp hp
    exact c.fpn b hb e.symm⟩
theorem GC (T : Turn Y.prog Y.w Y.K tg J fp it tn) {h5 : Heap} (t : tn i h5) (I : Inv Y ([(D, o)] ++ US fp h5) σ H s) : CIn Y tn fp D σ i H o s:=
  have p:=I.pin (D, o) (List.mem_append_right _ (.head _))
  have q : ∀ b ∈ fp, ∀ o', h5.get? b = some o' -> s.heap.get? b = some o' /\ H b = none:=λb hb o' e=>have z:=I.pin (b, o') (List.mem_append_right _ (.tail _ (Je hb e))); ⟨z.1, z.2.1⟩
  ⟨I.pins_of (pins':=[]) λ_ h=>G9 h, T.keep _ _ _ t λb hb o' e=>(q b hb o' e).1, λb hb=>(T.obj _ _ t b hb).elim λo' e=>(q b hb o' e.1).2, p.1, p.2.1⟩
theorem MU (T : Turn Y.prog Y.w Y.K tg J fp it tn) (a : CAt Y fp D) {its : List Value} {k : Nat} {v : Value} {E : Value -> Shared -> Prop} (c : CIn Y tn fp D σ i H (lob its k) s) (hz : its.length <= sizeLine)
    (hQ : ∀ k' s', CIn Y tn fp D σ i H (lob (its ++ [v]) k') s' -> Kn s') : wpAny (model Y.prog Y.w) Y.A (call (.builtin "list.append") [.ref D, v]) (λ_ s=>Kn s) E s:=by
  refine call_meets F.slot_list_append ⟨_, c.l, rfl⟩ F.entry_list_append (F.args_list_append_2 _ _) (PySem.list_append D (List.toArray its) k v hz) ⟨c.l, ?_⟩
  have q : ∃ k', PySem.IsL (s.heap.update D (Obj.mapSeq (·.push v))) D ((List.toArray its).push v) k':=⟨_, PySem.IsL.update c.l (·.push v)⟩
  rw [List.push_toArray] at q
  obtain ⟨k', q⟩:=q
  exact hQ k' _ ⟨c.I.turned (t':=s.toks) (h':=s.heap.update D (Obj.mapSeq (·.push v))) (it:=D) (λb o hb' e=>(Heap.get?_update_other s.heap _ (Ne.symm hb')).trans e) c.n a.ne (.inr a.sz) a.cl (λp hp=>by rw [a.pn] at hp; exact G9 hp),
    T.keep _ _ _ c.t λb hb o e=>(Heap.get?_update_other s.heap _ (Ne.symm (a.fpn b hb))).trans e, c.f, q, c.n⟩
theorem Bm {acc : Value} {pins : List (Addr × Obj)} {N : List V -> Hp -> Prop} {ys : List V} {x : V} {u : Value} (hg : PG Y tg g) (ht : PTs Y ifs tt) (he : PE Y elt te) (hG : Uz n g) (h0 : ∀ (j : Nat) v, σ[j]? = some (some v) -> n <= j)
    (I : Inv Y pins σ H s) (r : Yi x u) (st : g x σ H λσ4 H4=>tt σ4 H4 λc H5=>if c = true then te σ4 H5 λv H6=>N (ys ++ [v]) H6 else N ys H5)
    (hF : ∀ H7 s7, Inv Y pins σ H7 s7 -> N ys H7 -> Kn s7) (hT : ∀ H8 s8 y v, Inv Y pins σ H8 s8 -> Yi y v -> N (ys ++ [y]) H8 -> wpAny (model Y.prog Y.w) Y.A (call (.builtin "list.append") [acc, v]) (λ_ s=>Kn s) Y.xe s8) :
    LV (model Y.prog Y.w) Y.A elt tg ifs acc Y.env Y.xe Kn u s:=by
  refine thn (hg _ s _ H x u _ I r (hG _ _ _ _ st)) λ_ s6 r9=>?_
  obtain ⟨σ6, H6, I6, q6, l6, k6⟩:=r9
  have wk : ∀ (j : Nat) v, σ[j]? = some (some v) -> σ6[j]? = some (some v):=λj v e=>(k6 j (h0 j v e)).trans e
  refine thn (ht _ s6 σ6 H6 _ I6 q6) λc s7 r9=>?_
  obtain ⟨H7, I7, q7⟩:=r9
  cases c with
  | false=>exact hF _ _ (I7.weak l6.symm wk) q7
  | true=>exact thn (he _ s7 σ6 H7 _ I7 q7) λv8 s8 r9=>by obtain ⟨y8, H8, I8, r8, n8⟩:=r9; exact hT _ _ _ _ (I8.weak l6.symm wk) r8 n8
theorem FI {scope : Scope} {pos : Pos} {Q : V -> Hp -> Prop} {R : Result -> Shared -> Prop} (hE : (notedBy (model Y.prog Y.w) Y.A Y.env λe s'=>R (.error e) s') = Y.xe)
    (T : Turn Y.prog Y.w Y.K tg J fp it tn) (hG : Uz n g) (hg : PG Y tg g) (ht : PTs Y ifs tt) (he : PE Y elt te) (a : CAt Y fp D) (h0 : ∀ (j : Nat) v, σ[j]? = some (some v) -> n <= j)
    {W : Nat -> Nat -> List V -> Hp -> Prop} (turn : He g tt te σ Q J W)
    (hEnd : ∀ ys its k H3 s4, Inv Y [(D, lob its k)] σ H3 s4 -> Ym ys its -> ys.length <= sizeLine -> Q (.ref D) (upd H3 D (.lst ys)) -> R (.ok .next) s4) {m0 : Nat} (hi : CI Y tn fp D σ W m0 s) :
    codeAny (model Y.prog Y.w) Y.A (.compLoop (.ListComp elt [⟨tg, iter, ifs, 0⟩] scope pos) 0 (.ref it) (.ref D) Y.env) R s:=by
  refine Kx (CI Y tn fp D σ W) hE (λm s3 c=>?_) m0 hi
  cases c with
  | mk i H3 ys its k c rv w3=>
  have I3 : Inv Y [(D, lob its k)] σ H3 s3:=c.I.pins_of λp hp=>List.mem_singleton.mp hp ▸ ⟨c.l, c.n, a.ne, a.fs, λ_ z=>by cases z⟩
  have t:=turn i m ys H3 w3
  refine t.2.elim (λq=>?_) λq=>?_
  . exact thn (T.done Y rfl rfl rfl a.calm i _ s3 _ H3 Y.xe I3 (a.pins c.f) c.t q.1) λr s4 h=>.inl ⟨h.1, hEnd ys its k H3 s4 h.2 rv t.1 (q.2 D c.n)⟩
  . refine q.2.elim λNN h => ?_
    refine thn (T.item Y rfl rfl rfl a.calm i _ s3 _ H3 Y.xe I3 (a.pins c.f) c.t q.1) λr s4 h4=>.inr (h4.elim λu h4=>⟨u, h4.1, thn h4.2 λ_ s5 h5=>h5.elim λx h5=>h5.elim λH5 h5=>?_⟩)
    exact Bm hg ht he hG h0 (h5.1.pinned (a.pins h5.2.2.2.2) (T.obj _ _ h5.2.2.2.1)) h5.2.1 (h.2 x H5 h5.2.2.1)
      (λH7 s7 I7 q7=>(h.1 _ _ q7).elim λm' z=>⟨m', z.1, .mk (i + 1) H7 ys its k (GC T h5.2.2.2.1 I7) rv z.2⟩)
      λH8 s8 y v I8 r8 q8=>(h.1 _ _ q8).elim λm' z=>MU T a (GC T h5.2.2.2.1 I8) (rv.length ▸ t.1) λk' s' c'=>⟨m', z.1, .mk (i + 1) H8 (ys ++ [y]) (its ++ [v]) k' c' (rv.append (.cons r8 .nil)) z.2⟩
end
section
variable {X : Cx} {elt tg iter : Expr} {ifs : List Expr} {scope sc : Scope} {pos : Pos} {n : Nat} {tns : List Str} {caps : List (Nat × Str)} {wi : TI} {g : TG} {tt : TT} {te : TE}
structure CompEnd (X : Cx) (pins : List (Addr × Obj)) (σ : St) (H3 : Hp) (D C : Addr) (ys : List V) (s' : Shared) : Prop where
  inv : Inv X pins σ (upd H3 D (.lst ys)) s'
  fresh : H3 D = none
  fp : KE X pins (upd H3 D (.lst ys)) C
  ns : ∃ m, s'.heap.Ns C m
theorem Ea {pins : List (Addr × Obj)} {σ σ' : St} {H H3 : Hp} {s s4 : Shared} {D C : Addr} {fp : List Addr} {its : List Value} {k : Nat} {ys : List V} {Y : Cx} (I : Inv X pins σ H s) (hf : ∀ b ∈ fp, KE X pins H b) (hD : s.heap.objs.size <= D) (hDlt : D < C)
    (I4 : Inv Y [(D, lob its k)] σ' H3 s4) (hos : s4.os = s.os) (u : Un (frs X.stack) fp H H3 s.heap s4.heap) (hok : HOk X.prog X.w H3 s4.heap) (hC : Y.env.locals = C) (rv : Ym ys its) (hz : ys.length <= sizeLine) : CompEnd X pins σ H3 D C ys s4:=by
  subst hC
  have p:=I4.pin (D, lob its k) (List.mem_append_right _ (.head _))
  have hDn : H3 D = none:=p.2.1
  have up : ∀ {b : Addr} {o : HO}, H3 b = some o -> upd H3 D (.lst ys) b = some o:=λe=>(Xv (Yc e hDn)).trans e
  refine ⟨I.call' (ch:=fp) hos ⟨u.keep, u.slot, λb o e nn hx=>(Xv (Nat.ne_of_lt (Nat.lt_of_lt_of_le (Heap.lt_size e) hD))).trans (u.free b o e nn hx), u.there, λb xs e=>up (u.tups b xs e), λb o xs e=>up (u.frzs b o xs e), λb ps e=>(u.tbls b ps e).elim λmore z=>⟨more, up z⟩⟩ (λa o e=>?_) I4.bare λb hb=>have z:=hf b hb; ⟨z.2.2.2.1, z.2.1, z.2.2.2.2.1, z.2.2.2.2.2⟩, hDn, I.fpOk (Nat.le_trans hD (Nat.le_of_lt hDlt)) ((Xv (Nat.ne_of_gt hDlt)).trans I4.free), I4.loc.elim λm z=>⟨m, z.1⟩⟩
  by_cases ha : a = D
  . subst ha
    rw [Yv] at e; cases e
    exact ⟨hz, its, k, rv, p.1⟩
  . rw [Xv ha] at e
    exact (hok a o e).stay (λb u _ q=>q) (λb q=>up q) λb xs q=>up q
noncomputable def MZ (X : Cx) (elt tg iter : Expr) (ifs : List Expr) (scope : Scope) (pos : Pos) (it : Value) (cl : List (Str × Addr)) (RR : Value -> Addr -> Result -> Shared -> Prop) (E : Value -> Shared -> Prop) (s : Shared) : Prop:=
  wpAny (model X.prog X.w) X.A (newList []) (λacc s₃=>wpAny (model X.prog X.w) X.A (newFunctionEnv scope X.env.globals cl [] X.env.qual none .none (some X.env)) (λcenv s₄=>
      codeAny (model X.prog X.w) X.A (.compStart (.ListComp elt [⟨tg, iter, ifs, 0⟩] scope pos) 0 it acc { cenv with scope:=relabel scope X.env }) (RR acc cenv.locals) s₄) E s₃) E s
theorem Ks {σ : St} {i : Nat} {v : V} (e : (QQ n caps σ)[i]? = some (some v)) : n <= i /\ ∃ p, caps[i - n]? = some p /\ σ[p.1]? = some (some v):=by
  unfold QQ at e
  by_cases h : i < n
  . rw [List.getElem?_append_left (by simpa using h), List.getElem?_replicate, if_pos h] at e
    cases e
  . have hi := Nat.le_of_not_lt h
    rw [List.getElem?_append_right (by simpa using hi), List.length_replicate, List.getElem?_map] at e
    refine ⟨hi, ?_⟩
    cases hcp : caps[i - n]? with
    | none=>rw [hcp] at e; cases e
    | some p=>
      rw [hcp] at e
      exact ⟨p, rfl, Option.join_eq_some_iff.mp (Option.some.inj e)⟩
structure COk (X : Cx) (scope : Scope) (caps : List (Nat × Str)) : Prop where
  kind : scope.kind = .function
  cell : ∀ y ∈ scope.names, y.2 ≠ NameKind.cell
  loc : ∀ y ∈ scope.names, y.2 = .local -> scope.names.lookup y.1 = some .local
  free : ∀ y ∈ scope.names, y.2 = .free -> X.env.scope.names.lookup y.1 = some .cell
  caps : ∀ p ∈ caps, (X.N[p.1]? = some p.2 /\ X.env.scope.names.lookup p.2 = some .cell) /\ scope.names.lookup p.2 = some .free
theorem COk.of {N0 : List Str} (hsc : X.env.scope = sc) (hN0 : X.N = N0) (ok : Kl sc scope N0 tns caps = true) : COk X scope caps:=by
  subst hsc
  subst hN0
  unfold Kl at ok
  simp only [Bool.and_eq_true, List.all_eq_true, beq_iff_eq, Bool.or_eq_true, Bool.not_eq_true', beq_eq_false_iff_ne] at ok
  exact ⟨ok.1.1.1.1, ok.1.1.1.2, λy hy e=>(ok.1.1.2 y hy).resolve_left (absurd e), λy hy e=>(ok.1.2 y hy).resolve_left (absurd e), ok.2⟩
section
variable {pins : List (Addr × Obj)} {σ : St} {H : Hp} {s : Shared} {fp : List Addr} {cl : List (Str × Addr)} {C : Addr} {E : Value -> Shared -> Prop} {N : List Str} {h₁ : Heap}
theorem HN (ok : COk X scope caps) (I : Inv X pins σ H s) (hf : ∀ b ∈ fp, KE X pins H b) (hlt : ∀ b ∈ fp, b < s.heap.objs.size)
    (hsub : ∀ x c, cl.lookup x = some c -> X.env.cells.lookup x = some c) (hall : ∀ x, (x, NameKind.free) ∈ scope.names -> ∃ c, cl.lookup x = some c) (hC : s.heap.objs.size < C) : (X.comp N scope cl C s H fp E).Ok:=
  ⟨I.ok.mod, ok.kind, I.ok.glob, I.ok.blt, Nat.le_of_lt hC, λx y c h1 h2=>I.ok.inj x y c (hsub x c h1) (hsub y c h2), λx hx=>hall x (hx.elim (λz=>QN ok.cell z (.inl rfl)) λz=>QN ok.cell z (.inr rfl)), (λx c hx=>by cases hx), I.ok.hd, I.ok.frames, .inl rfl,
    λb hb=>⟨Nat.ne_of_lt (Nat.lt_trans (hlt b hb) hC), λx c e=>(hf b hb).2.2.2.2.1 x c (hsub x c e)⟩, I.bs, Nat.le_trans I.ok.bsz I.sz, λb o e hb=>(hf b hb).2.2.2.1.elim (I.ok.noex b o e) λz=>absurd (Nat.lt_of_lt_of_le (Heap.lt_size e) (Nat.le_trans I.ok.bsz z)) (Nat.lt_irrefl _),
    λb hb hz=>(List.mem_cons.mp (I.stkSub b hz)).elim (hf b hb).2.1 (hf b hb).2.2.1, I.stack, I.stkFree⟩
theorem BD (okc : COk X scope caps) (hn : tns.length = n) (ok : (X.comp (tns ++ caps.map (·.2)) scope cl C s H fp E).Ok) (I : Inv X pins σ H s)
    (hsub : ∀ x c, cl.lookup x = some c -> X.env.cells.lookup x = some c) (hall : ∀ x, (x, NameKind.free) ∈ scope.names -> ∃ c, cl.lookup x = some c) (hC : s.heap.objs.size < C) (hns : h₁.Ns C λ_=>none) (old : ∀ b o, s.heap.get? b = some o -> h₁.get? b = some o) {tk : Nat} :
    Inv (X.comp (tns ++ caps.map (·.2)) scope cl C s H fp E) [] (QQ n caps σ) H { s with heap:=h₁, toks:=tk }:=by
  refine ⟨ok, rfl, I.bare, Un.kept old, ⟨_, hns, λi x v e1 e2 _=>?_⟩, λx c e=>(I.cell x c (hsub x c e)).elim λv z=>z.elim λo z=>⟨v, o, old _ _ z.1, z.2⟩, I.hok.fresh (Nat.le_of_lt hC), λx c e=>I.freeC x c (hsub x c e), λp hp=>G9 (α:=Addr × Obj) hp, I.hok.kept old, by simp [QQ, hn]⟩
  obtain ⟨hi, p, hp, hσ⟩:=Ks e2
  have e1' : (tns ++ caps.map (·.2))[i]? = some x:=e1
  rw [List.getElem?_append_right (hn ▸ hi), hn, List.getElem?_map, hp] at e1'
  cases Option.some.inj e1'
  have p5:=okc.caps p (List.mem_of_getElem? hp)
  obtain ⟨m, hm, hl⟩:=I.loc
  obtain ⟨u, r, l⟩:=hl p.1 p.2 v p5.1.1 hσ (.inr (.inl p5.1.2))
  refine ⟨u, r, .inr ?_⟩
  rcases l with ⟨k, _⟩ | ⟨k, c, e, z⟩
  . cases p5.1.2.symm.trans k
  . obtain ⟨c', e'⟩ := hall p.2 (PySem.mem_of_lookup p5.2)
    cases e.symm.trans (hsub _ _ e')
    exact ⟨Jr (env:=X.env) p5.2, c, e', z.elim λo z=>⟨o, old _ _ z.1, z.2⟩⟩
variable {J : It} {it : Addr} {tn : Nat -> Heap -> Prop} {Q : V -> Hp -> Prop} {RR : Value -> Addr -> Result -> Shared -> Prop} {W : Nat -> Nat -> List V -> Hp -> Prop} {m0 : Nat}
theorem EJ (ok : COk X scope caps) (hc : X.calm = true) (hn : tns.length = n) (hG : Uz n g)
    (hb : ∀ cl C s H ex E, PG (X.comp (tns ++ caps.map (·.2)) scope cl C s H ex E) tg g /\ PTs (X.comp (tns ++ caps.map (·.2)) scope cl C s H ex E) ifs tt /\ PE (X.comp (tns ++ caps.map (·.2)) scope cl C s H ex E) elt te)
    (I : Inv X pins σ H s) (T : Turn X.prog X.w X.K tg J fp it tn) (t0 : tn 0 s.heap) (hf : ∀ b ∈ fp, KE X pins H b)
    (hsub : ∀ x c, cl.lookup x = some c -> X.env.cells.lookup x = some c) (hall : ∀ x, (x, NameKind.free) ∈ scope.names -> ∃ c, cl.lookup x = some c)
    (w0 : W 0 m0 [] H) (turn : He g tt te (QQ n caps σ) Q J W)
    (hRR : ∀ D C ys H3 s', CompEnd X pins σ H3 D C ys s' -> Q (.ref D) (upd H3 D (.lst ys)) -> RR (.ref D) C (.ok .next) s')
    (hC : s.heap.objs.size < C) (hns : h₁.Ns C λ_=>none) (old : ∀ b o, s.heap.get? b = some o -> h₁.get? b = some o) (hacc : h₁.get? s.heap.objs.size = some (lob [] 0)) {tk : Nat} :
    codeAny (model X.prog X.w) X.A (.compStart (.ListComp elt [⟨tg, iter, ifs, 0⟩] scope pos) 0 (.ref it) (.ref s.heap.objs.size) (compEnvC scope cl C X.env)) (RR (.ref s.heap.objs.size) C) { s with heap:=h₁, toks:=tk }:=by
  have hlt : ∀ b ∈ fp, b < s.heap.objs.size:=λb hb=>(T.obj _ _ t0 b hb).elim λo e=>Heap.lt_size e.1
  have okY : ∀ E, (X.comp (tns ++ caps.map (·.2)) scope cl C s H fp E).Ok:=λE=>HN ok I hf hlt hsub hall hC
  have t1 : tn 0 h₁:=T.keep _ _ _ t0 λb _ o e=>old b o e
  have loop : ∀ tk, codeAny (model X.prog X.w) X.A (.compLoop (.ListComp elt [⟨tg, iter, ifs, 0⟩] scope pos) 0 (.ref it) (.ref s.heap.objs.size) (compEnvC scope cl C X.env)) (RR (.ref s.heap.objs.size) C) { s with heap:=h₁, toks:=tk }:=λtk=>
    have z:=hb cl C s H fp (notedBy (model X.prog X.w) X.A (compEnvC scope cl C X.env) λe s'=>RR (.ref s.heap.objs.size) C (.error e) s')
    FI (Y:=X.comp (tns ++ caps.map (·.2)) scope cl C s H fp _) rfl T hG z.1 z.2.1 z.2.2
      ⟨hc, rfl, Nat.ne_of_lt hC, λhz=>(I.stack.mem hz).2.elim λo ho=>absurd (Heap.lt_size ho.1) (Nat.lt_irrefl _), Nat.le_refl _, λx c e=>(I.cell x c (hsub x c e)).elim λv z=>Nat.ne_of_lt z.lt, λb hb=>Nat.ne_of_lt (hlt b hb),
        λb hb H' h'=>⟨h', Nat.ne_of_lt (Nat.lt_trans (hlt b hb) hC), (okY λ_ _=>True).exfs b hb, .inl hb, λx c e=>(hf b hb).2.2.2.2.1 x c (hsub x c e), λp hp=>G9 (α:=Addr × Obj) hp⟩⟩
      (λj v e=>(Ks e).1) turn (λys its k H3 s4 I4 rv hz q=>hRR _ C ys H3 s4 (Ea I hf (Nat.le_refl _) hC I4 I4.os I4.base I4.hok rfl rv hz) q)
      (.mk 0 H [] [] 0 ⟨BD ok hn (okY _) I hsub hall hC hns old, t1, λb hb=>(hf b hb).1, hacc, I.hok.fresh (Nat.le_refl _)⟩ .nil w0)
  exact codeAny_compStart_list (loop _) (T.self _ 0 _ _ _ t1 (loop _))
theorem VY (ok : COk X scope caps) (hc : X.calm = true) (hn : tns.length = n) (hG : Uz n g)
    (hb : ∀ cl C s H ex E, PG (X.comp (tns ++ caps.map (·.2)) scope cl C s H ex E) tg g /\ PTs (X.comp (tns ++ caps.map (·.2)) scope cl C s H ex E) ifs tt /\ PE (X.comp (tns ++ caps.map (·.2)) scope cl C s H ex E) elt te)
    {itv : Value} (h : PIE X pins σ tg (λJ H1=>Ew n caps g tt te σ Q J H1) itv s)
    (hsub : ∀ x c, cl.lookup x = some c -> X.env.cells.lookup x = some c) (hall : ∀ x, (x, NameKind.free) ∈ scope.names -> ∃ c, cl.lookup x = some c)
    (hRR : ∀ D C ys H3 s', CompEnd X pins σ H3 D C ys s' -> Q (.ref D) (upd H3 D (.lst ys)) -> RR (.ref D) C (.ok .next) s') :
    MZ X elt tg iter ifs scope pos itv cl RR E s:=by
  obtain ⟨it, fp, tn, J, H', rfl, I, T, t0, hf, W, ⟨m0, w0⟩, turn⟩:=h
  refine wpAny_newObj_type (wpAny_newFunctionEnv ok.cell (by intro y hy; simp at hy) (λh₁ hns₁ hsb₁=>?_) ok.kind)
  have hs : ∀ o, (s.heap.push o).objs.size = s.heap.objs.size + 1:=λo=>Heap.size_push ..
  exact EJ ok hc hn hG hb I T t0 hf hsub hall w0 turn hRR (Nat.lt_of_lt_of_eq (Nat.lt_succ_self _) (hs _).symm) hns₁
    (λb o e=>hsb₁.extBut b o (Nat.ne_of_lt (Nat.lt_trans (Heap.lt_size e) (Nat.lt_of_lt_of_eq (Nat.lt_succ_self _) (hs _).symm))) (Heap.get?_push_of_some _ (Heap.get?_push_of_some _ e)))
    (hsb₁.extBut _ _ (Nat.ne_of_lt (Nat.lt_of_lt_of_eq (Nat.lt_succ_self _) (hs _).symm)) (Heap.get?_push_of_some _ (Heap.get?_push_size _ rfl)))
end
theorem EH (sc : Scope) (N0 : List Str) (tns : List Str) (caps : List (Nat × Str)) (hc : X.calm = true) (hi : PI X tg iter wi) (hG : Uz tns.length g)
    (hb : ∀ cl C s H ex E, PG (X.comp (tns ++ caps.map (·.2)) scope cl C s H ex E) tg g /\ PTs (X.comp (tns ++ caps.map (·.2)) scope cl C s H ex E) ifs tt /\ PE (X.comp (tns ++ caps.map (·.2)) scope cl C s H ex E) elt te)
    (hsc : autoParam (X.env.scope = sc) L2.Zau5._auto_1) (hN0 : autoParam (X.N = N0) L2.Zau5._auto_1) (ok : autoParam (Kl sc scope N0 tns caps = true) L2.Zau8._auto_1)
    (hs : autoParam (∀ x, foldedSetIterable iter X.env x = pure x) L2.Zau4._auto_1) :
    PE X (.ListComp elt [⟨tg, iter, ifs, 0⟩] scope pos) (CJ tns.length caps wi g tt te):=by
  intro pins s σ H Q I h
  have okc:=COk.of hsc hN0 ok
  obtain ⟨cl, ecl, hsub, hall⟩:=Dh (scope:=scope) (env:=X.env) λx hx hfr=>I.ok.has x.1 (.inl (okc.free x hx hfr))
  rw [eval_ListComp]
  exact wpAny_comprehension_free (use:=none) rfl hs ecl okc.kind okc.loc (thn (hi pins s σ H _ I h) λxv s₁ h₁=>thn h₁ λitv s₂ h₂=>
    VY (RR:=λacc C=>compPost (model X.prog X.w) X.A X.xe none (EP X pins σ Q) acc C) okc hc rfl hG hb h₂ hsub hall λD C ys H3 s' ce q=>ce.ns.elim λmm hns=>
      ⟨mm, hns, λh' hs'=>⟨.ref D, _, ce.inv.turned (t':=s'.toks) (λb o hb' e=>(hs'.extBut b o hb' e)) ce.fp.1 ce.fp.2.1 ce.fp.2.2.2.1 ce.fp.2.2.2.2.1 ce.fp.2.2.2.2.2, rfl, q⟩⟩)
theorem Q8 {x : Str} {px spos : Pos} (j : Nat) (sc : Scope) (N0 : List Str) (tns : List Str) (caps : List (Nat × Str)) (hc : X.calm = true) (hN : X.N.Nodup) (hj : X.N[j]? = some x) (hx : X.env.scope.names.lookup x = some .local) (hi : PI X tg iter wi) (hG : Uz tns.length g)
    (hb : ∀ cl C s H ex E, PG (X.comp (tns ++ caps.map (·.2)) scope cl C s H ex E) tg g /\ PTs (X.comp (tns ++ caps.map (·.2)) scope cl C s H ex E) ifs tt /\ PE (X.comp (tns ++ caps.map (·.2)) scope cl C s H ex E) elt te)
    (hsc : autoParam (X.env.scope = sc) L2.Zau5._auto_1) (hN0 : autoParam (X.N = N0) L2.Zau5._auto_1) (ok : autoParam (Kl sc scope N0 tns caps = true) L2.Zau8._auto_1)
    (hsw : autoParam (swapsWith (.ListComp elt [⟨tg, iter, ifs, 0⟩] scope pos) (some (.Name x px)) spos.line X.env = pure true) L2.Zau5._auto_1)
    (hs : autoParam (∀ x, foldedSetIterable iter X.env x = pure x) L2.Zau4._auto_1) :
    PS X (.Assign [.Name x px] (.ListComp elt [⟨tg, iter, ifs, 0⟩] scope pos) spos) (Ef (CJ tns.length caps wi g tt te) (ZE j)):=by
  intro pins s σ H D I h
  have okc:=COk.of hsc hN0 ok
  obtain ⟨cl, ecl, hsub, hall⟩:=Dh (scope:=scope) (env:=X.env) λx hx hfr=>I.ok.has x.1 (.inl (okc.free x hx hfr))
  rw [exec_Assign_Name_used _ _ _ _ hsw]
  refine wpAny_bind (wpAny_standAt (wpAny_bind ?_))
  show wpAny _ _ (do let _ ← comprehension (.ListComp elt [⟨tg, iter, ifs, 0⟩] scope pos) scope X.env _ (newList []) false (eval iter X.env) (some (assign (.Name x px) X.env))) _ _ s
  refine wpAny_bind (thn (wpAny_comprehension_free (use:=some (assign (.Name x px) X.env)) (Q:=λ_ s'=>SP X pins D .next s') rfl hs ecl okc.kind okc.loc
    (thn (hi pins s σ H _ I h) λxv s₁ h₁=>thn h₁ λitv s₂ h₂=>?_)) λ_ s' hq=>wpAny_pure (wpAny_pure hq))
  refine VY (Q:=λv H1=>ZE j v σ H1 D.nx) (RR:=λacc C=>compPost (model X.prog X.w) X.A X.xe (some (assign (.Name x px) X.env)) (λ_ s'=>SP X pins D .next s') acc C) okc hc rfl hG hb h₂ hsub hall ?_
  intro DD C ys H3 s' ce q
  obtain ⟨mm, hns⟩:=ce.ns
  obtain ⟨c0, c1, c2, c3, c4, c5⟩:=ce.fp
  show wpAny _ _ (assign (.Name x px) X.env (.ref DD)) _ _ _
  refine wpAny_assign_Name (UQ ce.inv hN hj (.inl hx) (v:=.ref DD) rfl (λs2 I2 chg=>?_) (.inr hx))
  obtain ⟨c, hsb, hcc⟩:=chg
  have hCc : C ≠ c:=by
    rcases hcc with z | z
    . rw [z]; exact c1
    . exact λe=>c4 x c z e.symm
  refine ⟨mm, ?_, λh' hs'=>?_⟩
  . obtain ⟨o, es, ep, ho, r⟩ := hns
    exact ⟨o, es, ep, (hsb.2 C hCc).trans ho, r⟩
  . exact ⟨_, _, I2.turned (t':=s2.toks) (λb o hb' e=>(hs'.extBut b o hb' e)) c0 c1 c3 c4 c5, q⟩
end
section
variable {K : PySem.W.Frag} {a : Addr} {xs : List V} {n : Nat} {caps : List (Nat × Str)} {g : TG} {tt : TT} {te : TE} {σ : St} {H : Hp} {Q : V -> Hp -> Prop}
end
section
variable {X : Cx} {pos : Pos}
noncomputable def Bc (K : PySem.W.Frag) : List V -> Hp -> VK -> Prop:=λxs H Q=>∃ p ys, xs = [.ref p] /\ (SqL K H p ys ∨ SqT K H p ys) /\ ∀ l, H l = none -> Q (.ref l) (upd H l (.lst ys))
noncomputable def GP (K : PySem.W.Frag) : List V -> Hp -> VK -> Prop:=λxs H Q=>∃ p ys, xs = [.ref p] /\ (SqL K H p ys ∨ SqT K H p ys) /\ Q (.int ys.length) H
theorem ZZ (K : PySem.W.Frag) (h : X.K = K) : Jc X (.type "list") (Bc K):=by subst h; exact Kv
theorem Xu (K : PySem.W.Frag) (h : X.K = K) : Jc X (.builtin "len") (GP K):=by subst h; exact U9
theorem Xm (K : PySem.W.Frag) (h : X.K = K) : IxR X (Ed K):=by subst h; exact EW
theorem YQ (K : PySem.W.Frag) (h : X.K = K) : IxR X (HU K):=by subst h; exact La
theorem Ux (K : PySem.W.Frag) (h : X.K = K) : SlR X (L5 K):=by subst h; exact Ip
theorem J9 (K : PySem.W.Frag) (h : X.K = K) {es : List Expr} {k : Nat} {t : TGs} {n : Nat} (hc : X.calm = true) (hh : PGs X es t)
    (hn : autoParam ((assignEach es X.env).length = n) L2.Zau5._auto_1) (hst : autoParam ((assignEach es X.env).findIdx? (·.1) = none) L2.Zau5._auto_1) : PG X (.Tuple es k pos) (Iv K n t):=by subst h; exact VU hc hh hn hst
end
structure Fn (P : Program) (w : World) (K : PySem.W.Frag) (mg : Str -> Option Value) (base : Heap) (k : Nat) (x : Str) (ps : List Str) (sp : Sp) : Prop where
  ex : ∃ f fd, FnOk P w K mg base CX0 k f fd ps sp /\ Kt K fd ps [] /\ PySem.W.keepIn K (.ref f) = true /\ mg x = some (.ref f)
section
variable {X : Cx} {k j : Nat} {x : Str} {ps : List Str} {sp : Sp} {e : Expr} {es : List Expr} {t : TA} {p pos : Pos}
theorem YO (G : Fn X.prog X.w X.K X.mg X.base k x ps sp) (hr : Room j X.A) (hj : k <= j) (ha : PA X (e :: es) t) (hg : autoParam (Gl X x) L2.Zau5._auto_1) (hdb : autoParam ((x == ("__debug__" : Str)) = false) L2.Zau2._auto_1)
    (he : autoParam (starEach (e :: es) X.env = (false, eval e X.env) :: starEach es X.env) L2.Zau5._auto_1) (hpl : autoParam ((backTo pos (starEach es X.env)).any (·.1) = false) L2.Zau5._auto_1) :
    PE X (.Call (.Name x p) (e :: es) [] pos) (Ve sp [] E0 t):=by
  obtain ⟨f, fd, F, b, kp, m⟩:=G.ex
  exact Bd F (hr.mono hj) hg m kp b .nil L9 ha hdb he hpl
end
noncomputable def Def (K : PySem.W.Frag) (mg : Str -> Option Value) (x : Str) (st : Stmt) (ps : List Str) : Prop:=∃ f fd, Fun K x x st f fd /\ Kt K fd ps [] /\ mg x = some (.ref f)
theorem Zm {P : Program} {w : World} {K : PySem.W.Frag} {mg : Str -> Option Value} {base : Heap} {x : Str} {st : Stmt} {N ps : List Str} {k : Nat} {sp : Sp} (D : Def K mg x st ps) (S : FnScope N ps (Xf st)) (len : ∀ vs H Q E, sp vs H Q E -> vs.length = ps.length)
    (hbody : ∀ (f : Addr) (cdv : Value) (A : Around) (outer : List Env) (s : Shared) (H : Hp) (vs : List V) (Q : VK) (E : XK), Room k (A.deeper (envOfC x (Xf st) s.heap.objs.size f cdv)) -> sp vs H Q E ->
      ∃ t, PSs (Fa CX0 P w K mg base N x (Xf st) f cdv A outer s H E).nox (Xw st) t /\ t { nx:=λ_ H'=>Q .non H', rt:=Q } (VH N vs) H) : Fn P w K mg base (k + 1) x ps sp:=by
  obtain ⟨f, fd, F, b, m⟩:=D
  exact ⟨f, fd, F.ok S len (hbody f), b, F.kp, m⟩
theorem Ma {a d c : Nat} (h : d <= 8) (hu : a + 8 < c) : a + d < c:=by lia
theorem XD {H : Hp} {p : Addr} (h : H p = none) (o : HO) : Xz H (upd H p o):=λb u q=>by rw [Xv (Yc q h)]; exact q
theorem Xz.seqT {K : PySem.W.Frag} {H H' : Hp} {a : Addr} {xs : List V} (e : Xz H H') (h : SqT K H a xs) : SqT K H' a xs:=by
  rcases h with (h | ⟨o, h⟩) | h
  . exact .inl (.inl (e _ _ h))
  . exact .inl (.inr ⟨o, e _ _ h⟩)
  . exact .inr h
theorem hu8 {A : Around} {k : Nat} (hr : Room k A) : A.units + 8 < cLine:=Nat.lt_of_le_of_lt (Nat.add_le_add_left (by decide : 8 <= 64) _) hr.units
noncomputable abbrev Enc (α : Type):=PySem.W.Frag -> Hp -> V -> α -> Prop
noncomputable def Xa : Enc Int:=λ_ _ v i=>v = .int i
noncomputable def rL {α : Type} (r : Enc α) : Enc (List α):=λK H v as=>∃ a xs, v = .ref a /\ SqL K H a xs /\ Paired (r K H) xs as
noncomputable def rT2 {α β : Type} (r : Enc α) (q : Enc β) : Enc (α × β):=λK H v p=>∃ a x y, v = .ref a /\ SqT K H a [x, y] /\ r K H x p.1 /\ q K H y p.2
theorem Paired.getL {α β : Type} {F : α -> β -> Prop} : ∀ {l : List α} {m : List β} {i : Nat} {a : α}, Paired F l m -> l[i]? = some a -> ∃ b, m[i]? = some b /\ F a b
  | _, _, _, _, .nil, e=>by simp at e
  | _, _, 0, _, .cons r _, e=>by simp at e; subst e; exact ⟨_, rfl, r⟩
  | _, _, i + 1, a, .cons _ t, e=>by
    obtain ⟨b, h1, h2⟩:=Paired.getL (i:=i) (a:=a) t (by simpa using e)
    exact ⟨b, by simpa using h1, h2⟩
theorem Paired.getR {α β : Type} {F : α -> β -> Prop} : ∀ {l : List α} {m : List β} {i : Nat} {b : β}, Paired F l m -> m[i]? = some b -> ∃ a, l[i]? = some a /\ F a b
  | _, _, _, _, .nil, e=>by simp at e
  | _, _, 0, _, .cons r _, e=>by simp at e; subst e; exact ⟨_, rfl, r⟩
  | _, _, i + 1, b, .cons _ t, e=>by
    obtain ⟨a, h1, h2⟩:=Paired.getR (i:=i) (b:=b) t (by simpa using e)
    exact ⟨a, by simpa using h1, h2⟩
theorem Paired.len {α β : Type} {F : α -> β -> Prop} {l : List α} {m : List β} (h : Paired F l m) : l.length = m.length:=Paired.length h
theorem Paired.app {α β : Type} {F : α -> β -> Prop} : ∀ {l l' : List α} {m m' : List β}, Paired F l m -> Paired F l' m' -> Paired F (l ++ l') (m ++ m'):=λp h=>by
  induction p with
  | nil=>exact h
  | cons r _ ih=>exact .cons r ih
theorem KZ (ns : List Int) : ∀ {K : PySem.W.Frag} {H : Hp}, Paired (Xa K H) (ns.map V.int) ns:=by
  intro K H
  induction ns with
  | nil=>exact .nil
  | cons n r ih=>exact .cons rfl ih
theorem JY : ∀ {xs : List V} {ns : List Int} {K : PySem.W.Frag} {H : Hp}, Paired (Xa K H) xs ns -> xs = ns.map V.int
  | _, _, _, _, .nil=>rfl
  | _, _, _, _, .cons r t=>by
    have r' : _ = V.int _:=r
    rw [r', JY t]; rfl
structure EqOk {α : Type} [DecidableEq α] (r : Enc α) (d : Nat) : Prop where
  uniq : ∀ {X : Cx} {pins : List (Addr × Obj)} {σ : St} {H : Hp} {s : Shared} {x : V} {a b : α}, Inv X pins σ H s -> r X.K H x a -> r X.K H x b -> a = b
  eq : ∀ {X : Cx} {pins : List (Addr × Obj)} {σ : St} {H : Hp} {s : Shared} {x y : V} {v u : Value} {a b : α} {A : Around}, Inv X pins σ H s -> Yi x v -> Yi y u -> r X.K H x a -> r X.K H y b -> A.units + d < cLine -> SeqAt.EqAt A s v u (decide (a = b))
  rc : ∀ {X : Cx} {pins : List (Addr × Obj)} {σ : St} {H : Hp} {s : Shared} {x y : V} {v u : Value} {a b : α} {A : Around}, Inv X pins σ H s -> Yi x v -> Yi y u -> r X.K H x a -> r X.K H y b -> A.units + d < cLine -> SeqAt.RcAt A s v u (decide (a = b))
  ne : ∀ {X : Cx} {pins : List (Addr × Obj)} {σ : St} {H : Hp} {s : Shared} {x y : V} {v u : Value} {a b : α} {A : Around}, Inv X pins σ H s -> Yi x v -> Yi y u -> r X.K H x a -> r X.K H y b -> A.units + d < cLine -> SeqAt.RcNeAt A s v u (!decide (a = b))
  keep : ∀ {K : PySem.W.Frag} {H H' : Hp} {x : V} {a : α}, Xz H H' -> r K H x a -> r K H' x a
theorem Zb (A : Around) : A.in1.units = A.units + 1:=rfl
theorem Mw {a b : Int} : (a == b) = decide (a = b):=by rw [Bool.eq_iff_iff]; simp
theorem Paired.imp2 {α β : Type} {F G : α -> β -> Prop} (h : ∀ a b, F a b -> G a b) : ∀ {l : List α} {m : List β}, Paired F l m -> Paired G l m:=λp=>by
  induction p with
  | nil=>exact .nil
  | cons r _ ih=>exact .cons (h _ _ r) ih
section
variable {α : Type} [DecidableEq α] {r : Enc α} {d : Nat}
end
section
variable {α β : Type} [DecidableEq α] [DecidableEq β] {r : Enc α} {q : Enc β} {d : Nat}
theorem G3 {a1 a2 : α} {b1 b2 : β} : (decide (a1 = a2) && decide (b1 = b2)) = decide ((a1, b1) = (a2, b2)):=by
  rw [Bool.eq_iff_iff]; simp
theorem HX (E : EqOk r d) (F : EqOk q d) : EqOk (rT2 r q) (d + 1):=by
  have un : ∀ {X : Cx} {pins : List (Addr × Obj)} {σ : St} {H : Hp} {s : Shared} {x : V} {a b : α × β}, Inv X pins σ H s -> rT2 r q X.K H x a -> rT2 r q X.K H x b -> a = b:=by
    rintro X pins σ H s x ⟨a1, a2⟩ ⟨b1, b2⟩ I h1 h2
    obtain ⟨a, x1, x2, rfl, q1, p1, p2⟩:=h1
    obtain ⟨b, y1, y2, e, q2, p3, p4⟩:=h2
    cases e
    cases I.tuple_inj q1 q2
    rw [show a1 = b1 from E.uniq I p1 p3, show a2 = b2 from F.uniq I p2 p4]
  have its : ∀ {X : Cx} {pins : List (Addr × Obj)} {σ : St} {H : Hp} {s : Shared} {x1 x2 y1 y2 : V} {u1 u2 w1 w2 : Value} {a b : α × β} {A : Around}, Inv X pins σ H s -> Yi x1 u1 -> Yi x2 u2 -> Yi y1 w1 -> Yi y2 w2 ->
      r X.K H x1 a.1 -> q X.K H x2 a.2 -> r X.K H y1 b.1 -> q X.K H y2 b.2 -> A.units + (d + 1) < cLine ->
      ∀ j (h1 : j < [u1, u2].toArray.size) (h2 : j < [w1, w2].toArray.size), SeqAt.EqAt A.in1 s [u1, u2].toArray[j] [w1, w2].toArray[j] ((λj=>if j = 0 then decide (a.1 = b.1) else decide (a.2 = b.2)) j):=by
    intro X pins σ H s x1 x2 y1 y2 u1 u2 w1 w2 a b A I e1 e2 e3 e4 p1 p2 p3 p4 hu j h1 h2
    have hj : j = 0 ∨ j = 1:=by
      have h1' : j < 2:=h1
      lia
    rcases hj with rfl | rfl
    . exact E.eq (A:=A.in1) I e1 e3 p1 p3 (by rw [Zb]; lia)
    . exact F.eq (A:=A.in1) I e2 e4 p2 p4 (by rw [Zb]; lia)
  have rc : ∀ {X : Cx} {pins : List (Addr × Obj)} {σ : St} {H : Hp} {s : Shared} {x y : V} {v u : Value} {a b : α × β} {A : Around}, Inv X pins σ H s -> Yi x v -> Yi y u -> rT2 r q X.K H x a -> rT2 r q X.K H y b -> A.units + (d + 1) < cLine -> SeqAt.RcAt A s v u (decide (a = b)):=by
    rintro X pins σ H s x y v u ⟨a1, a2⟩ ⟨b1, b2⟩ A I rx ry h1 h2 hu
    obtain ⟨a, x1, x2, rfl, q1, p1, p2⟩:=h1
    obtain ⟨b, y1, y2, rfl, q2, p3, p4⟩:=h2
    cases rx; cases ry
    obtain ⟨i1, r1, l1, _⟩:=I.tuple q1
    obtain ⟨i2, r2, l2, _⟩:=I.tuple q2
    obtain ⟨u1, u2, rfl, e1, e2⟩:=Ym.two r1
    obtain ⟨w1, w2, rfl, e3, e4⟩:=Ym.two r2
    have:=SeqAt.RcAt.tuples (A:=A) l1 l2 (by lia) (its (a:=(a1, a2)) (b:=(b1, b2)) I e1 e2 e3 e4 p1 p2 p3 p4 hu)
    rw [← G3]
    simpa [List.range_succ] using this
  refine ⟨un, ?_, rc, ?_, ?_⟩
  . intro X pins σ H s x y v u as bs A I rx ry h1 h2 hu
    obtain ⟨a, x1, x2, rfl, q1, p1, p2⟩:=id h1
    obtain ⟨b, y1, y2, rfl, q2, p3, p4⟩:=id h2
    have R:=rc (A:=A) I rx ry h1 h2 hu
    cases rx; cases ry
    by_cases e : a = b
    . subst e
      rw [decide_eq_true (un I h1 h2)]
      exact SeqAt.EqAt.same _
    . exact SeqAt.EqAt.of_refs e R
  . rintro X pins σ H s x y v u ⟨a1, a2⟩ ⟨b1, b2⟩ A I rx ry h1 h2 hu
    obtain ⟨a, x1, x2, rfl, q1, p1, p2⟩:=h1
    obtain ⟨b, y1, y2, rfl, q2, p3, p4⟩:=h2
    cases rx; cases ry
    obtain ⟨i1, r1, l1, _⟩:=I.tuple q1
    obtain ⟨i2, r2, l2, _⟩:=I.tuple q2
    obtain ⟨u1, u2, rfl, e1, e2⟩:=Ym.two r1
    obtain ⟨w1, w2, rfl, e3, e4⟩:=Ym.two r2
    have:=SeqAt.RcNeAt.tuples (A:=A) l1 l2 (by lia) (its (a:=(a1, a2)) (b:=(b1, b2)) I e1 e2 e3 e4 p1 p2 p3 p4 hu)
    rw [← G3]
    simpa [List.range_succ] using this
  . intro K H H' x as e h
    obtain ⟨a, x1, x2, rfl, q1, p1, p2⟩:=h
    exact ⟨a, x1, x2, rfl, e.seqT q1, E.keep e p1, F.keep e p2⟩
end
section
variable {X : Cx} {α : Type} [DecidableEq α] {r : Enc α} {d : Nat}
noncomputable def MM (K : PySem.W.Frag) (r : Enc α) : R2:=λx y H Q=>∃ a b, r K H x a /\ r K H y b /\ Q (.bl (!decide (a = b))) H
theorem LS (E : EqOk r d) (hu : X.A.units + d < cLine) : OpR X (compareOp .NotEq) (MM X.K r):=by
  intro pins s σ H x y v u Q I rx ry h
  obtain ⟨a, b, h1, h2, q⟩:=h
  exact E.ne (A:=X.A) I rx ry h1 h2 hu _ _ _ _ ⟨.bl _, H, I, rfl, q⟩
theorem Z1 : Jc X (.builtin "isinstance") (λxs H Q=>∃ x n t b, xs = [x, .ty n] /\ TyOf X.K H x t /\ PySem.W.kitOne X.K t (.type n) = some b /\ Q (.bl b) H):=by
  intro pins s σ H xs us Q I r h
  obtain ⟨x, n, t, b, rfl, ty, e, q⟩:=h
  obtain ⟨u, v, rfl, ru, rv⟩:=Ym.two r
  cases (show v = Value.type n from rv)
  exact Cf I ru ty e λtk=>⟨.bl b, H, I.tok tk, rfl, q⟩
theorem G5 : OpR X (binaryOp .FloorDiv) (rI (λ_ j=>0 < j /\ j.natAbs.log2 < 9000) λi j=>.int (i / j)):=opI λi j _ _ _ _ _ hc q=>by
  refine floordiv_int (by lia) ?_ (.inl (PyProof.noPylong_of_log2 hc.2))
  rw [Int.fdiv_eq_ediv_of_nonneg i (by lia)]
  exact q
end
end L2
namespace PySem
open Sem (wp)
section
variable {prog : Program} {w : World} {A : Around} {E : Value -> Shared -> Prop} {s : Shared}
end
end PySem
namespace L2
open PySem PySem.Spec PyProof.Rows
theorem Gd {α β : Type} {F : α -> β -> Prop} : ∀ {l : List α} {m : List β} {i : Nat} {b : β}, Paired F l m -> m[i]? = some b -> ∃ a, l[i]? = some a /\ F a b
  | _, _, _, _, .nil, e=>by simp at e
  | _, _, 0, _, .cons r _, e=>by simp at e; subst e; exact ⟨_, rfl, r⟩
  | _, _, i + 1, b, .cons _ t, e=>by
    obtain ⟨a, h1, h2⟩:=Gd (i:=i) (b:=b) t (by simpa using e)
    exact ⟨a, by simpa using h1, h2⟩
section
variable {X : Cx} {e : Expr} {te : TE}
noncomputable def MC (K : PySem.W.Frag) : List V -> Hp -> VK -> Prop:=λxs H Q=>∃ (a : Addr) (ns : List Int), xs = [.ref a] /\ SqL K H a (ns.map V.int) /\ Q (.int ns.sum) H
theorem UR (hc : X.calm = true) : Jc X (.builtin "sum") (MC X.K):=by
  intro pins s σ H xs us Q I r h
  obtain ⟨a, ns, rfl, hq, q⟩:=h
  obtain ⟨u, rfl, ru⟩:=CH r
  cases ru
  obtain ⟨its, rv, pl, hz⟩:=I.list hq
  have hi : IntsAre its ns:=FG rv
  have hlen:=hi.length
  have hlt : a < s.heap.objs.size:=by obtain ⟨o, n, ho, _⟩:=pl; exact Heap.lt_size ho
  refine call_sum_walkG ?_
  refine wpAny_pyIter_list pl.isList ?_
  have W:=Walks.list (prog:=X.prog) (w:=X.w) (A:=X.A.in1) (I.ok.hd hc) s.heap.objs.size a (Nat.ne_of_lt hlt) its.toArray
  refine ⟨s.heap.objs.size, _, _, _, _, _, λi=>ns.getD i 0, rfl, W, ⟨⟨_, Heap.get?_push_size _ rfl, rfl, rfl⟩, pl.isList.at λo e=>Heap.get?_push_of_some _ e⟩, λb hb=>?_, λi v hv=>?_, λh' tk t' hk=>?_⟩
  . rcases List.mem_cons.mp hb with e | hb
    . rw [e, Heap.size_push]; exact Nat.lt_succ_self _
    . rw [List.mem_singleton.mp hb, Heap.size_push]; exact Nat.lt_succ_of_lt hlt
  . have hv' : its[i]? = some v := by simpa using hv
    have hil : i < its.length:=(List.getElem?_eq_some_iff.mp hv').1
    obtain ⟨x, ex, rx⟩:=Gd rv hv'
    rw [List.getElem?_map] at ex
    cases e : ns[i]? with
    | none=>rw [e] at ex; cases ex
    | some z=>
      rw [e] at ex
      have ex' : V.int z = x:=Option.some.inj ex
      subst ex'
      obtain ⟨t, rfl⟩:=rx
      exact ⟨t, by simp [List.getD, e]⟩
  . have I2 : Inv X pins σ H { s with heap:=h', toks:=tk }:=I.kept (t':=tk) λb o e=>hk b o (λhm=>by
      rw [List.mem_singleton.mp hm] at e
      exact absurd (Heap.lt_size e) (Nat.lt_irrefl _)) (Heap.get?_push_of_some _ e)
    refine ⟨.int ns.sum, H, I2, ⟨t', ?_⟩, q⟩
    rw [List.size_toArray, hlen, preSum_getD, List.take_length]
end
section
variable {X : Cx} {pins : List (Addr × Obj)} {σ : St} {H : Hp} {s : Shared} {h' : Heap}
theorem Inv.turnLay {t' : Nat} {ch : List Addr} {T : Addr} {u : HO} (I : Inv X pins σ H s) (k : ∀ b o, b ∉ ch -> s.heap.get? b = some o -> h'.get? b = some o) (hf : ∀ b ∈ ch, KE X pins H b)
    (hp : s.heap.objs.size <= T) (new : YJ X.prog X.w (upd H T u) h' T u) : Inv X pins σ (upd H T u) { s with heap:=h', toks:=t' }:=by
  have hn : H T = none:=I.hok.fresh hp
  have nit : ∀ b o, H b = some o -> b ∉ ch:=λb o e z=>by rw [(hf b z).1] at e; cases e
  refine I.step (g':=s.gens) (d':=s.drawn) (ch:=ch) (λb hb=>?_) (λb o _ _ hc e _=>k b o hc e) (λb o _ _ hc e _=>⟨o.slots, k b o hc e⟩)
    (λb o _ e n=>by rw [Xv (Nat.ne_of_lt (Nat.lt_of_lt_of_le (Heap.lt_size e) hp))]; exact n)
    (λb o hc e=>⟨o, k b o hc e⟩) (λb xs e=>by rw [Xv (Yc e hn)]; exact e) (λb o xs e=>by rw [Xv (Yc e hn)]; exact e) (λb ps e=>⟨#[], by rw [Xv (Yc e hn), e]; simp⟩) (λm hm=>?_) (λb v e=>?_) I.bare
  . obtain ⟨f0, f1, f2, f3, f4, f5⟩ := hf b hb
    exact ⟨f3, f1, f4, f5⟩
  . obtain ⟨o, es, ep, ho, r⟩ := hm
    exact ⟨o, es, ep, k _ o (λz=>(hf _ z).2.1 rfl) ho, r⟩
  . by_cases hb : b = T
    . subst hb; rw [Yv] at e; cases e; exact new
    . rw [Xv hb] at e
      refine (I.hok b v e).stay (λc o hc q=>k c o ?_ q) (λc q=>by rw [Xv (Yc q hn)]; exact q) λc xs q=>by rw [Xv (Yc q hn)]; exact q
      rcases hc with z | z
      . rw [z]; exact nit b v e
      . exact nit c _ z
end
noncomputable def Ite (K : PySem.W.Frag) (a : Addr) : It:=
  ⟨λi H=>∃ xs x, SqL K H a xs /\ xs[i]? = some x, λi H y H'=>∃ p x, y = .ref p /\ H p = none /\ H' = upd H p (.tup [.int (i : Int), x]) /\ ∀ xs, SqL K H a xs -> xs[i]? = some x, λi H=>∃ xs, SqL K H a xs /\ xs.length <= i⟩
theorem CS {P : Program} {w : World} {K : PySem.W.Frag} {elts : List Expr} {k : Nat} {pos : Pos} (a e it : Addr) (h1 : e ≠ it) (h2 : a ≠ e) (h3 : a ≠ it) :
    Turn P w K (.Tuple elts k pos) (Ite K a) [e, it] e (λi h=>(∃ old, IsEnum h e it (i : Int) old) /\ h.IsListIter it a i) where
  mem:=by simp
  obj:=λi h st b hb=>by
    obtain ⟨⟨old, eo⟩, o, io, c, d⟩:=st
    rcases List.mem_cons.mp hb with z | z
    . subst z
      exact ⟨_, eo, λv z=>by cases z⟩
    . have z := List.mem_singleton.mp z
      subst z
      exact ⟨o, io, λv z=>by rw [d] at z; cases z⟩
  keep:=λi h h' st k=>⟨let ⟨old, eo⟩:=st.1; ⟨old, k e (by simp) _ eo⟩, st.2.at λo q=>k it (by simp) o q⟩
  item:=by
    intro X hP hw hK hc i pins s σ H E I hf st hg
    subst hP hw hK
    obtain ⟨xs, x, hq, hx⟩:=hg
    obtain ⟨its, rv, p, hz⟩:=I.list hq
    obtain ⟨u, hu, ru⟩:=rv.get hx
    obtain ⟨⟨old, eo⟩, io⟩:=id st
    have hu' : its.toArray[i]? = some u:=by simpa using hu
    have W:=WalksT.enumerate (prog:=X.prog) (w:=X.w) (A:=X.A) (I.ok.hd hc) e it a h1 h2 h3 its.toArray
    refine wpAny_pyNext_enum_item eo io p.isList hu' h1 λh' eo' io' tup sz kk=>?_
    have hT : ∀ b o, s.heap.get? b = some o -> s.heap.objs.size ≠ b:=λb o q z=>absurd (Heap.lt_size q) (by rw [← z]; exact Nat.lt_irrefl _)
    have hTe:=hT e _ eo
    have hTi : s.heap.objs.size ≠ it:=by obtain ⟨o, q, _⟩:=io; exact hT it o q
    have ha' : h'.IsList a its.toArray:=p.isList.at λo q=>kk a o h2 h3 q
    refine ⟨_, rfl, W.go elts k pos i s.heap.objs.size _ _ _ ⟨⟨_, eo'⟩, io', ha', hTe, hTi⟩ λh'' st' kk'=>?_⟩
    obtain ⟨st2, io2, _⟩:=st'
    have tup2:=kk' _ _ (by simp [hTe, hTi]) tup
    have k2 : ∀ b o, b ∉ [e, it] -> s.heap.get? b = some o -> h''.get? b = some o:=λb o q1 q=>kk' b o q1 (kk b o (λz=>q1 (by simp [z])) (λz=>q1 (by simp [z])) q)
    refine ⟨.ref s.heap.objs.size, upd H s.heap.objs.size (.tup [.int (i : Int), x]), I.turnLay (h':=h'') (t':=s.toks + 1) k2 hf (Nat.le_refl _) ⟨by show 2 <= sizeLine; decide, [.int (i : Int) s.toks, u], .cons ⟨_, rfl⟩ (.cons ru .nil), ⟨_, tup2, rfl, _, rfl⟩⟩, rfl,
      ⟨_, x, rfl, I.hok.fresh (Nat.le_refl _), rfl, λys hy=>by rw [I.list_inj hy hq]; exact hx⟩, ⟨by simpa using st2, io2⟩, λb hb=>?_⟩
    rcases List.mem_cons.mp hb with z | z
    . rw [z, Xv hTe.symm]; exact (hf e (by simp)).1
    . rw [List.mem_singleton.mp z, Xv hTi.symm]; exact (hf it (by simp)).1
  done:=by
    intro X hP hw hK hc i pins s σ H E I hf st hg
    subst hP hw hK
    obtain ⟨xs, hq, hx⟩:=hg
    obtain ⟨its, rv, p, hz⟩:=I.list hq
    obtain ⟨⟨old, eo⟩, io⟩:=id st
    obtain ⟨f0, f1, f2, f3, f4, f5⟩:=hf it (by simp)
    have hl:=rv.length
    exact wpAny_pyNext_enum_end (I.ok.hd hc) eo io p.isList (by simp; lia) λh' eb=>⟨rfl, I.turned (t':=s.toks) (λb o hb q=>eb b o hb q) f0 f1 f3 f4 f5⟩
  self:=by
    intro A i s Q E st h
    obtain ⟨⟨old, eo⟩, io⟩:=st
    exact wpAny_pyIter_enum eo h
section
variable {X : Cx} {elts : List Expr} {k : Nat} {pos0 : Pos}
noncomputable def Lo (K : PySem.W.Frag) (tl : TE) : TI:=λσ H R=>tl σ H λx H1=>∃ a, x = .ref a /\ (∃ xs, SqL K H1 a xs) /\ R (Ite K a) H1
theorem Ck {l : Expr} {tl : TE} {p pos : Pos} (hg : Gl X "enumerate") (hm : X.mg "enumerate" = none) (hl : PE X l tl) (hs : autoParam (starEach [l] X.env = [(false, eval l X.env)]) L2.Zau5._auto_1) :
    PI X (.Tuple elts k pos0) (.Call (.Name "enumerate" p) [l] [] pos) (Lo X.K tl):=by
  intro pins s σ H R I h
  refine wpAny_Call_Name_kw (V2 I hg hm boot_enumerate ?_)
  refine PyProof.Rows.callWith_type1 ?_ hs rfl
  rw [hs]
  show wpAny _ _ (spliced ((false, eval l X.env) :: backTo pos [])) _ _ s
  refine Calls.spliced_cons (thn (hl pins s σ H _ I h) λv s1 ⟨x, H1, I1, r1, a, ex, ⟨xs, hq⟩, q⟩=>?_)
  subst ex
  cases r1
  obtain ⟨its, rv, pl, hz⟩:=I1.list hq
  refine Calls.spliced_nil ?_
  have hlt : a < s1.heap.objs.size:=by obtain ⟨o, n, ho, _⟩:=pl; exact Heap.lt_size ho
  refine call_enumerate_list pl.isList λh' en io sz kk=>?_
  refine wpAny_pyIter_enum en ?_
  refine ⟨_, [s1.heap.objs.size + 1, s1.heap.objs.size], _, _, H1, rfl, I1.kept (t':=s1.toks) kk, CS a _ _ (Nat.ne_of_gt (Nat.lt_succ_self _)) (Nat.ne_of_lt (Nat.lt_succ_of_lt hlt)) (Nat.ne_of_lt hlt), ⟨⟨_, en⟩, io⟩, λb hb=>?_, q⟩
  have hb' : s1.heap.objs.size <= b:=by
    rcases List.mem_cons.mp hb with z | z
    . rw [z]; exact Nat.le_succ _
    . rw [List.mem_singleton.mp z]; exact Nat.le_refl _
  exact I1.fpOk hb' (I1.hok.fresh hb')
end
noncomputable def Ci (K : PySem.W.Frag) : V -> List V -> Hp -> VK -> Prop:=λx vs H Q=>∃ l xs y, ∃ j : Nat, x = .ref l /\ vs = [y] /\ SqL K H l xs /\ JD y = true /\ xs.all JD = true /\ (∃ z, xs[j]? = some z /\ eqV z y = true) /\ (∀ (m : Nat) z, m < j -> xs[m]? = some z -> eqV z y = false) /\ Q (.int (j : Int)) H
section
variable {X : Cx}
theorem BC : MtR X "list.index" (Ci X.K):=by
  intro pins s σ H x vs v us Q I rx rv h
  obtain ⟨l, xs, y, j, rfl, rfl, hq, fy, fs, ⟨z, hz, ez⟩, hm, q⟩:=h
  cases rx
  obtain ⟨u, rfl, ry⟩:=Ym.one rv
  obtain ⟨its, r, pl, hle⟩:=I.list hq
  have hl:=r.length
  have hjl:=(List.getElem?_eq_some_iff.mp hz).1
  have ge : ∀ (m : Nat) (w : V), xs[m]? = some w -> ∀ hm : m < its.toArray.size, eqU y its.toArray[m] = eqV w y:=λm w hw hm=>by
    obtain ⟨u', hu', ru'⟩:=r.get hw
    have e : its.toArray[m] = u':=by
      have:=(List.getElem?_eq_some_iff.mp hu').2
      simpa using this
    rw [e]
    exact D0 ru' (List.all_eq_true.mp fs w (List.mem_of_getElem? hw))
  obtain ⟨o, n, ho, hc, hd, hs⟩:=id pl
  obtain ⟨cls, dict, data, slots⟩:=o
  cases hc; cases hd; cases hs
  refine call_meets F.slot_list_index ⟨_, ho, rfl⟩ F.entry_list_index (F.args_list_index_2 _ _) (SeqAt.list_indexAt l its.toArray n none slots u (eqU y) j (by rw [List.size_toArray]; lia) ?_ ?_ ?_) ⟨ho, λw hw=>JO ry fy r fs w (by simpa using hw), ?_⟩
  . have : sizeLine < 2 ^ 63 - 1 := by decide
    lia
  . rw [ge j z hz]; exact ez
  . intro m hm' hlt
    rw [ge m xs[m] (List.getElem?_eq_getElem (by lia))]
    exact hm m _ hlt (List.getElem?_eq_getElem (by lia))
  . exact ⟨.int (j : Int), H, I.tok _, ⟨_, rfl⟩, q⟩
end
section
variable {α : Type} [DecidableEq α] {r : Enc α} {d : Nat}
end
section
variable {X : Cx} {o e f : Expr} {td ty tx : TE} {apos cpos : Pos}
end
section
variable {X : Cx} {elt tg iter : Expr} {ifs : List Expr} {scope sc : Scope} {pos : Pos} {n : Nat} {tns : List Str} {caps : List (Nat × Str)} {wi : TI} {g : TG} {tt : TT} {te : TE}
end
variable {X : Cx}
theorem Kp {l : List Expr} {p : Pos} {es : List Expr} {env : Env} : starEach (.List l p :: es) env = (false, eval (.List l p) env) :: starEach es env:=rfl
theorem Dc {X : Cx} (K : PySem.W.Frag) (h : X.K = K) : MtR X "list.index" (Ci K):=by subst h; exact BC
variable {X : Cx} {o e : Expr} {es : List Expr} {to : TE} {t : TA} {name : Str} {apos cpos : Pos} {T id : String} {r : V -> List V -> Hp -> VK -> Prop}
theorem LN (K : PySem.W.Frag) (hK : X.K = K) (pa : PlainAttrs T) (slot : Slot T name id) (hty : typeOf (.builtin id) = pure (.type "method_descriptor")) (hm : MtR X id r) (ho : PE X o to) (ha : PA X (e :: es) t)
    (hbase : autoParam (attributeBase o name X.env (eval o X.env) = eval o X.env) L2.Zau5._auto_1)
    (hfew : autoParam (((backTo cpos (starEach (e :: es) X.env)).all (λx=>!x.1) && (backToKw cpos (keywordEach [] X.env)).all (λx=>x.1.isSome)
      && decide ((e :: es).length + ([] : List Keyword).length + (if ([] : List Keyword).isEmpty then 0 else 1) < 30)) = true) L2.Zau5._auto_1)
    (hline : autoParam ((apos.endLine == cpos.line) = true) L2.Zau5._auto_1) (hs : autoParam (starEach (e :: es) X.env = (false, eval e X.env) :: starEach es X.env) L2.Zau5._auto_1) (hplain : autoParam ((backTo cpos (starEach es X.env)).any (·.1) = false) L2.Zau5._auto_1) :
    PE X (.Call (.Attribute o name apos) (e :: es) [] cpos) (tBM K T r to t):=by
  subst hK
  exact Z9 pa slot hty hm ho ha hbase hfew hline hs hplain
end L2
namespace PySem
open PySem.Spec
namespace SeqAt
open MeetsSeq
end SeqAt
end PySem
namespace L2
open PySem PySem.Spec PyProof.Rows
section
variable {X : Cx}
end
noncomputable def MQ (K : PySem.W.Frag) : List V -> Hp -> VK -> Prop:=λxs H Q=>∃ (a : Addr) (bs : List Bool), xs = [.ref a] /\ SqL K H a (bs.map V.bl) /\ Q (.bl (bs.all id)) H
section
variable {X : Cx}
theorem LH : ∀ (bs : List Bool), ((List.range bs.length).all λi=>(bs[i]?).getD true) = bs.all id:=λbs=>by
  rw [Bool.eq_iff_iff, List.all_eq_true, List.all_eq_true]
  constructor
  . intro h b hb
    obtain ⟨i, hi, rfl⟩:=List.getElem_of_mem hb
    have:=h i (List.mem_range.mpr hi)
    simpa [List.getElem?_eq_getElem hi] using this
  . intro h i hi
    have hi':=List.mem_range.mp hi
    simpa [List.getElem?_eq_getElem hi'] using h _ (List.getElem_mem hi')
theorem F3 (hc : X.calm = true) : Jc X (.builtin "all") (MQ X.K):=by
  intro pins s σ H xs us Q I r h
  obtain ⟨a, bs, rfl, hq, q⟩:=h
  obtain ⟨u, rfl, ru⟩:=CH r
  cases ru
  obtain ⟨its, rv, pl, hz⟩:=I.list hq
  have hlen : bs.length = its.length:=by have:=rv.length; rwa [List.length_map] at this
  have hlt : a < s.heap.objs.size:=by obtain ⟨o, n, ho, _⟩:=pl; exact Heap.lt_size ho
  refine call_all_walk (wpAny_pyIter_list pl.isList ?_)
  refine ⟨s.heap.objs.size, [s.heap.objs.size, a], [s.heap.objs.size], its.toArray.size, _, _, λi=>(bs[i]?).getD true, rfl, Walks.list (A:=X.A.in1) (I.ok.hd hc) _ a (Nat.ne_of_lt hlt) its.toArray,
    ⟨⟨_, Heap.get?_push_size _ rfl, rfl, rfl⟩, pl.isList.at λo e=>Heap.get?_push_of_some _ e⟩, λi v s' Q' E' hP hQ=>?_, λh' tk hk=>?_⟩
  . have hv' : its[i]? = some v := by simpa using hP
    obtain ⟨x, ex, rx⟩:=Gd rv hv'
    rw [List.getElem?_map] at ex
    cases e : bs[i]? with
    | none=>rw [e] at ex; cases ex
    | some z=>
      rw [e] at ex
      have ex' : V.bl z = x:=Option.some.inj ex
      subst ex'
      cases rx
      simp only [e, Option.getD_some] at hQ
      exact wpAny_truthy_bool hQ
  . have e : ((List.range its.toArray.size).all λi=>(bs[i]?).getD true) = bs.all id:=by
      rw [List.size_toArray, ← hlen]; exact LH bs
    rw [e]
    have I2 : Inv X pins σ H { s with heap:=h', toks:=tk }:=I.kept (t':=tk) λb o e=>hk b o (λhm=>by
      rw [List.mem_singleton.mp hm] at e
      exact absurd (Heap.lt_size e) (Nat.lt_irrefl _)) (Heap.get?_push_of_some _ e)
    exact ⟨.bl (bs.all id), H, I2, rfl, q⟩
end
section
variable {X : Cx} {α : Type} [DecidableEq α] {r : Enc α} {d : Nat}
end
section
variable {X : Cx}
end
section
variable {X : Cx}
variable {T : String} {name : Str} {id : String} {r : V -> List V -> Hp -> VK -> Prop} {o e : Expr} {es : List Expr} {to : TE} {t : TA} {apos cpos : Pos}
theorem Li {K : PySem.W.Frag} (hK : X.K = K) (pa : PlainAttrs T) (slot : Slot T name id) (hty : typeOf (.builtin id) = pure (.type "method_descriptor")) (hm : MtR X id r) (ho : PE X o to) (ha : PA X (e :: es) t)
    (hbase : autoParam (attributeBase o name X.env (eval o X.env) = eval o X.env) L2.Zau5._auto_1)
    (hfew : autoParam (((backTo cpos (starEach (e :: es) X.env)).all (λx=>!x.1) && (backToKw cpos (keywordEach [] X.env)).all (λx=>x.1.isSome)
      && decide ((e :: es).length + ([] : List Keyword).length + (if ([] : List Keyword).isEmpty then 0 else 1) < 30)) = true) L2.Zau5._auto_1)
    (hline : autoParam ((apos.endLine == cpos.line) = true) L2.Zau5._auto_1) (hs : autoParam (starEach (e :: es) X.env = (false, eval e X.env) :: starEach es X.env) L2.Zau5._auto_1) (hplain : autoParam ((backTo cpos (starEach es X.env)).any (·.1) = false) L2.Zau5._auto_1) :
    PE X (.Call (.Attribute o name apos) (e :: es) [] cpos) (tBM K T r to t):=LN K hK pa slot hty hm ho ha hbase hfew hline hs hplain
end
section
variable {X : Cx} {elt tg iter : Expr} {ifs : List Expr} {scope : Scope} {pos : Pos} {wi : TI} {g : TG} {tt : TT} {te : TE}
theorem YV {sc : Scope} {N0 : List Str} {tns : List Str} {caps : List (Nat × Str)} (hc : X.calm = true) (hi : PI X tg iter wi) (hG : Uz tns.length g)
    (hb : ∀ cl C s H ex E, PG (X.comp (tns ++ caps.map (·.2)) scope cl C s H ex E) tg g /\ PTs (X.comp (tns ++ caps.map (·.2)) scope cl C s H ex E) ifs tt /\ PE (X.comp (tns ++ caps.map (·.2)) scope cl C s H ex E) elt te)
    (hsc : autoParam (X.env.scope = sc) L2.Zau5._auto_1) (hN0 : autoParam (X.N = N0) L2.Zau5._auto_1) (ok : autoParam (Kl sc scope N0 tns caps = true) L2.Zau8._auto_1)
    (hs : autoParam (∀ x, foldedSetIterable iter X.env x = pure x) L2.Zau4._auto_1) :
    PE X (.ListComp elt [⟨tg, iter, ifs, 0⟩] scope pos) (CJ tns.length caps wi g tt te):=EH sc N0 tns caps hc hi hG hb hsc hN0 ok hs
end
section
variable {X : Cx} {tg l : Expr} {tl : TE} {p pos : Pos} {K : PySem.W.Frag}
theorem XT (h : X.K = K) (hl : PE X l tl) : PI X tg l (Ir K tl):=by subst h; exact Hn hl
end
section
variable {X : Cx}
end
set_option genInjectivity true in
inductive Pay where
  | non | int (i : Int) | tag (t : Str) (xs : List Int)
  deriving DecidableEq
structure Exc where
  cls : Str
  pay : Pay
set_option genInjectivity true in
inductive Rs (α : Type) where
  | bad | err (x : Exc) | ok (a : α)
noncomputable def Rs.bind {α β : Type} : Rs α -> (α -> Rs β) -> Rs β
  | .bad, _=>.bad
  | .err x, _=>.err x
  | .ok a, f=>f a
theorem Rs.ok_bind {α β : Type} (a : α) (f : α -> Rs β) : (Rs.ok a).bind f = f a:=rfl
noncomputable def chk {α : Type} (c : Prop) [Decidable c] (m : Rs α) : Rs α:=if c then m else .bad
theorem Xy {α : Type} {c : Prop} [Decidable c] {m : Rs α} (h : c) : chk c m = m:=if_pos h
noncomputable abbrev XG:=Addr × HO
noncomputable def Ix : HO -> Bool
  | .lst _=>true
  | .dK _=>true
  | .dT _=>true
  | _=>false
noncomputable def fl (OO : List (List XG)) : List Addr:=OO.flatten.map (·.1)
open Classical in
noncomputable def hid (H : Hp) (OO : List (List XG)) : Hp:=λb=>if b ∈ fl OO then none else H b
structure W (OO : List (List XG)) (H : Hp) : Prop where
  tr : ∀ c ∈ OO.flatten, H c.1 = some c.2
  nd : (fl OO).Nodup
  mu : ∀ c ∈ OO.flatten, Ix c.2 = true
theorem X3 {H : Hp} {OO} {b : Addr} {o : HO} (h : hid H OO b = some o) : H b = some o /\ b ∉ fl OO:=by
  unfold hid at h
  split at h
  . cases h
  . exact ⟨h, by assumption⟩
theorem Zq {H : Hp} {OO} {b : Addr} {o : HO} (h : H b = some o) (n : b ∉ fl OO) : hid H OO b = some o:=by
  unfold hid; rw [if_neg n]; exact h
theorem Xt {H : Hp} {OO} : Xz (hid H OO) H:=λb o h=>(X3 h).1
theorem Xj {H H' : Hp} {OO} (s : Xz H H') : Xz (hid H OO) (hid H' OO):=λb o h=>Zq (s _ _ (X3 h).1) (X3 h).2
theorem QA {H H' : Hp} {OO OO'} (s : Xz H H') (h : ∀ b, b ∈ fl OO' -> b ∈ fl OO) : Xz (hid H OO) (hid H' OO'):=λb o q=>Zq (s _ _ (X3 q).1) λz=>(X3 q).2 (h b z)
theorem X6 {C : List XG} {OO} : fl (C :: OO) = C.map (·.1) ++ fl OO:=by simp [fl]
theorem DP {OO} : fl ([] :: OO) = fl OO:=by simp [fl]
theorem Zx {H : Hp} {OO} : hid H ([] :: OO) = hid H OO:=by unfold hid; rw [DP]
theorem W.keep {OO} {H H' : Hp} (w : W OO H) (s : Xz H H') : W OO H':=⟨λc hc=>s _ _ (w.tr c hc), w.nd, w.mu⟩
theorem W.of {OO OO' : List (List XG)} {H : Hp} (w : W OO H) (h : OO'.flatten.Perm OO.flatten) : W OO' H:=
  ⟨λc hc=>w.tr c (h.mem_iff.mp hc), (h.map _).nodup_iff.mpr w.nd, λc hc=>w.mu c (h.mem_iff.mp hc)⟩
theorem W.sub {OO OO' : List (List XG)} {H : Hp} (w : W OO H) (h : OO'.flatten.Sublist OO.flatten) : W OO' H:=
  ⟨λc hc=>w.tr c (h.mem hc), (h.map _).nodup w.nd, λc hc=>w.mu c (h.mem hc)⟩
theorem W.tail {C OO} {H : Hp} (w : W (C :: OO) H) : W OO H:=w.sub (by simp)
theorem W.nil {OO} {H : Hp} (w : W OO H) : W ([] :: OO) H:=w.of (by simp)
theorem W.cell {C OO} {H : Hp} (w : W (C :: OO) H) : ∀ c ∈ C, H c.1 = some c.2:=λc hc=>w.tr c (by simp [hc])
theorem Jx {OO : List (List XG)} {c : XG} (h : c ∈ OO.flatten) : c.1 ∈ fl OO:=List.mem_map.mpr ⟨c, h, rfl⟩
theorem Cn {OO : List (List XG)} {b : Addr} (h : b ∈ fl OO) : ∃ o, (b, o) ∈ OO.flatten:=by
  obtain ⟨⟨a, o⟩, hc, rfl⟩:=List.mem_map.mp h
  exact ⟨o, hc⟩
theorem W.fresh {OO} {H : Hp} (w : W OO H) {p : Addr} (h : H p = none) : p ∉ fl OO:=λz=>by
  obtain ⟨o, ho⟩:=Cn z
  have:=w.tr _ ho
  rw [h] at this; cases this
theorem W.new {OO} {H : Hp} (w : W OO H) {p : Addr} (h : H p = none) {o : HO} (m : Ix o = true) : W ([(p, o)] :: OO) (upd H p o):=by
  have hf:=w.fresh h
  refine ⟨λc hc=>?_, ?_, λc hc=>?_⟩
  . simp only [List.flatten_cons, List.cons_append, List.nil_append, List.mem_cons] at hc
    rcases hc with rfl | hc
    . exact Yv
    . rw [Xv (λe=>hf (by rw [← e]; exact Jx hc))]; exact w.tr c hc
  . rw [X6]; simpa using ⟨hf, w.nd⟩
  . simp only [List.flatten_cons, List.cons_append, List.nil_append, List.mem_cons] at hc
    rcases hc with rfl | hc
    . exact m
    . exact w.mu c hc
theorem QL {OO} {H : Hp} {p : Addr} (h : H p = none) {o : HO} : Xz (hid H OO) (hid (upd H p o) ([(p, o)] :: OO)):=λb u q=>by
  obtain ⟨q1, q2⟩:=X3 q
  have hb : b ≠ p:=Yc q1 h
  refine Zq (by rw [Xv hb]; exact q1) ?_
  rw [X6]; simpa using ⟨hb, q2⟩
theorem ZG {OO} {H : Hp} (w : W OO H) {p : Addr} (h : H p = none) {o : HO} : hid (upd H p o) OO p = some o:=Zq Yv (w.fresh h)
class MonoE {α : Type} (r : Enc α) : Prop where
  mono : ∀ {K : PySem.W.Frag} {H H' : Hp} {v : V} {a : α}, Xz H H' -> r K H v a -> r K H' v a
noncomputable def MK : HO -> Bool
  | .tup _=>true
  | .frz _ _=>true
  | _=>false
noncomputable def Fp (H H' : Hp) : Prop:=∀ b o, H b = some o -> MK o = true -> H' b = some o
theorem Xz.i {H H' : Hp} (s : Xz H H') : Fp H H':=λb o h _=>s b o h
theorem W.i {OO} {H : Hp} (w : W OO H) : Fp H (hid H OO):=λb o h i=>Zq h λz=>by
  obtain ⟨u, hu⟩:=Cn z
  have h1:=w.tr _ hu
  have h2:=w.mu _ hu
  rw [h] at h1
  have e : o = u:=Option.some.inj h1
  subst e
  revert i h2; cases o <;> simp [MK, Ix]
class FlatE {α : Type} (r : Enc α) : Prop where
  flat : ∀ {K : PySem.W.Frag} {H H' : Hp} {v : V} {a : α}, Fp H H' -> r K H v a -> r K H' v a
instance {α : Type} {r : Enc α} [f : FlatE r] : MonoE r:=⟨λs h=>f.flat s.i h⟩
noncomputable def Xr : Enc Bool:=λ_ _ v b=>v = .bl b
noncomputable def Ql : Enc Str:=λ_ _ v x=>v = .str x
noncomputable def rV {α : Type} (r : Enc α) : Enc (List α):=λK H v as=>∃ a xs, v = .ref a /\ H a = some (.lst xs) /\ Paired (r K H) xs as
noncomputable def rP2 {α β : Type} (r : Enc α) (q : Enc β) : Enc (α × β):=λK H v p=>∃ a x y, v = .ref a /\ H a = some (.tup [x, y]) /\ r K H x p.1 /\ q K H y p.2
noncomputable def rP3 {α β γ : Type} (r : Enc α) (q : Enc β) (t : Enc γ) : Enc (α × β × γ):=λK H v p=>∃ a x y z, v = .ref a /\ H a = some (.tup [x, y, z]) /\ r K H x p.1 /\ q K H y p.2.1 /\ t K H z p.2.2
instance {α : Type} {r : Enc α} [m : MonoE r] : MonoE (rV r):=⟨λs r9=>by obtain ⟨a, xs, e, q, p⟩:=r9; exact ⟨a, xs, e, s _ _ q, Paired.imp2 (λ_ _ z=>m.mono s z) p⟩⟩
instance {α β : Type} {r : Enc α} {q : Enc β} [m : MonoE r] [n : MonoE q] : MonoE (rP2 r q):=⟨λs r9=>by obtain ⟨a, x, y, e, h, p1, p2⟩:=r9; exact ⟨a, x, y, e, s _ _ h, m.mono s p1, n.mono s p2⟩⟩
instance {α β : Type} {r : Enc α} {q : Enc β} [m : FlatE r] [n : FlatE q] : FlatE (rP2 r q):=⟨λs r9=>by obtain ⟨a, x, y, e, h, p1, p2⟩:=r9; exact ⟨a, x, y, e, s _ _ h rfl, m.flat s p1, n.flat s p2⟩⟩
instance {α β γ : Type} {r : Enc α} {q : Enc β} {t : Enc γ} [m : MonoE r] [n : MonoE q] [k : MonoE t] : MonoE (rP3 r q t):=⟨λs r9=>by obtain ⟨a, x, y, z, e, h, p1, p2, p3⟩:=r9; exact ⟨a, x, y, z, e, s _ _ h, m.mono s p1, n.mono s p2, k.mono s p3⟩⟩
instance {α β γ : Type} {r : Enc α} {q : Enc β} {t : Enc γ} [m : FlatE r] [n : FlatE q] [k : FlatE t] : FlatE (rP3 r q t):=⟨λs r9=>by obtain ⟨a, x, y, z, e, h, p1, p2, p3⟩:=r9; exact ⟨a, x, y, z, e, s _ _ h rfl, m.flat s p1, n.flat s p2, k.flat s p3⟩⟩
instance : FlatE Xa:=⟨λ_ h=>h⟩
instance : FlatE Xr:=⟨λ_ h=>h⟩
instance : FlatE Ql:=⟨λ_ h=>h⟩
instance {α : Type} {r : Enc α} [m : MonoE r] : MonoE (rL r):=⟨λs r9=>by obtain ⟨a, xs, e, q, p⟩:=r9; exact ⟨a, xs, e, s.seq q, Paired.imp2 (λ_ _ z=>m.mono s z) p⟩⟩
noncomputable abbrev OE (α : Type):=PySem.W.Frag -> Hp -> V -> α -> List XG -> Prop
inductive P3 {α β γ : Type} (F : α -> β -> γ -> Prop) : List α -> List β -> List γ -> Prop where
  | nil : P3 F [] [] []
  | cons {a b c l m n} : F a b c -> P3 F l m n -> P3 F (a :: l) (b :: m) (c :: n)
noncomputable def oF {α : Type} (r : Enc α) : OE α:=λK h v a C=>C = [] /\ r K h v a
noncomputable def oL {α : Type} (o : OE α) : OE (List α):=λK h v as C=>∃ p xs Cs, v = .ref p /\ P3 (o K h) xs as Cs /\ C = (p, .lst xs) :: Cs.flatten
noncomputable def oT2 {α β : Type} (o : OE α) (q : OE β) : OE (α × β):=λK h v a C=>∃ p x y C1 C2, v = .ref p /\ h p = some (.tup [x, y]) /\ o K h x a.1 C1 /\ q K h y a.2 C2 /\ C = C1 ++ C2
section
variable {α β γ δ : Type}
theorem P3.imp {F G : α -> β -> γ -> Prop} (h : ∀ a b c, F a b c -> G a b c) : ∀ {l m n}, P3 F l m n -> P3 G l m n:=λp=>by
  induction p with
  | nil=>exact .nil
  | cons r _ ih=>exact .cons (h _ _ _ r) ih
theorem P3.app {F : α -> β -> γ -> Prop} : ∀ {l m n l' m' n'}, P3 F l m n -> P3 F l' m' n' -> P3 F (l ++ l') (m ++ m') (n ++ n'):=λp h=>by
  induction p with
  | nil=>exact h
  | cons r _ ih=>exact .cons r ih
theorem P3.snoc {F : α -> β -> γ -> Prop} {l m n a b c} (h : P3 F l m n) (r : F a b c) : P3 F (l ++ [a]) (m ++ [b]) (n ++ [c]):=h.app (.cons r .nil)
theorem P3.len {F : α -> β -> γ -> Prop} : ∀ {l m n}, P3 F l m n -> l.length = m.length /\ n.length = m.length:=λp=>by
  induction p with
  | nil=>exact ⟨rfl, rfl⟩
  | cons _ _ ih=>exact ⟨congrArg Nat.succ ih.1, congrArg Nat.succ ih.2⟩
theorem P3.pair {F : α -> β -> γ -> Prop} {G : α -> β -> Prop} : ∀ {l m n}, P3 F l m n -> (∀ a b c, c ∈ n -> F a b c -> G a b) -> Paired G l m:=λp h=>by
  induction p with
  | nil=>exact .nil
  | cons r _ ih=>exact .cons (h _ _ _ List.mem_cons_self r) (ih λa b c hc=>h a b c (List.mem_cons_of_mem _ hc))
theorem P3.get {F : α -> β -> γ -> Prop} : ∀ {l m n} {i : Nat} {b : β}, P3 F l m n -> m[i]? = some b -> ∃ a c, l[i]? = some a /\ n[i]? = some c /\ F a b c
  | _, _, _, _, _, .nil, e=>by simp at e
  | _, _, _, 0, _, .cons r _, e=>by simp at e; subst e; exact ⟨_, _, rfl, rfl, r⟩
  | _, _, _, i + 1, b, .cons _ t, e=>by
    obtain ⟨a, c, h1, h2, h3⟩:=P3.get (i:=i) (b:=b) t (by simpa using e)
    exact ⟨a, c, by simpa using h1, by simpa using h2, h3⟩
theorem P3.set {F : α -> β -> γ -> Prop} {a : α} {b : β} {c : γ} (r : F a b c) : ∀ {l m n} (i : Nat), P3 F l m n -> P3 F (l.set i a) (m.set i b) (n.set i c)
  | _, _, _, _, .nil=>.nil
  | _, _, _, 0, .cons _ t=>.cons r t
  | _, _, _, i + 1, .cons q t=>.cons q (P3.set r i t)
theorem P3.flat {F : α -> β -> Prop} : ∀ {l : List α} {m : List β} {n : List (List XG)}, P3 (λa b c=>c = [] /\ F a b) l m n -> Paired F l m /\ n.flatten = []:=λp=>by
  induction p with
  | nil=>exact ⟨.nil, rfl⟩
  | cons r _ ih=>exact ⟨.cons r.2 ih.1, by rw [List.flatten_cons, r.1, ih.2]; rfl⟩
theorem P3.of {F : α -> β -> Prop} : ∀ {l : List α} {m : List β}, Paired F l m -> P3 (λa b (c : List XG)=>c = [] /\ F a b) l m (List.replicate m.length [])
  | _, _, .nil=>.nil
  | _, _, .cons r t=>.cons ⟨rfl, r⟩ (P3.of t)
theorem YL : ∀ n : Nat, (List.replicate n ([] : List XG)).flatten = []
  | 0=>rfl
  | n + 1=>by simp [List.replicate_succ, YL n]
end
class MonoO {α : Type} (o : OE α) : Prop where
  mono : ∀ {K : PySem.W.Frag} {H H' : Hp} {v : V} {a : α} {C : List XG}, Xz H H' -> o K H v a C -> o K H' v a C
class FlatO {α : Type} (o : OE α) : Prop where
  flat : ∀ {K : PySem.W.Frag} {H H' : Hp} {v : V} {a : α} {C : List XG}, Fp H H' -> o K H v a C -> o K H' v a C
class FrzC {α : Type} (o : OE α) (r : outParam (Enc α)) : Prop where
  frz : ∀ {K : PySem.W.Frag} {H H' : Hp} {v : V} {a : α} {C : List XG}, o K H v a C -> Xz H H' -> (∀ c ∈ C, H' c.1 = some c.2) -> r K H' v a
instance {α : Type} {r : Enc α} [m : MonoE r] : MonoO (oF r):=⟨λs h=>⟨h.1, m.mono s h.2⟩⟩
instance {α : Type} {r : Enc α} [m : FlatE r] : FlatO (oF r):=⟨λs h=>⟨h.1, m.flat s h.2⟩⟩
instance {α : Type} {r : Enc α} [m : MonoE r] : FrzC (oF r) r:=⟨λh s _=>m.mono s h.2⟩
instance {α : Type} {o : OE α} [m : MonoO o] : MonoO (oL o):=⟨λs r9=>by obtain ⟨p, xs, Cs, e, q, c⟩:=r9; exact ⟨p, xs, Cs, e, q.imp λ_ _ _ z=>m.mono s z, c⟩⟩
instance {α : Type} {o : OE α} [m : FlatO o] : FlatO (oL o):=⟨λs r9=>by obtain ⟨p, xs, Cs, e, q, c⟩:=r9; exact ⟨p, xs, Cs, e, q.imp λ_ _ _ z=>m.flat s z, c⟩⟩
instance {α : Type} {o : OE α} {r : Enc α} [m : FrzC o r] : FrzC (oL o) (rV r):=⟨λ⟨p, xs, Cs, e, q, c⟩ s hc=>by
  subst c
  exact ⟨p, xs, e, hc _ List.mem_cons_self, q.pair λa b c hm z=>m.frz z s λx hx=>hc x (List.mem_cons_of_mem _ (List.mem_flatten.mpr ⟨c, hm, hx⟩))⟩⟩
instance {α β : Type} {o : OE α} {q : OE β} [m : MonoO o] [n : MonoO q] : MonoO (oT2 o q):=⟨λs r9=>by obtain ⟨p, x, y, C1, C2, e, h, h1, h2, c⟩:=r9; exact ⟨p, x, y, C1, C2, e, s _ _ h, m.mono s h1, n.mono s h2, c⟩⟩
instance {α β : Type} {o : OE α} {q : OE β} [m : FlatO o] [n : FlatO q] : FlatO (oT2 o q):=⟨λs r9=>by obtain ⟨p, x, y, C1, C2, e, h, h1, h2, c⟩:=r9; exact ⟨p, x, y, C1, C2, e, s _ _ h rfl, m.flat s h1, n.flat s h2, c⟩⟩
instance {α β : Type} {o : OE α} {q : OE β} {r : Enc α} {t : Enc β} [m : FrzC o r] [n : FrzC q t] : FrzC (oT2 o q) (rP2 r t):=⟨λ⟨p, x, y, C1, C2, e, h, h1, h2, c⟩ s hc=>by
  subst c
  exact ⟨p, x, y, e, s _ _ h, m.frz h1 s λc hm=>hc c (by simp [hm]), n.frz h2 s λc hm=>hc c (by simp [hm])⟩⟩
structure SC where
  p : Hp -> Prop
  mono : ∀ h h', Xz h h' -> p h -> p h'
noncomputable def SC.nil : SC:=⟨λ_=>True, λ_ _ _ _=>True.intro⟩
noncomputable def SC.and (S T : SC) : SC:=⟨λh=>S.p h /\ T.p h, λ_ _ s q=>⟨S.mono _ _ s q.1, T.mono _ _ s q.2⟩⟩
noncomputable def SC.one {α : Type} (K : PySem.W.Frag) (r : Enc α) [m : MonoE r] (v : V) (a : α) : SC:=⟨λh=>r K h v a, λ_ _ s q=>m.mono s q⟩
noncomputable def SC.oneO {α : Type} (K : PySem.W.Frag) (o : OE α) [m : MonoO o] (v : V) (a : α) (C : List XG) : SC:=⟨λh=>o K h v a C, λ_ _ s q=>m.mono s q⟩
noncomputable abbrev SC.add {α : Type} (S : SC) (K : PySem.W.Frag) (r : Enc α) [m : MonoE r] (v : V) (a : α) : SC:=S.and (SC.one K r v a)
noncomputable abbrev SC.addO {α : Type} (S : SC) (K : PySem.W.Frag) (o : OE α) [m : MonoO o] (v : V) (a : α) (C : List XG) : SC:=S.and (SC.oneO K o v a C)
theorem SC.i {S T : SC} {h : Hp} (q : S.p h) (p : T.p h) : (S.and T).p h:=⟨q, p⟩
theorem SC.t {h : Hp} : SC.nil.p h:=True.intro
theorem SC.p.l {S T : SC} {h : Hp} (q : (S.and T).p h) : S.p h:=q.1
theorem SC.p.r {S T : SC} {h : Hp} (q : (S.and T).p h) : T.p h:=q.2
noncomputable def PZ {β : Type} (Er : Exc -> Hp -> Prop) (F : β -> Hp -> Prop) (H : Hp) (m : Rs β) : Prop:=
  match m with
  | .bad=>False
  | .err x=>∀ H', Xz H H' -> Er x H'
  | .ok b=>F b H
section
variable (K : PySem.W.Frag) (Er : Exc -> Hp -> Prop) (S : SC) (OO OO' : List (List XG)) (σ : St)
noncomputable def FB {α : Type} (r : Enc α) (Q : VK) (a : α) (H : Hp) : Prop:=∀ v H', Xz H H' -> r K H' v a -> Q v H'
noncomputable def FO {α : Type} (o : OE α) (Q : VK) (a : α) (H : Hp) : Prop:=∀ v C H', Xz H H' -> W (C :: OO') H' -> Xz (hid H OO) (hid H' (C :: OO')) -> o K (hid H' (C :: OO')) v a C -> Q v H'
noncomputable def FT (Q : Bool -> Hp -> Prop) (b : Bool) (H : Hp) : Prop:=∀ H', Xz H H' -> Q b H'
noncomputable def EvB {α : Type} (te : TE) (r : Enc α) (m : Rs α) : Prop:=∀ H Q, W OO H -> S.p (hid H OO) -> PZ Er (FB K r Q) H m -> te σ H Q
noncomputable def Ev {α : Type} (te : TE) (o : OE α) (m : Rs α) : Prop:=∀ H Q, W OO H -> S.p (hid H OO) -> PZ Er (FO K OO OO' o Q) H m -> te σ H Q
noncomputable def EvT (tt : TT) (m : Rs Bool) : Prop:=∀ H Q, W OO H -> S.p (hid H OO) -> PZ Er (FT Q) H m -> tt σ H Q
end
section
variable {K : PySem.W.Frag} {Er : Exc -> Hp -> Prop} {S : SC} {OO OO' OO2 : List (List XG)} {σ : St} {α β γ : Type}
theorem FB.tr {r : Enc α} {Q : VK} : ∀ a H H', Xz H H' -> FB K r Q a H -> FB K r Q a H':=λa H H' s h v H2 s2 q=>h v H2 (s.trans s2) q
theorem FO.tr {o : OE α} {Q : VK} : ∀ a H H', Xz H H' -> FO K OO OO' o Q a H -> FO K OO OO' o Q a H':=λa H H' s h v C H2 s2 w m q=>h v C H2 (s.trans s2) w ((Xj s).trans m) q
theorem FT.tr {Q : Bool -> Hp -> Prop} : ∀ b H H', Xz H H' -> FT Q b H -> FT Q b H':=λa H H' s h H2 s2=>h H2 (s.trans s2)
theorem EvB.run {te : TE} {r : Enc α} {m : Rs α} (he : EvB K Er S OO σ te r m) {H : Hp} {Q : VK} (w : W OO H) (s : S.p (hid H OO)) {f : α -> Rs β} {F : β -> Hp -> Prop} (hF : ∀ b H H', Xz H H' -> F b H -> F b H') (P : PZ Er F H (m.bind f))
    (hk : ∀ a v H', Xz H H' -> W OO H' -> S.p (hid H' OO) -> r K H' v a -> PZ Er F H' (f a) -> Q v H') : te σ H Q:=by
  refine he H Q w s ?_
  cases m with
  | bad=>exact P
  | err x=>exact P
  | ok a=>
    intro v H' s' hr
    refine hk a v H' s' (w.keep s') (S.mono _ _ (Xj s') s) hr ?_
    have P' : PZ Er F H (f a):=P
    revert P'
    cases f a with
    | bad=>exact λz=>z
    | err x=>exact λz H2 s2=>z H2 (s'.trans s2)
    | ok b=>exact λz=>hF b H H' s' z
theorem EvT.run {tt : TT} {m : Rs Bool} (he : EvT Er S OO σ tt m) {H : Hp} {Q : Bool -> Hp -> Prop} (w : W OO H) (s : S.p (hid H OO)) {f : Bool -> Rs β} {F : β -> Hp -> Prop} (hF : ∀ b H H', Xz H H' -> F b H -> F b H') (P : PZ Er F H (m.bind f))
    (hk : ∀ b H', Xz H H' -> W OO H' -> S.p (hid H' OO) -> PZ Er F H' (f b) -> Q b H') : tt σ H Q:=by
  refine he H Q w s ?_
  cases m with
  | bad=>exact P
  | err x=>exact P
  | ok a=>
    intro H' s'
    refine hk a H' s' (w.keep s') (S.mono _ _ (Xj s') s) ?_
    have P' : PZ Er F H (f a):=P
    revert P'
    cases f a with
    | bad=>exact λz=>z
    | err x=>exact λz H2 s2=>z H2 (s'.trans s2)
    | ok b=>exact λz=>hF b H H' s' z
theorem Ev.toB {te : TE} {o : OE α} {r : Enc α} [z : FrzC o r] {m : Rs α} (he : Ev K Er S OO OO σ te o m) : EvB K Er S OO σ te r m:=λH Q w s P=>by
  refine he H Q w s ?_
  cases m with
  | bad=>exact P
  | err x=>exact P
  | ok a=>exact λv C H' s' w' m' ho=>P v H' s' (z.frz ho Xt w'.cell)
theorem Ev.frz {te : TE} {o : OE α} {r : Enc α} [z : FrzC o r] {m : Rs α} (he : Ev K Er S OO OO' σ te o m) : Ev K Er S OO OO' σ te (oF r) m:=λH Q w s P=>by
  refine he H Q w s ?_
  cases m with
  | bad=>exact P
  | err x=>exact P
  | ok a=>
    intro v C H' s' w' m' ho
    have hs : Xz (hid H' (C :: OO')) (hid H' ([] :: OO')):=QA (Xz.refl _) λb hb=>by rw [DP] at hb; rw [X6]; simp [hb]
    refine P v [] H' s' w'.tail.nil (m'.trans hs) ⟨rfl, z.frz ho hs λc hc=>Zq (w'.cell c hc) ?_⟩
    rw [DP]
    have:=w'.nd
    rw [X6] at this
    intro hb
    exact (List.nodup_append.mp this).2.2 c.1 (List.mem_map.mpr ⟨c, hc, rfl⟩) c.1 hb rfl
theorem Xb {r : Enc α} [z : MonoE r] {v : V} {a : α} (i : Nat) (hσ : σ[i]? = some (some v)) (h : ∀ x, S.p x -> r K x v a) : EvB K Er S OO σ (UY i) r (.ok a):=λH Q w s P=>
  ⟨v, hσ, P v H (Xz.refl _) (z.mono Xt (h _ s))⟩
theorem Zp {o : OE α} {r : Enc α} [z : FrzC o r] {v : V} {a : α} {C : List XG} (i k : Nat) (hσ : σ[i]? = some (some v)) (hk : OO[k]? = some C) (h : ∀ x, S.p x -> o K x v a C) : EvB K Er S OO σ (UY i) r (.ok a):=λH Q w s P=>
  ⟨v, hσ, P v H (Xz.refl _) (z.frz (h _ s) Xt λc hc=>w.tr c (List.mem_flatten.mpr ⟨C, List.mem_of_getElem? hk, hc⟩))⟩
theorem Yf : ∀ {OO : List (List XG)} {k : Nat} {C : List XG}, OO[k]? = some C -> (C :: OO.set k []).flatten.Perm OO.flatten
  | [], _, _, h=>by simp at h
  | D :: OO, 0, C, h=>by simp at h; subst h; simp
  | D :: OO, k + 1, C, h=>by
    have:=Yf (OO:=OO) (k:=k) (C:=C) (by simpa using h)
    simp only [List.set_cons_succ, List.flatten_cons] at this ⊢
    refine List.Perm.trans ?_ (this.append_left D)
    rw [← List.append_assoc, ← List.append_assoc]
    exact List.perm_append_comm.append_right _
theorem QO {OO OO' : List (List XG)} (h : OO'.flatten.Perm OO.flatten) (b : Addr) : b ∈ fl OO' ↔ b ∈ fl OO:=(h.map (·.1)).mem_iff
theorem X7 {H : Hp} {OO OO' : List (List XG)} (h : OO'.flatten.Perm OO.flatten) : hid H OO' = hid H OO:=by
  funext b; unfold hid
  by_cases hb : b ∈ fl OO
  . rw [if_pos hb, if_pos ((QO h b).mpr hb)]
  . rw [if_neg hb, if_neg λz=>hb ((QO h b).mp z)]
theorem YK {o : OE α} {v : V} {a : α} {C : List XG} (i k : Nat) (hσ : σ[i]? = some (some v)) (hk : OO[k]? = some C) (h : ∀ x, S.p x -> o K x v a C) : Ev K Er S OO (OO.set k []) σ (UY i) o (.ok a):=λH Q w s P=>by
  have hp:=Yf hk
  exact ⟨v, hσ, P v C H (Xz.refl _) (w.of hp) (by rw [X7 hp]; exact Xz.refl _) (by rw [X7 hp]; exact h _ s)⟩
theorem Xe (n : Int) : EvB K Er S OO σ (tC (.int n)) Xa (.ok n):=λH Q w s P=>P _ H (Xz.refl _) rfl
theorem ZA (b : Bool) : EvB K Er S OO σ (tC (.bl b)) Xr (.ok b):=λH Q w s P=>P _ H (Xz.refl _) rfl
theorem J1 (x : Str) : EvB K Er S OO σ (tC (.str x)) Ql (.ok x):=λH Q w s P=>P _ H (Xz.refl _) rfl
theorem J2 {ta tb : TE} {g : Int -> Int -> V} {r : Enc β} {f : Int -> Int -> β} {ma mb : Rs Int} (hg : ∀ K H i j, r K H (g i j) (f i j)) (ha : EvB K Er S OO σ ta Xa ma) (hb : EvB K Er S OO σ tb Xa mb) :
    EvB K Er S OO σ (tOp (rI0 g) ta tb) r (ma.bind λa=>mb.bind λb=>.ok (f a b)):=λH Q w s P=>
  ha.run w s FB.tr P λa x H1 s1 w1 q1 r1 P1=>hb.run w1 q1 FB.tr P1 λb y H2 s2 w2 q2 r2 P2=>⟨a, b, r1, r2, P2 _ H2 (Xz.refl _) (hg K H2 a b)⟩
theorem Uq {ta tb : TE} {Cc : Int -> Int -> Prop} {g : Int -> Int -> V} {r : Enc β} {f : Int -> Int -> Rs β} {ma mb : Rs Int} (hg : ∀ K H i j c, f i j = .ok c -> Cc i j /\ r K H (g i j) c) (he : ∀ i j x, f i j ≠ .err x)
    (ha : EvB K Er S OO σ ta Xa ma) (hb : EvB K Er S OO σ tb Xa mb) :
    EvB K Er S OO σ (tOp (rI Cc g) ta tb) r (ma.bind λa=>mb.bind λb=>f a b):=λH Q w s P=>
  ha.run w s FB.tr P λa x H1 s1 w1 q1 r1 P1=>hb.run w1 q1 FB.tr P1 λb y H2 s2 w2 q2 r2 P2=>by
    cases e : f a b with
    | bad=>rw [e] at P2; exact P2.elim
    | err x=>exact absurd e (he a b x)
    | ok c=>
      rw [e] at P2
      obtain ⟨h1, h2⟩:=hg K H2 a b c e
      exact ⟨a, b, r1, r2, h1, P2 _ H2 (Xz.refl _) h2⟩
noncomputable def Z5 (a b : Int) : Rs Int:=chk ((-(2 ^ 64) < a /\ a < 2 ^ 64) ∨ (-(2 ^ 64) < b /\ b < 2 ^ 64)) (.ok (a * b))
noncomputable def ZK (a b : Int) : Rs Int:=chk (0 < b) (.ok (a % b))
noncomputable def Le (a b : Int) : Rs Int:=chk (0 < b /\ b.natAbs.log2 < 9000) (.ok (a / b))
noncomputable def Hy (a b : Int) : Rs Int:=chk (0 <= b /\ b <= 1000000 /\ a.natAbs < 2 ^ 64) (.ok (a ^ b.toNat))
theorem Zn {c : Prop} [Decidable c] {m : Rs α} {a : α} (h : chk c m = .ok a) : c /\ m = .ok a:=by
  unfold chk at h; split at h
  . exact ⟨by assumption, h⟩
  . cases h
theorem Qk {c : Prop} [Decidable c] {a : α} {x : Exc} : chk c (Rs.ok a) ≠ .err x:=by
  unfold chk; split <;> exact λz=>nomatch z
theorem XZ {ta tb : TE} {ma mb : Rs Int} (ha : EvB K Er S OO σ ta Xa ma) (hb : EvB K Er S OO σ tb Xa mb) : EvB K Er S OO σ (tOp (rI Lz λi j=>.int (i * j)) ta tb) Xa (ma.bind λa=>mb.bind λb=>Z5 a b):=
  Uq (λK H i j c h=>by obtain ⟨h1, h2⟩:=Zn h; cases h2; exact ⟨h1, rfl⟩) (λi j x=>Qk) ha hb
theorem XU {ta tb : TE} {ma mb : Rs Int} (ha : EvB K Er S OO σ ta Xa ma) (hb : EvB K Er S OO σ tb Xa mb) : EvB K Er S OO σ (tOp (rI (λ_ j=>0 < j) λi j=>.int (i % j)) ta tb) Xa (ma.bind λa=>mb.bind λb=>ZK a b):=
  Uq (λK H i j c h=>by obtain ⟨h1, h2⟩:=Zn h; cases h2; exact ⟨h1, rfl⟩) (λi j x=>Qk) ha hb
theorem Bb {ta tb : TE} {ma mb : Rs Int} (ha : EvB K Er S OO σ ta Xa ma) (hb : EvB K Er S OO σ tb Xa mb) : EvB K Er S OO σ (tOp (rI (λ_ j=>0 < j /\ j.natAbs.log2 < 9000) λi j=>.int (i / j)) ta tb) Xa (ma.bind λa=>mb.bind λb=>Le a b):=
  Uq (λK H i j c h=>by obtain ⟨h1, h2⟩:=Zn h; cases h2; exact ⟨h1, rfl⟩) (λi j x=>Qk) ha hb
theorem Vj {ta tb : TE} {ma mb : Rs Int} (ha : EvB K Er S OO σ ta Xa ma) (hb : EvB K Er S OO σ tb Xa mb) : EvB K Er S OO σ (tOp (rI MJ λi j=>.int (i ^ j.toNat)) ta tb) Xa (ma.bind λa=>mb.bind λb=>Hy a b):=
  Uq (λK H i j c h=>by obtain ⟨h1, h2⟩:=Zn h; cases h2; exact ⟨h1, rfl⟩) (λi j x=>Qk) ha hb
theorem XS {ta tb : TE} {ma mb : Rs Int} (ha : EvB K Er S OO σ ta Xa ma) (hb : EvB K Er S OO σ tb Xa mb) : EvB K Er S OO σ (tOp (rI0 λi j=>.int (i + j)) ta tb) Xa (ma.bind λa=>mb.bind λb=>.ok (a + b)):=J2 (λ_ _ _ _=>rfl) ha hb
theorem Jd {ta tb : TE} {ma mb : Rs Int} (ha : EvB K Er S OO σ ta Xa ma) (hb : EvB K Er S OO σ tb Xa mb) : EvB K Er S OO σ (tOp (rI0 λi j=>.int (i - j)) ta tb) Xa (ma.bind λa=>mb.bind λb=>.ok (a - b)):=J2 (λ_ _ _ _=>rfl) ha hb
theorem Jq {ta tb : TE} {ma mb : Rs Int} (ha : EvB K Er S OO σ ta Xa ma) (hb : EvB K Er S OO σ tb Xa mb) : EvB K Er S OO σ (tOp (rI0 λi j=>.bl (decide (i < j))) ta tb) Xr (ma.bind λa=>mb.bind λb=>.ok (decide (a < b))):=J2 (λ_ _ _ _=>rfl) ha hb
theorem Eo {ta tb : TE} {ma mb : Rs Int} (ha : EvB K Er S OO σ ta Xa ma) (hb : EvB K Er S OO σ tb Xa mb) : EvB K Er S OO σ (tOp (rI0 λi j=>.bl (decide (i <= j))) ta tb) Xr (ma.bind λa=>mb.bind λb=>.ok (decide (a <= b))):=J2 (λ_ _ _ _=>rfl) ha hb
theorem UO {ta tb : TE} {ma mb : Rs Int} (ha : EvB K Er S OO σ ta Xa ma) (hb : EvB K Er S OO σ tb Xa mb) : EvB K Er S OO σ (tOp (rI0 λi j=>.bl (decide (j < i))) ta tb) Xr (ma.bind λa=>mb.bind λb=>.ok (decide (b < a))):=J2 (λ_ _ _ _=>rfl) ha hb
theorem QC {ta : TE} {ma : Rs Int} (ha : EvB K Er S OO σ ta Xa ma) : EvB K Er S OO σ (tUn (rU λi=>.int (-i)) ta) Xa (ma.bind λa=>.ok (-a)):=λH Q w s P=>
  ha.run w s FB.tr P λa x H1 s1 w1 q1 r1 P1=>⟨a, r1, P1 _ H1 (Xz.refl _) rfl⟩
class Scal {α : Type} [DecidableEq α] (r : Enc α) : Prop where
  to : ∀ {K : PySem.W.Frag} {H H' : Hp} {x y : V} {a b : α}, r K H x a -> r K H' y b -> Mp x y = true /\ decide (x = y) = decide (a = b)
instance : Scal Xa:=⟨fun {K H H' x y a b} h1 h2=>by cases (show x = .int a from h1); cases (show y = .int b from h2); exact ⟨rfl, by simp⟩⟩
instance : Scal Xr:=⟨fun {K H H' x y a b} h1 h2=>by cases (show x = .bl a from h1); cases (show y = .bl b from h2); exact ⟨rfl, by simp⟩⟩
instance : Scal Ql:=⟨fun {K H H' x y a b} h1 h2=>by cases (show x = .str a from h1); cases (show y = .str b from h2); exact ⟨rfl, by simp⟩⟩
theorem Zs [DecidableEq α] {r : Enc α} [z : Scal r] [MonoE r] {ta tb : TE} {ma mb : Rs α} (ha : EvB K Er S OO σ ta r ma) (hb : EvB K Er S OO σ tb r mb) : EvB K Er S OO σ (tOp rEq ta tb) Xr (ma.bind λa=>mb.bind λb=>.ok (decide (a = b))):=λH Q w s P=>
  ha.run w s FB.tr P λa x H1 s1 w1 q1 r1 P1=>hb.run w1 q1 FB.tr P1 λb y H2 s2 w2 q2 r2 P2=>by
    obtain ⟨h1, h2⟩:=z.to r1 r2
    exact ⟨h1, P2 _ H2 (Xz.refl _) (by rw [h2]; rfl)⟩
theorem LO [DecidableEq α] {r : Enc α} [z : Scal r] [MonoE r] {ta tb : TE} {ma mb : Rs α} (ha : EvB K Er S OO σ ta r ma) (hb : EvB K Er S OO σ tb r mb) : EvB K Er S OO σ (tOp rNe ta tb) Xr (ma.bind λa=>mb.bind λb=>.ok (!decide (a = b))):=λH Q w s P=>
  ha.run w s FB.tr P λa x H1 s1 w1 q1 r1 P1=>hb.run w1 q1 FB.tr P1 λb y H2 s2 w2 q2 r2 P2=>by
    obtain ⟨h1, h2⟩:=z.to r1 r2
    exact ⟨h1, P2 _ H2 (Xz.refl _) (by rw [h2]; rfl)⟩
theorem Ie [DecidableEq α] {r : Enc α} [z : MonoE r] {ta tb : TE} {ma mb : Rs α} (ha : EvB K Er S OO σ ta r ma) (hb : EvB K Er S OO σ tb r mb) : EvB K Er S OO σ (tOp (MM K r) ta tb) Xr (ma.bind λa=>mb.bind λb=>.ok (!decide (a = b))):=λH Q w s P=>
  ha.run w s FB.tr P λa x H1 s1 w1 q1 r1 P1=>hb.run w1 q1 FB.tr P1 λb y H2 s2 w2 q2 r2 P2=>⟨a, b, z.mono s2 r1, r2, P2 _ H2 (Xz.refl _) rfl⟩
theorem Fm {te : TE} {m : Rs Bool} (h : EvB K Er S OO σ te Xr m) : EvT Er S OO σ (tB te) m:=λH Q w s P=>h H _ w s (by
  cases m with
  | bad=>exact P
  | err x=>exact P
  | ok a=>exact λv H' s' r=>⟨a, r, P H' s'⟩)
theorem XC {te : TE} {m : Rs Bool} (h : EvB K Er S OO σ te Xr m) : EvT Er S OO σ (II te) m:=Fm h
theorem Ut {t : TT} {m : Rs Bool} (h : EvT Er S OO σ t m) : EvT Er S OO σ (MD t) (m.bind λb=>.ok (!b)):=λH Q w s P=>h.run w s FT.tr P λb H1 s1 w1 q1 P1=>P1 H1 (Xz.refl _)
noncomputable def LU (a b : Rs Bool) : Rs Bool:=a.bind λx=>if x = true then b else .ok false
noncomputable def orR (a b : Rs Bool) : Rs Bool:=a.bind λx=>if x = true then .ok true else b
theorem Ee {t u : TT} {m n : Rs Bool} (h : EvT Er S OO σ t m) (k : EvT Er S OO σ u n) : EvT Er S OO σ (tOr t u) (orR m n):=λH Q w s P=>h.run w s FT.tr P λb H1 s1 w1 q1 P1=>by
  cases b with
  | true=>exact P1 H1 (Xz.refl _)
  | false=>exact k H1 Q w1 q1 P1
theorem B0 {t : TE} {m : Rs Bool} (h : EvB K Er S OO σ t Xr m) : EvB K Er S OO σ (LA t) Xr (m.bind λb=>.ok (!b)):=λH Q w s P=>h.run w s FB.tr P λb x H1 s1 w1 q1 r1 P1=>⟨b, r1, P1 _ H1 (Xz.refl _) rfl⟩
theorem JK {t u : TE} {m n : Rs Bool} (h : EvB K Er S OO σ t Xr m) (k : EvB K Er S OO σ u Xr n) : EvB K Er S OO σ (IQ t u) Xr (LU m n):=λH Q w s P=>h.run w s FB.tr P λb x H1 s1 w1 q1 r1 P1=>⟨b, r1, by
  cases b with
  | true=>rw [if_pos rfl] at P1 ⊢; exact k H1 Q w1 q1 P1
  | false=>exact P1 _ H1 (Xz.refl _) rfl⟩
theorem Md {c : TT} {ta tb : TE} {o : OE α} {mc : Rs Bool} {ma mb : Rs α} (hc : EvT Er S OO σ c mc) (ha : Ev K Er S OO OO' σ ta o ma) (hb : Ev K Er S OO OO' σ tb o mb) : Ev K Er S OO OO' σ (tIf c ta tb) o (mc.bind λb=>if b = true then ma else mb):=λH Q w s P=>
  hc.run w s FO.tr P λb H1 s1 w1 q1 P1=>by
    cases b with
    | true=>rw [if_pos rfl] at P1 ⊢; exact ha H1 Q w1 q1 P1
    | false=>exact hb H1 Q w1 q1 P1
end
section
variable (K : PySem.W.Frag) (Er : Exc -> Hp -> Prop) (S : SC) (OO : List (List XG)) (σ : St)
noncomputable def FS {α : Type} (r : Enc α) (Q : VK) (a : α) (H : Hp) : Prop:=∀ v H', Xz H H' -> r K (hid H' OO) v a -> Q v H'
noncomputable def EvS {α : Type} (te : TE) (r : Enc α) (m : Rs α) : Prop:=∀ H Q, W OO H -> S.p (hid H OO) -> PZ Er (FS K OO r Q) H m -> te σ H Q
noncomputable def rE {α : Type} (r : Enc α) (H : Hp) (v : V) (as : List α) : Prop:=∃ p xs, v = .ref p /\ H p = some (.lst xs) /\ Paired (r K (hid H OO)) xs as
noncomputable def FL {α : Type} (r : Enc α) (Q : VK) (as : List α) (H : Hp) : Prop:=∀ v H', Xz H H' -> rE K OO r H' v as -> Q v H'
noncomputable def EvL {α : Type} (te : TE) (r : Enc α) (m : Rs (List α)) : Prop:=∀ H Q, W OO H -> S.p (hid H OO) -> PZ Er (FL K OO r Q) H m -> te σ H Q
end
section
variable {K : PySem.W.Frag} {Er : Exc -> Hp -> Prop} {S : SC} {OO OO' OO2 : List (List XG)} {σ : St} {α β γ : Type}
theorem FS.tr {r : Enc α} {Q : VK} : ∀ a H H', Xz H H' -> FS K OO r Q a H -> FS K OO r Q a H':=λa H H' s h v H2 s2 q=>h v H2 (s.trans s2) q
theorem PZ.run {F : β -> Hp -> Prop} {f : α -> Rs β} {H H' : Hp} {a : α} {m : Rs α} (hm : m = .ok a) (hF : ∀ b H H', Xz H H' -> F b H -> F b H') (s : Xz H H') (P : PZ Er F H (m.bind f)) : PZ Er F H' (f a):=by
  subst hm
  have P' : PZ Er F H (f a):=P
  revert P'
  cases f a with
  | bad=>exact λz=>z
  | err x=>exact λz H2 s2=>z H2 (s.trans s2)
  | ok b=>exact λz=>hF b H H' s z
theorem EvS.run {te : TE} {r : Enc α} {m : Rs α} (he : EvS K Er S OO σ te r m) {H : Hp} {Q : VK} (w : W OO H) (s : S.p (hid H OO)) {f : α -> Rs β} {F : β -> Hp -> Prop} (hF : ∀ b H H', Xz H H' -> F b H -> F b H') (P : PZ Er F H (m.bind f))
    (hk : ∀ a v H', Xz H H' -> W OO H' -> S.p (hid H' OO) -> r K (hid H' OO) v a -> PZ Er F H' (f a) -> Q v H') : te σ H Q:=by
  refine he H Q w s ?_
  cases e : m with
  | bad=>rw [e] at P; exact P
  | err x=>rw [e] at P; exact P
  | ok a=>exact λv H' s' hr=>hk a v H' s' (w.keep s') (S.mono _ _ (Xj s') s) hr (PZ.run e hF s' P)
theorem EvL.run {te : TE} {r : Enc α} {m : Rs (List α)} (he : EvL K Er S OO σ te r m) {H : Hp} {Q : VK} (w : W OO H) (s : S.p (hid H OO)) {f : List α -> Rs β} {F : β -> Hp -> Prop} (hF : ∀ b H H', Xz H H' -> F b H -> F b H') (P : PZ Er F H (m.bind f))
    (hk : ∀ a v H', Xz H H' -> W OO H' -> S.p (hid H' OO) -> rE K OO r H' v a -> PZ Er F H' (f a) -> Q v H') : te σ H Q:=by
  refine he H Q w s ?_
  cases e : m with
  | bad=>rw [e] at P; exact P
  | err x=>rw [e] at P; exact P
  | ok a=>exact λv H' s' hr=>hk a v H' s' (w.keep s') (S.mono _ _ (Xj s') s) hr (PZ.run e hF s' P)
theorem PZ.imp {F G : β -> Hp -> Prop} {H : Hp} {m : Rs β} (P : PZ Er F H m) (h : ∀ b, m = .ok b -> F b H -> G b H) : PZ Er G H m:=by
  cases m with
  | bad=>exact P
  | err x=>exact P
  | ok b=>exact h b rfl P
theorem EvS.ev {te : TE} {r : Enc α} {m : Rs α} (he : EvS K Er S OO σ te r m) : Ev K Er S OO OO σ te (oF r) m:=λH Q w s P=>he H Q w s (P.imp λb _ h v H' s' q=>
  h v [] H' s' (w.keep s').nil (by rw [Zx]; exact Xj s') ⟨rfl, by rw [Zx]; exact q⟩)
theorem EvB.sh {te : TE} {r : Enc α} [z : FlatE r] {m : Rs α} (he : EvB K Er S OO σ te r m) : EvS K Er S OO σ te r m:=λH Q w s P=>he H Q w s (P.imp λb _ h v H' s' q=>h v H' s' (z.flat (w.keep s').i q))
theorem Ev.sh {te : TE} {o : OE α} {r : Enc α} [z : FrzC o r] {m : Rs α} (he : Ev K Er S OO OO σ te o m) : EvS K Er S OO σ te r m:=λH Q w s P=>he.frz H Q w s (P.imp λb _ h v C H' s' w' m' q=>by
  obtain ⟨rfl, q⟩:=q
  rw [Zx] at q
  exact h v H' s' q)
theorem Xk {r : Enc α} {v : V} {a : α} (i : Nat) (hσ : σ[i]? = some (some v)) (h : ∀ x, S.p x -> r K x v a) : EvS K Er S OO σ (UY i) r (.ok a):=λH Q w s P=>⟨v, hσ, P v H (Xz.refl _) (h _ s)⟩
theorem EvS.ls {te : TE} {r : Enc α} {m : Rs (List α)} (he : EvS K Er S OO σ te (rV r) m) : EvL K Er S OO σ te r m:=λH Q w s P=>he H Q w s (P.imp λb _ h v H' s' r9=>by obtain ⟨p, xs, e, q, pr⟩:=r9; exact h v H' s' ⟨p, xs, e, Xt _ _ q, pr⟩)
theorem EvB.ls {te : TE} {r : Enc α} [z : FlatE r] {m : Rs (List α)} (he : EvB K Er S OO σ te (rV r) m) : EvL K Er S OO σ te r m:=λH Q w s P=>he H Q w s (P.imp λb _ h v H' s' r9=>by obtain ⟨p, xs, e, q, pr⟩:=r9; exact h v H' s' ⟨p, xs, e, q, Paired.imp2 (λ_ _ z'=>z.flat (w.keep s').i z') pr⟩)
theorem Ev.ls {te : TE} {r : Enc α} [z : MonoE r] {m : Rs (List α)} (he : Ev K Er S OO OO σ te (oL (oF r)) m) : EvL K Er S OO σ te r m:=he.sh.ls
noncomputable def atR (as : List α) (i : Int) : Rs α:=match atI as i with
  | some a=>.ok a
  | none=>.bad
theorem G8 {as : List α} {i : Int} {a : α} (h : atR as i = .ok a) : atI as i = some a:=by
  unfold atR at h; split at h
  . cases h; assumption
  . cases h
theorem UM {as : List α} {i : Int} {x : Exc} : atR as i ≠ .err x:=by unfold atR; split <;> exact λz=>nomatch z
theorem Q7 {F : V -> α -> Prop} {xs : List V} {as : List α} {i : Int} {a : α} (p : Paired F xs as) (h : atI as i = some a) : ∃ x, atI xs i = some x /\ F x a:=by
  unfold atI at h ⊢
  rw [Paired.len p]
  cases e : ixN as.length i with
  | none=>rw [e] at h; cases h
  | some j=>
    rw [e] at h
    obtain ⟨x, h1, h2⟩:=Paired.getR p h
    exact ⟨x, h1, h2⟩
theorem PZ.okOf {F : β -> Hp -> Prop} {H : Hp} {m : Rs β} (he : ∀ x, m ≠ .err x) (P : PZ Er F H m) : ∃ b, m = .ok b /\ F b H:=by
  cases m with
  | bad=>exact P.elim
  | err x=>exact absurd rfl (he x)
  | ok b=>exact ⟨b, rfl, P⟩
theorem XI {ta tb : TE} {r : Enc α} [z : MonoE r] {ma : Rs (List α)} {mb : Rs Int} (ha : EvB K Er S OO σ ta (rV r) ma) (hb : EvB K Er S OO σ tb Xa mb) : EvB K Er S OO σ (tOp (Ed K) ta tb) r (ma.bind λas=>mb.bind λi=>atR as i):=λH Q w s P=>
  ha.run w s FB.tr P λa x H1 s1 w1 q1 ⟨p, xs, e, q, pr⟩ P1=>hb.run w1 q1 FB.tr P1 λb y H2 s2 w2 q2 r2 P2=>by
    obtain ⟨c, hc, P3⟩:=P2.okOf λx=>UM
    obtain ⟨u, h1, h2⟩:=Q7 pr (G8 hc)
    exact ⟨p, xs, b, u, e, r2, SqL.of (s2 _ _ q), h1, P3 u H2 (Xz.refl _) (z.mono s2 h2)⟩
theorem Lh {ta tb : TE} {r : Enc α} [z : MonoE r] {ma : Rs (List α)} {mb : Rs Int} (ha : EvL K Er S OO σ ta r ma) (hb : EvB K Er S OO σ tb Xa mb) : EvS K Er S OO σ (tOp (Ed K) ta tb) r (ma.bind λas=>mb.bind λi=>atR as i):=λH Q w s P=>
  ha.run w s FS.tr P λa x H1 s1 w1 q1 ⟨p, xs, e, q, pr⟩ P1=>hb.run w1 q1 FS.tr P1 λb y H2 s2 w2 q2 r2 P2=>by
    obtain ⟨c, hc, P3⟩:=P2.okOf λx=>UM
    obtain ⟨u, h1, h2⟩:=Q7 pr (G8 hc)
    exact ⟨p, xs, b, u, e, r2, SqL.of (s2 _ _ q), h1, P3 u H2 (Xz.refl _) (z.mono (Xj s2) h2)⟩
theorem CF {ta : TE} {r : Enc α} {q : Enc β} {m : Rs (α × β)} (ha : EvB K Er S OO σ ta (rP2 r q) m) : EvB K Er S OO σ (tOp (HU K) ta (tC (.int 0))) r (m.bind λp=>.ok p.1):=λH Q w s P=>
  ha.run w s FB.tr P λa x H1 s1 w1 q1 r9 P1=>by obtain ⟨p, x, y, e, q, h1, h2⟩:=r9; exact ⟨p, _, 0, x, e, rfl, SqT.of q, rfl, P1 _ H1 (Xz.refl _) h1⟩
theorem Jh {ta : TE} {r : Enc α} {q : Enc β} {m : Rs (α × β)} (ha : EvB K Er S OO σ ta (rP2 r q) m) : EvB K Er S OO σ (tOp (HU K) ta (tC (.int 1))) q (m.bind λp=>.ok p.2):=λH Q w s P=>
  ha.run w s FB.tr P λa x H1 s1 w1 q1 r9 P1=>by obtain ⟨p, x, y, e, q, h1, h2⟩:=r9; exact ⟨p, _, 1, y, e, rfl, SqT.of q, rfl, P1 _ H1 (Xz.refl _) h2⟩
theorem VA {ta : TE} {r : Enc α} {q : Enc β} {m : Rs (α × β)} (ha : EvS K Er S OO σ ta (rP2 r q) m) : EvS K Er S OO σ (tOp (HU K) ta (tC (.int 0))) r (m.bind λp=>.ok p.1):=λH Q w s P=>
  ha.run w s FS.tr P λa x H1 s1 w1 q1 r9 P1=>by obtain ⟨p, x, y, e, q, h1, h2⟩:=r9; exact ⟨p, _, 0, x, e, rfl, SqT.of (Xt _ _ q), rfl, P1 _ H1 (Xz.refl _) h1⟩
theorem Hq {ta : TE} {r : Enc α} {q : Enc β} {m : Rs (α × β)} (ha : EvS K Er S OO σ ta (rP2 r q) m) : EvS K Er S OO σ (tOp (HU K) ta (tC (.int 1))) q (m.bind λp=>.ok p.2):=λH Q w s P=>
  ha.run w s FS.tr P λa x H1 s1 w1 q1 r9 P1=>by obtain ⟨p, x, y, e, q, h1, h2⟩:=r9; exact ⟨p, _, 1, y, e, rfl, SqT.of (Xt _ _ q), rfl, P1 _ H1 (Xz.refl _) h2⟩
theorem YY {ta : TE} {r : Enc α} {m : Rs (List α)} (ha : EvB K Er S OO σ ta (rV r) m) : EvB K Er S OO σ (tCB (GP K) (XN ta ZX)) Xa (m.bind λas=>.ok (as.length : Int)):=λH Q w s P=>
  ha.run w s FB.tr P λa x H1 s1 w1 q1 r9 P1=>by obtain ⟨p, xs, e, q, pr⟩:=r9; exact ⟨p, xs, by rw [e], .inl (SqL.of q), P1 _ H1 (Xz.refl _) (by rw [Paired.len pr]; rfl)⟩
theorem IA {r : Enc α} [z : MonoE r] {xs : List V} {as : List α} {H : Hp} {Q : VK} (w : W OO H) (pr : Paired (r K (hid H OO)) xs as) (P : FO K OO OO (oL (oF r)) Q as H) : ∀ p, H p = none -> Q (.ref p) (upd H p (.lst xs)):=λp hp=>by
  have hn:=QL (OO:=OO) hp (o:=.lst xs)
  refine P (.ref p) [(p, .lst xs)] _ (XD hp _) (w.new hp rfl) hn ?_
  refine ⟨p, xs, List.replicate as.length [], rfl, (P3.of (Paired.imp2 (λ_ _ h=>z.mono hn h) pr)).imp λ_ _ _ h=>h, by rw [YL]⟩
theorem Paired.take' {F : α -> β -> Prop} : ∀ {l : List α} {m : List β} (n : Nat), Paired F l m -> Paired F (l.take n) (m.take n)
  | _, _, 0, _=>.nil
  | _, _, _ + 1, .nil=>.nil
  | _, _, n + 1, .cons r t=>.cons r (Paired.take' n t)
theorem Paired.drop' {F : α -> β -> Prop} : ∀ {l : List α} {m : List β} (n : Nat), Paired F l m -> Paired F (l.drop n) (m.drop n)
  | _, _, 0, h=>h
  | _, _, _ + 1, .nil=>.nil
  | _, _, n + 1, .cons _ t=>Paired.drop' n t
theorem Paired.rep' {F : α -> β -> Prop} {l : List α} {m : List β} (h : Paired F l m) : ∀ n : Nat, Paired F (List.replicate n l).flatten (List.replicate n m).flatten
  | 0=>.nil
  | n + 1=>by simp only [List.replicate_succ, List.flatten_cons]; exact Paired.app h (Paired.rep' h n)
noncomputable def FQ (as : List α) (lo hi : Option Int) : List α:=(as.drop (HT.sIx as.length 0 lo)).take (HT.sIx as.length as.length hi - HT.sIx as.length 0 lo)
theorem VP {F : V -> α -> Prop} {xs : List V} {as : List α} (p : Paired F xs as) (lo hi : Option Int) : Paired F (Iw xs lo hi) (FQ as lo hi):=by
  unfold Iw FQ; rw [Paired.len p]; exact Paired.take' _ (Paired.drop' _ p)
noncomputable def FP (Q : Option Int -> Hp -> Prop) (a : Option Int) (H : Hp) : Prop:=∀ H', Xz H H' -> Q a H'
noncomputable def EvP (Er : Exc -> Hp -> Prop) (S : SC) (OO : List (List XG)) (σ : St) (t : TO) (m : Rs (Option Int)) : Prop:=∀ H Q, W OO H -> S.p (hid H OO) -> PZ Er (FP Q) H m -> t σ H Q
theorem EvP.run {t : TO} {m : Rs (Option Int)} (he : EvP Er S OO σ t m) {H : Hp} {Q : Option Int -> Hp -> Prop} (w : W OO H) (s : S.p (hid H OO)) {f : Option Int -> Rs β} {F : β -> Hp -> Prop} (hF : ∀ b H H', Xz H H' -> F b H -> F b H') (P : PZ Er F H (m.bind f))
    (hk : ∀ a H', Xz H H' -> W OO H' -> S.p (hid H' OO) -> PZ Er F H' (f a) -> Q a H') : t σ H Q:=by
  refine he H Q w s ?_
  cases e : m with
  | bad=>rw [e] at P; exact P
  | err x=>rw [e] at P; exact P
  | ok a=>exact λH' s'=>hk a H' s' (w.keep s') (S.mono _ _ (Xj s') s) (PZ.run e hF s' P)
theorem UE : EvP Er S OO σ DR (.ok none):=λH Q w s P=>P H (Xz.refl _)
theorem Ui {te : TE} {m : Rs Int} (h : EvB K Er S OO σ te Xa m) : EvP Er S OO σ (ID te) (m.bind λi=>.ok (some i)):=λH Q w s P=>
  h.run w s (λ_ _ _ s h H2 s2=>h H2 (s.trans s2)) P λa v H1 s1 w1 q1 r1 P1=>⟨a, r1, P1 H1 (Xz.refl _)⟩
theorem GL {te : TE} {tl th : TO} {r : Enc α} [z : MonoE r] {m : Rs (List α)} {ml mh : Rs (Option Int)} (he : EvL K Er S OO σ te r m) (hl : EvP Er S OO σ tl ml) (hh : EvP Er S OO σ th mh) :
    Ev K Er S OO OO σ (tSl (L5 K) te tl th) (oL (oF r)) (m.bind λas=>ml.bind λlo=>mh.bind λhi=>.ok (FQ as lo hi)):=λH Q w s P=>
  he.run w s FO.tr P λas x H1 s1 w1 q1 ⟨p, xs, e, q, pr⟩ P1=>hl.run w1 q1 FO.tr P1 λlo H2 s2 w2 q2 P2=>hh.run w2 q2 FO.tr P2 λhi H3 s3 w3 q3 P3'=>
    ⟨p, xs, e, SqL.of (s3 _ _ (s2 _ _ q)), IA w3 (VP (Paired.imp2 (λ_ _ h=>z.mono ((Xj s2).trans (Xj s3)) h) pr) lo hi) P3'⟩
theorem BR {ta : TE} {r : Enc α} {m : Rs (List α)} (ha : EvB K Er S OO σ ta (rL r) m) : EvB K Er S OO σ (tCB (GP K) (XN ta ZX)) Xa (m.bind λas=>.ok (as.length : Int)):=λH Q w s P=>
  ha.run w s FB.tr P λa x H1 s1 w1 q1 r9 P1=>by obtain ⟨p, xs, e, q, pr⟩:=r9; exact ⟨p, xs, by rw [e], .inl q, P1 _ H1 (Xz.refl _) (by rw [Paired.len pr]; rfl)⟩
theorem HJ {ta tb : TE} {ma : Rs (List Int)} {mb : Rs Int} (ha : EvB K Er S OO σ ta (rL Xa) ma) (hb : EvB K Er S OO σ tb Xa mb) : EvB K Er S OO σ (tOp (Ed K) ta tb) Xa (ma.bind λas=>mb.bind λi=>atR as i):=λH Q w s P=>
  ha.run w s FB.tr P λa x H1 s1 w1 q1 ⟨p, xs, e, q, pr⟩ P1=>hb.run w1 q1 FB.tr P1 λb y H2 s2 w2 q2 r2 P2=>by
    obtain ⟨c, hc, P3⟩:=P2.okOf λx=>UM
    obtain ⟨u, h1, h2⟩:=Q7 pr (G8 hc)
    exact ⟨p, xs, b, u, e, r2, s2.seq q, h1, P3 u H2 (Xz.refl _) h2⟩
theorem DW {te : TE} {tl th : TO} {m : Rs (List Int)} {ml mh : Rs (Option Int)} (he : EvB K Er S OO σ te (rL Xa) m) (hl : EvP Er S OO σ tl ml) (hh : EvP Er S OO σ th mh) :
    Ev K Er S OO OO σ (tSl (L5 K) te tl th) (oL (oF Xa)) (m.bind λas=>ml.bind λlo=>mh.bind λhi=>.ok (FQ as lo hi)):=λH Q w s P=>
  he.run w s FO.tr P λas x H1 s1 w1 q1 ⟨p, xs, e, q, pr⟩ P1=>hl.run w1 q1 FO.tr P1 λlo H2 s2 w2 q2 P2=>hh.run w2 q2 FO.tr P2 λhi H3 s3 w3 q3 P3'=>
    ⟨p, xs, e, s3.seq (s2.seq q), IA w3 (VP (Paired.imp2 (λ_ _ h=>h) pr) lo hi) P3'⟩
noncomputable def FY (as bs : List α) : Rs (List α):=chk (as.length + bs.length <= sizeLine) (.ok (as ++ bs))
theorem Ct {ta tb : TE} {r : Enc α} [z : MonoE r] {ma mb : Rs (List α)} (ha : EvL K Er S OO σ ta r ma) (hb : EvL K Er S OO σ tb r mb) : Ev K Er S OO OO σ (tOp Mk ta tb) (oL (oF r)) (ma.bind λas=>mb.bind λbs=>FY as bs):=λH Q w s P=>
  ha.run w s FO.tr P λas x H1 s1 w1 q1 ⟨p, xs, e, q, pr⟩ P1=>hb.run w1 q1 FO.tr P1 λbs y H2 s2 w2 q2 ⟨p', ys, e', q', pr'⟩ P2=>by
    obtain ⟨c, hc, P3⟩:=P2.okOf λx=>Qk
    obtain ⟨h1, h2⟩:=Zn hc
    cases h2
    exact ⟨p, p', xs, ys, e, e', s2 _ _ q, q', by rw [Paired.len pr, Paired.len pr']; exact h1, IA w2 (Paired.app (Paired.imp2 (λ_ _ h=>z.mono (Xj s2) h) pr) pr') P3⟩
noncomputable def Fo (as : List α) (n : Int) : Rs (List α):=chk (-(2 ^ 63) <= n /\ n < 2 ^ 63 /\ as.length * n.toNat <= sizeLine) (.ok (List.replicate n.toNat as).flatten)
theorem U8 {ta tb : TE} {r : Enc α} [z : MonoE r] {ma : Rs (List α)} {mb : Rs Int} (ha : EvL K Er S OO σ ta r ma) (hb : EvB K Er S OO σ tb Xa mb) : Ev K Er S OO OO σ (tOp Mz ta tb) (oL (oF r)) (ma.bind λas=>mb.bind λn=>Fo as n):=λH Q w s P=>
  ha.run w s FO.tr P λas x H1 s1 w1 q1 ⟨p, xs, e, q, pr⟩ P1=>hb.run w1 q1 FO.tr P1 λn y H2 s2 w2 q2 r2 P2=>by
    obtain ⟨c, hc, P3⟩:=P2.okOf λx=>Qk
    obtain ⟨⟨h0, h1, h3⟩, h2⟩:=Zn hc
    cases h2
    exact ⟨p, n, xs, e, r2, s2 _ _ q, h0, h1, by rw [Paired.len pr]; exact h3, IA w2 (Paired.rep' (Paired.imp2 (λ_ _ h=>z.mono (Xj s2) h) pr) _) P3⟩
theorem Ga {ta : TE} {r : Enc α} [z : MonoE r] {ma : Rs (List α)} (ha : EvL K Er S OO σ ta r ma) : Ev K Er S OO OO σ (tCB (Bc K) (XN ta ZX)) (oL (oF r)) (ma.bind λas=>.ok as):=λH Q w s P=>
  ha.run w s FO.tr P λas x H1 s1 w1 q1 r9 P1=>by obtain ⟨p, xs, e, q, pr⟩:=r9; exact ⟨p, xs, by rw [e], .inl (SqL.of q), IA w1 pr P1⟩
noncomputable def QW (lo hi : Int) : List Int:=(List.range (hi - lo).toNat).map λ(i : Nat)=>lo + (i : Int)
theorem JC {o : OE α} : Ev K Er S OO OO σ (LZ ZX) (oL o) (.ok []):=λH Q w s P=>⟨Nat.zero_le _, λp hp=>P (.ref p) [(p, .lst [])] _ (XD hp _) (w.new hp rfl) (QL hp) ⟨p, [], [], rfl, .nil, rfl⟩⟩
noncomputable def FA {α : Type} (K : PySem.W.Frag) (OO : List (List XG)) (r : Enc α) (Q : List V -> Hp -> Prop) (as : List α) (H : Hp) : Prop:=∀ vs H', Xz H H' -> Paired (r K (hid H' OO)) vs as -> Q vs H'
noncomputable def EvA {α : Type} (K : PySem.W.Frag) (Er : Exc -> Hp -> Prop) (S : SC) (OO : List (List XG)) (σ : St) (t : TA) (r : Enc α) (m : Rs (List α)) : Prop:=∀ H Q, W OO H -> S.p (hid H OO) -> PZ Er (FA K OO r Q) H m -> t σ H Q
theorem Zf {r : Enc α} : EvA K Er S OO σ ZX r (.ok []):=λH Q w s P=>P [] H (Xz.refl _) .nil
theorem Xn {te : TE} {t : TA} {r : Enc α} [z : MonoE r] {m : Rs α} {n : Rs (List α)} (he : EvS K Er S OO σ te r m) (ht : EvA K Er S OO σ t r n) : EvA K Er S OO σ (XN te t) r (m.bind λa=>n.bind λas=>.ok (a :: as)):=λH Q w s P=>
  he.run w s (λb H H' s h vs H2 s2 p=>h vs H2 (s.trans s2) p) P λa x H1 s1 w1 q1 r1 P1=>by
    refine ht H1 _ w1 q1 ?_
    cases e : n with
    | bad=>rw [e] at P1; exact P1
    | err x=>rw [e] at P1; exact P1
    | ok as=>rw [e] at P1; exact λvs H2 s2 p=>P1 (x :: vs) H2 s2 (.cons (z.mono (Xj s2) r1) p)
theorem ZN {t : TA} {r : Enc α} [z : MonoE r] {m : Rs (List α)} (h : EvA K Er S OO σ t r m) : Ev K Er S OO OO σ (LZ t) (oL (oF r)) (m.bind λas=>chk (as.length <= sizeLine) (.ok as)):=λH Q w s P=>by
  refine h H _ w s ?_
  cases e : m with
  | bad=>rw [e] at P; exact P
  | err x=>rw [e] at P; exact P
  | ok as=>
    rw [e] at P
    intro vs H1 s1 p
    obtain ⟨c, hc, P3⟩:=PZ.okOf (λx=>Qk) (show PZ Er _ H (chk (as.length <= sizeLine) (.ok as)) from P)
    obtain ⟨h1, h2⟩:=Zn hc
    cases h2
    exact ⟨by rw [Paired.len p]; exact h1, IA (w.keep s1) p (FO.tr _ _ _ s1 P3)⟩
theorem JJ {ta tb : TE} {r : Enc α} {q : Enc β} [z : MonoE r] [y : MonoE q] {ma : Rs α} {mb : Rs β} (ha : EvS K Er S OO σ ta r ma) (hb : EvS K Er S OO σ tb q mb) : EvS K Er S OO σ (Iy (XN ta (XN tb ZX))) (rP2 r q) (ma.bind λa=>mb.bind λb=>.ok (a, b)):=λH Q w s P=>
  ha.run w s FS.tr P λa x H1 s1 w1 q1 r1 P1=>hb.run w1 q1 FS.tr P1 λb y' H2 s2 w2 q2 r2 P2=>
    ⟨by show 2 <= sizeLine; decide, λp hp=>P2 _ _ (XD hp _) ⟨p, x, y', rfl, ZG w2 hp, z.mono ((Xj s2).trans (Xj (XD hp _))) r1, y.mono (Xj (XD hp _)) r2⟩⟩
theorem Q1 {ta tb tc : TE} {r : Enc α} {q : Enc β} {t : Enc γ} [z : MonoE r] [y : MonoE q] [x : MonoE t] {ma : Rs α} {mb : Rs β} {mc : Rs γ} (ha : EvS K Er S OO σ ta r ma) (hb : EvS K Er S OO σ tb q mb) (hc : EvS K Er S OO σ tc t mc) :
    EvS K Er S OO σ (Iy (XN ta (XN tb (XN tc ZX)))) (rP3 r q t) (ma.bind λa=>mb.bind λb=>mc.bind λc=>.ok (a, b, c)):=λH Q w s P=>
  ha.run w s FS.tr P λa x' H1 s1 w1 q1 r1 P1=>hb.run w1 q1 FS.tr P1 λb y' H2 s2 w2 q2 r2 P2=>hc.run w2 q2 FS.tr P2 λc z' H3 s3 w3 q3 r3 P3=>
    ⟨by show 3 <= sizeLine; decide, λp hp=>P3 _ _ (XD hp _) ⟨p, x', y', z', rfl, ZG w3 hp, z.mono (((Xj s2).trans (Xj s3)).trans (Xj (XD hp _))) r1, y.mono ((Xj s3).trans (Xj (XD hp _))) r2, x.mono (Xj (XD hp _)) r3⟩⟩
end
section
variable {K : PySem.W.Frag} {Er : Exc -> Hp -> Prop} {S : SC} {OO OO' OO2 : List (List XG)} {σ : St} {α β γ ρ ι : Type} {α1 α2 α3 α4 α5 α6 : Type}
noncomputable def noE (m : Rs α) : Rs α:=match m with
  | .ok a=>.ok a
  | _=>.bad
theorem GU {m : Rs α} {a : α} (h : noE m = .ok a) : m = .ok a:=by
  cases m with
  | ok b=>exact h
  | bad=>cases h
  | err x=>cases h
theorem UW {m : Rs α} {x : Exc} : noE m ≠ .err x:=by cases m <;> exact λz=>nomatch z
noncomputable def FF (K : PySem.W.Frag) (o : OE α) (Q : VK) (a : α) (H : Hp) : Prop:=∀ v C H', W [C] H' -> Xz H (hid H' [C]) -> o K (hid H' [C]) v a C -> Q v H'
noncomputable def sp1 (r1 : Enc α1) (o : OE ρ) (f : α1 -> Rs ρ) (K : PySem.W.Frag) : Sp:=λvs H Q _=>∃ v1 a1 b, vs = [v1] /\ r1 K H v1 a1 /\ f a1 = .ok b /\ FF K o Q b H
noncomputable def sp2 (r1 : Enc α1) (r2 : Enc α2) (o : OE ρ) (f : α1 -> α2 -> Rs ρ) (K : PySem.W.Frag) : Sp:=λvs H Q _=>∃ v1 v2 a1 a2 b, vs = [v1, v2] /\ r1 K H v1 a1 /\ r2 K H v2 a2 /\ f a1 a2 = .ok b /\ FF K o Q b H
noncomputable def sp3 (r1 : Enc α1) (r2 : Enc α2) (r3 : Enc α3) (o : OE ρ) (f : α1 -> α2 -> α3 -> Rs ρ) (K : PySem.W.Frag) : Sp:=λvs H Q _=>∃ v1 v2 v3 a1 a2 a3 b, vs = [v1, v2, v3] /\ r1 K H v1 a1 /\ r2 K H v2 a2 /\ r3 K H v3 a3 /\ f a1 a2 a3 = .ok b /\ FF K o Q b H
noncomputable def sp4 (r1 : Enc α1) (r2 : Enc α2) (r3 : Enc α3) (r4 : Enc α4) (o : OE ρ) (f : α1 -> α2 -> α3 -> α4 -> Rs ρ) (K : PySem.W.Frag) : Sp:=λvs H Q _=>∃ v1 v2 v3 v4 a1 a2 a3 a4 b, vs = [v1, v2, v3, v4] /\ r1 K H v1 a1 /\ r2 K H v2 a2 /\ r3 K H v3 a3 /\ r4 K H v4 a4 /\ f a1 a2 a3 a4 = .ok b /\ FF K o Q b H
theorem Mi {C : List XG} {H H' : Hp} (w : W OO H) (w' : W [C] H') (m' : Xz H (hid H' [C])) : W (C :: OO) H' /\ Xz (hid H OO) (hid H' (C :: OO)) /\ Fp (hid H' [C]) (hid H' (C :: OO)):=by
  have s : Xz H H':=m'.trans Xt
  have f1 : fl [C] = C.map (·.1):=by simp [fl]
  have hd : ∀ b, b ∈ fl OO -> b ∉ C.map (·.1):=λb hb hc=>by
    obtain ⟨u, hu⟩:=Cn hb
    exact (X3 (m' _ _ (w.tr _ hu))).2 (by rw [f1]; exact hc)
  have w2 : W (C :: OO) H':=by
    refine ⟨λc hc=>?_, ?_, λc hc=>?_⟩
    . rw [List.flatten_cons, List.mem_append] at hc
      rcases hc with hc | hc
      . exact w'.tr c (by simp [hc])
      . exact s _ _ (w.tr c hc)
    . rw [X6]
      refine List.nodup_append.mpr ⟨by rw [← f1]; exact w'.nd, w.nd, λa ha b hb e=>?_⟩
      subst e; exact hd a hb ha
    . rw [List.flatten_cons, List.mem_append] at hc
      rcases hc with hc | hc
      . exact w'.mu c (by simp [hc])
      . exact w.mu c hc
  refine ⟨w2, λb u q=>?_, λb u q i=>?_⟩
  . obtain ⟨q1, q2⟩ := X3 q
    obtain ⟨q3, q4⟩:=X3 (m' _ _ q1)
    refine Zq q3 ?_
    rw [X6, List.mem_append]
    exact λz=>z.elim (λz=>q4 (by rw [f1]; exact z)) q2
  . exact w2.i b u (X3 q).1 i
theorem Vt {o : OE α} [z : FlatO o] {Q : VK} {b : α} {H : Hp} (w : W OO H) (P : FO K OO OO o Q b H) : FF K o Q b H:=λv C H' w' m' ho=>by
  obtain ⟨w2, h2, h3⟩:=Mi w w' m'
  exact P v C H' (m'.trans Xt) w2 h2 (z.flat h3 ho)
theorem YT {ta : TE} {r1 : Enc α1} {o : OE ρ} [FlatO o] {f : α1 -> Rs ρ} {ma : Rs α1} (ha : EvB K Er S OO σ ta r1 ma) : Ev K Er S OO OO σ (Ve (sp1 r1 o f K) [] E0 (XN ta ZX)) o (ma.bind λa=>noE (f a)):=λH Q w s P=>
  ha.run w s FO.tr P λa x H1 s1 w1 q1 r1 P1=>by
    obtain ⟨b, hb, P2⟩:=P1.okOf λx=>UW
    exact ⟨x, a, b, rfl, r1, GU hb, Vt w1 P2⟩
theorem Zh {ta tb : TE} {r1 : Enc α1} {r2 : Enc α2} [z1 : MonoE r1] {o : OE ρ} [FlatO o] {f : α1 -> α2 -> Rs ρ} {ma : Rs α1} {mb : Rs α2} (ha : EvB K Er S OO σ ta r1 ma) (hb : EvB K Er S OO σ tb r2 mb) :
    Ev K Er S OO OO σ (Ve (sp2 r1 r2 o f K) [] E0 (XN ta (XN tb ZX))) o (ma.bind λa=>mb.bind λb=>noE (f a b)):=λH Q w s P=>
  ha.run w s FO.tr P λa x H1 s1 w1 q1 r1 P1=>hb.run w1 q1 FO.tr P1 λb y H2 s2 w2 q2 r2 P2=>by
    obtain ⟨c, hc, P3⟩:=P2.okOf λx=>UW
    exact ⟨x, y, a, b, c, rfl, z1.mono s2 r1, r2, GU hc, Vt w2 P3⟩
theorem Qt {ta tb tc : TE} {r1 : Enc α1} {r2 : Enc α2} {r3 : Enc α3} [z1 : MonoE r1] [z2 : MonoE r2] {o : OE ρ} [FlatO o] {f : α1 -> α2 -> α3 -> Rs ρ} {ma : Rs α1} {mb : Rs α2} {mc : Rs α3} (ha : EvB K Er S OO σ ta r1 ma) (hb : EvB K Er S OO σ tb r2 mb) (hc : EvB K Er S OO σ tc r3 mc) :
    Ev K Er S OO OO σ (Ve (sp3 r1 r2 r3 o f K) [] E0 (XN ta (XN tb (XN tc ZX)))) o (ma.bind λa=>mb.bind λb=>mc.bind λc=>noE (f a b c)):=λH Q w s P=>
  ha.run w s FO.tr P λa x H1 s1 w1 q1 r1 P1=>hb.run w1 q1 FO.tr P1 λb y H2 s2 w2 q2 r2 P2=>hc.run w2 q2 FO.tr P2 λc z H3 s3 w3 q3 r3 P3=>by
    obtain ⟨d, hd, P4⟩:=P3.okOf λx=>UW
    exact ⟨x, y, z, a, b, c, d, rfl, z1.mono (s2.trans s3) r1, z2.mono s3 r2, r3, GU hd, Vt w3 P4⟩
theorem Q0 {ta tb tc td : TE} {r1 : Enc α1} {r2 : Enc α2} {r3 : Enc α3} {r4 : Enc α4} [z1 : MonoE r1] [z2 : MonoE r2] [z3 : MonoE r3] {o : OE ρ} [FlatO o] {f : α1 -> α2 -> α3 -> α4 -> Rs ρ} {ma : Rs α1} {mb : Rs α2} {mc : Rs α3} {md : Rs α4} (ha : EvB K Er S OO σ ta r1 ma) (hb : EvB K Er S OO σ tb r2 mb) (hc : EvB K Er S OO σ tc r3 mc) (hd : EvB K Er S OO σ td r4 md) :
    Ev K Er S OO OO σ (Ve (sp4 r1 r2 r3 r4 o f K) [] E0 (XN ta (XN tb (XN tc (XN td ZX))))) o (ma.bind λa=>mb.bind λb=>mc.bind λc=>md.bind λd=>noE (f a b c d)):=λH Q w s P=>
  ha.run w s FO.tr P λa x H1 s1 w1 q1 r1 P1=>hb.run w1 q1 FO.tr P1 λb y H2 s2 w2 q2 r2 P2=>hc.run w2 q2 FO.tr P2 λc z H3 s3 w3 q3 r3 P3=>hd.run w3 q3 FO.tr P3 λd u H4 s4 w4 q4 r4 P4=>by
    obtain ⟨e, he, P5⟩:=P4.okOf λx=>UW
    exact ⟨x, y, z, u, a, b, c, d, e, rfl, z1.mono (s2.trans (s3.trans s4)) r1, z2.mono (s3.trans s4) r2, z3.mono s4 r3, r4, GU he, Vt w4 P5⟩
structure Jn (γ ι : Type) where
  oo : ι -> List (List XG)
  ss : ι -> St
  sc : γ -> ι -> SC
inductive Ctl (ρ γ : Type) where
  | ret (r : ρ) | nx (g : γ)
noncomputable def FTd (K : PySem.W.Frag) (o : OE ρ) (D : Ends) (r : ρ) (h : Hp) : Prop:=∀ v C OO' H', W (C :: OO') H' -> Xz h (hid H' (C :: OO')) -> o K (hid H' (C :: OO')) v r C -> D.rt v H'
noncomputable def FNd (J : Jn γ ι) (D : Ends) (g : γ) (h : Hp) : Prop:=∀ x H', W (J.oo x) H' -> Xz h (hid H' (J.oo x)) -> (J.sc g x).p (hid H' (J.oo x)) -> D.nx (J.ss x) H'
noncomputable def FCd (K : PySem.W.Frag) (o : OE ρ) (J : Jn γ ι) (D : Ends) (c : Ctl ρ γ) (h : Hp) : Prop:=match c with
  | .ret r=>FTd K o D r h
  | .nx g=>FNd J D g h
class FdOk (Fd : Ends -> β -> Hp -> Prop) : Prop where
  tr : ∀ D b h h', Xz h h' -> Fd D b h -> Fd D b h'
instance {o : OE ρ} : FdOk (FTd K o):=⟨λD b h h' s q v C O H' w m x=>q v C O H' w (s.trans m) x⟩
instance {J : Jn γ ι} : FdOk (FNd J):=⟨λD b h h' s q x H' w m y=>q x H' w (s.trans m) y⟩
instance {o : OE ρ} {J : Jn γ ι} : FdOk (FCd K o J):=⟨λD b h h' s q=>by
  cases b with
  | ret r=>exact λv C O H' w m x=>q v C O H' w (s.trans m) x
  | nx g=>exact λx H' w m y=>q x H' w (s.trans m) y⟩
theorem PZ.tr {F : β -> Hp -> Prop} (hF : ∀ b H H', Xz H H' -> F b H -> F b H') {H H' : Hp} {m : Rs β} (s : Xz H H') (P : PZ Er F H m) : PZ Er F H' m:=by
  cases m with
  | bad=>exact P
  | err x=>exact λH2 s2=>P H2 (s.trans s2)
  | ok b=>exact hF b H H' s P
noncomputable def Sv (Er : Exc -> Hp -> Prop) (S : SC) (OO : List (List XG)) (σ : St) (t : TS) (Fd : Ends -> β -> Hp -> Prop) (m : Rs β) : Prop:=∀ H D, W OO H -> S.p (hid H OO) -> PZ Er (Fd D) (hid H OO) m -> t D σ H
variable {Fd : Ends -> β -> Hp -> Prop} [fd : FdOk Fd] {u : TS}
theorem Ev.st {te : TE} {o : OE α} {m : Rs α} (he : Ev K Er S OO OO' σ te o m) {H : Hp} {D : Ends} {Q : VK} (w : W OO H) (s : S.p (hid H OO)) {f : α -> Rs β} (P : PZ Er (Fd D) (hid H OO) (m.bind f))
    (hk : ∀ a v C H', W (C :: OO') H' -> S.p (hid H' (C :: OO')) -> o K (hid H' (C :: OO')) v a C -> PZ Er (Fd D) (hid H' (C :: OO')) (f a) -> Q v H') : te σ H Q:=by
  refine he H Q w s ?_
  cases m with
  | bad=>exact P
  | err x=>exact λH' s'=>P H' (Xt.trans s')
  | ok a=>exact λv C H' s' w' m' ho=>hk a v C H' w' (S.mono _ _ m' s) ho (PZ.tr (fd.tr D) m' P)
theorem EvB.st {te : TE} {r : Enc α} {m : Rs α} (he : EvB K Er S OO σ te r m) {H : Hp} {D : Ends} {Q : VK} (w : W OO H) (s : S.p (hid H OO)) {f : α -> Rs β} (P : PZ Er (Fd D) (hid H OO) (m.bind f))
    (hk : ∀ a v H', Xz H H' -> W OO H' -> S.p (hid H' OO) -> r K H' v a -> PZ Er (Fd D) (hid H' OO) (f a) -> Q v H') : te σ H Q:=by
  refine he H Q w s ?_
  cases m with
  | bad=>exact P
  | err x=>exact λH' s'=>P H' (Xt.trans s')
  | ok a=>exact λv H' s' hr=>hk a v H' s' (w.keep s') (S.mono _ _ (Xj s') s) hr (PZ.tr (fd.tr D) (Xj s') P)
theorem EvS.st {te : TE} {r : Enc α} {m : Rs α} (he : EvS K Er S OO σ te r m) {H : Hp} {D : Ends} {Q : VK} (w : W OO H) (s : S.p (hid H OO)) {f : α -> Rs β} (P : PZ Er (Fd D) (hid H OO) (m.bind f))
    (hk : ∀ a v H', Xz H H' -> W OO H' -> S.p (hid H' OO) -> r K (hid H' OO) v a -> PZ Er (Fd D) (hid H' OO) (f a) -> Q v H') : te σ H Q:=by
  refine he H Q w s ?_
  cases m with
  | bad=>exact P
  | err x=>exact λH' s'=>P H' (Xt.trans s')
  | ok a=>exact λv H' s' hr=>hk a v H' s' (w.keep s') (S.mono _ _ (Xj s') s) hr (PZ.tr (fd.tr D) (Xj s') P)
theorem EvT.st {tt : TT} {m : Rs Bool} (he : EvT Er S OO σ tt m) {H : Hp} {D : Ends} {Q : Bool -> Hp -> Prop} (w : W OO H) (s : S.p (hid H OO)) {f : Bool -> Rs β} (P : PZ Er (Fd D) (hid H OO) (m.bind f))
    (hk : ∀ b H', W OO H' -> S.p (hid H' OO) -> PZ Er (Fd D) (hid H' OO) (f b) -> Q b H') : tt σ H Q:=by
  refine he H Q w s ?_
  cases m with
  | bad=>exact P
  | err x=>exact λH' s'=>P H' (Xt.trans s')
  | ok a=>exact λH' s'=>hk a H' (w.keep s') (S.mono _ _ (Xj s') s) (PZ.tr (fd.tr D) (Xj s') P)
theorem Ur {OO : List (List XG)} {k : Nat} {C : List XG} : (OO.set k C).set k [] = OO.set k []:=by simp
theorem MY {C : List XG} {H : Hp} {k : Nat} (w : W (C :: OO) H) (hk : k < OO.length) : W (OO.set k C) H /\ Xz (hid H (C :: OO)) (hid H (OO.set k C)):=by
  have h1:=Yf (OO:=OO) (k:=k) (C:=OO[k]) (by simp [hk])
  have h2:=Yf (OO:=OO.set k C) (k:=k) (C:=C) (by simp [hk])
  rw [Ur] at h2
  have h3 : (OO.set k C).flatten.Perm (C ++ (OO.set k []).flatten):=by simpa using h2.symm
  have h4 : (C :: OO).flatten.Perm (C ++ (OO[k] ++ (OO.set k []).flatten)):=by
    rw [List.flatten_cons]; exact (by simpa using h1.symm : OO.flatten.Perm (OO[k] ++ (OO.set k []).flatten)).append_left C
  have h5 : (C ++ (OO.set k []).flatten).Sublist (C ++ (OO[k] ++ (OO.set k []).flatten)):=List.Sublist.append (List.Sublist.refl _) (List.sublist_append_right _ _)
  have w1 : W [C ++ (OO[k] ++ (OO.set k []).flatten)] H:=w.of (by simpa using h4.symm)
  have w2 : W [C ++ (OO.set k []).flatten] H:=w1.sub (by simpa using h5)
  refine ⟨w2.of (by simpa using h3), QA (Xz.refl _) λb hb=>?_⟩
  obtain ⟨o, ho⟩:=Cn hb
  exact Jx (h4.mem_iff.mpr (h5.mem (h3.mem_iff.mp ho)))
theorem X1 {te : TE} {o : OE α} [MonoO o] {m : Rs α} {f : α -> Rs β} (i k : Nat) (he : Ev K Er S OO OO' σ te o m) (hk : k < OO'.length) (hr : ∀ a v C, Sv Er (S.addO K o v a C) (OO'.set k C) (σ.set i (some v)) u Fd (f a)) : Sv Er S OO σ (Jg (Ef te (ZE i)) u) Fd (m.bind f):=λH D w s P=>
  he.st w s P λa v C H' w' s' ho P'=>by
    obtain ⟨w2, h2⟩:=MY w' hk
    exact hr a v C H' D w2 ⟨S.mono _ _ h2 s', MonoO.mono h2 ho⟩ (PZ.tr (fd.tr D) h2 P')
theorem Xs {te : TE} {r : Enc α} [MonoE r] {m : Rs α} {f : α -> Rs β} (i : Nat) (he : EvS K Er S OO σ te r m) (hr : ∀ a v, Sv Er (S.add K r v a) OO (σ.set i (some v)) u Fd (f a)) : Sv Er S OO σ (Jg (Ef te (ZE i)) u) Fd (m.bind f):=λH D w s P=>
  he.st w s P λa v H' s1 w' s' ho P'=>hr a v H' D w' ⟨s', ho⟩ P'
theorem XJ {te : TE} {o : OE ρ} {m : Rs ρ} (he : Ev K Er S OO OO' σ te o m) : Sv Er S OO σ (Jg (MN te) u) (FTd K o) m:=λH D w s P=>
  he H _ w s (by
    cases m with
    | bad=>exact P
    | err x=>exact λH' s'=>P H' (Xt.trans s')
    | ok a=>exact λv C H' s' w' m' ho=>P v C OO' H' w' m' ho)
theorem Gs {J : Jn γ ι} {t : TS} {o : OE ρ} {m : Rs γ} (h : Sv Er S OO σ t (FNd J) m) : Sv Er S OO σ t (FCd K o J) (m.bind λr=>.ok (.nx r)):=λH D w s P=>h H D w s (by
  cases m with
  | bad=>exact P
  | err x=>exact P
  | ok a=>exact P)
theorem XE {J : Jn γ ι} (x : ι) (g : γ) (h1 : OO = J.oo x) (h2 : σ = J.ss x) (h3 : ∀ h, S.p h -> (J.sc g x).p h) : Sv Er S OO σ Fy (FNd J) (.ok g):=λH D w s P=>by
  subst h1 h2
  exact P x H w (Xz.refl _) (h3 _ s)
theorem VR {o : OE ρ} {c : TT} {t1 : TS} {mc : Rs Bool} {m1 m2 : Rs ρ} (hc : EvT Er S OO σ c mc) (h1 : Sv Er S OO σ t1 (FTd K o) m1) (h2 : Sv Er S OO σ u (FTd K o) m2) : Sv Er S OO σ (Jg (Lx c t1 Fy) u) (FTd K o) (mc.bind λb=>if b = true then m1 else m2):=λH D w s P=>
  hc.st (Fd:=FTd K o) w s P λb H' w' s' P'=>by
    cases b with
    | true=>rw [if_pos rfl] at P' ⊢; exact h1 H' _ w' s' P'
    | false=>exact h2 H' D w' s' P'
theorem Ug {o : OE ρ} {J : Jn γ ι} {c : TT} {t1 : TS} {mc : Rs Bool} {m1 : Rs ρ} {m2 : Rs (Ctl ρ γ)} (hc : EvT Er S OO σ c mc) (h1 : Sv Er S OO σ t1 (FTd K o) m1) (h2 : Sv Er S OO σ u (FCd K o J) m2) : Sv Er S OO σ (Jg (Lx c t1 Fy) u) (FCd K o J) (mc.bind λb=>if b = true then m1.bind (λr=>.ok (.ret r)) else m2):=λH D w s P=>
  hc.st (Fd:=FCd K o J) w s P λb H' w' s' P'=>by
    cases b with
    | true=>
      rw [if_pos rfl] at P' ⊢
      refine h1 H' _ w' s' ?_
      cases m1 with
      | bad=>exact P'
      | err x=>exact P'
      | ok a=>exact P'
    | false=>exact h2 H' D w' s' P'
theorem Z3 {c : TT} {t1 t2 : TS} {mc : Rs Bool} {m1 m2 : Rs β} (hc : EvT Er S OO σ c mc) (h1 : Sv Er S OO σ t1 Fd m1) (h2 : Sv Er S OO σ t2 Fd m2) : Sv Er S OO σ (Lx c t1 t2) Fd (mc.bind λb=>if b = true then m1 else m2):=λH D w s P=>
  hc.st w s P λb H' w' s' P'=>by
    cases b with
    | true=>rw [if_pos rfl] at P' ⊢; exact h1 H' _ w' s' P'
    | false=>exact h2 H' D w' s' P'
theorem Zo {J : Jn γ ι} {t : TS} {m : Rs γ} {f : γ -> Rs β} (hb : Sv Er S OO σ t (FNd J) m) (hr : ∀ g x, Sv Er (J.sc g x) (J.oo x) (J.ss x) u Fd (f g)) : Sv Er S OO σ (Jg t u) Fd (m.bind f):=λH D w s P=>
  hb H _ w s (by
    cases m with
    | bad=>exact P
    | err x=>exact P
    | ok g=>exact λx H' w' m' q=>hr g x H' D w' q (PZ.tr (fd.tr D) m' P))
noncomputable def Qu (f : γ -> Rs ρ) : Ctl ρ γ -> Rs ρ
  | .ret r=>.ok r
  | .nx g=>f g
theorem MV {C D C' : List XG} {H : Hp} {k : Nat} {p : Addr} {o : HO} (w : W (D :: OO) H) (hk : OO[k]? = some C) (hp : p ∈ C.map (·.1)) (hC : (C'.map (·.1)).Perm ((C ++ D).map (·.1))) (ht : ∀ c ∈ C', upd H p o c.1 = some c.2) (hm : ∀ c ∈ C', Ix c.2 = true) :
    W (OO.set k C') (upd H p o) /\ hid (upd H p o) (OO.set k C') = hid H (D :: OO):=by
  have hlt : k < OO.length:=by
    rcases Nat.lt_or_ge k OO.length with h | h
    . exact h
    . rw [List.getElem?_eq_none h] at hk; cases hk
  have h1:=Yf hk
  have h2:=Yf (OO:=OO.set k C') (k:=k) (C:=C') (by simp [hlt])
  rw [Ur] at h2
  have h3 : (OO.set k C').flatten.Perm (C' ++ (OO.set k []).flatten):=by simpa using h2.symm
  have h4 : (D :: OO).flatten.Perm (D ++ (C ++ (OO.set k []).flatten)):=by
    rw [List.flatten_cons]; exact (by simpa using h1.symm : OO.flatten.Perm (C ++ (OO.set k []).flatten)).append_left D
  have hfl : (fl (OO.set k C')).Perm (fl (D :: OO)):=by
    unfold fl
    refine (h3.map _).trans (List.Perm.trans ?_ (h4.map _).symm)
    simp only [List.map_append]
    refine (hC.append_right _).trans ?_
    simp only [List.map_append]
    rw [← List.append_assoc]
    exact List.perm_append_comm.append_right _
  have nd:=w.nd
  refine ⟨⟨λc hc=>?_, hfl.nodup_iff.mpr nd, λc hc=>?_⟩, ?_⟩
  . rcases List.mem_append.mp (h3.mem_iff.mp hc) with hc | hc
    . exact ht c hc
    . have hne : c.1 ≠ p:=λe=>by
        have nd2 : ((D ++ (C ++ (OO.set k []).flatten)).map (·.1)).Nodup:=(h4.map _).nodup_iff.mp nd
        simp only [List.map_append] at nd2
        have nd3:=(List.nodup_append.mp nd2).2.1
        exact (List.nodup_append.mp nd3).2.2 p hp c.1 (List.mem_map.mpr ⟨c, hc, rfl⟩) e.symm
      rw [Xv hne]
      exact w.tr c (h4.mem_iff.mpr (by simp [hc]))
  . rcases List.mem_append.mp (h3.mem_iff.mp hc) with hc | hc
    . exact hm c hc
    . exact w.mu c (h4.mem_iff.mpr (by simp [hc]))
  . funext b
    unfold hid
    by_cases hb : b ∈ fl (D :: OO)
    . rw [if_pos hb, if_pos (hfl.mem_iff.mpr hb)]
    . rw [if_neg hb, if_neg λz => hb (hfl.mem_iff.mp z)]
      refine Xv λe=>hb ?_
      rw [e]
      obtain ⟨c, hc, rfl⟩:=List.mem_map.mp hp
      exact Jx (h4.mem_iff.mpr (by simp [hc]))
theorem ZM {Cs : List (List XG)} {D : List XG} : (Cs ++ [D]).flatten = Cs.flatten ++ D:=by simp
theorem Z4 {ta : TE} {o : OE α} [MonoO o] {m : Rs α} {f : List α -> Rs β} {v : V} {as : List α} {C : List XG} (i k : Nat) (hσ : σ[i]? = some (some v)) (hk : OO[k]? = some C) (hk' : OO'[k]? = some C) (h : ∀ x, S.p x -> oL o K x v as C) (he : Ev K Er S OO OO' σ ta o m)
    (hr : ∀ a C', Sv Er (S.addO K (oL o) v (as ++ [a]) C') (OO'.set k C') σ u Fd (f (as ++ [a]))) : Sv Er S OO σ (Jg (Fk (tBM K "list" Uo (UY i) (XN ta ZX))) u) Fd (m.bind λa=>chk (as.length < sizeLine) (f (as ++ [a]))):=λH D w s P=>by
  obtain ⟨p, xs, Cs, e, q, c⟩:=h _ s
  subst c
  have hH : H p = some (.lst xs):=w.tr (p, .lst xs) (List.mem_flatten.mpr ⟨_, List.mem_of_getElem? hk, List.mem_cons_self⟩)
  refine ⟨v, hσ, by rw [e]; exact .inl ⟨rfl, _, SqL.of hH⟩, he.st w s P λa y D' H' w' s' ho P'=>?_⟩
  obtain ⟨p', xs', Cs', e2, q2, c2⟩:=h _ s'
  rw [e] at e2; cases e2
  have c3 : (p, HO.lst xs) = (p, HO.lst xs') /\ Cs.flatten = Cs'.flatten:=by
    injection c2 with h1 h2
    exact ⟨h1, h2⟩
  obtain ⟨c3, c4⟩:=c3
  cases c3
  have hH' : H' p = some (.lst xs):=w'.tr (p, .lst xs) (by rw [List.flatten_cons]; exact List.mem_append_right _ (List.mem_flatten.mpr ⟨_, List.mem_of_getElem? hk', List.mem_cons_self⟩))
  cases hlt : decide (as.length < sizeLine) with
  | false=>rw [chk, if_neg (by simpa using hlt)] at P'; exact P'.elim
  | true=>
    have hlt' : as.length < sizeLine:=by simpa using hlt
    rw [Xy hlt'] at P'
    have wnd:=w'.nd
    have hcell : ∀ c ∈ (p, HO.lst (xs ++ [y])) :: (Cs' ++ [D']).flatten, upd H' p (.lst (xs ++ [y])) c.1 = some c.2:=λc hc=>by
      rcases List.mem_cons.mp hc with rfl | hc
      . exact Yv
      . have hp1 := Yf hk'
        have w3 : W [D' ++ (((p, HO.lst xs) :: Cs.flatten) ++ (OO'.set k []).flatten)] H':=w'.of (by
          simp only [List.flatten_cons, List.flatten_nil, List.append_nil]
          exact (by simpa using hp1 : (((p, HO.lst xs) :: Cs.flatten) ++ (OO'.set k []).flatten).Perm OO'.flatten).append_left D')
        have hin : c ∈ D' ++ (((p, HO.lst xs) :: Cs.flatten) ++ (OO'.set k []).flatten):=by
          rw [ZM, List.mem_append] at hc
          rcases hc with hc | hc
          . rw [← c4] at hc; simp [hc]
          . simp [hc]
        have hne : c.1 ≠ p:=λee=>by
          have nd3:=w3.nd
          rw [ZM, List.mem_append, ← c4] at hc
          simp only [fl, List.flatten_cons, List.flatten_nil, List.append_nil, List.map_append, List.cons_append, List.map_cons] at nd3
          rw [List.nodup_append] at nd3
          obtain ⟨_, n2, n3⟩:=nd3
          rcases hc with hc | hc
          . exact (List.nodup_cons.mp n2).1 (List.mem_append_left _ (List.mem_map.mpr ⟨c, hc, ee⟩))
          . exact n3 c.1 (List.mem_map.mpr ⟨c, hc, rfl⟩) p List.mem_cons_self ee
        rw [Xv hne]
        exact w3.tr c (by simpa using hin)
    obtain ⟨w4, h4⟩:=MV (C':=(p, .lst (xs ++ [y])) :: (Cs' ++ [D']).flatten) w' hk' List.mem_cons_self (by simp [ZM, c4]) hcell (λc hc=>by
      rcases List.mem_cons.mp hc with rfl | hc
      . rfl
      . rw [ZM, List.mem_append, ← c4] at hc
        rcases hc with hc | hc
        . exact w'.mu c (by rw [List.flatten_cons]; exact List.mem_append_right _ (List.mem_flatten.mpr ⟨_, List.mem_of_getElem? hk', List.mem_cons_of_mem _ hc⟩))
        . exact w'.mu c (by rw [List.flatten_cons]; exact List.mem_append_left _ hc))
    refine ⟨p, xs, y, e, rfl, hH', by rw [(P3.len q).1]; exact hlt', ?_⟩
    refine hr a _ _ D w4 ?_ (by rw [h4]; exact P')
    rw [h4]
    exact ⟨s', ⟨p, xs ++ [y], Cs' ++ [D'], e, q2.snoc ho, rfl⟩⟩
end
section
variable {K : PySem.W.Frag} {Er : Exc -> Hp -> Prop} {S : SC} {OO OO' OO2 : List (List XG)} {σ : St} {α β γ ρ ι δ ε : Type}
variable {Fd : Ends -> β -> Hp -> Prop} [fd : FdOk Fd] {u : TS}
noncomputable def forN : List α -> γ -> (γ -> α -> Rs γ) -> Rs γ
  | [], g, _=>.ok g
  | a :: as, g, f=>(f g a).bind λg'=>forN as g' f
noncomputable def F0 : List α -> γ -> (γ -> α -> Rs (Ctl ρ γ)) -> Rs (Ctl ρ γ)
  | [], g, _=>.ok (.nx g)
  | a :: as, g, f=>(f g a).bind λc=>match c with
    | .ret r=>.ok (.ret r)
    | .nx g'=>F0 as g' f
theorem Yp {m : Rs α} {f : α -> Rs β} {g : β -> Rs γ} : (m.bind f).bind g = m.bind λa=>(f a).bind g:=by cases m <;> rfl
structure Tgt (K : PySem.W.Frag) (OO : List (List XG)) (g : TG) (r : Enc α) (κ : Type) where
  set : κ -> St -> St
  sc : α -> κ -> SC -> SC
  ok : ∀ {H : Hp} {v : V} {a : α} {σ : St} {S : SC} {Q : St -> Hp -> Prop}, r K (hid H OO) v a -> S.p (hid H OO) -> (∀ x, (sc a x S).p (hid H OO) -> Q (set x σ) H) -> g v σ H Q
noncomputable def tg1 {r : Enc α} [MonoE r] (i : Nat) : Tgt K OO (ZE i) r V where
  set:=λv σ=>σ.set i (some v)
  sc:=λa v S=>S.add K r v a
  ok:=fun {H v a σ S Q} hr hs hq=>hq v ⟨hs, hr⟩
noncomputable def tg2 {r : Enc α} {q : Enc β} [MonoE r] [MonoE q] (i j : Nat) : Tgt K OO (Iv K 2 (Ja (ZE i) (Ja (ZE j) Lv))) (rP2 r q) (V × V) where
  set:=λv σ=>(σ.set i (some v.1)).set j (some v.2)
  sc:=λa v S=>(S.add K r v.1 a.1).add K q v.2 a.2
  ok:=fun {H v a σ S Q} r9 hs hq=>by obtain ⟨p, x, y, e, h, h1, h2⟩:=r9; exact ⟨p, _, e, SqT.of (Xt _ _ h), rfl, x, [y], rfl, y, [], rfl, rfl, hq (x, y) ⟨⟨hs, h1⟩, h2⟩⟩
noncomputable def tg3 {r : Enc α} {q : Enc β} {t : Enc γ} [MonoE r] [MonoE q] [MonoE t] (i j k : Nat) : Tgt K OO (Iv K 3 (Ja (ZE i) (Ja (ZE j) (Ja (ZE k) Lv)))) (rP3 r q t) (V × V × V) where
  set:=λv σ=>((σ.set i (some v.1)).set j (some v.2.1)).set k (some v.2.2)
  sc:=λa v S=>((S.add K r v.1 a.1).add K q v.2.1 a.2.1).add K t v.2.2 a.2.2
  ok:=fun {H v a σ S Q} r9 hs hq=>by obtain ⟨p, x, y, z, e, h, h1, h2, h3⟩:=r9; exact ⟨p, _, e, SqT.of (Xt _ _ h), rfl, x, [y, z], rfl, y, [z], rfl, z, [], rfl, rfl, hq (x, y, z) ⟨⟨⟨hs, h1⟩, h2⟩, h3⟩⟩
structure Walk (K : PySem.W.Frag) (Er : Exc -> Hp -> Prop) (S : SC) (OO : List (List XG)) (σ : St) (wi : TI) (r : Enc α) (m : Rs (List α)) : Prop where
  ok : ∀ {H : Hp} {R : It -> Hp -> Prop}, W OO H -> S.p (hid H OO) -> PZ Er (λas H=>∀ J H', Xz H H' ->
      (∀ (i : Nat) a, as[i]? = some a -> ∀ OO2 H2, W OO2 H2 -> Xz (hid H' OO) (hid H2 OO2) -> J.go i H2 /\ ∀ x H3, J.yld i H2 x H3 -> Xz H2 H3 /\ r K (hid H3 OO2) x a) ->
      (∀ OO2 H2, W OO2 H2 -> Xz (hid H' OO) (hid H2 OO2) -> J.stop as.length H2) -> R J H') H m -> wi σ H R
theorem XH {te : TE} {r : Enc α} [z : MonoE r] {m : Rs (List α)} (he : EvS K Er S OO σ te (rV r) m) : Walk K Er S OO σ (Ir K te) r m:=⟨fun {H R} w s P=>by
  refine he H _ w s (P.imp λas _ h v H' s' ⟨p, xs, e, hp, pr⟩=>⟨p, e, ⟨xs, SqL.of (Xt _ _ hp)⟩, h _ H' s' ?_ ?_⟩)
  . intro i a ha OO2 H2 w2 m2
    obtain ⟨x, hx, rx⟩:=Paired.getR pr ha
    have hq : SqL K H2 p xs:=SqL.of (Xt _ _ (m2 _ _ hp))
    refine ⟨⟨xs, x, hq, hx⟩, λy H3 r9=>?_⟩
    obtain ⟨e3, hy⟩:=r9
    subst e3
    refine ⟨Xz.refl _, ?_⟩
    have:=hy xs hq
    rw [hx] at this
    cases this
    exact z.mono m2 rx
  . intro OO2 H2 w2 m2
    exact ⟨xs, SqL.of (Xt _ _ (m2 _ _ hp)), by rw [Paired.len pr]; exact Nat.le_refl _⟩⟩
noncomputable def Ji (as : List α) : List (Int × α):=(List.range as.length).map (λ(i : Nat)=>(i : Int)) |>.zip as
theorem Vz {as : List α} {i : Nat} {p : Int × α} (h : (Ji as)[i]? = some p) : p.1 = (i : Int) /\ as[i]? = some p.2:=by
  unfold Ji at h
  rw [List.getElem?_zip_eq_some] at h
  obtain ⟨h1, h2⟩:=h
  rw [List.getElem?_map] at h1
  have hlt : i < as.length:=by
    rcases Nat.lt_or_ge i as.length with q | q
    . exact q
    . rw [List.getElem?_eq_none q] at h2; cases h2
  rw [List.getElem?_range hlt] at h1
  exact ⟨(Option.some.inj h1).symm, h2⟩
theorem Ca {as : List α} : (Ji as).length = as.length:=by simp [Ji]
theorem KB {te : TE} {r : Enc α} [z : MonoE r] {m : Rs (List α)} (he : EvS K Er S OO σ te (rV r) m) : Walk K Er S OO σ (Lo K te) (rP2 Xa r) (m.bind λas=>.ok (Ji as)):=⟨fun {H R} w s P=>by
  refine he H _ w s ?_
  cases em : m with
  | bad=>rw [em] at P; exact P
  | err x=>rw [em] at P; exact P
  | ok as=>
    rw [em] at P
    intro v H' s' ⟨p, xs, e, hp, pr⟩
    refine ⟨p, e, ⟨xs, SqL.of (Xt _ _ hp)⟩, P _ H' s' ?_ ?_⟩
    . intro i a ha OO2 H2 w2 m2
      obtain ⟨ha1, ha2⟩:=Vz ha
      obtain ⟨x, hx, rx⟩:=Paired.getR pr ha2
      have hq : SqL K H2 p xs:=SqL.of (Xt _ _ (m2 _ _ hp))
      refine ⟨⟨xs, x, hq, hx⟩, λy H3 h3=>?_⟩
      obtain ⟨b, x', rfl, hb, rfl, hy⟩:=h3
      have:=hy xs hq
      rw [hx] at this
      cases this
      refine ⟨XD hb _, ⟨b, .int i, x, rfl, ZG w2 hb, by show V.int _ = V.int _; rw [ha1], z.mono (m2.trans (Xj (XD hb _))) rx⟩⟩
    . intro OO2 H2 w2 m2
      exact ⟨xs, SqL.of (Xt _ _ (m2 _ _ hp)), by rw [Ca, Paired.len pr]; exact Nat.le_refl _⟩⟩
theorem Fw {lo hi : Int} {i : Nat} {a : Int} (h : (QW lo hi)[i]? = some a) : a = lo + i /\ i < (hi - lo).toNat:=by
  unfold QW at h
  rw [List.getElem?_map] at h
  rcases Nat.lt_or_ge i (hi - lo).toNat with q | q
  . rw [List.getElem?_range q] at h; exact ⟨(Option.some.inj h).symm, q⟩
  . rw [List.getElem?_eq_none (by simpa using q)] at h; cases h
theorem Fq {lo hi : Int} : (QW lo hi).length = (hi - lo).toNat:=by simp [QW]
noncomputable def GZ (lo hi : Int) : Rs (List Int):=chk (-(2 ^ 62) <= lo /\ lo < 2 ^ 62 /\ -(2 ^ 62) <= hi /\ hi < 2 ^ 62) (.ok (QW lo hi))
theorem Yl {te : TE} {m : Rs Int} (he : EvB K Er S OO σ te Xa m) : Walk K Er S OO σ (Ln (XN te ZX)) Xa (m.bind λn=>GZ 0 n):=⟨fun {H R} w s P=>
  he.run w s (λas H H' s' h J H2 s2=>h J H2 (s'.trans s2)) P λn v H1 s1 w1 q1 r1 P1=>by
    obtain ⟨c, hc, P2⟩:=P1.okOf λx=>Qk
    obtain ⟨⟨_, _, h1, h2⟩, h3⟩:=Zn hc
    cases h3
    refine ⟨n, by rw [show v = .int n from r1], h1, h2, P2 _ H1 (Xz.refl _) (λi a ha OO2 H2 w2 m2=>?_) λOO2 H2 w2 m2=>?_⟩
    . obtain ⟨e1, e2⟩ := Fw ha
      rw [Int.sub_zero] at e2
      refine ⟨e2, λx H3 r9=>?_⟩
      obtain ⟨e3, e4⟩:=r9
      subst e3
      exact ⟨Xz.refl _, by rw [e4, e1]; rfl⟩
    . show n.toNat <= _
      rw [Fq, Int.sub_zero]; exact Nat.le_refl _⟩
theorem Ze {wi : TI} {g : TG} {tb : TS} {r : Enc α} {κ : Type} {m : Rs (List α)} {body : γ -> α -> Rs γ} {f : γ -> Rs β} (J : Jn γ ι) (T : ∀ OO, Tgt K OO g r κ) (x0 : ι) (g0 : γ) (he : Walk K Er S OO σ wi r m) (h1 : OO = J.oo x0) (h2 : σ = J.ss x0) (h3 : ∀ h, S.p h -> (J.sc g0 x0).p h)
    (hb : ∀ g x a v, Sv Er ((T (J.oo x)).sc a v (J.sc g x)) (J.oo x) ((T (J.oo x)).set v (J.ss x)) tb (FNd J) (body g a))
    (hr : ∀ g x, Sv Er (J.sc g x) (J.oo x) (J.ss x) u Fd (f g)) : Sv Er S OO σ (Jg (Mn wi g tb) u) Fd (m.bind λas=>(forN as g0 body).bind f):=λH D w s P=>by
  refine he.ok w s ?_
  cases em : m with
  | bad=>rw [em] at P; exact P
  | err x=>rw [em] at P; exact λH' s'=>P H' (Xt.trans s')
  | ok as=>
    rw [em] at P
    have P : PZ Er (Fd D) (hid H OO) ((forN as g0 body).bind f):=P
    intro It H' s' hgo hstop
    refine ⟨λi mm σ' H2=>mm = as.length - i /\ i <= as.length /\ ∃ x gg, σ' = J.ss x /\ W (J.oo x) H2 /\ Xz (hid H' OO) (hid H2 (J.oo x)) /\ (J.sc gg x).p (hid H2 (J.oo x)) /\ PZ Er (Fd D) (hid H2 (J.oo x)) ((forN (as.drop i) gg body).bind f), ⟨as.length, rfl, Nat.zero_le _, x0, g0, h2, ?_, ?_, ?_, ?_⟩, ?_⟩
    . rw [← h1]; exact w.keep s'
    . rw [← h1]; exact Xz.refl _
    . rw [← h1]; exact h3 _ (S.mono _ _ (Xj s') s)
    . rw [← h1, List.drop_zero]; exact PZ.tr (fd.tr D) (Xj s') P
    . rintro i mm σ' H2 ⟨rfl, hi, x, gg, rfl, w2, m2, sc2, P2⟩
      by_cases hlt : i < as.length
      . right
        have ha : as[i]? = some as[i]:=by simp [hlt]
        obtain ⟨h4, h5⟩:=hgo i _ ha (J.oo x) H2 w2 m2
        refine ⟨h4, λσ3 H3=>∃ x gg, σ3 = J.ss x /\ W (J.oo x) H3 /\ Xz (hid H' OO) (hid H3 (J.oo x)) /\ (J.sc gg x).p (hid H3 (J.oo x)) /\ PZ Er (Fd D) (hid H3 (J.oo x)) ((forN (as.drop (i + 1)) gg body).bind f), λσ3 H3 q=>⟨as.length - (i + 1), Nat.sub_lt_sub_left hlt (Nat.lt_succ_self i), rfl, hlt, q⟩, λy H3 hy=>?_⟩
        obtain ⟨s3, r3⟩:=h5 y H3 hy
        have w3:=w2.keep s3
        have m3:=Xj (OO:=J.oo x) s3
        refine (T (J.oo x)).ok r3 ((J.sc gg x).mono _ _ m3 sc2) λv hv=>hb gg x as[i] v H3 _ w3 hv ?_
        rw [List.drop_eq_getElem_cons hlt] at P2
        have P3 : PZ Er (Fd D) (hid H2 (J.oo x)) ((body gg as[i]).bind λg'=>(forN (as.drop (i + 1)) g' body).bind f):=by rw [← Yp]; exact P2
        cases eb : body gg as[i] with
        | bad=>rw [eb] at P3; exact P3
        | err x=>rw [eb] at P3; exact λH4 s4=>P3 H4 (m3.trans s4)
        | ok g'=>
          rw [eb] at P3
          exact λx' H4 w4 m4 sc4=>⟨x', g', rfl, w4, m2.trans (m3.trans m4), sc4, PZ.tr (fd.tr D) (m3.trans m4) P3⟩
      . left
        have e : i = as.length:=Nat.le_antisymm hi (Nat.not_lt.mp hlt)
        subst e
        refine ⟨hstop (J.oo x) H2 w2 m2, hr gg x H2 D w2 sc2 ?_⟩
        rw [List.drop_length] at P2
        exact P2
theorem Cu {o : OE ρ} {wi : TI} {g : TG} {tb : TS} {r : Enc α} {κ : Type} {m : Rs (List α)} {body : γ -> α -> Rs (Ctl ρ γ)} {f : γ -> Rs ρ} (J : Jn γ ι) (T : ∀ OO, Tgt K OO g r κ) (x0 : ι) (g0 : γ) (he : Walk K Er S OO σ wi r m) (h1 : OO = J.oo x0) (h2 : σ = J.ss x0) (h3 : ∀ h, S.p h -> (J.sc g0 x0).p h)
    (hb : ∀ g x a v, Sv Er ((T (J.oo x)).sc a v (J.sc g x)) (J.oo x) ((T (J.oo x)).set v (J.ss x)) tb (FCd K o J) (body g a))
    (hr : ∀ g x, Sv Er (J.sc g x) (J.oo x) (J.ss x) u (FTd K o) (f g)) : Sv Er S OO σ (Jg (Mn wi g tb) u) (FTd K o) (m.bind λas=>(F0 as g0 body).bind (Qu f)):=λH D w s P=>by
  refine he.ok w s ?_
  cases em : m with
  | bad=>rw [em] at P; exact P
  | err x=>rw [em] at P; exact λH' s'=>P H' (Xt.trans s')
  | ok as=>
    rw [em] at P
    have P : PZ Er (FTd K o D) (hid H OO) ((F0 as g0 body).bind (Qu f)):=P
    intro It H' s' hgo hstop
    refine ⟨λi mm σ' H2=>mm = as.length - i /\ i <= as.length /\ ∃ x gg, σ' = J.ss x /\ W (J.oo x) H2 /\ Xz (hid H' OO) (hid H2 (J.oo x)) /\ (J.sc gg x).p (hid H2 (J.oo x)) /\ PZ Er (FTd K o D) (hid H2 (J.oo x)) ((F0 (as.drop i) gg body).bind (Qu f)), ⟨as.length, rfl, Nat.zero_le _, x0, g0, h2, ?_, ?_, ?_, ?_⟩, ?_⟩
    . rw [← h1]; exact w.keep s'
    . rw [← h1]; exact Xz.refl _
    . rw [← h1]; exact h3 _ (S.mono _ _ (Xj s') s)
    . rw [← h1, List.drop_zero]; exact PZ.tr (FdOk.tr D) (Xj s') P
    . rintro i mm σ' H2 ⟨rfl, hi, x, gg, rfl, w2, m2, sc2, P2⟩
      by_cases hlt : i < as.length
      . right
        have ha : as[i]? = some as[i]:=by simp [hlt]
        obtain ⟨h4, h5⟩:=hgo i _ ha (J.oo x) H2 w2 m2
        refine ⟨h4, λσ3 H3=>∃ x gg, σ3 = J.ss x /\ W (J.oo x) H3 /\ Xz (hid H' OO) (hid H3 (J.oo x)) /\ (J.sc gg x).p (hid H3 (J.oo x)) /\ PZ Er (FTd K o D) (hid H3 (J.oo x)) ((F0 (as.drop (i + 1)) gg body).bind (Qu f)), λσ3 H3 q=>⟨as.length - (i + 1), Nat.sub_lt_sub_left hlt (Nat.lt_succ_self i), rfl, hlt, q⟩, λy H3 hy=>?_⟩
        obtain ⟨s3, r3⟩:=h5 y H3 hy
        have w3:=w2.keep s3
        have m3:=Xj (OO:=J.oo x) s3
        refine (T (J.oo x)).ok r3 ((J.sc gg x).mono _ _ m3 sc2) λv hv=>hb gg x as[i] v H3 _ w3 hv ?_
        rw [List.drop_eq_getElem_cons hlt] at P2
        have P3 : PZ Er (FTd K o D) (hid H2 (J.oo x)) ((body gg as[i]).bind λc=>(match c with
          | .ret r=>Rs.ok (Ctl.ret r)
          | .nx g'=>F0 (as.drop (i + 1)) g' body).bind (Qu f)):=by rw [← Yp]; exact P2
        cases eb : body gg as[i] with
        | bad=>rw [eb] at P3; exact P3
        | err x=>rw [eb] at P3; exact λH4 s4=>P3 H4 (m3.trans s4)
        | ok c=>
          rw [eb] at P3
          cases c with
          | ret r=>exact FdOk.tr (Fd:=FTd K o) D r _ _ m3 P3
          | nx g'=>exact λx' H4 w4 m4 sc4=>⟨x', g', rfl, w4, m2.trans (m3.trans m4), sc4, PZ.tr (FdOk.tr D) (m3.trans m4) P3⟩
      . left
        have e : i = as.length:=Nat.le_antisymm hi (Nat.not_lt.mp hlt)
        subst e
        refine ⟨hstop (J.oo x) H2 w2 m2, hr gg x H2 D w2 sc2 ?_⟩
        rw [List.drop_length] at P2
        exact P2
noncomputable def Qc : Nat -> γ -> (γ -> Rs Bool) -> (γ -> Rs γ) -> Rs γ
  | 0, _, _, _=>.bad
  | n + 1, g, c, f=>(c g).bind λb=>if b = true then (f g).bind λg'=>Qc n g' c f else .ok g
theorem GE {c : TT} {tb : TS} {mc : γ -> Rs Bool} {body : γ -> Rs γ} {f : γ -> Rs β} (J : Jn γ ι) (n : Nat) (x0 : ι) (g0 : γ) (h1 : OO = J.oo x0) (h2 : σ = J.ss x0) (h3 : ∀ h, S.p h -> (J.sc g0 x0).p h)
    (hc : ∀ g x, EvT Er (J.sc g x) (J.oo x) (J.ss x) c (mc g)) (hb : ∀ g x, Sv Er (J.sc g x) (J.oo x) (J.ss x) tb (FNd J) (body g))
    (hr : ∀ g x, Sv Er (J.sc g x) (J.oo x) (J.ss x) u Fd (f g)) : Sv Er S OO σ (Jg (Dr c tb) u) Fd ((Qc n g0 mc body).bind f):=λH D w s P=>by
  refine ⟨λmm σ' H2=>∃ x gg, σ' = J.ss x /\ W (J.oo x) H2 /\ (J.sc gg x).p (hid H2 (J.oo x)) /\ PZ Er (Fd D) (hid H2 (J.oo x)) ((Qc mm gg mc body).bind f), ⟨n, x0, g0, h2, by rw [← h1]; exact w, by rw [← h1]; exact h3 _ s, by rw [← h1]; exact P⟩, ?_⟩
  rintro mm σ' H2 ⟨x, gg, rfl, w2, sc2, P2⟩
  cases mm with
  | zero=>exact P2.elim
  | succ mm=>
    have P3 : PZ Er (Fd D) (hid H2 (J.oo x)) ((mc gg).bind λb=>(if b = true then (body gg).bind λg'=>Qc mm g' mc body else .ok gg).bind f):=by rw [← Yp]; exact P2
    refine (hc gg x).st w2 sc2 P3 λb H3 w3 sc3 P4=>?_
    cases b with
    | false=>exact hr gg x H3 D w3 sc3 P4
    | true=>
      rw [if_pos rfl] at P4 ⊢
      refine ⟨λσ3 H4=>∃ x gg, σ3 = J.ss x /\ W (J.oo x) H4 /\ (J.sc gg x).p (hid H4 (J.oo x)) /\ PZ Er (Fd D) (hid H4 (J.oo x)) ((Qc mm gg mc body).bind f), λσ3 H4 q=>⟨mm, Nat.lt_succ_self _, q⟩, hb gg x H3 _ w3 sc3 ?_⟩
      rw [Yp] at P4
      cases eb : body gg with
      | bad=>rw [eb] at P4; exact P4
      | err x=>rw [eb] at P4; exact P4
      | ok g'=>
        rw [eb] at P4
        exact λx' H5 w5 m5 sc5=>⟨x', g', rfl, w5, sc5, PZ.tr (fd.tr D) m5 P4⟩
noncomputable def FU (as : List α) (f : α -> Rs β) : Rs (List β):=match as with
  | []=>.ok []
  | a :: as=>(f a).bind λb=>(FU as f).bind λbs=>.ok (b :: bs)
noncomputable def VG (as : List α) (f : α -> Rs β) : Rs (List β):=chk (as.length <= sizeLine) (FU as f)
noncomputable def GV (as : List α) (c : α -> Rs Bool) (f : α -> Rs β) : Rs (List β):=match as with
  | []=>.ok []
  | a :: as=>(c a).bind λb=>if b = true then (f a).bind λb=>(GV as c f).bind λbs=>.ok (b :: bs) else GV as c f
noncomputable def Ek (as : List α) (c : α -> Rs Bool) (f : α -> Rs β) : Rs (List β):=chk (as.length <= sizeLine) (GV as c f)
theorem PZ.chk {F : β -> Hp -> Prop} {H : Hp} {c : Prop} [Decidable c] {m : Rs β} (P : PZ Er F H (chk c m)) : c /\ PZ Er F H m:=by
  unfold L2.chk at P; split at P
  . exact ⟨by assumption, P⟩
  . exact P.elim
theorem IC {o : OE α} [z : MonoO o] {xs : List V} {as : List α} {Cs : List (List XG)} {H H0 : Hp} {Q : VK} (w : W (Cs.flatten :: OO) H) (m0 : Xz (hid H0 OO) (hid H (Cs.flatten :: OO))) (s0 : Xz H0 H) (pr : P3 (o K (hid H (Cs.flatten :: OO))) xs as Cs) (P : FO K OO OO (oL o) Q as H0) : ∀ p, H p = none -> Q (.ref p) (upd H p (.lst xs)):=λp hp=>by
  have hn:=QL (OO:=Cs.flatten :: OO) hp (o:=.lst xs)
  have wn:=w.new hp (o:=.lst xs) rfl
  have pe : (((p, HO.lst xs) :: Cs.flatten) :: OO).flatten.Perm ([(p, HO.lst xs)] :: Cs.flatten :: OO).flatten:=by simp
  refine P (.ref p) ((p, .lst xs) :: Cs.flatten) _ (s0.trans (XD hp _)) (wn.of pe) ?_ ?_
  . rw [X7 pe]; exact m0.trans hn
  . rw [X7 pe]
    exact ⟨p, xs, Cs, rfl, pr.imp λ_ _ _ h=>z.mono hn h, rfl⟩
theorem Y9 {o : OE β} [z : MonoO o] {wi : TI} {g : TG} {te : TE} {r : Enc α} {κ : Type} {m : Rs (List α)} {f : α -> Rs β} {n : Nat} {caps : List (Nat × Str)} (T : ∀ OO, Tgt K OO g r κ) (he : Walk K Er S OO σ wi r m)
    (hb : ∀ C a v, Ev K Er ((T (C :: OO)).sc a v S) (C :: OO) (C :: OO) ((T (C :: OO)).set v (QQ n caps σ)) te o (f a)) : Ev K Er S OO OO σ (CJ n caps wi g UD te) (oL o) (m.bind λas=>VG as f):=λH Q w s P=>by
  refine he.ok w s ?_
  cases em : m with
  | bad=>rw [em] at P; exact P
  | err x=>rw [em] at P; exact P
  | ok as=>
    rw [em] at P
    obtain ⟨hsz, P⟩:=PZ.chk (show PZ Er _ H (chk (as.length <= sizeLine) (FU as f)) from P)
    intro It H' s' hgo hstop
    -- what is left: the rest of the items, then all
    refine ⟨λi mm ys H2=>mm = as.length - i /\ i <= as.length /\ ∃ bs Cs, Xz H H2 /\ W (Cs.flatten :: OO) H2 /\ Xz (hid H' OO) (hid H2 (Cs.flatten :: OO)) /\ P3 (o K (hid H2 (Cs.flatten :: OO))) ys bs Cs /\ bs.length = i /\ PZ Er (FO K OO OO (oL o) Q) H ((FU (as.drop i) f).bind λrest=>.ok (bs ++ rest)),
      ⟨as.length, rfl, Nat.zero_le _, [], [], s', (w.keep s').nil, by show Xz _ (hid H' ([] :: OO)); rw [Zx]; exact Xz.refl _, .nil, rfl, ?_⟩, ?_⟩
    . rw [List.drop_zero]
      revert P
      cases FU as f <;> exact λz=>z
    . rintro i mm ys H2 ⟨rfl, hi, bs, Cs, s2, w2, m2, pr, hlen, P2⟩
      refine ⟨by rw [pr.len.1, hlen]; lia, ?_⟩
      by_cases hlt : i < as.length
      . right
        have ha : as[i]? = some as[i]:=by simp [hlt]
        obtain ⟨h4, h5⟩:=hgo i _ ha (Cs.flatten :: OO) H2 w2 m2
        refine ⟨h4, λys' H3=>∃ bs Cs, Xz H H3 /\ W (Cs.flatten :: OO) H3 /\ Xz (hid H' OO) (hid H3 (Cs.flatten :: OO)) /\ P3 (o K (hid H3 (Cs.flatten :: OO))) ys' bs Cs /\ bs.length = i + 1 /\ PZ Er (FO K OO OO (oL o) Q) H ((FU (as.drop (i + 1)) f).bind λrest=>.ok (bs ++ rest)), λys' H3 q=>⟨as.length - (i + 1), Nat.sub_lt_sub_left hlt (Nat.lt_succ_self i), rfl, hlt, q⟩, λy H3 hy=>?_⟩
        obtain ⟨s3, r3⟩:=h5 y H3 hy
        have w3:=w2.keep s3
        have m3:=Xj (OO:=Cs.flatten :: OO) s3
        have sS : S.p (hid H3 (Cs.flatten :: OO)):=S.mono _ _ ((Xj s').trans (m2.trans m3)) s
        refine (T (Cs.flatten :: OO)).ok r3 sS λv hv=>?_
        show UD _ _ _
        refine IH ?_
        rw [List.drop_eq_getElem_cons hlt] at P2
        have P3' : PZ Er (FO K OO OO (oL o) Q) H ((f as[i]).bind λb=>(FU (as.drop (i + 1)) f).bind λrest=>.ok (bs ++ b :: rest)):=by
          have : ((f as[i]).bind λb=>(FU (as.drop (i + 1)) f).bind λrest=>Rs.ok (bs ++ b :: rest)) = (FU (as[i] :: as.drop (i + 1)) f).bind λrest=>.ok (bs ++ rest):=by
            show _ = ((f as[i]).bind λb=>(FU (as.drop (i + 1)) f).bind λbs=>Rs.ok (b :: bs)).bind _
            rw [Yp]; congr 1; funext b; rw [Yp]; rfl
          rw [this]; exact P2
        refine hb Cs.flatten as[i] v H3 _ w3 hv ?_
        cases eb : f as[i] with
        | bad=>rw [eb] at P3'; exact P3'
        | err x=>rw [eb] at P3'; exact λH4 s4=>P3' H4 (s2.trans (s3.trans s4))
        | ok b=>
          rw [eb] at P3'
          intro v' C' H4 s4 w4 m4 ho
          have pe : ((Cs ++ [C']).flatten :: OO).flatten.Perm (C' :: Cs.flatten :: OO).flatten:=by
            simp only [ZM, List.flatten_cons]
            rw [List.append_assoc, ← List.append_assoc, ← List.append_assoc]
            exact List.perm_append_comm.append_right _
          refine ⟨bs ++ [b], Cs ++ [C'], s2.trans (s3.trans s4), w4.of pe, ?_, ?_, by simp [hlen], ?_⟩
          . rw [X7 pe]; exact m2.trans (m3.trans m4)
          . rw [X7 pe]; exact P3.snoc (pr.imp λ_ _ _ h=>z.mono (m3.trans m4) h) ho
          . have P4 : PZ Er (FO K OO OO (oL o) Q) H ((FU (as.drop (i + 1)) f).bind λrest => .ok (bs ++ b :: rest)) := P3'
            simpa using P4
      . left
        have e : i = as.length:=Nat.le_antisymm hi (Nat.not_lt.mp hlt)
        subst e
        refine ⟨hstop (Cs.flatten :: OO) H2 w2 m2, ?_⟩
        rw [List.drop_length] at P2
        have P3' : FO K OO OO (oL o) Q (bs ++ []) H:=P2
        rw [List.append_nil] at P3'
        exact IC (H0:=H) w2 ((Xj s').trans m2) s2 pr P3'
theorem JP {o : OE β} [z : MonoO o] {wi : TI} {g : TG} {tt : TT} {te : TE} {r : Enc α} {κ : Type} {m : Rs (List α)} {c : α -> Rs Bool} {f : α -> Rs β} {n : Nat} {caps : List (Nat × Str)} (T : ∀ OO, Tgt K OO g r κ) (he : Walk K Er S OO σ wi r m)
    (hc : ∀ C a v, EvT Er ((T (C :: OO)).sc a v S) (C :: OO) ((T (C :: OO)).set v (QQ n caps σ)) tt (c a))
    (hb : ∀ C a v, Ev K Er ((T (C :: OO)).sc a v S) (C :: OO) (C :: OO) ((T (C :: OO)).set v (QQ n caps σ)) te o (f a)) : Ev K Er S OO OO σ (CJ n caps wi g tt te) (oL o) (m.bind λas=>Ek as c f):=λH Q w s P=>by
  refine he.ok w s ?_
  cases em : m with
  | bad=>rw [em] at P; exact P
  | err x=>rw [em] at P; exact P
  | ok as=>
    rw [em] at P
    obtain ⟨hsz, P⟩:=PZ.chk (show PZ Er _ H (chk (as.length <= sizeLine) (GV as c f)) from P)
    intro It H' s' hgo hstop
    refine ⟨λi mm ys H2=>mm = as.length - i /\ i <= as.length /\ ∃ bs Cs, Xz H H2 /\ W (Cs.flatten :: OO) H2 /\ Xz (hid H' OO) (hid H2 (Cs.flatten :: OO)) /\ P3 (o K (hid H2 (Cs.flatten :: OO))) ys bs Cs /\ bs.length <= i /\ PZ Er (FO K OO OO (oL o) Q) H ((GV (as.drop i) c f).bind λrest=>.ok (bs ++ rest)),
      ⟨as.length, rfl, Nat.zero_le _, [], [], s', (w.keep s').nil, by show Xz _ (hid H' ([] :: OO)); rw [Zx]; exact Xz.refl _, .nil, Nat.zero_le _, ?_⟩, ?_⟩
    . rw [List.drop_zero]
      revert P
      cases GV as c f <;> exact λz=>z
    . rintro i mm ys H2 ⟨rfl, hi, bs, Cs, s2, w2, m2, pr, hlen, P2⟩
      refine ⟨by rw [pr.len.1]; lia, ?_⟩
      by_cases hlt : i < as.length
      . right
        have ha : as[i]? = some as[i]:=by simp [hlt]
        obtain ⟨h4, h5⟩:=hgo i _ ha (Cs.flatten :: OO) H2 w2 m2
        refine ⟨h4, λys' H3=>∃ bs Cs, Xz H H3 /\ W (Cs.flatten :: OO) H3 /\ Xz (hid H' OO) (hid H3 (Cs.flatten :: OO)) /\ P3 (o K (hid H3 (Cs.flatten :: OO))) ys' bs Cs /\ bs.length <= i + 1 /\ PZ Er (FO K OO OO (oL o) Q) H ((GV (as.drop (i + 1)) c f).bind λrest=>.ok (bs ++ rest)), λys' H3 q=>⟨as.length - (i + 1), Nat.sub_lt_sub_left hlt (Nat.lt_succ_self i), rfl, hlt, q⟩, λy H3 hy=>?_⟩
        obtain ⟨s3, r3⟩:=h5 y H3 hy
        have w3:=w2.keep s3
        have m3:=Xj (OO:=Cs.flatten :: OO) s3
        have sS : S.p (hid H3 (Cs.flatten :: OO)):=S.mono _ _ ((Xj s').trans (m2.trans m3)) s
        refine (T (Cs.flatten :: OO)).ok r3 sS λv hv=>?_
        rw [List.drop_eq_getElem_cons hlt] at P2
        have P3' : PZ Er (FO K OO OO (oL o) Q) H ((c as[i]).bind λb=>(if b = true then (f as[i]).bind λb=>(GV (as.drop (i + 1)) c f).bind λbs=>.ok (b :: bs) else GV (as.drop (i + 1)) c f).bind λrest=>.ok (bs ++ rest)):=by
          rw [← Yp]; exact P2
        refine hc Cs.flatten as[i] v H3 _ w3 hv ?_
        cases ec : c as[i] with
        | bad=>rw [ec] at P3'; exact P3'
        | err x=>rw [ec] at P3'; exact λH4 s4=>P3' H4 (s2.trans (s3.trans s4))
        | ok b=>
          rw [ec] at P3'
          intro H4 s4
          have w4:=w3.keep s4
          have m4:=Xj (OO:=Cs.flatten :: OO) s4
          cases b with
          | false=>exact ⟨bs, Cs, s2.trans (s3.trans s4), w4, m2.trans (m3.trans m4), pr.imp λ_ _ _ h=>z.mono (m3.trans m4) h, Nat.le_succ_of_le hlen, P3'⟩
          | true=>
            rw [if_pos rfl]
            have P4 : PZ Er (FO K OO OO (oL o) Q) H ((f as[i]).bind λb=>(GV (as.drop (i + 1)) c f).bind λrest=>.ok (bs ++ b :: rest)):=by
              have : ((f as[i]).bind λb=>(GV (as.drop (i + 1)) c f).bind λrest=>Rs.ok (bs ++ b :: rest)) = ((f as[i]).bind λb=>(GV (as.drop (i + 1)) c f).bind λbs=>Rs.ok (b :: bs)).bind λrest=>.ok (bs ++ rest):=by
                rw [Yp]; congr 1; funext b; rw [Yp]; rfl
              rw [this]; exact P3'
            refine hb Cs.flatten as[i] v H4 _ w4 (((T (Cs.flatten :: OO)).sc as[i] v S).mono _ _ m4 hv) ?_
            cases eb : f as[i] with
            | bad=>rw [eb] at P4; exact P4
            | err x=>rw [eb] at P4; exact λH5 s5=>P4 H5 (s2.trans (s3.trans (s4.trans s5)))
            | ok b=>
              rw [eb] at P4
              intro v' C' H5 s5 w5 m5 ho
              have pe : ((Cs ++ [C']).flatten :: OO).flatten.Perm (C' :: Cs.flatten :: OO).flatten:=by
                simp only [ZM, List.flatten_cons]
                rw [List.append_assoc, ← List.append_assoc, ← List.append_assoc]
                exact List.perm_append_comm.append_right _
              refine ⟨bs ++ [b], Cs ++ [C'], s2.trans (s3.trans (s4.trans s5)), w5.of pe, ?_, ?_, by simpa using hlen, ?_⟩
              . rw [X7 pe]; exact m2.trans (m3.trans (m4.trans m5))
              . rw [X7 pe]; exact P3.snoc (pr.imp λ_ _ _ h=>z.mono (m3.trans (m4.trans m5)) h) ho
              . have P5 : PZ Er (FO K OO OO (oL o) Q) H ((GV (as.drop (i + 1)) c f).bind λrest => .ok (bs ++ b :: rest)) := P4
                simpa using P5
      . left
        have e : i = as.length:=Nat.le_antisymm hi (Nat.not_lt.mp hlt)
        subst e
        refine ⟨hstop (Cs.flatten :: OO) H2 w2 m2, ?_⟩
        rw [List.drop_length] at P2
        have P3' : FO K OO OO (oL o) Q (bs ++ []) H:=P2
        rw [List.append_nil] at P3'
        exact IC (H0:=H) w2 ((Xj s').trans m2) s2 pr P3'
noncomputable def QZ (as : List α) (i : Int) (a : α) : Rs (List α):=match ixN as.length i with
  | some j=>.ok (as.set j a)
  | none=>.bad
end
section
variable {K : PySem.W.Frag} {Er : Exc -> Hp -> Prop} {S : SC} {OO OO' OO2 : List (List XG)} {σ : St} {α β γ ρ ι δ ε : Type}
variable {Fd : Ends -> β -> Hp -> Prop} [fd : FdOk Fd] {u : TS}
theorem Ik {C D C' : List XG} {H : Hp} {k : Nat} {p : Addr} {o : HO} (w : W (D :: OO) H) (hk : OO[k]? = some C) (hp : p ∈ C.map (·.1)) (hp' : p ∈ C'.map (·.1)) (hnd : (C'.map (·.1)).Nodup) (hin : ∀ b ∈ C'.map (·.1), b ∈ (C ++ D).map (·.1)) (ht : ∀ c ∈ C', upd H p o c.1 = some c.2) (hm : ∀ c ∈ C', Ix c.2 = true) :
    W (OO.set k C') (upd H p o) /\ Xz (hid H (D :: OO)) (hid (upd H p o) (OO.set k C')):=by
  have hlt : k < OO.length:=by
    rcases Nat.lt_or_ge k OO.length with h | h
    . exact h
    . rw [List.getElem?_eq_none h] at hk; cases hk
  have h1:=Yf hk
  have h2:=Yf (OO:=OO.set k C') (k:=k) (C:=C') (by simp [hlt])
  rw [Ur] at h2
  have h3 : (OO.set k C').flatten.Perm (C' ++ (OO.set k []).flatten):=by simpa using h2.symm
  have h4 : (D :: OO).flatten.Perm ((C ++ D) ++ (OO.set k []).flatten):=by
    rw [List.flatten_cons]
    refine ((by simpa using h1.symm : OO.flatten.Perm (C ++ (OO.set k []).flatten)).append_left D).trans ?_
    rw [← List.append_assoc]
    exact List.perm_append_comm.append_right _
  have nd2 : (((C ++ D) ++ (OO.set k []).flatten).map (·.1)).Nodup:=(h4.map _).nodup_iff.mp w.nd
  rw [List.map_append] at nd2
  obtain ⟨n1, n2, n3⟩:=List.nodup_append.mp nd2
  refine ⟨⟨λc hc=>?_, ?_, λc hc=>?_⟩, λb v q=>?_⟩
  . rcases List.mem_append.mp (h3.mem_iff.mp hc) with hc | hc
    . exact ht c hc
    . have hne : c.1 ≠ p := λe => n3 p (hin p hp') c.1 (List.mem_map.mpr ⟨c, hc, rfl⟩) e.symm
      rw [Xv hne]
      exact w.tr c (h4.mem_iff.mpr (by simp [hc]))
  . refine ((h3.map _).nodup_iff).mpr ?_
    rw [List.map_append]
    exact List.nodup_append.mpr ⟨hnd, n2, λa ha b hb=>n3 a (hin a ha) b hb⟩
  . rcases List.mem_append.mp (h3.mem_iff.mp hc) with hc | hc
    . exact hm c hc
    . exact w.mu c (h4.mem_iff.mpr (by simp [hc]))
  . obtain ⟨q1, q2⟩ := X3 q
    have hbp : b ≠ p:=λe=>q2 (by
      rw [e]
      obtain ⟨c, hc, rfl⟩:=List.mem_map.mp hp
      exact Jx (h4.mem_iff.mpr (by simp [hc])))
    refine Zq (by rw [Xv hbp]; exact q1) λz=>q2 ?_
    obtain ⟨o', ho'⟩:=Cn z
    rcases List.mem_append.mp (h3.mem_iff.mp ho') with hc | hc
    . obtain ⟨c, hc2, e⟩ := List.mem_map.mp (hin b (List.mem_map.mpr ⟨_, hc, rfl⟩))
      rw [← e]
      exact Jx (h4.mem_iff.mpr (List.mem_append_left _ hc2))
    . exact Jx (c:=(b, o')) (h4.mem_iff.mpr (by simp [hc]))
theorem Ly {D : List XG} {Cs Cs' : List (List XG)} {H : Hp} {k : Nat} {p : Addr} {xs xs' : List V} (w : W (D :: OO) H) (hk : OO[k]? = some ((p, .lst xs) :: Cs.flatten)) (hin : ∀ c ∈ Cs'.flatten, c ∈ Cs.flatten ++ D) (hnd : (Cs'.flatten.map (·.1)).Nodup) :
    W (OO.set k ((p, .lst xs') :: Cs'.flatten)) (upd H p (.lst xs')) /\ Xz (hid H (D :: OO)) (hid (upd H p (.lst xs')) (OO.set k ((p, .lst xs') :: Cs'.flatten))):=by
  have h1:=Yf hk
  have w3 : W [((p, HO.lst xs) :: (Cs.flatten ++ D)) ++ (OO.set k []).flatten] H:=w.of (by
    simp only [List.flatten_cons, List.flatten_nil, List.append_nil]
    refine List.Perm.trans ?_ ((by simpa using h1 : (((p, HO.lst xs) :: Cs.flatten) ++ (OO.set k []).flatten).Perm OO.flatten).append_left D)
    rw [← List.append_assoc]
    refine List.Perm.append_right _ ?_
    exact (List.perm_append_comm (l₁:=(p, HO.lst xs) :: Cs.flatten) (l₂:=D)))
  have nd:=w3.nd
  simp only [fl, List.flatten_cons, List.flatten_nil, List.append_nil, List.map_append, List.cons_append, List.map_cons] at nd
  have hne : ∀ c ∈ Cs'.flatten, c.1 ≠ p:=λc hc e=>by
    refine (List.nodup_cons.mp nd).1 ?_
    rw [← e]
    refine List.mem_append_left _ ?_
    rw [← List.map_append]
    exact List.mem_map.mpr ⟨c, hin c hc, rfl⟩
  refine Ik w hk List.mem_cons_self List.mem_cons_self ?_ ?_ ?_ ?_
  . rw [List.map_cons, List.nodup_cons]
    refine ⟨λz=>?_, hnd⟩
    obtain ⟨c, hc, e⟩:=List.mem_map.mp z
    exact hne c hc e
  . intro b hb
    rcases List.mem_cons.mp hb with rfl | hb
    . exact List.mem_cons_self
    . obtain ⟨c, hc, rfl⟩ := List.mem_map.mp hb
      rw [List.cons_append, List.map_cons]
      exact List.mem_cons_of_mem _ (List.mem_map.mpr ⟨c, hin c hc, rfl⟩)
  . intro c hc
    rcases List.mem_cons.mp hc with rfl | hc
    . exact Yv
    . rw [Xv (hne c hc)]
      exact w3.tr c (by
        rw [List.flatten_cons, List.flatten_nil, List.append_nil]
        exact List.mem_append_left _ (List.mem_cons_of_mem _ (hin c hc)))
  . intro c hc
    rcases List.mem_cons.mp hc with rfl | hc
    . rfl
    . exact w3.mu c (by
        rw [List.flatten_cons, List.flatten_nil, List.append_nil]
        exact List.mem_append_left _ (List.mem_cons_of_mem _ (hin c hc)))
theorem Gk {o : OE α} {h : Hp} {p : Addr} {xs : List V} {as : List α} {R : List XG} (q : oL o K h (.ref p) as ((p, .lst xs) :: R)) : ∃ Cs, P3 (o K h) xs as Cs /\ R = Cs.flatten:=by
  obtain ⟨p', xs', Cs, e, q, c⟩:=q
  injection c with c1 c2
  injection c1 with c3 c4
  injection c4 with c5
  subst c5
  exact ⟨Cs, q, c2⟩
theorem Ij {as : List α} {i : Int} {a : α} {bs : List α} (h : QZ as i a = .ok bs) : ∃ j, ixN as.length i = some j /\ bs = as.set j a:=by
  unfold QZ at h; split at h
  . cases h; exact ⟨_, by assumption, rfl⟩
  . cases h
theorem Hv {as : List α} {i : Int} {a : α} {x : Exc} : QZ as i a ≠ .err x:=by unfold QZ; split <;> exact λz=>nomatch z
theorem ZL {l r m : List XG} (h : (l ++ r).Perm m) (n : (m.map (·.1)).Nodup) : (l.map (·.1)).Nodup:=by
  have : ((l ++ r).map (·.1)).Nodup:=(h.map _).nodup_iff.mpr n
  rw [List.map_append] at this
  exact (List.nodup_append.mp this).1
theorem V9 {Cs : List (List XG)} {j : Nat} {D : List XG} (hj : j < Cs.length) : ((Cs.set j D).flatten ++ Cs[j]).Perm (Cs.flatten ++ D):=by
  have h1:=Yf (OO:=Cs) (k:=j) (C:=Cs[j]) (by simp [hj])
  have h2:=Yf (OO:=Cs.set j D) (k:=j) (C:=D) (by simp [hj])
  rw [Ur] at h2
  have h3 : (Cs.set j D).flatten.Perm (D ++ (Cs.set j []).flatten):=by simpa using h2.symm
  have h4 : Cs.flatten.Perm (Cs[j] ++ (Cs.set j []).flatten):=by simpa using h1.symm
  refine (h3.append_right _).trans (List.Perm.trans ?_ (h4.append_right _).symm)
  refine List.perm_append_comm.trans ((List.perm_append_comm.append_left _).trans ?_)
  rw [List.append_assoc]
theorem ZV {D : List XG} {Cs : List (List XG)} {H : Hp} {k : Nat} {p : Addr} {xs : List V} (w : W (D :: OO) H) (hk : OO[k]? = some ((p, .lst xs) :: Cs.flatten)) : ((Cs.flatten ++ D).map (·.1)).Nodup:=by
  have h1:=Yf hk
  have w3 : W [((p, HO.lst xs) :: (Cs.flatten ++ D)) ++ (OO.set k []).flatten] H:=w.of (by
    simp only [List.flatten_cons, List.flatten_nil, List.append_nil]
    refine List.Perm.trans ?_ ((by simpa using h1 : (((p, HO.lst xs) :: Cs.flatten) ++ (OO.set k []).flatten).Perm OO.flatten).append_left D)
    rw [← List.append_assoc]
    refine List.Perm.append_right _ ?_
    exact (List.perm_append_comm (l₁:=(p, HO.lst xs) :: Cs.flatten) (l₂:=D)))
  have nd:=w3.nd
  simp only [fl, List.flatten_cons, List.flatten_nil, List.append_nil, List.cons_append, List.map_cons] at nd
  have n2:=(List.nodup_cons.mp nd).2
  rw [List.map_append] at n2
  exact (List.nodup_append.mp n2).1
theorem Ud {ta ti : TE} {o : OE α} [MonoO o] {m : Rs α} {mi : Rs Int} {f : List α -> Rs β} {v : V} {as : List α} {C : List XG} (i k : Nat) (hσ : σ[i]? = some (some v)) (hk' : OO'[k]? = some C) (h : ∀ x, S.p x -> oL o K x v as C) (he : Ev K Er S OO OO' σ ta o m)
    (hi : ∀ D, EvB K Er S (D :: OO') σ ti Xa mi)
    (hr : ∀ bs C', Sv Er (S.addO K (oL o) v bs C') (OO'.set k C') σ u Fd (f bs)) : Sv Er S OO σ (Jg (Ef ta (MF (UY i) ti Hu)) u) Fd (m.bind λa=>mi.bind λj=>(QZ as j a).bind f):=λH D w s P=>
  he.st w s P λa y D' H' w' s' ho P'=>⟨v, hσ, (hi D').st w' s' P' λj z H2 s2 w2 q2 r2 P2=>by
    obtain ⟨p, xs, Cs, e, q, c⟩:=h _ q2
    subst c
    have hH : H2 p = some (.lst xs):=w2.tr (p, .lst xs) (by rw [List.flatten_cons]; exact List.mem_append_right _ (List.mem_flatten.mpr ⟨_, List.mem_of_getElem? hk', List.mem_cons_self⟩))
    cases es : QZ as j a with
    | bad=>rw [es] at P2; exact P2.elim
    | err x=>exact absurd es Hv
    | ok bs=>
      rw [es] at P2
      obtain ⟨jj, h1, rfl⟩:=Ij es
      have hjl : jj < as.length:=by
        unfold ixN at h1
        split at h1
        . split at h1
          . cases h1; lia
          . cases h1
        . split at h1
          . cases h1; lia
          . cases h1
      have hjC : jj < Cs.length:=by rw [q.len.2]; exact hjl
      have hp:=V9 (Cs:=Cs) (j:=jj) (D:=D') hjC
      obtain ⟨w3, m3⟩:=Ly (xs':=xs.set jj y) (Cs':=Cs.set jj D') w2 hk' (λc hc=>hp.mem_iff.mp (List.mem_append_left _ hc)) (ZL hp (ZV w2 hk'))
      refine ⟨p, xs, j, jj, e, r2, hH, by rw [q.len.1]; exact h1, hr _ _ _ D w3 ⟨S.mono _ _ m3 q2, ⟨p, _, _, e, P3.imp (λ_ _ _ z=>MonoO.mono m3 z) (P3.set (MonoO.mono (Xj s2) ho) jj q), rfl⟩⟩ (PZ.tr (fd.tr D) m3 P2)⟩⟩
theorem IB {ta : TE} {o : OE α} [MonoO o] {m : Rs (List α)} {f : List α -> Rs β} {v : V} {as : List α} {C : List XG} (i k : Nat) (hσ : σ[i]? = some (some v)) (hk : OO[k]? = some C) (hk' : OO'[k]? = some C) (h : ∀ x, S.p x -> oL o K x v as C) (he : Ev K Er S OO OO' σ ta (oL o) m)
    (hr : ∀ bs C', Sv Er (S.addO K (oL o) v (as ++ bs) C') (OO'.set k C') σ u Fd (f (as ++ bs))) : Sv Er S OO σ (Jg (Fk (tBM K "list" Cr (UY i) (XN ta ZX))) u) Fd (m.bind λbs=>chk (as.length + bs.length <= sizeLine) (f (as ++ bs))):=λH D w s P=>by
  obtain ⟨p, xs, Cs, e, q, c⟩:=h _ s
  subst c
  have hH : H p = some (.lst xs):=w.tr (p, .lst xs) (List.mem_flatten.mpr ⟨_, List.mem_of_getElem? hk, List.mem_cons_self⟩)
  refine ⟨v, hσ, by rw [e]; exact .inl ⟨rfl, _, SqL.of hH⟩, he.st w s P λbs y D' H' w' s' ho P'=>?_⟩
  obtain ⟨hsz, P'⟩:=PZ.chk P'
  subst e
  obtain ⟨Cs2, q2, c2⟩:=Gk (h _ s')
  obtain ⟨p', zs, Ds, e3, q3, c3⟩:=ho
  subst c3
  have hH' : H' p = some (.lst xs):=w'.tr (p, .lst xs) (by rw [List.flatten_cons]; exact List.mem_append_right _ (List.mem_flatten.mpr ⟨_, List.mem_of_getElem? hk', List.mem_cons_self⟩))
  have hH2 : H' p' = some (.lst zs):=w'.tr (p', .lst zs) (by rw [List.flatten_cons]; exact List.mem_append_left _ List.mem_cons_self)
  have cn:=ZV w' hk'
  obtain ⟨w3, m3⟩:=Ly (xs':=xs ++ zs) (Cs':=Cs2 ++ Ds) w' hk' (λc hc=>by
      rw [List.flatten_append, List.mem_append] at hc
      rcases hc with hc | hc
      . rw [c2]; exact List.mem_append_left _ hc
      . exact List.mem_append_right _ (List.mem_cons_of_mem _ hc)) (by
      rw [List.flatten_append, ← c2]
      refine List.Nodup.sublist (List.Sublist.map _ ?_) cn
      exact List.Sublist.append (List.Sublist.refl _) (List.sublist_cons_self _ _))
  refine ⟨p, p', xs, zs, rfl, by rw [e3], hH', hH2, by rw [q2.len.1, q3.len.1]; exact hsz, ?_⟩
  exact hr bs _ _ D w3 ⟨S.mono _ _ m3 s', ⟨p, _, _, rfl, P3.imp (λ_ _ _ z=>MonoO.mono m3 z) (q2.app q3), rfl⟩⟩ (PZ.tr (fd.tr D) m3 P')
noncomputable def Cv (as : List α) (i : Int) : Rs (α × List α):=chk (-(2 ^ 63) <= i /\ i < 2 ^ 63) (match seqIndex? i as.length with
  | none=>.bad
  | some k=>match as[k]? with
    | none=>.bad
    | some a=>.ok (a, as.eraseIdx k))
theorem EI {as : List α} {i : Int} {p : α × List α} (h : Cv as i = .ok p) : (-(2 ^ 63) <= i /\ i < 2 ^ 63) /\ ∃ k, seqIndex? i as.length = some k /\ as[k]? = some p.1 /\ p.2 = as.eraseIdx k:=by
  obtain ⟨h1, h2⟩:=Zn h
  refine ⟨h1, ?_⟩
  split at h2
  . cases h2
  . split at h2
    . cases h2
    . cases h2; exact ⟨_, by assumption, by assumption, rfl⟩
theorem Hs {as : List α} {i : Int} {x : Exc} : Cv as i ≠ .err x:=by
  unfold Cv chk; split
  . split
    . exact λz=>nomatch z
    . split <;> exact λz=>nomatch z
  . exact λz=>nomatch z
theorem Paired.erase' {F : α -> γ -> Prop} : ∀ {l : List α} {m : List γ} (n : Nat), Paired F l m -> Paired F (l.eraseIdx n) (m.eraseIdx n)
  | _, _, _, .nil=>.nil
  | _, _, 0, .cons _ t=>t
  | _, _, n + 1, .cons r t=>.cons r (Paired.erase' n t)
theorem DZ {te ti : TE} {r : Enc α} [MonoE r] {mi : Rs Int} {f : α × List α -> Rs β} {v : V} {as : List α} {C : List XG} {D : Ends} {H : Hp} {Q : VK} (i k : Nat) (hσ : σ[i]? = some (some v)) (hk : OO[k]? = some C) (h : ∀ x, S.p x -> oL (oF r) K x v as C) (hi : EvB K Er S OO σ ti Xa mi)
    (w : W OO H) (s : S.p (hid H OO)) (P : PZ Er (Fd D) (hid H OO) (mi.bind λj=>(Cv as j).bind f))
    (hr : ∀ a bs y C' H', W (OO.set k C') H' -> ((S.add K r y a).addO K (oL (oF r)) v bs C').p (hid H' (OO.set k C')) -> PZ Er (Fd D) (hid H' (OO.set k C')) (f (a, bs)) -> Q y H') : tBM K "list" GF (UY i) (XN ti ZX) σ H Q:=by
  obtain ⟨p, xs, Cs, e, q, c⟩:=h _ s
  subst c
  have hH : H p = some (.lst xs):=w.tr (p, .lst xs) (List.mem_flatten.mpr ⟨_, List.mem_of_getElem? hk, List.mem_cons_self⟩)
  refine ⟨v, hσ, by rw [e]; exact .inl ⟨rfl, _, SqL.of hH⟩, hi.st w s P λj z H' s1 w' s' ho P'=>?_⟩
  subst e
  obtain ⟨Cs2, q2, c2⟩:=Gk (h _ s')
  obtain ⟨pr, hfl⟩:=P3.flat q2
  cases es : Cv as j with
  | bad=>rw [es] at P'; exact P'.elim
  | err x=>exact absurd es Hs
  | ok pp=>
    rw [es] at P'
    obtain ⟨a, bs⟩:=pp
    obtain ⟨h1, kk, h2, h3, h4⟩:=EI es
    obtain ⟨y, hy, ry⟩:=Paired.getR pr h3
    have w0 : W ([] :: OO) H':=w'.nil
    have hk0 : OO[k]? = some ((p, .lst xs) :: ([] : List (List XG)).flatten):=by rw [hk, c2, hfl]; rfl
    obtain ⟨w3, m3⟩:=Ly (D:=[]) (Cs:=[]) (xs':=xs.eraseIdx kk) (Cs':=List.replicate bs.length []) w0 hk0 (λc hc=>by rw [YL] at hc; cases hc) (by rw [YL]; exact List.nodup_nil)
    rw [Zx] at m3
    refine ⟨p, xs, j, kk, y, rfl, by rw [show z = .int j from ho], s1 _ _ hH, h1.1, h1.2, by rw [Paired.len pr]; exact h2, hy, ?_⟩
    have pr2 : Paired (r K (hid H' OO)) (xs.eraseIdx kk) bs:=by rw [show bs = as.eraseIdx kk from h4]; exact Paired.erase' kk pr
    exact hr a bs y _ _ w3 ⟨⟨S.mono _ _ m3 s', MonoE.mono m3 ry⟩, ⟨p, _, _, rfl, (P3.of (Paired.imp2 (λ_ _ z=>MonoE.mono m3 z) pr2)).imp λ_ _ _ z=>z, rfl⟩⟩ (PZ.tr (fd.tr D) m3 P')
theorem Lr {ti : TE} {r : Enc α} [MonoE r] {mi : Rs Int} {f : α × List α -> Rs β} {v : V} {as : List α} {C : List XG} (x i k : Nat) (hσ : σ[i]? = some (some v)) (hk : OO[k]? = some C) (h : ∀ x, S.p x -> oL (oF r) K x v as C) (hi : EvB K Er S OO σ ti Xa mi)
    (hr : ∀ a bs y C', Sv Er ((S.add K r y a).addO K (oL (oF r)) v bs C') (OO.set k C') (σ.set x (some y)) u Fd (f (a, bs))) : Sv Er S OO σ (Jg (Ef (tBM K "list" GF (UY i) (XN ti ZX)) (ZE x)) u) Fd (mi.bind λj=>(Cv as j).bind f):=λH D w s P=>
  DZ (te:=ti) i k hσ hk h hi w s P λa bs y C' H' w' s' P'=>hr a bs y C' H' D w' s' P'
theorem B4 {ti : TE} {r : Enc α} [MonoE r] {mi : Rs Int} {f : List α -> List α -> Rs β} {v v2 : V} {as zs : List α} {C C2 : List XG} (i k i2 k2 : Nat) (hne : k2 ≠ k) (hσ : σ[i]? = some (some v)) (hk : OO[k]? = some C) (h : ∀ x, S.p x -> oL (oF r) K x v as C)
    (hσ2 : σ[i2]? = some (some v2)) (hk2 : OO[k2]? = some C2) (h2 : ∀ x, S.p x -> oL (oF r) K x v2 zs C2) (hi : EvB K Er S OO σ ti Xa mi)
    (hr : ∀ a bs C' C2', Sv Er ((S.addO K (oL (oF r)) v bs C').addO K (oL (oF r)) v2 (zs ++ [a]) C2') ((OO.set k C').set k2 C2') σ u Fd (f bs (zs ++ [a]))) :
    Sv Er S OO σ (Jg (Fk (tBM K "list" Uo (UY i2) (XN (tBM K "list" GF (UY i) (XN ti ZX)) ZX))) u) Fd (mi.bind λj=>(Cv as j).bind λp=>chk (zs.length < sizeLine) (f p.2 (zs ++ [p.1]))):=λH D w s P=>by
  obtain ⟨p2, xs2, Cs2, e2, q2, c2⟩:=h2 _ s
  subst c2
  have hH2 : H p2 = some (.lst xs2):=w.tr (p2, .lst xs2) (List.mem_flatten.mpr ⟨_, List.mem_of_getElem? hk2, List.mem_cons_self⟩)
  refine ⟨v2, hσ2, by rw [e2]; exact .inl ⟨rfl, _, SqL.of hH2⟩, DZ (te:=ti) i k hσ hk h hi w s P λa bs y C' H' w' s' P'=>?_⟩
  obtain ⟨hsz, P'⟩:=PZ.chk P'
  subst e2
  obtain ⟨Cs3, q3, c3⟩:=Gk (h2 _ s'.1.1)
  obtain ⟨pr, hfl⟩:=P3.flat q3
  have hkk : (OO.set k C')[k2]? = some ((p2, HO.lst xs2) :: ([] : List (List XG)).flatten):=by
    rw [List.getElem?_set_ne (λe=>hne e.symm), hk2, c3, hfl]; rfl
  have hH3 : H' p2 = some (.lst xs2):=w'.tr (p2, .lst xs2) (List.mem_flatten.mpr ⟨_, List.mem_of_getElem? hkk, List.mem_cons_self⟩)
  obtain ⟨w3, m3⟩:=Ly (D:=[]) (Cs:=[]) (xs':=xs2 ++ [y]) (Cs':=List.replicate (zs ++ [a]).length []) w'.nil hkk (λc hc=>by rw [YL] at hc; cases hc) (by rw [YL]; exact List.nodup_nil)
  rw [Zx] at m3
  refine ⟨p2, xs2, y, rfl, rfl, hH3, by rw [Paired.len pr]; exact hsz, ?_⟩
  refine hr a bs C' _ _ D w3 ⟨⟨S.mono _ _ m3 s'.1.1, (SC.oneO K (oL (oF r)) v bs C').mono _ _ m3 s'.2⟩, ⟨p2, _, _, rfl, (P3.of (Paired.app (Paired.imp2 (λ_ _ z=>MonoE.mono m3 z) pr) (.cons (MonoE.mono m3 (show r K _ y a from s'.1.2)) .nil))).imp λ_ _ _ z=>z, rfl⟩⟩ (PZ.tr (fd.tr D) m3 P')
theorem Cb {te : TE} {g : Int -> Int -> Int} {m : Rs Int} {f : Int -> Rs β} {v : V} {a : Int} (i : Nat) (hσ : σ[i]? = some (some v)) (h : ∀ x, S.p x -> Xa K x v a) (he : EvB K Er S OO σ te Xa m)
    (hr : ∀ b v, Sv Er (S.add K Xa v b) OO (σ.set i (some v)) u Fd (f b)) : Sv Er S OO σ (Jg (LY i te (ipI g)) u) Fd (m.bind λb=>f (g a b)):=λH D w s P=>
  ⟨v, hσ, he.st w s P λb y H1 s1 w1 q1 r1 P1=>⟨a, b, h _ s, r1, hr _ _ H1 D w1 ⟨q1, rfl⟩ P1⟩⟩
theorem DX {ta tb : TE} {ma mb : Rs Int} (ha : EvB K Er S OO σ ta Xa ma) (hb : EvB K Er S OO σ tb Xa mb) : EvB K Er S OO σ (tCB (λxs H Q=>∃ i j : Int, xs = [.int i, .int j] /\ Q (.int (if j > i then j else i)) H) (XN ta (XN tb ZX))) Xa (ma.bind λa=>mb.bind λb=>.ok (max a b)):=λH Q w s P=>
  ha.run w s FB.tr P λa x H1 s1 w1 q1 r1 P1=>hb.run w1 q1 FB.tr P1 λb y H2 s2 w2 q2 r2 P2=>⟨a, b, by rw [show x = .int a from r1, show y = .int b from r2], P2 _ H2 (Xz.refl _) (by show V.int _ = V.int _; congr 1; lia)⟩
theorem Is {ta tb : TE} {ma mb : Rs Int} (ha : EvB K Er S OO σ ta Xa ma) (hb : EvB K Er S OO σ tb Xa mb) : EvB K Er S OO σ (tCB (λxs H Q=>∃ i j : Int, xs = [.int i, .int j] /\ Q (.int (if j < i then j else i)) H) (XN ta (XN tb ZX))) Xa (ma.bind λa=>mb.bind λb=>.ok (min a b)):=λH Q w s P=>
  ha.run w s FB.tr P λa x H1 s1 w1 q1 r1 P1=>hb.run w1 q1 FB.tr P1 λb y H2 s2 w2 q2 r2 P2=>⟨a, b, by rw [show x = .int a from r1, show y = .int b from r2], P2 _ H2 (Xz.refl _) (by show V.int _ = V.int _; congr 1; lia)⟩
theorem Dm {ta : TE} {ma : Rs (List Int)} (ha : EvB K Er S OO σ ta (rV Xa) ma) : EvB K Er S OO σ (tCB (MC K) (XN ta ZX)) Xa (ma.bind λa=>.ok a.sum):=λH Q w s P=>
  ha.run w s FB.tr P λa x H1 s1 w1 q1 r9 P1=>by obtain ⟨p, xs, e, q, pr⟩:=r9; exact ⟨p, a, by rw [e], by rw [← JY pr]; exact SqL.of q, P1 _ H1 (Xz.refl _) rfl⟩
theorem Jo : ∀ {xs : List V} {bs : List Bool} {H : Hp}, Paired (Xr K H) xs bs -> xs = bs.map V.bl
  | _, _, _, .nil=>rfl
  | _, _, _, .cons r t=>by rw [show _ = V.bl _ from r, Jo t]; rfl
theorem EU {ta : TE} {ma : Rs (List Bool)} (ha : EvB K Er S OO σ ta (rV Xr) ma) : EvB K Er S OO σ (tCB (MQ K) (XN ta ZX)) Xr (ma.bind λa=>.ok (a.all id)):=λH Q w s P=>
  ha.run w s FB.tr P λa x H1 s1 w1 q1 r9 P1=>by obtain ⟨p, xs, e, q, pr⟩:=r9; exact ⟨p, a, by rw [e], by rw [← Jo pr]; exact SqL.of q, P1 _ H1 (Xz.refl _) rfl⟩
class TyE {α : Type} (r : Enc α) (n : outParam String) : Prop where
  ty : ∀ {K : PySem.W.Frag} {H : Hp} {v : V} {a : α}, r K H v a -> TyOf K H v (.type n)
instance : TyE Xa "int":=⟨fun {K H v a} h=>by cases (show v = .int a from h); exact .int a⟩
instance : TyE Xr "bool":=⟨fun {K H v a} h=>by cases (show v = .bl a from h); exact .bl a⟩
instance : TyE Ql "str":=⟨fun {K H v a} h=>by cases (show v = .str a from h); exact .str a⟩
instance {r : Enc α} : TyE (rV r) "list":=⟨λr9=>by obtain ⟨p, xs, e, q, _⟩:=r9; exact by subst e; exact .lst q⟩
instance {r : Enc α} {q : Enc γ} {t : Enc δ} : TyE (rP3 r q t) "tuple":=⟨λr9=>by obtain ⟨p, x, y, z, e, q, _⟩:=r9; exact by subst e; exact .tup q⟩
theorem Qp {te : TE} {r : Enc α} {n : String} [z : TyE r n] {m : Rs α} (t : String) (b : Bool) (hk : PySem.W.kitOne K (.type n) (.type t) = some b) (he : EvB K Er S OO σ te r m) :
    EvB K Er S OO σ (tCB (λxs H Q=>∃ x n t b, xs = [x, .ty n] /\ TyOf K H x t /\ PySem.W.kitOne K t (.type n) = some b /\ Q (.bl b) H) (XN te (XN (tC (.ty t)) ZX))) Xr (m.bind λ_=>.ok b):=λH Q w s P=>
  he.run w s FB.tr P λa x H1 s1 w1 q1 r1 P1=>⟨x, t, .type n, b, rfl, z.ty r1, hk, P1 _ H1 (Xz.refl _) rfl⟩
end
section
variable {K : PySem.W.Frag} {Er : Exc -> Hp -> Prop} {S : SC} {OO OO' OO1 OO2 : List (List XG)} {σ : St} {α β γ ρ ι δ ε : Type}
variable {Fd : Ends -> β -> Hp -> Prop} [fd : FdOk Fd] {u : TS}
theorem EM (n : Nat) (H : Hp) : W (List.replicate n []) H:=⟨λc hc=>(by rw [YL] at hc; cases hc), (by unfold fl; rw [YL]; exact List.nodup_nil), λc hc=>(by rw [YL] at hc; cases hc)⟩
theorem Fz (n : Nat) (H : Hp) : hid H (List.replicate n []) = H:=by funext b; unfold hid fl; rw [YL]; simp
theorem Eh {o : OE ρ} [z : MonoO o] {Q : VK} {b : ρ} {H : Hp} (q : FF K o Q b H) : ∀ v C OO' H', W (C :: OO') H' -> Xz H (hid H' (C :: OO')) -> o K (hid H' (C :: OO')) v b C -> Q v H':=λv C OO' H' w m ho=>by
  have hs : Xz (hid H' (C :: OO')) (hid H' [C]):=QA (Xz.refl _) λb hb=>by
    rw [X6]
    refine List.mem_append_left _ ?_
    simpa [fl] using hb
  exact q v C H' (w.sub (by simp)) (m.trans hs) (z.mono hs ho)
theorem Zj {o : OE ρ} [MonoO o] {t : TS} {m : Rs ρ} {Q : VK} {b : ρ} {H : Hp} {D : Ends} (n : Nat) (h : Sv (λ_ _=>False) S (List.replicate n []) σ t (FTd K o) m) (hs : S.p H) (hm : m = .ok b) (q : FF K o Q b H) (hD : D.rt = Q) : t D σ H:=by
  refine h H D (EM n H) (by rw [Fz]; exact hs) ?_
  subst hm
  rw [Fz]
  intro v C OO' H' w mm ho
  rw [hD]
  exact Eh q v C OO' H' w mm ho
noncomputable def oU : OE Unit:=λ_ _ v _ C=>v = .non /\ C = []
instance : MonoO oU:=⟨λ_ h=>h⟩
instance : FlatO oU:=⟨λ_ h=>h⟩
noncomputable def rU0 : Enc Unit:=λ_ _ v _=>v = .non
instance : FlatE rU0:=⟨λ_ h=>h⟩
instance : FrzC oU rU0:=⟨λh _ _=>h.1⟩
theorem HS {t : TS} {m : Rs β} (k : Nat) (hr : Sv Er S (OO.set k []) σ t Fd m) : Sv Er S OO σ t Fd m:=λH D w s P=>by
  cases hk : OO[k]? with
  | none=>
    rw [List.set_eq_of_length_le (List.getElem?_eq_none_iff.mp hk)] at hr
    exact hr H D w s P
  | some C=>
    have hp:=Yf hk
    have w1 : W (C :: OO.set k []) H:=w.of hp
    have hs : Xz (hid H OO) (hid H (OO.set k [])):=by
      rw [← X7 hp]
      exact QA (Xz.refl _) λb hb=>by rw [X6]; simp [hb]
    exact hr H D w1.tail (S.mono _ _ hs s) (PZ.tr (fd.tr D) hs P)
theorem Hg {te : TE} {r : Enc α} {m : Rs α} {f : Rs β} (he : EvB K Er S OO σ te r m) (hr : Sv Er S OO σ u Fd f) : Sv Er S OO σ (Jg (Fk te) u) Fd (m.bind λ_=>f):=λH D w s P=>
  he.st w s P λa v H' s1 w' s' ho P'=>hr H' D w' s' P'
noncomputable def FAO {α : Type} (K : PySem.W.Frag) (OO OO' : List (List XG)) (o : OE α) (Q : List V -> Hp -> Prop) (as : List α) (H : Hp) : Prop:=∀ vs Cs H', Xz H H' -> W (Cs.flatten :: OO') H' -> Xz (hid H OO) (hid H' (Cs.flatten :: OO')) -> P3 (o K (hid H' (Cs.flatten :: OO'))) vs as Cs -> Q vs H'
noncomputable def L7 {α : Type} (K : PySem.W.Frag) (Er : Exc -> Hp -> Prop) (S : SC) (OO OO' : List (List XG)) (σ : St) (t : TA) (o : OE α) (m : Rs (List α)) : Prop:=∀ H Q, W OO H -> S.p (hid H OO) -> PZ Er (FAO K OO OO' o Q) H m -> t σ H Q
theorem BF {o : OE α} : L7 K Er S OO OO σ ZX o (.ok []):=λH Q w s P=>P [] [] H (Xz.refl _) w.nil (by show Xz _ (hid H ([] :: OO)); rw [Zx]; exact Xz.refl _) .nil
theorem CQ {te : TE} {t : TA} {o : OE α} [z : MonoO o] {m : Rs α} {n : Rs (List α)} (he : Ev K Er S OO OO1 σ te o m) (ht : ∀ C, L7 K Er S (C :: OO1) (C :: OO2) σ t o n) : L7 K Er S OO OO2 σ (XN te t) o (m.bind λa=>n.bind λas=>.ok (a :: as)):=λH Q w s P=>by
  refine he H _ w s ?_
  cases em : m with
  | bad=>rw [em] at P; exact P
  | err x=>rw [em] at P; exact P
  | ok a=>
    rw [em] at P
    intro v C H1 s1 w1 m1 ho
    refine ht C H1 _ w1 (S.mono _ _ m1 s) ?_
    have P1 : PZ Er (FAO K OO OO2 o Q) H (n.bind λas=>.ok (a :: as)):=P
    cases en : n with
    | bad=>rw [en] at P1; exact P1
    | err x=>rw [en] at P1; exact λH2 s2=>P1 H2 (s1.trans s2)
    | ok as=>
      rw [en] at P1
      have P1 : FAO K OO OO2 o Q (a :: as) H:=P1
      intro vs Cs H2 s2 w2 m2 pr
      have pe : ((C :: Cs).flatten :: OO2).flatten.Perm (Cs.flatten :: C :: OO2).flatten:=by
        simp only [List.flatten_cons]
        rw [← List.append_assoc]
        exact List.perm_append_comm.append_right _
      refine P1 (v :: vs) (C :: Cs) H2 (s1.trans s2) (w2.of pe) ?_ ?_
      . rw [X7 pe]; exact m1.trans m2
      . rw [X7 pe]; exact .cons (z.mono m2 ho) pr
class InE {α : Type} [DecidableEq α] (r : Enc α) : Prop where
  fl : ∀ {K : PySem.W.Frag} {H : Hp} {x : V} {a : α}, r K H x a -> JD x = true
  eq : ∀ {K : PySem.W.Frag} {H H' : Hp} {x y : V} {a b : α}, r K H x a -> r K H' y b -> eqV x y = decide (a = b)
instance : InE Xa:=⟨fun {K H x a} h=>by cases (show x = .int a from h); rfl, fun {K H H' x y a b} h h'=>by
  cases (show x = .int a from h); cases (show y = .int b from h'); show (a == b) = _; rw [Mw]⟩
instance : InE Ql:=⟨fun {K H x a} h=>by cases (show x = .str a from h); rfl, fun {K H H' x y a b} h h'=>by
  cases (show x = .str a from h); cases (show y = .str b from h'); show (a == b) = _
  rw [Bool.eq_iff_iff]; simp⟩
theorem Vy [DecidableEq α] {r : Enc α} [z : InE r] {H H' : Hp} {x : V} {a : α} (hx : r K H x a) : ∀ {xs : List V} {as : List α}, Paired (r K H') xs as -> xs.all JD = true /\ inV x xs = decide (a ∈ as)
  | _, _, .nil=>⟨rfl, by simp [inV]⟩
  | _, _, .cons h t=>by
    obtain ⟨h1, h2⟩:=Vy hx t
    refine ⟨by rw [List.all_cons, h1, z.fl h]; rfl, ?_⟩
    unfold inV at h2 ⊢
    rw [List.any_cons, h2, z.eq h hx, Bool.eq_iff_iff, Bool.or_eq_true, decide_eq_true_eq, decide_eq_true_eq, decide_eq_true_eq, List.mem_cons]
    exact or_congr ⟨Eq.symm, Eq.symm⟩ Iff.rfl
theorem Ls [DecidableEq α] {ta tb : TE} {r : Enc α} [z : InE r] {ma : Rs α} {mb : Rs (List α)} (ha : EvB K Er S OO σ ta r ma) (hb : EvB K Er S OO σ tb (rV r) mb) : EvB K Er S OO σ (tOp (rIn K false) ta tb) Xr (ma.bind λa=>mb.bind λas=>.ok (decide (a ∈ as))):=λH Q w s P=>
  ha.run w s FB.tr P λa x H1 s1 w1 q1 r1 P1=>hb.run w1 q1 FB.tr P1 λb y H2 s2 w2 q2 ⟨p, xs, e, q, pr⟩ P2=>by
    obtain ⟨h1, h2⟩:=Vy r1 pr
    exact ⟨p, xs, e, .inl (SqL.of q), z.fl r1, h1, P2 _ H2 (Xz.refl _) (by rw [h2]; rfl)⟩
noncomputable def Ey [DecidableEq α] (as : List α) (a : α) : Rs Int:=match as.findIdx? (λb=>decide (b = a)) with
  | some j=>.ok (j : Int)
  | none=>.bad
theorem Fx [DecidableEq α] {r : Enc α} [z : InE r] {H H' : Hp} {x : V} {a : α} (hx : r K H x a) {xs : List V} {as : List α} (p : Paired (r K H') xs as) {j : Nat} (hj : as.findIdx? (λb=>decide (b = a)) = some j) :
    (∃ y, xs[j]? = some y /\ eqV y x = true) /\ ∀ (m : Nat) y, m < j -> xs[m]? = some y -> eqV y x = false:=by
  rw [List.findIdx?_eq_some_iff_getElem] at hj
  obtain ⟨h1, h2, h3⟩:=hj
  constructor
  . obtain ⟨y, hy, ry⟩ := Paired.getR p (i := j) (b := as[j]) (by simp [h1])
    exact ⟨y, hy, by rw [z.eq ry hx]; exact h2⟩
  . intro m y hm hy
    obtain ⟨b, hb, rb⟩:=Paired.getL p hy
    have hml : m < as.length:=by lia
    have e : b = as[m]:=by rw [List.getElem?_eq_getElem hml] at hb; exact (Option.some.inj hb).symm
    rw [z.eq rb hx, e]
    have:=h3 m hm
    simpa using this
theorem HL [DecidableEq α] {as : List α} {a : α} {x : Exc} : Ey as a ≠ .err x:=by unfold Ey; split <;> exact λz=>nomatch z
theorem HB [DecidableEq α] {as : List α} {a : α} {n : Int} (h : Ey as a = .ok n) : ∃ j : Nat, as.findIdx? (λb=>decide (b = a)) = some j /\ n = j:=by
  unfold Ey at h; split at h
  . cases h; exact ⟨_, by assumption, rfl⟩
  . cases h
theorem Cl [DecidableEq α] {ta tb : TE} {r : Enc α} [z : InE r] [y : MonoE r] {ma : Rs (List α)} {mb : Rs α} (ha : EvB K Er S OO σ ta (rV r) ma) (hb : EvB K Er S OO σ tb r mb) : EvB K Er S OO σ (tBM K "list" (Ci K) ta (XN tb ZX)) Xa (ma.bind λas=>mb.bind λa=>Ey as a):=λH Q w s P=>
  ha.run w s FB.tr P λas x H1 s1 w1 q1 ⟨p, xs, e, q, pr⟩ P1=>⟨by rw [e]; exact .inl ⟨rfl, _, SqL.of q⟩, hb.run w1 q1 FB.tr P1 λb v H2 s2 w2 q2 r2 P2=>by
    obtain ⟨c, hc, P3⟩:=P2.okOf λx=>HL
    obtain ⟨j, hj, rfl⟩:=HB hc
    have pr2:=Paired.imp2 (G:=r K H2) (λ_ _ h=>y.mono s2 h) pr
    obtain ⟨h1, h2⟩:=Fx r2 pr2 hj
    exact ⟨p, xs, v, j, e, rfl, SqL.of (s2 _ _ q), z.fl r2, (Vy r2 pr2).1, h1, h2, P3 _ H2 (Xz.refl _) rfl⟩⟩
theorem Ht {α : Type} [DecidableEq α] {r r' : Enc α} {d : Nat} (E : EqOk r d) (h : ∀ {K : PySem.W.Frag} {H : Hp} {v : V} {a : α}, r' K H v a -> r K H v a) (m : MonoE r') : EqOk r' d where
  uniq:=λI h1 h2=>E.uniq I (h h1) (h h2)
  eq:=λI rx ry h1 h2 hu=>E.eq I rx ry (h h1) (h h2) hu
  rc:=λI rx ry h1 h2 hu=>E.rc I rx ry (h h1) (h h2) hu
  ne:=λI rx ry h1 h2 hu=>E.ne I rx ry (h h1) (h h2) hu
  keep:=λs q=>m.mono s q
theorem Ms {α β : Type} [DecidableEq α] [DecidableEq β] {r : Enc α} {q : Enc β} {d : Nat} [m : MonoE r] [n : MonoE q] (E : EqOk r d) (F : EqOk q d) : EqOk (rP2 r q) (d + 1):=Ht (HX E F) (λr9=>by obtain ⟨a, x, y, e, q, p⟩:=r9; exact ⟨a, x, y, e, SqT.of q, p⟩) inferInstance
end
section
variable {K : PySem.W.Frag} {Er : Exc -> Hp -> Prop} {S : SC} {OO OO' OO1 OO2 : List (List XG)} {σ : St} {α β γ ρ ι δ ε : Type}
variable {Fd : Ends -> β -> Hp -> Prop} [fd : FdOk Fd] {u : TS}
theorem QS {ta tb : TE} {o : OE α} {q : OE β} [z : MonoO o] [y : MonoO q] {ma : Rs α} {mb : Rs β} (ha : Ev K Er S OO OO1 σ ta o ma) (hb : ∀ C, Ev K Er S (C :: OO1) (C :: OO2) σ tb q mb) : Ev K Er S OO OO2 σ (Iy (XN ta (XN tb ZX))) (oT2 o q) (ma.bind λa=>mb.bind λb=>.ok (a, b)):=λH Q w s P=>by
  refine ha H _ w s ?_
  cases em : ma with
  | bad=>rw [em] at P; exact P
  | err x=>rw [em] at P; exact P
  | ok a=>
    rw [em] at P
    intro v C H1 s1 w1 m1 ho
    refine hb C H1 _ w1 (S.mono _ _ m1 s) ?_
    have P1 : PZ Er (FO K OO OO2 (oT2 o q) Q) H (mb.bind λb=>.ok (a, b)):=P
    cases en : mb with
    | bad=>rw [en] at P1; exact P1
    | err x=>rw [en] at P1; exact λH2 s2=>P1 H2 (s1.trans s2)
    | ok b=>
      rw [en] at P1
      have P1 : FO K OO OO2 (oT2 o q) Q (a, b) H:=P1
      intro v2 C2 H2 s2 w2 m2 ho2
      refine ⟨by show 2 <= sizeLine; decide, λp hp=>?_⟩
      have pe : ((C ++ C2) :: OO2).flatten.Perm (C2 :: C :: OO2).flatten:=by
        simp only [List.flatten_cons]
        rw [← List.append_assoc]
        exact List.perm_append_comm.append_right _
      have s3 : Xz H2 (upd H2 p (.tup [v, v2])):=XD hp _
      have w3:=(w2.keep s3).of pe
      have m3 : Xz (hid H2 (C2 :: C :: OO2)) (hid (upd H2 p (.tup [v, v2])) ((C ++ C2) :: OO2)):=by rw [X7 pe]; exact Xj s3
      refine P1 (.ref p) (C ++ C2) _ (s1.trans (s2.trans s3)) w3 (m1.trans (m2.trans m3)) ⟨p, v, v2, C, C2, rfl, ?_, z.mono (m2.trans m3) ho, y.mono m3 ho2, rfl⟩
      rw [X7 pe]
      exact ZG w2 hp
theorem UX : ∀ {l : List XG} {a b : XG}, (l.map (·.1)).Nodup -> a ∈ l -> b ∈ l -> a.1 = b.1 -> a = b
  | [], _, _, _, h, _, _=>by cases h
  | c :: l, a, b, n, ha, hb, e=>by
    rw [List.map_cons, List.nodup_cons] at n
    cases ha with
    | head=>cases hb with
      | head=>rfl
      | tail _ hb=>exact absurd (List.mem_map.mpr ⟨b, hb, e.symm⟩) n.1
    | tail _ ha=>cases hb with
      | head=>exact absurd (List.mem_map.mpr ⟨a, ha, e⟩) n.1
      | tail _ hb=>exact UX n.2 ha hb e
theorem GO {Cs : List (List XG)} {k : Nat} {C : List XG} (h : Cs[k]? = some C) : ∀ c ∈ C, c ∈ Cs.flatten:=λc hc=>List.mem_flatten.mpr ⟨C, List.mem_of_getElem? h, hc⟩
theorem Eu {as : List α} {i : Int} {a : α} (h : atR as i = .ok a) : ∃ k, ixN as.length i = some k /\ as[k]? = some a:=by
  have:=G8 h
  unfold atI at this
  cases e : ixN as.length i with
  | none=>rw [e] at this; cases this
  | some k=>rw [e] at this; exact ⟨k, rfl, this⟩
theorem Iq {r : Enc α} [z : MonoE r] {v : V} {as : List (List α)} {row row' : List α} {H : Hp} {p q : Addr} {xs ys ys' : List V} {Cs : List (List XG)} {k kk : Nat} (w : W OO H) (hk : OO[k]? = some ((p, .lst xs) :: Cs.flatten)) (hP : P3 (oL (oF r) K (hid H OO)) xs as Cs) (hrow : as[kk]? = some row)
    (hx : xs[kk]? = some (.ref q)) (hq : H q = some (.lst ys)) (hcs : Cs[kk]? = some [(q, .lst ys)]) (pr : Paired (r K (hid H OO)) ys' row') :
    ∃ C', W (OO.set k C') (upd H q (.lst ys')) /\ Xz (hid H OO) (hid (upd H q (.lst ys')) (OO.set k C')) /\ oL (oL (oF r)) K (hid (upd H q (.lst ys')) (OO.set k C')) (.ref p) (as.set kk row') C':=by
  have hkl : kk < Cs.length:=by
    rcases Nat.lt_or_ge kk Cs.length with h | h
    . exact h
    . rw [List.getElem?_eq_none h] at hcs; cases hcs
  have hin : ∀ c ∈ (p, HO.lst xs) :: Cs.flatten, c ∈ OO.flatten:=λc hc=>List.mem_flatten.mpr ⟨_, List.mem_of_getElem? hk, hc⟩
  have w0 : W ([] :: OO) H:=w.nil
  have cn0:=ZV w0 hk
  rw [List.append_nil] at cn0
  have e0 : Cs[kk] = [(q, .lst ys)]:=by
    rw [List.getElem?_eq_getElem hkl] at hcs; exact Option.some.inj hcs
  have hp:=V9 (Cs:=Cs) (j:=kk) (D:=[(q, HO.lst ys')]) hkl
  rw [e0] at hp
  have hpm : ((Cs.set kk [(q, HO.lst ys')]).flatten.map (·.1)).Perm (Cs.flatten.map (·.1)):=by
    have:=hp.map (·.1)
    simp only [List.map_append, List.map_cons, List.map_nil] at this
    exact (List.perm_append_right_iff _).mp this
  have hpne : p ∉ Cs.flatten.map (·.1):=by
    have h1:=Yf hk
    have:=(w.of (OO':=((p, HO.lst xs) :: Cs.flatten) :: OO.set k []) h1).nd
    rw [X6, List.map_cons, List.cons_append, List.nodup_cons] at this
    exact λz=>this.1 (List.mem_append_left _ z)
  have hqC : q ∈ Cs.flatten.map (·.1):=List.mem_map.mpr ⟨(q, .lst ys), GO hcs _ (by simp), rfl⟩
  have hpq : p ≠ q:=λe=>hpne (e ▸ hqC)
  have hcells : ∀ c ∈ (p, HO.lst xs) :: (Cs.set kk [(q, HO.lst ys')]).flatten, upd H q (.lst ys') c.1 = some c.2 /\ Ix c.2 = true:=λc hc=>by
    rcases List.mem_cons.mp hc with rfl | hc
    . rw [Xv hpq]; exact ⟨w.tr _ (hin _ List.mem_cons_self), rfl⟩
    . obtain ⟨D, hD, hcD⟩ := List.mem_flatten.mp hc
      rcases List.mem_or_eq_of_mem_set hD with hD | hD
      . by_cases hcq : c.1 = q
        . -- a cell at q in another place: then it is this one
          have hc2 : c ∈ (Cs.set kk [(q, HO.lst ys')]).flatten:=hc
          have n1 : ((Cs.set kk [(q, HO.lst ys')]).flatten.map (·.1)).Nodup:=hpm.nodup_iff.mpr cn0
          have hm : (q, HO.lst ys') ∈ (Cs.set kk [(q, HO.lst ys')]).flatten:=List.mem_flatten.mpr ⟨[(q, .lst ys')], List.mem_set (by simpa using hkl) _, by simp⟩
          have e1 : c = (q, HO.lst ys'):=by
            have:=UX n1 hc2 hm hcq
            exact this
          rw [e1]; exact ⟨Yv, rfl⟩
        . rw [Xv hcq]
          have : c ∈ OO.flatten:=hin c (List.mem_cons_of_mem _ (List.mem_flatten.mpr ⟨D, hD, hcD⟩))
          exact ⟨w.tr c this, w.mu c this⟩
      . rw [hD] at hcD
        have e1 : c = (q, HO.lst ys'):=by simpa using hcD
        rw [e1]; exact ⟨Yv, rfl⟩
  have hq' : q ∈ (Cs.set kk [(q, HO.lst ys')]).flatten.map (·.1):=hpm.mem_iff.mpr hqC
  obtain ⟨w2, m2⟩:=Ik (C':=(p, .lst xs) :: (Cs.set kk [(q, HO.lst ys')]).flatten) (p:=q) (o:=.lst ys') w0 hk (List.mem_cons_of_mem _ hqC) (List.mem_cons_of_mem _ hq') (by
      rw [List.map_cons, List.nodup_cons]
      exact ⟨λz=>hpne (hpm.mem_iff.mp z), hpm.nodup_iff.mpr cn0⟩) (λb hb=>by
      rw [List.append_nil]
      rcases List.mem_cons.mp hb with rfl | hb
      . exact List.mem_cons_self
      . exact List.mem_cons_of_mem _ (hpm.mem_iff.mp hb)) (λc hc=>(hcells c hc).1) λc hc=>(hcells c hc).2
  rw [Zx] at m2
  have e3 : xs.set kk (.ref q) = xs:=by
    apply List.ext_getElem?
    intro n
    by_cases hn : n = kk
    . subst hn
      rw [hx, List.getElem?_set_self (by
        rcases Nat.lt_or_ge n xs.length with h | h
        . exact h
        . rw [List.getElem?_eq_none h] at hx; cases hx)]
    . rw [List.getElem?_set_ne (λe=>hn e.symm)]
  refine ⟨_, w2, m2, ⟨p, xs, Cs.set kk [(q, HO.lst ys')], rfl, ?_, rfl⟩⟩
  have:=P3.set (F:=oL (oF r) K (hid (upd H q (.lst ys')) (OO.set k ((p, .lst xs) :: (Cs.set kk [(q, HO.lst ys')]).flatten)))) (a:=V.ref q) (b:=row') (c:=[(q, HO.lst ys')])
    ⟨q, ys', List.replicate row'.length [], rfl, (P3.of (Paired.imp2 (λ_ _ h=>z.mono m2 h) pr)).imp λ_ _ _ h=>h, by rw [YL]⟩ kk (P3.imp (λ_ _ _ h=>MonoO.mono m2 h) hP)
  rw [e3] at this
  exact this
theorem ET {r : Enc α} {h : Hp} {as : List (List α)} {xs : List V} {Cs : List (List XG)} {kk : Nat} {row : List α} (q : P3 (oL (oF r) K h) xs as Cs) (hrow : as[kk]? = some row) : ∃ q0 ys, xs[kk]? = some (.ref q0) /\ Cs[kk]? = some [(q0, .lst ys)] /\ Paired (r K h) ys row:=by
  obtain ⟨x, c, h1, h2, p, ys, Ds, e, h3, h4⟩:=q.get hrow
  obtain ⟨h5, h6⟩:=P3.flat h3
  rw [h6] at h4
  exact ⟨p, ys, by rw [h1, e], by rw [h2, h4], h5⟩
theorem Bp {ta ti : TE} {r : Enc α} [z : MonoE r] {m : Rs α} {mi : Rs Int} {f : List (List α) -> Rs β} {v : V} {as : List (List α)} {C : List XG} (i k : Nat) (hσ : σ[i]? = some (some v)) (hk : OO[k]? = some C) (h : ∀ x, S.p x -> oL (oL (oF r)) K x v as C) (he : EvS K Er S OO σ ta r m)
    (hi : EvB K Er S OO σ ti Xa mi)
    (hr : ∀ bs C', Sv Er (S.addO K (oL (oL (oF r))) v bs C') (OO.set k C') σ u Fd (f bs)) :
    Sv Er S OO σ (Jg (Fk (tBM K "list" Uo (tOp (Ed K) (UY i) ti) (XN ta ZX))) u) Fd (mi.bind λx=>(atR as x).bind λrow=>m.bind λa=>chk (row.length < sizeLine) ((QZ as x (row ++ [a])).bind f)):=λH D w s P=>
  ⟨v, hσ, hi.st w s P λx vx H2 s2 w2 q2 r2 P2=>by
    cases ea : atR as x with
    | bad=>rw [ea] at P2; exact P2.elim
    | err ex=>exact absurd ea UM
    | ok row=>
      rw [ea] at P2
      obtain ⟨kk, hkk, hrow⟩:=Eu ea
      obtain ⟨p, xs, Cs, e, q, c⟩:=h _ q2
      subst c e
      obtain ⟨q0, ys, g1, g2, g3⟩:=ET q hrow
      have hin : ∀ c ∈ (p, HO.lst xs) :: Cs.flatten, c ∈ OO.flatten:=λc hc=>List.mem_flatten.mpr ⟨_, List.mem_of_getElem? hk, hc⟩
      have hH : H2 p = some (.lst xs):=w2.tr (p, .lst xs) (hin _ List.mem_cons_self)
      have hq0 : H2 q0 = some (.lst ys):=w2.tr (q0, .lst ys) (hin _ (List.mem_cons_of_mem _ (GO g2 _ (by simp))))
      refine ⟨p, xs, x, .ref q0, rfl, r2, SqL.of hH, by unfold atI; rw [q.len.1, hkk]; exact g1, .inl ⟨rfl, _, SqL.of hq0⟩, he.st w2 q2 (f:=λa=>chk (row.length < sizeLine) ((QZ as x (row ++ [a])).bind f)) P2 λa va H3 s3 w3 q3 r3 P3'=>?_⟩
      obtain ⟨hsz, P3'⟩:=PZ.chk P3'
      have P4 : PZ Er (Fd D) (hid H3 OO) (f (as.set kk (row ++ [a]))):=by
        have e5 : QZ as x (row ++ [a]) = .ok (as.set kk (row ++ [a])):=by unfold QZ; rw [hkk]
        rw [e5] at P3'
        exact P3'
      have m3:=Xj (OO:=OO) s3
      obtain ⟨C', w4, m4, o4⟩:=Iq (ys':=ys ++ [va]) (row':=row ++ [a]) (v:=.ref p) w3 hk (P3.imp (λ_ _ _ h=>MonoO.mono m3 h) q) hrow g1 (s3 _ _ hq0) g2 (Paired.app (Paired.imp2 (λ_ _ h=>z.mono m3 h) g3) (.cons r3 .nil))
      exact ⟨q0, ys, va, rfl, rfl, s3 _ _ hq0, by rw [Paired.len g3]; exact hsz, hr _ C' _ D w4 ⟨S.mono _ _ m4 q3, o4⟩ (PZ.tr (fd.tr D) m4 P4)⟩⟩
theorem Mc {H H' : Hp} {C D : List XG} {k : Nat} (w : W OO H) (hk : OO[k]? = some C) (s : Xz H H') (w' : W (D :: OO.set k []) H') (m : Xz (hid H (OO.set k [])) (hid H' (D :: OO.set k []))) :
    W (D :: OO) H' /\ Xz (hid H OO) (hid H' (D :: OO)) /\ Fp (hid H' (D :: OO.set k [])) (hid H' (D :: OO)):=by
  have hp:=Yf hk
  have wk : W (C :: OO.set k []) H:=w.of hp
  have hC : ∀ c ∈ C, hid H (OO.set k []) c.1 = some c.2:=λc hc=>Zq (wk.cell c hc) (by
    have:=wk.nd
    rw [X6] at this
    exact λhb=>(List.nodup_append.mp this).2.2 c.1 (List.mem_map.mpr ⟨c, hc, rfl⟩) c.1 hb rfl)
  have hC' : ∀ c ∈ C, H' c.1 = some c.2 /\ c.1 ∉ fl (D :: OO.set k []):=λc hc=>X3 (m _ _ (hC c hc))
  have w2 : W (C :: D :: OO.set k []) H':=by
    refine ⟨λc hc=>?_, ?_, λc hc=>?_⟩
    . rw [List.flatten_cons, List.mem_append] at hc
      exact hc.elim (λhc=>(hC' c hc).1) λhc=>w'.tr c hc
    . rw [X6]
      refine List.nodup_append.mpr ⟨?_, w'.nd, λa ha b hb e=>?_⟩
      . have := wk.nd
        rw [X6] at this
        exact (List.nodup_append.mp this).1
      . obtain ⟨c, hc, rfl⟩ := List.mem_map.mp ha
        subst e
        exact (hC' c hc).2 hb
    . rw [List.flatten_cons, List.mem_append] at hc
      exact hc.elim (λhc=>wk.mu c (by simp [hc])) λhc=>w'.mu c hc
  have pe : (D :: OO).flatten.Perm (C :: D :: OO.set k []).flatten:=by
    simp only [List.flatten_cons]
    refine List.Perm.trans (List.Perm.append_left D (by simpa using hp.symm : OO.flatten.Perm (C ++ (OO.set k []).flatten))) ?_
    rw [← List.append_assoc, ← List.append_assoc]
    exact List.perm_append_comm.append_right _
  have w3:=w2.of pe
  refine ⟨w3, λb u q=>?_, λb u q i=>w3.i b u (X3 q).1 i⟩
  obtain ⟨q1, q2⟩:=X3 q
  have q3 : hid H (OO.set k []) b = some u:=Zq q1 λz=>q2 ((QO hp b).mp (by rw [X6]; simp [z]))
  obtain ⟨q4, q5⟩:=X3 (m _ _ q3)
  refine Zq q4 λz=>?_
  have z2:=(QO pe b).mp z
  rw [X6, List.mem_append] at z2
  rcases z2 with z2 | z2
  . exact q2 ((QO hp b).mp (by rw [X6]; exact List.mem_append_left _ z2))
  . exact q5 z2
theorem Mq {r1 : Enc γ} {o1 : OE γ} [z : FrzC o1 r1] [MonoE r1] {H : Hp} {v : V} {a : γ} {C : List XG} {k : Nat} (w : W OO H) (hk : OO[k]? = some C) (s : S.p (hid H OO)) (h : ∀ x, S.p x -> o1 K x v a C) :
    W (OO.set k []) H /\ (S.add K r1 v a).p (hid H (OO.set k [])):=by
  have hp:=Yf hk
  have wk : W (C :: OO.set k []) H:=w.of hp
  have hs : Xz (hid H OO) (hid H (OO.set k [])):=by
    rw [← X7 hp]
    exact QA (Xz.refl _) λb hb=>by rw [X6]; simp [hb]
  refine ⟨wk.tail, S.mono _ _ hs s, z.frz (h _ s) hs λc hc=>Zq (wk.cell c hc) ?_⟩
  have:=wk.nd
  rw [X6] at this
  exact λhb=>(List.nodup_append.mp this).2.2 c.1 (List.mem_map.mpr ⟨c, hc, rfl⟩) c.1 hb rfl
theorem Uh {te : TE} {o : OE α} [y : FlatO o] {r1 : Enc γ} {o1 : OE γ} [FrzC o1 r1] [MonoE r1] {m : Rs α} {v : V} {a : γ} {C : List XG} (k : Nat) (hk : OO[k]? = some C) (h : ∀ x, S.p x -> o1 K x v a C) (he : Ev K Er (S.add K r1 v a) (OO.set k []) (OO.set k []) σ te o m) : Ev K Er S OO OO σ te o m:=λH Q w s P=>by
  obtain ⟨w1, s1⟩:=Mq (r1:=r1) w hk s h
  refine he H Q w1 s1 (P.imp λb _ hb v' D H' s' w' m' ho=>?_)
  obtain ⟨w3, m3, i3⟩:=Mc w hk s' w' m'
  exact hb v' D H' s' w3 m3 (y.flat i3 ho)
theorem Uc (K : PySem.W.Frag) (T : String) : PySem.W.kitOne K (.type T) (.type T) = some true:=by
  unfold PySem.W.kitOne
  rw [if_pos (beq_self_eq_true _)]
theorem UT (K : PySem.W.Frag) : PySem.W.kitOne K (.type "int") (.type "bool") = some false:=by
  first
    | rfl
    | decide +kernel
    | (unfold PySem.W.kitOne PySem.W.kitCls; rfl)
end
section
variable {K : PySem.W.Frag} {Er : Exc -> Hp -> Prop} {S : SC} {OO OO' OO1 OO2 : List (List XG)} {σ : St} {α β γ ρ ι δ ε : Type}
variable {Fd : Ends -> β -> Hp -> Prop} [fd : FdOk Fd] {u : TS}
noncomputable def M2 : Option α -> Rs α
  | some a=>.ok a
  | none=>.bad
end
section
variable {K : PySem.W.Frag} {Er : Exc -> Hp -> Prop} {S : SC} {OO OO' OO1 OO2 : List (List XG)} {σ : St} {α β γ ρ ι δ ε : Type}
variable {α1 α2 α3 α4 α5 : Type}
noncomputable def rP5 (r1 : Enc α1) (r2 : Enc α2) (r3 : Enc α3) (r4 : Enc α4) (r5 : Enc α5) : Enc (α1 × α2 × α3 × α4 × α5):=λK H v p=>∃ a x1 x2 x3 x4 x5, v = .ref a /\ H a = some (.tup [x1, x2, x3, x4, x5]) /\ r1 K H x1 p.1 /\ r2 K H x2 p.2.1 /\ r3 K H x3 p.2.2.1 /\ r4 K H x4 p.2.2.2.1 /\ r5 K H x5 p.2.2.2.2
instance {r1 : Enc α1} {r2 : Enc α2} {r3 : Enc α3} {r4 : Enc α4} {r5 : Enc α5} [m1 : MonoE r1] [m2 : MonoE r2] [m3 : MonoE r3] [m4 : MonoE r4] [m5 : MonoE r5] : MonoE (rP5 r1 r2 r3 r4 r5):=⟨λs r9=>by obtain ⟨a, x1, x2, x3, x4, x5, e, h, p1, p2, p3, p4, p5⟩:=r9; exact ⟨a, x1, x2, x3, x4, x5, e, s _ _ h, m1.mono s p1, m2.mono s p2, m3.mono s p3, m4.mono s p4, m5.mono s p5⟩⟩
instance {r1 : Enc α1} {r2 : Enc α2} {r3 : Enc α3} {r4 : Enc α4} {r5 : Enc α5} [m1 : FlatE r1] [m2 : FlatE r2] [m3 : FlatE r3] [m4 : FlatE r4] [m5 : FlatE r5] : FlatE (rP5 r1 r2 r3 r4 r5):=⟨λs r9=>by obtain ⟨a, x1, x2, x3, x4, x5, e, h, p1, p2, p3, p4, p5⟩:=r9; exact ⟨a, x1, x2, x3, x4, x5, e, s _ _ h rfl, m1.flat s p1, m2.flat s p2, m3.flat s p3, m4.flat s p4, m5.flat s p5⟩⟩
theorem BJ {t1 : TE} {t2 : TE} {t3 : TE} {t4 : TE} {t5 : TE} {r1 : Enc α1} {r2 : Enc α2} {r3 : Enc α3} {r4 : Enc α4} {r5 : Enc α5} [z1 : MonoE r1] [z2 : MonoE r2] [z3 : MonoE r3] [z4 : MonoE r4] [z5 : MonoE r5] {m1 : Rs α1} {m2 : Rs α2} {m3 : Rs α3} {m4 : Rs α4} {m5 : Rs α5} (h1 : EvS K Er S OO σ t1 r1 m1) (h2 : EvS K Er S OO σ t2 r2 m2) (h3 : EvS K Er S OO σ t3 r3 m3) (h4 : EvS K Er S OO σ t4 r4 m4) (h5 : EvS K Er S OO σ t5 r5 m5) : EvS K Er S OO σ (Iy (XN t1 (XN t2 (XN t3 (XN t4 (XN t5 ZX)))))) (rP5 r1 r2 r3 r4 r5) (m1.bind λa1=>m2.bind λa2=>m3.bind λa3=>m4.bind λa4=>m5.bind λa5=>.ok (a1, a2, a3, a4, a5)):=λH Q w s P=>
  h1.run w s FS.tr P λa1 y1 H1 s1 w1 u1 q1 P1=>h2.run w1 u1 FS.tr P1 λa2 y2 H2 s2 w2 u2 q2 P2=>h3.run w2 u2 FS.tr P2 λa3 y3 H3 s3 w3 u3 q3 P3=>h4.run w3 u3 FS.tr P3 λa4 y4 H4 s4 w4 u4 q4 P4=>h5.run w4 u4 FS.tr P4 λa5 y5 H5 s5 w5 u5 q5 P5=>⟨by show 5 <= sizeLine; decide, λp hp=>P5 _ _ (XD hp _) ⟨p, y1, y2, y3, y4, y5, rfl, ZG w5 hp, z1.mono ((Xj s2).trans ((Xj s3).trans ((Xj s4).trans ((Xj s5).trans (Xj (XD hp _)))))) q1, z2.mono ((Xj s3).trans ((Xj s4).trans ((Xj s5).trans (Xj (XD hp _))))) q2, z3.mono ((Xj s4).trans ((Xj s5).trans (Xj (XD hp _)))) q3, z4.mono ((Xj s5).trans (Xj (XD hp _))) q4, z5.mono (Xj (XD hp _)) q5⟩⟩
noncomputable def tg5 {r1 : Enc α1} {r2 : Enc α2} {r3 : Enc α3} {r4 : Enc α4} {r5 : Enc α5} [MonoE r1] [MonoE r2] [MonoE r3] [MonoE r4] [MonoE r5] (i1 i2 i3 i4 i5 : Nat) : Tgt K OO (Iv K 5 (Ja (ZE i1) (Ja (ZE i2) (Ja (ZE i3) (Ja (ZE i4) (Ja (ZE i5) Lv)))))) (rP5 r1 r2 r3 r4 r5) (V × V × V × V × V) where
  set:=λv σ=>(((((σ.set i1 (some v.1)).set i2 (some v.2.1)).set i3 (some v.2.2.1)).set i4 (some v.2.2.2.1)).set i5 (some v.2.2.2.2))
  sc:=λa v S=>(((((S.add K r1 v.1 a.1).add K r2 v.2.1 a.2.1).add K r3 v.2.2.1 a.2.2.1).add K r4 v.2.2.2.1 a.2.2.2.1).add K r5 v.2.2.2.2 a.2.2.2.2)
  ok:=fun {H v a σ S Q} r9 hs hq=>by obtain ⟨p, x1, x2, x3, x4, x5, e, h, h1, h2, h3, h4, h5⟩:=r9; exact ⟨p, _, e, SqT.of (Xt _ _ h), rfl, x1, [x2, x3, x4, x5], rfl, x2, [x3, x4, x5], rfl, x3, [x4, x5], rfl, x4, [x5], rfl, x5, [], rfl, rfl, hq (x1, x2, x3, x4, x5) ⟨⟨⟨⟨⟨hs, h1⟩, h2⟩, h3⟩, h4⟩, h5⟩⟩
theorem F5 {ta : TE} {r1 : Enc α1} {r2 : Enc α2} {r3 : Enc α3} {m : Rs (α1 × α2 × α3)} (ha : EvS K Er S OO σ ta (rP3 r1 r2 r3) m) : EvS K Er S OO σ (tOp (HU K) ta (tC (.int 0))) r1 (m.bind λp=>.ok p.1):=λH Q w s P=>
  ha.run w s FS.tr P λa x H1 s1 w1 q1 r9 P1=>by obtain ⟨p, x1, x2, x3, e, q, h1, h2, h3⟩:=r9; exact ⟨p, _, 0, x1, e, rfl, SqT.of (Xt _ _ q), rfl, P1 _ H1 (Xz.refl _) h1⟩
noncomputable def rDP {α : Type} (r : Enc α) (K : PySem.W.Frag) (H : Hp) (kv : Key × V) (kx : Int × α) : Prop:=kv.1 = .inl kx.1 /\ r K H kv.2 kx.2
noncomputable def rD {α : Type} (r : Enc α) : Enc (List (Int × α)):=λK H v d=>∃ p kvs, v = .ref p /\ H p = some (.dK kvs) /\ Paired (rDP r K H) kvs d
noncomputable def oD {α : Type} (r : Enc α) : OE (List (Int × α)):=λK h v d C=>∃ p kvs, v = .ref p /\ Paired (rDP r K h) kvs d /\ C = [(p, .dK kvs)]
instance {r : Enc α} [m : MonoE r] : MonoE (rD r):=⟨λs r9=>by obtain ⟨p, kvs, e, q, pr⟩:=r9; exact ⟨p, kvs, e, s _ _ q, Paired.imp2 (λ_ _ z=>⟨z.1, m.mono s z.2⟩) pr⟩⟩
instance {r : Enc α} [m : MonoE r] : MonoO (oD r):=⟨λs r9=>by obtain ⟨p, kvs, e, pr, c⟩:=r9; exact ⟨p, kvs, e, Paired.imp2 (λ_ _ z=>⟨z.1, m.mono s z.2⟩) pr, c⟩⟩
instance {r : Enc α} [m : FlatE r] : FlatO (oD r):=⟨λs r9=>by obtain ⟨p, kvs, e, pr, c⟩:=r9; exact ⟨p, kvs, e, Paired.imp2 (λ_ _ z=>⟨z.1, m.flat s z.2⟩) pr, c⟩⟩
instance {r : Enc α} [m : MonoE r] : FrzC (oD r) (rD r):=⟨λr9 s hc=>by obtain ⟨p, kvs, e, pr, c⟩:=r9; exact ⟨p, kvs, e, hc (p, .dK kvs) (by rw [c]; simp), Paired.imp2 (λ_ _ z=>⟨z.1, m.mono s z.2⟩) pr⟩⟩
noncomputable def Zd (d : List (Int × α)) (k : Int) : Option α:=(d.find? λkv=>decide (kv.1 = k)).map (·.2)
noncomputable def JW (d : List (Int × α)) (k : Int) (v : α) : List (Int × α):=if (d.any λkv=>decide (kv.1 = k)) = true then d.map (λkv=>if kv.1 = k then (kv.1, v) else kv) else d ++ [(k, v)]
noncomputable def VN (d : List (Int × α)) (k : Int) : Rs α:=M2 (Zd d k)
theorem QJ {r : Enc α} {H : Hp} {k : Int} : ∀ {kvs : List (Key × V)} {d : List (Int × α)}, Paired (rDP r K H) kvs d -> (∀ a, Zd d k = some a -> ∃ v, Fi kvs (.inl k) = some v /\ r K H v a) /\ (Fi kvs (.inl k)).isSome = (Zd d k).isSome
  | _, _, .nil=>⟨λa h=>(by cases h), rfl⟩
  | kv :: kvs, kx :: d, .cons h t=>by
    obtain ⟨h1, h2⟩:=QJ (k:=k) t
    by_cases e : kx.1 = k
    . have e2 : kv.1 = .inl k := by rw [h.1, e]
      rw [JQ e2]
      have e3 : Zd (kx :: d) k = some kx.2:=by simp [Zd, List.find?_cons, e]
      rw [e3]
      exact ⟨λa ha=>by cases ha; exact ⟨_, rfl, h.2⟩, rfl⟩
    . have e2 : ¬ kv.1 = .inl k := by rw [h.1]; exact λz => e (Sum.inl.inj z)
      rw [JM e2]
      have e3 : Zd (kx :: d) k = Zd d k:=by simp [Zd, List.find?_cons, e]
      rw [e3]
      exact ⟨h1, h2⟩
theorem VT {r : Enc α} {H : Hp} {k : Int} : ∀ {kvs : List (Key × V)} {d : List (Int × α)}, Paired (rDP r K H) kvs d -> (kvs.any λkv=>decide (kv.1 = .inl k)) = d.any λkx=>decide (kx.1 = k)
  | _, _, .nil=>rfl
  | kv :: kvs, kx :: d, .cons h t=>by
    rw [List.any_cons, List.any_cons, VT t, h.1]
    congr 1
    rw [Bool.eq_iff_iff]; simp
theorem JU {r : Enc α} {H : Hp} {k : Int} {v : V} {a : α} (hv : r K H v a) {kvs : List (Key × V)} {d : List (Int × α)} (h : Paired (rDP r K H) kvs d) : Paired (rDP r K H) (VM kvs (.inl k) v) (JW d k a):=by
  unfold VM JW
  rw [VT h]
  by_cases e : (d.any λkx=>decide (kx.1 = k)) = true
  . rw [if_pos e, if_pos e]
    clear e
    induction h with
    | nil=>exact .nil
    | @cons kv kx l m h t ih=>
      refine .cons ?_ ih
      show rDP r K H (if kv.1 = .inl k then (kv.1, v) else kv) (if kx.1 = k then (kx.1, a) else kx)
      by_cases e : kx.1 = k
      . rw [if_pos (show kv.1 = .inl k by rw [h.1, e]), if_pos e]; exact ⟨h.1, hv⟩
      . rw [if_neg (show ¬ kv.1 = .inl k by rw [h.1]; exact λz=>e (Sum.inl.inj z)), if_neg e]; exact h
  . rw [if_neg e, if_neg e]
    exact Paired.app h (.cons ⟨rfl, hv⟩ .nil)
theorem Hj {r : Enc α} : Ev K Er S OO OO σ En (oD r) (.ok []):=λH Q w s P=>λp hp=>P (.ref p) [(p, .dK [])] _ (XD hp _) (w.new hp rfl) (QL hp) ⟨p, [], rfl, .nil, rfl⟩
theorem UI {td ty : TE} {r : Enc α} [z : MonoE r] {md : Rs (List (Int × α))} {mk : Rs Int} (hd : EvB K Er S OO σ td (rD r) md) (hk : EvB K Er S OO σ ty Xa mk) : EvB K Er S OO σ (Lp td ty) r (md.bind λd=>mk.bind λk=>VN d k):=λH Q w s P=>
  hd.run w s FB.tr P λd x H1 s1 w1 q1 ⟨p, kvs, e, q, pr⟩ P1=>hk.run w1 q1 FB.tr P1 λk y H2 s2 w2 q2 r2 P2=>by
    cases eg : Zd d k with
    | none=>rw [VN, eg] at P2; exact P2.elim
    | some a=>
      rw [VN, eg] at P2
      obtain ⟨v, hv, rv⟩:=(QJ (k:=k) pr).1 a eg
      exact ⟨p, v, e, .inl ⟨kvs, .inl k, .inl (s2 _ _ q), r2, hv.symm⟩, P2 _ H2 (Xz.refl _) (z.mono s2 rv)⟩
theorem B2 {td ty : TE} {r : Enc α} {md : Rs (List (Int × α))} {mk : Rs Int} (hk : EvB K Er S OO σ ty Xa mk) (hd : EvB K Er S OO σ td (rD r) md) : EvB K Er S OO σ (Cp ty td) Xr (mk.bind λk=>md.bind λd=>.ok (!(Zd d k).isSome)):=λH Q w s P=>
  hk.run w s FB.tr P λk y H1 s1 w1 q1 r1 P1=>hd.run w1 q1 FB.tr P1 λd x H2 s2 w2 q2 r9 P2=>by obtain ⟨p, kvs, e, q, pr⟩:=r9; exact ⟨p, Fi kvs (.inl k), e, .inl ⟨kvs, .inl k, .inl q, r1, rfl⟩, P2 _ H2 (Xz.refl _) (by rw [(QJ (k:=k) pr).2]; rfl)⟩
variable {Fd : Ends -> β -> Hp -> Prop} [fd : FdOk Fd] {u : TS}
theorem EZ {tv ty : TE} {r : Enc α} [z : MonoE r] {mv : Rs α} {mk : Rs Int} {f : List (Int × α) -> Rs β} {v : V} {d : List (Int × α)} {C : List XG} (i k : Nat) (hσ : σ[i]? = some (some v)) (hk : OO[k]? = some C) (h : ∀ x, S.p x -> oD r K x v d C) (hv : EvS K Er S OO σ tv r mv) (hy : EvB K Er S OO σ ty Xa mk)
    (hr : ∀ d' C', Sv Er (S.addO K (oD r) v d' C') (OO.set k C') σ u Fd (f d')) : Sv Er S OO σ (Jg (LM (UY i) ty tv) u) Fd (mv.bind λa=>mk.bind λn=>chk (d.length < sizeLine) (f (JW d n a))):=λH D w s P=>
  hv.st w s P λa va H1 s1 w1 q1 r1 P1=>⟨v, hσ, hy.st w1 q1 P1 λn vn H2 s2 w2 q2 r2 P2=>by
    obtain ⟨hsz, P2⟩:=PZ.chk P2
    obtain ⟨p, kvs, e, pr, c⟩:=h _ q2
    subst c e
    have hH : H2 p = some (.dK kvs):=w2.tr (p, .dK kvs) (List.mem_flatten.mpr ⟨_, List.mem_of_getElem? hk, by simp⟩)
    obtain ⟨w3, m3⟩:=Ik (D:=[]) (C':=[(p, .dK (VM kvs (.inl n) va))]) (p:=p) (o:=.dK (VM kvs (.inl n) va)) w2.nil hk (by simp) (by simp) (by simp) (λb hb=>by simpa using hb) (λc hc=>by
      have : c = (p, .dK (VM kvs (.inl n) va)):=by simpa using hc
      rw [this]; exact Yv) (λc hc=>by
      have : c = (p, .dK (VM kvs (.inl n) va)):=by simpa using hc
      rw [this]; rfl)
    rw [Zx] at m3
    refine ⟨p, _, rfl, .inl ⟨kvs, .inl n, hH, r2, by rw [Paired.len pr]; exact hsz, rfl⟩, ?_⟩
    exact hr _ _ _ D w3 ⟨S.mono _ _ m3 q2, ⟨p, _, rfl, JU (z.mono ((Xj s2).trans m3) r1) (Paired.imp2 (λ_ _ h=>⟨h.1, z.mono m3 h.2⟩) pr), rfl⟩⟩ (PZ.tr (fd.tr D) m3 P2)⟩
end
theorem YJ.ex {P : Program} {w : World} {H : Hp} {h : Heap} {a : Addr} {o : HO} (x : YJ P w H h a o) : ∃ u, h.get? a = some u:=by
  cases o with
  | lst xs=>obtain ⟨_, _, _, _, e⟩:=x; exact ⟨_, e⟩
  | tup xs=>obtain ⟨_, _, _, p⟩:=x; obtain ⟨o, e, _⟩:=p; exact ⟨_, e⟩
  | dK kvs=>obtain ⟨_, _, _, _, o, _, _, e, _⟩:=x; exact ⟨_, e⟩
  | dT kvs=>obtain ⟨_, _, _, _, o, _, _, e, _⟩:=x; exact ⟨_, e⟩
  | set S n=>obtain ⟨o, _, _, _, e, _⟩:=x; exact ⟨_, e⟩
  | ins C dx fs=>obtain ⟨_, _, _, e, _⟩:=x; exact ⟨_, e⟩
  | own y=>exact x
  | xd fs=>obtain ⟨_, ⟨_, _, _, e, _⟩, _⟩:=x; exact ⟨_, e⟩
  | rng lo hi=>obtain ⟨_, _, _, e⟩:=x; exact ⟨_, e⟩
  | frz ob u=>exact ⟨_, x.1⟩
  | tbl ps=>exact ⟨_, x⟩
  | met f y=>exact ⟨_, x⟩
  | ext φ=>exact x.2.1
theorem HOk.un0 {P : Program} {w : World} {H : Hp} {h : Heap} {a : Addr} (x : HOk P w H h) (e : h.get? a = none) : H a = none:=by
  cases q : H a with
  | none=>rfl
  | some u=>obtain ⟨v, hv⟩:=(x a u q).ex; rw [e] at hv; cases hv
structure Fl (h0 h : Heap) (H : Hp) (a T : Addr) (cls : Value) : Prop where
  na : h0.get? a = none
  nT : h0.get? T = none
  fa : H a = none
  fT : H T = none
  ne : T ≠ a
  obj : ∃ oe vs oT ts a0, h.get? a = some oe /\ oe.cls = cls /\ vs[0]? = some a0 /\ oe.data = .fields vs /\ vs[1]? = some (.ref T) /\ h.get? T = some oT /\ oT.data = .fields ts /\ ts[3]? = some Value.none
noncomputable def EF (h : Heap) (fs : List Addr) (a T : Addr) : Heap:=Bh h (λb=>if b ∈ fs ∨ b = a ∨ b = T then some (.own 0) else none)
theorem JL {h : Heap} {fs : List Addr} {a T b : Addr} {o : Obj} (e : h.get? b = some o) (n1 : b ∉ fs) (n2 : b ≠ a) (n3 : b ≠ T) : (EF h fs a T).get? b = some o:=
  G6 e (if_neg λz=>z.elim n1 λz=>z.elim n2 n3)
theorem KW {h : Heap} {fs : List Addr} {a T b : Addr} {o : Obj} (e : (EF h fs a T).get? b = some o) : h.get? b = some o /\ b ∉ fs /\ b ≠ a /\ b ≠ T:=by
  obtain ⟨h1, h2⟩:=CZ e
  have h3 : ¬ (b ∈ fs ∨ b = a ∨ b = T):=λz=>by
    have:=(if_pos z).symm.trans h2
    cases this
  exact ⟨h1, λq=>h3 (.inl q), λq=>h3 (.inr (.inl q)), λq=>h3 (.inr (.inr q))⟩
theorem QY {h : Heap} {fs : List Addr} {a T b : Addr} (n : b ∈ fs ∨ b = a ∨ b = T) : (EF h fs a T).get? b = none:=by
  cases q : (EF h fs a T).get? b with
  | none=>rfl
  | some o=>
    obtain ⟨_, h1, h2, h3⟩:=KW q
    exact (n.elim h1 λz=>z.elim h2 h3).elim
theorem K9 {h base B : Heap} : ∀ {l : List Env}, h.FunFrames base l -> (∀ b ∈ frs l, B.get? b = none) -> h.FunFrames B l
  | [], _, _=>trivial
  | env :: r, ⟨hk, ⟨L, o, hf, hn, ho, hd⟩, hr⟩, n=>
    ⟨hk, ⟨L, o, hf, n L (by unfold frs; rw [List.filterMap_cons, hf]; exact List.mem_cons_self), ho, hd⟩, K9 hr λb hb=>n b (by unfold frs; rw [List.filterMap_cons, hf]; exact List.mem_cons_of_mem _ hb)⟩
section
variable {P : Program} {w : World} {h0 h h' base : Heap} {H : Hp} {a T : Addr} {cls a0 : Value} {l : List Env}
theorem Fl.fly (x : Fl h0 h H a T cls) (hl : h.FunFrames base l) : ∃ a0, Heap.FlyingW (EF h (frs l) a T) l a cls a0 h:=by
  obtain ⟨oe, vs, oT, ts, a0, ha, hc, h0', hd, h1, hT, hdT, h3⟩:=x.obj
  exact ⟨a0, λb o e=>(KW e).1, QY (.inr (.inl rfl)), K9 hl λb hb=>QY (.inl hb), oe, vs, T, oT, ts, ha, ⟨hc, h0'⟩, hd, h1, QY (.inr (.inr rfl)), x.ne, hT, hdT, h3⟩
theorem Un.traced (hl : h.FunFrames base l) (keep : ∀ b o, b ∉ frs l -> b ≠ a -> b ≠ T -> h.get? b = some o -> h'.get? b = some o) (up : h.UpToSlots h') : Un (frs l) [a, T] H H h h' where
  keep:=λb o e _ hb hx=>keep b o hb (λz=>hx (by simp [z])) (λz=>hx (by simp [z])) e
  slot:=λb o e _ hb _=>by
    obtain ⟨_, o2, ho2, hd2⟩:=hl.mem hb
    rw [e] at ho2; cases ho2
    exact up b o e hd2
  free:=λb o e n _=>n
  there:=λb o e hx=>by
    by_cases hb : b ∈ frs l
    . obtain ⟨_, o2, ho2, hd2⟩ := hl.mem hb
      obtain ⟨sl, q⟩:=up b o2 ho2 hd2
      exact ⟨_, q⟩
    . exact ⟨o, keep b o hb (λz=>hx (by simp [z])) (λz=>hx (by simp [z])) e⟩
  tups:=λ_ _ q=>q
  frzs:=λ_ _ _ q=>q
  tbls:=λ_ ps q=>⟨#[], by simpa using q⟩
theorem HOk.traced (hok : HOk P w H h) (hfn : ∀ b ∈ frs l, H b = none) (fa : H a = none) (fT : H T = none) (keep : ∀ b o, b ∉ frs l -> b ≠ a -> b ≠ T -> h.get? b = some o -> h'.get? b = some o) : HOk P w H h':=λb o e=>by
  refine (hok b o e).stay (λc u hc q=>?_) (λ_ q=>q) λ_ _ q=>q
  have hn : H c ≠ none:=by
    rcases hc with z | z
    . rw [z, e]; exact λy=>nomatch y
    . rw [z]; exact λy=>nomatch y
  exact keep c u (λz=>hn (hfn c z)) (λz=>hn (z ▸ fa)) (λz=>hn (z ▸ fT)) q
theorem Fl.after (x : Fl h0 h H a T cls) (hl : h.FunFrames base l) (hfn : ∀ b ∈ frs l, H b = none) (hok : HOk P w H h) (th : ∀ b o, h0.get? b = some o -> ∃ o', h.get? b = some o')
    (st : (EF h (frs l) a T).StaysIn h') (tr : h'.TracedW (EF h (frs l) a T) a cls a0) (up : h.UpToSlots h') : ∃ T', Fl h0 h' H a T' cls /\ HOk P w H h' /\ Un (frs l) [a, T] H H h h':=by
  obtain ⟨oe, vs, T', oT, ts, ha, ⟨hc, h0'⟩, hd, h1, hnT, hne, hT, hdT, h3⟩:=tr
  have key : T' = T ∨ h.get? T' = none:=by
    cases q : h.get? T' with
    | none=>exact .inr rfl
    | some o=>
      by_cases hf : T' ∈ frs l
      . obtain ⟨_, o2, ho2, hd2⟩ := hl.mem hf
        obtain ⟨sl, e2⟩:=up T' o2 ho2 hd2
        rw [hT] at e2; cases e2
        exact absurd hdT (hd2 ts)
      . by_cases hz : T' = T
        . exact .inl hz
        . rw [JL q hf hne hz] at hnT; cases hnT
  have keep : ∀ b o, b ∉ frs l -> b ≠ a -> b ≠ T -> h.get? b = some o -> h'.get? b = some o:=λb o n1 n2 n3 e=>st b o (JL e n1 n2 n3)
  refine ⟨T', ⟨x.na, ?_, x.fa, ?_, hne, oe, vs, oT, ts, a0, ha, hc, h0', hd, h1, hT, hdT, h3⟩, hok.traced hfn x.fa x.fT keep, Un.traced hl keep up⟩
  . rcases key with e | e
    . rw [e]; exact x.nT
    . cases q : h0.get? T' with
      | none=>rfl
      | some o=>obtain ⟨o', e'⟩:=th _ _ q; rw [e] at e'; cases e'
  . rcases key with e | e
    . rw [e]; exact x.fT
    . exact hok.un0 e
end
section
variable {fs fs2 ex ex2 : List Addr} {H0 H H' : Hp} {h0 h h' : Heap}
theorem Un.past (u : Un fs ex H0 H h0 h) (v : Un fs2 ex2 H H' h h') (n : ∀ b, b ∈ ex2 -> h0.get? b = none) (f : ∀ b, b ∈ fs2 -> b ∈ fs ∨ h0.get? b = none) : Un fs ex H0 H' h0 h' where
  keep:=λb o e m hb hx=>v.keep b o (u.keep b o e m hb hx) (u.free b o e m hx) (λz=>(f b z).elim hb λy=>by rw [e] at y; cases y) λz=>by rw [n b z] at e; cases e
  slot:=λb o e m hb hx=>by
    obtain ⟨sl, q⟩:=u.slot b o e m hb hx
    obtain ⟨sl2, q2⟩:=v.any q (u.free b o e m hx) (λz=>by rw [n b z] at e; cases e)
    exact ⟨sl2, q2⟩
  free:=λb o e m hx=>by
    obtain ⟨o', q⟩:=u.there b o e hx
    exact v.free b o' q (u.free b o e m hx) (λz=>by rw [n b z] at e; cases e)
  there:=λb o e hx=>by
    obtain ⟨o', q⟩:=u.there b o e hx
    exact v.there b o' q (λz=>by rw [n b z] at e; cases e)
  tups:=λb xs q=>v.tups b xs (u.tups b xs q)
  frzs:=λb o x q=>v.frzs b o x (u.frzs b o x q)
  tbls:=λb ps q=>by
    obtain ⟨m1, e1⟩:=u.tbls b ps q
    obtain ⟨m2, e2⟩:=v.tbls b _ e1
    exact ⟨m1 ++ m2, by rw [e2, Array.append_assoc]⟩
end
theorem Inv.past {X : Cx} {pins : List (Addr × Obj)} {σ : St} {H H' : Hp} {s : Shared} {h' : Heap} {ch : List Addr} (I : Inv X pins σ H s) (u : Un (frs X.stack) ch H H' s.heap h') (hok : HOk X.prog X.w H' h')
    (hch : ∀ b ∈ ch, X.s₀.heap.get? b = none /\ b ≠ X.env.locals /\ (∀ x c, X.env.cells.lookup x = some c -> c ≠ b) /\ ∀ p ∈ X.pn ++ pins, p.1 ≠ b) : Inv X pins σ H' { s with heap:=h' }:=by
  have nL : X.s₀.heap.get? X.env.locals = none:=Heap.get?_none_of_le I.ok.above
  obtain ⟨m, ⟨o, es, ep, ho, hd, hr⟩, hl⟩:=id I.loc
  have lch : X.env.locals ∉ ch:=λz=>(hch _ z).2.1 rfl
  obtain ⟨sl, hL⟩:=u.any ho I.free lch
  have cl : ∀ x c v, X.env.cells.lookup x = some c -> s.heap.IsCell c v -> h'.IsCell c v:=λx c v e ⟨oc, e1, e2⟩=>by
    obtain ⟨sl, q⟩:=u.any e1 (I.freeC x c e) λz=>(hch c z).2.2.1 x c e rfl
    exact ⟨_, q, e2⟩
  refine ⟨I.ok, I.os, I.bare, I.base.past u (λb hb=>(hch b hb).1) λb hb=>?_, ⟨m, ⟨_, es, ep, hL, hd, hr⟩, λi x v e1 e2 e3=>?_⟩, λx c e=>?_, u.free _ o ho I.free lch, λx c e=>?_, λp hp=>?_, hok, I.len⟩
  . rcases List.mem_cons.mp (I.stkSub b hb) with z | z
    . exact .inr (z ▸ nL)
    . exact .inl z
  . obtain ⟨u', r, q⟩ := hl i x v e1 e2 e3
    refine ⟨u', r, ?_⟩
    rcases q with q | ⟨k, c, e, z⟩
    . exact .inl q
    . exact .inr ⟨k, c, e, cl x c _ e z⟩
  . obtain ⟨v, z⟩ := I.cell x c e
    exact ⟨v, cl x c v e z⟩
  . obtain ⟨v, oc, e1, _⟩ := I.cell x c e
    exact u.free c oc e1 (I.freeC x c e) λz=>(hch c z).2.2.1 x c e rfl
  . obtain ⟨e, n, ne, nf, d⟩ := I.pin p hp
    have nch : p.1 ∉ ch:=λz=>(hch p.1 z).2.2.2 p hp rfl
    exact ⟨u.keep p.1 p.2 e n (λz=>(List.mem_cons.mp (I.stkSub _ z)).elim ne nf) nch, u.free p.1 p.2 e n nch, ne, nf, d⟩
noncomputable def CXE (P : Program) (w : World) : CXT:=λouter H s E e s'=>∃ a T C H', e = .ref a /\ Fl s.heap s'.heap H' a T (.ref C) /\ s'.os = s.os /\ AllBare s'.gens /\ Un (frs outer) [] H H' s.heap s'.heap /\ HOk P w H' s'.heap /\ E (.ref C) none H'
section
variable {P : Program} {w : World} {K : PySem.W.Frag} {mg : Str -> Option Value} {base : Heap} {N : List Str} {qual : Str} {scope : Scope} {f : Addr} {cd : Value} {A : Around} {outer : List Env} {s0 : Shared} {H0 : Hp} {E : XK}
theorem Q5 : VZ (CXE P w) (Fa (CXE P w) P w K mg base N qual scope f cd A outer s0 H0 E) E:=by
  intro pins σ H s e s' I ⟨a, T, C, H', he, x, os, bare, un, hok, q⟩
  subst he
  have I2:=I.call' os un hok bare (λb z=>nomatch z)
  have th : ∀ b o, s0.heap.get? b = some o -> ∃ o', s.heap.get? b = some o':=λb o e=>I.base.there b o e (λz=>nomatch z)
  have nn : ∀ b, s.heap.get? b = none -> s0.heap.get? b = none:=λb n=>by
    cases q : s0.heap.get? b with
    | none=>rfl
    | some o=>obtain ⟨o', e⟩:=th b o q; rw [n] at e; cases e
  have x0 : Fl s0.heap s'.heap H' a T (.ref C):=⟨nn _ x.na, nn _ x.nT, x.fa, x.fT, x.ne, x.obj⟩
  obtain ⟨a0, fl⟩:=x0.fly I2.stack
  refine wpAny_leaves_onW I.ok.frames rfl fl λh' fl' up=>?_
  obtain ⟨T', y1, y2, y3⟩:=x0.after I2.stack I2.stkFree hok (λb o e=>I2.base.there b o e (λz=>nomatch z)) fl'.1 fl'.2.2.2 up
  refine ⟨a, T', C, H', rfl, y1, I2.os, bare, I2.base.past y3 (λb hb=>?_) λb hb=>?_, y2, q⟩
  . rcases List.mem_cons.mp hb with z | z
    . rw [z]; exact x0.na
    . rw [List.mem_singleton.mp z]; exact x0.nT
  . rcases List.mem_cons.mp (I2.stkSub b hb) with z | z
    . exact .inr (z ▸ Heap.get?_none_of_le I.ok.above)
    . exact .inl z
noncomputable def EE (X : Cx) (E : XK) : Prop:=∀ (pins : List (Addr × Obj)) (σ : St) (H : Hp) (s : Shared) (C e : Addr) (vs : List Value) (h' : Heap), Inv X pins σ H s -> Heap.MadeExcOf s.heap h' e (.ref C) vs -> E (.ref C) none H -> X.xe (.ref e) { s with heap:=h' }
theorem CG : EE (Fa (CXE P w) P w K mg base N qual scope f cd A outer s0 H0 E) E:=by
  intro pins σ H s C e vs h' I hx q
  have nn : ∀ b, s.heap.get? b = none -> s0.heap.get? b = none:=λb n=>by
    cases q : s0.heap.get? b with
    | none=>rfl
    | some o=>obtain ⟨o', e⟩:=I.base.there b o q (λz=>nomatch z); rw [n] at e; cases e
  refine wpAny_leaves_madeW (base:=EF s.heap (frs (Fa (CXE P w) P w K mg base N qual scope f cd A outer s0 H0 E).stack) e e) (h:=s.heap) I.ok.frames rfl (λb o z=>(KW z).1) (K9 I.stack λb hb=>QY (.inl hb)) hx λh2 t fl _ _ up=>?_
  obtain ⟨st, _, _, oe, us, T, oT, ts, ha, ⟨hc, h0'⟩, hd, h1, hnT, hne, hT, hdT, h3⟩:=fl
  have up2 : s.heap.UpToSlots h2:=λb o z n=>up b o (hx.keeps b o z) n
  have hT0 : s.heap.get? T = none:=by
    cases q : s.heap.get? T with
    | none=>rfl
    | some o=>
      by_cases hf : T ∈ frs (Fa (CXE P w) P w K mg base N qual scope f cd A outer s0 H0 E).stack
      . obtain ⟨_, o2, ho2, hd2⟩ := I.stack.mem hf
        obtain ⟨sl, e2⟩:=up2 T o2 ho2 hd2
        rw [hT] at e2; cases e2
        exact absurd hdT (hd2 ts)
      . rw [JL q hf hne hne] at hnT; cases hnT
  have keep : ∀ b o, b ∉ frs (Fa (CXE P w) P w K mg base N qual scope f cd A outer s0 H0 E).stack -> b ≠ e -> b ≠ T -> s.heap.get? b = some o -> h2.get? b = some o:=λb o n1 n2 _ z=>st b o (JL z n1 n2 n2)
  have fe:=I.hok.un0 hx.new
  have fT:=I.hok.un0 hT0
  refine ⟨e, T, C, H, rfl, ⟨nn _ hx.new, nn _ hT0, fe, fT, hne, oe, us, oT, ts, _, ha, hc, h0', hd, h1, hT, hdT, h3⟩, I.os, I.bare, I.base.past (Un.traced I.stack keep up2) (λb hb=>?_) λb hb=>?_, I.hok.traced I.stkFree fe fT keep, q⟩
  . rcases List.mem_cons.mp hb with z | z
    . rw [z]; exact nn _ hx.new
    . rw [List.mem_singleton.mp z]; exact nn _ hT0
  . rcases List.mem_cons.mp (I.stkSub b hb) with z | z
    . exact .inr (z ▸ Heap.get?_none_of_le I.ok.above)
    . exact .inl z
end
structure FnX (P : Program) (w : World) (K : PySem.W.Frag) (mg : Str -> Option Value) (base : Heap) (k : Nat) (x : Str) (ps : List Str) (sp : Sp) : Prop where
  ex : ∃ f fd, FnOk P w K mg base (CXE P w) k f fd ps sp /\ Kt K fd ps [] /\ PySem.W.keepIn K (.ref f) = true /\ mg x = some (.ref f)
section
variable {X : Cx} {k j : Nat} {x : Str} {ps : List Str} {sp : Sp} {e : Expr} {es : List Expr} {t : TA} {p pos : Pos} {E : XK}
theorem ZH (G : FnX X.prog X.w X.K X.mg X.base k x ps sp) (hr : Room j X.A) (hj : k <= j) (hx : VZ (CXE X.prog X.w) X E) (ha : PA X (e :: es) t) (hg : autoParam (Gl X x) L2.Zau5._auto_1) (hdb : autoParam ((x == ("__debug__" : Str)) = false) L2.Zau2._auto_1)
    (he : autoParam (starEach (e :: es) X.env = (false, eval e X.env) :: starEach es X.env) L2.Zau5._auto_1) (hpl : autoParam ((backTo pos (starEach es X.env)).any (·.1) = false) L2.Zau5._auto_1) :
    PE X (.Call (.Name x p) (e :: es) [] pos) (Ve sp [] E t):=by
  obtain ⟨f, fd, F, b, kp, m⟩:=G.ex
  exact Bd F (hr.mono hj) hg m kp b .nil hx ha hdb he hpl
end
theorem QV {P : Program} {w : World} {K : PySem.W.Frag} {mg : Str -> Option Value} {base : Heap} {x : Str} {st : Stmt} {N ps : List Str} {k : Nat} {sp : Sp} (D : Def K mg x st ps) (S : FnScope N ps (Xf st)) (len : ∀ vs H Q E, sp vs H Q E -> vs.length = ps.length)
    (hbody : ∀ (f : Addr) (cdv : Value) (A : Around) (outer : List Env) (s : Shared) (H : Hp) (vs : List V) (Q : VK) (E : XK), Room k (A.deeper (envOfC x (Xf st) s.heap.objs.size f cdv)) -> sp vs H Q E ->
      ∃ t, PSs (Fa (CXE P w) P w K mg base N x (Xf st) f cdv A outer s H E) (Xw st) t /\ t { nx:=λ_ H'=>Q .non H', rt:=Q } (VH N vs) H) : FnX P w K mg base (k + 1) x ps sp:=by
  obtain ⟨f, fd, F, b, m⟩:=D
  obtain ⟨oc, od, kV, doc, pm, an, cdv, ct, osl, rfl, lk, hcd⟩:=F.ex
  exact ⟨f, _, LG lk hcd S len λA outer s H vs Q E hr hsp=>hbody f cdv A outer s H vs Q E hr hsp, b, F.kp, m⟩
theorem EO {K : PySem.W.Frag} {h : Heap} {C : Addr} {bmB : List Value} {newId : String} (X : K.In h) (q : PySem.W.excIn K C bmB newId = true) :
    ∃ bm N nm q bs hdct sn sub ab col dd k0 k1 k2 k3 k5 mN, h.get? C = some (excClassObj nm q C N bs bm hdct sn sub ab col dd k0 k1 k2 k3 k5 newId) /\ h.Ns N mN /\ mN "__init__" = none /\ OwnTail h bmB bm:=by
  unfold PySem.W.excIn at q
  split at q
  . rename_i dd cd sl ho
    split at q
    . rename_i C' bm k0 k1 k2 k3 n k5 hm hs
      simp only [Bool.and_eq_true, beq_iff_eq, Bool.not_eq_true'] at q
      obtain ⟨⟨⟨⟨⟨q1, q2⟩, q3⟩, q4⟩, q5⟩, q6⟩:=q
      subst q1 q2
      obtain ⟨nm, bs, mro, ns, qn, hd, sn, sub, ab, col, del⟩:=cd
      have e1 : mro = _:=hm
      have e2 : del = false:=q3
      subst e1 e2
      obtain ⟨l⟩:=sl
      have e3 : l = _:=hs
      subst e3
      exact ⟨bm, ns, nm, qn, bs, hd, sn, sub, ab, col, dd, k0, k1, k2, k3, k5, _, X _ _ ho, .of_isNs (PySem.W.isNs_of_in X q5), PySem.W.nsMap_none_of_in X q5 q6, PySem.W.tail_of_in X q4⟩
    . cases q
  . cases q
abbrev vEr : List Value:=[.type "ValueError", .type "Exception", .type "BaseException", .type "object"]
noncomputable def EA (C : Addr) (E : XK) (t : TA) : TS:=λ_ σ H=>t σ H λvs H1=>vs.length <= 9 /\ E (.ref C) none H1
section
variable {X : Cx} {E : XK} {C : Addr} {x : Str} {e : Expr} {es : List Expr} {t : TA} {np cpos pos : Pos}
theorem V7 (hR : EE X E) (hc : X.calm = true) (hq : PySem.W.excIn X.K C vEr "ValueError.__new__" = true) (hg : Gl X x) (hm : X.mg x = some (.ref C)) (ha : PA X (e :: es) t) (hdb : autoParam ((x == ("__debug__" : Str)) = false) L2.Zau2._auto_1)
    (he : autoParam (starEach (e :: es) X.env = (false, eval e X.env) :: starEach es X.env) L2.Zau5._auto_1) (hpl : autoParam ((backTo cpos (starEach es X.env)).any (·.1) = false) L2.Zau5._auto_1) :
    PS X (.Raise (some (.Call (.Name x np) (e :: es) [] cpos)) none pos) (EA C E t):=by
  intro pins s σ H D I h
  obtain ⟨bm, N, nm, q, bs, hdct, sn, sub, ab, col, dd, k0, k1, k2, k3, k5, mN, hC, hN, hni, T⟩:=EO I.ok.mod.kin hq
  refine wpAny_Raise_call_subU (C:=C) (nm:=nm) (q:=q) (N:=N) (bs:=bs) (bm:=bm) (hdct:=hdct) (sn:=sn) (sub:=sub) (ab:=ab) (col:=col) (dd:=dd) (k0:=k0) (k1:=k1) (k2:=k2) (k3:=k3) (k5:=k5) (bmB:=vEr)
    PySem.F.excBase_ValueError rfl PySem.F.excBase_ValueError (mN:=mN) (T.hasType rfl) (I.ok.hd hc) (by rw [he]; show (false || (backTo cpos (starEach es X.env)).any (·.1)) = false; rw [hpl]; rfl) hni (Uj I hg hm ⟨rfl, ?_⟩ hdb)
  have h2:=ha cpos pins s σ H _ I h
  rw [he] at h2 ⊢
  refine Calls.evalArgs_plain (wpAny_mono h2 (λus s2 ⟨vs, H1, I1, r, hl, hE⟩=>⟨rfl, ?_, I1.bk _ _ hC, hN.keeps I1.bk, T.keeps I1.bk, λh' a hx=>hR pins σ H1 s2 C a us h' I1 hx hE⟩) λ_ _ y=>y)
  have : us.length <= 9:=by rw [← r.length]; exact hl
  exact Nat.le_trans this (by decide)
end
noncomputable abbrev TJ:=St -> Hp -> (Hp -> Prop) -> Prop
noncomputable def PJ (X : Cx) (es : List Expr) (n : Nat) (t : TJ) : Prop:=
  ∀ (pins : List (Addr × Obj)) (s : Shared) (σ : St) (H : Hp) (Q : Hp -> Prop) (out : Str), Inv X pins σ H s -> out.length <= n -> t σ H Q ->
    wpAny (model X.prog X.w) X.A (joinParts out (evalEach es X.env)) (λu s'=>∃ x tk H', u = Value.str x tk /\ Inv X pins σ H' s' /\ Q H') X.xe s
noncomputable def tJn : TJ:=λ_ H Q=>Q H
noncomputable def tJs (te : TE) (t : TJ) : TJ:=λσ H Q=>te σ H λv H1=>∃ x : Str, v = .str x /\ x.length <= 1000 /\ t σ H1 Q
noncomputable def tJi (te : TE) (t : TJ) : TJ:=λσ H Q=>te σ H λv H1=>∃ i : Int, v = .int i /\ i.natAbs.log2 < 1920 /\ t σ H1 Q
noncomputable def tF (t : TJ) : TE:=λσ H Q=>t σ H λH1=>∀ x, Q (.str x) H1
section
variable {X : Cx} {e : Expr} {es : List Expr} {te : TE} {t : TJ} {n : Nat} {pos p : Pos}
theorem Dn (h : autoParam (n <= sizeLine) L2.Zau9._auto_1) : PJ X [] n tJn:=λpins s σ H Q out I hl q=>
  joinParts_nil ⟨_, _, H, rfl, I.tok _, q⟩ (Nat.le_trans hl h)
theorem F2 (he : PE X e te) (hr : PJ X es (n + 1000) t) (hz : autoParam (n + 1000 <= sizeLine) L2.Zau9._auto_1) : PJ X (e :: es) n (tJs te t):=λpins s σ H Q out I hl q=>by
  refine joinParts_cons (wpAny_mono (he pins s σ H _ I q) (λu s1 r9=>?_) λ_ _ z=>z)
  obtain ⟨v, H1, I1, r, x, hv, hx, q1⟩:=r9
  subst hv
  obtain ⟨tk, hu⟩ : ∃ tk, u = Value.str x tk:=r
  subst hu
  have hle : (out ++ x).length <= n + 1000:=by rw [strLen_append]; lia
  exact ⟨Nat.le_trans hle hz, hr pins s1 σ H1 Q _ I1 hle q1⟩
theorem Km (he : PE X e te) (hr : PJ X es (n + 2000) t) (hz : autoParam (n + 2000 <= sizeLine) L2.Zau9._auto_1) : PJ X (.FormattedValue e (-1) none p :: es) n (tJi te t):=λpins s σ H Q out I hl q=>by
  refine joinParts_cons (FormattedValue_plain (wpAny_mono (he pins s σ H _ I q) (λu s1 r9=>?_) λ_ _ z=>z))
  obtain ⟨v, H1, I1, r, i, hv, hx, q1⟩:=r9
  subst hv
  obtain ⟨tk, hu⟩ : ∃ tk, u = Value.int i tk:=r
  subst hu
  refine formatField_int_small hx ?_
  have h1 : (Str.ofString (toString i)).length <= 1921:=by
    have:=int_text_length_le (k:=1920) (by decide) hx
    rw [PySem.ofString_length]
    exact this
  have hle : (out ++ (toString i : Str)).length <= n + 2000:=by
    rw [strLen_append]
    show out.length + (Str.ofString (toString i)).length <= _
    lia
  exact ⟨Nat.le_trans hle hz, hr pins _ σ H1 Q _ (I1.tok _) hle q1⟩
theorem Mo {e₁ : Expr} (h : PJ X (e :: e₁ :: es) 0 t) : PE X (.JoinedStr (e :: e₁ :: es) pos) (tF t):=λpins s σ H Q I q=>
  JoinedStr_many (wpAny_mono (h pins s σ H _ Str.empty I (Nat.le_refl _) q) (λu s' r9=>by obtain ⟨x, tk, H', hu, I', q'⟩:=r9; exact ⟨.str x, H', I', ⟨tk, hu⟩, q' x⟩) λ_ _ z=>z)
end
noncomputable abbrev Cx.alt (X : Cx) (pn : List (Addr × Obj)) (xe : Value -> Shared -> Prop) : Cx:={ X with pn:=pn, xe:=xe }
noncomputable abbrev Cx.held (X : Cx) (a : Addr) (pn : List (Addr × Obj)) : Cx:={ X with A:=X.A.mark (some (.ref a)), calm:=false, pn:=pn, xe:=λ_ _=>False }
noncomputable def blank (n : Nat) : St:=List.replicate n none
noncomputable def MA (K : PySem.W.Frag) (n : Nat) (cc : Value) (i : Nat) (tb : XK -> TS) (ts : Addr -> Addr -> TS) : TS:=λD σ H=>
  tb (λc _ H'=>PySem.W.exmOne K c cc = some true /\ ∀ a C, c = .ref C -> H' a = none -> ts a C { nx:=λ_=>D.nx (blank n), rt:=D.rt, bk:=λ_=>D.bk (blank n), ct:=λ_=>D.ct (blank n) } ((blank n).set i (some (.ref a))) H') D σ H
theorem Cx.Ok.alt {X : Cx} (ok : X.Ok) (pn : List (Addr × Obj)) (xe : Value -> Shared -> Prop) : (X.alt pn xe).Ok:=
  ⟨ok.mod, ok.kind, ok.glob, ok.blt, ok.above, ok.inj, ok.has, ok.cab, ok.hd, ok.frames, ok.stk, ok.exf, ok.bs, ok.bsz, ok.noex, ok.exfs, ok.funs, ok.frf⟩
theorem Cx.Ok.held {X : Cx} (ok : X.Ok) (a : Addr) (pn : List (Addr × Obj)) : (X.held a pn).Ok:=
  ⟨ok.mod, ok.kind, ok.glob, ok.blt, ok.above, ok.inj, ok.has, ok.cab, (λz=>nomatch z), ok.frames, ok.stk, ok.exf, ok.bs, ok.bsz, ok.noex, ok.exfs, ok.funs, ok.frf⟩
section
variable {X : Cx} {pins : List (Addr × Obj)} {σ : St} {H : Hp} {s : Shared} {h' : Heap}
theorem GG {n i : Nat} {v : V} (h : (blank n)[i]? = some (some v)) : False:=by
  unfold blank at h
  rw [List.getElem?_replicate] at h
  split at h <;> cases h
theorem Kr {n : Nat} : (blank n).length = n:=by simp [blank]
theorem Inv.blank (I : Inv X pins σ H s) : Inv X pins (blank X.N.length) H s:=I.weak (by rw [Kr, I.len]) λi v h=>(GG h).elim
theorem Inv.forget {m' : Str -> Option Value} {t' : Nat} (I : Inv X pins σ H s) (hn : h'.Ns X.env.locals m') (sb : Heap.SameBut X.env.locals s.heap h') : Inv X pins (L2.blank X.N.length) H { s with heap:=h', toks:=t' }:=by
  have v : Un [] [X.env.locals] H H s.heap h':=⟨λb o e n _ hx=>(sb.2 b λz=>hx (by simp [z])).trans e, (λb o e n hb _=>nomatch hb), λb o e n _=>n, λb o e hx=>⟨o, (sb.2 b λz=>hx (by simp [z])).trans e⟩, λ_ _ q=>q, λ_ _ _ q=>q, λ_ ps q=>⟨#[], by simpa using q⟩⟩
  refine ⟨I.ok, I.os, I.bare, I.base.past v (λb hb=>?_) (λb hb=>nomatch hb), ⟨m', hn, λi x v _ e2=>(GG e2).elim⟩, λx c e=>?_, I.free, I.freeC, λp hp=>?_, λb o e=>?_, Kr⟩
  . rw [List.mem_singleton.mp hb]; exact Heap.get?_none_of_le I.ok.above
  . obtain ⟨v, o, e1, e2⟩ := I.cell x c e
    exact ⟨v, o, (sb.2 c (I.cne x c e)).trans e1, e2⟩
  . obtain ⟨e, n, ne, nf, d⟩ := I.pin p hp
    exact ⟨(sb.2 p.1 ne).trans e, n, ne, nf, d⟩
  . refine (I.hok b o e).stay (λc u hc q => (sb.2 c λz => ?_).trans q) (λ_ q => q) λ_ _ q => q
    have hf:=I.free
    rw [← z] at hf
    rcases hc with y | y
    . rw [y, e] at hf; cases hf
    . rw [y] at hf; cases hf
end
section
variable {X : Cx} {body suite : List Stmt} {b₀ : Stmt} {cn n : Str} {Ch : Addr} {i : Nat} {tb : XK -> TS} {ts : Addr -> Addr -> TS} {np hpos pos : Pos}
theorem LL (hst : X.stack = X.env :: X.outer) (hex : X.ex = []) (hfr : X.env.frame = some X.env.locals) (hg : Gl X cn) (hm : X.mg cn = some (.ref Ch)) (hN : X.N.Nodup) (hi : X.N[i]? = some n) (hlo : X.env.kindOf n = some .local) (hlo2 : X.env.scope.names.lookup n = some .local)
    (hb : ∀ pn xe E, VZ (CXE X.prog X.w) (X.alt pn xe) E -> PSs (X.alt pn xe) body (tb E))
    (hs : ∀ pn a o C, (a, o) ∈ pn -> o.cls = .ref C -> PSs (X.held a pn) (b₀ :: suite) (ts a C))
    (hdb : autoParam ((cn == ("__debug__" : Str)) = false) L2.Zau2._auto_1) :
    PS X (.Try body [.ExceptHandler (some (.Name cn np)) (some n) (b₀ :: suite) hpos] [] [] pos) (MA X.K X.N.length (.ref Ch) i tb ts):=by
  intro pins s σ H D I h
  refine wpAny_Try_except ?_
  have I0 : ∀ xe, Inv (X.alt (X.pn ++ pins) xe) [] σ H s:=λxe=>⟨I.ok.alt _ _, I.os, I.bare, I.base, I.loc, I.cell, I.free, I.freeC, λp hp=>I.pin p (by simpa using hp), I.hok, I.len⟩
  have back : ∀ {xe pins1 σ' H' s'}, Inv (X.alt (X.pn ++ pins) xe) pins1 σ' H' s' -> Inv X pins σ' H' s':=fun {xe pins1 σ' H' s'} J=>⟨I.ok, J.os, J.bare, J.base, J.loc, J.cell, J.free, J.freeC, λp hp=>J.pin p (List.mem_append_left _ hp), J.hok, J.len⟩
  refine wpAny_mono (hb (X.pn ++ pins) _ _ ?pp [] s σ H D (I0 _) h) (λf s1 hq=>?fin) λe s1 hq=>hq
  case fin=>
    cases f with
    | next=>obtain ⟨σ', H', J, q⟩:=hq; exact wpAny_execs_nil ⟨σ', H', back J, q⟩
    | brk=>obtain ⟨σ', H', J, q⟩:=hq; exact ⟨σ', H', back J, q⟩
    | cont=>obtain ⟨σ', H', J, q⟩:=hq; exact ⟨σ', H', back J, q⟩
    | ret u=>obtain ⟨v, σ', H', J, r, q⟩:=hq; exact ⟨v, σ', H', back J, r, q⟩
  case pp=>
    intro pins1 σ1 H1 s1 e s' I1 ⟨a, T, C, H', he, x, os, bare, un, hok, hexm, hts⟩
    subst he
    have I2:=I1.call' os un hok bare (λb z=>nomatch z)
    have J : Inv X pins (blank X.N.length) H' s':=(back I2).blank
    have q1 : ∀ b, s1.heap.get? b = none -> X.s₀.heap.get? b = none /\ b ≠ X.env.locals /\ (∀ y c, X.env.cells.lookup y = some c -> c ≠ b) /\ ∀ p ∈ X.pn ++ pins, p.1 ≠ b:=λb nb=>by
      refine ⟨?_, λz=>?_, λy c hy z=>?_, λp hp z=>?_⟩
      . cases q : X.s₀.heap.get? b with
        | none=>rfl
        | some o=>obtain ⟨o', e⟩:=I1.base.there b o q (by show b ∉ X.ex; rw [hex]; simp); rw [nb] at e; cases e
      . obtain ⟨m, ⟨o, es, ep, ho, _⟩, _⟩ := I1.loc
        have ho' : s1.heap.get? X.env.locals = some o:=ho
        rw [← z, nb] at ho'; cases ho'
      . obtain ⟨v, o, ho, _⟩ := I1.cell y c hy
        rw [z, nb] at ho; cases ho
      . obtain ⟨e, _⟩ := I1.pin p (List.mem_append_left _ hp)
        rw [z, nb] at e; cases e
    have hl : s'.heap.FunFrames X.base (X.env :: X.outer):=hst ▸ J.stack
    have hfn : ∀ b ∈ frs (X.env :: X.outer), H' b = none:=hst ▸ J.stkFree
    have hA : X.A.frames = some (X.env :: X.outer):=hst ▸ I.ok.frames
    obtain ⟨a0, fl⟩:=x.fly hl
    refine wpAny_looks_onW hA hfr fl λh2 hd2 up2=>?_
    refine wpAny_landsW hd2 λh3 fl3 up3=>?_
    obtain ⟨T3, x3, hok3, un3⟩:=x.after hl hfn hok (λb o e=>un.there b o e (λz=>nomatch z)) fl3.1 fl3.2.2.2 (up2.trans up3)
    have ch : ∀ {U : Addr}, s1.heap.get? U = none -> ∀ b ∈ [a, U], X.s₀.heap.get? b = none /\ b ≠ X.env.locals /\ (∀ y c, X.env.cells.lookup y = some c -> c ≠ b) /\ ∀ p ∈ X.pn ++ pins, p.1 ≠ b:=fun {U} nU b hb=>by
      rcases List.mem_cons.mp hb with z | z
      . rw [z]; exact q1 a x.na
      . rw [List.mem_singleton.mp z]; exact q1 U nU
    have J3 : Inv X pins (blank X.N.length) H' { s' with heap:=h3 }:=J.past (by rw [hst]; exact un3) hok3 (ch x.nT)
    have hh : ∀ {pn : List (Addr × Obj)} {s4 : Shared}, Inv X pins (blank X.N.length) H' s4 -> (∀ p ∈ pn, p ∈ X.pn ++ pins ∨ (p.1 = a /\ s4.heap.get? a = some p.2 /\ ∀ v, p.2.data ≠ .cell v)) -> Inv (X.held a pn) [] (blank X.N.length) H' s4:=fun {pn s4} J4 hp4=>by
      refine ⟨I.ok.held _ _, J4.os, J4.bare, J4.base, J4.loc, J4.cell, J4.free, J4.freeC, λp hp=>?_, J4.hok, J4.len⟩
      rcases hp4 p (by simpa using hp) with z | ⟨z1, z2, z3⟩
      . exact J4.pin p z
      . refine ⟨by rw [z1]; exact z2, by rw [z1]; exact x.fa, by rw [z1]; exact (q1 a x.na).2.1, ?_, z3⟩
        rw [z1]
        intro y
        obtain ⟨_, o2, ho2, _⟩:=I.ok.funs.mem y
        rw [(q1 a x.na).1] at ho2
        cases ho2
    have hl3 : h3.FunFrames X.base (X.env :: X.outer):=hst ▸ J3.stack
    obtain ⟨oe, vs, oT, tts, a1, ha3, hc3, _⟩:=id x3.obj
    have J3h:=hh (pn:=X.pn ++ pins) J3 λp hp=>.inl hp
    refine wpAny_handleBy_cons (codeAny_handlers_test (Uj J3h hg hm ?_ hdb)) (by intro q; cases q)
    have LT : PySem.W.Looks (model X.prog X.w) h3 (typeOf (.ref a)) (.ref C):=hc3 ▸ (PySem.W.Looks.ld ha3).andThen .now
    refine PySem.W.exm_one J3.kIn LT hexm _ _ _ _ (λ_ _ e=>e) ?_
    refine codeAny_handlers_suite_as ?_
    obtain ⟨a2, fl4⟩:=x3.fly hl3
    refine lands_againW fl4 λh5 fl5 up5=>?_
    obtain ⟨T5, x5, hok5, un5⟩:=x3.after hl3 hfn hok3 (λb o e=>by
      obtain ⟨o', e'⟩:=un.there b o e (λz=>nomatch z)
      by_cases z : b ∈ [a, T]
      . rcases List.mem_cons.mp z with z | z
        . rw [z, x.na] at e; cases e
        . rw [List.mem_singleton.mp z, x.nT] at e; cases e
      . exact un3.there b o' e' z) fl5.1 fl5.2.2.2 up5
    have J5 : Inv X pins (blank X.N.length) H' { s' with heap:=h5 }:=J3.past (by rw [hst]; exact un5) hok5 (ch x3.nT)
    obtain ⟨oe5, vs5, oT5, ts5, a5, ha5, hc5, _, hd5, _⟩:=id x5.obj
    have J5h:=hh (pn:=(a, oe5) :: (X.pn ++ pins)) J5 λp hp=>by
      rcases List.mem_cons.mp hp with z | z
      . rw [z]; exact .inr ⟨rfl, ha5, λv q=>by rw [hd5] at q; cases q⟩
      . exact .inl z
    refine JI (X:=X.held a ((a, oe5) :: (X.pn ++ pins))) (v:=.ref a) J5h hN hi (.inl hlo2) rfl (λs6 J6=>?_) (.inr hlo2)
    refine wpAny_mono (hs _ a oe5 C List.mem_cons_self hc5 [] s6 _ H' _ J6 (hts a C rfl x.fa)) (λf s7 hq=>?_) λ_ _ z=>z.elim
    have fin : ∀ {σ7 H7} {Q : Unit -> Shared -> Prop}, Inv (X.held a ((a, oe5) :: (X.pn ++ pins))) [] σ7 H7 s7 -> (∀ s8, Inv X pins (blank X.N.length) H7 s8 -> Q () s8) -> wpAny (model X.prog X.w) X.A (do bindName X.env n .none; unbindBehindTheSuite X.env n hpos) Q X.xe s7:=fun {σ7 H7 Q} J7 q=>by
      obtain ⟨m, hn, _⟩:=id J7.loc
      refine wpAny_nameGoes hlo hn (by rw [I.ok.kind]; rfl) λh8 m8 hn8 sb8=>q _ ?_
      have J8:=J7.forget (t':=s7.toks + 1) hn8 sb8
      exact ⟨I.ok, J8.os, J8.bare, J8.base, J8.loc, J8.cell, J8.free, J8.freeC, λp hp=>J8.pin p (by simpa using .inr (by simpa using hp)), J8.hok, J8.len⟩
    cases f with
    | next=>obtain ⟨σ7, H7, J7, q⟩:=hq; exact fin J7 λs8 J8=>⟨_, H7, J8, q⟩
    | brk=>obtain ⟨σ7, H7, J7, q⟩:=hq; exact fin J7 λs8 J8=>⟨_, H7, J8, q⟩
    | cont=>obtain ⟨σ7, H7, J7, q⟩:=hq; exact fin J7 λs8 J8=>⟨_, H7, J8, q⟩
    | ret u=>obtain ⟨v, σ7, H7, J7, r, q⟩:=hq; exact fin J7 λs8 J8=>⟨v, _, H7, J8, r, q⟩
end
section
variable {K : PySem.W.Frag} {Er : Exc -> Hp -> Prop} {S : SC} {OO OO' OO2 : List (List XG)} {σ : St} {α β γ ρ ι : Type} {α1 α2 α3 α4 α5 α6 : Type} {mg : Str -> Option Value} {E : XK}
noncomputable def ErE (mg : Str -> Option Value) (E : XK) : Exc -> Hp -> Prop:=λx H=>∀ C, mg x.cls = some (.ref C) -> E (.ref C) none H
structure PX {β : Type} (Er : Exc -> Hp -> Prop) (F : β -> Hp -> Prop) (H : Hp) (m : Rs β) : Prop where
  z : PZ Er F H m
noncomputable def IJ (mg : Str -> Option Value) (r1 : Enc α1) (o : OE ρ) (f : α1 -> Rs ρ) (K : PySem.W.Frag) : Sp:=λvs H Q E=>∃ v1 a1, vs = [v1] /\ r1 K H v1 a1 /\ PX (ErE mg E) (FF K o Q) H (f a1)
noncomputable def Lg (mg : Str -> Option Value) (r1 : Enc α1) (r2 : Enc α2) (o : OE ρ) (f : α1 -> α2 -> Rs ρ) (K : PySem.W.Frag) : Sp:=λvs H Q E=>∃ v1 v2 a1 a2, vs = [v1, v2] /\ r1 K H v1 a1 /\ r2 K H v2 a2 /\ PX (ErE mg E) (FF K o Q) H (f a1 a2)
noncomputable def Bi (mg : Str -> Option Value) (r1 : Enc α1) (r2 : Enc α2) (r3 : Enc α3) (o : OE ρ) (f : α1 -> α2 -> α3 -> Rs ρ) (K : PySem.W.Frag) : Sp:=λvs H Q E=>∃ v1 v2 v3 a1 a2 a3, vs = [v1, v2, v3] /\ r1 K H v1 a1 /\ r2 K H v2 a2 /\ r3 K H v3 a3 /\ PX (ErE mg E) (FF K o Q) H (f a1 a2 a3)
noncomputable def IW (mg : Str -> Option Value) (r1 : Enc α1) (r2 : Enc α2) (r3 : Enc α3) (r4 : Enc α4) (o : OE ρ) (f : α1 -> α2 -> α3 -> α4 -> Rs ρ) (K : PySem.W.Frag) : Sp:=λvs H Q E=>∃ v1 v2 v3 v4 a1 a2 a3 a4, vs = [v1, v2, v3, v4] /\ r1 K H v1 a1 /\ r2 K H v2 a2 /\ r3 K H v3 a3 /\ r4 K H v4 a4 /\ PX (ErE mg E) (FF K o Q) H (f a1 a2 a3 a4)
theorem GS {o : OE ρ} [FlatO o] {Q : VK} {H : Hp} {m : Rs ρ} (w : W OO H) (P : PZ Er (FO K OO OO o Q) H m) : PZ Er (FF K o Q) H m:=by
  cases m with
  | bad=>exact P
  | err x=>exact P
  | ok b=>exact Vt w P
theorem Ko {ta : TE} {r1 : Enc α1} {o : OE ρ} [FlatO o] {f : α1 -> Rs ρ} {ma : Rs α1} (ha : EvB K (ErE mg E) S OO σ ta r1 ma) : Ev K (ErE mg E) S OO OO σ (Ve (IJ mg r1 o f K) [] E (XN ta ZX)) o (ma.bind λa=>f a):=λH Q w s P=>
  ha.run w s FO.tr P λa x H1 s1 w1 q1 r1 P1=>⟨x, a, rfl, r1, ⟨GS w1 P1⟩⟩
theorem Vn {ta tb : TE} {r1 : Enc α1} {r2 : Enc α2} [z1 : MonoE r1] {o : OE ρ} [FlatO o] {f : α1 -> α2 -> Rs ρ} {ma : Rs α1} {mb : Rs α2} (ha : EvB K (ErE mg E) S OO σ ta r1 ma) (hb : EvB K (ErE mg E) S OO σ tb r2 mb) :
    Ev K (ErE mg E) S OO OO σ (Ve (Lg mg r1 r2 o f K) [] E (XN ta (XN tb ZX))) o (ma.bind λa=>mb.bind λb=>f a b):=λH Q w s P=>
  ha.run w s FO.tr P λa x H1 s1 w1 q1 r1 P1=>hb.run w1 q1 FO.tr P1 λb y H2 s2 w2 q2 r2 P2=>⟨x, y, a, b, rfl, z1.mono s2 r1, r2, ⟨GS w2 P2⟩⟩
theorem Zy {ta tb tc : TE} {r1 : Enc α1} {r2 : Enc α2} {r3 : Enc α3} [z1 : MonoE r1] [z2 : MonoE r2] {o : OE ρ} [FlatO o] {f : α1 -> α2 -> α3 -> Rs ρ} {ma : Rs α1} {mb : Rs α2} {mc : Rs α3} (ha : EvB K (ErE mg E) S OO σ ta r1 ma) (hb : EvB K (ErE mg E) S OO σ tb r2 mb) (hc : EvB K (ErE mg E) S OO σ tc r3 mc) :
    Ev K (ErE mg E) S OO OO σ (Ve (Bi mg r1 r2 r3 o f K) [] E (XN ta (XN tb (XN tc ZX)))) o (ma.bind λa=>mb.bind λb=>mc.bind λc=>f a b c):=λH Q w s P=>
  ha.run w s FO.tr P λa x H1 s1 w1 q1 r1 P1=>hb.run w1 q1 FO.tr P1 λb y H2 s2 w2 q2 r2 P2=>hc.run w2 q2 FO.tr P2 λc z H3 s3 w3 q3 r3 P3=>⟨x, y, z, a, b, c, rfl, z1.mono (s2.trans s3) r1, z2.mono s3 r2, r3, ⟨GS w3 P3⟩⟩
theorem Jp {o : OE ρ} [MonoO o] {t : TS} {m : Rs ρ} {Q : VK} {H : Hp} {D : Ends} (n : Nat) (h : Sv (ErE mg E) S (List.replicate n []) σ t (FTd K o) m) (hs : S.p H) (PP : PX (ErE mg E) (FF K o Q) H m) (hD : D.rt = Q) : t D σ H:=by
  have P:=PP.z
  refine h H D (EM n H) (by rw [Fz]; exact hs) ?_
  rw [Fz]
  cases m with
  | bad=>exact P
  | err x=>exact P
  | ok b=>
    intro v C OO' H' w mm ho
    rw [hD]
    exact Eh P v C OO' H' w mm ho
theorem LE {J : Jn Unit ι} {t : TS} {m : Rs Unit} {Q : VK} {H : Hp} {D : Ends} (n : Nat) (h : Sv (ErE mg E) S (List.replicate n []) σ t (FNd J) m) (hs : S.p H) (PP : PX (ErE mg E) (FF K oU Q) H m) (hD : ∀ σ H, D.nx σ H = Q .non H) : t D σ H:=by
  have P:=PP.z
  refine h H D (EM n H) (by rw [Fz]; exact hs) ?_
  rw [Fz]
  cases m with
  | bad=>exact P
  | err x=>exact P
  | ok b=>
    intro x H' w mm ho
    rw [hD]
    have hs : Xz (hid H' (J.oo x)) (hid H' [[]]):=QA (Xz.refl _) λb hb=>by simp [fl] at hb
    exact P .non [] H' ⟨λc hc=>by simp at hc, by simp [fl], λc hc=>by simp at hc⟩ (mm.trans hs) ⟨rfl, rfl⟩
noncomputable def FJ (Q : Hp -> Prop) (_ : Unit) (H : Hp) : Prop:=∀ H', Xz H H' -> Q H'
theorem FJ.tr {Q : Hp -> Prop} : ∀ (b : Unit) (H H' : Hp), Xz H H' -> FJ Q b H -> FJ Q b H':=λ_ _ _ s h H2 s2=>h H2 (s.trans s2)
noncomputable def EvJ (Er : Exc -> Hp -> Prop) (S : SC) (OO : List (List XG)) (σ : St) (t : TJ) (m : Rs Unit) : Prop:=∀ H Q, W OO H -> S.p (hid H OO) -> PZ Er (FJ Q) H m -> t σ H Q
theorem KY : EvJ Er S OO σ tJn (.ok ()):=λH Q _ _ P=>P H (Xz.refl _)
theorem K1 {x : Str} {t : TJ} {m : Rs Unit} (h : EvJ Er S OO σ t m) (hx : autoParam (x.length <= 1000) L2.Zau10._auto_1) : EvJ Er S OO σ (tJs (tC (.str x)) t) m:=λH Q w s P=>⟨x, rfl, hx, h H Q w s P⟩
theorem Vi {te : TE} {t : TJ} {ma : Rs Int} {m : Rs Unit} (ha : EvB K Er S OO σ te Xa ma) (h : EvJ Er S OO σ t m) : EvJ Er S OO σ (tJi te t) (ma.bind λi=>chk (i.natAbs.log2 < 1920) m):=λH Q w s P=>
  ha.run w s FJ.tr P λi v H' s1 w1 q1 r1 P1=>by
    by_cases hc : i.natAbs.log2 < 1920
    . rw [Xy hc] at P1
      exact ⟨i, r1, hc, h H' Q w1 q1 P1⟩
    . unfold chk at P1
      rw [if_neg hc] at P1
      exact P1.elim
noncomputable def EvX (Er : Exc -> Hp -> Prop) (S : SC) (OO : List (List XG)) (σ : St) (t : TE) (m : Rs Unit) : Prop:=∀ H (Q : VK), W OO H -> S.p (hid H OO) -> PZ Er (FJ λH=>∀ v, Q v H) H m -> t σ H Q
theorem ES {t : TJ} {m : Rs Unit} (h : EvJ Er S OO σ t m) : EvX Er S OO σ (tF t) m:=λH Q w s P=>h H _ w s (by
  cases m with
  | bad=>exact P
  | err x=>exact P
  | ok b=>exact λH' s' x=>P H' s' _)
variable {Fd : Ends -> β -> Hp -> Prop} [fd : FdOk Fd] {u : TS}
theorem UA {te : TE} {m : Rs Unit} {C : Addr} {n : Str} (hm : mg n = some (.ref C)) (h : EvX (ErE mg E) S OO σ te m) : Sv (ErE mg E) S OO σ (Jg (EA C E (XN te ZX)) u) Fd (m.bind λ_=>.err ⟨n, .non⟩):=λH D w s P=>
  h H _ w s (by
    cases m with
    | bad=>exact P
    | err x=>exact λH' s'=>P H' (Xt.trans s')
    | ok b=>exact λH' s' v=>⟨Nat.le_of_ble_eq_true rfl, P H' (Xt.trans s') C hm⟩)
noncomputable def ZD (n d : Str) : Bool:=n == d || d == ("PlaitError" : Str)
noncomputable def erA (K : PySem.W.Frag) (C : Addr) : Bool:=PySem.W.findIn K (.ref C) "__getattribute__" == some (some (.builtin "BaseException.__getattribute__")) && PySem.W.findIn K (.ref C) "__getattr__" == some none && PySem.W.findIn K (.ref C) "__class__" == some (some (.builtin "object.__class__")) &&
  PySem.W.specialIn K (.builtin "object.__class__") "__get__" == some (some (.builtin "getset_descriptor.__get__")) && PySem.W.takesIn K (.builtin "object.__class__") == some true && PySem.W.mroIn K C (.type "object") == some true && (PySem.W.clsIn K C).isSome && PySem.W.mroIn K C (.type "BaseException") == some true
noncomputable def Jk (n : Str) : Bool:=!(n == ("NotADrawing" : Str)) && !(n == ("NoChain" : Str))
noncomputable def HW (K : PySem.W.Frag) (cs : List (Str × Addr)) : Bool:=cs.all λp=>(!(Jk p.1) || PySem.W.excIn K p.2 vEr "ValueError.__new__") && erA K p.2 && PySem.W.kitOne K (.ref p.2) (.type "ValueError") == some true &&
  cs.all λq=>PySem.W.kitOne K (.ref p.2) (.ref q.2) == some (ZD p.1 q.1) && PySem.W.exmOne K (.ref p.2) (.ref q.2) == some (ZD p.1 q.1)
structure Ecs (ns : List Str) (K : PySem.W.Frag) (mg : Str -> Option Value) : Prop where
  adr : ∀ n ∈ ns, ∃ C, mg n = some (.ref C) /\ (Jk n = true -> PySem.W.excIn K C vEr "ValueError.__new__" = true)
  att : ∀ n ∈ ns, ∀ C, mg n = some (.ref C) -> erA K C = true
  val : ∀ n ∈ ns, ∀ C, mg n = some (.ref C) -> PySem.W.kitOne K (.ref C) (.type "ValueError") = some true
  kit : ∀ n ∈ ns, ∀ d ∈ ns, ∀ C D, mg n = some (.ref C) -> mg d = some (.ref D) -> PySem.W.kitOne K (.ref C) (.ref D) = some (ZD n d)
  exm : ∀ n ∈ ns, ∀ d ∈ ns, ∀ C D, mg n = some (.ref C) -> mg d = some (.ref D) -> PySem.W.exmOne K (.ref C) (.ref D) = some (ZD n d)
theorem IT {cs : List (Str × Addr)} (h : HW K cs = true) (hn : ∀ p ∈ cs, mg p.1 = some (.ref p.2)) : Ecs (cs.map (·.1)) K mg:=by
  have key : ∀ n ∈ cs.map (·.1), ∀ C, mg n = some (.ref C) -> (n, C) ∈ cs:=λn hm C hC=>by
    obtain ⟨⟨n', C'⟩, hp, rfl⟩:=List.mem_map.mp hm
    have:=hn _ hp
    rw [hC] at this
    cases this
    exact hp
  have hp : ∀ p ∈ cs, _:=List.all_eq_true.mp h
  simp only [Bool.and_eq_true, List.all_eq_true, beq_iff_eq, Bool.or_eq_true] at hp
  refine ⟨λn hm=>?_, λn hm C hC=>(hp _ (key n hm C hC)).1.1.2, λn hm C hC=>(hp _ (key n hm C hC)).1.2, λn hm d hd C D hC hD=>((hp _ (key n hm C hC)).2 _ (key d hd D hD)).1, λn hm d hd C D hC hD=>((hp _ (key n hm C hC)).2 _ (key d hd D hD)).2⟩
  obtain ⟨⟨n', C'⟩, hq, rfl⟩:=List.mem_map.mp hm
  exact ⟨C', hn _ hq, λe=>(hp _ hq).1.1.1.resolve_left (by rw [e]; exact Bool.false_ne_true)⟩
noncomputable def cau (ns : List Str) (n d : Str) : Bool:=decide (n ∈ ns) && ZD n d
noncomputable def Rs.tryC (m : Rs α) (f : α -> Rs β) (g : Exc -> Rs β) : Rs β:=match m with
  | .bad=>.bad
  | .err x=>g x
  | .ok a=>f a
theorem Ic {c : Prop} [Decidable c] {m : Rs β} {F : β -> Hp -> Prop} {H : Hp} (P : PZ Er F H (chk c m)) : c /\ PZ Er F H m:=by
  by_cases hc : c
  . rw [Xy hc] at P; exact ⟨hc, P⟩
  . unfold chk at P
    rw [if_neg hc] at P
    exact P.elim
section
variable {te : XK -> TE} {m : Rs α} {ts : Addr -> Addr -> TS} {N i : Nat} {Ch : Addr} {o : OE ρ} {g : Exc -> Rs ρ} {ns : List Str} {d : Str}
theorem Ho {x : Exc} {H : Hp} {D D' : Ends} (hD : D'.rt = D.rt) (Y : Ecs ns K mg) (hd : d ∈ ns) (hm : mg d = some (.ref Ch)) (hs : ∀ x, x.cls ∈ ns -> ∀ C a, mg x.cls = some (.ref C) -> Sv Er S OO ((blank N).set i (some (.ref a))) (ts a C) (FTd K o) (g x)) (w : W OO H) (s : S.p (hid H OO))
    (P : PZ Er (FTd K o D) (hid H OO) (chk (cau ns x.cls d = true) (g x))) : ∀ H', Xz H H' -> ∀ C, mg x.cls = some (.ref C) -> PySem.W.exmOne K (.ref C) (.ref Ch) = some true /\ ∀ a C', Value.ref C = .ref C' -> H' a = none -> ts a C' D' ((blank N).set i (some (.ref a))) H':=λH' s' C hC=>by
  obtain ⟨hc, P2⟩:=Ic P
  unfold cau at hc
  rw [Bool.and_eq_true, decide_eq_true_eq] at hc
  refine ⟨by rw [Y.exm _ hc.1 d hd C Ch hC hm, hc.2], λa C' hC' _=>hs x hc.1 C' a (hC'.symm ▸ hC) H' D' (w.keep s') (S.mono _ _ (Xj s') s) ?_⟩
  have P3:=PZ.tr (FdOk.tr (Fd:=FTd K o) D) (Xj s') P2
  unfold FTd at P3 ⊢
  rw [hD]
  exact P3
theorem Hh {r : Enc α} [MonoE r] {f : α -> Rs ρ} (Y : Ecs ns K mg) (hd : d ∈ ns) (hm : mg d = some (.ref Ch)) (j : Nat) (he : ∀ E, EvS K (ErE mg E) S OO σ (te E) r m)
    (hr : ∀ a v, Sv Er (S.add K r v a) OO (σ.set j (some v)) u (FTd K o) (f a))
    (hs : ∀ x, x.cls ∈ ns -> ∀ C a, mg x.cls = some (.ref C) -> Sv Er S OO ((blank N).set i (some (.ref a))) (ts a C) (FTd K o) (g x)) :
    Sv Er S OO σ (Jg (MA K N (.ref Ch) i (λE=>Jg (Ef (te E) (ZE j)) Fy) ts) u) (FTd K o) (m.tryC f (λx=>chk (cau ns x.cls d = true) (g x))):=λH D w s P=>
  he _ H _ w s (by
    cases m with
    | bad=>exact P
    | err x=>exact Ho rfl Y hd hm hs w s P
    | ok a=>exact λv H' s' ho=>hr a v H' D (w.keep s') ⟨S.mono _ _ (Xj s') s, ho⟩ (PZ.tr (FdOk.tr (Fd:=FTd K o) D) (Xj s') P))
end
noncomputable def vOf : V -> Value
  | .ref a=>.ref a
  | .ty n=>.type n
  | _=>.none
noncomputable def MI (K : PySem.W.Frag) (c : Value) (a : Addr) (xs : List V) (H : Hp) (Q : VK) : Prop:=∃ d b C, c = .ref C /\ erA K C = true /\ xs = [.ref a, d] /\ ((∃ D, d = .ref D) ∨ ∃ n, d = .ty n) /\ PySem.W.kitOne K c (vOf d) = some b /\ Q (.bl b) H
theorem C5 {a C D : Addr} {b : Bool} (i : Nat) (hσ : σ[i]? = some (some (.ref a))) (hA : erA K C = true) (hk : PySem.W.kitOne K (.ref C) (.ref D) = some b) : EvB K Er S OO σ (tCB (MI K (.ref C) a) (XN (UY i) (XN (tC (.ref D)) ZX))) Xr (.ok b):=λH Q w s P=>
  ⟨_, hσ, _, b, C, rfl, hA, rfl, .inl ⟨D, rfl⟩, hk, P _ H (Xz.refl _) rfl⟩
theorem EC {o : OE ρ} {c : TT} {t1 : TS} {mc : Rs Bool} {m1 : Rs ρ} {m2 : Rs β} (hc : EvT Er S OO σ c mc) (h1 : Sv Er S OO σ t1 (FTd K o) m1) (h2 : Sv Er S OO σ u Fd m2) : Sv Er S OO σ (Jg (Lx c t1 Fy) u) Fd (mc.bind λb=>if b = true then m1.bind (λ_=>.bad) else m2):=λH D w s P=>
  hc.st (Fd:=Fd) w s P λb H' w' s' P'=>by
    cases b with
    | true=>
      rw [if_pos rfl] at P' ⊢
      refine h1 H' _ w' s' ?_
      cases m1 with
      | bad=>exact P'
      | err x=>exact P'
      | ok a=>exact P'.elim
    | false=>exact h2 H' D w' s' P'
end
end L2
namespace L2
open PySem PySem.Spec PyProof.Rows PySem.W PySem.Builtin PySem.Builtin.ObjectAttr PySem.Builtin.Getset_descriptor
section
variable {prog : Program} {w : World} {A : Around} {E : Value -> Shared -> Prop} {K : Frag} {x D : Addr} {s : Shared}
theorem BZ {M : Model} {h : Heap} (X : K.In h) (cl : findIn K (.ref D) "__class__" = some (some (.builtin "object.__class__"))) (sg : specialIn K (.builtin "object.__class__") "__get__" = some (some (.builtin "getset_descriptor.__get__"))) (tk : takesIn K (.builtin "object.__class__") = some true) :
    Looks M h (Builtin.ObjectAttr.find (.ref x) (.ref D) "__class__") (.bind (.builtin "getset_descriptor.__get__") (.builtin "object.__class__")):=by
  have L3:=looks_takesIn (M:=M) X tk
  exact (looks_findIn (M:=M) X cl).andThen ((looks_specialIn X sg).andThen ((show Looks M h (Builtin.ObjectAttr.dataDescriptor? (some (.builtin "object.__class__")) (some (.builtin "getset_descriptor.__get__"))) (some (.builtin "getset_descriptor.__get__", .builtin "object.__class__")) from L3.andThen .now).andThen (Looks.tag .now)))
theorem Im {R : Result -> Shared -> Prop} {tp : Value} (X : K.In s.heap) (L0 : Looks (model prog w) s.heap (typeOf (.ref x)) (.ref D)) (hm : mroIn K D (.type "object") = some true)
    (h : R (.ok (.ret (.ref D))) s) : codeAny (model prog w) A (.call (.builtin "getset_descriptor.__get__") ⟨[.builtin "object.__class__", .ref x, tp], []⟩) R s:=by
  obtain ⟨hh, g, dr, t, os⟩:=s
  have L1:=looks_mroIn (M:=model prog w) X hm
  refine codeAny_call_builtin KF.slot_gs.plain KF.entry_gs (KF.slot_gs.check _ _ _ _ _ _ _ _ KF.type_class (KF.args_gs _ _ _) ?_)
  unfold Builtin.«getset_descriptor.__get__» descrGet
  rw [dga_obj]
  refine wpAny_bind (wpAny_pure ?_)
  unfold descrGetter descrCheckInstance descrNameAndClass isInstance
  simp only [KF.owner_class]
  repeat lk
  refine ⟨Code.quiet_builtin _ (by decide +kernel), codeAny_builtin KF.entry_class ?_⟩
  unfold Builtin.«object.__class__» shownTypeOf
  repeat lk
  exact h
theorem CN {Q : Option Value -> Shared -> Prop} (X : K.In s.heap) (hx : ∃ o, s.heap.get? x = some o /\ o.cls = .ref D) (hA : erA K D = true) (h : Q (some (.ref D)) { s with toks:=s.toks + 1 }) : wpAny (model prog w) A (getAttr? (.ref x) "__class__") Q E s:=by
  obtain ⟨hh, g, d, t, os⟩:=s
  obtain ⟨o, ho, hc⟩:=hx
  unfold erA at hA
  simp only [Bool.and_eq_true, beq_iff_eq] at hA
  obtain ⟨⟨⟨⟨⟨⟨⟨ga, gh⟩, cl⟩, sg⟩, tk⟩, mo⟩, ci⟩, mb⟩:=hA
  have L0 : Looks (model prog w) hh (typeOf (.ref x)) (.ref D):=hc ▸ (Looks.ld ho).andThen .now
  have L1:=looks_findIn (M:=model prog w) X ga
  have L2:=looks_findIn (M:=model prog w) X gh
  have LB:=looks_mroIn (M:=model prog w) X mb
  have LF:=BZ (M:=model prog w) (x:=x) X cl sg tk
  have f3:=PySem.F.attr_ValueError.ga.bind (.ref x)
  have hx2 : (Value.builtin "BaseException.__getattribute__" == Value.builtin "object.__getattribute__") = false:=by decide +kernel
  unfold getAttr? getAttrBy? getAttrBy
  refine wpAny_bind (wpAny_mkText (wpAny_bind (wpAny_attempt (wpAny_holding (wpAny_bind (L0.at (wpAny_bind (L1.at ?_))))))))
  dsimp only
  rw [hx2, Bool.and_false, if_neg Bool.false_ne_true]
  unfold getAttrByItsOwn hookBefore callGetattribute boundAndCalled
  refine wpAny_bind (L2.at ?_)
  refine wpAny_bind (wpAny_attempt (wpAny_holding ?_))
  rw [Bool.false_and, if_neg Bool.false_ne_true, f3]
  refine wpAny_bind (wpAny_pure ?_)
  refine wpAny_call (codeAny_call_builtin PySem.F.attr_ValueError.ga.plain PySem.F.entry_bexc_ga ?_)
  have hk : builtinKind "BaseException.__getattribute__" = some .slot:=by decide +kernel
  have hsplit : splitId "BaseException.__getattribute__" = some ("BaseException", "__getattribute__"):=by decide +kernel
  have ha:=PySem.F.args_bexc_ga (.ref x) (Value.str (Str.ofString "__class__") t)
  simp only [checkBuiltinCall, hk, hsplit]
  unfold isInstance
  refine wpAny_bind (wpAny_bind (L0.at ?_))
  refine LB.at ?_
  rw [if_neg (by decide)]
  have fin : ∀ s1 : Shared, s1 = ⟨hh, g, d, t + 1, os⟩ -> wpAny (model prog w) A.in1 («object.__getattribute__» { pos:=[Value.ref x] ++ [Value.str (Str.ofString "__class__") t] }) (λfin s'=>match fin with | .done (.ret v)=>v = .ref D /\ s' = s1 | _=>False) (λ_ _=>False) s1:=by
    intro s1 hs1
    subst hs1
    unfold «object.__getattribute__» bindTo
    repeat (any_goals (first | with_reducible refine wpAny_call (Im X L0 mo ?_) | lk))
    exact ⟨rfl, rfl⟩
  unfold argsOk at ha
  have sg2 : ∀ sig, Manifest.signature? "BaseException.__getattribute__" = some sig -> Bind.checkArgs "BaseException.__getattribute__" sig { pos:=[Value.ref x, Value.str (Str.ofString "__class__") t] } = pure ():=λsig e=>by
    rw [e] at ha
    exact ha
  have rest : ∀ {P : Unit -> Shared -> Prop} {E' : Value -> Shared -> Prop} {s1 : Shared}, P () s1 -> wpAny (model prog w) A.in1 (match Manifest.signature? "BaseException.__getattribute__" with | some sig=>Bind.checkArgs "BaseException.__getattribute__" sig { pos:=[Value.ref x] ++ [Value.str (Str.ofString "__class__") t] } | _=>pure ()) P E' s1:=fun {P E' s1} p=>by
    split
    . rename_i sig e
      rw [show [Value.ref x] ++ [Value.str (Str.ofString "__class__") t] = [Value.ref x, Value.str (Str.ofString "__class__") t] from rfl, sg2 sig e]
      exact wpAny_pure p
    . exact wpAny_pure p
  refine rest ?_
  refine wpAny_mono (fin _ rfl) (λfi s' z=>?_) λ_ _ z=>z.elim
  rcases fi with (_ | _ | _ | v) | _
  all_goals first | exact z.elim | skip
  obtain ⟨rfl, rfl⟩:=z
  exact handed_on rfl (wpAny_pure h)
theorem BW (hA : erA K D = true) : KitX K (.ref x) (.ref D) (λh=>∃ o, h.get? x = some o /\ o.cls = .ref D) where
  ty:=λ_ _ _ ⟨o, ho, hc⟩=>hc ▸ (Looks.ld ho).andThen .now
  it:=λ_ _ X _=>by
    unfold erA at hA
    simp only [Bool.and_eq_true] at hA
    have z0:=hA.1.2
    unfold clsIn at z0
    split at z0
    . rename_i ho
      intro A' Q' E' s' k q
      unfold isType loadHead
      exact wpAny_bind (wpAny_loadPart (k _ _ (X _ _ ho)) (wpAny_pure q))
    . cases z0
  ne:=λh tp dd its n sl X htp=>by
    unfold erA at hA
    simp only [Bool.and_eq_true] at hA
    have z0:=hA.1.2
    refine Bool.eq_false_iff.mpr λq=>?_
    have e : D = tp:=Value.ref.inj (beq_iff_eq.mp q)
    subst e
    unfold clsIn at z0
    split at z0
    . rename_i ho
      cases (X _ _ ho).symm.trans htp
    . cases z0
  ca:=λX I k=>CN X I hA k
end
theorem El {X : Cx} {x : Str} {v : V} {pos : Pos} (h : ∃ u, X.mg x = some u /\ Yi v u) (hg : Gl X x) (hd : autoParam ((x == ("__debug__" : Str)) = false) L2.Zau2._auto_1) : PE X (.Name x pos) (tC v):=by
  obtain ⟨u, hm, r⟩:=h
  exact Gj hg hm r hd
theorem PS.nox {X : Cx} {st : Stmt} {t : TS} (h : PS X.nox st t) : PS X st t:=λpins s σ H D I hw=>
  wpAny_mono (h pins s σ H D (I.wish _) hw) (λ_ _ q=>q.unwish) λ_ _ z=>False.elim z
theorem Gp {X : Cx} {a C : Addr} {o : Obj} {pn : List (Addr × Obj)} (hpn : X.pn = pn) (hp : (a, o) ∈ pn) (hc : o.cls = .ref C) {K : Frag} (hK : X.K = K) : Jc X (.builtin "isinstance") (MI K (.ref C) a):=by
  subst hpn hK
  intro pins s σ H xs us Q I r ⟨d, b, C', hC', hA, hxs, hd, hk, q⟩
  cases hC'
  subst hxs
  obtain ⟨e, _⟩:=I.pin (a, o) (List.mem_append_left _ hp)
  cases r with
  | cons r1 r2=>
    cases r2 with
    | cons r3 r4=>
      cases r4
      rename_i u1 u2
      obtain rfl : u1 = Value.ref a:=r1
      have e2 : u2 = vOf d:=by
        rcases hd with ⟨D, rfl⟩ | ⟨n, rfl⟩
        . exact r3
        . exact r3
      subst e2
      exact kia_one (BW hA) I.kIn ⟨o, e, hc⟩ hk (λz=>nomatch z) λtk=>⟨.bl b, H, I.tok tk, rfl, q⟩
section
variable {K : PySem.W.Frag} {C D : Addr} {b : Bool}
theorem GX (h1 : PySem.W.findIn K (.ref C) "__getattribute__" = some (some (.builtin "BaseException.__getattribute__"))) (h2 : PySem.W.findIn K (.ref C) "__getattr__" = some none) (h3 : PySem.W.findIn K (.ref C) "__class__" = some (some (.builtin "object.__class__")))
    (h6 : PySem.W.mroIn K C (.type "object") = some true) (h7 : PySem.W.isClsIn K C = true) (h8 : PySem.W.mroIn K C (.type "BaseException") = some true) (h4 : PySem.W.specialIn K (.builtin "object.__class__") "__get__" = some (some (.builtin "getset_descriptor.__get__"))) (h5 : PySem.W.takesIn K (.builtin "object.__class__") = some true) : erA K C = true:=by
  unfold erA
  unfold PySem.W.isClsIn at h7
  rw [h1, h2, h3, h4, h5, h6, h7, h8]
  rfl
theorem UG (h : PySem.W.subIn K (.ref C) (.type "ValueError") = some true) : PySem.W.kitOne K (.ref C) (.type "ValueError") = some true:=by
  have e : PySem.W.kitOne K (.ref C) (.type "ValueError") = PySem.W.subIn K (.ref C) (.type "ValueError"):=rfl
  rw [e, h]
theorem Qv (s : PySem.W.subIn K (.ref C) (.ref C) = some true) (h : PySem.W.subIn K (.ref C) (.ref D) = some b) (h7 : PySem.W.isClsIn K D = true) (ht : PySem.W.typeIn K (.ref D) = some (.type "type")) (hb : PySem.W.subIn K (.ref D) (.type "BaseException") = some true) :
    PySem.W.kitOne K (.ref C) (.ref D) = some b /\ PySem.W.exmOne K (.ref C) (.ref D) = some b:=by
  have e : PySem.W.kitCls K (.ref C) (.ref D) = some b:=by
    unfold PySem.W.kitCls
    unfold PySem.W.isClsIn at h7
    dsimp only
    rw [h7, ht, h]
    rfl
  constructor
  . unfold PySem.W.kitOne
    rw [e]
    split
    . rename_i q
      have q:=eq_of_beq q
      rw [← q, s] at h
      exact h
    . rfl
  . unfold PySem.W.exmOne
    rw [hb, e]
    rfl
end
end L2
namespace L2
open PySem PySem.Spec PyProof.Rows
section
variable {α β : Type} {K : PySem.W.Frag} {Er : Exc -> Hp -> Prop} {S : SC} {OO : List (List XG)} {σ : St} {Fd : Ends -> β -> Hp -> Prop} [fd : FdOk Fd] {u : TS}
end
section
variable {α β γ δ ε : Type}
noncomputable def rEi (r : Enc α) (q : Enc β) : Enc (α ⊕ β):=λK H v a=>match a with
  | .inl a=>r K H v a
  | .inr b=>q K H v b
instance {r : Enc α} {q : Enc β} [m : MonoE r] [n : MonoE q] : MonoE (rEi r q):=⟨fun {K H H' v a} s h=>by cases a with
  | inl a=>exact m.mono s h
  | inr a=>exact n.mono s h⟩
instance {r : Enc α} {q : Enc β} [m : FlatE r] [n : FlatE q] : FlatE (rEi r q):=⟨fun {K H H' v a} s h=>by cases a with
  | inl a=>exact m.flat s h
  | inr a=>exact n.flat s h⟩
structure Crs (r : Enc α) (q : Enc β) (d : Nat) : Prop where
  no : ∀ {X : Cx} {pins : List (Addr × Obj)} {σ : St} {H : Hp} {s : Shared} {x : V} {a : α} {b : β}, Inv X pins σ H s -> r X.K H x a -> q X.K H x b -> False
  lr : ∀ {X : Cx} {pins : List (Addr × Obj)} {σ : St} {H : Hp} {s : Shared} {x y : V} {v u : Value} {a : α} {b : β} {A : Around}, Inv X pins σ H s -> Yi x v -> Yi y u -> r X.K H x a -> q X.K H y b -> A.units + d < cLine -> SeqAt.EqAt A s v u false /\ SeqAt.RcAt A s v u false /\ SeqAt.RcNeAt A s v u true
  rl : ∀ {X : Cx} {pins : List (Addr × Obj)} {σ : St} {H : Hp} {s : Shared} {x y : V} {v u : Value} {a : α} {b : β} {A : Around}, Inv X pins σ H s -> Yi x v -> Yi y u -> q X.K H x b -> r X.K H y a -> A.units + d < cLine -> SeqAt.EqAt A s v u false /\ SeqAt.RcAt A s v u false /\ SeqAt.RcNeAt A s v u true
theorem Lk [DecidableEq α] [DecidableEq β] {r : Enc α} {q : Enc β} {d : Nat} [m : MonoE r] [n : MonoE q] (E : EqOk r d) (F : EqOk q d) (c : Crs r q d) : EqOk (rEi r q) d where
  uniq:=fun {X pins σ H s x a b} I h1 h2=>by
    cases a with
    | inl a=>cases b with
      | inl b=>rw [E.uniq I h1 h2]
      | inr b=>exact (c.no I h1 h2).elim
    | inr a=>cases b with
      | inl b=>exact (c.no I h2 h1).elim
      | inr b=>rw [F.uniq I h1 h2]
  eq:=fun {X pins σ H s x y v u a b A} I rx ry h1 h2 hu=>by
    cases a with
    | inl a=>cases b with
      | inl b=>have:=E.eq I rx ry h1 h2 hu; simpa using this
      | inr b=>have:=(c.lr I rx ry h1 h2 hu).1; simpa using this
    | inr a=>cases b with
      | inl b=>have:=(c.rl I rx ry h1 h2 hu).1; simpa using this
      | inr b=>have:=F.eq I rx ry h1 h2 hu; simpa using this
  rc:=fun {X pins σ H s x y v u a b A} I rx ry h1 h2 hu=>by
    cases a with
    | inl a=>cases b with
      | inl b=>have:=E.rc I rx ry h1 h2 hu; simpa using this
      | inr b=>have:=(c.lr I rx ry h1 h2 hu).2.1; simpa using this
    | inr a=>cases b with
      | inl b=>have:=(c.rl I rx ry h1 h2 hu).2.1; simpa using this
      | inr b=>have:=F.rc I rx ry h1 h2 hu; simpa using this
  ne:=fun {X pins σ H s x y v u a b A} I rx ry h1 h2 hu=>by
    cases a with
    | inl a=>cases b with
      | inl b=>have:=E.ne I rx ry h1 h2 hu; simpa using this
      | inr b=>have:=(c.lr I rx ry h1 h2 hu).2.2; simpa using this
    | inr a=>cases b with
      | inl b=>have:=(c.rl I rx ry h1 h2 hu).2.2; simpa using this
      | inr b=>have:=F.ne I rx ry h1 h2 hu; simpa using this
  keep:=λs q=>MonoE.mono s q
theorem BT {x y z : V} {its : List Value} (h : Ym [x, y, z] its) : ∃ u1 u2 u3, its = [u1, u2, u3] /\ Yi x u1 /\ Yi y u2 /\ Yi z u3:=by
  cases h with
  | cons a t=>
    obtain ⟨u, v, rfl, b, c⟩:=Ym.two t
    exact ⟨_, u, v, rfl, a, b, c⟩
theorem HQ {a b : Str} : (a == b) = decide (a = b):=by rw [Bool.eq_iff_iff]; simp
theorem Iu : EqOk Ql 0 where
  uniq:=λ_ h1 h2=>by
    have h1' : _ = V.str _:=h1
    have h2' : _ = V.str _:=h2
    rw [h1'] at h2'; injection h2'
  eq:=fun {X pins σ H s x y v u a b A} I rx ry h1 h2 _=>by
    have h1' : x = V.str a:=h1
    have h2' : y = V.str b:=h2
    subst h1' h2'
    obtain ⟨t, rfl⟩:=rx
    obtain ⟨t', rfl⟩:=ry
    rw [← HQ]; exact SeqAt.EqAt.str_str a t b t'
  rc:=fun {X pins σ H s x y v u a b A} I rx ry h1 h2 _=>by
    have h1' : x = V.str a:=h1
    have h2' : y = V.str b:=h2
    subst h1' h2'
    obtain ⟨t, rfl⟩:=rx
    obtain ⟨t', rfl⟩:=ry
    rw [← HQ]; exact SeqAt.RcAt.str_str a t b t'
  ne:=fun {X pins σ H s x y v u a b A} I rx ry h1 h2 _=>by
    have h1' : x = V.str a:=h1
    have h2' : y = V.str b:=h2
    subst h1' h2'
    obtain ⟨t, rfl⟩:=rx
    obtain ⟨t', rfl⟩:=ry
    rw [← HQ]; exact SeqAt.RcNeAt.str_str a t b t'
  keep:=λ_ h=>h
theorem E9 {a b : Bool} : (a == b) = decide (a = b):=by rw [Bool.eq_iff_iff]; simp
theorem B7 : EqOk Xr 0 where
  uniq:=λ_ h1 h2=>by
    have h1' : _ = V.bl _:=h1
    have h2' : _ = V.bl _:=h2
    rw [h1'] at h2'; injection h2'
  eq:=fun {X pins σ H s x y v u a b A} I rx ry h1 h2 _=>by
    have h1' : x = V.bl a:=h1
    have h2' : y = V.bl b:=h2
    subst h1' h2'
    cases rx; cases ry
    rw [← E9]; exact SeqAt.EqAt.bool_bool a b
  rc:=fun {X pins σ H s x y v u a b A} I rx ry h1 h2 _=>by
    have h1' : x = V.bl a:=h1
    have h2' : y = V.bl b:=h2
    subst h1' h2'
    cases rx; cases ry
    rw [← E9]; exact SeqAt.RcAt.bool_bool a b
  ne:=fun {X pins σ H s x y v u a b A} I rx ry h1 h2 _=>by
    have h1' : x = V.bl a:=h1
    have h2' : y = V.bl b:=h2
    subst h1' h2'
    cases rx; cases ry
    rw [← E9]; exact SeqAt.RcNeAt.bool_bool a b
  keep:=λ_ h=>h
theorem Mr [DecidableEq α] [DecidableEq β] [DecidableEq γ] {r : Enc α} {q : Enc β} {t : Enc γ} {d : Nat} [m : MonoE r] [n : MonoE q] [k : MonoE t] (E : EqOk r d) (F : EqOk q d) (G : EqOk t d) : EqOk (rP3 r q t) (d + 1):=by
  have un : ∀ {X : Cx} {pins : List (Addr × Obj)} {σ : St} {H : Hp} {s : Shared} {x : V} {a b : α × β × γ}, Inv X pins σ H s -> rP3 r q t X.K H x a -> rP3 r q t X.K H x b -> a = b:=by
    rintro X pins σ H s x ⟨a1, a2, a3⟩ ⟨b1, b2, b3⟩ I ⟨a, x1, x2, x3, rfl, q1, p1, p2, p3⟩ ⟨b, y1, y2, y3, e, q2, p4, p5, p6⟩
    cases e
    cases I.tuple_inj (SqT.of q1) (SqT.of q2)
    rw [show a1 = b1 from E.uniq I p1 p4, show a2 = b2 from F.uniq I p2 p5, show a3 = b3 from G.uniq I p3 p6]
  have both : ∀ {X : Cx} {pins : List (Addr × Obj)} {σ : St} {H : Hp} {s : Shared} {x y : V} {v u : Value} {a b : α × β × γ} {A : Around}, Inv X pins σ H s -> Yi x v -> Yi y u -> rP3 r q t X.K H x a -> rP3 r q t X.K H y b -> A.units + (d + 1) < cLine -> SeqAt.RcAt A s v u (decide (a = b)) /\ SeqAt.RcNeAt A s v u (!decide (a = b)):=by
    rintro X pins σ H s x y v u ⟨a1, a2, a3⟩ ⟨b1, b2, b3⟩ A I rx ry ⟨a, x1, x2, x3, rfl, q1, p1, p2, p3⟩ ⟨b, y1, y2, y3, rfl, q2, p4, p5, p6⟩ hu
    cases rx; cases ry
    obtain ⟨i1, z1, l1, _⟩:=I.tuple (SqT.of q1)
    obtain ⟨i2, z2, l2, _⟩:=I.tuple (SqT.of q2)
    obtain ⟨u1, u2, u3, rfl, e1, e2, e3⟩:=BT z1
    obtain ⟨w1, w2, w3, rfl, g1, g2, g3⟩:=BT z2
    have it : ∀ j (h1 : j < [u1, u2, u3].toArray.size) (h2 : j < [w1, w2, w3].toArray.size), SeqAt.EqAt A.in1 s [u1, u2, u3].toArray[j] [w1, w2, w3].toArray[j] ((λj=>if j = 0 then decide (a1 = b1) else if j = 1 then decide (a2 = b2) else decide (a3 = b3)) j):=by
      intro j h1 h2
      have hj : j = 0 ∨ j = 1 ∨ j = 2:=by
        have h1' : j < 3:=h1
        lia
      rcases hj with rfl | rfl | rfl
      . exact E.eq (A:=A.in1) I e1 g1 p1 p4 (by rw [Zb]; lia)
      . exact F.eq (A:=A.in1) I e2 g2 p2 p5 (by rw [Zb]; lia)
      . exact G.eq (A:=A.in1) I e3 g3 p3 p6 (by rw [Zb]; lia)
    have R:=SeqAt.RcAt.tuples (A:=A) l1 l2 (by lia) it
    have N:=SeqAt.RcNeAt.tuples (A:=A) l1 l2 (by lia) it
    have ed : decide ((a1, a2, a3) = (b1, b2, b3)) = (decide (a1 = b1) && (decide (a2 = b2) && decide (a3 = b3))):=by rw [Bool.eq_iff_iff]; simp
    rw [ed]
    exact ⟨by simpa [List.range_succ, Bool.and_assoc] using R, by simpa [List.range_succ, Bool.and_assoc, Bool.not_and] using N⟩
  refine ⟨un, ?_, λI rx ry h1 h2 hu=>(both I rx ry h1 h2 hu).1, λI rx ry h1 h2 hu=>(both I rx ry h1 h2 hu).2, λs q=>MonoE.mono s q⟩
  intro X pins σ H s x y v u as bs A I rx ry h1 h2 hu
  have R:=(both (A:=A) I rx ry h1 h2 hu).1
  obtain ⟨a, x1, x2, x3, rfl, q1, _⟩:=id h1
  obtain ⟨b, y1, y2, y3, rfl, q2, _⟩:=id h2
  cases rx; cases ry
  by_cases e : a = b
  . subst e
    rw [decide_eq_true (un I h1 h2)]
    exact SeqAt.EqAt.same _
  . exact SeqAt.EqAt.of_refs e R
end
section
variable {K : PySem.W.Frag} {Er : Exc -> Hp -> Prop} {S : SC} {OO OO' OO1 OO2 : List (List XG)} {σ : St} {α β γ ρ ι δ ε ζ : Type}
variable {Fd : Ends -> β -> Hp -> Prop} [fd : FdOk Fd] {u : TS}
theorem Hf {te : TE} {o : Enc α} {p : Enc γ} {m : Rs α} (he : Ev K Er S OO OO' σ te (oF o) m) : Ev K Er S OO OO' σ te (oF (rEi o p)) (m.bind λa=>.ok (.inl a)):=λH Q w s P=>by
  refine he H Q w s ?_
  cases m with
  | bad=>exact P
  | err x=>exact P
  | ok a=>exact λv C H' s' w' m' ho=>P v C H' s' w' m' ho
theorem HK {te : TE} {o : Enc α} {p : Enc γ} {m : Rs γ} (he : Ev K Er S OO OO' σ te (oF p) m) : Ev K Er S OO OO' σ te (oF (rEi o p)) (m.bind λa=>.ok (.inr a)):=λH Q w s P=>by
  refine he H Q w s ?_
  cases m with
  | bad=>exact P
  | err x=>exact P
  | ok a=>exact λv C H' s' w' m' ho=>P v C H' s' w' m' ho
theorem DN {te : TE} {o : Enc α} {p : Enc γ} {m : Rs α} (he : EvB K Er S OO σ te o m) : EvB K Er S OO σ te (rEi o p) (m.bind λa=>.ok (.inl a)):=λH Q w s P=>by
  refine he H Q w s ?_
  cases m with
  | bad=>exact P
  | err x=>exact P
  | ok a=>exact λv H' s' ho=>P v H' s' ho
theorem Hm {te : TE} {o : Enc α} {p : Enc γ} {m : Rs γ} (he : EvB K Er S OO σ te p m) : EvB K Er S OO σ te (rEi o p) (m.bind λa=>.ok (.inr a)):=λH Q w s P=>by
  refine he H Q w s ?_
  cases m with
  | bad=>exact P
  | err x=>exact P
  | ok a=>exact λv H' s' ho=>P v H' s' ho
end
end L2
namespace L2
theorem JE {α : Type} {us : List α} (h : us.length = 1) : ∃ a, us = [a]:=List.length_eq_one_iff.mp h
theorem VL {α : Type} {us : List α} (h : us.length = 2) : ∃ a0 a1, us = [a0, a1]:=by
  cases us with
  | nil=>cases h
  | cons a0 t=>
    obtain ⟨a1, rfl⟩:=JE (Nat.succ.inj h)
    exact ⟨a0, a1, rfl⟩
theorem Uy {α : Type} {us : List α} (h : us.length = 3) : ∃ a0 a1 a2, us = [a0, a1, a2]:=by
  cases us with
  | nil=>cases h
  | cons a0 t=>
    obtain ⟨a1, a2, rfl⟩:=VL (Nat.succ.inj h)
    exact ⟨a0, a1, a2, rfl⟩
theorem FN {α : Type} {us : List α} (h : us.length = 4) : ∃ a0 a1 a2 a3, us = [a0, a1, a2, a3]:=by
  cases us with
  | nil=>cases h
  | cons a0 t=>
    obtain ⟨a1, a2, a3, rfl⟩:=Uy (Nat.succ.inj h)
    exact ⟨a0, a1, a2, a3, rfl⟩
end L2
namespace L2
open PySem PySem.Spec PyProof.Rows
section
variable {prog : Program} {w : World} {A : Around} {E : Value -> Shared -> Prop}
end
section
variable {X : Cx} {pos : Pos}
end
section
variable {K : PySem.W.Frag} {Er : Exc -> Hp -> Prop} {S : SC} {OO OO' OO1 OO2 : List (List XG)} {σ : St} {α β γ ρ ι δ ε ζ : Type}
variable {Fd : Ends -> β -> Hp -> Prop} [fd : FdOk Fd] {u : TS}
end
section
variable {X : Cx}
noncomputable def ipM : TIp:=λx y H Q=>∃ i j, x = .int i /\ y = .int j /\ Lz i j /\ Q (.int (i * j)) H
theorem IY : PIp X .Mult ipM:=by
  intro pins s σ H x y v u Q I r1 r2 h
  obtain ⟨i, j, e1, e2, hc, q⟩:=h
  subst e1; subst e2
  obtain ⟨t, rfl⟩:=r1
  obtain ⟨t', rfl⟩:=r2
  exact PySem.AutoIntOps.imul_0 ⟨.int _, H, I.tok _, ⟨_, rfl⟩, q⟩ hc.ok
end
section
variable {K : PySem.W.Frag} {Er : Exc -> Hp -> Prop} {S : SC} {OO OO' OO1 OO2 : List (List XG)} {σ : St} {α β γ ρ ι δ ε ζ : Type}
variable {Fd : Ends -> β -> Hp -> Prop} [fd : FdOk Fd] {u : TS}
theorem HE {te : TE} {m : Rs Int} {f : Int -> Rs β} {v : V} {a : Int} (i : Nat) (hσ : σ[i]? = some (some v)) (h : ∀ x, S.p x -> Xa K x v a) (he : EvB K Er S OO σ te Xa m)
    (hr : ∀ b v, Sv Er (S.add K Xa v b) OO (σ.set i (some v)) u Fd (f b)) : Sv Er S OO σ (Jg (LY i te ipM) u) Fd (m.bind λb=>(Z5 a b).bind f):=λH D w s P=>
  ⟨v, hσ, he.st w s P λb y H1 s1 w1 q1 r1 P1=>by
    cases e : Z5 a b with
    | bad=>rw [e] at P1; exact P1.elim
    | err x=>exact absurd e Qk
    | ok c=>
      rw [e] at P1
      obtain ⟨h1, h2⟩:=Zn e
      cases h2
      exact ⟨a, b, h _ s, r1, h1, hr _ _ H1 D w1 ⟨q1, rfl⟩ P1⟩⟩
end
set_option maxRecDepth 100000
section
variable {prog : Program} {w : World} {A : Around} {E : Value -> Shared -> Prop} {s : Shared}
theorem Gm : typeLookup (.type "list") "keys" = pure none:=by rw [typeLookup_type, builtinLookup_eq_fast]; kernel_rfl
theorem Eb {a : Addr} {o : Obj} {xs : Array Value} {k : Nat} {R : Option Value -> Shared -> Prop} (hx : s.heap.get? a = some o) (hc : o.cls = .type "list") (hdat : o.data = .seq xs k) (hd : o.dict = none) (hA : A.handled = none)
    (h : ∀ g tk, (∀ b u, s.heap.get? b = some u -> g.get? b = some u) -> R none { s with heap:=g, toks:=tk }) : wpAny (model prog w) A (getAttr? (.ref a) "keys") R E s:=by
  obtain ⟨c, dct, dat, sl⟩:=o
  simp only at hc hdat hd
  subst hc hdat hd
  obtain ⟨hp, g, d, tk, os⟩:=s
  have hT : ∀ tk', (⟨hp, g, d, tk', os⟩ : Shared).TypeIs (.ref a) "list":=λ_=>⟨_, hx, rfl⟩
  have f1:=sub_AttributeError
  have f3:=F.slot_list_getattribute.lookup
  have f4:=F.slot_list_getattribute.bind (.ref a)
  have f5:=am_list_getattr_none
  unfold getAttr? getAttrBy? getAttrBy
  repeat (any_goals (first
    | assumption
    | exact hT _
    | ((with_reducible show wpAny _ _ (call (Value.builtin "list.__getattribute__") _ _) _ _ _)
       refine call_meets F.slot_list_getattribute (hT _) am_entry_list_getattribute (F.args_list_getattribute_2 _ _) (meets_getattribute_miss_list a xs k sl "keys" _ Gm (by decide +kernel)) ⟨hx, hA, λh' tk' e hx'=>?_⟩)
    | wp_step))
  obtain ⟨t', u', he⟩:=hx'.there
  show wpAny _ _ (getattributeRaised _ _ _ _ _ _ _) _ _ _
  unfold getattributeRaised
  repeat (any_goals (first | wp_step | assumption))
  exact h _ _ hx'.keeps
theorem ZQ : plainId "dict.update.loop" = true:=by decide +kernel
theorem Vo : entryFor table "dict.update.loop" = some Builtin.«dict.update.loop»:=entryFor_of_fast (by kernel_rfl)
end
section
variable {prog : Program} {w : World} {A : Around} {R : Result -> Shared -> Prop} {K : Type} [DecidableEq K] {knd : KeyKind prog w K}
noncomputable def Hl (knd : KeyKind prog w K) (h : Heap) (its : Array Value) (kv : List (K × Value)) : Prop:=its.size = kv.length /\ ∀ (j : Nat) (x : Value) (p : K × Value), its[j]? = some x -> kv[j]? = some p -> ∃ t key, x = .ref t /\ h.IsTuple t #[key, p.2] /\ knd.is p.1 key = true
noncomputable def V6 (acc kv : List (K × Value)) : List (K × Value):=kv.foldl (λa p=>stored a p.1 p.2) acc
theorem Fe (acc : List (K × Value)) (k : K) (v : Value) : (stored acc k v).length <= acc.length + 1:=by
  unfold stored
  split
  . simp
  . simp
theorem UZ {h : Heap} {t I l : Addr} {i : Nat} {xs : Array Value} (ht : h.IsTuple t xs) (it : h.IsListIter I l i) : t ≠ I:=λe=>by
  subst e
  obtain ⟨o, ho, hc, _⟩:=ht
  obtain ⟨o', ho', hc', _⟩:=it
  rw [ho] at ho'
  cases ho'
  rw [hc] at hc'
  exact absurd hc' (by decide)
theorem Cw {h : Heap} {t d : Addr} {xs : Array Value} {acc : List (K × Value)} (ht : h.IsTuple t xs) (hd : h.DictOf knd d acc) : t ≠ d:=λe=>by
  subst e
  obtain ⟨o, ho, hc, _⟩:=ht
  obtain ⟨o', _, _, ho', hc', _⟩:=hd
  rw [ho] at ho'
  cases ho'
  have:=hc'.1
  rw [hc] at this
  exact absurd this (by decide)
theorem Me (hh : A.in1.handled = none) {d I l : Addr} (hdI : d ≠ I) (hlI : l ≠ I) (hld : l ≠ d) {its : Array Value} {kv : List (K × Value)} :
    ∀ (k i : Nat) (s : Shared) (acc : List (K × Value)), its.size - i = k -> i <= its.size -> s.heap.IsListIter I l i -> s.heap.IsList l its -> Hl knd s.heap its kv -> s.heap.DictOf knd d acc -> acc.length + its.size <= sizeLine + i ->
    (∀ g tk, g.DictOf knd d (V6 acc (kv.drop i)) -> (∀ b o, b ≠ I -> b ≠ d -> s.heap.get? b = some o -> g.get? b = some o) -> R (.ok (.ret .none)) { s with heap:=g, toks:=tk }) ->
    codeAny (model prog w) A (.builtin "dict.update.loop" ⟨[.ref d, .ref I, rawInt i, .none], []⟩) R s:=by
  intro k
  induction k with
  | zero=>
    intro i s acc hk hi it hl hp hd hz r
    refine codeAny_builtin Vo ?_
    rw [Around.under_plainId ZQ _]
    show wpAny _ A.in1 (pyNext (.ref I) >>= _) _ _ s
    refine wpAny_bind (wpAny_pyNext_list_end hh it hl (by simp; lia) λg hx=>?_)
    show wpAny _ _ (Builtin.Dict.addKeywords d [] >>= λ_=>ret Value.none) _ _ _
    refine wpAny_bind (wpAny_pure (wpAny_pure (r g s.toks ?_ λb o hb _ e=>hx b o hb e)))
    have e : kv.drop i = []:=List.drop_eq_nil_of_le (by have:=hp.1; lia)
    rw [e]
    exact hd.extBut hx hdI
  | succ k ih=>
    intro i s acc hk hi it hl hp hd hz r
    have lt : i < its.size:=by lia
    refine codeAny_builtin Vo ?_
    rw [Around.under_plainId ZQ _]
    show wpAny _ A.in1 (pyNext (.ref I) >>= _) _ _ s
    refine wpAny_bind (wpAny_pyNext_list_item it hl (x:=its[i]) (by simp [lt]) λg it' hx=>?_)
    have lt2 : i < kv.length:=by have:=hp.1; lia
    obtain ⟨t, key, et, ht, hkey⟩:=hp.2 i its[i] kv[i] (by simp [lt]) (by simp [lt2])
    have htI : t ≠ I:=UZ ht it
    have ht1 : g.IsTuple t #[key, kv[i].2]:=ht.extBut hx.extBut htI
    obtain ⟨o, ho, hc, n, hdt⟩:=id ht1
    rw [et]
    show wpAny _ _ (holding [Value.ref t] _ >>= λ_=>again (.builtin "dict.update.loop" ⟨[.ref d, .ref I, rawInt ((i : Int) + 1), .none], []⟩)) _ _ _
    refine wpAny_bind (wpAny_holding ?_)
    refine wpAny_bind (wpAny_tryCatch ?_)
    unfold Builtin.Dict.pairItems
    refine wpAny_bind (wpAny_typeOf (s:={ s with heap:=g }) ⟨o, ho, hc⟩ ?_)
    rw [if_pos (by decide)]
    refine wpAny_bind (wpAny_seqItems (s:={ s with heap:=g }) ho hdt (wpAny_pure ?_))
    show wpAny _ _ (holding [key, kv[i].2] (dictSet d key kv[i].2)) _ _ _
    refine wpAny_holding (wpAny_dictSet_pairs (s:={ s with heap:=g }) hkey (hd.extBut hx.extBut hdI) (λg2 hd2 hx2=>?_) (by lia))
    refine wpAny_pure ⟨plainId_quiet ZQ _, ?_⟩
    have hne : ∀ {b : Addr} {u : Obj}, s.heap.get? b = some u -> b ≠ I -> b ≠ d -> g2.get? b = some u:=fun {b u} e h1 h2=>(hx2.2 b h2).trans (hx.extBut b u h1 e)
    refine ih (i + 1) { s with heap:=g2, toks:=s.toks + 1 } (stored acc kv[i].1 kv[i].2) (by lia) (by lia) ?_ ?_ ?_ hd2 ?_ ?_
    . exact it'.extBut hx2.extBut (λe=>hdI e.symm)
    . exact (hl.extBut hx.extBut hlI).extBut hx2.extBut hld
    . refine ⟨hp.1, λj x p h1 h2 => ?_⟩
      obtain ⟨t2, key2, e2, ht2, hk2⟩:=hp.2 j x p h1 h2
      exact ⟨t2, key2, e2, (ht2.extBut hx.extBut (UZ ht2 it)).extBut hx2.extBut (Cw ht2 hd), hk2⟩
    . have := Fe acc kv[i].1 kv[i].2
      lia
    . intro g3 tk hd3 kp
      refine r g3 tk ?_ λb o h1 h2 e=>kp b o h1 h2 (hne e h1 h2)
      rw [List.drop_eq_getElem_cons lt2]
      exact hd3
theorem Fh (hh : A.handled = none) {E : Value -> Shared -> Prop} {s : Shared} {l : Addr} {o : Obj} {n : Nat} {its : Array Value} {kv : List (K × Value)} {Q : Value -> Shared -> Prop} (hx : s.heap.get? l = some o) (hc : o.cls = .type "list") (hdat : o.data = .seq its n) (hd : o.dict = none) (hp : Hl knd s.heap its kv) (hz : its.size <= sizeLine)
    (r : ∀ g tk, g.DictOf knd s.heap.objs.size (V6 [] kv) -> (∀ b u, s.heap.get? b = some u -> g.get? b = some u) -> Q (.ref s.heap.objs.size) { s with heap:=g, toks:=tk }) : wpAny (model prog w) A (call (.type "dict") [.ref l]) Q E s:=by
  refine callType_codes (Q₁:=λobj s₁=>obj = .ref s.heap.objs.size /\ s₁ = { s with heap:=s.heap.push { cls:=.type "dict", data:=.dict #[] } }) F.kt_called_dict (F.kt_typeCall_dict_1 _) F.entry_dict_init (kt_code_dict_new _ ⟨rfl, rfl⟩) ?_
  rintro obj s₁ ⟨rfl, rfl⟩
  have hnew : (s.heap.push { cls:=.type "dict", data:=.dict #[] }).DictOf knd s.heap.objs.size []:=Heap.DictOf.new s.heap
  have hx1 : (s.heap.push { cls:=.type "dict", data:=.dict #[] }).get? l = some o:=Heap.get?_push_of_some _ hx
  refine ⟨hnew.typeIs, F.args_dict_init_2 _ _, ?_⟩
  unfold Builtin.«dict.__init__»
  refine wpAny_bind ?_
  unfold Builtin.Dict.selfAndRest
  refine wpAny_bind (wpAny_notOrdered_dict hnew.typeIs ?_)
  show wpAny _ _ (pure (s.heap.objs.size, [Value.ref l])) _ _ _
  refine wpAny_pure ?_
  show wpAny _ _ (Builtin.Dict.updateFrom "dict.__init__" s.heap.objs.size (.ref l) [] .none) _ _ _
  unfold Builtin.Dict.updateFrom
  refine wpAny_bind (wpAny_typeOf ⟨o, hx1, hc⟩ ?_)
  rw [if_pos (by decide)]
  refine wpAny_bind (Eb hx1 hc hdat hd hh λg tk kp=>?_)
  rw [if_pos (show (none : Option Value).isNone = true from rfl)]
  refine wpAny_bind (wpAny_rule ?_)
  have hlg : g.IsList l its:=⟨o, kp _ _ hx1, hc, n, hdat⟩
  have hdg : g.DictOf knd s.heap.objs.size []:=by
    obtain ⟨o', es, ep, ho, q⟩:=hnew
    exact ⟨o', es, ep, kp _ _ ho, q⟩
  have hdlt : s.heap.objs.size < g.objs.size:=by
    obtain ⟨o', es, ep, ho, q⟩:=hdg
    exact Heap.lt_size ho
  have hllt : l < s.heap.objs.size:=Heap.lt_size hx
  refine wpAny_bind (wpAny_pyIter_list (s:={ s with heap:=g, toks:=tk }) hlg ?_)
  refine wpAny_pure ⟨plainId_quiet ZQ _, ?_⟩
  refine Me (A:=A.in1) (show A.in1.in1.handled = none from hh) (d:=s.heap.objs.size) (I:=g.objs.size) (l:=l) (its:=its) (kv:=kv) (Nat.ne_of_lt hdlt) (Nat.ne_of_lt (Nat.lt_trans hllt hdlt)) (Nat.ne_of_lt hllt) its.size 0 _ [] rfl (Nat.zero_le _) ⟨_, Heap.get?_push_size _ rfl, rfl, rfl⟩ (hlg.push _) ?_ (hdg.push _) (by simpa using hz) ?_
  . refine ⟨hp.1, λj x p h1 h2 => ?_⟩
    obtain ⟨t2, key2, e2, ⟨ot, hot, q⟩, hk2⟩:=hp.2 j x p h1 h2
    exact ⟨t2, key2, e2, ⟨ot, Heap.get?_push_of_some _ (kp _ _ (Heap.get?_push_of_some _ hot)), q⟩, hk2⟩
  . intro g2 tk2 hd2 kp2
    refine ⟨rfl, r g2 tk2 hd2 λb u e=>?_⟩
    have hb:=Heap.lt_size e
    exact kp2 b u (Nat.ne_of_lt (Nat.lt_trans hb hdlt)) (Nat.ne_of_lt hb) (Heap.get?_push_of_some _ (kp _ _ (Heap.get?_push_of_some _ e)))
end
section
variable {X : Cx}
noncomputable def Q2 (acc kvs : List (Key × V)) : List (Key × V):=kvs.foldl (λa p=>VM a p.1 p.2) acc
theorem BG (kvs : List (Key × V)) (k : Key) (v : V) : (VM kvs k v).length <= kvs.length + 1:=by
  unfold VM
  split <;> simp
theorem VW : ∀ (kvs acc : List (Key × V)), (Q2 acc kvs).length <= acc.length + kvs.length
  | [], acc=>by simp [Q2]
  | p :: kvs, acc=>by
    have h1:=VW kvs (VM acc p.1 p.2)
    have h2:=BG acc p.1 p.2
    show (Q2 (VM acc p.1 p.2) kvs).length <= _
    rw [List.length_cons]
    lia
theorem KV.all {kvs : List (Key × V)} {vs : List (Key × Value)} (t : KV kvs vs) : ∀ {acc : List (Key × V)} {acc' : List (Key × Value)}, KV acc acc' -> KV (Q2 acc kvs) (V6 acc' vs):=by
  induction t with
  | nil=>intro acc acc' h; exact h
  | @cons p q kvs vs r _ ih=>
    intro acc acc' h
    have h2:=h.put p.1 r.2
    have e : stored acc' p.1 q.2 = stored acc' q.1 q.2:=by rw [r.1]
    rw [e] at h2
    exact ih h2
noncomputable def Es (K : PySem.W.Frag) : List V -> Hp -> VK -> Prop:=λxs H Q=>∃ l ps kvs, xs = [.ref l] /\ SqL K H l ps /\ Paired (λp (kv : Key × V)=>∃ t, p = .ref t /\ SqT K H t [kV kv.1, kv.2]) ps kvs /\ ∀ d, H d = none -> Q (.ref d) (upd H d (.dK (Q2 [] kvs)))
theorem LC {pins : List (Addr × Obj)} {σ : St} {H : Hp} {s : Shared} (I : Inv X pins σ H s) : ∀ {ps : List V} {kvs : List (Key × V)} {its : List Value}, Paired (λp (kv : Key × V)=>∃ t, p = .ref t /\ SqT X.K H t [kV kv.1, kv.2]) ps kvs -> Ym ps its -> ∃ kv, KV kvs kv /\ Hl (Yy X.prog X.w) s.heap its.toArray kv:=fun {ps kvs its} p=>by
  induction p generalizing its with
  | nil=>
    intro v
    cases v
    exact ⟨[], .nil, rfl, λj x p h=>by simp at h⟩
  | @cons _ b _ _ r _ ih=>
    intro v
    cases v with
    | cons rv v=>
      obtain ⟨kv, h1, h2, h3⟩:=ih v
      obtain ⟨t, rfl, ht⟩:=r
      cases rv
      obtain ⟨i2, v2, tp, _⟩:=I.tuple ht
      obtain ⟨key, val, rfl, e1, e2⟩:=Ym.two v2
      refine ⟨(b.1, val) :: kv, .cons ⟨rfl, e2⟩ h1, by simpa using h2, λj x p hj hp=>?_⟩
      cases j with
      | zero=>
        simp at hj hp
        subst hj hp
        exact ⟨t, key, rfl, tp, Ba e1⟩
      | succ j=>exact h3 j x p (by simpa using hj) (by simpa using hp)
theorem Ky (K : PySem.W.Frag) (hK : X.K = K) (hc : X.calm = true) : Jc X (.type "dict") (Es K):=by
  subst hK
  intro pins s σ H xs us Q I r h
  obtain ⟨l, ps, kvs, rfl, hq, hp, q⟩:=h
  obtain ⟨u, rfl, ru⟩:=CH r
  cases ru
  obtain ⟨its, rv, ⟨o, n, ho, hcl, hdn, hdat⟩, hz⟩:=I.list hq
  obtain ⟨kv, h1, h2⟩:=LC I hp rv
  have hlen:=rv.length
  have hl2:=Paired.len hp
  refine Fh (knd:=Yy X.prog X.w) (I.ok.hd hc) ho hcl hdat hdn h2 (by simpa [← hlen] using hz) λg tk hd kp=>?_
  refine ⟨.ref s.heap.objs.size, _, I.laid (t':=tk) kp (Nat.le_refl _) (show YJ X.prog X.w _ g _ (.dK (Q2 [] kvs)) from ⟨Nat.le_trans (VW kvs []) (by simp; lia), beq_eq_false_iff_ne.mpr (Ne.symm (Nat.ne_of_lt I.big)), _, KV.all h1 .nil, hd⟩), rfl, q _ (I.hok.fresh (Nat.le_refl _))⟩
end
section
variable {X : Cx} {pins : List (Addr × Obj)} {σ : St} {H : Hp} {s : Shared} {d : Addr} {o : Obj} {kvs : List (Key × V)}
theorem CL {k : Key} {u : Value} (h : UC k u = true) : Yi (kV k) u:=by
  cases k with
  | inl n=>
    cases u <;> simp [UC, Value.isInt] at h
    subst h
    exact ⟨_, rfl⟩
  | inr x=>
    cases u <;> simp [UC, Value.isStrOf] at h
    subst h
    exact ⟨_, rfl⟩
theorem Inv.freeze (I : Inv X pins σ H s) (e : H d = some (.dK kvs)) (ho : s.heap.get? d = some o) : Inv X pins σ (upd H d (.frz o (.dK kvs))) s:=by
  have x:=(show YJ X.prog X.w H s.heap d (.dK kvs) from I.hok d _ e)
  exact I.write (t':=s.toks) (x:=d) (e:=d) (h':=s.heap) (by rw [e]; exact True.intro) (.inl rfl) (λb u _ q=>q) ⟨o, ho⟩ ⟨ho, x⟩
theorem Inv.thaw (I : Inv X pins σ H s) (e : H d = some (.frz o (.dK kvs))) (n : ∀ o u, X.H₀ d ≠ some (.frz o u)) : Inv X pins σ (upd H d (.dK kvs)) s:=by
  have ne : ∀ {b : Addr}, H b = none -> b ≠ d:=fun {b} h z=>by rw [z, e] at h; cases h
  refine ⟨I.ok, I.os, I.bare, ⟨I.base.keep, I.base.slot, λb ob q nn hx=>?_, I.base.there, λb xs q=>?_, λb ob u q=>?_, λb ps q=>?_⟩, I.loc, I.cell, ?_, λx c h=>?_, λp hp=>?_, λb u q=>?_, I.len⟩
  . have h := I.base.free b ob q nn hx
    rw [Xv (ne h)]; exact h
  . have h := I.base.tups b xs q
    rw [Xv (Cj h e (λz=>nomatch z))]; exact h
  . have h := I.base.frzs b ob u q
    by_cases z : b = d
    . subst z; exact absurd q (n ob u)
    . rw [Xv z]; exact h
  . obtain ⟨more, h⟩ := I.base.tbls b ps q
    exact ⟨more, by rw [Xv (Cj h e (λz=>nomatch z))]; exact h⟩
  . rw [Xv (ne I.free)]; exact I.free
  . rw [Xv (ne (I.freeC x c h))]; exact I.freeC x c h
  . obtain ⟨h1, h2, h3⟩ := I.pin p hp
    exact ⟨h1, by rw [Xv (ne h2)]; exact h2, h3⟩
  . by_cases z : b = d
    . subst z
      rw [Yv] at q
      cases q
      obtain ⟨_, h⟩:=(show YJ X.prog X.w H s.heap b (.frz o (.dK kvs)) from I.hok b _ e)
      exact h
    . rw [Xv z] at q
      exact (I.hok b u q).stay (λ_ _ _ r=>r) (λc r=>by rw [Xv (Cj r e (λz=>nomatch z))]; exact r) λc xs r=>by rw [Xv (Cj r e (λz=>nomatch z))]; exact r
noncomputable def tFz (i : Nat) (t : TE) : TE:=λσ H Q=>∃ d kvs, σ[i]? = some (some (.ref d)) /\ H d = some (.dK kvs) /\ ∀ o, t σ (upd H d (.frz o (.dK kvs))) λv H'=>H' d = some (.frz o (.dK kvs)) /\ Q v (upd H' d (.dK kvs))
theorem Mh {x : Expr} {t : TE} (i : Nat) (h : PE X x t) : PE X x (tFz i t):=by
  intro pins s σ H Q I ⟨d, kvs, _, e, q⟩
  obtain ⟨_, _, vs, _, o, es, ep, ho, _⟩:=(show YJ X.prog X.w H s.heap d (.dK kvs) from I.hok d _ e)
  refine thn (h pins s σ _ _ (I.freeze e ho) (q o)) λv s1 ⟨y, H1, I1, r1, e1, q1⟩=>⟨y, _, I1.thaw e1 (λo u z=>?_), r1, q1⟩
  have:=I.base.frzs d o u z
  rw [e] at this
  cases this
theorem Inv.dictAt (I : Inv X pins σ H s) (e : H d = some (.frz o (.dK kvs))) {es : Array DictEntry} {ep : Nat} (hd : o.data = .dict es ep) : (d == sysModules) = false /\ ∃ vs, KV kvs vs /\ Heap.DictAt (Yy X.prog X.w) s.heap d vs ep:=by
  obtain ⟨h1, _, hs, vs, rel, o', es', ep', g1, g2, g3, g4⟩:=(show YJ X.prog X.w H s.heap d (.frz o (.dK kvs)) from I.hok d _ e)
  rw [h1] at g1
  cases g1
  rw [hd] at g3
  cases g3
  exact ⟨hs, vs, rel, o, es, h1, g2, hd, g4⟩
theorem KV.key {kvs : List (Key × V)} {vs : List (Key × Value)} (h : KV kvs vs) : ∀ {i : Nat} (h1 : i < kvs.length) (h2 : i < vs.length), (kvs[i]).1 = (vs[i]).1:=by
  induction h with
  | nil=>intro i h1; exact absurd h1 (Nat.not_lt_zero _)
  | cons r _ ih=>
    intro i h1 h2
    cases i with
    | zero=>exact r.1
    | succ i=>exact ih (Nat.lt_of_succ_lt_succ h1) (Nat.lt_of_succ_lt_succ h2)
end
section
variable {X : Cx}
end
section
variable {K : PySem.W.Frag} {Er : Exc -> Hp -> Prop} {S : SC} {OO OO' OO2 : List (List XG)} {σ : St} {α β γ ρ ι δ ε : Type}
variable {Fd : Ends -> β -> Hp -> Prop} [fd : FdOk Fd] {u : TS}
noncomputable def rDf {α : Type} (r : Enc α) : Enc (List (Int × α)):=λK H v d=>∃ p o kvs, v = .ref p /\ H p = some (.frz o (.dK kvs)) /\ Paired (rDP r K H) kvs d
instance {r : Enc α} [m : MonoE r] : MonoE (rDf r):=⟨λs r9=>by obtain ⟨p, o, kvs, e, q, pr⟩:=r9; exact ⟨p, o, kvs, e, s _ _ q, Paired.imp2 (λ_ _ z=>⟨z.1, m.mono s z.2⟩) pr⟩⟩
class FlatTE {α : Type} (r : Enc α) : Prop where
  flat : ∀ {K : PySem.W.Frag} {H H' : Hp} {v : V} {a : α}, (∀ b xs, H b = some (.tup xs) -> H' b = some (.tup xs)) -> r K H v a -> r K H' v a
class FlatT {α : Type} (o : OE α) : Prop where
  flat : ∀ {K : PySem.W.Frag} {H H' : Hp} {v : V} {a : α} {C : List XG}, (∀ b xs, H b = some (.tup xs) -> H' b = some (.tup xs)) -> o K H v a C -> o K H' v a C
instance : FlatTE Xa:=⟨λ_ h=>h⟩
instance : FlatTE Xr:=⟨λ_ h=>h⟩
instance {r : Enc α} [m : FlatTE r] : FlatT (oF r):=⟨λs h=>⟨h.1, m.flat s h.2⟩⟩
theorem Bn {te : TE} {o : OE α} [y : FlatT o] {r : Enc γ} [z : MonoE r] {m : Rs α} {v : V} {a : List (Int × γ)} {C : List XG} (i k : Nat) (hσ : σ[i]? = some (some v)) (hk : OO[k]? = some C) (h : ∀ x, S.p x -> oD r K x v a C) (hm : ∀ x, m ≠ .err x)
    (he : Ev K Er (S.add K (rDf r) v a) (OO.set k []) (OO.set k []) σ te o m) : Ev K Er S OO OO σ (tFz i te) o m:=λH Q w s P=>by
  obtain ⟨d, kvs, e, pr, c⟩:=h _ s
  subst c e
  have hp:=Yf hk
  have wk : W ([(d, .dK kvs)] :: OO.set k []) H:=w.of hp
  have hH : H d = some (.dK kvs):=wk.cell (d, .dK kvs) (by simp)
  have hnd : d ∉ fl (OO.set k []):=by
    have:=wk.nd
    rw [X6] at this
    exact λhb=>(List.nodup_append.mp this).2.2 d (by simp) d hb rfl
  have hin : ∀ {b : Addr}, b ∈ fl OO ↔ b = d ∨ b ∈ fl (OO.set k []):=fun {b}=>by
    rw [← QO hp b, X6]; simp
  refine ⟨d, kvs, hσ, hH, λob=>?_⟩
  have hne : ∀ {b : Addr} {x : HO}, b ∈ fl (OO.set k []) -> upd H d x b = H b:=fun {b x} hb=>Xv λq=>hnd (q ▸ hb)
  have wf : W (OO.set k []) (upd H d (.frz ob (.dK kvs))):=⟨λc hc=>by rw [hne (Jx hc)]; exact wk.tail.tr c hc, wk.tail.nd, wk.tail.mu⟩
  have hs : Xz (hid H OO) (hid (upd H d (.frz ob (.dK kvs))) (OO.set k [])):=λb x q=>by
    obtain ⟨q1, q2⟩:=X3 q
    have hb : b ≠ d:=λe=>q2 (hin.mpr (.inl e))
    exact Zq (by rw [Xv hb]; exact q1) λe=>q2 (hin.mpr (.inr e))
  have hf : hid (upd H d (.frz ob (.dK kvs))) (OO.set k []) d = some (.frz ob (.dK kvs)):=Zq Yv hnd
  refine he _ _ wf ⟨S.mono _ _ hs s, d, ob, kvs, rfl, hf, Paired.imp2 (λ_ _ q=>⟨q.1, z.mono hs q.2⟩) pr⟩ ?_
  cases em : m with
  | bad=>rw [em] at P; exact P
  | err x=>exact absurd em (hm x)
  | ok b=>
    rw [em] at P
    intro v' D H' s' w' m' ho
    obtain ⟨hd1, hd2⟩:=X3 (m' _ _ hf)
    have hne2 : ∀ {b : Addr} {x : HO}, b ∈ fl (D :: OO.set k []) -> upd H' d x b = H' b:=fun {b x} hb=>Xv λq=>hd2 (q ▸ hb)
    have w2 : W ([(d, .dK kvs)] :: D :: OO.set k []) (upd H' d (.dK kvs)):=by
      refine ⟨λc hc=>?_, ?_, λc hc=>?_⟩
      . rw [List.flatten_cons, List.mem_append] at hc
        rcases hc with hc | hc
        . have : c = (d, .dK kvs) := by simpa using hc
          rw [this]; exact Yv
        . rw [hne2 (Jx hc)]; exact w'.tr c hc
      . rw [X6]
        refine List.nodup_append.mpr ⟨by simp, w'.nd, λa ha b hb e=>?_⟩
        have : a = d:=by simpa using ha
        exact hd2 (this ▸ e ▸ hb)
      . rw [List.flatten_cons, List.mem_append] at hc
        rcases hc with hc | hc
        . have : c = (d, .dK kvs) := by simpa using hc
          rw [this]; rfl
        . exact w'.mu c hc
    have pe : (D :: OO).flatten.Perm ([(d, .dK kvs)] :: D :: OO.set k []).flatten:=by
      simp only [List.flatten_cons]
      refine List.Perm.trans (List.Perm.append_left D (by simpa using hp.symm : OO.flatten.Perm ([(d, .dK kvs)] ++ (OO.set k []).flatten))) ?_
      rw [← List.append_assoc, ← List.append_assoc]
      exact List.perm_append_comm.append_right _
    have hin2 : ∀ {b : Addr}, b ∈ fl (D :: OO) ↔ b = d ∨ b ∈ fl (D :: OO.set k []):=fun {b}=>by
      rw [QO pe b, X6]; simp
    refine ⟨hd1, P v' D _ (λb x q=>?_) (w2.of pe) (λb x q=>?_) (y.flat (λb xs q=>?_) ho)⟩
    . by_cases hb : b = d
      . subst hb; rw [hH] at q; rw [Yv]; exact q
      . rw [Xv hb]; exact s' b x (by rw [Xv hb]; exact q)
    . obtain ⟨q1, q2⟩ := X3 (m' _ _ (hs b x q))
      have hb : b ≠ d:=λe=>(X3 q).2 (hin.mpr (.inl e))
      exact Zq (by rw [Xv hb]; exact q1) λe=>(hin2.mp e).elim hb q2
    . obtain ⟨q1, q2⟩ := X3 q
      have hb : b ≠ d:=λe=>by rw [e, hd1] at q1; cases q1
      exact Zq (by rw [Xv hb]; exact q1) λe=>(hin2.mp e).elim hb q2
noncomputable def FD (d ps : List (Int × α)) : List (Int × α):=ps.foldl (λd p=>JW d p.1 p.2) d
theorem Kh {r : Enc α} {H : Hp} {kvs : List (Key × V)} {ps : List (Int × α)} (h : Paired (rDP r K H) kvs ps) : ∀ {acc : List (Key × V)} {d : List (Int × α)}, Paired (rDP r K H) acc d -> Paired (rDP r K H) (Q2 acc kvs) (FD d ps):=by
  induction h with
  | nil=>intro acc d h; exact h
  | @cons kv kx _ _ r _ ih=>
    intro acc d h
    have:=JU (k:=kx.1) r.2 h
    rw [← r.1] at this
    exact ih this
theorem CC {r : Enc α} {h H : Hp} (hs : Xz h H) {xs : List V} {ps : List (Int × α)} (p : Paired (rP2 Xa r K h) xs ps) : ∃ kvs, Paired (λp (kv : Key × V)=>∃ t, p = .ref t /\ SqT K H t [kV kv.1, kv.2]) xs kvs /\ Paired (rDP r K h) kvs ps:=by
  induction p with
  | nil=>exact ⟨[], .nil, .nil⟩
  | @cons x pr _ _ q _ ih=>
    obtain ⟨kvs, h1, h2⟩:=ih
    obtain ⟨t, a, b, e, ht, e1, e2⟩:=q
    have e1 : a = .int pr.1:=e1
    subst e1
    exact ⟨(.inl pr.1, b) :: kvs, .cons ⟨t, e, SqT.of (hs _ _ ht)⟩ h1, .cons ⟨rfl, e2⟩ h2⟩
theorem Bq {ta : TE} {r : Enc α} [z : MonoE r] {ma : Rs (List (Int × α))} (ha : EvL K Er S OO σ ta (rP2 Xa r) ma) : Ev K Er S OO OO σ (tCB (Es K) (XN ta ZX)) (oD r) (ma.bind λps=>.ok (FD [] ps)):=λH Q w s P=>
  ha.run w s FO.tr P λps x H1 s1 w1 q1 ⟨p, xs, e, q, pr⟩ P1=>by
    obtain ⟨kvs, h1, h2⟩:=CC (Xt (H:=H1) (OO:=OO)) pr
    refine ⟨p, xs, kvs, by rw [e], SqL.of q, h1, λd hd=>?_⟩
    have hn:=QL (OO:=OO) hd (o:=.dK (Q2 [] kvs))
    exact P1 (.ref d) [(d, .dK (Q2 [] kvs))] _ (XD hd _) (w1.new hd rfl) hn ⟨d, _, rfl, Paired.imp2 (λ_ _ h=>⟨h.1, z.mono hn h.2⟩) (Kh h2 .nil), rfl⟩
end
section
variable {prog : Program} {w : World} {A : Around}
end
section
variable {X : Cx}
end
section
variable {K : PySem.W.Frag} {Er : Exc -> Hp -> Prop} {S : SC} {OO OO' OO1 OO2 : List (List XG)} {σ : St} {α β γ ρ ι δ ε : Type}
variable {Fd : Ends -> β -> Hp -> Prop} [fd : FdOk Fd] {u : TS}
theorem HC {ta tb : TE} {o : OE α} [z : MonoO o] {ma mb : Rs (List α)} (ha : Ev K Er S OO OO1 σ ta (oL o) ma) (hb : ∀ C, Ev K Er S (C :: OO1) (C :: OO2) σ tb (oL o) mb) : Ev K Er S OO OO2 σ (tOp Mk ta tb) (oL o) (ma.bind λas=>mb.bind λbs=>FY as bs):=λH Q w s P=>by
  refine ha H _ w s ?_
  cases em : ma with
  | bad=>rw [em] at P; exact P
  | err x=>rw [em] at P; exact P
  | ok as=>
    rw [em] at P
    intro v C H1 s1 w1 m1 ho
    refine hb C H1 _ w1 (S.mono _ _ m1 s) ?_
    have P1 : PZ Er (FO K OO OO2 (oL o) Q) H (mb.bind λbs=>FY as bs):=P
    cases en : mb with
    | bad=>rw [en] at P1; exact P1
    | err x=>rw [en] at P1; exact λH2 s2=>P1 H2 (s1.trans s2)
    | ok bs=>
      rw [en] at P1
      intro v2 C2 H2 s2 w2 m2 ho2
      have P2 : PZ Er (FO K OO OO2 (oL o) Q) H (FY as bs):=P1
      obtain ⟨c, hc, P3⟩:=P2.okOf λx=>Qk
      obtain ⟨hsz, h2⟩:=Zn hc
      cases h2
      obtain ⟨p, xs, Cs, e, q, ec⟩:=ho
      obtain ⟨p2, ys, Cs2, e2, q2, ec2⟩:=ho2
      subst ec ec2 e e2
      have hp1 : H2 p = some (.lst xs):=w2.tr (p, .lst xs) (by simp)
      have hp2 : H2 p2 = some (.lst ys):=w2.tr (p2, .lst ys) (by simp)
      refine ⟨p, p2, xs, ys, rfl, rfl, hp1, hp2, by rw [q.len.1, q2.len.1]; exact hsz, λa ha=>?_⟩
      have w3 : W ((Cs ++ Cs2).flatten :: OO2) H2:=by
        have pm : ((Cs2.flatten :: Cs.flatten :: OO2)).flatten.Perm (((Cs ++ Cs2).flatten :: OO2)).flatten:=by
          simp only [List.flatten_cons, List.flatten_append]
          rw [← List.append_assoc]
          exact List.perm_append_comm.append_right _
        refine (w2.sub (OO':=Cs2.flatten :: Cs.flatten :: OO2) ?_).of pm.symm
        simp only [List.flatten_cons, List.cons_append]
        exact (List.Sublist.append (List.Sublist.refl _) (List.sublist_cons_self _ _)).trans (List.sublist_cons_self _ _)
      have m3 : Xz (hid H2 (((p2, .lst ys) :: Cs2.flatten) :: ((p, .lst xs) :: Cs.flatten) :: OO2)) (hid H2 ((Cs ++ Cs2).flatten :: OO2)):=QA (Xz.refl _) λb hb=>by
        rw [X6, List.flatten_append, List.map_append, List.mem_append, List.mem_append] at hb
        rw [X6, X6, List.mem_append, List.mem_append]
        rcases hb with (hb | hb) | hb
        . exact .inr (.inl (List.mem_cons_of_mem _ hb))
        . exact .inl (List.mem_cons_of_mem _ hb)
        . exact .inr (.inr hb)
      have w4:=w3.new ha (o:=.lst (xs ++ ys)) rfl
      have m4:=QL (OO:=(Cs ++ Cs2).flatten :: OO2) ha (o:=.lst (xs ++ ys))
      have pf : ((((a, .lst (xs ++ ys)) :: (Cs ++ Cs2).flatten)) :: OO2).flatten.Perm ([(a, HO.lst (xs ++ ys))] :: (Cs ++ Cs2).flatten :: OO2).flatten:=by simp
      have m5 : Xz (hid H2 ((Cs ++ Cs2).flatten :: OO2)) (hid (upd H2 a (.lst (xs ++ ys))) (((a, .lst (xs ++ ys)) :: (Cs ++ Cs2).flatten) :: OO2)):=by
        rw [X7 pf]; exact m4
      refine P3 (.ref a) ((a, .lst (xs ++ ys)) :: (Cs ++ Cs2).flatten) _ ((s1.trans s2).trans (XD ha _)) (w4.of pf) (((m1.trans m2).trans m3).trans m5) ⟨a, xs ++ ys, Cs ++ Cs2, rfl, ?_, rfl⟩
      exact L2.P3.app (q.imp λ_ _ _ h=>z.mono ((m2.trans m3).trans m5) h) (q2.imp λ_ _ _ h=>z.mono (m3.trans m5) h)
end
section
variable {X : Cx}
end
section
variable {K : PySem.W.Frag} {Er : Exc -> Hp -> Prop} {S : SC} {OO OO' OO1 OO2 : List (List XG)} {σ : St} {α β γ ρ ι δ ε : Type}
end
section
variable {K : PySem.W.Frag} {Er : Exc -> Hp -> Prop} {S : SC} {OO OO' OO1 OO2 : List (List XG)} {σ : St} {α β γ ρ ι δ ε : Type}
variable {Fd : Ends -> β -> Hp -> Prop} [fd : FdOk Fd] {u : TS}
end
section
variable {X : Cx} {α : Type} [DecidableEq α] {r : Enc α} {d : Nat}
end
section
variable {K : PySem.W.Frag} {Er : Exc -> Hp -> Prop} {S : SC} {OO OO' OO1 OO2 : List (List XG)} {σ : St} {α β γ ρ ι δ ε : Type}
end
section
variable {X : Cx} {pins : List (Addr × Obj)} {σ : St} {H : Hp} {s : Shared} {h' : Heap}
theorem Inv.turns {t' : Nat} {ch : List Addr} (I : Inv X pins σ H s) (k : ∀ b o, b ∉ ch -> s.heap.get? b = some o -> h'.get? b = some o) (hf : ∀ b ∈ ch, KE X pins H b) : Inv X pins σ H { s with heap:=h', toks:=t' }:=by
  have nit : ∀ b o, H b = some o -> b ∉ ch:=λb o e z=>by rw [(hf b z).1] at e; cases e
  refine I.step (g':=s.gens) (d':=s.drawn) (ch:=ch) (λb hb=>?_) (λb o _ _ hc e _=>k b o hc e) (λb o _ _ hc e _=>⟨o.slots, k b o hc e⟩)
    (λb o _ e n=>n) (λb o hc e=>⟨o, k b o hc e⟩) (λb xs e=>e) (λb o xs e=>e) (λb ps e=>⟨#[], by rw [e]; simp⟩) (λm hm=>?_) (λb v e=>?_) I.bare
  . obtain ⟨f0, f1, f2, f3, f4, f5⟩ := hf b hb
    exact ⟨f3, f1, f4, f5⟩
  . obtain ⟨o, es, ep, ho, r⟩ := hm
    exact ⟨o, es, ep, k _ o (λz=>(hf _ z).2.1 rfl) ho, r⟩
  . refine (I.hok b v e).stay (λc o hc q => k c o ?_ q) (λc q => q) λc xs q => q
    rcases hc with z | z
    . rw [z]; exact nit b v e
    . exact nit c _ z
end
noncomputable def Itz (K : PySem.W.Frag) (a b : Addr) : It:=
  ⟨λi H=>∃ xs ys x y, SqL K H a xs /\ SqL K H b ys /\ xs[i]? = some x /\ ys[i]? = some y, λi H v H'=>∃ p x y, v = .ref p /\ H p = none /\ H' = upd H p (.tup [x, y]) /\ (∀ xs, SqL K H a xs -> xs[i]? = some x) /\ ∀ ys, SqL K H b ys -> ys[i]? = some y,
    λi H=>∃ xs ys, SqL K H a xs /\ SqL K H b ys /\ (xs.length <= i ∨ ys.length <= i)⟩
theorem MR {b z t u v x : Addr} (h : b ∉ [z, t, u, v, x]) : b ≠ z /\ b ≠ t /\ b ≠ u /\ b ≠ v /\ b ≠ x:=⟨λe=>h (e ▸ .head _), λe=>h (e ▸ .tail _ (.head _)), λe=>h (e ▸ .tail _ (.tail _ (.head _))), λe=>h (e ▸ .tail _ (.tail _ (.tail _ (.head _)))), λe=>h (e ▸ .tail _ (.tail _ (.tail _ (.tail _ (.head _)))))⟩
theorem MO {p : Addr -> Prop} {z t u v x : Addr} (h1 : p z) (h2 : p t) (h3 : p u) (h4 : p v) (h5 : p x) : ∀ b ∈ [z, t, u, v, x], p b:=
  List.forall_mem_cons.mpr ⟨h1, List.forall_mem_cons.mpr ⟨h2, List.forall_mem_cons.mpr ⟨h3, List.forall_mem_cons.mpr ⟨h4, List.forall_mem_cons.mpr ⟨h5, λ_ h=>(List.not_mem_nil h).elim⟩⟩⟩⟩⟩
theorem BP {P : Program} {w : World} {K : PySem.W.Frag} {elts : List Expr} {k : Nat} {pos : Pos} {z TI TO i1 i2 l1 l2 : Addr} (ap : ZipApart z TI TO i1 i2 l1 l2) :
    Turn P w K (.Tuple elts k pos) (Itz K l1 l2) [z, TI, TO, i1, i2] z (λi h=>IsZip h z TI TO .none /\ IsPair h TI (.ref i1) (.ref i2) /\ (∃ a b, IsPair h TO a b) /\ h.IsListIter i1 l1 i /\ h.IsListIter i2 l2 i) where
  mem:=.head _
  obj:=λi h st=>by
    obtain ⟨h1, h2, ⟨a, c, h3⟩, ⟨o4, h4, c4, d4⟩, ⟨o5, h5, c5, d5⟩⟩:=st
    exact MO ⟨_, h1, λv z=>by cases z⟩ ⟨_, h2, λv z=>by cases z⟩ ⟨_, h3, λv z=>by cases z⟩ ⟨o4, h4, λv z=>by rw [d4] at z; cases z⟩ ⟨o5, h5, λv z=>by rw [d5] at z; cases z⟩
  keep:=λi h h' st k=>⟨k z (.head _) _ st.1, k TI (.tail _ (.head _)) _ st.2.1, let ⟨a, b, q⟩:=st.2.2.1; ⟨a, b, k TO (.tail _ (.tail _ (.head _))) _ q⟩, st.2.2.2.1.at λo q=>k i1 (.tail _ (.tail _ (.tail _ (.head _)))) o q, st.2.2.2.2.at λo q=>k i2 (.tail _ (.tail _ (.tail _ (.tail _ (.head _))))) o q⟩
  item:=by
    intro X hP hw hK hc i pins s σ H E I hf st hg
    subst hP hw hK
    obtain ⟨xs, ys, x, y, hq1, hq2, hx, hy⟩:=hg
    obtain ⟨its1, rv1, p1, _⟩:=I.list hq1
    obtain ⟨its2, rv2, p2, _⟩:=I.list hq2
    obtain ⟨u, hu, ru⟩:=rv1.get hx
    obtain ⟨v, hv, rv⟩:=rv2.get hy
    obtain ⟨h1, h2, ⟨a, c, h3⟩, h4, h5⟩:=id st
    refine wpAny_pyNext_zip_item ap h1 h2 h3 h4 h5 p1.isList p2.isList (x:=u) (y:=v) (by simpa using hu) (by simpa using hv) λh' z' TO' i1' i2' tup sz kk=>?_
    have hT : ∀ b o, s.heap.get? b = some o -> s.heap.objs.size ≠ b:=λb o q z=>absurd (Heap.lt_size q) (by rw [← z]; exact Nat.lt_irrefl _)
    have tz:=hT z _ h1
    have tTI:=hT TI _ h2
    have tTO:=hT TO _ h3
    have t1 : s.heap.objs.size ≠ i1:=by obtain ⟨o, q, _⟩:=h4; exact hT i1 o q
    have t2 : s.heap.objs.size ≠ i2:=by obtain ⟨o, q, _⟩:=h5; exact hT i2 o q
    refine ⟨_, rfl, wpAny_letOwnedTupleGo_zip z' λh'' z'' sb=>?_⟩
    have k1 : ∀ b o, b ≠ z -> h'.get? b = some o -> h''.get? b = some o:=λb o hb e=>(sb.2 b hb).trans e
    have k2 : ∀ b o, b ∉ [z, TI, TO, i1, i2] -> s.heap.get? b = some o -> h''.get? b = some o:=λb o q1 q=>let f:=MR q1; k1 b o f.1 (kk b o f.1 f.2.2.1 f.2.2.2.1 f.2.2.2.2 q)
    refine ⟨.ref s.heap.objs.size, upd H s.heap.objs.size (.tup [x, y]), I.turnLay (h':=h'') (t':=s.toks) k2 hf (Nat.le_refl _) ⟨by show 2 <= sizeLine; decide, [u, v], .cons ru (.cons rv .nil), ⟨_, k1 _ _ tz tup, rfl, _, rfl⟩⟩, rfl,
      ⟨_, x, y, rfl, I.hok.fresh (Nat.le_refl _), rfl, λzs hz=>by rw [I.list_inj hz hq1]; exact hx, λzs hz=>by rw [I.list_inj hz hq2]; exact hy⟩, ⟨z'', k1 _ _ ap.TIz (kk _ _ ap.TIz ap.TITO ap.TIi1 ap.TIi2 h2), ⟨_, _, k1 _ _ ap.TOz TO'⟩, i1'.at λo q=>k1 _ _ ap.i1z q, i2'.at λo q=>k1 _ _ ap.i2z q⟩, λb hb=>?_⟩
    exact (Xv (MO (p:=λb=>b ≠ s.heap.objs.size) tz.symm tTI.symm tTO.symm t1.symm t2.symm b hb)).trans (hf b hb).1
  done:=by
    intro X hP hw hK hc i pins s σ H E I hf st hg
    subst hP hw hK
    obtain ⟨xs, ys, hq1, hq2, hx⟩:=hg
    obtain ⟨its1, rv1, p1, _⟩:=I.list hq1
    obtain ⟨its2, rv2, p2, _⟩:=I.list hq2
    obtain ⟨h1, h2, ⟨a, c, h3⟩, h4, h5⟩:=id st
    have hl1:=rv1.length
    have hl2:=rv2.length
    refine wpAny_pyNext_zip_end (I.ok.hd hc) ap h1 h2 h3 h4 h5 p1.isList p2.isList (hx.elim (λh=>.inl (by simp; lia)) λh=>.inr (by simp; lia)) λh' kk=>⟨rfl, I.turns (t':=s.toks) (ch:=[z, TI, TO, i1, i2]) (λb o q1 q=>let f:=MR q1; kk b o f.1 f.2.2.1 f.2.2.2.1 f.2.2.2.2 q) hf⟩
  self:=λ_ _ _ _ _ st h=>wpAny_pyIter_zip st.1 h
section
variable {X : Cx} {elts : List Expr} {k : Nat} {pos0 : Pos}
noncomputable def ML (K : PySem.W.Frag) (t : TA) : TI:=λσ H R=>t σ H λvs H1=>∃ a b, vs = [.ref a, .ref b] /\ (∃ xs, SqL K H1 a xs) /\ (∃ ys, SqL K H1 b ys) /\ R (Itz K a b) H1
theorem Em {e : Expr} {es : List Expr} {t : TA} {p pos : Pos} (K : PySem.W.Frag) (hK : X.K = K) (hg : Gl X "zip") (hm : X.mg "zip" = none) (ha : PA X (e :: es) t)
    (he : autoParam (starEach (e :: es) X.env = (false, eval e X.env) :: starEach es X.env) L2.Zau5._auto_1) (hpl : autoParam ((backTo pos (starEach es X.env)).any (·.1) = false) L2.Zau5._auto_1) : PI X (.Tuple elts k pos0) (.Call (.Name "zip" p) (e :: es) [] pos) (ML K t):=by
  subst hK
  intro pins s σ H R I h
  refine wpAny_Call_Name_kw (V2 I hg hm boot_zip ?_)
  refine PyProof.Rows.callWith_type1 (thn (ha pos pins s σ H _ I h) λus s1 r9=>?_) he hpl
  obtain ⟨vs, H1, I1, r1, q1⟩:=r9
  obtain ⟨a, b, rfl, ⟨xs, hq1⟩, ⟨ys, hq2⟩, q⟩:=q1
  obtain ⟨u, v, rfl, ru, rv⟩:=Ym.two r1
  cases ru
  cases rv
  obtain ⟨its1, _, pl1, _⟩:=I1.list hq1
  obtain ⟨its2, _, pl2, _⟩:=I1.list hq2
  have l1 : a < s1.heap.objs.size:=by obtain ⟨o, n, ho, _⟩:=pl1; exact Heap.lt_size ho
  have l2 : b < s1.heap.objs.size:=by obtain ⟨o, n, ho, _⟩:=pl2; exact Heap.lt_size ho
  refine call_zip_2 pl1.isList pl2.isList λh' hz hTI hTO i1 i2 sz kk=>?_
  refine wpAny_pyIter_zip hz ?_
  have hge : ∀ c : Nat, s1.heap.objs.size <= c -> KE X pins H1 c:=λc hc=>I1.fpOk hc (I1.hok.fresh hc)
  generalize s1.heap.objs.size = n0 at l1 l2 hz hTI hTO i1 i2 hge ⊢
  have l1' : @LT.lt Nat _ a n0:=l1
  have l2' : @LT.lt Nat _ b n0:=l2
  have ap : ZipApart (n0 + 4) (n0 + 2) (n0 + 3) n0 (n0 + 1) a b:=by
    constructor <;> (intro z; have z : @Eq Nat _ _:=z; lia)
  refine ⟨_, [n0 + 4, n0 + 2, n0 + 3, n0, n0 + 1], _, _, H1, rfl, I1.kept (t':=s1.toks) kk, BP ap, ⟨hz, hTI, ⟨_, _, hTO⟩, i1, i2⟩, λc hb=>hge c ?_, q⟩
  simp only [List.mem_cons, List.not_mem_nil, or_false] at hb
  rcases hb with rfl | rfl | rfl | rfl | rfl
  . exact Nat.le_add_right _ _
  . exact Nat.le_add_right _ _
  . exact Nat.le_add_right _ _
  . exact Nat.le_refl _
  . exact Nat.le_add_right _ _
end
section
variable {K : PySem.W.Frag} {Er : Exc -> Hp -> Prop} {S : SC} {OO OO' OO1 OO2 : List (List XG)} {σ : St} {α β γ ρ ι δ ε : Type}
theorem Gy {ta tb : TE} {r : Enc α} {q : Enc γ} [z : MonoE r] [y : MonoE q] {ma : Rs (List α)} {mb : Rs (List γ)} (ha : EvS K Er S OO σ ta (rV r) ma) (hb : EvS K Er S OO σ tb (rV q) mb) : Walk K Er S OO σ (ML K (XN ta (XN tb ZX))) (rP2 r q) (ma.bind λas=>mb.bind λbs=>.ok (as.zip bs)):=⟨fun {H R} w s P=>by
  refine ha H _ w s ?_
  cases em : ma with
  | bad=>rw [em] at P; exact P
  | err x=>rw [em] at P; exact P
  | ok as=>
    rw [em] at P
    intro v H1 s1 ⟨p, xs, e, hp, pr⟩
    refine hb H1 _ (w.keep s1) (S.mono _ _ (Xj s1) s) ?_
    have P1 : PZ Er _ H (mb.bind λbs=>.ok (as.zip bs)):=P
    cases en : mb with
    | bad=>rw [en] at P1; exact P1
    | err x=>rw [en] at P1; exact λH2 s2=>P1 H2 (s1.trans s2)
    | ok bs=>
      rw [en] at P1
      intro v2 H2 s2 ⟨p2, ys, e2, hp2, pr2⟩
      have hp':=Xj (OO:=OO) s2 _ _ hp
      refine ⟨p, p2, by rw [e, e2], ⟨xs, SqL.of (Xt _ _ hp')⟩, ⟨ys, SqL.of (Xt _ _ hp2)⟩, P1 _ H2 (s1.trans s2) ?_ ?_⟩
      . intro i c hc OO2 H3 w3 m3
        rw [List.getElem?_zip_eq_some] at hc
        obtain ⟨x, hx, rx⟩:=Paired.getR pr hc.1
        obtain ⟨x2, hx2, rx2⟩:=Paired.getR pr2 hc.2
        have q1 : SqL K H3 p xs:=SqL.of (Xt _ _ (m3 _ _ hp'))
        have q2 : SqL K H3 p2 ys:=SqL.of (Xt _ _ (m3 _ _ hp2))
        refine ⟨⟨xs, ys, x, x2, q1, q2, hx, hx2⟩, λyv H4 h4=>?_⟩
        obtain ⟨b, x', y', rfl, hb, rfl, g1, g2⟩:=h4
        have e1:=g1 xs q1
        have e3:=g2 ys q2
        rw [hx] at e1
        rw [hx2] at e3
        cases e1
        cases e3
        refine ⟨XD hb _, ⟨b, x, x2, rfl, ZG w3 hb, z.mono (((Xj s2).trans m3).trans (Xj (XD hb _))) rx, y.mono (m3.trans (Xj (XD hb _))) rx2⟩⟩
      . intro OO2 H3 w3 m3
        refine ⟨xs, ys, SqL.of (Xt _ _ (m3 _ _ hp')), SqL.of (Xt _ _ (m3 _ _ hp2)), ?_⟩
        rw [List.length_zip, Paired.len pr, Paired.len pr2]
        lia⟩
end
section
variable {X : Cx}
theorem Us (K : PySem.W.Frag) (hK : X.K = K) : MB X (Ed K):=by
  subst hK
  intro pins s σ H x y v u Q I rx ry h
  obtain ⟨p, xs, i, z, rfl, rfl, hq, he, q⟩:=h
  cases rx
  obtain ⟨t, rfl⟩:=ry
  obtain ⟨its, r, pl, hz⟩:=I.list hq
  obtain ⟨j, h1, h2, h3, h4, h5⟩:=KS he
  obtain ⟨w, ew, rw'⟩:=r.get h2
  have hl:=r.length
  have hn:=KA
  have fin : EP X pins σ Q w s:=⟨z, H, I, rw', q⟩
  by_cases h0 : 0 <= i
  . have hj : i.toNat = j:=by
      rw [seqIndex_of h0 h5] at h1
      exact Option.some.inj h1
    exact wpAny_getItem_list pl.isList h0 (by lia) (by rw [hj]; simpa using ew) fin
  . have hj : (i + (its.toArray.size : Int)).toNat = j:=by
      rw [seqIndex_neg (by lia) h4] at h1
      rw [List.size_toArray, ← hl]
      exact Option.some.inj h1
    exact wpAny_getItem_list_neg pl.isList (by lia) (by rw [List.size_toArray] <;> lia) (by lia) (by rw [hj]; simpa using ew) fin
end
section
variable {K : PySem.W.Frag} {Er : Exc -> Hp -> Prop} {S : SC} {OO OO' OO1 OO2 : List (List XG)} {σ : St} {α β γ ρ ι δ ε : Type}
variable {Fd : Ends -> β -> Hp -> Prop} [fd : FdOk Fd] {u : TS}
theorem V8 {ti te : TE} {g : Int -> Int -> Int} {mi m : Rs Int} {f : List Int -> Rs β} {v : V} {as : List Int} {C : List XG} (i k : Nat) (hσ : σ[i]? = some (some v)) (hk : OO[k]? = some C) (h : ∀ x, S.p x -> oL (oF Xa) K x v as C) (hi : EvB K Er S OO σ ti Xa mi) (he : EvB K Er S OO σ te Xa m)
    (hr : ∀ bs C', Sv Er (S.addO K (oL (oF Xa)) v bs C') (OO.set k C') σ u Fd (f bs)) : Sv Er S OO σ (Jg (I9 (UY i) ti te (Ed K) (ipI g) Hu) u) Fd (mi.bind λj=>(atR as j).bind λx=>m.bind λb=>(QZ as j (g x b)).bind f):=λH D w s P=>
  ⟨v, hσ, hi.st w s P λj zj H1 s1 w1 q1 r1 P1=>by
    cases ea : atR as j with
    | bad=>rw [ea] at P1; exact P1.elim
    | err x=>exact absurd ea UM
    | ok x=>
      rw [ea] at P1
      obtain ⟨kk, hkk, hrow⟩:=Eu ea
      obtain ⟨p, xs, Cs, e, q, c⟩:=h _ q1
      subst c
      have hH : H1 p = some (.lst xs):=w1.tr (p, .lst xs) (List.mem_flatten.mpr ⟨_, List.mem_of_getElem? hk, List.mem_cons_self⟩)
      obtain ⟨xv, Dv, g1, g2, g3⟩:=q.get hrow
      refine ⟨p, xs, j, xv, e, r1, SqL.of hH, by unfold atI; rw [q.len.1, hkk]; exact g1, he.st w1 q1 P1 λb y H2 s2 w2 q2 r2 P2=>⟨x, b, g3.2, r2, ?_⟩⟩
      have hH2 : H2 p = some (.lst xs):=w2.tr (p, .lst xs) (List.mem_flatten.mpr ⟨_, List.mem_of_getElem? hk, List.mem_cons_self⟩)
      have es : QZ as j (g x b) = .ok (as.set kk (g x b)):=by unfold QZ; rw [hkk]
      rw [es] at P2
      have hjl : kk < as.length:=(List.getElem?_eq_some_iff.mp hrow).1
      have hjC : kk < Cs.length:=by rw [q.len.2]; exact hjl
      have hp:=V9 (Cs:=Cs) (j:=kk) (D:=[]) hjC
      obtain ⟨w3, m3⟩:=Ly (xs':=xs.set kk (.int (g x b))) (Cs':=Cs.set kk []) w2.nil hk (λc hc=>hp.mem_iff.mp (List.mem_append_left _ hc)) (ZL hp (ZV w2.nil hk))
      rw [Zx] at m3
      refine ⟨p, xs, j, kk, e, r1, hH2, by rw [q.len.1]; exact hkk, hr _ _ _ D w3 ⟨S.mono _ _ m3 q2, ⟨p, _, _, e, P3.imp (λ_ _ _ z=>MonoO.mono m3 z) (P3.set (show oF Xa K _ (.int (g x b)) (g x b) [] from ⟨rfl, rfl⟩) kk (P3.imp (λ_ _ _ z=>MonoO.mono (Xj s2) z) q)), rfl⟩⟩ (PZ.tr (fd.tr D) m3 P2)⟩⟩
end
section
variable {K : PySem.W.Frag} {Er : Exc -> Hp -> Prop} {S : SC} {OO OO' OO1 OO2 : List (List XG)} {σ : St} {α β γ ρ ι δ ε : Type} {u : TS}
noncomputable def Z7 : Nat -> γ -> (γ -> Rs Bool) -> (γ -> Rs (Ctl ρ γ)) -> Rs (Ctl ρ γ)
  | 0, _, _, _=>.bad
  | n + 1, g, c, f=>(c g).bind λb=>if b = true then (f g).bind λr=>match r with
    | .ret r=>.ok (.ret r)
    | .nx g'=>Z7 n g' c f else .ok (.nx g)
theorem Kc {o : OE ρ} {c : TT} {tb : TS} {mc : γ -> Rs Bool} {body : γ -> Rs (Ctl ρ γ)} {f : γ -> Rs ρ} (J : Jn γ ι) (n : Nat) (x0 : ι) (g0 : γ) (h1 : OO = J.oo x0) (h2 : σ = J.ss x0) (h3 : ∀ h, S.p h -> (J.sc g0 x0).p h)
    (hc : ∀ g x, EvT Er (J.sc g x) (J.oo x) (J.ss x) c (mc g)) (hb : ∀ g x, Sv Er (J.sc g x) (J.oo x) (J.ss x) tb (FCd K o J) (body g))
    (hr : ∀ g x, Sv Er (J.sc g x) (J.oo x) (J.ss x) u (FTd K o) (f g)) : Sv Er S OO σ (Jg (Dr c tb) u) (FTd K o) ((Z7 n g0 mc body).bind (Qu f)):=λH D w s P=>by
  refine ⟨λmm σ' H2=>∃ x gg, σ' = J.ss x /\ W (J.oo x) H2 /\ (J.sc gg x).p (hid H2 (J.oo x)) /\ PZ Er (FTd K o D) (hid H2 (J.oo x)) ((Z7 mm gg mc body).bind (Qu f)), ⟨n, x0, g0, h2, by rw [← h1]; exact w, by rw [← h1]; exact h3 _ s, by rw [← h1]; exact P⟩, ?_⟩
  rintro mm σ' H2 ⟨x, gg, rfl, w2, sc2, P2⟩
  cases mm with
  | zero=>exact P2.elim
  | succ mm=>
    have P3 : PZ Er (FTd K o D) (hid H2 (J.oo x)) ((mc gg).bind λb=>(if b = true then (body gg).bind λr=>match r with
      | .ret r=>.ok (.ret r)
      | .nx g'=>Z7 mm g' mc body else .ok (.nx gg)).bind (Qu f)):=by rw [← Yp]; exact P2
    refine (hc gg x).st w2 sc2 P3 λb H3 w3 sc3 P4=>?_
    cases b with
    | false=>exact hr gg x H3 D w3 sc3 P4
    | true=>
      rw [if_pos rfl] at P4 ⊢
      refine ⟨λσ3 H4=>∃ x gg, σ3 = J.ss x /\ W (J.oo x) H4 /\ (J.sc gg x).p (hid H4 (J.oo x)) /\ PZ Er (FTd K o D) (hid H4 (J.oo x)) ((Z7 mm gg mc body).bind (Qu f)), λσ3 H4 q=>⟨mm, Nat.lt_succ_self _, q⟩, hb gg x H3 _ w3 sc3 ?_⟩
      rw [Yp] at P4
      cases eb : body gg with
      | bad=>rw [eb] at P4; exact P4
      | err x=>rw [eb] at P4; exact P4
      | ok c=>
        rw [eb] at P4
        cases c with
        | ret r=>exact P4
        | nx g'=>exact λx' H5 w5 m5 sc5=>⟨x', g', rfl, w5, sc5, PZ.tr (FdOk.tr D) m5 P4⟩
end
section
variable {X : Cx}
end
section
variable {K : PySem.W.Frag} {Er : Exc -> Hp -> Prop} {S : SC} {OO : List (List XG)} {σ : St}
end
section
variable {X : Cx} {pins : List (Addr × Obj)} {σ : St} {H : Hp} {s : Shared} {d : Addr} {o : Obj} {kvs : List (Key × V)}
theorem VI : entryFor table "dict_itemiterator.__iter__" = some Builtin.«dict_keyiterator.__iter__»:=
  entryFor_alias (id':="dict_keyiterator.__iter__") (by kernel_rfl) rfl (by decide +kernel) (by kernel_rfl)
theorem VE {prog : Program} {w : World} {A : Around} {E : Value -> Shared -> Prop} {it d : Addr} {i n ep : Nat} {ok ov : Value} {Q : Value -> Shared -> Prop} (hit : IsItemIter s.heap it d i n ep ok ov) (h : Q (.ref it) s) : wpAny (model prog w) A (pyIter (.ref it)) Q E s:=by
  have ht : s.TypeIs (.ref it) "dict_itemiterator":=⟨_, hit, rfl⟩
  refine wpAny_pyIter_slot ht F.slot_dict_itemiterator_iter (wpAny_call_entry F.slot_dict_itemiterator_iter ht VI ?_ (F.args_dict_itemiterator_iter_1 _))
  show wpAny _ _ (ret (.ref it)) _ _ s
  exact wpAny_pure ⟨_, rfl, "dict_itemiterator", _, ht, F.slot_dict_itemiterator_next.lookup, h⟩
theorem KV.valAt {kvs : List (Key × V)} {vs : List (Key × Value)} (h : KV kvs vs) : ∀ {i : Nat} (h1 : i < kvs.length) (h2 : i < vs.length), Yi (kvs[i]).2 (vs[i]).2:=by
  induction h with
  | nil=>intro i h1; exact absurd h1 (Nat.not_lt_zero _)
  | cons r _ ih=>
    intro i h1 h2
    cases i with
    | zero=>exact r.2
    | succ i=>exact ih (Nat.lt_of_succ_lt_succ h1) (Nat.lt_of_succ_lt_succ h2)
noncomputable def Iti (d : Addr) (o : Obj) (kvs : List (Key × V)) : It:=
  ⟨λi H=>H d = some (.frz o (.dK kvs)) /\ i < kvs.length, λi H v H'=>∃ p kv, v = .ref p /\ H p = none /\ H' = upd H p (.tup [kV kv.1, kv.2]) /\ kvs[i]? = some kv, λi H=>H d = some (.frz o (.dK kvs)) /\ kvs.length <= i⟩
theorem Fc {P : Program} {w : World} {K : PySem.W.Frag} {elts : List Expr} {k : Nat} {pos : Pos} {es : Array DictEntry} {ep : Nat} (d it : Addr) (o : Obj) (kvs : List (Key × V)) (hd : o.data = .dict es ep) : Turn P w K (.Tuple elts k pos) (Iti d o kvs) [it] it (λi h=>∃ ok ov, IsItemIter h it d i kvs.length ep ok ov) where
  mem:=.head _
  obj:=λi h st b hb=>by
    have e : b = it:=List.mem_singleton.mp hb
    subst e
    obtain ⟨ok, ov, e⟩:=st
    exact ⟨_, e, λv z=>by cases z⟩
  keep:=λi h h' ⟨ok, ov, st⟩ k=>⟨ok, ov, k it (.head _) _ st⟩
  item:=by
    intro X hP hw hK hc i pins s σ H E I hf st hg
    subst hP hw hK
    obtain ⟨he, hlt⟩:=hg
    obtain ⟨_, vs, rel, da⟩:=I.dictAt he hd
    have hl:=rel.length
    obtain ⟨ok, ov, st⟩:=st
    rw [hl] at st
    have hlt' : i < kvs.length:=hlt
    have hv : vs[i]? = some (vs[i].1, vs[i].2):=by simp [show i < vs.length by lia]
    refine wpAny_pyNext_items_item st da hv λkey h' hk out tup sz kk=>?_
    have tz : s.heap.objs.size ≠ it:=λz=>absurd (Heap.lt_size st) (by rw [← z]; exact Nat.lt_irrefl _)
    refine ⟨_, rfl, wpAny_letOwnedTupleGo_items out λh'' st'' sb=>?_⟩
    have k1 : ∀ b o, b ≠ it -> h'.get? b = some o -> h''.get? b = some o:=λb o hb e=>(sb.2 b hb).trans e
    have k2 : ∀ b o, b ∉ [it] -> s.heap.get? b = some o -> h''.get? b = some o:=λb o q1 q=>k1 b o (λe=>q1 (e ▸ .head _)) (kk b o (λe=>q1 (e ▸ .head _)) q)
    have hkv : (kvs[i]).1 = (vs[i]).1:=KV.key rel hlt' (by lia)
    refine ⟨.ref s.heap.objs.size, upd H s.heap.objs.size (.tup [kV (kvs[i]).1, (kvs[i]).2]), I.turnLay (h':=h'') (t':=s.toks) k2 hf (Nat.le_refl _) ⟨by show 2 <= sizeLine; decide, [key, (vs[i]).2], .cons (by rw [hkv]; exact CL hk) (.cons (KV.valAt rel hlt' (by lia)) .nil), ⟨_, k1 _ _ tz tup, rfl, _, rfl⟩⟩, rfl,
      ⟨_, kvs[i], rfl, I.hok.fresh (Nat.le_refl _), rfl, by simp [hlt']⟩, ⟨_, _, by rw [hl]; exact st''⟩, λb hb=>?_⟩
    have h0:=(hf b hb).1
    have e : b = it:=List.mem_singleton.mp hb
    rw [Xv (by rw [e]; exact tz.symm)]; exact h0
  done:=by
    intro X hP hw hK hc i pins s σ H E I hf st hg
    subst hP hw hK
    obtain ⟨he, hlt⟩:=hg
    obtain ⟨_, vs, rel, da⟩:=I.dictAt he hd
    have hl:=rel.length
    obtain ⟨ok, ov, st⟩:=st
    rw [hl] at st
    obtain ⟨f0, f1, f2, f3, f4, f5⟩:=hf it (.head _)
    exact wpAny_pyNext_items_end (I.ok.hd hc) st da (List.getElem?_eq_none (by lia)) λh' eb=>⟨rfl, I.turned (t':=s.toks) (λb o hb e=>eb b o hb e) f0 f1 f3 f4 f5⟩
  self:=λ_ _ _ _ _ st h=>VE st.choose_spec.choose_spec h
noncomputable def Ex (tl : TE) : TI:=λσ H R=>tl σ H λx H1=>∃ a o kvs, x = .ref a /\ H1 a = some (.frz o (.dK kvs)) /\ R (Iti a o kvs) H1
theorem BS {elts : List Expr} {k : Nat} {pos0 : Pos} {l : Expr} {tl : TE} {apos cpos : Pos} (hl : PE X l tl)
    (hbase : autoParam (attributeBase l "items" X.env (eval l X.env) = eval l X.env) L2.Zau5._auto_1) (hline : autoParam ((apos.endLine == cpos.line) = true) L2.Zau5._auto_1) : PI X (.Tuple elts k pos0) (.Call (.Attribute l "items" apos) [] [] cpos) (Ex tl):=by
  intro pins s σ H R I h
  refine wpAny_Call_method0_late hbase hline (thn (hl pins s σ H _ I h) λv s1 r9=>?_)
  obtain ⟨x, H1, I1, r1, q1⟩:=r9
  obtain ⟨a, o, kvs, e, he, q⟩:=q1
  subst e
  cases r1
  obtain ⟨h1, _, hs, vs, rel, o', es, ep, g1, g2, g3, g4⟩:=(show YJ X.prog X.w H1 s1.heap a (.frz o (.dK kvs)) from I1.hok a _ he)
  rw [h1] at g1
  cases g1
  have hm : s1.heap.DictAt (Yy X.prog X.w) a vs ep:=⟨o, es, h1, g2, g3, g4⟩
  refine ⟨"dict", "dict.items", F.plainAttrs_dict, F.slot_dict_items, F.type_dict_items, hm.dictOf.typeIs, hm.dictOf.mapOf.noDict, ?_⟩
  refine method_meetsIn F.slot_dict_items F.entry_dict_items rfl (PySem.evalArgs_none ⟨rfl, hm.dictOf.typeIs, F.args_dict_items_1 _, _, meets_dict_items (Yy X.prog X.w) a hs, ⟨vs, hm.dictOf⟩, ?_⟩)
  refine wpAny_pyIter_items (knd:=Yy X.prog X.w) (d:=a) (kvs:=vs) (ep:=ep) ⟨_, Heap.get?_push_size _ rfl, rfl, rfl⟩ (hm.push _) ?_
  rw [← rel.length]
  refine ⟨_, [_], _, _, H1, rfl, I1.kept (t':=s1.toks) λb o e=>Heap.get?_push_of_some _ (Heap.get?_push_of_some _ e), Fc a _ o kvs g3, ⟨_, _, Heap.get?_push_size _ rfl⟩, λb hb=>?_, q⟩
  have e:=List.mem_singleton.mp hb
  subst e
  have hge : s1.heap.objs.size <= (s1.heap.push { cls:=.type "dict_items", data:=.fields #[.ref a] }).objs.size:=by rw [Heap.size_push]; exact Nat.le_succ _
  exact I1.fpOk hge (I1.hok.fresh hge)
end
section
variable {X : Cx}
noncomputable def ipD : TIp:=λx y H Q=>∃ i j, x = .int i /\ y = .int j /\ MX i j /\ Q (.int (i / j)) H
theorem EV : PIp X .FloorDiv ipD:=by
  intro pins s σ H x y v u Q I r1 r2 h
  obtain ⟨i, j, e1, e2, hc, q⟩:=h
  subst e1; subst e2
  obtain ⟨t, rfl⟩:=r1
  obtain ⟨t', rfl⟩:=r2
  have h1 : (0 : Int) < j:=hc.1
  have h2 : j < 1073741824:=hc.2
  exact ifloordiv_int (by lia) (by rw [Int.fdiv_eq_ediv_of_nonneg i (by lia)]; exact ⟨.int _, H, I.tok _, ⟨_, rfl⟩, q⟩) (.inl (PyProof.noPylong_small (by lia)))
end
section
variable {K : PySem.W.Frag} {Er : Exc -> Hp -> Prop} {S : SC} {OO OO' OO1 OO2 OO3 : List (List XG)} {σ : St} {α β γ ρ ι δ ε ζ : Type}
variable {Fd : Ends -> β -> Hp -> Prop} [fd : FdOk Fd] {u : TS}
noncomputable def L6 (a b : Int) : Rs Int:=chk (0 < b /\ b < 1073741824) (.ok (a / b))
theorem HI {te : TE} {m : Rs Int} {f : Int -> Rs β} {v : V} {a : Int} (i : Nat) (hσ : σ[i]? = some (some v)) (h : ∀ x, S.p x -> Xa K x v a) (he : EvB K Er S OO σ te Xa m)
    (hr : ∀ b v, Sv Er (S.add K Xa v b) OO (σ.set i (some v)) u Fd (f b)) : Sv Er S OO σ (Jg (LY i te ipD) u) Fd (m.bind λb=>(L6 a b).bind f):=λH D w s P=>
  ⟨v, hσ, he.st w s P λb y H1 s1 w1 q1 r1 P1=>by
    cases e : L6 a b with
    | bad=>rw [e] at P1; exact P1.elim
    | err x=>exact absurd e Qk
    | ok c=>
      rw [e] at P1
      obtain ⟨h1, h2⟩:=Zn e
      cases h2
      exact ⟨a, b, h _ s, r1, h1, hr _ _ H1 D w1 ⟨q1, rfl⟩ P1⟩⟩
instance {o : OE α} [m : FlatT o] : FlatT (oL o):=⟨λs r9=>by obtain ⟨p, xs, Cs, e, q, c⟩:=r9; exact ⟨p, xs, Cs, e, q.imp λ_ _ _ z=>m.flat s z, c⟩⟩
theorem KH {te : TE} {r : Enc α} [z : MonoE r] {m : Rs (List (Int × α))} (he : EvS K Er S OO σ te (rDf r) m) : Walk K Er S OO σ (Ex te) (rP2 Xa r) m:=⟨fun {H R} w s P=>by
  refine he H _ w s ?_
  cases em : m with
  | bad=>rw [em] at P; exact P
  | err x=>rw [em] at P; exact P
  | ok d=>
    rw [em] at P
    intro v H' s' ⟨p, o, kvs, e, hp, pr⟩
    refine ⟨p, o, kvs, e, Xt _ _ hp, P _ H' s' ?_ ?_⟩
    . intro i a ha OO2 H2 w2 m2
      obtain ⟨kv, hkv, rk⟩:=Paired.getR pr ha
      have hl : i < kvs.length:=(List.getElem?_eq_some_iff.mp hkv).1
      refine ⟨⟨Xt _ _ (m2 _ _ hp), hl⟩, λy H3 h3=>?_⟩
      obtain ⟨b, kv', rfl, hb, rfl, hy⟩:=h3
      rw [hkv] at hy
      cases hy
      refine ⟨XD hb _, ⟨b, _, _, rfl, ZG w2 hb, ?_, z.mono (m2.trans (Xj (XD hb _))) rk.2⟩⟩
      show kV kv.1 = .int a.1
      rw [rk.1]
      rfl
    . intro OO2 H2 w2 m2
      exact ⟨Xt _ _ (m2 _ _ hp), by rw [Paired.len pr]; exact Nat.le_refl _⟩⟩
theorem Dz {ta : TE} {r : Enc α} {q : Enc γ} {t : Enc δ} {m : Rs (α × γ × δ)} (ha : EvB K Er S OO σ ta (rP3 r q t) m) : EvB K Er S OO σ (tCB (GP K) (XN ta ZX)) Xa (m.bind λ_=>.ok (3 : Int)):=λH Q w s P=>
  ha.run w s FB.tr P λa x H1 s1 w1 q1 r9 P1=>by obtain ⟨p, x1, x2, x3, e, q, h1, h2, h3⟩:=r9; exact ⟨p, [x1, x2, x3], by rw [e], .inr (SqT.of q), P1 _ H1 (Xz.refl _) rfl⟩
theorem Ml {o : OE α} [z : MonoO o] {xs : List V} {as : List α} {Cs : List (List XG)} {H H0 : Hp} {Q : VK} {OO0 : List (List XG)} (w : W (Cs.flatten :: OO) H) (m0 : Xz (hid H0 OO0) (hid H (Cs.flatten :: OO))) (s0 : Xz H0 H) (pr : P3 (o K (hid H (Cs.flatten :: OO))) xs as Cs) (P : FO K OO0 OO (oL o) Q as H0) : ∀ p, H p = none -> Q (.ref p) (upd H p (.lst xs)):=λp hp=>by
  have hn:=QL (OO:=Cs.flatten :: OO) hp (o:=.lst xs)
  have wn:=w.new hp (o:=.lst xs) rfl
  have pe : (((p, HO.lst xs) :: Cs.flatten) :: OO).flatten.Perm ([(p, HO.lst xs)] :: Cs.flatten :: OO).flatten:=by simp
  refine P (.ref p) ((p, .lst xs) :: Cs.flatten) _ (s0.trans (XD hp _)) (wn.of pe) ?_ ?_
  . rw [X7 pe]; exact m0.trans hn
  . rw [X7 pe]
    exact ⟨p, xs, Cs, rfl, pr.imp λ_ _ _ h=>z.mono hn h, rfl⟩
theorem Hc {t : TA} {o : OE α} [z : MonoO o] {m : Rs (List α)} (h : L7 K Er S OO OO' σ t o m) : Ev K Er S OO OO' σ (LZ t) (oL o) (m.bind λas=>chk (as.length <= sizeLine) (.ok as)):=λH Q w s P=>by
  refine h H _ w s ?_
  cases e : m with
  | bad=>rw [e] at P; exact P
  | err x=>rw [e] at P; exact P
  | ok as=>
    rw [e] at P
    obtain ⟨hsz, P⟩:=PZ.chk (show PZ Er _ H (chk (as.length <= sizeLine) (.ok as)) from P)
    intro vs Cs H1 s1 w1 m1 p
    exact ⟨by rw [p.len.1]; exact hsz, Ml w1 m1 s1 p P⟩
noncomputable def oT3 (o : OE α) (q : OE β) (t : OE γ) : OE (α × β × γ):=λK h v a C=>∃ p x y z C1 C2 C3, v = .ref p /\ h p = some (.tup [x, y, z]) /\ o K h x a.1 C1 /\ q K h y a.2.1 C2 /\ t K h z a.2.2 C3 /\ C = C1 ++ (C2 ++ C3)
instance {o : OE α} {q : OE β} {t : OE γ} [m : MonoO o] [n : MonoO q] [k : MonoO t] : MonoO (oT3 o q t):=⟨λs r9=>by obtain ⟨p, x, y, z, C1, C2, C3, e, h, h1, h2, h3, c⟩:=r9; exact ⟨p, x, y, z, C1, C2, C3, e, s _ _ h, m.mono s h1, n.mono s h2, k.mono s h3, c⟩⟩
instance {o : OE α} {q : OE β} {t : OE γ} [m : FlatO o] [n : FlatO q] [k : FlatO t] : FlatO (oT3 o q t):=⟨λs r9=>by obtain ⟨p, x, y, z, C1, C2, C3, e, h, h1, h2, h3, c⟩:=r9; exact ⟨p, x, y, z, C1, C2, C3, e, s _ _ h rfl, m.flat s h1, n.flat s h2, k.flat s h3, c⟩⟩
instance {o : OE α} {q : OE β} {t : OE γ} {ro : Enc α} {rq : Enc β} {rt : Enc γ} [m : FrzC o ro] [n : FrzC q rq] [k : FrzC t rt] : FrzC (oT3 o q t) (rP3 ro rq rt):=⟨λ⟨p, x, y, z, C1, C2, C3, e, h, h1, h2, h3, c⟩ s hc=>by
  subst c
  exact ⟨p, x, y, z, e, s _ _ h, m.frz h1 s λc hm=>hc c (by simp [hm]), n.frz h2 s λc hm=>hc c (by simp [hm]), k.frz h3 s λc hm=>hc c (by simp [hm])⟩⟩
theorem B8 {ta tb tc : TE} {o : OE α} {q : OE β} {t : OE γ} [zo : MonoO o] [zq : MonoO q] [zt : MonoO t] {ma : Rs α} {mb : Rs β} {mc : Rs γ} (ha : Ev K Er S OO OO1 σ ta o ma) (hb : ∀ C, Ev K Er S (C :: OO1) (C :: OO2) σ tb q mb) (hc : ∀ C C', Ev K Er S (C' :: C :: OO2) (C' :: C :: OO3) σ tc t mc) :
    Ev K Er S OO OO3 σ (Iy (XN ta (XN tb (XN tc ZX)))) (oT3 o q t) (ma.bind λa=>mb.bind λb=>mc.bind λc=>.ok (a, b, c)):=λH Q w s P=>by
  refine ha H _ w s ?_
  cases em : ma with
  | bad=>rw [em] at P; exact P
  | err x=>rw [em] at P; exact P
  | ok a=>
    rw [em] at P
    intro v C H1 s1 w1 m1 ho
    refine hb C H1 _ w1 (S.mono _ _ m1 s) ?_
    have P1 : PZ Er (FO K OO OO3 (oT3 o q t) Q) H (mb.bind λb=>mc.bind λc=>.ok (a, b, c)):=P
    cases en : mb with
    | bad=>rw [en] at P1; exact P1
    | err x=>rw [en] at P1; exact λH2 s2=>P1 H2 (s1.trans s2)
    | ok b=>
      rw [en] at P1
      have P2 : PZ Er (FO K OO OO3 (oT3 o q t) Q) H (mc.bind λc=>.ok (a, b, c)):=P1
      intro v2 C2 H2 s2 w2 m2 ho2
      refine hc C C2 H2 _ w2 (S.mono _ _ (m1.trans m2) s) ?_
      cases ek : mc with
      | bad=>rw [ek] at P2; exact P2
      | err x=>rw [ek] at P2; exact λH3 s3=>P2 H3 (s1.trans (s2.trans s3))
      | ok c=>
        rw [ek] at P2
        have P3 : FO K OO OO3 (oT3 o q t) Q (a, b, c) H:=P2
        intro v3 C3 H3 s3 w3 m3 ho3
        refine ⟨by show 3 <= sizeLine; decide, λp hp=>?_⟩
        have pe : ((C ++ (C2 ++ C3)) :: OO3).flatten.Perm (C3 :: C2 :: C :: OO3).flatten:=by
          have q : (C ++ (C2 ++ C3)).Perm (C3 ++ (C2 ++ C)):=by
            rw [← List.append_assoc C3]
            exact List.perm_append_comm.trans ((List.perm_append_comm (l₁:=C2) (l₂:=C3)).append_right _)
          have:=q.append_right OO3.flatten
          simpa [List.append_assoc] using this
        have s4 : Xz H3 (upd H3 p (.tup [v, v2, v3])):=XD hp _
        have w4:=(w3.keep s4).of pe
        have m4 : Xz (hid H3 (C3 :: C2 :: C :: OO3)) (hid (upd H3 p (.tup [v, v2, v3])) ((C ++ (C2 ++ C3)) :: OO3)):=by rw [X7 pe]; exact Xj s4
        refine P3 (.ref p) (C ++ (C2 ++ C3)) _ (s1.trans (s2.trans (s3.trans s4))) w4 (m1.trans (m2.trans (m3.trans m4))) ⟨p, v, v2, v3, C, C2, C3, rfl, ?_, zo.mono (m2.trans (m3.trans m4)) ho, zq.mono (m3.trans m4) ho2, zt.mono m4 ho3, rfl⟩
        rw [X7 pe]
        exact ZG w3 hp
end
section
variable {K : PySem.W.Frag} {Er : Exc -> Hp -> Prop} {S : SC} {OO OO' OO1 OO2 : List (List XG)} {σ : St} {α β γ ρ ι δ ε ζ : Type}
variable {Fd : Ends -> β -> Hp -> Prop} [fd : FdOk Fd] {u : TS}
end
section
variable {K : PySem.W.Frag} {Er : Exc -> Hp -> Prop} {S : SC} {OO OO' OO1 OO2 : List (List XG)} {σ : St} {α β γ ρ ι δ ε ζ : Type}
variable {Fd : Ends -> β -> Hp -> Prop} [fd : FdOk Fd] {u : TS}
end
section
variable {K : PySem.W.Frag} {Er : Exc -> Hp -> Prop} {S : SC} {OO OO' OO1 OO2 : List (List XG)} {σ : St} {α β γ ρ ι δ ε ζ α1 α3 α4 : Type}
variable {Fd : Ends -> β -> Hp -> Prop} [fd : FdOk Fd] {u : TS}
end
end L2
namespace L2
open PySem
end L2
namespace L2
open PySem PySem.Spec PyProof.Rows
section
variable {prog : Program} {w : World} {A : Around} {E : Value -> Shared -> Prop} {s : Shared} {a : Addr} {ns : List Int}
end
section
variable {prog : Program} {w : World} {A : Around} {E : Value -> Shared -> Prop} {s : Shared}
end
section
variable {M : Model} {A : Around} {E : Value -> Shared -> Prop} {s : Shared}
end
section
variable {prog : Program} {w : World} {A : Around} {E : Value -> Shared -> Prop} {s : Shared} {a : Addr} {o : Obj} {es : Array (Int × Value)} {ep : Nat} {t : SetTable}
end
section
variable {prog : Program} {w : World} {A : Around} {E : Value -> Shared -> Prop} {s : Shared} {a I tp : Addr} {o : Obj} {es : Array (Int × Value)} {ep : Nat} {t : SetTable} {L : List (Int × Value)}
end
section
variable {prog : Program} {w : World} {A : Around} {E : Value -> Shared -> Prop} {s : Shared} {a I tp : Addr} {o : Obj} {es : Array (Int × Value)} {ep : Nat} {t : SetTable} {L : List (Int × Value)} {ns : List Int}
end
section
variable {X : Cx}
end
section
variable {K : PySem.W.Frag} {Er : Exc -> Hp -> Prop} {S : SC} {OO : List (List XG)} {σ : St}
variable {u : TS} {α γ ρ ι : Type}
variable {β : Type} {Fd : Ends -> β -> Hp -> Prop} [fd : FdOk Fd]
end
section
variable {α β γ : Type}
theorem Ii [DecidableEq α] [DecidableEq β] {r : Enc α} {r1 : Enc β} {r2 : Enc γ} {d : Nat} (E : EqOk r d) (c : EqOk r1 d) : Crs (rP3 r r1 r2) (rP2 r r1) (d + 1):=by
  refine ⟨λI ⟨a, x, y, z, e, q, _⟩ ⟨b, x', y', e', q', _⟩=>?_, ?_, ?_⟩
  . rw [e] at e'; cases e'
    have:=I.tuple_inj (SqT.of q) (SqT.of q')
    cases this
  . rintro X pins σ H s x y v u ⟨a1, a2, a3⟩ ⟨b1, b2⟩ A I rx ry ⟨a, x1, x2, x3, rfl, q, p1, p2, p3⟩ ⟨b, y1, y2, rfl, q', p4, p5⟩ hu
    cases rx; cases ry
    have hne : a ≠ b:=λe=>by
      subst e
      have:=I.tuple_inj (SqT.of q) (SqT.of q')
      cases this
    obtain ⟨i1, z1, l1, _⟩:=I.tuple (SqT.of q)
    obtain ⟨i2, z2, l2, _⟩:=I.tuple (SqT.of q')
    obtain ⟨u1, u2, u3, rfl, e1, e2, e3⟩:=BT z1
    obtain ⟨w1, w2, rfl, g1, g2⟩:=Ym.two z2
    have it : ∀ j (h1 : j < [u1, u2, u3].toArray.size) (h2 : j < [w1, w2].toArray.size), SeqAt.EqAt A.in1 s [u1, u2, u3].toArray[j] [w1, w2].toArray[j] ((λj=>if j = 0 then decide (a1 = b1) else decide (a2 = b2)) j):=by
      intro j h1 h2
      have hj : j = 0 ∨ j = 1:=by
        have h1' : j < 2:=h2
        lia
      rcases hj with rfl | rfl
      . exact E.eq (A:=A.in1) I e1 g1 p1 p4 (by rw [Zb]; lia)
      . exact c.eq (A:=A.in1) I e2 g2 p2 p5 (by rw [Zb]; lia)
    have R:=SeqAt.RcAt.tuples (A:=A) l1 l2 (by lia) it
    have N:=SeqAt.RcNeAt.tuples (A:=A) l1 l2 (by lia) it
    have R' : SeqAt.RcAt A s (.ref a) (.ref b) false:=by simpa using R
    exact ⟨SeqAt.EqAt.of_refs hne R', R', by simpa using N⟩
  . rintro X pins σ H s x y v u ⟨a1, a2, a3⟩ ⟨b1, b2⟩ A I rx ry ⟨b, y1, y2, rfl, q', p4, p5⟩ ⟨a, x1, x2, x3, rfl, q, p1, p2, p3⟩ hu
    cases rx; cases ry
    have hne : b ≠ a:=λe=>by
      subst e
      have:=I.tuple_inj (SqT.of q) (SqT.of q')
      cases this
    obtain ⟨i1, z1, l1, _⟩:=I.tuple (SqT.of q)
    obtain ⟨i2, z2, l2, _⟩:=I.tuple (SqT.of q')
    obtain ⟨u1, u2, u3, rfl, e1, e2, e3⟩:=BT z1
    obtain ⟨w1, w2, rfl, g1, g2⟩:=Ym.two z2
    have it : ∀ j (h1 : j < [w1, w2].toArray.size) (h2 : j < [u1, u2, u3].toArray.size), SeqAt.EqAt A.in1 s [w1, w2].toArray[j] [u1, u2, u3].toArray[j] ((λj=>if j = 0 then decide (b1 = a1) else decide (b2 = a2)) j):=by
      intro j h1 h2
      have hj : j = 0 ∨ j = 1:=by
        have h1' : j < 2:=h1
        lia
      rcases hj with rfl | rfl
      . exact E.eq (A:=A.in1) I g1 e1 p4 p1 (by rw [Zb]; lia)
      . exact c.eq (A:=A.in1) I g2 e2 p5 p2 (by rw [Zb]; lia)
    have R:=SeqAt.RcAt.tuples (A:=A) l2 l1 (by lia) it
    have N:=SeqAt.RcNeAt.tuples (A:=A) l2 l1 (by lia) it
    have R' : SeqAt.RcAt A s (.ref b) (.ref a) false:=by simpa using R
    exact ⟨SeqAt.EqAt.of_refs hne R', R', by simpa using N⟩
end
section
variable {K : PySem.W.Frag} {Er : Exc -> Hp -> Prop} {S : SC} {OO : List (List XG)} {σ : St} {α1 α2 α3 α4 ρ : Type} {mg : Str -> Option Value} {E : XK}
theorem Kf {ta tb tc td : TE} {r1 : Enc α1} {r2 : Enc α2} {r3 : Enc α3} {r4 : Enc α4} [z1 : MonoE r1] [z2 : MonoE r2] [z3 : MonoE r3] {o : OE ρ} [FlatO o] {f : α1 -> α2 -> α3 -> α4 -> Rs ρ} {ma : Rs α1} {mb : Rs α2} {mc : Rs α3} {md : Rs α4} (ha : EvB K (ErE mg E) S OO σ ta r1 ma) (hb : EvB K (ErE mg E) S OO σ tb r2 mb) (hc : EvB K (ErE mg E) S OO σ tc r3 mc) (hd : EvB K (ErE mg E) S OO σ td r4 md) :
    Ev K (ErE mg E) S OO OO σ (Ve (IW mg r1 r2 r3 r4 o f K) [] E (XN ta (XN tb (XN tc (XN td ZX))))) o (ma.bind λa=>mb.bind λb=>mc.bind λc=>md.bind λd=>f a b c d):=λH Q w s P=>
  ha.run w s FO.tr P λa x H1 s1 w1 q1 r1 P1=>hb.run w1 q1 FO.tr P1 λb y H2 s2 w2 q2 r2 P2=>hc.run w2 q2 FO.tr P2 λc z H3 s3 w3 q3 r3 P3=>hd.run w3 q3 FO.tr P3 λd u H4 s4 w4 q4 r4 P4=>⟨x, y, z, u, a, b, c, d, rfl, z1.mono (s2.trans (s3.trans s4)) r1, z2.mono (s3.trans s4) r2, z3.mono s4 r3, r4, ⟨GS w4 P4⟩⟩
end
section
variable {X : Cx} {tg : Expr}
end
section
variable {K : PySem.W.Frag} {Er : Exc -> Hp -> Prop} {S : SC} {OO OO' : List (List XG)} {σ : St} {α β γ : Type}
theorem P3.reverse {δ : Type} {F : α -> γ -> δ -> Prop} : ∀ {l m n}, P3 F l m n -> P3 F l.reverse m.reverse n.reverse:=λp=>by
  induction p with
  | nil=>exact .nil
  | cons r _ ih=>rw [List.reverse_cons, List.reverse_cons, List.reverse_cons]; exact ih.snoc r
variable {u : TS} {Fd : Ends -> β -> Hp -> Prop} [fd : FdOk Fd]
end
section
variable {K : PySem.W.Frag} {Er : Exc -> Hp -> Prop} {S : SC} {OO : List (List XG)} {σ : St} {α β γ ι : Type} {u : TS} {Fd : Ends -> β -> Hp -> Prop} [fd : FdOk Fd]
end
section
variable {K : PySem.W.Frag} {Er : Exc -> Hp -> Prop} {S : SC} {OO : List (List XG)} {σ : St} {α β : Type}
end
end L2
namespace My
open PySem L2
noncomputable abbrev XB : List Str:=["PlaitError", "NoCrossing", "NoUnit", "NoPrime"]
noncomputable def Vr (a_0 : ((List (List Int)) × (List (Int × Int)))) (a_1 : Int) : Rs (Int × Int):=(Rs.bind (Rs.bind (Rs.bind (Rs.ok a_0) λx1=>(Rs.ok x1.1)) λx2=>(Rs.ok (Ji x2))) λx22=>(Rs.bind (F0 x22 () (λg5 a7=>(Rs.bind (Rs.bind (Rs.ok a_1) λx9=>(Rs.bind (Rs.ok a7.2) λx10=>(Rs.ok (decide (x9 ∈ x10))))) λx11=>(if x11 = true then (Rs.bind (Rs.bind (Rs.ok a7.1) λx14=>(Rs.bind (Rs.bind (Rs.ok a7.2) λx12=>(Rs.bind (Rs.ok a_1) λx13=>(Ey x12 x13))) λx15=>(Rs.ok (x14, x15)))) λx17=>(Rs.ok (Ctl.ret x17))) else (Rs.bind (Rs.ok ()) λx16=>(Rs.ok (Ctl.nx x16))))))) (Qu λg18=>(Rs.bind (Rs.bind (Rs.ok a_1) λx20=>(chk (x20.natAbs.log2 < 1920) (Rs.ok ()))) λ_=>(Rs.err ⟨"NoCrossing", Pay.non⟩)))))
noncomputable def XM (a_0 : (List Int)) : Rs Int:=(Rs.bind (Rs.bind (Rs.ok a_0) λx6=>(Ek x6 (λa4=>(Rs.bind (Rs.ok a4) λx7=>(Rs.bind (Rs.ok (0 : Int)) λx8=>(Rs.ok (decide (x7 < x8)))))) (λa4=>(Rs.ok a4)))) λa1=>(Rs.bind (Rs.bind (Rs.ok a1) λx10=>(Rs.ok (x10.length : Int))) λx11=>(Rs.bind (Rs.ok (1 : Int)) λx12=>(Rs.ok (max x11 x12)))))
noncomputable def YD (a_0 : (List Int)) (a_1 : Int) : Rs (List Int):=(Rs.bind (Rs.bind (Rs.ok a_0) λx4=>(noE (XM x4))) λa1=>(Rs.bind (Rs.ok (0 : Int)) λa5=>(Rs.bind (Rs.bind (Rs.bind (Rs.ok a_1) λx11=>(Rs.bind (Rs.ok []) λx12=>(Rs.ok (x11 :: x12)))) λx10=>(chk (x10.length <= sizeLine) (Rs.ok x10))) λa7=>(Rs.bind (Rs.bind (Rs.ok a_0) λx15=>(Rs.bind (Rs.ok none) λx16=>(Rs.bind (Rs.bind (Rs.bind (Rs.ok (1 : Int)) λx13=>(Rs.ok (-x13))) λx14=>(Rs.ok (some x14))) λx17=>(Rs.ok (FQ x15 x16 x17))))) λx43=>(Rs.bind (forN x43 (a5, a7) (λg20 a22=>(Rs.bind (Rs.bind (Rs.bind (Rs.ok a22) λx24=>(Rs.bind (Rs.ok (0 : Int)) λx25=>(Rs.ok (decide (x24 < x25))))) λx26=>(if x26 = true then (Rs.bind (Rs.ok (1 : Int)) λx29=>((λ(a31 : Int)=>(Rs.ok (a31))) (g20.1 + x29))) else (Rs.ok (g20.1)))) λg33=>(Rs.bind (Rs.bind (Rs.ok a_1) λx36=>(Rs.bind (Rs.bind (Rs.ok g33) λx34=>(Rs.bind (Rs.ok a1) λx35=>(ZK x34 x35))) λx37=>(Rs.ok (x36 + x37)))) λa38=>(chk (g20.2.length < sizeLine) ((λa40=>(Rs.ok (g33, a40))) (g20.2 ++ [a38]))))))) λg41=>(Rs.ok g41.2))))))
noncomputable def VO (a_0 : ((List (List Int)) × (List (Int × Int)))) : Rs (List (List Int)):=(Rs.bind (Rs.ok []) λa1=>(Rs.bind (Rs.ok (0 : Int)) λa4=>(Rs.bind (Rs.bind (Rs.ok a_0) λx6=>(Rs.ok x6.1)) λx26=>(Rs.bind (forN x26 (a4, a1) (λg9 a11=>(Rs.bind (Rs.bind (Rs.ok a11) λx14=>(Rs.bind (Rs.ok g9.1) λx15=>(noE (YD x14 x15)))) λa16=>(chk (g9.2.length < sizeLine) ((λa18=>(Rs.bind (Rs.bind (Rs.ok a11) λx20=>(noE (XM x20))) λx21=>((λ(a23 : Int)=>(Rs.ok (a23, a18))) (g9.1 + x21)))) (g9.2 ++ [a16])))))) λg24=>(Rs.ok g24.2)))))
noncomputable def YH (a_0 : ((List (List Int)) × (List (Int × Int)))) : Rs Int:=(Rs.bind (Rs.bind (Rs.bind (Rs.ok a_0) λx2=>(Rs.ok x2.1)) λx6=>(VG x6 (λa4=>(Rs.bind (Rs.ok a4) λx8=>(noE (XM x8)))))) λx9=>(Rs.ok (x9.sum)))
noncomputable def ZI (a_0 : ((List (List Int)) × (List (Int × Int)))) : Rs (List (Int × Int × Int × Int × Int)):=(Rs.bind (Rs.bind (Rs.ok a_0) λx4=>(noE (VO x4))) λa1=>(Rs.bind (Rs.ok []) λa5=>(Rs.bind (Rs.bind (Rs.ok a_0) λx8=>(Rs.ok x8.2)) λx62=>(Rs.bind (forN x62 (a5) (λg11 a13=>(Rs.bind (Rs.bind (Rs.ok a_0) λx17=>(Rs.bind (Rs.ok a13.1) λx18=>(Vr x17 x18))) λa15=>(Rs.bind (Rs.bind (Rs.ok a_0) λx22=>(Rs.bind (Rs.bind (Rs.ok a13.1) λx21=>(Rs.ok (-x21))) λx23=>(Vr x22 x23))) λa19=>(Rs.bind (Rs.bind (Rs.bind (Rs.ok a1) λx27=>(Rs.bind (Rs.bind (Rs.ok a15) λx26=>(Rs.ok x26.1)) λx28=>(atR x27 x28))) λx30=>(Rs.bind (Rs.bind (Rs.ok a15) λx29=>(Rs.ok x29.2)) λx31=>(atR x30 x31))) λa24=>(Rs.bind (Rs.bind (Rs.ok a1) λx35=>(Rs.bind (Rs.bind (Rs.ok a19) λx34=>(Rs.ok x34.1)) λx36=>(atR x35 x36))) λa32=>(Rs.bind (Rs.bind (Rs.ok a32) λx40=>(Rs.bind (Rs.bind (Rs.ok a19) λx39=>(Rs.ok x39.2)) λx41=>(atR x40 x41))) λa37=>(Rs.bind (Rs.bind (Rs.ok a32) λx50=>(Rs.bind (Rs.bind (Rs.bind (Rs.bind (Rs.ok a19) λx44=>(Rs.ok x44.2)) λx45=>(Rs.bind (Rs.ok (1 : Int)) λx46=>(Rs.ok (x45 + x46)))) λx48=>(Rs.bind (Rs.bind (Rs.ok a32) λx47=>(Rs.ok (x47.length : Int))) λx49=>(ZK x48 x49))) λx51=>(atR x50 x51))) λa42=>(Rs.bind (Rs.bind (Rs.ok a13.1) λx52=>(Rs.bind (Rs.ok a13.2) λx53=>(Rs.bind (Rs.ok a24) λx54=>(Rs.bind (Rs.ok a37) λx55=>(Rs.bind (Rs.ok a42) λx56=>(Rs.ok (x52, x53, x54, x55, x56))))))) λa57=>(chk (g11.length < sizeLine) ((λa59=>(Rs.ok (a59))) (g11 ++ [a57])))))))))))) λg60=>(Rs.ok g60)))))
noncomputable def VS (a_0 : ((List (List Int)) × (List (Int × Int)))) : Rs (List (Int × Int × Int)):=(Rs.bind (Rs.ok []) λa1=>(Rs.bind (Rs.bind (Rs.ok a_0) λx4=>(ZI x4)) λx25=>(Rs.bind (forN x25 (a1) (λg7 a9=>(Rs.bind (Rs.bind (Rs.bind (Rs.ok a9.2.1) λx11=>(Rs.bind (Rs.ok (1 : Int)) λx12=>(Rs.ok (decide (x11 = x12))))) λx19=>(if x19 = true then (Rs.bind (Rs.ok a9.2.2.2.1) λx13=>(Rs.bind (Rs.ok a9.2.2.1) λx14=>(Rs.bind (Rs.ok a9.2.2.2.2) λx15=>(Rs.ok (x13, x14, x15))))) else (Rs.bind (Rs.ok a9.2.2.2.2) λx16=>(Rs.bind (Rs.ok a9.2.2.1) λx17=>(Rs.bind (Rs.ok a9.2.2.2.1) λx18=>(Rs.ok (x16, x17, x18))))))) λa20=>(chk (g7.length < sizeLine) ((λa22=>(Rs.ok (a22))) (g7 ++ [a20])))))) λg23=>(Rs.ok g23))))
noncomputable def Yo (a_0 : Int) : Rs Bool:=(Rs.bind (orR (Rs.bind (Rs.ok a_0) λx1=>(Rs.bind (Rs.ok (2 : Int)) λx2=>(Rs.ok (decide (x1 < x2))))) (Rs.bind (Rs.ok a_0) λx3=>(Rs.bind (Rs.ok (100000 : Int)) λx4=>(Rs.ok (decide (x4 < x3)))))) λx5=>(if x5 = true then (Rs.ok false) else (Rs.bind (Rs.ok (2 : Int)) λa6=>(Rs.bind (Z7 (a_0.natAbs + 2) (a6) (λg10=>(Rs.bind (Rs.bind (Rs.ok g10) λx12=>(Rs.bind (Rs.ok g10) λx13=>(Z5 x12 x13))) λx14=>(Rs.bind (Rs.ok a_0) λx15=>(Rs.ok (decide (x14 <= x15)))))) (λg10=>(Rs.bind (Rs.bind (Rs.bind (Rs.ok a_0) λx16=>(Rs.bind (Rs.ok g10) λx17=>(ZK x16 x17))) λx18=>(Rs.bind (Rs.ok (0 : Int)) λx19=>(Rs.ok (decide (x18 = x19))))) λx20=>(if x20 = true then (Rs.bind (Rs.ok false) λx25=>(Rs.ok (Ctl.ret x25))) else (Rs.bind (Rs.ok (1 : Int)) λx21=>((λ(a23 : Int)=>(Rs.bind (Rs.ok (a23)) λx24=>(Rs.ok (Ctl.nx x24)))) (g10 + x21))))))) (Qu λg26=>(Rs.ok true))))))
noncomputable def Xx (a_0 : Int) (a_1 : Int) : Rs Unit:=(Rs.bind (Rs.bind (Rs.bind (Rs.ok a_0) λx6=>(noE (Yo x6))) λx7=>(Rs.ok (!x7))) λx8=>(if x8 = true then (Rs.bind ((Rs.bind (Rs.bind (Rs.ok a_0) λx10=>(chk (x10.natAbs.log2 < 1920) (Rs.bind (Rs.ok (100000 : Int)) λx9=>(chk (x9.natAbs.log2 < 1920) (Rs.ok ()))))) λ_=>(Rs.err ⟨"NoPrime", Pay.non⟩)) : Rs Unit) λ_=>Rs.bad) else (Rs.bind (Rs.bind (Rs.bind (Rs.ok a_1) λx12=>(Rs.bind (Rs.ok a_0) λx13=>(ZK x12 x13))) λx14=>(Rs.bind (Rs.ok (0 : Int)) λx15=>(Rs.ok (decide (x14 = x15))))) λx16=>(if x16 = true then (Rs.bind ((Rs.bind (Rs.bind (Rs.ok a_0) λx18=>(chk (x18.natAbs.log2 < 1920) (Rs.bind (Rs.ok a_1) λx17=>(chk (x17.natAbs.log2 < 1920) (Rs.ok ()))))) λ_=>(Rs.err ⟨"NoUnit", Pay.non⟩)) : Rs Unit) λ_=>Rs.bad) else (Rs.ok ())))))
noncomputable def X4 (a_0 : ((List (List Int)) × (List (Int × Int)))) (a_1 : Int) (a_2 : Int) : Rs (List (List Int)):=(Rs.bind (Rs.bind (Rs.ok a_1) λx1=>(Rs.bind (Rs.ok a_2) λx2=>(Xx x1 x2))) λx3=>(Rs.bind (Rs.bind (Rs.ok a_0) λx7=>(noE (YH x7))) λa4=>(Rs.bind (Rs.ok []) λa8=>(Rs.bind (Rs.bind (Rs.ok a_0) λx11=>(VS x11)) λx54=>(Rs.bind (forN x54 (a8) (λg14 a16=>(Rs.bind (Rs.bind (Rs.bind (Rs.bind (Rs.ok (0 : Int)) λx24=>(Rs.bind (Rs.ok []) λx25=>(Rs.ok (x24 :: x25)))) λx23=>(chk (x23.length <= sizeLine) (Rs.ok x23))) λx21=>(Rs.bind (Rs.ok a4) λx22=>(Fo x21 x22))) λa18=>(Rs.bind (Rs.ok a16.1) λx28=>(Rs.bind (atR a18 x28) λx29=>(Rs.bind (Rs.ok a_2) λx30=>(Rs.bind (QZ a18 x28 (x29 + x30)) λa26=>(Rs.bind (Rs.ok a16.2.1) λx35=>(Rs.bind (atR a26 x35) λx36=>(Rs.bind (Rs.bind (Rs.ok (1 : Int)) λx31=>(Rs.bind (Rs.ok a_2) λx32=>(Rs.ok (x31 - x32)))) λx37=>(Rs.bind (QZ a26 x35 (x36 + x37)) λa33=>(Rs.bind (Rs.ok a16.2.2) λx40=>(Rs.bind (atR a33 x40) λx41=>(Rs.bind (Rs.ok (1 : Int)) λx42=>(Rs.bind (QZ a33 x40 (x41 - x42)) λa38=>(Rs.bind (Rs.bind (Rs.ok a38) λx46=>(VG x46 (λa44=>(Rs.bind (Rs.ok a44) λx47=>(Rs.bind (Rs.ok a_1) λx48=>(ZK x47 x48)))))) λa49=>(chk (g14.length < sizeLine) ((λa51=>(Rs.ok (a51))) (g14 ++ [a49]))))))))))))))))))) λg52=>(Rs.ok g52))))))
noncomputable def Qr (a_0 : (List Int)) (a_1 : (List Int)) : Rs Int:=(Rs.bind (Rs.bind (Rs.bind (Rs.ok a_0) λx2=>(Rs.bind (Rs.ok a_1) λx3=>(Rs.ok (x2.zip x3)))) λx7=>(VG x7 (λa5=>(Rs.bind (Rs.ok a5.1) λx8=>(Rs.bind (Rs.ok a5.2) λx9=>(Z5 x8 x9)))))) λx10=>(Rs.ok (x10.sum)))
noncomputable def Qb (a_0 : ((List (List Int)) × (List (Int × Int)))) (a_1 : Int) (a_2 : Int) (a_3 : (List Int)) : Rs Bool:=(Rs.bind (Rs.bind (Rs.ok a_0) λx3=>(Rs.bind (Rs.ok a_1) λx4=>(Rs.bind (Rs.ok a_2) λx5=>(X4 x3 x4 x5)))) λa1=>(Rs.bind (Rs.bind (Rs.ok a1) λx10=>(VG x10 (λa8=>(Rs.bind (Rs.bind (Rs.bind (Rs.ok a8) λx12=>(Rs.bind (Rs.ok a_3) λx13=>(noE (Qr x12 x13)))) λx14=>(Rs.bind (Rs.ok a_1) λx15=>(ZK x14 x15))) λx16=>(Rs.bind (Rs.ok (0 : Int)) λx17=>(Rs.ok (decide (x16 = x17)))))))) λx18=>(Rs.ok (x18.all id))))
noncomputable def Jj (a_0 : (List Int)) (a_1 : Int) (a_2 : Int) : Rs (List Int):=(Rs.bind (Rs.ok a_0) λx4=>(VG x4 (λa2=>(Rs.bind (Rs.bind (Rs.ok a_1) λx5=>(Rs.bind (Rs.ok a2) λx6=>(Z5 x5 x6))) λx7=>(Rs.bind (Rs.ok a_2) λx8=>(ZK x7 x8))))))
noncomputable def YE (a_0 : Int) (a_1 : Int) : Rs Int:=(Rs.bind (Rs.ok (1 : Int)) λa1=>(Rs.bind (Rs.ok a_0) λa3=>(Rs.bind (Rs.bind (Rs.ok a_1) λx7=>(Rs.bind (Rs.ok (2 : Int)) λx8=>(Rs.ok (x7 - x8)))) λa5=>(Rs.bind (Qc (100) (a3, a5, a1) (λg11=>(Rs.bind (Rs.ok g11.2.1) λx13=>(Rs.bind (Rs.ok (0 : Int)) λx14=>(Rs.ok (decide (x14 < x13)))))) (λg11=>(Rs.bind (Rs.bind (Rs.bind (Rs.bind (Rs.ok g11.2.1) λx15=>(Rs.bind (Rs.ok (2 : Int)) λx16=>(ZK x15 x16))) λx17=>(Rs.bind (Rs.ok (1 : Int)) λx18=>(Rs.ok (decide (x17 = x18))))) λx19=>(if x19 = true then (Rs.bind (Rs.bind (Rs.bind (Rs.ok g11.2.2) λx24=>(Rs.bind (Rs.ok g11.1) λx25=>(Z5 x24 x25))) λx26=>(Rs.bind (Rs.ok a_1) λx27=>(ZK x26 x27))) λa22=>(Rs.ok (a22))) else (Rs.ok (g11.2.2)))) λg29=>(Rs.bind (Rs.bind (Rs.bind (Rs.ok g11.1) λx32=>(Rs.bind (Rs.ok g11.1) λx33=>(Z5 x32 x33))) λx34=>(Rs.bind (Rs.ok a_1) λx35=>(ZK x34 x35))) λa30=>(Rs.bind (Rs.ok (2 : Int)) λx36=>(Rs.bind (L6 g11.2.1 x36) λa38=>(Rs.ok (a30, a38, g29)))))))) λg39=>(Rs.ok g39.2.2)))))
noncomputable def Zl (a_0 : (List Int)) (a_1 : (List Int)) (a_2 : Int) (a_3 : Int) : Rs (List Int):=(Rs.bind (Rs.bind (Rs.ok a_0) λx1=>(Rs.bind (Rs.ok a_1) λx2=>(Rs.ok (x1.zip x2)))) λx6=>(VG x6 (λa4=>(Rs.bind (Rs.bind (Rs.ok a4.1) λx11=>(Rs.bind (Rs.bind (Rs.bind (Rs.ok a_0) λx7=>(Rs.bind (Rs.ok a_2) λx8=>(atR x7 x8))) λx9=>(Rs.bind (Rs.ok a4.2) λx10=>(Z5 x9 x10))) λx12=>(Rs.ok (x11 - x12)))) λx13=>(Rs.bind (Rs.ok a_3) λx14=>(ZK x13 x14))))))
noncomputable def Zv (a_0 : (List (List Int))) (a_1 : Int) (a_2 : Int) : Rs (List (Int × (List Int))):=(Rs.bind (Rs.ok []) λa1=>(Rs.bind (Rs.ok a_0) λa4=>(Rs.bind (Rs.bind (Rs.ok a_1) λx6=>(GZ 0 x6)) λx81=>(Rs.bind (forN x81 (a4, a1) (λg9 a11=>(Rs.bind (Rs.bind (Rs.ok g9.1) λx18=>(Ek x18 (λa16=>(Rs.bind (Rs.bind (Rs.ok a16) λx19=>(Rs.bind (Rs.ok a11) λx20=>(atR x19 x20))) λx21=>(Rs.bind (Rs.ok (0 : Int)) λx22=>(Rs.ok (!(decide (x21 = x22))))))) (λa16=>(Rs.ok a16)))) λa13=>(Rs.bind (Rs.bind (Rs.bind (Rs.bind (Rs.ok a13) λx23=>(Rs.ok (x23.length : Int))) λx24=>(Rs.bind (Rs.ok (0 : Int)) λx25=>(Rs.ok (decide (x25 < x24))))) λx26=>(if x26 = true then (Rs.bind (Rs.bind (Rs.bind (Rs.ok a13) λx33=>(Rs.bind (Rs.ok (0 : Int)) λx34=>(atR x33 x34))) λx42=>(Rs.bind (Rs.bind (Rs.bind (Rs.bind (Rs.ok a13) λx36=>(Rs.bind (Rs.ok (0 : Int)) λx37=>(atR x36 x37))) λx38=>(Rs.bind (Rs.ok a11) λx39=>(atR x38 x39))) λx40=>(Rs.bind (Rs.ok a_2) λx41=>(noE (YE x40 x41)))) λx43=>(Rs.bind (Rs.ok a_2) λx44=>(noE (Jj x42 x43 x44))))) λa29=>(Rs.bind (Rs.bind (Rs.ok g9.1) λx50=>(VG x50 (λa48=>(Rs.bind (Rs.ok a48) λx52=>(Rs.bind (Rs.ok a29) λx53=>(Rs.bind (Rs.ok a11) λx54=>(Rs.bind (Rs.ok a_2) λx55=>(noE (Zl x52 x53 x54 x55))))))))) λa45=>(Rs.bind (Rs.bind (Rs.bind (Rs.ok g9.2) λx64=>(VG x64 (λa62=>(Rs.bind (Rs.ok a62.1) λx70=>(Rs.bind (Rs.bind (Rs.ok a62.2) λx66=>(Rs.bind (Rs.ok a29) λx67=>(Rs.bind (Rs.ok a11) λx68=>(Rs.bind (Rs.ok a_2) λx69=>(noE (Zl x66 x67 x68 x69)))))) λx71=>(Rs.ok (x70, x71))))))) λx59=>(Rs.bind (Rs.bind (Rs.bind (Rs.bind (Rs.ok a11) λx73=>(Rs.bind (Rs.ok a29) λx74=>(Rs.ok (x73, x74)))) λx75=>(Rs.bind (Rs.ok []) λx76=>(Rs.ok (x75 :: x76)))) λx72=>(chk (x72.length <= sizeLine) (Rs.ok x72))) λx60=>(FY x59 x60))) λa56=>(Rs.ok (a45, a56))))) else (Rs.ok (g9.1, g9.2)))) λg78=>(Rs.ok (g78.1, g78.2)))))) λg79=>(Rs.ok g79.2)))))
noncomputable def Js (a_0 : Int) (a_1 : Int) : Rs (List Int):=(Rs.bind (Rs.bind (Rs.bind (Rs.bind (Rs.ok (0 : Int)) λx7=>(Rs.bind (Rs.ok []) λx8=>(Rs.ok (x7 :: x8)))) λx6=>(chk (x6.length <= sizeLine) (Rs.ok x6))) λx4=>(Rs.bind (Rs.ok a_0) λx5=>(Fo x4 x5))) λa1=>(Rs.bind (Rs.ok (1 : Int)) λx9=>(Rs.bind (Rs.ok a_1) λx10=>(Rs.bind (QZ a1 x10 x9) λa11=>(Rs.ok a11)))))
noncomputable def YF (a_0 : (List (List Int))) : Rs (List (List Int)):=(Rs.bind (Rs.bind (Rs.ok a_0) λx1=>(Rs.ok (Ji x1))) λx5=>(VG x5 (λa3=>(Rs.bind (Rs.ok a3.2) λx6=>(Rs.bind (Rs.bind (Rs.bind (Rs.ok a_0) λx9=>(Rs.ok (x9.length : Int))) λx10=>(Rs.bind (Rs.ok a3.1) λx11=>(noE (Js x10 x11)))) λx7=>(FY x6 x7))))))
noncomputable def YB (a_0 : Int) (a_1 : (List (Int × (List Int)))) (a_2 : Int) (a_3 : Int) : Rs (List Int):=(Rs.bind (Rs.bind (Rs.ok a_2) λx5=>(Rs.bind (Rs.ok a_0) λx6=>(noE (Js x5 x6)))) λa1=>(Rs.bind (Rs.ok a_1) λx24=>(Rs.bind (forN x24 (a1) (λg9 a11=>(Rs.bind (Rs.bind (Rs.bind (Rs.bind (Rs.ok a11.2) λx13=>(Rs.bind (Rs.ok a_0) λx14=>(atR x13 x14))) λx15=>(Rs.ok (-x15))) λx16=>(Rs.bind (Rs.ok a_3) λx17=>(ZK x16 x17))) λx18=>(Rs.bind (Rs.ok a11.1) λx19=>(Rs.bind (QZ g9 x19 x18) λa20=>(Rs.ok (a20))))))) λg22=>(Rs.ok g22))))
noncomputable def Y3 (a_0 : ((List (List Int)) × (List (Int × Int)))) (a_1 : Int) (a_2 : Int) : Rs ((List Int) × (List (List Int)) × (List (Int × (List Int)))):=(Rs.bind (Rs.bind (Rs.ok a_0) λx4=>(noE (YH x4))) λa1=>(Rs.bind (Rs.bind (Rs.bind (Rs.bind (Rs.ok a_0) λx9=>(Rs.bind (Rs.ok a_1) λx10=>(Rs.bind (Rs.ok a_2) λx11=>(X4 x9 x10 x11)))) λx12=>(noE (YF x12))) λx13=>(Rs.bind (Rs.ok a1) λx14=>(Rs.bind (Rs.ok a_1) λx15=>(noE (Zv x13 x14 x15))))) λa5=>(Rs.bind (Rs.bind (Rs.ok a5) λx19=>(Rs.ok (FD [] x19))) λa16=>(Rs.bind (Rs.bind (Rs.bind (Rs.ok a1) λx23=>(GZ 0 x23)) λx27=>(Ek x27 (λa25=>(Rs.bind (Rs.ok a25) λx28=>(Rs.bind (Rs.ok a16) λx29=>(Rs.ok (!(Zd x29 x28).isSome))))) (λa25=>(Rs.ok a25)))) λa20=>(Rs.bind (Rs.bind (Rs.ok a20) λx36=>(VG x36 (λa34=>(Rs.bind (Rs.ok a34) λx39=>(Rs.bind (Rs.ok a16) λx40=>(Rs.bind (Rs.ok a1) λx41=>(Rs.bind (Rs.ok a_1) λx42=>(noE (YB x39 x40 x41 x42))))))))) λa30=>(Rs.bind (Rs.ok a20) λx53=>(Rs.bind (Rs.ok a30) λx54=>(Rs.bind (Rs.bind (Rs.ok a5) λx46=>(VG x46 (λa44=>(Rs.bind (Rs.ok a44.1) λx51=>(Rs.bind (Rs.bind (Rs.ok a44.2) λx48=>(Rs.bind (Rs.bind (Rs.ok a1) λx47=>(Rs.ok (some x47))) λx49=>(Rs.bind (Rs.ok none) λx50=>(Rs.ok (FQ x48 x49 x50))))) λx52=>(Rs.ok (x51, x52))))))) λx55=>(Rs.ok (x53, x54, x55))))))))))
noncomputable def XY (a_0 : ((List (List Int)) × (List (Int × Int)))) (a_1 : Int) (a_2 : Int) : Rs Int:=(Rs.bind (Rs.ok (1 : Int)) λa1=>(Rs.bind (Rs.bind (Rs.bind (Rs.ok a_0) λx3=>(Rs.bind (Rs.ok a_1) λx4=>(Rs.bind (Rs.ok a_2) λx5=>(Y3 x3 x4 x5)))) λx6=>(Rs.ok x6.1)) λx18=>(Rs.bind (forN x18 (a1) (λg9 a11=>(Rs.bind (Rs.ok a_1) λx13=>(Rs.bind (Z5 g9 x13) λa15=>(Rs.ok (a15)))))) λg16=>(Rs.ok g16))))
noncomputable def Vh (a_0 : (List Int)) (a_1 : Int) : Rs Int:=(Rs.bind (Rs.bind (Rs.ok a_1) λx2=>(Rs.bind (Rs.bind (Rs.ok a_0) λx1=>(Rs.ok (x1.length : Int))) λx3=>(Rs.ok (decide (x2 < x3))))) λx4=>(if x4 = true then (Rs.bind (Rs.ok a_0) λx5=>(Rs.bind (Rs.ok a_1) λx6=>(atR x5 x6))) else (Rs.bind (Rs.ok (5 : Int)) λa7=>(Rs.bind (Rs.bind (Rs.ok a_0) λx10=>(Rs.bind (Rs.ok none) λx11=>(Rs.bind (Rs.bind (Rs.ok (63 : Int)) λx9=>(Rs.ok (some x9))) λx12=>(Rs.ok (FQ x10 x11 x12))))) λx39=>(Rs.bind (forN x39 (a7) (λg15 a17=>(Rs.bind (Rs.bind (Rs.bind (Rs.bind (Rs.bind (Rs.ok g15) λx21=>(Rs.bind (Rs.ok (48271 : Int)) λx22=>(Z5 x21 x22))) λx25=>(Rs.bind (Rs.bind (Rs.ok a17) λx23=>(Rs.bind (Rs.ok (1000003 : Int)) λx24=>(ZK x23 x24))) λx26=>(Rs.ok (x25 + x26)))) λx27=>(Rs.bind (Rs.ok (1 : Int)) λx28=>(Rs.ok (x27 + x28)))) λx29=>(Rs.bind (Rs.ok (2147483647 : Int)) λx30=>(ZK x29 x30))) λa19=>(Rs.ok (a19))))) λg31=>(Rs.bind (Rs.bind (Rs.ok g31) λx35=>(Rs.bind (Rs.bind (Rs.ok (7919 : Int)) λx33=>(Rs.bind (Rs.ok a_1) λx34=>(Z5 x33 x34))) λx36=>(Rs.ok (x35 + x36)))) λx37=>(Rs.bind (Rs.ok (1000003 : Int)) λx38=>(ZK x37 x38))))))))
noncomputable def K8 (a_0 : Int) (a_1 : Int) : Rs Int:=(Rs.bind (Rs.bind (Rs.bind (Rs.bind (Rs.bind (Rs.bind (Rs.ok a_0) λx3=>(Rs.bind (Rs.ok (2147483629 : Int)) λx4=>(ZK x3 x4))) λx7=>(Rs.bind (Rs.bind (Rs.ok (1013 : Int)) λx5=>(Rs.bind (Rs.ok a_1) λx6=>(Z5 x5 x6))) λx8=>(Rs.ok (x7 + x8)))) λx9=>(Rs.bind (Rs.ok (7919 : Int)) λx10=>(Rs.ok (x9 + x10)))) λx11=>(Rs.bind (Rs.ok (3 : Int)) λx12=>(Hy x11 x12))) λx13=>(Rs.bind (Rs.ok (2147483647 : Int)) λx14=>(ZK x13 x14))) λa1=>(Rs.bind (Rs.bind (Rs.bind (Rs.bind (Rs.bind (Rs.ok a1) λx17=>(Rs.bind (Rs.ok (40699 : Int)) λx18=>(Z5 x17 x18))) λx23=>(Rs.bind (Rs.bind (Rs.bind (Rs.ok (3793 : Int)) λx19=>(Rs.bind (Rs.ok a_1) λx20=>(Z5 x19 x20))) λx21=>(Rs.bind (Rs.ok a_1) λx22=>(Z5 x21 x22))) λx24=>(Rs.ok (x23 + x24)))) λx25=>(Rs.bind (Rs.ok (11 : Int)) λx26=>(Rs.ok (x25 + x26)))) λx27=>(Rs.bind (Rs.ok (2147483399 : Int)) λx28=>(ZK x27 x28))) λa15=>(Rs.bind (Rs.ok a15) λx29=>(Rs.bind (Rs.ok (101 : Int)) λx30=>(Le x29 x30)))))
noncomputable def Kg (a_0 : (List Int)) (a_1 : Int) (a_2 : (List Int)) : Rs (List Int):=(Rs.bind (Rs.bind (Rs.ok a_0) λx4=>(Rs.bind (Rs.ok a_1) λx5=>(noE (Vh x4 x5)))) λa1=>(Rs.bind (Rs.ok a1) λa6=>(Rs.bind (Rs.ok []) λa8=>(Rs.bind (Rs.bind (Rs.bind (Rs.ok a_2) λx11=>(Rs.ok (x11.length : Int))) λx12=>(GZ 0 x12)) λx81=>(Rs.bind (forN x81 (a8, a6) (λg15 a17=>(Rs.bind (Rs.bind (Rs.bind (Rs.ok a1) λx21=>(Rs.bind (Rs.bind (Rs.ok (10 : Int)) λx19=>(Rs.bind (Rs.ok (18 : Int)) λx20=>(Hy x19 x20))) λx22=>(Rs.ok (decide (x21 < x22))))) λx23=>(if x23 = true then (Rs.bind (Rs.bind (Rs.bind (Rs.ok a1) λx27=>(Rs.bind (Rs.ok a17) λx28=>(noE (K8 x27 x28)))) λx31=>(Rs.bind (Rs.bind (Rs.ok a_2) λx29=>(Rs.bind (Rs.ok a17) λx30=>(atR x29 x30))) λx32=>(ZK x31 x32))) λa33=>(chk (g15.1.length < sizeLine) ((λa35=>(Rs.ok (a35, g15.2))) (g15.1 ++ [a33])))) else (Rs.bind (Rs.bind (Rs.bind (Rs.ok g15.2) λx36=>(Rs.bind (Rs.ok (0 : Int)) λx37=>(Rs.ok (decide (x37 < x36))))) λx38=>(if x38 = true then (Rs.bind (Rs.bind (Rs.ok g15.2) λx43=>(Rs.bind (Rs.bind (Rs.ok a_2) λx41=>(Rs.bind (Rs.ok a17) λx42=>(atR x41 x42))) λx44=>(ZK x43 x44))) λa45=>(chk (g15.1.length < sizeLine) ((λa47=>(Rs.bind (Rs.bind (Rs.ok g15.2) λx52=>(Rs.bind (Rs.bind (Rs.ok a_2) λx50=>(Rs.bind (Rs.ok a17) λx51=>(atR x50 x51))) λx53=>(Le x52 x53))) λa48=>(Rs.ok (a48, a47)))) (g15.1 ++ [a45])))) else (Rs.bind (Rs.bind (Rs.ok a_0) λx63=>(Rs.bind (Rs.bind (Rs.bind (Rs.bind (Rs.ok a_1) λx57=>(Rs.bind (Rs.ok (1 : Int)) λx58=>(Rs.ok (x57 + x58)))) λx59=>(Rs.bind (Rs.ok a17) λx60=>(Rs.ok (x59 + x60)))) λx61=>(Rs.bind (Rs.ok (63 : Int)) λx62=>(ZK x61 x62))) λx64=>(noE (Vh x63 x64)))) λa54=>(Rs.bind (Rs.bind (Rs.bind (Rs.ok a54) λx66=>(Rs.bind (Rs.ok a17) λx67=>(noE (K8 x66 x67)))) λx70=>(Rs.bind (Rs.bind (Rs.ok a_2) λx68=>(Rs.bind (Rs.ok a17) λx69=>(atR x68 x69))) λx71=>(ZK x70 x71))) λa72=>(chk (g15.1.length < sizeLine) ((λa74=>(Rs.ok (g15.2, a74))) (g15.1 ++ [a72]))))))) λg76=>(Rs.ok (g76.2, g76.1))))) λg78=>(Rs.ok (g78.1, g78.2))))) λg79=>(Rs.ok g79.1))))))
noncomputable def Jb (a_0 : (List Int)) (a_1 : (List Int)) : Rs (List Int):=(Rs.bind (Rs.bind (Rs.ok a_0) λx4=>(Rs.ok x4)) λa1=>(Rs.bind (Rs.ok []) λa5=>(Rs.bind (Rs.bind (Rs.bind (Rs.ok a_0) λx8=>(Rs.ok (x8.length : Int))) λx9=>(GZ 0 x9)) λx34=>(Rs.bind (forN x34 (a5, a1) (λg12 a14=>(Rs.bind (Rs.bind (Rs.bind (Rs.ok a_1) λx20=>(Rs.bind (Rs.bind (Rs.bind (Rs.ok (8 : Int)) λx16=>(Rs.bind (Rs.ok a14) λx17=>(Z5 x16 x17))) λx18=>(Rs.bind (Rs.ok (9 : Int)) λx19=>(Rs.ok (x18 + x19)))) λx21=>(atR x20 x21))) λx23=>(Rs.bind (Rs.bind (Rs.ok g12.2) λx22=>(Rs.ok (x22.length : Int))) λx24=>(ZK x23 x24))) λx30=>(Rs.bind (Cv g12.2 x30) λp31=>(chk (g12.1.length < sizeLine) ((λa26 a27=>(Rs.ok (a27, a26))) p31.2 (g12.1 ++ [p31.1]))))))) λg32=>(Rs.ok g32.1)))))
noncomputable def Fu (a_0 : (List Int)) (a_1 : (List Int)) (a_2 : Int) : Rs (List (List Int)):=(Rs.bind (Rs.ok []) λa1=>(Rs.bind (Rs.ok a_0) λx70=>(Rs.bind (forN x70 (a1) (λg6 a8=>(Rs.bind (Rs.bind (Rs.bind (Rs.ok a8) λx14=>(Rs.bind (Rs.bind (Rs.bind (Rs.ok a8) λx11=>(Rs.ok (-x11))) λx12=>(Rs.bind (Rs.ok []) λx13=>(Rs.ok (x12 :: x13)))) λx15=>(Rs.ok (x14 :: x15)))) λx10=>(chk (x10.length <= sizeLine) (Rs.ok x10))) λa16=>(chk (g6.length + a16.length <= sizeLine) ((λa18=>(Rs.ok (a18))) (g6 ++ a16)))))) λg19=>(Rs.bind (Rs.bind (Rs.bind (Rs.ok a_2) λx24=>(GZ 0 x24)) λx28=>(VG x28 (λa26=>(Rs.ok [])))) λa21=>(Rs.bind (Rs.bind (Rs.bind (Rs.ok (2 : Int)) λx30=>(Rs.bind (Rs.bind (Rs.ok a_0) λx29=>(Rs.ok (x29.length : Int))) λx31=>(Z5 x30 x31))) λx32=>(GZ 0 x32)) λx69=>(Rs.bind (forN x69 (g19, a21) (λg35 a37=>(Rs.bind (Rs.bind (Rs.bind (Rs.ok (4 : Int)) λx41=>(Rs.bind (Rs.ok a37) λx42=>(Z5 x41 x42))) λx43=>(Rs.bind (Rs.ok (5 : Int)) λx44=>(Rs.ok (x43 + x44)))) λa39=>(Rs.bind (Rs.bind (Rs.bind (Rs.ok a_1) λx45=>(Rs.bind (Rs.ok a39) λx46=>(atR x45 x46))) λx48=>(Rs.bind (Rs.bind (Rs.ok g35.1) λx47=>(Rs.ok (x47.length : Int))) λx49=>(ZK x48 x49))) λx54=>(Rs.bind (Cv g35.1 x54) (λp55=>(λa50 a51=>(Rs.bind (Rs.bind (Rs.bind (Rs.ok a_1) λx58=>(Rs.bind (Rs.bind (Rs.ok a39) λx56=>(Rs.bind (Rs.ok (1 : Int)) λx57=>(Rs.ok (x56 + x57)))) λx59=>(atR x58 x59))) λx60=>(Rs.bind (Rs.ok a_2) λx61=>(ZK x60 x61))) λx63=>(Rs.bind (atR g35.2 x63) λx64=>(Rs.bind (Rs.ok a50) λx62=>(chk (x64.length < sizeLine) (Rs.bind (QZ g35.2 x63 (x64 ++ [x62])) λa65=>(Rs.ok (a51, a65)))))))) p55.1 p55.2)))))) λg67=>(Rs.ok g67.2)))))))
noncomputable def ZO (a_0 : (List Int)) (a_1 : (List (Int × Int))) (a_2 : (List Int)) (a_3 : Int) : Rs (List (List Int)):=(Rs.bind (Rs.bind (Rs.bind (Rs.bind (Rs.ok false) λx7=>(Rs.bind (Rs.ok []) λx8=>(Rs.ok (x7 :: x8)))) λx6=>(chk (x6.length <= sizeLine) (Rs.ok x6))) λx4=>(Rs.bind (Rs.ok a_3) λx5=>(Fo x4 x5))) λa1=>(Rs.bind (Rs.ok []) λa9=>(Rs.bind (Rs.bind (Rs.ok a_3) λx12=>(GZ 0 x12)) λx118=>(Rs.bind (forN x118 (a1, a9) (λg15 a17=>(Rs.bind (Rs.bind (Rs.bind (Rs.bind (Rs.ok g15.1) λx19=>(Rs.bind (Rs.ok a17) λx20=>(atR x19 x20))) λx21=>(Rs.ok (!x21))) λx22=>(if x22 = true then (Rs.bind (Rs.ok []) λa25=>(Rs.bind (Rs.ok a17) λa28=>(Rs.bind (Qc (a_3.natAbs + 2) (g15.1, a28, a25) (λg32=>(Rs.bind (Rs.bind (Rs.ok g32.1) λx34=>(Rs.bind (Rs.ok g32.2.1) λx35=>(atR x34 x35))) λx36=>(Rs.ok (!x36)))) (λg32=>(Rs.bind (Rs.ok true) λx37=>(Rs.bind (Rs.ok g32.2.1) λx38=>(Rs.bind (QZ g32.1 x38 x37) λa39=>(Rs.bind (Rs.bind (Rs.bind (Rs.ok a_0) λx41=>(Rs.ok (x41.length : Int))) λx42=>(GZ 0 x42)) λx108=>(Rs.bind (forN x108 (g32.2.1, g32.2.2) (λg45 a47=>(Rs.bind (Rs.bind (Rs.bind (Rs.ok a_2) λx55=>(Rs.bind (Rs.bind (Rs.bind (Rs.ok (8 : Int)) λx51=>(Rs.bind (Rs.ok a47) λx52=>(Z5 x51 x52))) λx53=>(Rs.bind (Rs.ok (10 : Int)) λx54=>(Rs.ok (x53 + x54)))) λx56=>(atR x55 x56))) λx59=>(Rs.bind (Rs.bind (Rs.ok a_3) λx57=>(Rs.bind (Rs.ok (1 : Int)) λx58=>(Rs.ok (x57 - x58)))) λx60=>(ZK x59 x60))) λa49=>(Rs.bind (Rs.bind (Rs.bind (Rs.ok g45.1) λx61=>(Rs.bind (Rs.ok a49) λx62=>(Rs.ok (decide (x61 = x62))))) λx63=>(if x63 = true then (Rs.bind (Rs.bind (Rs.bind (Rs.ok a_0) λx66=>(Rs.bind (Rs.ok a47) λx67=>(atR x66 x67))) λx72=>(Rs.bind (Rs.bind (Rs.ok a_1) λx70=>(Rs.bind (Rs.bind (Rs.ok a_0) λx68=>(Rs.bind (Rs.ok a47) λx69=>(atR x68 x69))) λx71=>(VN x70 x71))) λx73=>(Z5 x72 x73))) λa74=>(chk (g45.2.length < sizeLine) ((λa76=>(Rs.bind (Rs.bind (Rs.ok a49) λx79=>(Rs.bind (Rs.ok (1 : Int)) λx80=>(Rs.ok (x79 + x80)))) λa77=>(Rs.ok (a77, a76)))) (g45.2 ++ [a74])))) else (Rs.bind (Rs.bind (Rs.bind (Rs.ok g45.1) λx83=>(Rs.bind (Rs.bind (Rs.ok a49) λx81=>(Rs.bind (Rs.ok (1 : Int)) λx82=>(Rs.ok (x81 + x82)))) λx84=>(Rs.ok (decide (x83 = x84))))) λx85=>(if x85 = true then (Rs.bind (Rs.bind (Rs.bind (Rs.bind (Rs.ok a_0) λx88=>(Rs.bind (Rs.ok a47) λx89=>(atR x88 x89))) λx90=>(Rs.ok (-x90))) λx95=>(Rs.bind (Rs.bind (Rs.ok a_1) λx93=>(Rs.bind (Rs.bind (Rs.ok a_0) λx91=>(Rs.bind (Rs.ok a47) λx92=>(atR x91 x92))) λx94=>(VN x93 x94))) λx96=>(Z5 x95 x96))) λa97=>(chk (g45.2.length < sizeLine) ((λa99=>(Rs.bind (Rs.ok a49) λa100=>(Rs.ok (a100, a99)))) (g45.2 ++ [a97])))) else (Rs.ok (g45.1, g45.2)))) λg103=>(Rs.ok (g103.1, g103.2))))) λg105=>(Rs.ok (g105.1, g105.2)))))) λg106=>(Rs.ok (a39, g106.1, g106.2))))))))) λg109=>(Rs.bind (Rs.ok g109.2.2) λa111=>(chk (g15.2.length < sizeLine) ((λa113=>(Rs.ok (g109.1, a113))) (g15.2 ++ [a111]))))))) else (Rs.ok (g15.1, g15.2)))) λg115=>(Rs.ok (g115.1, g115.2))))) λg116=>(Rs.ok g116.2)))))
noncomputable def QG (a_0 : (List Int)) (a_1 : Int) (a_2 : Int) : Rs ((List (List Int)) × (List (Int × Int))):=(Rs.bind (Rs.bind (Rs.bind (Rs.bind (Rs.ok a_2) λx4=>(Rs.bind (Rs.ok (1 : Int)) λx5=>(Rs.ok (x4 + x5)))) λx14=>(Rs.bind (Rs.bind (Rs.ok (5 : Int)) λx12=>(Rs.bind (Rs.bind (Rs.ok (4 : Int)) λx10=>(Rs.bind (Rs.bind (Rs.ok (3 : Int)) λx8=>(Rs.bind (Rs.bind (Rs.ok (3 : Int)) λx6=>(Rs.bind (Rs.ok []) λx7=>(Rs.ok (x6 :: x7)))) λx9=>(Rs.ok (x8 :: x9)))) λx11=>(Rs.ok (x10 :: x11)))) λx13=>(Rs.ok (x12 :: x13)))) λx15=>(Rs.ok (x14 :: x15)))) λx3=>(chk (x3.length <= sizeLine) (Rs.ok x3))) λa1=>(Rs.bind (Rs.bind (Rs.ok a_0) λx34=>(Rs.bind (Rs.ok a_1) λx35=>(Rs.bind (Rs.bind (Rs.ok a1) λx19=>(Rs.bind (Rs.bind (Rs.bind (Rs.bind (Rs.ok (80 : Int)) λx30=>(Rs.bind (Rs.bind (Rs.ok (5 : Int)) λx28=>(Rs.bind (Rs.bind (Rs.ok (2 : Int)) λx26=>(Rs.bind (Rs.bind (Rs.ok (3 : Int)) λx24=>(Rs.bind (Rs.ok []) λx25=>(Rs.ok (x24 :: x25)))) λx27=>(Rs.ok (x26 :: x27)))) λx29=>(Rs.ok (x28 :: x29)))) λx31=>(Rs.ok (x30 :: x31)))) λx23=>(chk (x23.length <= sizeLine) (Rs.ok x23))) λx21=>(Rs.bind (Rs.bind (Rs.ok (2 : Int)) λx32=>(Rs.bind (Rs.ok a_2) λx33=>(Z5 x32 x33))) λx22=>(Fo x21 x22))) λx20=>(FY x19 x20))) λx36=>(noE (Kg x34 x35 x36))))) λa16=>(Rs.bind (Rs.ok []) λa37=>(Rs.bind (Rs.ok []) λa40=>(Rs.bind (Rs.ok (0 : Int)) λa43=>(Rs.bind (Rs.bind (Rs.bind (Rs.ok a16) λx45=>(Rs.bind (Rs.ok (0 : Int)) λx46=>(atR x45 x46))) λx47=>(GZ 0 x47)) λx152=>(Rs.bind (forN x152 (a43, a40, a37) (λg50 a52=>(Rs.bind (Rs.bind (Rs.bind (Rs.ok a16) λx60=>(Rs.bind (Rs.bind (Rs.bind (Rs.ok (8 : Int)) λx56=>(Rs.bind (Rs.ok a52) λx57=>(Z5 x56 x57))) λx58=>(Rs.bind (Rs.ok (8 : Int)) λx59=>(Rs.ok (x58 + x59)))) λx61=>(atR x60 x61))) λx75=>(Rs.bind (Rs.bind (Rs.bind (Rs.bind (Rs.ok (0 : Int)) λx69=>(Rs.bind (Rs.bind (Rs.ok (1 : Int)) λx67=>(Rs.bind (Rs.bind (Rs.bind (Rs.ok (10 : Int)) λx63=>(Rs.bind (Rs.ok (9 : Int)) λx64=>(Hy x63 x64))) λx65=>(Rs.bind (Rs.ok []) λx66=>(Rs.ok (x65 :: x66)))) λx68=>(Rs.ok (x67 :: x68)))) λx70=>(Rs.ok (x69 :: x70)))) λx62=>(chk (x62.length <= sizeLine) (Rs.ok x62))) λx73=>(Rs.bind (Rs.bind (Rs.ok a16) λx71=>(Rs.bind (Rs.ok (3 : Int)) λx72=>(atR x71 x72))) λx74=>(atR x73 x74))) λx76=>(Z5 x75 x76))) λa54=>(Rs.bind (Rs.bind (Rs.bind (Rs.ok g50.1) λx79=>(Rs.bind (Rs.ok (1 : Int)) λx80=>(Rs.ok (x79 + x80)))) λx81=>(Rs.bind (Rs.ok a54) λx82=>(Rs.ok (x81 + x82)))) λa77=>(Rs.bind (Rs.ok a77) λa83=>(chk (g50.2.2.length < sizeLine) ((λa85=>(Rs.bind (Rs.bind (Rs.bind (Rs.ok (2 : Int)) λx92=>(Rs.bind (Rs.bind (Rs.ok a16) λx90=>(Rs.bind (Rs.bind (Rs.bind (Rs.ok (8 : Int)) λx86=>(Rs.bind (Rs.ok a52) λx87=>(Z5 x86 x87))) λx88=>(Rs.bind (Rs.ok (7 : Int)) λx89=>(Rs.ok (x88 + x89)))) λx91=>(atR x90 x91))) λx93=>(Z5 x92 x93))) λx94=>(Rs.bind (Rs.ok (1 : Int)) λx95=>(Rs.ok (x94 - x95)))) λx96=>(Rs.bind (Rs.ok a77) λx97=>(chk (g50.2.1.length < sizeLine) ((λa98=>(Rs.ok (a77, a98, a85))) (JW g50.2.1 x97 x96)))))) (g50.2.2 ++ [a83])))))))) λg100=>(Rs.bind (Rs.bind (Rs.bind (Rs.bind (Rs.ok a16) λx102=>(Rs.bind (Rs.ok (2 : Int)) λx103=>(atR x102 x103))) λx104=>(Rs.bind (Rs.ok (2 : Int)) λx105=>(Rs.ok (decide (x104 < x105))))) λx106=>(if x106 = true then (Rs.bind (Rs.bind (Rs.bind (Rs.ok g100.2.2) λx114=>(Rs.bind (Rs.ok a16) λx115=>(noE (Jb x114 x115)))) λx120=>(Rs.bind (Rs.ok g100.2.1) λx121=>(Rs.bind (Rs.ok a16) λx122=>(Rs.bind (Rs.bind (Rs.ok (2 : Int)) λx118=>(Rs.bind (Rs.bind (Rs.ok a16) λx116=>(Rs.bind (Rs.ok (4 : Int)) λx117=>(atR x116 x117))) λx119=>(Rs.ok (x118 + x119)))) λx123=>(noE (ZO x120 x121 x122 x123)))))) λa109=>(Rs.ok (a109))) else (Rs.bind (Rs.bind (Rs.bind (Rs.ok a16) λx126=>(Rs.bind (Rs.ok (1 : Int)) λx127=>(atR x126 x127))) λx131=>(Rs.bind (Rs.bind (Rs.bind (Rs.ok g100.2.2) λx128=>(Rs.ok (x128.length : Int))) λx129=>(Rs.bind (Rs.ok (1 : Int)) λx130=>(Rs.ok (min x129 x130)))) λx132=>(Rs.ok (max x131 x132)))) λa124=>(Rs.bind (Rs.bind (Rs.ok g100.2.2) λx137=>(Rs.bind (Rs.ok a16) λx138=>(Rs.bind (Rs.ok a124) λx139=>(noE (Fu x137 x138 x139))))) λa133=>(Rs.ok (a133)))))) λg141=>(Rs.bind (Rs.ok g141) λx150=>(Rs.bind (Rs.bind (Rs.ok g100.2.2) λx145=>(VG x145 (λa143=>(Rs.bind (Rs.ok a143) λx148=>(Rs.bind (Rs.bind (Rs.ok g100.2.1) λx146=>(Rs.bind (Rs.ok a143) λx147=>(VN x146 x147))) λx149=>(Rs.ok (x148, x149))))))) λx151=>(Rs.ok (x150, x151))))))))))))
noncomputable def Vf (a_0 : ((List (List Int)) × (List (Int × Int)))) : Rs ((List (List Int)) × (List (Int × Int))):=(Rs.bind (Rs.bind (Rs.bind (Rs.ok a_0) λx1=>(Rs.ok x1.1)) λx5=>(VG x5 (λa3=>(Rs.bind (Rs.ok a3) λx6=>(Rs.ok x6))))) λx9=>(Rs.bind (Rs.bind (Rs.bind (Rs.ok a_0) λx8=>(Rs.ok x8.2)) λx7=>(Rs.ok x7)) λx10=>(Rs.ok (x9, x10))))
noncomputable def Qm (a_0 : Int) : Rs Bool:=(LU (Rs.bind (Rs.ok a_0) λx1=>(Rs.ok true)) (Rs.bind (Rs.bind (Rs.ok a_0) λx2=>(Rs.ok false)) λx3=>(Rs.ok (!x3))))
noncomputable def QH (a_0 : ((List (List Int)) × (List (Int × Int)))) : Rs Int:=(Rs.bind (Rs.bind (Rs.bind (Rs.ok a_0) λx3=>(Rs.ok x3.2)) λx4=>(Rs.ok (x4.length : Int))) λa1=>(Rs.bind (Rs.bind (Rs.ok a_0) λx5=>(Rs.ok x5.1)) λx32=>(Rs.bind (forN x32 (a1) (λg8 a10=>(Rs.bind (Rs.bind (Rs.bind (Rs.bind (Rs.bind (Rs.ok a10) λx15=>(Ek x15 (λa13=>(Rs.bind (Rs.ok a13) λx16=>(Rs.bind (Rs.ok (0 : Int)) λx17=>(Rs.ok (decide (x16 < x17)))))) (λa13=>(Rs.ok a13)))) λx18=>(Rs.ok (x18.length : Int))) λx19=>(Rs.bind (Rs.ok (0 : Int)) λx20=>(Rs.ok (decide (x19 = x20))))) λx21=>(if x21 = true then (Rs.bind (Rs.bind (Rs.ok g8) λx26=>(Rs.bind (Rs.ok (1 : Int)) λx27=>(Rs.ok (x26 + x27)))) λa24=>(Rs.ok (a24))) else (Rs.ok (g8)))) λg29=>(Rs.ok (g29))))) λg30=>(Rs.ok g30))))
noncomputable def Zi (a_0 : Int) : Rs Bool:=(Rs.bind (orR (Rs.bind (Rs.ok a_0) λx1=>(Rs.bind (Rs.ok (2 : Int)) λx2=>(Rs.ok (decide (x1 < x2))))) (Rs.bind (Rs.ok a_0) λx3=>(Rs.bind (Rs.ok (100000 : Int)) λx4=>(Rs.ok (decide (x4 < x3)))))) λx5=>(if x5 = true then (Rs.ok false) else (Rs.bind (Rs.ok (2 : Int)) λa6=>(Rs.bind (Z7 (a_0.natAbs + 2) (a6) (λg10=>(Rs.bind (Rs.bind (Rs.ok g10) λx12=>(Rs.bind (Rs.ok g10) λx13=>(Z5 x12 x13))) λx14=>(Rs.bind (Rs.ok a_0) λx15=>(Rs.ok (decide (x14 <= x15)))))) (λg10=>(Rs.bind (Rs.bind (Rs.bind (Rs.ok a_0) λx16=>(Rs.bind (Rs.ok g10) λx17=>(ZK x16 x17))) λx18=>(Rs.bind (Rs.ok (0 : Int)) λx19=>(Rs.ok (decide (x18 = x19))))) λx20=>(if x20 = true then (Rs.bind (Rs.ok false) λx26=>(Rs.ok (Ctl.ret x26))) else (Rs.bind (Rs.bind (Rs.ok g10) λx23=>(Rs.bind (Rs.ok (1 : Int)) λx24=>(Rs.ok (x23 + x24)))) λa21=>(Rs.bind (Rs.ok (a21)) λx25=>(Rs.ok (Ctl.nx x25)))))))) (Qu λg27=>(Rs.ok true))))))
noncomputable def Qe (a_0 : Int) (a_1 : ((List (List Int)) × (List (Int × Int)))) (a_2 : Int) (a_3 : Int) : Rs Bool:=(Rs.bind (Rs.bind (Rs.ok a_0) λx1=>(Rs.bind (Rs.ok (0 : Int)) λx2=>(Rs.ok (decide (x1 = x2))))) λx3=>(if x3 = true then (Rs.bind (Rs.bind (Rs.ok a_1) λx6=>(Rs.bind (Rs.ok a_2) λx7=>(Rs.bind (Rs.ok a_3) λx8=>(X4 x6 x7 x8)))) λa4=>(LU (Rs.bind (Rs.ok a4) λx9=>(Rs.ok true)) (Rs.bind (Rs.bind (Rs.ok a4) λx10=>(Rs.ok (x10.length : Int))) λx13=>(Rs.bind (Rs.bind (Rs.bind (Rs.ok a_1) λx11=>(Rs.ok x11.2)) λx12=>(Rs.ok (x12.length : Int))) λx14=>(Rs.ok (decide (x13 = x14))))))) else (Rs.bind (Rs.bind (Rs.ok a_0) λx15=>(Rs.bind (Rs.ok (1 : Int)) λx16=>(Rs.ok (decide (x15 = x16))))) λx17=>(if x17 = true then (Rs.bind (Rs.ok a_1) λx25=>(Rs.bind (Rs.ok a_2) λx26=>(Rs.bind (Rs.ok a_3) λx27=>(Rs.bind (Rs.bind (Rs.bind (Rs.bind (Rs.ok (0 : Int)) λx21=>(Rs.bind (Rs.ok []) λx22=>(Rs.ok (x21 :: x22)))) λx20=>(chk (x20.length <= sizeLine) (Rs.ok x20))) λx18=>(Rs.bind (Rs.bind (Rs.ok a_1) λx24=>(noE (QH x24))) λx19=>(Fo x18 x19))) λx28=>(Qb x25 x26 x27 x28))))) else (Rs.bind (Rs.bind (Rs.ok a_0) λx29=>(Rs.bind (Rs.ok (2 : Int)) λx30=>(Rs.ok (decide (x29 = x30))))) λx31=>(if x31 = true then (Rs.bind (Rs.bind (Rs.ok a_1) λx34=>(Rs.bind (Rs.ok a_2) λx35=>(Rs.bind (Rs.ok a_3) λx36=>(Y3 x34 x35 x36)))) λa32=>(LU (Rs.bind (Rs.ok a32) λx37=>(Rs.ok true)) (Rs.bind (Rs.bind (Rs.ok a32) λ_=>(Rs.ok (3 : Int))) λx39=>(Rs.bind (Rs.ok (3 : Int)) λx40=>(Rs.ok (decide (x39 = x40))))))) else (Rs.bind (Rs.bind (Rs.ok a_1) λx43=>(Rs.bind (Rs.ok a_2) λx44=>(Rs.bind (Rs.ok a_3) λx45=>(XY x43 x44 x45)))) λa41=>(Rs.bind (Rs.ok (1 : Int)) λa46=>(Rs.bind (Rs.bind (Rs.bind (Rs.ok a_1) λx48=>(Rs.bind (Rs.ok a_2) λx49=>(Rs.bind (Rs.ok a_3) λx50=>(Y3 x48 x49 x50)))) λx51=>(Rs.ok x51.1)) λx68=>(Rs.bind (forN x68 (a46) (λg54 a56=>(Rs.bind (Rs.bind (Rs.ok g54) λx60=>(Rs.bind (Rs.ok a_2) λx61=>(Z5 x60 x61))) λa58=>(Rs.ok (a58))))) λg62=>(LU (Rs.bind (Rs.ok a41) λx65=>(noE (Qm x65))) (Rs.bind (Rs.ok a41) λx66=>(Rs.bind (Rs.ok g62) λx67=>(Rs.ok (decide (x66 = x67))))))))))))))))
noncomputable def Z8 (a_0 : Int) (a_1 : ((List (List Int)) × (List (Int × Int)))) (a_2 : Int) (a_3 : Int) : Rs ((Str × Bool × Bool) ⊕ (Str × Bool)):=(Rs.tryC (Rs.bind (Rs.ok a_0) λx8=>(Rs.bind (Rs.ok a_1) λx9=>(Rs.bind (Rs.ok a_2) λx10=>(Rs.bind (Rs.ok a_3) λx11=>(Qe x8 x9 x10 x11))))) (λa6=>(Rs.bind (Rs.bind (Rs.ok ("yes" : Str)) λx12=>(Rs.bind (Rs.ok a6) λx13=>(Rs.ok (x12, x13)))) λx14=>(Rs.ok (Sum.inr x14)))) (λx1=>(chk (cau XB x1.cls "PlaitError" = true) (Rs.bind (Rs.bind (Rs.ok ("no" : Str)) λx2=>(Rs.bind (Rs.ok (ZD x1.cls "NoPrime")) λx3=>(Rs.bind (Rs.ok (ZD x1.cls "NoUnit")) λx4=>(Rs.ok (x2, x3, x4))))) λx5=>(Rs.ok (Sum.inl x5))))))
noncomputable def K7 (a_0 : (List Int)) : Rs Bool:=(Rs.bind (Rs.bind (Rs.ok a_0) λx4=>(Rs.bind (Rs.ok (0 : Int)) λx5=>(Rs.bind (Rs.ok (4 : Int)) λx6=>(noE (QG x4 x5 x6))))) λa1=>(Rs.bind (Rs.bind (Rs.ok a_0) λx29=>(Rs.bind (Rs.ok (1 : Int)) λx30=>(Rs.bind (Rs.bind (Rs.bind (Rs.ok (16 : Int)) λx27=>(Rs.bind (Rs.bind (Rs.ok (300 : Int)) λx25=>(Rs.bind (Rs.bind (Rs.bind (Rs.ok (10 : Int)) λx11=>(Rs.bind (Rs.ok (56 : Int)) λx12=>(Hy x11 x12))) λx23=>(Rs.bind (Rs.bind (Rs.ok (4 : Int)) λx21=>(Rs.bind (Rs.bind (Rs.bind (Rs.ok (10 : Int)) λx13=>(Rs.bind (Rs.ok (50 : Int)) λx14=>(Hy x13 x14))) λx19=>(Rs.bind (Rs.bind (Rs.ok (5 : Int)) λx17=>(Rs.bind (Rs.bind (Rs.ok (100000 : Int)) λx15=>(Rs.bind (Rs.ok []) λx16=>(Rs.ok (x15 :: x16)))) λx18=>(Rs.ok (x17 :: x18)))) λx20=>(Rs.ok (x19 :: x20)))) λx22=>(Rs.ok (x21 :: x22)))) λx24=>(Rs.ok (x23 :: x24)))) λx26=>(Rs.ok (x25 :: x26)))) λx28=>(Rs.ok (x27 :: x28)))) λx10=>(chk (x10.length <= sizeLine) (Rs.ok x10))) λx31=>(noE (Kg x29 x30 x31))))) λa7=>(Rs.bind (Rs.bind (Rs.bind (Rs.ok (0 : Int)) λx59=>(Rs.bind (Rs.bind (Rs.ok (1 : Int)) λx57=>(Rs.bind (Rs.bind (Rs.ok (2 : Int)) λx55=>(Rs.bind (Rs.bind (Rs.ok (3 : Int)) λx53=>(Rs.bind (Rs.bind (Rs.ok (4 : Int)) λx51=>(Rs.bind (Rs.bind (Rs.ok (9 : Int)) λx49=>(Rs.bind (Rs.bind (Rs.ok (97 : Int)) λx47=>(Rs.bind (Rs.bind (Rs.ok (99991 : Int)) λx45=>(Rs.bind (Rs.bind (Rs.ok (100003 : Int)) λx43=>(Rs.bind (Rs.bind (Rs.ok (65537 : Int)) λx41=>(Rs.bind (Rs.bind (Rs.ok (99999 : Int)) λx39=>(Rs.bind (Rs.bind (Rs.bind (Rs.ok a7) λx35=>(Rs.bind (Rs.ok (1 : Int)) λx36=>(atR x35 x36))) λx37=>(Rs.bind (Rs.ok []) λx38=>(Rs.ok (x37 :: x38)))) λx40=>(Rs.ok (x39 :: x40)))) λx42=>(Rs.ok (x41 :: x42)))) λx44=>(Rs.ok (x43 :: x44)))) λx46=>(Rs.ok (x45 :: x46)))) λx48=>(Rs.ok (x47 :: x48)))) λx50=>(Rs.ok (x49 :: x50)))) λx52=>(Rs.ok (x51 :: x52)))) λx54=>(Rs.ok (x53 :: x54)))) λx56=>(Rs.ok (x55 :: x56)))) λx58=>(Rs.ok (x57 :: x58)))) λx60=>(Rs.ok (x59 :: x60)))) λx34=>(chk (x34.length <= sizeLine) (Rs.ok x34))) λa32=>(Rs.bind (Rs.bind (Rs.ok a32) λx63=>(Rs.bind (Rs.bind (Rs.bind (Rs.bind (Rs.bind (Rs.ok a7) λx66=>(Rs.bind (Rs.ok (1 : Int)) λx67=>(atR x66 x67))) λx68=>(Rs.ok (-x68))) λx87=>(Rs.bind (Rs.bind (Rs.bind (Rs.ok (100001 : Int)) λx71=>(Rs.bind (Rs.bind (Rs.ok a7) λx69=>(Rs.bind (Rs.ok (2 : Int)) λx70=>(atR x69 x70))) λx72=>(Rs.ok (x71 + x72)))) λx85=>(Rs.bind (Rs.bind (Rs.bind (Rs.bind (Rs.ok a7) λx73=>(Rs.bind (Rs.ok (6 : Int)) λx74=>(atR x73 x74))) λx75=>(Rs.bind (Rs.ok (1 : Int)) λx76=>(Rs.ok (x75 + x76)))) λx83=>(Rs.bind (Rs.bind (Rs.bind (Rs.ok (1 : Int)) λx79=>(Rs.bind (Rs.bind (Rs.ok a7) λx77=>(Rs.bind (Rs.ok (1 : Int)) λx78=>(atR x77 x78))) λx80=>(Rs.ok (x79 + x80)))) λx81=>(Rs.bind (Rs.ok []) λx82=>(Rs.ok (x81 :: x82)))) λx84=>(Rs.ok (x83 :: x84)))) λx86=>(Rs.ok (x85 :: x86)))) λx88=>(Rs.ok (x87 :: x88)))) λx65=>(chk (x65.length <= sizeLine) (Rs.ok x65))) λx64=>(FY x63 x64))) λa61=>(Rs.bind (Rs.bind (Rs.ok a61) λx93=>(Rs.bind (Rs.bind (Rs.ok a7) λx91=>(Rs.bind (Rs.ok (0 : Int)) λx92=>(atR x91 x92))) λx94=>(atR x93 x94))) λa89=>(Rs.bind (Rs.bind (Rs.bind (Rs.bind (Rs.ok (0 : Int)) λx119=>(Rs.bind (Rs.bind (Rs.bind (Rs.ok a7) λx98=>(Rs.bind (Rs.ok (4 : Int)) λx99=>(atR x98 x99))) λx117=>(Rs.bind (Rs.bind (Rs.bind (Rs.bind (Rs.ok a7) λx100=>(Rs.bind (Rs.ok (4 : Int)) λx101=>(atR x100 x101))) λx102=>(Rs.ok (-x102))) λx115=>(Rs.bind (Rs.bind (Rs.bind (Rs.ok a89) λx107=>(Rs.bind (Rs.bind (Rs.bind (Rs.ok a7) λx103=>(Rs.bind (Rs.ok (1 : Int)) λx104=>(atR x103 x104))) λx105=>(Rs.bind (Rs.ok (150 : Int)) λx106=>(Rs.ok (x105 - x106)))) λx108=>(Z5 x107 x108))) λx113=>(Rs.bind (Rs.bind (Rs.bind (Rs.ok a89) λx109=>(Rs.bind (Rs.ok (1 : Int)) λx110=>(Rs.ok (x109 + x110)))) λx111=>(Rs.bind (Rs.ok []) λx112=>(Rs.ok (x111 :: x112)))) λx114=>(Rs.ok (x113 :: x114)))) λx116=>(Rs.ok (x115 :: x116)))) λx118=>(Rs.ok (x117 :: x118)))) λx120=>(Rs.ok (x119 :: x120)))) λx97=>(chk (x97.length <= sizeLine) (Rs.ok x97))) λx123=>(Rs.bind (Rs.bind (Rs.ok a7) λx121=>(Rs.bind (Rs.ok (5 : Int)) λx122=>(atR x121 x122))) λx124=>(atR x123 x124))) λa95=>(Rs.bind (Rs.bind (Rs.bind (Rs.ok ("yes" : Str)) λx127=>(Rs.bind (Rs.ok true) λx128=>(Rs.ok (x127, x128)))) λx129=>(Rs.ok (Sum.inr x129))) λa125=>(Rs.bind (Rs.bind (Rs.bind (Rs.bind (Rs.ok a89) λx131=>(noE (Zi x131))) λx132=>(Rs.ok (!x132))) λx133=>(if x133 = true then (Rs.bind (Rs.bind (Rs.bind (Rs.ok ("no" : Str)) λx138=>(Rs.bind (Rs.ok true) λx139=>(Rs.bind (Rs.ok false) λx140=>(Rs.ok (x138, x139, x140))))) λx141=>(Rs.ok (Sum.inl x141))) λa136=>(Rs.ok (a136))) else (Rs.bind (Rs.bind (Rs.bind (Rs.bind (Rs.ok a95) λx142=>(Rs.bind (Rs.ok a89) λx143=>(ZK x142 x143))) λx144=>(Rs.bind (Rs.ok (0 : Int)) λx145=>(Rs.ok (decide (x144 = x145))))) λx146=>(if x146 = true then (Rs.bind (Rs.bind (Rs.bind (Rs.ok ("no" : Str)) λx151=>(Rs.bind (Rs.ok false) λx152=>(Rs.bind (Rs.ok true) λx153=>(Rs.ok (x151, x152, x153))))) λx154=>(Rs.ok (Sum.inl x154))) λa149=>(Rs.ok (a149))) else (Rs.ok (a125)))) λg156=>(Rs.ok (g156))))) λg158=>(Rs.bind (Rs.bind (Rs.ok (8 : Int)) λx159=>(GZ 0 x159)) λx188=>(Rs.bind (F0 x188 () (λg162 a164=>(Rs.bind (Rs.bind (Rs.bind (Rs.bind (Rs.bind (Rs.ok a7) λx169=>(Rs.bind (Rs.ok (3 : Int)) λx170=>(atR x169 x170))) λx171=>(Rs.bind (Rs.ok a164) λx172=>(Rs.ok (x171 + x172)))) λx173=>(Rs.bind (Rs.ok (4 : Int)) λx174=>(ZK x173 x174))) λx177=>(Rs.bind (Rs.bind (Rs.ok a1) λx176=>(noE (Vf x176))) λx178=>(Rs.bind (Rs.ok a89) λx179=>(Rs.bind (Rs.ok a95) λx180=>(noE (Z8 x177 x178 x179 x180)))))) λa166=>(Rs.bind (Rs.bind (Rs.ok a166) λx181=>(Rs.bind (Rs.ok g158) λx182=>(Rs.ok (!(decide (x181 = x182)))))) λx183=>(if x183 = true then (Rs.bind (Rs.ok false) λx185=>(Rs.ok (Ctl.ret x185))) else (Rs.bind (Rs.ok ()) λx184=>(Rs.ok (Ctl.nx x184)))))))) (Qu λg186=>(Rs.ok true))))))))))))
end My
namespace L2
open PySem
section
variable {α β γ ρ : Type}
theorem Rs.okb (a : α) (f : α -> Rs β) : (Rs.ok a).bind f = f a:=(Eq.refl (f a)).symm.symm
theorem Dx {f : α -> Rs β} {h : α -> β} : ∀ {as : List α}, (∀ a ∈ as, f a = .ok (h a)) -> FU as f = .ok (as.map h)
  | [], _=>rfl
  | a :: as, hf=>by
    show (f a).bind _ = _
    rw [hf a (by simp), Rs.ok_bind, Dx λb hb=>hf b (by simp [hb])]; rfl
theorem Y2 {f : α -> Rs β} {h : α -> β} {as : List α} (hl : as.length <= sizeLine) (hf : ∀ a ∈ as, f a = .ok (h a)) : VG as f = .ok (as.map h):=by
  unfold VG; rw [Xy hl]; exact Dx hf
theorem De {c : α -> Rs Bool} {f : α -> Rs β} {p : α -> Bool} {h : α -> β} : ∀ {as : List α}, (∀ a ∈ as, c a = .ok (p a)) -> (∀ a ∈ as, p a = true -> f a = .ok (h a)) -> GV as c f = .ok ((as.filter p).map h)
  | [], _, _=>rfl
  | a :: as, hc, hf=>by
    show (c a).bind _ = _
    rw [hc a (by simp), Rs.ok_bind]
    have ih:=De (as:=as) (λb hb=>hc b (by simp [hb])) λb hb=>hf b (by simp [hb])
    cases hp : p a with
    | false=>rw [if_neg (by simp), ih, List.filter_cons, hp]; rfl
    | true=>rw [if_pos rfl, hf a (by simp) hp, Rs.ok_bind, ih, List.filter_cons, hp]; rfl
theorem Ul {c : α -> Rs Bool} {f : α -> Rs β} {p : α -> Bool} {h : α -> β} {as : List α} (hl : as.length <= sizeLine) (hc : ∀ a ∈ as, c a = .ok (p a)) (hf : ∀ a ∈ as, p a = true -> f a = .ok (h a)) : Ek as c f = .ok ((as.filter p).map h):=by
  unfold Ek; rw [Xy hl]; exact De hc hf
theorem U1 {f : γ -> α -> Rs γ} (P : Nat -> γ -> Prop) : ∀ (as : List α) (k : Nat) (g : γ), P k g -> (∀ i a g, as[i]? = some a -> P (k + i) g -> ∃ g', f g a = .ok g' /\ P (k + i + 1) g') -> ∃ g', forN as g f = .ok g' /\ P (k + as.length) g'
  | [], k, g, h0, _=>⟨g, rfl, h0⟩
  | a :: as, k, g, h0, hs=>by
    obtain ⟨g1, e1, p1⟩:=hs 0 a g rfl h0
    obtain ⟨g2, e2, p2⟩:=U1 P as (k + 1) g1 p1 λi b g hb hp=>by
      obtain ⟨g', e', p'⟩:=hs (i + 1) b g (by simpa using hb) (by rw [show k + (i + 1) = k + 1 + i by lia]; exact hp)
      exact ⟨g', e', by rw [show k + 1 + i + 1 = k + (i + 1) + 1 by lia]; exact p'⟩
    refine ⟨g2, ?_, by rw [List.length_cons, show k + (as.length + 1) = k + 1 + as.length by lia]; exact p2⟩
    show (f g a).bind _ = _
    rw [e1, Rs.ok_bind]; exact e2
theorem GQ {f : γ -> α -> Rs γ} (P : Nat -> γ -> Prop) {as : List α} {g : γ} (h0 : P 0 g) (hs : ∀ i a g, as[i]? = some a -> P i g -> ∃ g', f g a = .ok g' /\ P (i + 1) g') : ∃ g', forN as g f = .ok g' /\ P as.length g':=by
  have:=U1 P as 0 g h0 (by simpa using hs)
  simpa using this
theorem QU {f : List β -> α -> Rs (List β)} {h : α -> β} : ∀ {as : List α} {g : List β}, g.length + as.length <= sizeLine -> (∀ g : List β, g.length < sizeLine -> ∀ a ∈ as, f g a = .ok (g ++ [h a])) -> forN as g f = .ok (g ++ as.map h)
  | [], g, _, _=>by simp [forN]
  | a :: as, g, hl, hf=>by
    show (f g a).bind _ = _
    rw [List.length_cons] at hl
    rw [hf g (by lia) a (by simp), Rs.ok_bind, QU (by simp; lia) λg hg b hb=>hf g hg b (by simp [hb])]
    simp
theorem Gq {f : γ -> α -> Rs (Ctl ρ γ)} : ∀ {as : List α} {g : γ}, (∀ a ∈ as, f g a = .ok (.nx g)) -> F0 as g f = .ok (.nx g)
  | [], _, _=>rfl
  | a :: as, g, hf=>by
    show (f g a).bind _ = _
    rw [hf a (by simp), Rs.ok_bind]
    exact Gq λb hb=>hf b (by simp [hb])
theorem Ye {a b : Int} (h : 0 < b) : ZK a b = .ok (a % b):=Xy h
theorem Yz {a b : Int} (h1 : -(2 ^ 64) < a) (h2 : a < 2 ^ 64) : Z5 a b = .ok (a * b):=Xy (.inl ⟨h1, h2⟩)
theorem QI {a b : Int} (h1 : -(2 ^ 64) < b) (h2 : b < 2 ^ 64) : Z5 a b = .ok (a * b):=Xy (.inr ⟨h1, h2⟩)
theorem EG {a b : Int} (h : 0 < b) (h2 : b < 2 ^ 250) : Le a b = .ok (a / b):=Xy ⟨h, by
  have h3 : b.natAbs < 2 ^ 250:=by lia
  rcases Nat.eq_zero_or_pos b.natAbs with h0 | h0
  . lia
  . have := (Nat.log2_lt (by lia)).mpr h3
    lia⟩
theorem Ka {a b : Int} (h0 : 0 <= b) (h1 : b <= 1000000) (h2 : -(2 ^ 64) < a) (h3 : a < 2 ^ 64) : Hy a b = .ok (a ^ b.toNat):=Xy ⟨h0, h1, by lia⟩
theorem Z2 {as : List α} {i : Nat} {a : α} (h : as[i]? = some a) : atR as (i : Int) = .ok a:=by
  have hlt:=(List.getElem?_eq_some_iff.mp h).1
  unfold atR atI ixN
  rw [if_pos (by lia), if_pos (by lia)]
  simp [h]
theorem IF {as : List α} {i : Int} {a : α} (h0 : 0 <= i) (h : as[i.toNat]? = some a) : atR as i = .ok a:=by
  have : i = (i.toNat : Int):=by lia
  rw [this]; exact Z2 h
theorem Qz {n : Nat} (h : n < 2 ^ 62) : GZ 0 (n : Int) = .ok ((List.range n).map λ(i : Nat)=>(i : Int)):=by
  unfold GZ
  rw [Xy (by lia)]
  unfold QW
  congr 1
  rw [Int.sub_zero, Int.toNat_natCast]
  exact List.map_congr_left λi _=>by lia
theorem ZC {n i : Nat} {a : Int} (h : ((List.range n).map λ(i : Nat)=>(i : Int))[i]? = some a) : a = (i : Int) /\ i < n:=by
  have hlt:=(List.getElem?_eq_some_iff.mp h).1
  simp only [List.length_map, List.length_range] at hlt
  rw [List.getElem?_map, List.getElem?_range hlt] at h
  exact ⟨(Option.some.inj h).symm, hlt⟩
theorem DC {n : Nat} {a : Int} (h : a ∈ (List.range n).map λ(i : Nat)=>(i : Int)) : ∃ i : Nat, i < n /\ a = (i : Int):=by
  obtain ⟨i, hi, rfl⟩:=List.mem_map.mp h
  exact ⟨i, List.mem_range.mp hi, rfl⟩
theorem Zw {n : Nat} : ((List.range n).map λ(i : Nat)=>(i : Int)).length = n:=by simp
theorem sz {n : Nat} (h : n <= 100000) : n <= sizeLine:=Nat.le_trans h (by decide)
theorem BK {n : Nat} (h : n <= 100000) : n < sizeLine:=Nat.lt_of_le_of_lt h (by decide)
noncomputable def Ok (m : Rs β) (R : β -> Prop) : Prop:=∃ r, m = .ok r /\ R r
theorem Ok.bind {m : Rs α} {f : α -> Rs β} {R : α -> Prop} {T : β -> Prop} (h : Ok m R) (hf : ∀ a, R a -> Ok (f a) T) : Ok (m.bind f) T:=by
  obtain ⟨a, e, ha⟩:=h
  rw [e]; exact hf a ha
theorem Ok.imp {m : Rs α} {R T : α -> Prop} (h : Ok m R) (hf : ∀ a, R a -> T a) : Ok m T:=by
  obtain ⟨a, e, ha⟩:=h
  exact ⟨a, e, hf a ha⟩
theorem Ok.noE {m : Rs α} {R : α -> Prop} (h : Ok m R) : Ok (noE m) R:=by
  obtain ⟨a, e, ha⟩:=h
  rw [e]; exact ⟨a, rfl, ha⟩
theorem Ok.ite {b : Bool} {m n : Rs α} {R : α -> Prop} (h1 : b = true -> Ok m R) (h2 : b = false -> Ok n R) : Ok (if b = true then m else n) R:=by
  cases b with
  | true=>rw [if_pos rfl]; exact h1 rfl
  | false=>rw [if_neg Bool.false_ne_true]; exact h2 rfl
theorem Ok.forN {f : γ -> α -> Rs γ} (P : Nat -> γ -> Prop) {as : List α} {g : γ} (h0 : P 0 g) (hs : ∀ i a g, as[i]? = some a -> P i g -> Ok (f g a) (P (i + 1))) : Ok (forN as g f) (P as.length):=GQ P h0 hs
theorem Uf {f : γ -> Rs ρ} (g : γ) : Qu f (.nx g) = f g:=(Eq.refl (f g)).symm.symm
theorem Dl {f : γ -> Rs ρ} (r : ρ) : Qu f (.ret r) = .ok r:=(Eq.refl (Rs.ok r)).symm.symm
theorem XV (a : α) : noE (Rs.ok a) = .ok a:=(Eq.refl (Rs.ok a)).symm.symm
theorem Ok.eq {m : Rs α} {a : α} (h : Ok m (λb=>b = a)) : m = .ok a:=by
  obtain ⟨b, e, rfl⟩:=h
  exact e
end
end L2
namespace My
end My
namespace My
open PySem L2
theorem Vk {α : Type} {as : List α} {i : Nat} {a : α} (h : i < as.length) : QZ as (i : Int) a = .ok (as.set i a):=by
  unfold QZ ixN
  rw [if_pos (by lia), if_pos (by lia)]
  simp
theorem ED {as : List Int} {i : Nat} (h : i < as.length) (hl : as.length <= 100000) : Cv as (i : Int) = .ok (as[i], as.eraseIdx i):=by
  unfold Cv
  rw [Xy (by lia)]
  have e : seqIndex? (i : Int) as.length = some i:=by
    unfold seqIndex?
    have h0 : ¬ ((i : Int) < 0):=by lia
    simp [h0, h]
  rw [e]
  simp [h]
theorem VV : ∀ {as : List Int} {i : Nat} (h : i < as.length), (as[i] :: as.eraseIdx i).Perm as
  | a :: as, 0, _=>by simp
  | a :: as, i + 1, h=>by
    have:=VV (as:=as) (i:=i) (by simpa using h)
    simp only [List.getElem_cons_succ, List.eraseIdx_cons_succ]
    exact (List.Perm.swap _ _ _).trans (this.cons a)
theorem Bs {α : Type} (as : List α) {k : Nat} (h : k <= as.length) : FQ as (some (k : Int)) none = as.drop k:=by
  unfold FQ
  rw [HT.sIx_nat, HT.sIx_none, Nat.min_eq_left h, List.take_of_length_le (by rw [List.length_drop]; lia)]
end My
namespace My
theorem Qg (names : List Int) : (names.flatMap λx=>[x, -x]).length = 2 * names.length:=by
  induction names with
  | nil=>rfl
  | cons x r ih=>rw [List.flatMap_cons, List.length_append, ih]; simp; lia
theorem Q6 {α : Type} : ∀ {l : List α} {k : Nat} {y : α}, l[k]? = some y -> (y :: l.eraseIdx k).Perm l
  | [], _, _, e=>by simp at e
  | a :: r, 0, y, e=>by
    have e' : a = y:=by simpa using e
    subst e'; exact List.Perm.refl _
  | a :: r, k + 1, y, e=>by
    have e' : r[k]? = some y:=by simpa using e
    show (y :: a :: r.eraseIdx k).Perm (a :: r)
    exact (List.Perm.swap a y _).trans (List.Perm.cons a (Q6 e'))
theorem Kw {α : Type} {l : List α} {k : Nat} {y : α} (e : l[k]? = some y) : (l.eraseIdx k).length + 1 = l.length:=by
  have:=(Q6 e).length_eq
  simpa using this
theorem GN {α : Type} : ∀ {ws : List (List α)} {j : Nat} {w : List α} {y : α}, ws[j]? = some w -> ((ws.set j (w ++ [y])).flatten).Perm (y :: ws.flatten)
  | [], _, _, _, e=>by simp at e
  | a :: r, 0, w, y, e=>by
    have e' : a = w:=by simpa using e
    subst e'
    show ((a ++ [y]) ++ r.flatten).Perm (y :: (a ++ r.flatten))
    rw [List.append_assoc]
    exact List.perm_middle
  | a :: r, j + 1, w, y, e=>by
    have e' : r[j]? = some w:=by simpa using e
    show (a ++ (r.set j (w ++ [y])).flatten).Perm (y :: (a ++ r.flatten))
    exact (List.Perm.append_left a (GN e')).trans List.perm_middle
theorem DH {α : Type} {ws : List (List α)} {j k : Nat} {w l : List α} {y : α} (e : ws[j]? = some w) (e3 : l[k]? = some y) : ((ws.set j (w ++ [y])).flatten ++ l.eraseIdx k).Perm (ws.flatten ++ l):=by
  refine ((GN (y:=y) e).append_right _).trans ?_
  rw [List.cons_append]
  refine List.perm_middle.symm.trans ?_
  exact List.Perm.append_left _ (Q6 e3)
theorem mem_set {α : Type} : ∀ {l : List α} {j : Nat} {v x : α}, x ∈ l.set j v -> x ∈ l ∨ x = v
  | [], _, _, _, h=>by simp at h
  | a :: r, 0, v, x, h=>by
    rw [List.set_cons_zero] at h
    rcases List.mem_cons.mp h with h | h
    . exact .inr h
    . exact .inl (List.mem_cons_of_mem _ h)
  | a :: r, j + 1, v, x, h=>by
    rw [List.set_cons_succ] at h
    rcases List.mem_cons.mp h with h | h
    . exact .inl (by rw [h]; exact List.mem_cons_self)
    . rcases mem_set h with h | h
      . exact .inl (List.mem_cons_of_mem _ h)
      . exact .inr h
theorem UP : ∀ {l : List Bool} {j : Nat}, l[j]? = some false -> (l.set j true).count false + 1 = l.count false
  | [], _, e=>by simp at e
  | a :: r, 0, e=>by
    have e' : a = false:=by simpa using e
    subst e'; simp
  | a :: r, j + 1, e=>by
    have e' : r[j]? = some false:=by simpa using e
    have ih:=UP e'
    rw [List.set_cons_succ, List.count_cons, List.count_cons]
    lia
end My
namespace My
noncomputable def Gf (r : Int × Int) (at' : Int) : List Int:=if at' = r.1 then [r.2] else if at' = r.1 + 1 then [-r.2] else []
noncomputable def V4 (r : Int × Int) (at' : Int) : Int:=if at' = r.1 then r.1 + 1 else if at' = r.1 + 1 then r.1 else at'
noncomputable def BH : List (Int × Int) -> Int -> Int
  | [], a=>a
  | r :: rs, a=>BH rs (V4 r a)
noncomputable def KP : List (Int × Int) -> Int -> List Int
  | [], _=>[]
  | r :: rs, a=>Gf r a ++ KP rs (V4 r a)
theorem CY (rs : List (Int × Int)) (r : Int × Int) : ∀ a, BH (rs ++ [r]) a = V4 r (BH rs a):=by
  induction rs with
  | nil=>intro a; rfl
  | cons q rs ih=>intro a; exact ih _
theorem Du (rs : List (Int × Int)) (r : Int × Int) : ∀ a, KP (rs ++ [r]) a = KP rs a ++ Gf r (BH rs a):=by
  induction rs with
  | nil=>intro a; simp [KP, BH]
  | cons q rs ih=>intro a; simp [KP, BH, ih]
theorem KG {S : Int} {r : Int × Int} {a : Int} (h0 : 0 <= r.1) (h1 : r.1 + 1 < S) (a0 : 0 <= a) (a1 : a < S) : 0 <= V4 r a /\ V4 r a < S:=by
  unfold V4
  split
  . lia
  . split <;> lia
noncomputable def FV (S : Nat) : List Int:=(List.range S).map λ(k : Nat)=>(k : Int)
theorem Qo {S : Nat} {x : Int} : x ∈ FV S ↔ 0 <= x /\ x < (S : Int):=by
  unfold FV
  rw [List.mem_map]
  constructor
  . rintro ⟨k, hk, rfl⟩
    have:=List.mem_range.mp hk
    lia
  . rintro ⟨h0, h1⟩
    exact ⟨x.toNat, List.mem_range.mpr (by lia), by lia⟩
theorem ZW {α β : Type} {f : α -> β} : ∀ {l : List α}, (∀ a b, a ∈ l -> b ∈ l -> f a = f b -> a = b) -> l.Nodup -> (l.map f).Nodup
  | [], _, _=>List.nodup_nil
  | a :: r, h, nd=>by
    rw [List.map_cons, List.nodup_cons]
    refine ⟨λm=>?_, ZW (λx y hx hy=>h x y (List.mem_cons_of_mem _ hx) (List.mem_cons_of_mem _ hy)) (List.nodup_cons.mp nd).2⟩
    obtain ⟨b, hb, e⟩:=List.mem_map.mp m
    have:=h b a (List.mem_cons_of_mem _ hb) List.mem_cons_self e
    exact (List.nodup_cons.mp nd).1 (by rw [← this]; exact hb)
theorem Qs (S : Nat) : (FV S).Nodup:=ZW (λa b _ _ e=>by lia) List.nodup_range
theorem Jl {α : Type} [DecidableEq α] : ∀ {l m : List α}, l.Nodup -> m.Nodup -> (∀ x, x ∈ l ↔ x ∈ m) -> l.Perm m
  | [], m, _, _, h=>by
    cases m with
    | nil=>exact List.Perm.refl _
    | cons a r=>exact absurd ((h a).mpr List.mem_cons_self) (by simp)
  | a :: r, m, nl, nm, h=>by
    have ha : a ∈ m:=(h a).mp List.mem_cons_self
    have hp : m.Perm (a :: m.erase a):=List.perm_cons_erase ha
    refine List.Perm.trans (List.Perm.cons a ?_) hp.symm
    have nd2 : (a :: m.erase a).Nodup:=hp.nodup_iff.mp nm
    refine Jl (List.nodup_cons.mp nl).2 (List.nodup_cons.mp nd2).2 λx=>?_
    constructor
    . intro hx
      have hxa : x ≠ a:=λe=>(List.nodup_cons.mp nl).1 (by rw [← e]; exact hx)
      have : x ∈ a :: m.erase a:=hp.mem_iff.mp ((h x).mp (List.mem_cons_of_mem _ hx))
      exact (List.mem_cons.mp this).resolve_left hxa
    . intro hx
      have hxa : x ≠ a:=λe=>(List.nodup_cons.mp nd2).1 (e ▸ hx)
      have : x ∈ a :: r:=(h x).mpr (hp.mem_iff.mpr (List.mem_cons_of_mem _ hx))
      exact (List.mem_cons.mp this).resolve_left hxa
theorem DY {S : Nat} {r : Int × Int} (h0 : 0 <= r.1) (h1 : r.1 + 1 < (S : Int)) : ((FV S).map (V4 r)).Perm (FV S):=by
  refine Jl (ZW (λa b _ _ e=>?_) (Qs S)) (Qs S) λx=>?_
  . unfold V4 at e
    split at e <;> split at e <;> (try split at e) <;> (try split at e) <;> lia
  . rw [List.mem_map, Qo]
    constructor
    . rintro ⟨a, ha, rfl⟩
      have:=Qo.mp ha
      exact KG h0 h1 this.1 this.2
    . rintro ⟨x0, x1⟩
      refine ⟨V4 r x, Qo.mpr (KG h0 h1 x0 x1), ?_⟩
      unfold V4
      split <;> (try split) <;> (try split) <;> lia
theorem ZF {α β : Type} (f : α -> List β) {l m : List α} (h : l.Perm m) : (l.flatMap f).Perm (m.flatMap f):=by
  induction h with
  | nil=>exact List.Perm.refl _
  | cons x _ ih=>rw [List.flatMap_cons, List.flatMap_cons]; exact List.Perm.append_left _ ih
  | swap x y l=>
    rw [List.flatMap_cons, List.flatMap_cons, List.flatMap_cons, List.flatMap_cons, ← List.append_assoc, ← List.append_assoc]
    exact List.Perm.append_right _ List.perm_append_comm
  | trans _ _ ih1 ih2=>exact ih1.trans ih2
theorem Vu {α β : Type} (f g : α -> List β) : ∀ l : List α, (l.flatMap λx=>f x ++ g x).Perm (l.flatMap f ++ l.flatMap g)
  | []=>List.Perm.refl _
  | a :: r=>by
    rw [List.flatMap_cons, List.flatMap_cons, List.flatMap_cons]
    refine (List.Perm.append_left _ (Vu f g r)).trans ?_
    rw [List.append_assoc, List.append_assoc]
    refine List.Perm.append_left _ ?_
    rw [← List.append_assoc, ← List.append_assoc]
    exact List.Perm.append_right _ List.perm_append_comm
theorem QB {α β : Type} (f : α -> List β) : ∀ {l : List α}, (∀ x ∈ l, f x = []) -> l.flatMap f = []
  | [], _=>rfl
  | a :: r, h=>by rw [List.flatMap_cons, h a List.mem_cons_self, QB f λx hx=>h x (List.mem_cons_of_mem _ hx)]; rfl
theorem BY {S : Nat} {r : Int × Int} (h0 : 0 <= r.1) (h1 : r.1 + 1 < (S : Int)) : ((FV S).flatMap (Gf r)).Perm [r.2, -r.2]:=by
  have ha : r.1 ∈ FV S:=Qo.mpr ⟨h0, by lia⟩
  have hp:=List.perm_cons_erase ha
  have nd:=hp.nodup_iff.mp (Qs S)
  have hb : r.1 + 1 ∈ (FV S).erase r.1:=by
    have : r.1 + 1 ∈ r.1 :: (FV S).erase r.1:=hp.mem_iff.mp (Qo.mpr ⟨by lia, h1⟩)
    exact (List.mem_cons.mp this).resolve_left (by lia)
  have hq:=List.perm_cons_erase hb
  have nd2:=hq.nodup_iff.mp (List.nodup_cons.mp nd).2
  refine (ZF _ (hp.trans (List.Perm.cons _ hq))).trans ?_
  rw [List.flatMap_cons, List.flatMap_cons, QB]
  . unfold Gf
    rw [if_pos rfl, if_neg (by lia), if_pos rfl]
    exact List.Perm.refl _
  . intro x hx
    have x2 : x ≠ r.1 + 1:=λe=>(List.nodup_cons.mp nd2).1 (e ▸ hx)
    have x1 : x ≠ r.1:=λe=>(List.nodup_cons.mp nd).1 (e ▸ hq.mem_iff.mpr (List.mem_cons_of_mem _ hx))
    unfold Gf
    rw [if_neg x1, if_neg x2]
theorem QE {α β γ : Type} (f : α -> β) (g : β -> List γ) (l : List α) : (l.map f).flatMap g = l.flatMap λx=>g (f x):=by
  induction l with
  | nil=>rfl
  | cons a r ih=>rw [List.map_cons, List.flatMap_cons, List.flatMap_cons, ih]
theorem GK {S : Nat} : ∀ {rs : List (Int × Int)}, (∀ r ∈ rs, 0 <= r.1 /\ r.1 + 1 < (S : Int)) -> ((FV S).flatMap (KP rs)).Perm (rs.flatMap λr=>[r.2, -r.2])
  | [], _=>by rw [QB (KP []) (λx _=>rfl)]; exact List.Perm.refl _
  | r :: rs, h=>by
    obtain ⟨h0, h1⟩:=h r List.mem_cons_self
    rw [List.flatMap_cons]
    refine (Vu (Gf r) (λa=>KP rs (V4 r a)) (FV S)).trans ?_
    refine List.Perm.append (BY h0 h1) ?_
    rw [← QE (V4 r) (KP rs)]
    exact (ZF _ (DY h0 h1)).trans (GK λq hq=>h q (List.mem_cons_of_mem _ hq))
theorem EX {x s : Int} (h : s = 1 ∨ s = -1) : [x * s, -(x * s)].Perm [x, -x]:=by
  rcases h with h | h
  . subst h; simp
  . subst h
    have e1 : x * -1 = -x:=by lia
    have e2 : -(-x) = x:=by lia
    rw [e1, e2]
    exact List.Perm.swap _ _ _
theorem QR {α β : Type} {f g : α -> List β} : ∀ {l : List α}, (∀ x ∈ l, (f x).Perm (g x)) -> (l.flatMap f).Perm (l.flatMap g)
  | [], _=>List.Perm.refl _
  | a :: r, h=>by
    rw [List.flatMap_cons, List.flatMap_cons]
    exact List.Perm.append (h a List.mem_cons_self) (QR λx hx=>h x (List.mem_cons_of_mem _ hx))
end My
namespace My
theorem HY {r : Int × Int} {a : Int} (h : a = r.1) : Gf r a = [r.2]:=by unfold Gf; rw [if_pos h]
theorem EQ {r : Int × Int} {a : Int} (h : a = r.1 + 1) : Gf r a = [-r.2]:=by unfold Gf; rw [if_neg (by lia), if_pos h]
theorem Il {r : Int × Int} {a : Int} (h : ¬ a = r.1) (h2 : ¬ a = r.1 + 1) : Gf r a = []:=by unfold Gf; rw [if_neg h, if_neg h2]
theorem Hb {r : Int × Int} {a : Int} (h : a = r.1) : V4 r a = r.1 + 1:=by unfold V4; rw [if_pos h]
theorem HH {r : Int × Int} {a : Int} (h : a = r.1 + 1) : V4 r a = r.1:=by unfold V4; rw [if_neg (by lia), if_pos h]
theorem E7 {r : Int × Int} {a : Int} (h : ¬ a = r.1) (h2 : ¬ a = r.1 + 1) : V4 r a = a:=by unfold V4; rw [if_neg h, if_neg h2]
structure Done (S : Int) (seen : List Bool) (ps : List Int) : Prop where
  nd : ps.Nodup
  at' : ∀ p ∈ ps, 0 <= p /\ p < S /\ seen[p.toNat]? = some true
  of : ∀ q : Nat, seen[q]? = some true -> (q : Int) ∈ ps
theorem Done.none (S : Int) (n : Nat) : Done S (List.replicate n false) []:=
  ⟨List.nodup_nil, λp h=>by simp at h, λq h=>by
    rw [List.getElem?_replicate] at h
    split at h <;> cases h⟩
theorem UF {l : List Bool} {j q : Nat} (h : l[q]? = some true) : (l.set j true)[q]? = some true:=by
  by_cases e : j = q
  . subst e
    rw [List.getElem?_set_self (List.getElem?_eq_some_iff.mp h).1]
  . rw [List.getElem?_set_ne e]; exact h
theorem Done.snoc {S : Int} {seen : List Bool} {ps : List Int} {a : Int} (h : Done S seen ps) (a0 : 0 <= a) (a1 : a < S) (e : seen[a.toNat]? = some false) : Done S (seen.set a.toNat true) (ps ++ [a]):=by
  have hl : a.toNat < seen.length:=(List.getElem?_eq_some_iff.mp e).1
  have hn : a ∉ ps:=λm=>by
    have:=(h.at' a m).2.2
    rw [e] at this; cases this
  refine ⟨?_, λp hp=>?_, λq hq=>?_⟩
  . rw [List.nodup_append]
    refine ⟨h.nd, by simp, λx hx y hy=>?_⟩
    rw [List.mem_singleton.mp hy]
    exact λe=>hn (e ▸ hx)
  . rcases List.mem_append.mp hp with hp | hp
    . obtain ⟨h1, h2, h3⟩ := h.at' p hp
      exact ⟨h1, h2, UF h3⟩
    . rw [List.mem_singleton.mp hp]
      exact ⟨a0, a1, by rw [List.getElem?_set_self hl]⟩
  . by_cases hqa : a.toNat = q
    . exact List.mem_append_right _ (List.mem_singleton.mpr (by lia))
    . rw [List.getElem?_set_ne hqa] at hq
      exact List.mem_append_left _ (h.of q hq)
theorem Done.all {S : Int} {seen : List Bool} {ps : List Int} (h : Done S seen ps) (hl : seen.length = S.toNat) (h0 : 0 <= S) (ha : ∀ q : Nat, q < S.toNat -> seen[q]? = some true) : ps.Perm (FV S.toNat):=by
  refine Jl h.nd (Qs _) λx=>?_
  rw [Qo]
  constructor
  . intro hx
    obtain ⟨h1, h2, _⟩:=h.at' x hx
    lia
  . rintro ⟨x0, x1⟩
    have:=h.of x.toNat (ha x.toNat (by lia))
    rw [show ((x.toNat : Nat) : Int) = x by lia] at this
    exact this
theorem GT {seen : List Bool} {i : Nat} (h : ∀ q : Nat, q < i -> seen[q]? = some true) (hi : seen[i]? = some true) : ∀ q : Nat, q < i + 1 -> seen[q]? = some true:=λq hq=>by
  by_cases e : q = i
  . subst e; exact hi
  . exact h q (by lia)
end My
namespace My
open PySem L2
theorem Dd (ns : List Int) {p : Int} (hp : 0 <= p) : ∃ c, Vh ns p = .ok c:=by
  unfold Vh
  simp only [Rs.okb]
  by_cases h : p < (ns.length : Int)
  . rw [decide_eq_true h, if_pos rfl]
    have hl : p.toNat < ns.length:=by lia
    exact ⟨ns[p.toNat], IF hp (by simp [hl])⟩
  . rw [decide_eq_false h, if_neg Bool.false_ne_true]
    obtain ⟨g, e, _⟩:=GQ (as:=FQ ns none (some 63)) (g:=(5 : Int)) (f:=λg15 a17=>(Rs.bind (Rs.bind (Rs.bind (Rs.bind (Z5 g15 48271) λx25=>(Rs.bind (ZK a17 1000003) λx26=>(Rs.ok (x25 + x26)))) λx27=>Rs.ok (x27 + 1)) λx29=>ZK x29 2147483647) λa19=>(Rs.ok (a19)))) (λ_ _=>True) True.intro λi a g _ _=>by
      rw [QI (by decide) (by decide), Rs.ok_bind, Ye (by decide), Rs.ok_bind, Rs.ok_bind, Rs.ok_bind, Ye (by decide), Rs.ok_bind]
      exact ⟨_, rfl, True.intro⟩
    rw [e, Rs.ok_bind, Yz (by decide) (by decide), Rs.ok_bind, Rs.ok_bind, Ye (by decide)]
    exact ⟨_, rfl⟩
theorem Ej (c : Int) {k : Int} (h0 : 0 <= k) (h1 : k <= 100000) : ∃ y, K8 c k = .ok y /\ 0 <= y:=by
  unfold K8
  simp only [Rs.okb]
  have hm : 0 <= c % 2147483629 /\ c % 2147483629 < 2147483629:=⟨Int.emod_nonneg _ (by decide), Int.emod_lt_of_pos _ (by decide)⟩
  rw [Ye (by decide), Rs.ok_bind, Yz (by decide) (by decide), Rs.ok_bind, Rs.ok_bind, Rs.ok_bind, Ka (by decide) (by decide) (by lia) (by lia), Rs.ok_bind, Ye (by decide), Rs.ok_bind]
  rw [QI (by decide) (by decide), Rs.ok_bind, Yz (by decide) (by decide), Rs.ok_bind, QI (by lia) (by lia), Rs.ok_bind, Rs.ok_bind, Rs.ok_bind, Ye (by decide), Rs.ok_bind, EG (by decide) (by decide)]
  exact ⟨_, rfl, Int.ediv_nonneg (Int.emod_nonneg _ (by decide)) (by decide)⟩
theorem EB (ns : List Int) {p : Int} (hp : 0 <= p) (sizes : List Int) (hl : sizes.length <= 100000) (hs : ∀ x ∈ sizes, 0 < x /\ x < 2 ^ 250) :
    Ok (Kg ns p sizes) λr=>r.length = sizes.length /\ ∀ (i : Nat) x s, r[i]? = some x -> sizes[i]? = some s -> 0 <= x /\ x < s:=by
  obtain ⟨c, ec⟩:=Dd ns hp
  unfold Kg
  simp only [Rs.okb]
  rw [ec, show noE (Rs.ok c) = .ok c from rfl, Rs.ok_bind, Qz (by lia), Rs.ok_bind, Ka (by decide) (by decide) (by decide) (by decide)]
  simp only [Rs.okb]
  have key : ∀ (i : Nat) (a : Int) (g : List Int × Int), ((List.range sizes.length).map λ(i : Nat)=>(i : Int))[i]? = some a -> (g.1.length = i /\ ∀ (j : Nat) x s, g.1[j]? = some x -> sizes[j]? = some s -> 0 <= x /\ x < s) -> ∀ y z : Int, ∀ s, sizes[i]? = some s -> 0 <= y /\ y < s -> ((g.1 ++ [y], z).1.length = i + 1 /\ ∀ (j : Nat) x s, (g.1 ++ [y], z).1[j]? = some x -> sizes[j]? = some s -> 0 <= x /\ x < s):=by
    intro i a g ha ⟨hg, hq⟩ y z s hs1 hy
    refine ⟨by simp [hg], λj x s' hx hs'=>?_⟩
    have hx : (g.1 ++ [y])[j]? = some x:=hx
    rcases Nat.lt_trichotomy j i with hj | hj | hj
    . rw [List.getElem?_append_left (by lia)] at hx; exact hq j x s' hx hs'
    . subst hj
      rw [List.getElem?_append_right (by lia), hg, Nat.sub_self] at hx
      have : y = x:=by simpa using hx
      rw [hs1] at hs'
      cases hs'
      rw [← this]; exact hy
    . rw [List.getElem?_eq_none (by simp; lia)] at hx; cases hx
  refine Ok.bind (Ok.forN (λi (g : List Int × Int)=>g.1.length = i /\ ∀ (j : Nat) x s, g.1[j]? = some x -> sizes[j]? = some s -> 0 <= x /\ x < s) ⟨rfl, λj x s h _=>by simp at h⟩ λi a g ha hg=>?_) (T:=λ(r : List Int)=>r.length = sizes.length /\ ∀ (i : Nat) x s, r[i]? = some x -> sizes[i]? = some s -> 0 <= x /\ x < s) λg ⟨hg, hq⟩=>?_
  . obtain ⟨rfl, hi⟩ := ZC ha
    have hsz : sizes[i]? = some sizes[i]:=by simp [hi]
    have hsp:=hs _ (List.getElem_mem hi)
    have hgl : g.1.length < sizeLine:=BK (by have:=hg.1; lia)
    by_cases hc : c < 10 ^ (18 : Int).toNat
    . rw [decide_eq_true hc, if_pos rfl]
      obtain ⟨y, ey, hy⟩:=Ej c (k:=(i : Int)) (by lia) (by lia)
      rw [ey, show noE (Rs.ok y) = .ok y from rfl, Rs.ok_bind, Z2 hsz, Rs.ok_bind, Ye hsp.1, Rs.ok_bind, Xy hgl]
      exact ⟨_, rfl, key i _ g ha hg _ _ _ hsz ⟨Int.emod_nonneg _ (by lia), Int.emod_lt_of_pos _ hsp.1⟩⟩
    . rw [decide_eq_false hc, if_neg Bool.false_ne_true]
      by_cases hq : 0 < g.2
      . rw [decide_eq_true hq, if_pos rfl, Z2 hsz, Rs.ok_bind, Ye hsp.1, Rs.ok_bind, Xy hgl]
        simp only [Rs.okb]
        rw [EG hsp.1 hsp.2]
        exact ⟨_, rfl, key i _ g ha hg _ _ _ hsz ⟨Int.emod_nonneg _ (by lia), Int.emod_lt_of_pos _ hsp.1⟩⟩
      . rw [decide_eq_false hq, if_neg Bool.false_ne_true, Ye (by decide), Rs.ok_bind]
        obtain ⟨c2, ec2⟩:=Dd ns (p:=(p + 1 + (i : Int)) % 63) (Int.emod_nonneg _ (by decide))
        obtain ⟨y, ey, hy⟩:=Ej c2 (k:=(i : Int)) (by lia) (by lia)
        rw [ec2, show noE (Rs.ok c2) = .ok c2 from rfl, Rs.ok_bind, ey, show noE (Rs.ok y) = .ok y from rfl, Rs.ok_bind, Z2 hsz, Rs.ok_bind, Ye hsp.1, Rs.ok_bind, Xy hgl]
        exact ⟨_, rfl, key i _ g ha hg _ _ _ hsz ⟨Int.emod_nonneg _ (by lia), Int.emod_lt_of_pos _ hsp.1⟩⟩
  . rw [Zw] at hg
    exact ⟨g.1, rfl, hg, hq⟩
theorem YA {α : Type} {r : List α} {k : Int} {n : Nat} (e : k = (n : Int)) (h : n < r.length) : atR r k = .ok r[n]:=by
  subst e; exact Z2 (by simp [h])
theorem Gv {γ : Type} {c : γ -> Rs Bool} {f : γ -> Rs γ} (P : γ -> Prop) (μ : γ -> Nat) (hs : ∀ g, P g -> ∃ b, c g = .ok b /\ (b = true -> Ok (f g) λg'=>P g' /\ μ g' < μ g)) : ∀ (n : Nat) (g : γ), P g -> μ g < n -> Ok (Qc n g c f) λg'=>P g' /\ c g' = .ok false
  | 0, _, _, h=>by lia
  | n + 1, g, hp, hm=>by
    obtain ⟨b, hb, h⟩:=hs g hp
    show Ok ((c g).bind _) _
    rw [hb, Rs.okb]
    cases b with
    | false=>rw [if_neg Bool.false_ne_true]; exact ⟨g, rfl, hp, hb⟩
    | true=>
      rw [if_pos rfl]
      exact Ok.bind (h rfl) λg' h'=>Gv P μ hs n g' h'.1 (by lia)
theorem BM {ns r : List Int} (hl : ns.length <= 100) (hr : 8 * ns.length + 3 <= r.length) : Ok (Jb ns r) λl=>l.Perm ns:=by
  unfold Jb
  simp only [Rs.okb]
  rw [Qz (by lia)]
  simp only [Rs.okb]
  refine Ok.bind (Ok.forN (λi (g : List Int × List Int)=>g.1.length = i /\ (g.1 ++ g.2).Perm ns) ⟨rfl, List.Perm.refl _⟩ λi a g ha hg=>?_) λg hg=>?_
  . obtain ⟨rfl, hi⟩ := ZC ha
    obtain ⟨h1, h2⟩:=hg
    have hl:=h2.length_eq
    simp only [List.length_append] at hl
    rw [Yz (by decide) (by decide)]
    simp only [Rs.okb]
    rw [YA (r:=r) (n:=8 * i + 9) (by lia) (by lia)]
    simp only [Rs.okb]
    have hpos : (0 : Int) < (g.2.length : Int):=by lia
    generalize r[8 * i + 9] = y
    have hm1:=Int.emod_nonneg y (show (g.2.length : Int) ≠ 0 by lia)
    have hm2:=Int.emod_lt_of_pos y hpos
    rw [Ye hpos, Rs.okb]
    generalize hk : y % (g.2.length : Int) = k at hm1 hm2
    obtain ⟨j, rfl⟩ : ∃ j : Nat, k = j:=⟨k.toNat, by lia⟩
    have hj : j < g.2.length:=by lia
    rw [ED hj (by lia), Rs.okb, Xy (BK (by lia))]
    refine ⟨_, rfl, by simp [h1], ?_⟩
    refine List.Perm.trans ?_ h2
    show ((g.1 ++ [g.2[j]]) ++ g.2.eraseIdx j).Perm (g.1 ++ g.2)
    rw [List.append_assoc]
    exact (VV hj).append_left _
  . obtain ⟨h1, h2⟩ := hg
    rw [Zw] at h1
    have hl:=h2.length_eq
    simp only [List.length_append] at hl
    have : g.2 = []:=List.length_eq_zero_iff.mp (by lia)
    rw [this, List.append_nil] at h2
    exact ⟨_, rfl, h2⟩
theorem IZ {ns r : List Int} {rings : Nat} (hl : ns.length <= 100) (hr : 8 * ns.length + 3 <= r.length) (hg : ns ≠ [] -> 1 <= rings) (hg2 : rings <= 100) : Ok (Fu ns r (rings : Int)) λws=>ws.length = rings /\ ws.flatten.Perm (ns.flatMap λx=>[x, -x]):=by
  unfold Fu
  simp only [Rs.okb]
  refine Ok.bind (Ok.forN (λi (g : List Int)=>g = (ns.take i).flatMap λx=>[x, -x]) rfl λi a g ha hg=>?_) λg hgg=>?_
  . have hi := (List.getElem?_eq_some_iff.mp ha).1
    subst hg
    rw [Xy (show [a, -a].length <= sizeLine from sz (by simp)), Rs.okb, Xy (sz (by rw [Qg]; simp; lia))]
    refine ⟨_, rfl, ?_⟩
    rw [List.take_add_one, ha]
    simp
  rw [List.take_length] at hgg
  subst hgg
  rw [Qz (by lia)]
  simp only [Rs.okb]
  rw [Y2 (h:=λ_=>([] : List Int)) (sz (by simp; lia)) λ_ _=>rfl]
  simp only [Rs.okb]
  rw [Yz (by decide) (by decide), Rs.okb, show (2 : Int) * (ns.length : Int) = ((2 * ns.length : Nat) : Int) by lia, Qz (by lia)]
  simp only [Rs.okb]
  refine Ok.bind (Ok.forN (λi (g : List Int × List (List Int))=>g.2.length = rings /\ g.1.length + i = 2 * ns.length /\ (∀ w ∈ g.2, w.length <= i) /\ (g.2.flatten ++ g.1).Perm (ns.flatMap λx=>[x, -x])) ⟨by simp, by rw [Qg]; rfl, λw hw=>?_, ?_⟩ λi a g ha hg=>?_) λg hg=>?_
  . obtain ⟨_, _, rfl⟩ := List.mem_map.mp hw
    exact Nat.zero_le _
  . have : ∀ l : List Int, (l.map λ_ => ([] : List Int)).flatten = [] := λl => by simp
    rw [this]; exact List.Perm.refl _
  . obtain ⟨rfl, hi⟩ := ZC ha
    obtain ⟨h1, h2, h3, h4⟩:=hg
    have hne : 1 <= rings:=by
      refine ‹ns ≠ [] -> 1 <= rings› λe=>?_
      rw [e] at hi; simp at hi
    rw [Yz (by decide) (by decide)]
    simp only [Rs.okb]
    rw [YA (r:=r) (n:=4 * i + 5) (by lia) (by lia)]
    simp only [Rs.okb]
    have hpos : (0 : Int) < (g.1.length : Int):=by lia
    generalize r[4 * i + 5] = y
    have hm1:=Int.emod_nonneg y (show (g.1.length : Int) ≠ 0 by lia)
    have hm2:=Int.emod_lt_of_pos y hpos
    rw [Ye hpos, Rs.okb]
    generalize hk : y % (g.1.length : Int) = k at hm1 hm2
    obtain ⟨j, rfl⟩ : ∃ j : Nat, k = j:=⟨k.toNat, by lia⟩
    have hj : j < g.1.length:=by lia
    rw [ED hj (by lia), Rs.okb]
    simp only [Rs.okb]
    rw [YA (r:=r) (n:=4 * i + 6) (by lia) (by lia)]
    simp only [Rs.okb]
    generalize r[4 * i + 6] = y2
    have hp2 : (0 : Int) < (rings : Int):=by lia
    have hn1:=Int.emod_nonneg y2 (show (rings : Int) ≠ 0 by lia)
    have hn2:=Int.emod_lt_of_pos y2 hp2
    rw [Ye hp2, Rs.okb]
    generalize hk2 : y2 % (rings : Int) = k2 at hn1 hn2
    obtain ⟨q, rfl⟩ : ∃ q : Nat, k2 = q:=⟨k2.toNat, by lia⟩
    have hq : q < g.2.length:=by lia
    have hw:=h3 g.2[q] (List.getElem_mem hq)
    rw [YA (n:=q) rfl hq, Rs.okb, Xy (BK (by lia)), Vk hq, Rs.okb]
    have hjs : g.1[j]? = some g.1[j]:=by simp [hj]
    have hqs : g.2[q]? = some g.2[q]:=by simp [hq]
    refine ⟨_, rfl, by simp [h1], ?_, λw hw'=>?_, (DH hqs hjs).trans h4⟩
    . have := Kw hjs
      show (g.1.eraseIdx j).length + (i + 1) = _
      lia
    . rcases mem_set hw' with h | h
      . have:=h3 w h; lia
      . rw [h]; simp; lia
  . obtain ⟨h1, h2, h3, h4⟩ := hg
    rw [Zw] at h2
    have : g.1 = []:=List.length_eq_zero_iff.mp (by lia)
    rw [this, List.append_nil] at h4
    exact ⟨_, rfl, h1, h4⟩
noncomputable def JX (ns r : List Int) (sg : Int -> Int) (S : Int) : List (Int × Int):=(List.range ns.length).map λk=>(r.getD (8 * k + 10) 0 % (S - 1), ns.getD k 0 * sg (ns.getD k 0))
theorem FK {ns r : List Int} {sg : Int -> Int} {S : Int} {k : Nat} (h : k < ns.length) (h2 : 8 * k + 10 < r.length) : (JX ns r sg S)[k]? = some (r[8 * k + 10] % (S - 1), ns[k] * sg ns[k]):=by
  unfold JX
  rw [List.getElem?_map, List.getElem?_range h]
  simp [h, h2]
theorem FH {ns r : List Int} {d : List (Int × Int)} {sg : Int -> Int} {S : Nat} (hl : ns.length <= 100) (hr : 8 * ns.length + 3 <= r.length) (hd : ∀ x ∈ ns, Zd d x = some (sg x)) (hs : ∀ x ∈ ns, sg x = 1 ∨ sg x = -1) (h2 : 2 <= S) (h4 : S <= 100) : Ok (ZO ns d r (S : Int)) λws=>ws.length <= S /\ ws.flatten.Perm (ns.flatMap λx=>[x, -x]):=by
  have hrs : ∀ q ∈ JX ns r sg (S : Int), 0 <= q.1 /\ q.1 + 1 < (S : Int):=λq hq=>by
    obtain ⟨k, _, rfl⟩:=List.mem_map.mp hq
    have hp : (0 : Int) < (S : Int) - 1:=by lia
    have hm1:=Int.emod_nonneg (r.getD (8 * k + 10) 0) (show ((S : Int) - 1) ≠ 0 by lia)
    have hm2:=Int.emod_lt_of_pos (r.getD (8 * k + 10) 0) hp
    show 0 <= _ % _ /\ _ % _ + 1 < _
    lia
  have hrl : (JX ns r sg (S : Int)).length = ns.length:=by simp [JX]
  have hin : ∀ (rs : List (Int × Int)), (∀ q ∈ rs, 0 <= q.1 /\ q.1 + 1 < (S : Int)) -> ∀ a : Int, 0 <= a -> a < (S : Int) -> 0 <= BH rs a /\ BH rs a < (S : Int):=by
    intro rs
    induction rs with
    | nil=>intro _ a h0 h1; exact ⟨h0, h1⟩
    | cons q rs ih=>
      intro hq a h0 h1
      have h:=KG (hq q (by simp)).1 (hq q (by simp)).2 h0 h1
      exact ih (λx hx=>hq x (by simp [hx])) _ h.1 h.2
  have hcl : ∀ (rs : List (Int × Int)) (a : Int), (KP rs a).length <= rs.length:=by
    intro rs
    induction rs with
    | nil=>intro a; exact Nat.le_refl _
    | cons q rs ih=>
      intro a
      show (Gf q a ++ KP rs (V4 q a)).length <= _
      have h1 : (Gf q a).length <= 1:=by
        unfold Gf
        split
        . simp
        . split <;> simp
      have:=ih (V4 q a)
      simp only [List.length_append, List.length_cons]
      lia
  unfold ZO
  simp only [Rs.okb]
  rw [Xy (show [false].length <= sizeLine from sz (by simp)), Rs.okb, show Fo [false] (S : Int) = .ok (List.replicate S false) from ?_]
  rotate_left
  . unfold Fo
    rw [Xy ⟨by lia, by lia, sz (by simp; lia)⟩, Int.toNat_natCast]
    congr 1
    clear h2 h4 hrs hin hrl
    induction S with
    | zero=>rfl
    | succ n ih=>rw [List.replicate_succ, List.flatten_cons, ih, List.replicate_succ]; rfl
  rw [Rs.okb, Qz (by lia), Rs.okb]
  generalize hR : JX ns r sg (S : Int) = rs at hrs hrl
  refine Ok.bind (Ok.forN (λi (g : List Bool × List (List Int))=>g.1.length = S /\ g.2.length <= i /\ (∀ q : Nat, q < i -> g.1[q]? = some true) /\ ∃ ps, Done (S : Int) g.1 ps /\ g.2.flatten = ps.flatMap (KP rs)) ⟨by simp, Nat.le_refl _, λq hq=>by lia, [], Done.none _ _, rfl⟩ λi a g ha hg=>?_) λg hg=>?_
  . obtain ⟨rfl, hi⟩ := ZC ha
    obtain ⟨g1, g2, g3, ps, g4, g5⟩:=hg
    have hi1 : i < g.1.length:=by lia
    rw [YA (n:=i) rfl hi1]
    simp only [Rs.okb]
    cases hb : g.1[i] with
    | true=>
      rw [show (!true) = false from rfl, if_neg Bool.false_ne_true]
      simp only [Rs.okb]
      exact ⟨_, rfl, g1, by show g.2.length <= _; lia, GT g3 (by simp [hi1, hb]), ps, g4, g5⟩
    | false=>
      rw [show (!false) = true from rfl, if_pos rfl]
      refine Ok.bind (R:=λg' : List Bool × List (List Int)=>g'.1.length = S /\ g'.2.length <= i + 1 /\ (∀ q : Nat, q < i + 1 -> g'.1[q]? = some true) /\ ∃ ps, Done (S : Int) g'.1 ps /\ g'.2.flatten = ps.flatMap (KP rs)) (Ok.bind (Gv (λg' : List Bool × Int × List Int=>g'.1.length = S /\ 0 <= g'.2.1 /\ g'.2.1 < (S : Int) /\ (∀ q : Nat, g.1[q]? = some true -> g'.1[q]? = some true) /\ ((g'.2.1 = (i : Int) /\ g'.1[i]? = some false) ∨ g'.1[i]? = some true) /\ g'.2.2.length + 100 * g'.1.count false <= 100 * S /\ ∃ qs, Done (S : Int) g'.1 (ps ++ qs) /\ g'.2.2 = qs.flatMap (KP rs)) (λg'=>g'.1.count false) (λg' hg'=>?_) _ (g.1, (i : Int), []) ⟨g1, by show (0 : Int) <= (i : Int); lia, by show (i : Int) < (S : Int); lia, λq h=>h, .inl ⟨rfl, by simp [hi1, hb]⟩, by
        have : g.1.count false <= g.1.length:=List.count_le_length
        show 0 + 100 * g.1.count false <= 100 * S
        lia, [], by rw [List.append_nil]; exact g4, rfl⟩ ?_) λg' hg'=>?_) λg' hg'=>?_
      . obtain ⟨w1, w2, w3, w4, w5, w8, qs, w6, w7⟩ := hg'
        obtain ⟨p, hp⟩ : ∃ p : Nat, g'.2.1 = (p : Int):=⟨g'.2.1.toNat, by lia⟩
        have hpl : p < g'.1.length:=by lia
        rw [YA hp hpl]
        refine ⟨_, rfl, λhf=>?_⟩
        have hf' : g'.1[p] = false:=by simpa using hf
        have hfs : g'.1[p]? = some false:=by simp [hpl, hf']
        rw [hp, Vk hpl]
        simp only [Rs.okb]
        rw [Qz (by lia)]
        simp only [Rs.okb]
        refine Ok.bind (Ok.forN (λk (h : Int × List Int)=>h.1 = BH (rs.take k) (p : Int) /\ h.2 = g'.2.2 ++ KP (rs.take k) (p : Int)) ⟨rfl, by rw [List.take_zero]; exact (List.append_nil _).symm⟩ λk b h hb' hh=>?_) λh hh=>?_
        . obtain ⟨rfl, hk⟩ := ZC hb'
          obtain ⟨e1, e2⟩:=hh
          have hq:=FK (sg:=sg) (S:=(S : Int)) hk (show 8 * k + 10 < r.length by lia)
          rw [hR] at hq
          have hts : rs.take (k + 1) = rs.take k ++ [(r[8 * k + 10] % ((S : Int) - 1), ns[k] * sg ns[k])]:=by rw [List.take_add_one, hq]; rfl
          rw [hts, CY, Du, ← e1]
          rw [Yz (by decide) (by decide)]
          simp only [Rs.okb]
          rw [YA (r:=r) (n:=8 * k + 10) (by lia) (by lia)]
          simp only [Rs.okb]
          rw [Ye (by lia)]
          simp only [Rs.okb]
          rw [YA (r:=ns) (n:=k) rfl hk]
          simp only [Rs.okb]
          have hgd : VN d ns[k] = .ok (sg ns[k]):=by unfold VN; rw [hd _ (List.getElem_mem hk)]; rfl
          have hsg:=hs _ (List.getElem_mem hk)
          rw [hgd]
          simp only [Rs.okb]
          rw [QI (a:=ns[k]) (by lia) (by lia), QI (a:=-ns[k]) (by lia) (by lia)]
          simp only [Rs.okb]
          have hlen : h.2.length < sizeLine:=BK (by
            have:=hcl (rs.take k) (p : Int)
            rw [List.length_take] at this
            rw [e2, List.length_append]; lia)
          rw [Xy hlen, Xy hlen]
          generalize r[8 * k + 10] % ((S : Int) - 1) = low
          by_cases c1 : h.1 = low
          . rw [if_pos (decide_eq_true c1)]
            simp only [Rs.okb]
            refine ⟨_, rfl, ?_, ?_⟩
            . rw [Hb c1]
            . rw [HY c1, e2, List.append_assoc]
          . rw [if_neg (by rw [decide_eq_false c1]; exact Bool.false_ne_true)]
            by_cases c2 : h.1 = low + 1
            . rw [if_pos (decide_eq_true c2)]
              simp only [Rs.okb]
              refine ⟨_, rfl, ?_, ?_⟩
              . rw [HH c2]
              . rw [EQ c2, e2, List.append_assoc, Int.neg_mul]
            . rw [if_neg (by rw [decide_eq_false c2]; exact Bool.false_ne_true)]
              simp only [Rs.okb]
              refine ⟨_, rfl, ?_, ?_⟩
              . rw [E7 c1 c2]
              . rw [Il c1 c2, List.append_nil, e2]
        . rw [Zw, ← hrl, List.take_length] at hh
          obtain ⟨e1, e2⟩:=hh
          have hpr:=hin rs hrs (p : Int) (by lia) (by lia)
          have hct:=UP hfs
          have hcl':=hcl rs (p : Int)
          refine ⟨_, rfl, ⟨?_, ?_, ?_, ?_, ?_, ?_, qs ++ [(p : Int)], ?_, ?_⟩, ?_⟩
          . show (g'.1.set p true).length = S
            rw [List.length_set]; exact w1
          . show 0 <= h.1
            rw [e1]; exact hpr.1
          . show h.1 < _
            rw [e1]; exact hpr.2
          . exact λq hq=>UF (w4 q hq)
          . refine .inr ?_
            show (g'.1.set p true)[i]? = some true
            rcases w5 with ⟨h1, _⟩ | h1
            . have : p = i := by lia
              subst this
              rw [List.getElem?_set_self hpl]
            . exact UF h1
          . show h.2.length + 100 * (g'.1.set p true).count false <= 100 * S
            rw [e2, List.length_append]; lia
          . rw [← List.append_assoc]
            have:=w6.snoc (a:=(p : Int)) (by lia) (by lia) (by rw [Int.toNat_natCast]; exact hfs)
            rwa [Int.toNat_natCast] at this
          . show h.2 = _
            rw [e2, w7, List.flatMap_append]
            simp
          . show (g'.1.set p true).count false < g'.1.count false
            lia
      . have : g.1.count false <= g.1.length := List.count_le_length
        show g.1.count false < (S : Int).natAbs + 2
        lia
      . obtain ⟨⟨w1, w2, w3, w4, w5, w8, qs, w6, w7⟩, hc⟩ := hg'
        obtain ⟨p, hp⟩ : ∃ p : Nat, g'.2.1 = (p : Int):=⟨g'.2.1.toNat, by lia⟩
        have hpl : p < g'.1.length:=by lia
        rw [YA hp hpl, Rs.okb] at hc
        have hc' : g'.1[p] = true:=by
          have:=Rs.ok.inj hc
          simpa using this
        have h5 : g'.1[i]? = some true:=by
          rcases w5 with ⟨h1, h6⟩ | h1
          . have : p = i := by lia
            subst this
            rw [List.getElem?_eq_getElem hpl, hc'] at h6
            cases h6
          . exact h1
        rw [Xy (BK (by lia))]
        refine ⟨_, rfl, w1, ?_, ?_, ps ++ qs, w6, ?_⟩
        . show (g.2 ++ [g'.2.2]).length <= _
          simp; lia
        . exact GT (λq hq=>w4 q (g3 q hq)) h5
        . show (g.2 ++ [g'.2.2]).flatten = _
          rw [List.flatten_append, g5, List.flatMap_append, w7]
          simp
      . exact ⟨_, rfl, hg'⟩
  . obtain ⟨g1, g2, g3, ps, g4, g5⟩ := hg
    rw [Zw] at g2 g3
    refine ⟨_, rfl, g2, ?_⟩
    rw [g5]
    refine (ZF _ (g4.all (by rw [g1]; rfl) (by lia) λq hq=>g3 q (by lia))).trans ?_
    rw [Int.toNat_natCast]
    refine (GK hrs).trans ?_
    rw [← hR]
    unfold JX
    rw [QE]
    have e : ns.flatMap (λx=>[x, -x]) = (List.range ns.length).flatMap λk=>[ns.getD k 0, -(ns.getD k 0)]:=by
      have h : ns = (List.range ns.length).map λk=>ns.getD k 0:=List.ext_getElem (by simp) λj h1 h2=>by simp [h1]
      conv=>lhs; rw [h]
      rw [QE]
    rw [e]
    refine QR λk hk=>EX (hs _ ?_)
    have hk':=List.mem_range.mp hk
    simp [hk']
theorem Dp {α : Type} {l : List α} {m c : Nat} (hm : l.length = m) (hc : c < m) : ∀ {n j : Nat}, j < n -> (List.replicate n l).flatten[m * j + c]? = l[c]?
  | 0, _, h=>by lia
  | n + 1, 0, _=>by
    rw [List.replicate_succ, List.flatten_cons, Nat.mul_zero, Nat.zero_add, List.getElem?_append_left (by lia)]
  | n + 1, j + 1, h=>by
    rw [List.replicate_succ, List.flatten_cons, List.getElem?_append_right (by rw [hm, Nat.mul_succ]; lia), hm, show m * (j + 1) + c - m = m * j + c by rw [Nat.mul_succ]; lia]
    exact Dp hm hc (by lia)
theorem CV {α : Type} (l : List α) : ∀ n : Nat, (List.replicate n l).flatten.length = n * l.length
  | 0=>by simp
  | n + 1=>by rw [List.replicate_succ, List.flatten_cons, List.length_append, CV l n, Nat.succ_mul]; lia
structure Drawn (most : Nat) (D : List (List Int) × List (Int × Int)) : Prop where
  le : D.2.length <= most
  inc : (D.2.map Prod.fst).Pairwise (· < ·)
  pos : ∀ e ∈ D.2, 1 <= e.1 /\ e.1 < 2 ^ 62 /\ (e.2 = 1 ∨ e.2 = -1)
  perm : D.1.flatten.Perm ((D.2.map Prod.fst).flatMap λx=>[x, -x])
  few : D.1.length <= 4
theorem Cq : ∀ {d : List (Int × Int)} {x : Int}, x ∈ d.map Prod.fst -> ∃ v, Zd d x = some v /\ (x, v) ∈ d
  | [], _, h=>by simp at h
  | kv :: d, x, h=>by
    by_cases c : kv.1 = x
    . exact ⟨kv.2, by simp [Zd, List.find?_cons, c], by rw [← c]; simp⟩
    . have hx : x ∈ d.map Prod.fst:=by
        rw [List.map_cons, List.mem_cons] at h
        rcases h with h | h
        . exact absurd h.symm c
        . exact h
      obtain ⟨v, h1, h2⟩:=Cq hx
      exact ⟨v, by unfold Zd at h1 ⊢; rw [List.find?_cons, decide_eq_false c]; exact h1, List.mem_cons_of_mem _ h2⟩
theorem Bu {d : List (Int × Int)} {k v : Int} (h : ∀ x ∈ d.map Prod.fst, x ≠ k) : JW d k v = d ++ [(k, v)]:=by
  unfold JW
  rw [if_neg]
  rw [List.any_eq_true]
  rintro ⟨kv, h1, h2⟩
  exact h kv.1 (List.mem_map.mpr ⟨kv, h1, rfl⟩) (by simpa using h2)
theorem BI (ns : List Int) {p : Int} (hp : 0 <= p) {most : Nat} (hm : most <= 100) : Ok (QG ns p (most : Int)) (Drawn most):=by
  unfold QG
  simp only [Rs.okb]
  rw [Xy (sz (by simp))]
  simp only [Rs.okb]
  rw [Xy (sz (by simp))]
  simp only [Rs.okb]
  rw [Yz (by decide) (by decide), Rs.okb, show (2 : Int) * (most : Int) = ((2 * most : Nat) : Int) by lia]
  rw [show Fo [(80 : Int), 5, 2, 3] ((2 * most : Nat) : Int) = .ok (List.replicate (2 * most) [(80 : Int), 5, 2, 3]).flatten from by
    unfold Fo
    rw [Xy ⟨by lia, by lia, sz (by simp; lia)⟩, Int.toNat_natCast]]
  simp only [Rs.okb]
  have hrl:=CV [(80 : Int), 5, 2, 3] (2 * most)
  have hrg : ∀ {j c : Nat}, c < 4 -> j < 2 * most -> (List.replicate (2 * most) [(80 : Int), 5, 2, 3]).flatten[4 * j + c]? = [(80 : Int), 5, 2, 3][c]?:=fun {j c} hc hj=>Dp rfl hc hj
  have hrm : ∀ x ∈ (List.replicate (2 * most) [(80 : Int), 5, 2, 3]).flatten, 0 < x /\ x < 2 ^ 250:=λx hx=>by
    obtain ⟨l, h1, h2⟩:=List.mem_flatten.mp hx
    rw [(List.mem_replicate.mp h1).2] at h2
    simp only [List.mem_cons, List.not_mem_nil, or_false] at h2
    rcases h2 with rfl | rfl | rfl | rfl <;> decide
  generalize (List.replicate (2 * most) [(80 : Int), 5, 2, 3]).flatten = tl at hrl hrg hrm
  rw [show ([(80 : Int), 5, 2, 3]).length = 4 from rfl] at hrl
  rw [show FY [(most : Int) + 1, 5, 4, 3, 3] tl = .ok ([(most : Int) + 1, 5, 4, 3, 3] ++ tl) from Xy (sz (by simp; lia))]
  simp only [Rs.okb]
  refine Ok.bind (Ok.noE (EB ns hp _ (by simp; lia) λx hx=>?_)) λr hr=>?_
  . rw [List.mem_append] at hx
    rcases hx with h | h
    . simp only [List.mem_cons, List.not_mem_nil, or_false] at h
      rcases h with rfl | rfl | rfl | rfl | rfl
      . refine ⟨by lia, by lia⟩
      all_goals decide
    . exact hrm x h
  obtain ⟨hl, hv⟩:=hr
  have hl' : r.length = 5 + 8 * most:=by rw [hl]; simp; lia
  have hv5 : ∀ (j c : Nat) (s : Int), c < 4 -> j < 2 * most -> [(80 : Int), 5, 2, 3][c]? = some s -> ∀ h : 5 + 4 * j + c < r.length, 0 <= r[5 + 4 * j + c] /\ r[5 + 4 * j + c] < s:=λj c s hc hj hs h=>by
    refine hv (5 + 4 * j + c) _ s (by simp [h]) ?_
    rw [List.getElem?_append_right (by simp; lia)]
    simp only [List.length_cons, List.length_nil]
    rw [show 5 + 4 * j + c - (0 + 1 + 1 + 1 + 1 + 1) = 4 * j + c by lia, hrg hc hj]
    exact hs
  have v0:=hv 0 r[0] _ (by simp) rfl
  have v1:=hv 1 r[1] _ (by simp) rfl
  have v2:=hv 2 r[2] _ (by simp) rfl
  have v3:=hv 3 r[3] _ (by simp) rfl
  have v4:=hv 4 r[4] _ (by simp) rfl
  rw [YA (r:=r) (k:=0) (n:=0) rfl (by lia), YA (r:=r) (k:=1) (n:=1) rfl (by lia), YA (r:=r) (k:=2) (n:=2) rfl (by lia), YA (r:=r) (k:=3) (n:=3) rfl (by lia), YA (r:=r) (k:=4) (n:=4) rfl (by lia)]
  simp only [Rs.okb]
  obtain ⟨m0, hm0⟩ : ∃ m0 : Nat, r[0] = m0:=⟨r[0].toNat, by lia⟩
  rw [hm0] at v0 ⊢
  rw [Qz (by lia), Ka (by decide) (by decide) (by decide) (by decide)]
  simp only [Rs.okb]
  rw [Xy (sz (by simp))]
  simp only [Rs.okb]
  have hz : ∃ z, atR [0, 1, (10 : Int) ^ (9 : Int).toNat] r[3] = .ok z /\ 0 <= z /\ z <= 1000000000:=by
    rcases (by lia : r[3] = 0 ∨ r[3] = 1 ∨ r[3] = 2) with h | h | h <;> rw [h]
    . exact ⟨0, rfl, by decide, by decide⟩
    . exact ⟨1, rfl, by decide, by decide⟩
    . exact ⟨1000000000, rfl, by decide, by decide⟩
  obtain ⟨z, hz, hz0, hz1⟩:=hz
  rw [hz]
  simp only [Rs.okb]
  refine Ok.bind (Ok.forN (λi (g : Int × List (Int × Int) × List Int)=>g.2.1.map Prod.fst = g.2.2 /\ g.2.2.length = i /\ 0 <= g.1 /\ g.1 <= (i : Int) * 3000000000 /\ g.2.2.Pairwise (· < ·) /\ (∀ x ∈ g.2.2, 1 <= x /\ x <= g.1) /\ ∀ e ∈ g.2.1, e.2 = 1 ∨ e.2 = -1) ⟨rfl, rfl, Int.le_refl _, by decide, List.Pairwise.nil, λx hx=>(by cases hx), λx hx=>(by cases hx)⟩ λi a g ha hg=>?_) λg hg=>?_
  . obtain ⟨rfl, hi⟩ := ZC ha
    obtain ⟨h1, h2, h3, h4, h5, h6, h7⟩:=hg
    have hA : 5 + 4 * (2 * i) + 3 < r.length:=by lia
    have hB : 5 + 4 * (2 * i) + 2 < r.length:=by lia
    have kA:=hv5 (2 * i) 3 3 (by lia) (by lia) rfl hA
    have kB:=hv5 (2 * i) 2 2 (by lia) (by lia) rfl hB
    rw [Yz (a:=8) (by decide) (by decide)]
    simp only [Rs.okb]
    rw [YA (r:=r) (k:=8 * (i : Int) + 8) (n:=5 + 4 * (2 * i) + 3) (by lia) hA, YA (r:=r) (k:=8 * (i : Int) + 7) (n:=5 + 4 * (2 * i) + 2) (by lia) hB]
    simp only [Rs.okb]
    generalize r[5 + 4 * (2 * i) + 3] = y at kA
    generalize r[5 + 4 * (2 * i) + 2] = y2 at kB
    rw [Yz (a:=y) (by lia) (by lia), Yz (a:=2) (by decide) (by decide)]
    simp only [Rs.okb]
    have hd1 : g.2.1.length = i:=by rw [← h2, ← h1, List.length_map]
    rw [Xy (BK (by lia)), Xy (BK (by lia))]
    have q0 : 0 <= y * z:=Int.mul_nonneg kA.1 hz0
    have q1 : y * z <= 2 * 1000000000:=Int.mul_le_mul (by lia) hz1 hz0 (by decide)
    generalize y * z = st at q0 q1
    have hnew : ∀ x ∈ g.2.1.map Prod.fst, x ≠ g.1 + 1 + st:=λx hx e=>by
      rw [h1] at hx
      have:=(h6 x hx).2
      lia
    rw [Bu hnew]
    refine ⟨_, rfl, ?_, ?_, ?_, ?_, ?_, ?_, ?_⟩
    . show (g.2.1 ++ [(g.1 + 1 + st, 2 * y2 - 1)]).map Prod.fst = g.2.2 ++ [g.1 + 1 + st]
      rw [List.map_append, h1]; rfl
    . show (g.2.2 ++ [g.1 + 1 + st]).length = _
      simp [h2]
    . show 0 <= g.1 + 1 + st
      lia
    . show g.1 + 1 + st <= _
      lia
    . show (g.2.2 ++ [g.1 + 1 + st]).Pairwise (· < ·)
      rw [List.pairwise_append]
      refine ⟨h5, by simp, λx hx w hw=>?_⟩
      rw [List.mem_singleton] at hw
      have:=(h6 x hx).2
      lia
    . intro x hx
      show 1 <= x /\ x <= g.1 + 1 + st
      rcases List.mem_append.mp hx with h | h
      . have:=h6 x h; lia
      . rw [List.mem_singleton] at h; lia
    . intro e he
      rcases List.mem_append.mp he with h | h
      . exact h7 e h
      . rw [List.mem_singleton] at h
        subst h
        show 2 * y2 - 1 = 1 ∨ 2 * y2 - 1 = -1
        lia
  obtain ⟨h1, h2, h3, h4, h5, h6, h7⟩:=hg
  rw [Zw] at h2 h4
  generalize hN : g.2.2 = names at *
  generalize hD : g.2.1 = d at *
  have hsg : ∀ x ∈ names, Zd d x = some ((Zd d x).getD 1) /\ ((Zd d x).getD 1 = 1 ∨ (Zd d x).getD 1 = -1):=λx hx=>by
    obtain ⟨v, e1, e2⟩:=Cq (d:=d) (x:=x) (by rw [h1]; exact hx)
    rw [e1]
    exact ⟨rfl, h7 _ e2⟩
  have hmap : VG names (λa=>(VN d a).bind λx=>.ok (a, x)) = .ok (names.map λa=>(a, (Zd d a).getD 1)):=Y2 (sz (by lia)) λa ha=>by
    unfold VN
    rw [(hsg a ha).1]; rfl
  refine Ok.bind (R:=λws : List (List Int)=>ws.length <= 4 /\ ws.flatten.Perm (names.flatMap λx=>[x, -x])) (Ok.ite (λ_=>?_) λ_=>?_) λws hws=>?_
  . refine Ok.bind (R := λws : List (List Int) => ws.length <= 4 /\ ws.flatten.Perm (names.flatMap λx => [x, -x])) ?_ λws hws => ⟨_, rfl, hws⟩
    refine Ok.bind (Ok.noE (BM (by lia) (by lia))) λl hl2=>?_
    rw [show (2 : Int) + r[4] = ((2 + r[4].toNat : Nat) : Int) by lia]
    have hln:=hl2.length_eq
    refine Ok.noE (Ok.imp (FH (sg:=λx=>(Zd d x).getD 1) (by lia) (by lia) (λx hx=>(hsg x (hl2.mem_iff.mp hx)).1) (λx hx=>(hsg x (hl2.mem_iff.mp hx)).2) (by lia) (by lia)) λws hw=>⟨by lia, hw.2.trans (ZF _ hl2)⟩)
  . refine Ok.bind (R := λws : List (List Int) => ws.length <= 4 /\ ws.flatten.Perm (names.flatMap λx => [x, -x])) ?_ λws hws => ⟨_, rfl, hws⟩
    obtain ⟨rings, hrings⟩ : ∃ k : Nat, max r[1] (min (names.length : Int) 1) = (k : Int):=⟨(max r[1] (min (names.length : Int) 1)).toNat, by lia⟩
    rw [hrings]
    refine Ok.noE (Ok.imp (IZ (by lia) (by lia) (λhne=>?_) (by lia)) λws hw=>⟨by lia, hw.2⟩)
    have : 0 < names.length:=List.length_pos_iff.mpr hne
    lia
  . rw [hmap]
    simp only [Rs.okb]
    have hfst : (names.map λa=>(a, (Zd d a).getD 1)).map Prod.fst = names:=by rw [List.map_map]; exact List.map_id' _
    refine ⟨_, rfl, ?_, ?_, ?_, ?_, hws.1⟩
    . show (names.map λa => (a, (Zd d a).getD 1)).length <= most
      simp; lia
    . show ((names.map λa => (a, (Zd d a).getD 1)).map Prod.fst).Pairwise _
      rw [hfst]; exact h5
    . intro e he
      obtain ⟨x, hx, rfl⟩:=List.mem_map.mp he
      have:=h6 x hx
      refine ⟨this.1, ?_, (hsg x hx).2⟩
      show x < 2 ^ 62
      lia
    . show ws.flatten.Perm (((names.map λa => (a, (Zd d a).getD 1)).map Prod.fst).flatMap λx => [x, -x])
      rw [hfst]; exact hws.2
end My
namespace My
noncomputable def Qa (w : List Int) : Nat:=(w.filter λx=>decide (x < 0)).length
noncomputable def Ue (w : List Int) : Nat:=max (Qa w) 1
noncomputable def Qy (w : List Int) (first : Int) : List Int:=(List.range (max w.length 1)).map λk=>first + (Qa (w.take k) : Int) % (Ue w : Int)
noncomputable def Y4 : List (List Int) -> Int -> List (List Int)
  | [], _=>[]
  | w :: ws, f=>Qy w f :: Y4 ws (f + Ue w)
noncomputable def X2 (ws : List (List Int)) : Int:=(ws.map λw=>(Ue w : Int)).sum
noncomputable def JF (ws : List (List Int)) : Nat:=(ws.filter λw=>decide (Qa w = 0)).length
theorem JR (a b : List Int) : Qa (a ++ b) = Qa a + Qa b:=by unfold Qa; rw [List.filter_append, List.length_append]
theorem Gz {x : Int} (h : x < 0) : Qa [x] = 1:=by simp [Qa, h]
theorem GA {x : Int} (h : ¬ x < 0) : Qa [x] = 0:=by simp [Qa, h]
theorem VJ {w : List Int} {i : Nat} {x : Int} (h : w[i]? = some x) : Qa (w.take (i + 1)) = Qa (w.take i) + Qa [x]:=by
  rw [List.take_add_one, h, JR]; rfl
theorem GJ (w : List Int) : 0 < Ue w:=by unfold Ue; lia
theorem QT (w : List Int) (f : Int) : (Qy w f).length = max w.length 1:=by simp [Qy]
theorem Fv (w : List Int) (f : Int) {k : Nat} (h : k < max w.length 1) : (Qy w f)[k]? = some (f + (Qa (w.take k) : Int) % (Ue w : Int)):=by
  unfold Qy
  rw [List.getElem?_map, List.getElem?_range h]; rfl
theorem Y8 : ∀ (ws : List (List Int)) (f : Int), (Y4 ws f).length = ws.length
  | [], _=>rfl
  | _ :: ws, f=>by show (Y4 ws _).length + 1 = _; rw [Y8 ws]; rfl
theorem QF (w : List Int) (ws : List (List Int)) : X2 (w :: ws) = Ue w + X2 ws:=by simp [X2]
theorem VX (a b : List (List Int)) : X2 (a ++ b) = X2 a + X2 b:=by simp [X2, List.sum_append]
theorem Fs (w : List Int) : X2 [w] = Ue w:=by simp [X2]
theorem Jf : ∀ (a b : List (List Int)) (f : Int), Y4 (a ++ b) f = Y4 a f ++ Y4 b (f + X2 a)
  | [], b, f=>by simp [Y4, X2]
  | w :: a, b, f=>by
    show Qy w f :: Y4 (a ++ b) (f + Ue w) = Qy w f :: (Y4 a (f + Ue w) ++ Y4 b (f + X2 (w :: a)))
    rw [Jf a b, QF, Int.add_assoc]
theorem Vv {ws : List (List Int)} {i : Nat} {w : List Int} (h : ws[i]? = some w) (f : Int) : Y4 (ws.take (i + 1)) f = Y4 (ws.take i) f ++ [Qy w (f + X2 (ws.take i))]:=by
  rw [List.take_add_one, h, Jf]; rfl
theorem Vb {ws : List (List Int)} {i : Nat} {w : List Int} (h : ws[i]? = some w) : X2 (ws.take (i + 1)) = X2 (ws.take i) + Ue w:=by
  rw [List.take_add_one, h, VX]
  show _ + X2 [w] = _
  rw [Fs]
theorem V3 {ws : List (List Int)} {i : Nat} {w : List Int} (h : ws[i]? = some w) (f : Int) : (Y4 ws f)[i]? = some (Qy w (f + X2 (ws.take i))):=by
  have hl : i < ws.length:=(List.getElem?_eq_some_iff.mp h).1
  have e : ws = ws.take (i + 1) ++ ws.drop (i + 1):=(List.take_append_drop _ _).symm
  rw [e, Jf, Vv h, List.getElem?_append_left (by rw [List.length_append, Y8, List.length_take]; simp; lia),
    List.getElem?_append_right (by rw [Y8, List.length_take]; lia), Y8, List.length_take, Nat.min_eq_left (by lia), Nat.sub_self, List.take_append_of_le_length (by rw [List.length_take]; lia), List.take_take, Nat.min_eq_left (by lia)]
  rfl
theorem Jz : ∀ ws : List (List Int), X2 ws = (Qa ws.flatten : Int) + (JF ws : Int)
  | []=>rfl
  | w :: ws=>by
    rw [QF, Jz ws, List.flatten_cons, JR]
    unfold JF
    rw [List.filter_cons]
    by_cases h : Qa w = 0
    . simp [h, Ue]; lia
    . simp [h, Ue]; lia
theorem FR {ws : List (List Int)} {i : Nat} {w : List Int} (h : ws[i]? = some w) : JF (ws.take (i + 1)) = JF (ws.take i) + (if Qa w = 0 then 1 else 0):=by
  unfold JF
  rw [List.take_add_one, h, List.filter_append, List.length_append]
  by_cases e : Qa w = 0 <;> simp [e]
theorem DI {a b : List Int} (h : a.Perm b) : Qa a = Qa b:=(h.filter _).length_eq
theorem CT : ∀ {xs : List Int}, (∀ x ∈ xs, 1 <= x) -> Qa (xs.flatMap λx=>[x, -x]) = xs.length
  | [], _=>rfl
  | x :: xs, h=>by
    have hx:=h x List.mem_cons_self
    rw [List.flatMap_cons, JR, CT λy hy=>h y (List.mem_cons_of_mem _ hy)]
    have e : Qa [x, -x] = 1:=by
      show Qa ([x] ++ [-x]) = 1
      rw [JR, GA (by lia), Gz (by lia)]
    rw [e, List.length_cons]; lia
end My
namespace My
structure Spot (ws : List (List Int)) (x : Int) (i j : Nat) (w : List Int) : Prop where
  wi : ws[i]? = some w
  xj : w[j]? = some x
  first : ∀ m : Nat, m < j -> w[m]? ≠ some x
  none : ∀ (i' : Nat) (w' : List Int), i' < i -> ws[i']? = some w' -> x ∉ w'
theorem Spot.row {ws : List (List Int)} {x : Int} {i j : Nat} {w : List Int} (h : Spot ws x i j w) : ∃ r, (Y4 ws 0)[i]? = some r /\ r.length = w.length /\ j < w.length:=by
  have hj:=(List.getElem?_eq_some_iff.mp h.xj).1
  exact ⟨_, V3 h.wi 0, by rw [QT]; lia, hj⟩
theorem G7 : ∀ {w : List Int} {x : Int}, x ∈ w -> ∃ j : Nat, w[j]? = some x /\ ∀ m : Nat, m < j -> w[m]? ≠ some x
  | [], x, h=>by simp at h
  | y :: t, x, h=>by
    by_cases e : y = x
    . subst e
      exact ⟨0, rfl, λm hm=>by lia⟩
    . rcases List.mem_cons.mp h with z | z
      . exact absurd z.symm e
      . obtain ⟨j, h1, h2⟩ := G7 z
        refine ⟨j + 1, by simpa using h1, λm hm=>?_⟩
        cases m with
        | zero=>simpa using e
        | succ m=>simpa using h2 m (by lia)
end My
namespace My
open PySem L2
section
variable {α β γ ρ : Type}
theorem Kj {f : γ -> α -> Rs (Ctl ρ γ)} {g : γ} {v : ρ} : ∀ {as : List α} {i : Nat} {a : α}, as[i]? = some a -> (∀ (k : Nat) b, k < i -> as[k]? = some b -> f g b = .ok (.nx g)) -> f g a = .ok (.ret v) -> F0 as g f = .ok (.ret v)
  | [], i, a, h, _, _=>by simp at h
  | b :: as, 0, a, h, _, hf=>by
    have : b = a:=by simpa using h
    subst this
    show (f g b).bind _ = _
    rw [hf, Rs.okb]
  | b :: as, i + 1, a, h, hb, hf=>by
    show (f g b).bind _ = _
    rw [hb 0 b (by lia) rfl, Rs.okb]
    exact Kj (i:=i) (by simpa using h) (λk c hk hc=>hb (k + 1) c (by lia) (by simpa using hc)) hf
theorem BB {as : List α} {i : Nat} {a : α} (h : as[i]? = some a) : (Ji as)[i]? = some ((i : Int), a):=by
  have hi:=(List.getElem?_eq_some_iff.mp h).1
  unfold Ji
  rw [List.getElem?_zip_eq_some]
  exact ⟨by rw [List.getElem?_map, List.getElem?_range hi]; rfl, h⟩
theorem DL {w : List Int} {x : Int} {j : Nat} (h : w[j]? = some x) (hf : ∀ m : Nat, m < j -> w[m]? ≠ some x) : Ey w x = .ok (j : Int):=by
  obtain ⟨hj, e⟩:=List.getElem?_eq_some_iff.mp h
  have : w.findIdx? (λb=>decide (b = x)) = some j:=by
    rw [List.findIdx?_eq_some_iff_getElem]
    refine ⟨hj, by simp [e], λm hm=>?_⟩
    have hml : m < w.length:=by lia
    have:=hf m hm
    rw [List.getElem?_eq_getElem hml] at this
    simpa using this
  unfold Ey
  rw [this]
theorem Vs {N k : Nat} {F G : Nat -> α} {v : α} (hk : k < N) (hv : G k = v) (h : ∀ j, j < N -> j ≠ k -> F j = G j) : ((List.range N).map F).set k v = (List.range N).map G:=by
  refine List.ext_getElem (by simp) λj h1 h2=>?_
  have hj : j < N:=by simpa using h1
  rw [List.getElem_set]
  by_cases e : k = j
  . subst e; rw [if_pos rfl]; simp [hv]
  . rw [if_neg e]; simp [h j hj (λz=>e z.symm)]
theorem Bk (w : List α) : FQ w none (some (-1)) = w.take (w.length - 1):=by
  unfold FQ
  rw [HT.sIx_none]
  have : HT.sIx w.length w.length (some (-1)) = w.length - 1:=by
    unfold HT.sIx
    simp
    lia
  rw [this]; simp
end
theorem Zz {w : List Int} (hl : w.length <= 1000) : XM w = .ok (Ue w : Int):=by
  unfold XM
  simp only [Rs.okb]
  rw [Ul (p:=λx=>decide (x < 0)) (h:=λx=>x) (sz (by lia)) (λ_ _=>rfl) λ_ _ _=>rfl, Rs.okb, List.map_id']
  congr 1
  show max ((Qa w : Nat) : Int) 1 = ((max (Qa w) 1 : Nat) : Int)
  lia
theorem J0 {w : List Int} {f : Int} (hl : w.length <= 1000) : YD w f = .ok (Qy w f):=by
  unfold YD
  simp only [Rs.okb]
  rw [Zz hl, XV]
  simp only [Rs.okb]
  rw [Xy (sz (by simp)), Bk]
  simp only [Rs.okb]
  apply Ok.eq
  refine Ok.bind (Ok.forN (λi (g : Int × List Int)=>g = ((Qa (w.take i) : Int), (List.range (i + 1)).map λk=>f + (Qa (w.take k) : Int) % (Ue w : Int))) ?_ λi a g ha hg=>?_) λg hg=>?_
  . simp [Qa]
  . have hi := (List.getElem?_eq_some_iff.mp ha).1
    rw [List.length_take] at hi
    have ha' : w[i]? = some a:=by
      rw [List.getElem?_take_of_lt (by lia)] at ha
      exact ha
    subst hg
    have hn:=VJ ha'
    have hp:=GJ w
    have hlen : ((List.range (i + 1)).map λk=>f + (Qa (w.take k) : Int) % (Ue w : Int)).length < sizeLine:=BK (by simp; lia)
    refine Ok.bind (R:=λu=>u = (Qa (w.take (i + 1)) : Int)) (Ok.ite (λc=>⟨_, rfl, ?_⟩) λc=>⟨_, rfl, ?_⟩) λu hu=>?_
    . rw [hn, Gz (of_decide_eq_true c)]
      show (Qa (w.take i) : Int) + 1 = _
      lia
    . rw [hn, GA (of_decide_eq_false c)]
      show (Qa (w.take i) : Int) = _
      lia
    . subst hu
      rw [Ye (by lia), Rs.okb, Rs.okb, Xy hlen]
      refine ⟨_, rfl, ?_⟩
      rw [List.range_succ (n:=i + 1), List.map_append]; rfl
  . subst hg
    refine ⟨_, rfl, ?_⟩
    rw [List.length_take, show min (w.length - 1) w.length + 1 = max w.length 1 by lia]
    rfl
theorem Hx {D : List (List Int) × List (Int × Int)} (hd : D.1.length <= 1000) (hw : ∀ w ∈ D.1, w.length <= 1000) : VO D = .ok (Y4 D.1 0):=by
  unfold VO
  simp only [Rs.okb]
  apply Ok.eq
  refine Ok.bind (Ok.forN (λi (g : Int × List (List Int))=>g = (X2 (D.1.take i), Y4 (D.1.take i) 0)) rfl λi a g ha hg=>?_) λg hg=>?_
  . have hi := (List.getElem?_eq_some_iff.mp ha).1
    subst hg
    have hal:=hw a (List.mem_of_getElem? ha)
    rw [J0 hal, XV, Rs.okb, Zz hal, XV]
    rw [Xy (BK (by rw [Y8, List.length_take]; lia))]
    simp only [Rs.okb]
    refine ⟨_, rfl, ?_⟩
    rw [Vv ha, Vb ha, Int.zero_add]
  . subst hg
    rw [List.take_length]
    exact ⟨_, rfl, rfl⟩
theorem Qf {D : List (List Int) × List (Int × Int)} (hd : D.1.length <= 1000) (hw : ∀ w ∈ D.1, w.length <= 1000) : YH D = .ok (X2 D.1):=by
  unfold YH
  simp only [Rs.okb]
  rw [Y2 (h:=λw=>(Ue w : Int)) (sz (by lia)) λw h=>by rw [Zz (hw w h), XV], Rs.okb]
  rfl
theorem DO {D : List (List Int) × List (Int × Int)} {x : Int} {i j : Nat} {w : List Int} (h : Spot D.1 x i j w) : Vr D x = .ok ((i : Int), (j : Int)):=by
  unfold Vr
  simp only [Rs.okb]
  rw [Kj (v:=((i : Int), (j : Int))) (BB h.wi) (λk b hk hb=>?_) ?_]
  . rw [Rs.okb, Dl]
  . rw [if_pos (decide_eq_true (List.mem_of_getElem? h.xj)), DL h.xj h.first]
    simp only [Rs.okb]
  . obtain ⟨_, h2⟩ := Vz hb
    rw [if_neg]
    rw [decide_eq_true_eq]
    exact h.none k b.2 hk h2
theorem BO {D : List (List Int) × List (Int × Int)} (hw : ∀ w ∈ D.1, w.length <= 1000) : QH D = .ok ((D.2.length : Int) + (JF D.1 : Int)):=by
  unfold QH
  simp only [Rs.okb]
  apply Ok.eq
  refine Ok.bind (Ok.forN (λi (g : Int)=>g = (D.2.length : Int) + (JF (D.1.take i) : Int)) (by simp [JF]) λi a g ha hg=>?_) λg hg=>?_
  . have hal := hw a (List.mem_of_getElem? ha)
    rw [Ul (p:=λx=>decide (x < 0)) (h:=λx=>x) (sz (by lia)) (λ_ _=>rfl) λ_ _ _=>rfl, List.map_id']
    simp only [Rs.okb]
    have hz:=FR ha
    have hnn : ((a.filter λx=>decide (x < 0)).length : Int) = (Qa a : Int):=rfl
    rw [hnn]
    by_cases c : Qa a = 0
    . rw [if_pos c] at hz
      rw [if_pos (decide_eq_true (by lia))]
      simp only [Rs.okb]
      exact ⟨_, rfl, by lia⟩
    . rw [if_neg c] at hz
      rw [if_neg (by rw [decide_eq_true_eq]; lia)]
      simp only [Rs.okb]
      exact ⟨_, rfl, by lia⟩
  . subst hg
    rw [List.take_length]
    exact ⟨_, rfl, rfl⟩
theorem K2 : ∀ {ws : List (List Int)} {x : Int}, x ∈ ws.flatten -> ∃ i j w, Spot ws x i j w
  | [], x, h=>by simp at h
  | w :: ws, x, h=>by
    by_cases c : x ∈ w
    . obtain ⟨j, h1, h2⟩ := G7 c
      exact ⟨0, j, w, rfl, h1, h2, λi' w' hi _=>by lia⟩
    . have hx : x ∈ ws.flatten:=by
        rw [List.flatten_cons, List.mem_append] at h
        exact h.resolve_left c
      obtain ⟨i, j, v, s⟩:=K2 hx
      refine ⟨i + 1, j, v, by simpa using s.wi, s.xj, s.first, λi' w' hi hw=>?_⟩
      cases i' with
      | zero=>
        have : w = w':=by simpa using hw
        exact this ▸ c
      | succ i'=>exact s.none i' w' (by lia) (by simpa using hw)
theorem Vx (ws : List (List Int)) : 0 <= X2 ws:=by
  induction ws with
  | nil=>exact Int.le_refl _
  | cons w ws ih=>rw [QF]; lia
theorem Cm {ws : List (List Int)} {i j : Nat} {w r : List Int} {o : Int} (hw : ws[i]? = some w) (hr : (Y4 ws 0)[i]? = some r) (ho : r[j]? = some o) : 0 <= o /\ o < X2 ws:=by
  rw [V3 hw] at hr
  cases hr
  have hj:=(List.getElem?_eq_some_iff.mp ho).1
  rw [QT] at hj
  rw [Fv w _ hj] at ho
  have ho':=Option.some.inj ho
  have hp:=GJ w
  have m0:=Int.emod_nonneg (Qa (w.take j) : Int) (show (Ue w : Int) ≠ 0 by lia)
  have m1:=Int.emod_lt_of_pos (Qa (w.take j) : Int) (show (0 : Int) < (Ue w : Int) by lia)
  have t0:=Vx (ws.take i)
  have t1 : X2 ws = X2 (ws.take (i + 1)) + X2 (ws.drop (i + 1)):=by rw [← VX, List.take_append_drop]
  have t2:=Vx (ws.drop (i + 1))
  rw [Vb hw] at t1
  lia
structure DG (D : List (List Int) × List (Int × Int)) : Prop where
  few : D.1.length <= 1000
  short : ∀ w ∈ D.1, w.length <= 1000
  le : D.2.length <= 1000
  mem : ∀ e ∈ D.2, e.1 ∈ D.1.flatten /\ -e.1 ∈ D.1.flatten
  sg : ∀ e ∈ D.2, e.2 = 1 ∨ e.2 = -1
  count : X2 D.1 = (D.2.length : Int) + (JF D.1 : Int)
noncomputable def MG (N : Int) (m : Int × Int × Int × Int × Int) : Prop:=(m.2.1 = 1 ∨ m.2.1 = -1) /\ (0 <= m.2.2.1 /\ m.2.2.1 < N) /\ (0 <= m.2.2.2.1 /\ m.2.2.2.1 < N) /\ (0 <= m.2.2.2.2 /\ m.2.2.2.2 < N)
theorem CM {D : List (List Int) × List (Int × Int)} (h : DG D) : ∃ ms, ZI D = .ok ms /\ ms.length = D.2.length /\ ∀ m ∈ ms, MG (X2 D.1) m:=by
  have key : ∀ e : Int × Int, ∃ v : Int × Int × Int × Int × Int, e ∈ D.2 -> ∃ (i j k l : Nat) (w w' r r' : List Int), Spot D.1 e.1 i j w /\ Spot D.1 (-e.1) k l w' /\ (Y4 D.1 0)[i]? = some r /\ r[j]? = some v.2.2.1 /\ (Y4 D.1 0)[k]? = some r' /\ r'.length = w'.length /\ 0 < w'.length /\ r'[l]? = some v.2.2.2.1 /\ r'[(l + 1) % w'.length]? = some v.2.2.2.2 /\ v.1 = e.1 /\ v.2.1 = e.2:=λe=>by
    by_cases he : e ∈ D.2
    . obtain ⟨i, j, w, s1⟩ := K2 (h.mem e he).1
      obtain ⟨k, l, w', s2⟩:=K2 (h.mem e he).2
      obtain ⟨r, hr, hrl, hj⟩:=s1.row
      obtain ⟨r', hr', hrl', hl⟩:=s2.row
      have hm : (l + 1) % w'.length < r'.length:=by rw [hrl']; exact Nat.mod_lt _ (by lia)
      exact ⟨(e.1, e.2, r[j], r'[l], r'[(l + 1) % w'.length]), λ_=>⟨i, j, k, l, w, w', r, r', s1, s2, hr, by simp, hr', hrl', by lia, by simp, by simp, rfl, rfl⟩⟩
    . exact ⟨(0, 0, 0, 0, 0), λz=>absurd z he⟩
  obtain ⟨v, hv⟩:=Classical.axiomOfChoice key
  refine ⟨D.2.map v, ?_, by simp, λm hm=>?_⟩
  . unfold ZI
    simp only [Rs.okb]
    rw [Hx h.few h.short, XV]
    simp only [Rs.okb]
    rw [QU (h:=v) (sz (by have:=h.le; simp; lia)) λg hg e he=>?_]
    . rw [Rs.okb, List.nil_append]
    . obtain ⟨i, j, k, l, w, w', r, r', s1, s2, h1, h2, h3, h4, h5, h6, h7, h8, h9⟩ := hv e he
      have hm : ((l : Int) + 1) % (r'.length : Int) = (((l + 1) % w'.length : Nat) : Int):=by rw [h4, Int.natCast_emod]; rfl
      rw [DO s1, DO s2]
      simp only [Rs.okb]
      rw [Z2 h1, Z2 h3]
      simp only [Rs.okb]
      rw [Z2 h2, Z2 h6]
      simp only [Rs.okb]
      rw [Ye (by lia), hm]
      simp only [Rs.okb]
      rw [Z2 h7]
      simp only [Rs.okb]
      rw [Xy hg]
      congr 2
      rw [← h8, ← h9]
  . obtain ⟨e, he, rfl⟩ := List.mem_map.mp hm
    obtain ⟨i, j, k, l, w, w', r, r', s1, s2, h1, h2, h3, h4, h5, h6, h7, h8, h9⟩:=hv e he
    exact ⟨by rw [h9]; exact h.sg e he, Cm s1.wi h1 h2, Cm s2.wi h3 h6, Cm s2.wi h3 h7⟩
theorem MS (f : Int) (n : Nat) : (List.replicate n [f]).flatten = (List.range n).map λ_=>f:=by
  induction n with
  | zero=>rfl
  | succ n ih=>rw [List.replicate_succ, List.flatten_cons, ih, List.range_succ_eq_map, List.map_cons, List.map_map]; rfl
theorem DG.of {most : Nat} {D : List (List Int) × List (Int × Int)} (h : Drawn most D) (hm : most <= 100) : DG D where
  few:=by have:=h.few; lia
  short:=λw hw=>by
    have h1:=h.perm.length_eq
    rw [Qg, List.length_map] at h1
    have h2:=(List.sublist_flatten_of_mem hw).length_le
    have:=h.le
    lia
  le:=by have:=h.le; lia
  mem:=λe he=>by
    have hm : e.1 ∈ D.2.map Prod.fst:=List.mem_map.mpr ⟨e, he, rfl⟩
    exact ⟨h.perm.mem_iff.mpr (List.mem_flatMap.mpr ⟨_, hm, by simp⟩), h.perm.mem_iff.mpr (List.mem_flatMap.mpr ⟨_, hm, by simp⟩)⟩
  sg:=λe he=>(h.pos e he).2.2
  count:=by
    rw [Jz, DI h.perm, CT λx hx=>?_, List.length_map]
    obtain ⟨e, he, rfl⟩:=List.mem_map.mp hx
    exact (h.pos e he).1
theorem Bw (ws : List (List Int)) : JF ws <= ws.length:=by
  unfold JF
  exact List.length_filter_le ..
theorem Ib {D : List (List Int) × List (Int × Int)} (h : D.1.length <= 1000) : Vf D = .ok D:=by
  unfold Vf
  simp only [Rs.okb]
  rw [Y2 (h:=λa=>a) (sz (by lia)) λ_ _=>rfl, List.map_id', Rs.okb]
noncomputable def Z0 (m : Int × Int × Int × Int × Int) : Int × Int × Int:=if m.2.1 = 1 then (m.2.2.2.1, m.2.2.1, m.2.2.2.2) else (m.2.2.2.2, m.2.2.1, m.2.2.2.1)
theorem HV {D : List (List Int) × List (Int × Int)} {ms : List (Int × Int × Int × Int × Int)} (h : ZI D = .ok ms) (hl : ms.length <= 1000) : VS D = .ok (ms.map Z0):=by
  unfold VS
  simp only [Rs.okb]
  rw [h]
  simp only [Rs.okb]
  rw [QU (h:=Z0) (sz (by simp; lia)) λg hg e he=>?_]
  . rw [Rs.okb, List.nil_append]
  . unfold Z0
    by_cases s : e.2.1 = 1
    . rw [if_pos (decide_eq_true s), if_pos s]
      simp only [Rs.okb]
      exact Xy hg
    . rw [if_neg (by rw [decide_eq_true_eq]; exact s), if_neg s]
      simp only [Rs.okb]
      exact Xy hg
theorem Et {α : Type} {as : List α} {i : Int} (h0 : 0 <= i) (h : i < (as.length : Int)) : ∃ x, atR as i = .ok x /\ x ∈ as:=
  ⟨as[i.toNat]'(by lia), YA (by lia) (by lia), List.getElem_mem _⟩
theorem F4 {γ ρ : Type} {c : γ -> Rs Bool} {f : γ -> Rs (Ctl ρ γ)} (P : γ -> Prop) (μ : γ -> Nat) (hs : ∀ g, P g -> ∃ b, c g = .ok b /\ (b = true -> ∃ g', f g = .ok (.nx g') /\ P g' /\ μ g' < μ g)) (n : Nat) : ∀ g : γ, P g -> μ g < n -> ∃ g', Z7 n g c f = .ok (.nx g'):=by
  induction n with
  | zero=>intro g _ h; lia
  | succ n ih=>
    intro g hp h
    obtain ⟨b, eb, hb⟩:=hs g hp
    rw [Z7, eb, Rs.okb]
    cases b with
    | false=>exact ⟨g, rfl⟩
    | true=>
      obtain ⟨g', e, p', l⟩:=hb rfl
      rw [if_pos rfl, e, Rs.okb]
      exact ih g' p' (by lia)
noncomputable def Fj (g : Int) : Bool:=(((QW 2 317).filter λa=>decide (a * a <= g)).map λa=>decide (0 < g % a)).all id
theorem IR {a : Int} : a ∈ QW 2 317 ↔ 2 <= a /\ a < 317:=by
  unfold QW
  rw [List.mem_map]
  constructor
  . rintro ⟨i, hi, rfl⟩
    have:=List.mem_range.mp hi
    lia
  . rintro ⟨h1, h2⟩
    exact ⟨(a - 2).toNat, List.mem_range.mpr (by lia), by lia⟩
theorem DT {g : Int} (h : Fj g = true) {a : Int} (h1 : 2 <= a) (h2 : a < 317) (h3 : a * a <= g) : 0 < g % a:=by
  unfold Fj at h
  have:=List.all_eq_true.mp h _ (List.mem_map.mpr ⟨a, List.mem_filter.mpr ⟨IR.mpr ⟨h1, h2⟩, decide_eq_true h3⟩, rfl⟩)
  exact of_decide_eq_true this
noncomputable def PP (p : Int) : Prop:=2 <= p /\ p <= 99991 /\ Fj p = true
theorem KK {p : Int} (h : PP p) : Yo p = .ok true:=by
  obtain ⟨h1, h2, h3⟩:=h
  unfold Yo
  simp only [Rs.okb]
  rw [decide_eq_false (show ¬ p < 2 by lia), decide_eq_false (show ¬ 100000 < p by lia), show orR (Rs.ok false) (Rs.ok false) = .ok false from rfl, Rs.okb, if_neg (by decide)]
  obtain ⟨g, e⟩:=F4 (c:=λg10 : Int=>(Rs.bind (Z5 g10 g10) λx14=>Rs.ok (decide (x14 <= p)))) (f:=λg10 : Int=>Rs.bind (Rs.bind (ZK p g10) λx18=>Rs.ok (decide (x18 = (0 : Int)))) λx20=>(if x20 = true then Rs.ok (Ctl.ret false) else ((λ(a23 : Int)=>Rs.ok (Ctl.nx a23)) (g10 + (1 : Int))))) (λg : Int=>2 <= g /\ g <= 317) (λg=>(p + 2 - g).toNat) (λg hg=>by
    obtain ⟨g2, g3⟩:=hg
    refine ⟨decide (g * g <= p), by rw [Yz (by lia) (by lia), Rs.okb], λc=>?_⟩
    have c : g * g <= p:=of_decide_eq_true c
    have c1 : g ≠ 317:=λz=>by subst z; lia
    have c2 : 2 * g <= g * g:=Int.mul_le_mul_of_nonneg_right g2 (by lia)
    have c3:=DT h3 g2 (by lia) c
    refine ⟨g + 1, ?_, ⟨by lia, by lia⟩, by lia⟩
    rw [Ye (by lia), Rs.okb, Rs.okb, decide_eq_false (by lia), if_neg (by decide)]) (p.natAbs + 2) 2 ⟨by decide, by decide⟩ (by lia)
  rw [e, Rs.okb, Uf]
theorem Gn {K : Nat} {s : Int} {F : Nat -> Int} (h0 : 0 <= s) (h1 : s < (K : Int)) : atR ((List.range K).map F) s = .ok (F s.toNat):=by
  rw [YA (n:=s.toNat) (by lia) (by simp; lia)]
  simp
theorem Um {K : Nat} {s v : Int} {F : Nat -> Int} (h0 : 0 <= s) (h1 : s < (K : Int)) : QZ ((List.range K).map F) s (F s.toNat + v) = .ok ((List.range K).map λi=>F i + if (i : Int) = s then v else 0):=by
  obtain ⟨k, rfl⟩ : ∃ k : Nat, s = k:=⟨s.toNat, by lia⟩
  rw [Vk (by simp; lia), Int.toNat_natCast, Vs (G:=λi=>F i + if (i : Int) = (k : Int) then v else 0) (by lia) (by rw [if_pos rfl]) λj _ h=>?_]
  rw [if_neg (by lia), Int.add_zero]
theorem B1 {K : Nat} {s v : Int} {F : Nat -> Int} (h0 : 0 <= s) (h1 : s < (K : Int)) : QZ ((List.range K).map F) s (F s.toNat - v) = .ok ((List.range K).map λi=>F i + if (i : Int) = s then -v else 0):=by
  rw [Int.sub_eq_add_neg]
  exact Um h0 h1
noncomputable def cfT (f : Int) (t : Int × Int × Int) (i : Nat) : Int:=0 + (if (i : Int) = t.1 then f else 0) + (if (i : Int) = t.2.1 then 1 - f else 0) + (if (i : Int) = t.2.2 then -1 else 0)
noncomputable def eqT (K : Nat) (p f : Int) (t : Int × Int × Int) : List Int:=(List.range K).map λi=>cfT f t i % p
section
variable {D : List (List Int) × List (Int × Int)} {K : Nat} {p f : Int} {ms : List (Int × Int × Int × Int × Int)}
theorem Mg (h : K <= 900) : Fo [(0 : Int)] (K : Int) = .ok ((List.range K).map λ_=>0):=by
  unfold Fo
  rw [Xy ⟨by lia, by lia, sz (by simp; lia)⟩, Int.toNat_natCast, MS]
theorem Lc {N : Int} {m : Int × Int × Int × Int × Int} (h : MG N m) : (0 <= (Z0 m).1 /\ (Z0 m).1 < N) /\ (0 <= (Z0 m).2.1 /\ (Z0 m).2.1 < N) /\ (0 <= (Z0 m).2.2 /\ (Z0 m).2.2 < N):=by
  obtain ⟨_, h1, h2, h3⟩:=h
  unfold Z0
  by_cases c : m.2.1 = 1
  . rw [if_pos c]; exact ⟨h2, h1, h3⟩
  . rw [if_neg c]; exact ⟨h3, h1, h2⟩
theorem HZ (hK : K <= 900) (hp : 0 < p) (t : Int × Int × Int) : VG ((List.range K).map λi=>cfT f t i) (λa46=>ZK a46 p) = .ok (eqT K p f t):=by
  rw [Y2 (h:=λa=>a % p) (sz (by simp; lia)) λa _=>Ye hp, List.map_map]
  rfl
theorem Qi (h : DG D) (hK : X2 D.1 = (K : Int)) (hK2 : K <= 900) (hp : PP p) (hf : ¬ f % p = 0) (e1 : ZI D = .ok ms) (hl : ms.length <= 1000) (hm : ∀ m ∈ ms, MG (K : Int) m) : X4 D p f = .ok ((ms.map Z0).map (eqT K p f)):=by
  have hp0 : 0 < p:=by have:=hp.1; lia
  unfold X4
  simp only [Rs.okb]
  rw [show Xx p f = .ok () from by
    unfold Xx
    simp only [Rs.okb]
    rw [KK hp, XV]
    simp only [Rs.okb]
    rw [if_neg (by decide), Ye hp0, Rs.okb, Rs.okb, decide_eq_false hf, if_neg (by decide)]]
  rw [Rs.okb, Qf h.few h.short, hK, XV, Rs.okb, HV e1 hl, Rs.okb]
  rw [QU (h:=eqT K p f) (sz (by simp; lia)) λg hg t ht=>?_]
  . rw [Rs.okb, List.nil_append]
  . obtain ⟨m, hmm, rfl⟩ := List.mem_map.mp ht
    obtain ⟨a, b, c⟩:=Lc (hm m hmm)
    have hmod:=HZ (f:=f) hK2 hp0 (Z0 m)
    unfold cfT at hmod
    rw [Xy (sz (by simp)), Rs.okb, Mg hK2, Rs.okb, Gn a.1 a.2, Rs.okb, Um (F:=λ_=>0) a.1 a.2, Rs.okb, Gn b.1 b.2, Rs.okb, Um (F:=λi=>0 + if (i : Int) = (Z0 m).1 then f else 0) b.1 b.2, Rs.okb, Gn c.1 c.2, Rs.okb, B1 (F:=λi=>0 + (if (i : Int) = (Z0 m).1 then f else 0) + if (i : Int) = (Z0 m).2.1 then 1 - f else 0) c.1 c.2, Rs.okb, hmod, Rs.okb]
    exact Xy hg
theorem E8 (t : Int × Int × Int) : (eqT K p f t).length = K:=by simp [eqT]
theorem IM (hp : PP p) (t : Int × Int × Int) : ∀ x ∈ eqT K p f t, 0 <= x /\ x < 100000:=λx hx=>by
  obtain ⟨i, _, rfl⟩:=List.mem_map.mp hx
  obtain ⟨h1, h2, _⟩:=hp
  have:=Int.emod_nonneg (cfT f t i) (show p ≠ 0 by lia)
  have:=Int.emod_lt_of_pos (cfT f t i) (show 0 < p by lia)
  show 0 <= cfT f t i % p /\ cfT f t i % p < 100000
  lia
end
section
variable {D : List (List Int) × List (Int × Int)} {K : Nat} {p f : Int} {ms : List (Int × Int × Int × Int × Int)}
noncomputable def dot (l c : List Int) : Int:=((l.zip c).map λa=>a.1 * a.2).sum
theorem F1 {l c : List Int} (hl : l.length <= 1000) (hb : ∀ x ∈ l, 0 <= x /\ x < 100000) : Qr l c = .ok (dot l c):=by
  unfold Qr
  simp only [Rs.okb]
  rw [Y2 (h:=λa : Int × Int=>a.1 * a.2) (sz (by simp; lia)) λa ha=>?_, Rs.okb]
  . rfl
  . have := hb a.1 (List.of_mem_zip (a := a.1) (b := a.2) ha).1
    exact Yz (by lia) (by lia)
theorem B5 {c : List Int} (h : DG D) (hK : X2 D.1 = (K : Int)) (hK2 : K <= 900) (hp : PP p) (hf : ¬ f % p = 0) (e1 : ZI D = .ok ms) (hl : ms.length <= 1000) (hm : ∀ m ∈ ms, MG (K : Int) m) : Qb D p f c = .ok (((ms.map Z0).map (eqT K p f)).all λl=>decide (dot l c % p = 0)):=by
  have hp0 : 0 < p:=by have:=hp.1; lia
  unfold Qb
  simp only [Rs.okb]
  rw [Qi h hK hK2 hp hf e1 hl hm, Rs.okb, Y2 (h:=λl=>decide (dot l c % p = 0)) (sz (by simp; lia)) λl hl=>?_, Rs.okb]
  . rw [List.all_map]
    rfl
  . obtain ⟨t, _, rfl⟩ := List.mem_map.mp hl
    rw [F1 (by rw [E8]; lia) (IM hp t), XV, Rs.okb, Ye hp0, Rs.okb]
end
noncomputable def ch : Nat -> Nat -> Nat
  | _, 0=>1
  | 0, _ + 1=>0
  | n + 1, k + 1=>ch n k + ch n (k + 1)
theorem UH (n : Nat) : ch n 0 = 1:=by cases n <;> rfl
theorem Va (n k : Nat) : ch (n + 1) (k + 1) = ch n k + ch n (k + 1):=rfl
theorem BE : ∀ (n k : Nat), n < k -> ch n k = 0:=by
  intro n
  induction n with
  | zero=>intro k h; cases k with
    | zero=>lia
    | succ k=>rfl
  | succ n ih=>intro k h; cases k with
    | zero=>lia
    | succ k=>rw [Va, ih k (by lia), ih (k + 1) (by lia)]
theorem HF (n : Nat) : ch n n = 1:=by
  induction n with
  | zero=>rfl
  | succ n ih=>rw [Va, ih, BE n (n + 1) (by lia)]
theorem DF : ∀ (n k : Nat), (k + 1) * ch (n + 1) (k + 1) = (n + 1) * ch n k:=by
  intro n
  induction n with
  | zero=>
    intro k
    cases k with
    | zero=>rfl
    | succ k=>rw [BE 1 (k + 2) (by lia), BE 0 (k + 1) (by lia)]; lia
  | succ n ih=>
    intro k
    rw [Va, Nat.mul_add, ih k]
    cases k with
    | zero=>rw [UH, UH]; lia
    | succ j=>
      rw [Nat.succ_mul (j + 1), ih j, Va n j, Nat.mul_add (n + 1 + 1), Nat.succ_mul (n + 1), Nat.succ_mul (n + 1)]
      lia
noncomputable def YX (f : Nat -> Nat) : Nat -> Nat
  | 0=>0
  | n + 1=>YX f n + f n
theorem Q9 (f : Nat -> Nat) (n : Nat) : YX f (n + 1) = f 0 + YX (λk=>f (k + 1)) n:=by
  induction n with
  | zero=>show 0 + f 0 = f 0 + 0; lia
  | succ n ih=>
    show YX f (n + 1) + f (n + 1) = f 0 + (YX (λk=>f (k + 1)) n + f (n + 1))
    rw [ih]; lia
theorem Gb {f g : Nat -> Nat} : ∀ n, (∀ k, k < n -> f k = g k) -> YX f n = YX g n:=by
  intro n
  induction n with
  | zero=>intro _; rfl
  | succ n ih=>
    intro h
    show YX f n + f n = YX g n + g n
    rw [ih λk hk=>h k (by lia), h n (by lia)]
theorem DJ (f g : Nat -> Nat) (n : Nat) : YX (λk=>f k + g k) n = YX f n + YX g n:=by
  induction n with
  | zero=>rfl
  | succ n ih=>
    show YX (λk=>f k + g k) n + (f n + g n) = YX f n + f n + (YX g n + g n)
    rw [ih]; lia
theorem Dq (c : Nat) (f : Nat -> Nat) (n : Nat) : YX (λk=>c * f k) n = c * YX f n:=by
  induction n with
  | zero=>rfl
  | succ n ih=>
    show YX (λk=>c * f k) n + c * f n = c * (YX f n + f n)
    rw [ih, Nat.mul_add]
theorem L8 (a n : Nat) : (a + 1) ^ n = YX (λk=>ch n k * a ^ k) (n + 1):=by
  induction n with
  | zero=>rfl
  | succ n ih=>
    have h1 : YX (λk=>ch n k * a ^ k) (n + 2) = YX (λk=>ch n k * a ^ k) (n + 1):=by
      show YX (λk=>ch n k * a ^ k) (n + 1) + ch n (n + 1) * a ^ (n + 1) = _
      rw [BE n (n + 1) (by lia), Nat.zero_mul, Nat.add_zero]
    rw [Q9] at h1
    rw [Q9]
    have h2 : YX (λk=>ch (n + 1) (k + 1) * a ^ (k + 1)) (n + 1) = a * YX (λk=>ch n k * a ^ k) (n + 1) + YX (λk=>ch n (k + 1) * a ^ (k + 1)) (n + 1):=by
      rw [← Dq, ← DJ]
      refine Gb _ λk _=>?_
      rw [Va, Nat.add_mul]
      congr 1
      rw [Nat.pow_succ, Nat.mul_comm (a ^ k) a, Nat.mul_left_comm]
    rw [h2, Nat.pow_succ, ih, Nat.mul_add, Nat.mul_one, Nat.mul_comm _ a]
    simp only [UH, Nat.pow_zero, Nat.mul_one] at h1 ⊢
    lia
noncomputable def Iz (p : Nat) : Prop:=2 <= p /\ ∀ d, d ∣ p -> d = 1 ∨ d = p
theorem Iz.cop {p : Nat} (h : Iz p) {k : Nat} (hk : ¬ p ∣ k) : Nat.Coprime p k:=by
  rcases h.2 (Nat.gcd p k) (Nat.gcd_dvd_left p k) with e | e
  . exact e
  . exact absurd (e ▸ Nat.gcd_dvd_right p k) hk
theorem IK {p : Nat} (h : Iz p) {k : Nat} (h0 : 0 < k) (h1 : k < p) : p ∣ ch p k:=by
  obtain ⟨j, rfl⟩ : ∃ j, k = j + 1:=⟨k - 1, by lia⟩
  obtain ⟨q, rfl⟩ : ∃ q, p = q + 1:=⟨p - 1, by lia⟩
  have e:=DF q j
  have hd : (q + 1) ∣ (j + 1) * ch (q + 1) (j + 1):=⟨_, e⟩
  exact (h.cop (λz=>by have:=Nat.le_of_dvd (by lia) z; lia)).dvd_of_dvd_mul_left hd
theorem DQ {p : Nat} {f : Nat -> Nat} : ∀ n, (∀ k, k < n -> p ∣ f k) -> p ∣ YX f n:=by
  intro n
  induction n with
  | zero=>intro _; exact Nat.dvd_zero p
  | succ n ih=>intro h; exact Nat.dvd_add (ih λk hk=>h k (by lia)) (h n (by lia))
theorem IE {p : Nat} (h : Iz p) (a : Nat) : a ^ p % p = a % p:=by
  induction a with
  | zero=>rw [Nat.zero_pow (by have:=h.1; lia)]
  | succ a ih=>
    obtain ⟨q, rfl⟩ : ∃ q, p = q + 1:=⟨p - 1, by have:=h.1; lia⟩
    rw [L8]
    have e : YX (λk=>ch (q + 1) k * a ^ k) (q + 1 + 1) = YX (λk=>ch (q + 1) (k + 1) * a ^ (k + 1)) q + (1 + a ^ (q + 1)):=by
      show YX (λk=>ch (q + 1) k * a ^ k) (q + 1) + ch (q + 1) (q + 1) * a ^ (q + 1) = _
      rw [Q9, UH, HF, Nat.pow_zero]; lia
    have hd : (q + 1) ∣ YX (λk=>ch (q + 1) (k + 1) * a ^ (k + 1)) q:=DQ q λk hk=>Nat.dvd_mul_right_of_dvd (IK h (by lia) (by lia)) _
    obtain ⟨z, hz⟩:=hd
    rw [e, hz, Nat.mul_add_mod, Nat.add_mod, ih, ← Nat.add_mod, Nat.add_comm]
theorem Ig {p : Nat} (h : Iz p) {a : Nat} (ha : ¬ p ∣ a) : (a * a ^ (p - 2)) % p = 1:=by
  obtain ⟨q, rfl⟩ : ∃ q, p = q + 2:=⟨p - 2, by have:=h.1; lia⟩
  show a * a ^ q % (q + 2) = 1
  have hf:=IE h a
  have hpos : 0 < a:=Nat.pos_of_ne_zero λz=>ha (by rw [z]; exact Nat.dvd_zero _)
  have h1 : 1 <= a ^ (q + 1):=Nat.one_le_pow _ _ hpos
  have e : a ^ (q + 2) = a * a ^ (q + 1):=by rw [Nat.pow_succ, Nat.mul_comm]
  have hle : a <= a ^ (q + 2):=by rw [e]; exact Nat.le_mul_of_pos_right a h1
  have hd : (q + 2) ∣ a ^ (q + 2) - a:=Nat.dvd_of_mod_eq_zero (Nat.sub_mod_eq_zero_of_mod_eq hf)
  have e2 : a ^ (q + 2) - a = a * (a ^ (q + 1) - 1):=by rw [e, Nat.mul_sub, Nat.mul_one]
  rw [e2] at hd
  have hd2:=(h.cop ha).dvd_of_dvd_mul_left hd
  have e3 : a * a ^ q = a ^ (q + 1):=by rw [Nat.pow_succ, Nat.mul_comm]
  rw [e3]
  obtain ⟨z, hz⟩:=hd2
  have : a ^ (q + 1) = 1 + (q + 2) * z:=by lia
  rw [this, Nat.add_mul_mod_self_left]
  exact Nat.mod_eq_of_lt (by lia)
noncomputable def Cg (p x y : Int) : Prop:=p ∣ x - y
section
variable {p x y z u v : Int}
theorem Cg.refl (p x : Int) : Cg p x x:=⟨0, by lia⟩
theorem Cg.of (h : x = y) : Cg p x y:=h ▸ Cg.refl p x
theorem Cg.symm (h : Cg p x y) : Cg p y x:=by
  obtain ⟨c, h⟩:=h
  exact ⟨-c, by rw [Int.mul_neg]; lia⟩
theorem Cg.trans (h : Cg p x y) (g : Cg p y z) : Cg p x z:=by
  obtain ⟨c, h⟩:=h
  obtain ⟨d, g⟩:=g
  exact ⟨c + d, by rw [Int.mul_add]; lia⟩
theorem Cg.add (h : Cg p x y) (g : Cg p u v) : Cg p (x + u) (y + v):=by
  obtain ⟨c, h⟩:=h
  obtain ⟨d, g⟩:=g
  exact ⟨c + d, by rw [Int.mul_add]; lia⟩
theorem Cg.mul (h : Cg p x y) (g : Cg p u v) : Cg p (x * u) (y * v):=by
  obtain ⟨c, h⟩:=h
  obtain ⟨d, g⟩:=g
  have e1 : x = y + p * c:=by lia
  have e2 : u = v + p * d:=by lia
  refine ⟨c * u + y * d, ?_⟩
  have : x * u = y * u + p * (c * u):=by rw [e1, Int.add_mul, Int.mul_assoc]
  rw [this, e2, Int.mul_add y, Int.mul_add p, Int.mul_left_comm y p d]
  lia
theorem Cg.emod (p x : Int) : Cg p (x % p) x:=⟨-(x / p), by rw [Int.emod_def, Int.mul_neg]; lia⟩
theorem Cg.pow (h : Cg p x y) (n : Nat) : Cg p (x ^ n) (y ^ n):=by
  induction n with
  | zero=>rw [Int.pow_zero, Int.pow_zero]; exact Cg.refl ..
  | succ n ih=>rw [Int.pow_succ, Int.pow_succ]; exact ih.mul h
theorem Cg.rest (h : Cg p x y) (h2 : 0 <= y /\ y < p) : x % p = y:=by
  have e : (x - y) % p = 0:=Int.emod_eq_zero_of_dvd h
  have e2 : x % p = y % p:=Int.emod_eq_emod_iff_emod_sub_eq_zero.mpr e
  rwa [Int.emod_eq_of_lt h2.1 h2.2] at e2
end
theorem Eg (s : Int) (h : Nat) : (s * s) ^ h = s ^ (2 * h):=by
  induction h with
  | zero=>rw [Nat.mul_zero, Int.pow_zero, Int.pow_zero]
  | succ h ih=>rw [Int.pow_succ, ih, show 2 * (h + 1) = 2 * h + 1 + 1 by lia, Int.pow_succ, Int.pow_succ, Int.mul_assoc]
theorem EL {p : Int} (h : PP p) : Iz p.toNat:=by
  obtain ⟨h1, h2, h3⟩:=h
  obtain ⟨n, rfl⟩ : ∃ n : Nat, p = n:=⟨p.toNat, by lia⟩
  rw [Int.toNat_natCast]
  have key : ∀ d e : Nat, n = d * e -> d <= e -> 2 <= d -> False:=λd e he hle hd=>by
    have hdd : d * d <= n:=by rw [he]; exact Nat.mul_le_mul_left d hle
    have h317 : d < 317:=by
      rcases Nat.lt_or_ge d 317 with h | h
      . exact h
      . have := Nat.mul_le_mul h h
        lia
    have hg:=DT h3 (a:=(d : Int)) (by lia) (by lia) (by
      have : ((d * d : Nat) : Int) <= (n : Int):=by lia
      rwa [Int.natCast_mul] at this)
    have : (n : Int) % (d : Int) = 0:=Int.emod_eq_zero_of_dvd ⟨(e : Int), by rw [he, Int.natCast_mul]⟩
    lia
  refine ⟨by lia, λd r9=>?_⟩
  obtain ⟨e, he⟩:=r9
  rcases Nat.le_total d e with hle | hle
  . rcases (by lia : d = 0 ∨ d = 1 ∨ 2 <= d) with hd | hd | hd
    . rw [hd, Nat.zero_mul] at he; lia
    . exact .inl hd
    . exact (key d e he hle hd).elim
  . rcases (by lia : e = 0 ∨ e = 1 ∨ 2 <= e) with hd | hd | hd
    . rw [hd, Nat.mul_zero] at he; lia
    . rw [hd, Nat.mul_one] at he; exact .inr he.symm
    . exact (key e d (by rw [he, Nat.mul_comm]) hle hd).elim
theorem FM {γ : Type} {c : γ -> Rs Bool} {f : γ -> Rs γ} (P : γ -> Prop) (μ : γ -> Nat) (hs : ∀ g, P g -> c g = .ok (decide (0 < μ g)) /\ (0 < μ g -> Ok (f g) λg'=>P g' /\ μ g' = μ g / 2)) : ∀ (n : Nat) (g : γ), P g -> μ g < 2 ^ n -> Ok (Qc (n + 1) g c f) λg'=>P g' /\ μ g' = 0:=by
  intro n
  induction n with
  | zero=>
    intro g hp hl
    have h0 : μ g = 0:=by rw [Nat.pow_zero] at hl; lia
    rw [Qc, (hs g hp).1, h0]
    exact ⟨g, rfl, hp, h0⟩
  | succ n ih=>
    intro g hp hl
    rw [Qc, (hs g hp).1, Rs.okb]
    by_cases h : 0 < μ g
    . rw [if_pos (decide_eq_true h)]
      refine Ok.bind ((hs g hp).2 h) λg' hg=>ih g' hg.1 ?_
      rw [hg.2, Nat.div_lt_iff_lt_mul (by decide)]
      rw [Nat.pow_succ] at hl
      exact hl
    . rw [if_neg (by rw [decide_eq_true_eq]; exact h)]
      exact ⟨g, rfl, hp, by lia⟩
theorem Ft {p a : Int} (hp : PP p) (h0 : 0 < a) (h1 : a < p) : Ok (YE a p) λr=>0 <= r /\ r < p /\ Cg p (a * r) 1:=by
  obtain ⟨p1, p2, _⟩:=id hp
  unfold YE
  simp only [Rs.okb]
  refine Ok.bind (FM (λg : Int × Int × Int=>(0 <= g.1 /\ g.1 < p) /\ (0 <= g.2.1 /\ g.2.1 <= 100000) /\ (0 <= g.2.2 /\ g.2.2 < p) /\ Cg p (g.2.2 * g.1 ^ g.2.1.toNat) (a ^ (p - 2).toNat)) (λg=>g.2.1.toNat) (λg hg=>?_) 99 (a, p - 2, 1) ⟨⟨by lia, h1⟩, ⟨by show 0 <= p - 2; lia, by show p - 2 <= 100000; lia⟩, ⟨by show (0 : Int) <= 1; decide, by show (1 : Int) < p; lia⟩, Cg.of (Int.one_mul _)⟩ (by show (p - 2).toNat < 2 ^ 99; lia)) λg hg=>⟨_, rfl, ?_⟩
  . obtain ⟨⟨a1, a2⟩, ⟨b1, b2⟩, ⟨c1, c2⟩, d⟩ := hg
    refine ⟨?_, λhl=>?_⟩
    . have : (0 < g.2.1) ↔ 0 < g.2.1.toNat := by lia
      simp only [this]
    . have hl : 0 < g.2.1.toNat := hl
      rw [Ye (by decide), Rs.okb, Rs.okb, Yz (a:=g.2.2) (by lia) (by lia), Yz (a:=g.1) (by lia) (by lia), Rs.okb, Ye (by lia), show L6 g.2.1 2 = .ok (g.2.1 / 2) from Xy (by decide)]
      simp only [Rs.okb]
      have hm : ∀ w : Int, 0 <= w % p /\ w % p < p:=λw=>⟨Int.emod_nonneg _ (by lia), Int.emod_lt_of_pos _ (by lia)⟩
      have ht : (g.2.1 / 2).toNat = g.2.1.toNat / 2:=by lia
      by_cases hodd : g.2.1 % 2 = 1
      . rw [if_pos (decide_eq_true hodd), Ye (by lia)]
        simp only [Rs.okb]
        refine ⟨_, rfl, ⟨hm _, ⟨by show 0 <= g.2.1 / 2; lia, by show g.2.1 / 2 <= 100000; lia⟩, hm _, ?_⟩, ht⟩
        show Cg p (g.2.2 * g.1 % p * (g.1 * g.1 % p) ^ (g.2.1 / 2).toNat) _
        refine (((Cg.emod p _).mul ((Cg.emod p _).pow _)).trans (Cg.of ?_)).trans d
        rw [Eg, ht, Int.mul_assoc, Int.mul_comm g.1, ← Int.pow_succ]
        congr 2
        lia
      . rw [if_neg (by rw [decide_eq_true_eq]; exact hodd), Rs.okb, Ye (by lia), Rs.okb]
        refine ⟨(g.1 * g.1 % p, g.2.1 / 2, g.2.2), rfl, ⟨hm _, ⟨by show 0 <= g.2.1 / 2; lia, by show g.2.1 / 2 <= 100000; lia⟩, ⟨c1, c2⟩, ?_⟩, ht⟩
        show Cg p (g.2.2 * (g.1 * g.1 % p) ^ (g.2.1 / 2).toNat) _
        refine (((Cg.refl p _).mul ((Cg.emod p _).pow _)).trans (Cg.of ?_)).trans d
        rw [Eg, ht]
        congr 2
        lia
  . obtain ⟨⟨_, _, c, d⟩, hz⟩ := hg
    have hz : g.2.1.toNat = 0:=hz
    rw [hz, Int.pow_zero, Int.mul_one] at d
    refine ⟨c.1, c.2, ((Cg.refl p a).mul d).trans ?_⟩
    obtain ⟨n, rfl⟩ : ∃ n : Nat, a = n:=⟨a.toNat, by lia⟩
    obtain ⟨q, rfl⟩ : ∃ q : Nat, p = q:=⟨p.toNat, by lia⟩
    have hf:=Ig (EL hp) (a:=n) (λz=>by rw [Int.toNat_natCast] at z; have:=Nat.le_of_dvd (by lia) z; lia)
    rw [Int.toNat_natCast] at hf
    have e : ((q : Int) - 2).toNat = q - 2:=by lia
    have h2:=Nat.div_add_mod (n * n ^ (q - 2)) q
    rw [hf] at h2
    refine ⟨((n * n ^ (q - 2) / q : Nat) : Int), ?_⟩
    rw [e, ← Int.natCast_pow, ← Int.natCast_mul, ← Int.natCast_mul]
    lia
noncomputable def YG (M : Nat) (r : Nat -> Int) : List Int:=(List.range M).map r
theorem Q4 (M : Nat) (r : Nat -> Int) : (YG M r).length = M:=by simp [YG]
theorem Uv {M : Nat} {r : Nat -> Int} {j : Nat} (h : j < M) : atR (YG M r) (j : Int) = .ok (r j):=Z2 (by simp [YG, h])
theorem Qq {M : Nat} {r q : Nat -> Int} (h : ∀ j, j < M -> r j = q j) : YG M r = YG M q:=List.map_congr_left λj hj=>h j (List.mem_range.mp hj)
noncomputable def tim (p s : Int) (r : Nat -> Int) (j : Nat) : Int:=s * r j % p
noncomputable def clr (p : Int) (a : Nat) (l r : Nat -> Int) (j : Nat) : Int:=(r j - r a * l j) % p
theorem Bj {M : Nat} {r : Nat -> Int} {s p : Int} (hM : M <= 1000) (h0 : 0 <= s) (h1 : s < 2 ^ 63) (hp : 0 < p) : Jj (YG M r) s p = .ok (YG M (tim p s r)):=by
  unfold Jj
  simp only [Rs.okb]
  rw [Y2 (h:=λx=>s * x % p) (sz (by rw [Q4]; lia)) λx _=>by rw [Yz (by lia) (by lia), Rs.okb, Ye hp]]
  unfold YG
  rw [List.map_map]
  rfl
theorem VQ {M a : Nat} {r l : Nat -> Int} {p : Int} (hM : M <= 1000) (ha : a < M) (h0 : 0 <= r a) (h1 : r a < 2 ^ 63) (hp : 0 < p) : Zl (YG M r) (YG M l) (a : Int) p = .ok (YG M (clr p a l r)):=by
  unfold Zl
  simp only [Rs.okb]
  rw [Uv ha]
  simp only [Rs.okb]
  rw [Y2 (h:=λx : Int × Int=>(x.1 - r a * x.2) % p) (sz (by simp [YG]; lia)) λx _=>by rw [Yz (by lia) (by lia), Rs.okb, Rs.okb, Ye hp]]
  unfold YG
  rw [List.zip_map', List.map_map]
  rfl
noncomputable def Kq (N : Nat) (F : Nat -> Int) : Int:=((List.range N).map F).sum
theorem ZB (N : Nat) (F : Nat -> Int) : Kq (N + 1) F = Kq N F + F N:=by
  unfold Kq
  rw [List.range_succ, List.map_append, List.sum_append]
  simp
theorem FE {F G : Nat -> Int} (N : Nat) (h : ∀ i, i < N -> F i = G i) : Kq N F = Kq N G:=by
  unfold Kq
  rw [List.map_congr_left λi hi=>h i (List.mem_range.mp hi)]
theorem Db {p : Int} {F G : Nat -> Int} (N : Nat) (h : ∀ i, i < N -> Cg p (F i) (G i)) : Cg p (Kq N F) (Kq N G):=by
  induction N with
  | zero=>exact Cg.refl ..
  | succ N ih=>rw [ZB, ZB]; exact (ih λi hi=>h i (by lia)).add (h N (by lia))
theorem G2 (N : Nat) (u v : Int) (F G : Nat -> Int) : Kq N (λi=>u * F i + v * G i) = u * Kq N F + v * Kq N G:=by
  induction N with
  | zero=>show (0 : Int) = u * 0 + v * 0; lia
  | succ N ih=>rw [ZB, ZB, ZB, ih, Int.mul_add, Int.mul_add]; lia
theorem FZ (N : Nat) {F : Nat -> Int} (h : ∀ i, i < N -> F i = 0) : Kq N F = 0:=by
  induction N with
  | zero=>rfl
  | succ N ih=>rw [ZB, ih λi hi=>h i (by lia), h N (by lia)]; rfl
theorem Cd {N k : Nat} (F : Nat -> Int) (h : k < N) (hz : ∀ i, i < N -> i ≠ k -> F i = 0) : Kq N F = F k:=by
  induction N with
  | zero=>lia
  | succ N ih=>
    rw [ZB]
    by_cases e : k = N
    . subst e
      rw [FZ _ λi hi=>hz i (by lia) (by lia)]; lia
    . rw [ih (by lia) λi hi=>hz i (by lia), hz N (by lia) (λz=>e z.symm)]; lia
section
variable {p : Int} {K N : Nat} {e : Nat -> Nat -> Int}
noncomputable def Lin (p : Int) (K N : Nat) (e : Nat -> Nat -> Int) (r : Nat -> Int) : Prop:=∀ j, j < K -> Cg p (r j) (Kq N λk=>r (K + k) * e k j)
noncomputable def Ran (p : Int) (M : Nat) (r : Nat -> Int) : Prop:=∀ j, j < M -> 0 <= r j /\ r j < p
noncomputable def Kil (p : Int) (K : Nat) (r c : Nat -> Int) : Prop:=Cg p (Kq K λj=>r j * c j) 0
theorem GB {r l t : Nat -> Int} {u v : Int} (hr : Lin p K N e r) (hl : Lin p K N e l) (ht : ∀ j, j < K + N -> Cg p (t j) (u * r j + v * l j)) : Lin p K N e t:=λj hj=>by
  refine (ht j (by lia)).trans ((((Cg.refl p u).mul (hr j hj)).add ((Cg.refl p v).mul (hl j hj))).trans ?_)
  rw [← G2]
  refine Db N λk hk=>?_
  have:=((ht (K + k) (by lia)).mul (Cg.refl p (e k j))).symm
  rw [Int.add_mul, Int.mul_assoc, Int.mul_assoc] at this
  exact this
theorem Bo {r l t c : Nat -> Int} {u v : Int} (hr : Kil p K r c) (hl : Kil p K l c) (ht : ∀ j, j < K -> Cg p (t j) (u * r j + v * l j)) : Kil p K t c:=by
  unfold Kil at hr hl ⊢
  have h1 : Cg p (Kq K λj=>t j * c j) (Kq K λj=>u * (r j * c j) + v * (l j * c j)):=Db K λj hj=>by
    have:=(ht j hj).mul (Cg.refl p (c j))
    rw [Int.add_mul, Int.mul_assoc, Int.mul_assoc] at this
    exact this
  rw [G2] at h1
  refine h1.trans ((((Cg.refl p u).mul hr).add ((Cg.refl p v).mul hl)).trans (Cg.of ?_))
  lia
theorem Lq (s : Int) (r : Nat -> Int) (j : Nat) : Cg p (tim p s r j) (s * r j + 0 * r j):=by
  rw [Int.zero_mul, Int.add_zero]; exact Cg.emod ..
theorem Ep (a : Nat) (l r : Nat -> Int) (j : Nat) : Cg p (clr p a l r j) (1 * r j + -(r a) * l j):=by
  rw [Int.one_mul, Int.neg_mul, ← Int.sub_eq_add_neg]; exact Cg.emod ..
structure GI (p : Int) (K N : Nat) (e : Nat -> Nat -> Int) (a : Nat) (ws : List (Nat -> Int)) (ts : List (Nat × (Nat -> Int))) : Prop where
  wl : ∀ r ∈ ws, Lin p K N e r /\ Ran p (K + N) r /\ ∀ j, j < a -> r j = 0
  tl : ∀ t ∈ ts, Lin p K N e t.2 /\ Ran p (K + N) t.2 /\ t.1 < a /\ t.2 t.1 = 1 /\ (∀ j, j < t.1 -> t.2 j = 0) /\ ∀ t' ∈ ts, t'.1 ≠ t.1 -> t.2 t'.1 = 0
  inc : (ts.map (·.1)).Pairwise (· < ·)
  sp : ∀ c : Nat -> Int, (∀ r ∈ ws, Kil p K r c) -> (∀ t ∈ ts, Kil p K t.2 c) -> ∀ k, k < N -> Kil p K (e k) c
theorem Gi (hp : 0 < p) (x : Int) : 0 <= x % p /\ x % p < p:=⟨Int.emod_nonneg _ (by lia), Int.emod_lt_of_pos _ hp⟩
theorem GI.skip {a : Nat} {ws : List (Nat -> Int)} {ts : List (Nat × (Nat -> Int))} (h : GI p K N e a ws ts) (hz : ∀ r ∈ ws, r a = 0) : GI p K N e (a + 1) ws ts where
  wl:=λr hr=>by
    obtain ⟨h1, h2, h3⟩:=h.wl r hr
    refine ⟨h1, h2, λj hj=>?_⟩
    rcases (by lia : j < a ∨ j = a) with q | q
    . exact h3 j q
    . rw [q]; exact hz r hr
  tl:=λt ht=>by
    obtain ⟨h1, h2, h3, h4, h5, h6⟩:=h.tl t ht
    exact ⟨h1, h2, by lia, h4, h5, h6⟩
  inc:=h.inc
  sp:=h.sp
theorem GI.step {a : Nat} {ws : List (Nat -> Int)} {ts : List (Nat × (Nat -> Int))} {l : Nat -> Int} {s : Int} (h : GI p K N e a ws ts) (hp : 1 < p) (ha : a < K) (hl : l ∈ ws) (hs : Cg p (l a * s) 1) : GI p K N e (a + 1) (ws.map (clr p a (tim p s l))) (ts.map (λt=>(t.1, clr p a (tim p s l) t.2)) ++ [(a, tim p s l)]):=by
  obtain ⟨l1, l2, l3⟩:=h.wl l hl
  have hpp : 0 < p:=by lia
  have L1 : Lin p K N e (tim p s l):=GB l1 l1 λj _=>Lq s l j
  have L2 : Ran p (K + N) (tim p s l):=λj _=>Gi hpp _
  have L3 : ∀ j, j < a -> tim p s l j = 0:=λj hj=>by
    show s * l j % p = 0
    rw [l3 j hj, Int.mul_zero, Int.zero_emod]
  have L4 : tim p s l a = 1:=Cg.rest (by rw [Int.mul_comm]; exact hs) ⟨by decide, hp⟩
  generalize tim p s l = m at L1 L2 L3 L4
  have hclr : ∀ {r : Nat -> Int}, Lin p K N e r -> Lin p K N e (clr p a m r):=fun {r} hr=>GB hr L1 λj _=>Ep a m r j
  have hran : ∀ r : Nat -> Int, Ran p (K + N) (clr p a m r):=λr j _=>Gi hpp _
  have hat : ∀ r : Nat -> Int, clr p a m r a = 0:=λr=>by
    show (r a - r a * m a) % p = 0
    rw [L4, Int.mul_one, Int.sub_self, Int.zero_emod]
  have hlow : ∀ (r : Nat -> Int) j, j < a -> Ran p (K + N) r -> clr p a m r j = r j:=λr j hj hr=>by
    show (r j - r a * m j) % p = r j
    rw [L3 j hj, Int.mul_zero, Int.sub_zero]
    have:=hr j (by lia)
    exact Int.emod_eq_of_lt this.1 this.2
  refine ⟨λr hr=>?_, λt ht=>?_, ?_, λc hw ht=>?_⟩
  . obtain ⟨r, hr', rfl⟩ := List.mem_map.mp hr
    obtain ⟨h1, h2, h3⟩:=h.wl r hr'
    refine ⟨hclr h1, hran r, λj hj=>?_⟩
    rcases (by lia : j < a ∨ j = a) with q | q
    . rw [hlow r j q h2]; exact h3 j q
    . rw [q]; exact hat r
  . rcases List.mem_append.mp ht with ht | ht
    . obtain ⟨t, htt, rfl⟩ := List.mem_map.mp ht
      obtain ⟨h1, h2, h3, h4, h5, h6⟩:=h.tl t htt
      refine ⟨hclr h1, hran _, by show t.1 < a + 1; lia, ?_, λj hj=>?_, λt' ht' hne=>?_⟩
      . show clr p a m t.2 t.1 = 1
        rw [hlow _ _ h3 h2]; exact h4
      . have hj : j < t.1 := hj
        show clr p a m t.2 j = 0
        rw [hlow _ _ (by lia) h2]; exact h5 j hj
      . show clr p a m t.2 t'.1 = 0
        rcases List.mem_append.mp ht' with q | q
        . obtain ⟨t', q', rfl⟩ := List.mem_map.mp q
          show clr p a m t.2 t'.1 = 0
          rw [hlow _ _ (h.tl t' q').2.2.1 h2]
          exact h6 t' q' hne
        . rw [List.mem_singleton.mp q]; exact hat _
    . rw [List.mem_singleton.mp ht]
      refine ⟨L1, L2, by show a < a + 1; lia, L4, L3, λt' ht' hne=>?_⟩
      rcases List.mem_append.mp ht' with q | q
      . obtain ⟨t', q', rfl⟩ := List.mem_map.mp q
        exact L3 _ (h.tl t' q').2.2.1
      . rw [List.mem_singleton.mp q] at hne
        exact absurd rfl hne
  . rw [List.map_append, List.map_map]
    show (ts.map (·.1) ++ [a]).Pairwise (· < ·)
    rw [List.pairwise_append]
    refine ⟨h.inc, by simp, λx hx y hy=>?_⟩
    obtain ⟨t, ht, rfl⟩:=List.mem_map.mp hx
    rw [List.mem_singleton.mp hy]
    exact (h.tl t ht).2.2.1
  . have hm : Kil p K m c := ht (a, m) (List.mem_append_right _ (by simp))
    have back : ∀ r : Nat -> Int, Kil p K (clr p a m r) c -> Kil p K r c:=λr hr=>Bo hr hm λj _=>by
      have:=(Ep (p:=p) a m r j).symm
      refine (Cg.of ?_).trans ((this.mul (Cg.refl p 1)).add (Cg.refl p (r a * m j))) |>.trans (Cg.of ?_)
      . rw [Int.mul_one, Int.neg_mul]; lia
      . rw [Int.mul_comm _ 1]
    exact h.sp c (λr hr=>back r (hw _ (List.mem_map.mpr ⟨r, hr, rfl⟩))) λt ht'=>back t.2 (ht (t.1, clr p a m t.2) (List.mem_append_left _ (List.mem_map.mpr ⟨t, ht', rfl⟩)))
noncomputable def Qw (M : Nat) (t : Nat × (Nat -> Int)) : Int × List Int:=((t.1 : Int), YG M t.2)
theorem IG (hp : PP p) {ws0 : List (Nat -> Int)} (hK : K <= 100) (hN : N <= 100) (hw : ws0.length <= 100) (h0 : GI p K N e 0 ws0 []) : Ok (Zv (ws0.map (YG (K + N))) (K : Int) p) λtold=>∃ ws ts, told = ts.map (Qw (K + N)) /\ GI p K N e K ws ts:=by
  obtain ⟨p1, p2, _⟩:=id hp
  unfold Zv
  simp only [Rs.okb]
  rw [Qz (by lia), Rs.okb]
  refine Ok.bind (Ok.forN (λa (g : List (List Int) × List (Int × List Int))=>∃ ws ts, g = (ws.map (YG (K + N)), ts.map (Qw (K + N))) /\ GI p K N e a ws ts /\ ws.length <= 100 /\ ts.length <= a) ⟨ws0, [], rfl, h0, hw, Nat.le_refl _⟩ λa x g hx hg=>?_) λg hg=>?_
  . obtain ⟨rfl, ha⟩ := ZC hx
    obtain ⟨ws, ts, rfl, hI, hwl, htl⟩:=hg
    have hfil : Ek (ws.map (YG (K + N))) (λa16=>(Rs.bind (atR a16 (a : Int)) λx21=>(Rs.ok (!decide (x21 = (0 : Int)))))) (λa16=>Rs.ok a16) = .ok ((ws.filter λr=>!decide (r a = 0)).map (YG (K + N))):=by
      rw [Ul (p:=λrow=>!decide (row.getD a 0 = 0)) (h:=λrow=>row) (sz (by simp; lia)) (λrow hrow=>?_) λ_ _ _=>rfl]
      . rw [List.map_id', List.filter_map]
        congr 2
        refine List.filter_congr λr _=>?_
        show (!decide ((YG (K + N) r).getD a 0 = 0)) = _
        have : (YG (K + N) r).getD a 0 = r a:=by simp [YG, show a < K + N by lia]
        rw [this]
      . obtain ⟨r, hr, rfl⟩ := List.mem_map.mp hrow
        have : (YG (K + N) r).getD a 0 = r a:=by simp [YG, show a < K + N by lia]
        rw [Uv (by lia), Rs.okb, this]
    rw [hfil, Rs.okb]
    cases hls : ws.filter λr=>!decide (r a = 0) with
    | nil=>
      rw [List.map_nil, if_neg (by decide), Rs.okb]
      refine ⟨_, rfl, ws, ts, rfl, hI.skip λr hr=>?_, hwl, by lia⟩
      have:=List.filter_eq_nil_iff.mp hls r hr
      simpa using this
    | cons l rest=>
      have hmem : l ∈ ws.filter λr=>!decide (r a = 0):=by rw [hls]; exact List.mem_cons_self
      obtain ⟨hl, hne⟩:=List.mem_filter.mp hmem
      have hne : l a ≠ 0:=by simpa using hne
      have hlr:=(hI.wl l hl).2.1 a (by lia)
      rw [if_pos (by simp), show atR ((l :: rest).map (YG (K + N))) 0 = .ok (YG (K + N) l) from Z2 (i:=0) rfl]
      simp only [Rs.okb]
      rw [Uv (show a < K + N by lia), Rs.okb]
      obtain ⟨s, es, s0, s1, sc⟩:=Ft hp (a:=l a) (by lia) hlr.2
      rw [es, XV, Rs.okb, Bj (by lia) s0 (by lia) (by lia), XV, Rs.okb]
      rw [Y2 (h:=λrow=>YG (K + N) (clr p a (tim p s l) λj=>row.getD j 0)) (sz (by simp; lia)) λrow hrow=>?_, Rs.okb]
      . rw [Y2 (h := λt : Int × List Int => (t.1, YG (K + N) (clr p a (tim p s l) λj => t.2.getD j 0))) (sz (by simp; lia)) λt ht => ?_, Rs.okb]
        . rw [Xy (sz (by simp)), Rs.okb, show ∀ l1 l2 : List (Int × List Int), l1.length + l2.length <= 1000 -> FY l1 l2 = .ok (l1 ++ l2) from λl1 l2 h => Xy (sz (by lia)), Rs.okb]
          . refine ⟨_, rfl, _, _, ?_, hI.step (by lia) ha hl sc, by simpa using hwl, by simp; lia⟩
            have hg : ∀ r : Nat -> Int, YG (K + N) (clr p a (tim p s l) λj=>(YG (K + N) r).getD j 0) = YG (K + N) (clr p a (tim p s l) r):=λr=>Qq λj hj=>by
              have q : ∀ j, j < K + N -> (YG (K + N) r).getD j 0 = r j:=λj hj=>by simp [YG, hj]
              show ((YG (K + N) r).getD j 0 - (YG (K + N) r).getD a 0 * _) % p = _
              rw [q j hj, q a (by lia)]
              rfl
            refine Prod.ext ?_ ?_
            . show (ws.map (YG (K + N))).map _ = (ws.map _).map _
              rw [List.map_map, List.map_map]
              exact List.map_congr_left λr _=>hg r
            . show (ts.map (Qw (K + N))).map _ ++ [((a : Int), YG (K + N) (tim p s l))] = (ts.map _ ++ [(a, tim p s l)]).map _
              rw [List.map_append, List.map_map, List.map_map]
              congr 1
              refine List.map_congr_left λt _=>?_
              show ((t.1 : Int), _) = ((t.1 : Int), _)
              rw [← hg t.2]
              rfl
          . simp; lia
        . obtain ⟨t, htt, rfl⟩ := List.mem_map.mp ht
          have hr:=(hI.tl t htt).2.1 a (by lia)
          show ((noE (Zl (YG (K + N) t.2) _ _ _)).bind _) = _
          rw [VQ (by lia) (by lia) hr.1 (by lia) (by lia), XV, Rs.okb]
          congr 2
          refine Qq λj hj=>?_
          have q : ∀ j, j < K + N -> (Qw (K + N) t).2.getD j 0 = t.2 j:=λj hj=>by simp [Qw, YG, hj]
          show _ = ((Qw (K + N) t).2.getD j 0 - (Qw (K + N) t).2.getD a 0 * _) % p
          rw [q j hj, q a (by lia)]
          rfl
      . obtain ⟨r, hrr, rfl⟩ := List.mem_map.mp hrow
        have hr:=(hI.wl r hrr).2.1 a (by lia)
        rw [VQ (by lia) (by lia) hr.1 (by lia) (by lia), XV]
        congr 1
        refine Qq λj hj=>?_
        have q : ∀ j, j < K + N -> (YG (K + N) r).getD j 0 = r j:=λj hj=>by simp [YG, hj]
        show _ = ((YG (K + N) r).getD j 0 - (YG (K + N) r).getD a 0 * _) % p
        rw [q j hj, q a (by lia)]
        rfl
  . obtain ⟨ws, ts, rfl, hI, _, _⟩ := hg
    rw [Zw] at hI
    exact ⟨_, rfl, ws, ts, rfl, hI⟩
end
theorem CO {α : Type} : ∀ {l acc : List (Int × α)}, ((acc ++ l).map (·.1)).Nodup -> FD acc l = acc ++ l:=by
  intro l
  induction l with
  | nil=>intro acc _; rw [List.append_nil]; rfl
  | cons x l ih=>
    intro acc h
    show FD (JW acc x.1 x.2) l = _
    have hx : JW acc x.1 x.2 = acc ++ [x]:=by
      unfold JW
      rw [if_neg]
      rw [List.any_eq_true]
      rintro ⟨kv, h1, h2⟩
      rw [List.map_append, List.nodup_append] at h
      exact h.2.2 kv.1 (List.mem_map.mpr ⟨kv, h1, rfl⟩) x.1 (by simp) (by simpa using h2)
    rw [hx, ih (by simpa using h), List.append_assoc]
    rfl
theorem C8 {α : Type} (d : List (Int × α)) (x : Int) : (Zd d x).isSome = true ↔ x ∈ d.map (·.1):=by
  unfold Zd
  rw [Option.isSome_map, List.find?_isSome, List.mem_map]
  simp
theorem CB {n k : Nat} (hk : k < n) (hn : n <= 900) : Js (n : Int) (k : Int) = .ok (YG n λj=>if j = k then 1 else 0):=by
  unfold Js
  simp only [Rs.okb]
  rw [Xy (sz (by simp)), Rs.okb, Mg hn, Rs.okb, Vk (by simp; lia), Rs.okb]
  congr 1
  exact Vs hk (by rw [if_pos rfl]) λj _ h=>by rw [if_neg h]
noncomputable def w0 (K : Nat) (e : Nat -> Nat -> Int) (k j : Nat) : Int:=if j < K then e k j else if j = K + k then 1 else 0
theorem Hd {K N : Nat} {e : Nat -> Nat -> Int} (hK : K <= 100) (hN : N <= 100) : YF ((List.range N).map λk=>YG K (e k)) = .ok (((List.range N).map (w0 K e)).map (YG (K + N))):=by
  unfold YF
  simp only [Rs.okb]
  have hlen : ((List.range N).map λk=>YG K (e k)).length = N:=by simp
  rw [hlen]
  have hget : ∀ (i : Nat) (x : Int × List Int), (Ji ((List.range N).map λk=>YG K (e k)))[i]? = some x -> i < N /\ x = ((i : Int), YG K (e i)):=λi x hx=>by
    obtain ⟨h1, h2⟩:=Vz hx
    have hi:=(List.getElem?_eq_some_iff.mp h2).1
    rw [hlen] at hi
    rw [List.getElem?_map, List.getElem?_range hi] at h2
    exact ⟨hi, Prod.ext h1 (Option.some.inj h2).symm⟩
  have hel : (Ji ((List.range N).map λk=>YG K (e k))).length = N:=by simp [Ji]
  rw [Y2 (h:=λx : Int × List Int=>x.2 ++ YG N λj=>if j = x.1.toNat then 1 else 0) (sz (by rw [hel]; lia)) λx hx=>?_]
  . congr 1
    rw [List.map_map]
    refine List.ext_getElem (by simp [hel]) λi h1 h2=>?_
    have hi : i < N:=by simpa using h2
    have hx:=hget i _ (List.getElem?_eq_getElem (show i < (Ji ((List.range N).map λk=>YG K (e k))).length by rw [hel]; exact hi))
    rw [List.getElem_map, hx.2]
    simp only [List.getElem_map, List.getElem_range, Function.comp]
    unfold YG
    rw [List.range_add, List.map_append, List.map_map]
    congr 1
    . exact List.map_congr_left λj hj=>by
        have:=List.mem_range.mp hj
        show e i j = w0 K e i j
        unfold w0
        rw [if_pos this]
    . refine List.map_congr_left λj hj => ?_
      show (if j = (i : Int).toNat then (1 : Int) else 0) = w0 K e i (K + j)
      have hw : w0 K e i (K + j) = if K + j = K + i then 1 else 0:=if_neg (by lia)
      rw [hw, Int.toNat_natCast]
      by_cases q : j = i
      . rw [if_pos q, if_pos (by lia)]
      . rw [if_neg q, if_neg (by lia)]
  . obtain ⟨i, hi⟩ := List.mem_iff_getElem?.mp hx
    obtain ⟨hN', rfl⟩:=hget i x hi
    rw [CB hN' (by lia), XV, Rs.okb]
    exact Xy (sz (by rw [Q4, Q4]; lia))
theorem Bv {p : Int} {K N : Nat} {e : Nat -> Nat -> Int} (hp : 1 < p) (he : ∀ k, k < N -> Ran p K (e k)) : GI p K N e 0 ((List.range N).map (w0 K e)) []:=by
  have hlow : ∀ k j, j < K -> w0 K e k j = e k j:=λk j hj=>if_pos hj
  refine ⟨λr hr=>?_, λt ht=>(nomatch ht), List.Pairwise.nil, λc hw _ k hk=>?_⟩
  . obtain ⟨k, hk, rfl⟩ := List.mem_map.mp hr
    have hk:=List.mem_range.mp hk
    refine ⟨λj hj=>?_, λj hj=>?_, λj hj=>(by lia)⟩
    . rw [hlow k j hj, Cd (k := k) _ hk λi hi hne => ?_]
      . refine Cg.of ?_
        unfold w0
        rw [if_neg (by lia), if_pos rfl, Int.one_mul]
      . unfold w0
        rw [if_neg (by lia), if_neg (by lia), Int.zero_mul]
    . unfold w0
      by_cases q : j < K
      . rw [if_pos q]; exact he k hk j q
      . rw [if_neg q]
        split <;> lia
  . have := hw (w0 K e k) (List.mem_map.mpr ⟨k, List.mem_range.mpr hk, rfl⟩)
    unfold Kil at this ⊢
    rw [FE K λj hj=>by rw [← hlow k j hj]]
    exact this
section
variable {p : Int} {K N : Nat} {e : Nat -> Nat -> Int} {ws : List (Nat -> Int)} {ts : List (Nat × (Nat -> Int))}
theorem GI.nodup {a : Nat} (h : GI p K N e a ws ts) : ((ts.map (Qw (K + N))).map (·.1)).Nodup:=by
  rw [List.map_map]
  have : ((·.1) ∘ Qw (K + N)) = (λ(n : Nat)=>(n : Int)) ∘ (λt : Nat × (Nat -> Int)=>t.1):=rfl
  rw [this, ← List.map_map, List.Nodup, List.pairwise_map]
  exact h.inc.imp λh=>by lia
noncomputable def Bg (p : Int) (ts : List (Nat × (Nat -> Int))) (free j : Nat) : Int:=match ts.find? λt=>decide (t.1 = j) with
  | some t=>(-(t.2 free)) % p
  | none=>if j = free then 1 else 0
theorem CW (h : (ts.map (·.1)).Pairwise (· < ·)) {t : Nat × (Nat -> Int)} (ht : t ∈ ts) (free : Nat) : Bg p ts free t.1 = (-(t.2 free)) % p:=by
  unfold Bg
  cases hf : ts.find? λt'=>decide (t'.1 = t.1) with
  | none=>
    have:=List.find?_eq_none.mp hf t ht
    simp at this
  | some t'=>
    have h1 : t'.1 = t.1:=by simpa using List.find?_some hf
    have h2:=List.mem_of_find?_eq_some hf
    have : t' = t:=by
      obtain ⟨i, hi, rfl⟩:=List.mem_iff_getElem.mp h2
      obtain ⟨k, hk, rfl⟩:=List.mem_iff_getElem.mp ht
      rw [List.pairwise_map] at h
      rcases Nat.lt_trichotomy i k with q | q | q
      . have:=List.pairwise_iff_getElem.mp h i k hi hk q; lia
      . subst q; rfl
      . have:=List.pairwise_iff_getElem.mp h k i hk hi q; lia
    rw [this]
theorem C6 {j : Nat} (hj : ∀ t ∈ ts, t.1 ≠ j) (free : Nat) : Bg p ts free j = if j = free then 1 else 0:=by
  unfold Bg
  rw [List.find?_eq_none.mpr λt ht=>by simpa using hj t ht]
theorem U5 (h : GI p K N e K ws ts) (hp : 0 < p) (hK : K <= 100) {free : Nat} (hf : free < K) : YB (free : Int) (ts.map (Qw (K + N))) (K : Int) p = .ok (YG K (Bg p ts free)):=by
  unfold YB
  simp only [Rs.okb]
  rw [CB hf (by lia), XV, Rs.okb]
  apply Ok.eq
  refine Ok.bind (Ok.forN (λi (g : List Int)=>∃ c : Nat -> Int, g = YG K c /\ (∀ t ∈ ts.take i, c t.1 = (-(t.2 free)) % p) /\ ∀ j, (∀ t ∈ ts.take i, t.1 ≠ j) -> c j = if j = free then 1 else 0) ⟨_, rfl, λt ht=>absurd ht (by simp), λj _=>rfl⟩ λi x g hx hg=>?_) λg hg=>?_
  . obtain ⟨c, rfl, h1, h2⟩ := hg
    rw [List.getElem?_map] at hx
    obtain ⟨t, ht, rfl⟩:=Option.map_eq_some_iff.mp hx
    have hmem:=List.mem_of_getElem? ht
    have hi:=(List.getElem?_eq_some_iff.mp ht).1
    have ht1:=(h.tl t hmem).2.2.1
    show Ok (((((atR (YG (K + N) t.2) (free : Int)).bind _).bind _)).bind λx18=>(QZ _ ((t.1 : Nat) : Int) x18).bind _) _
    rw [Uv (by lia), Rs.okb, Rs.okb, Ye hp, Rs.okb, Vk (by rw [Q4]; exact ht1), Rs.okb]
    refine ⟨_, rfl, λj=>if j = t.1 then (-(t.2 free)) % p else c j, ?_, λt' ht'=>?_, λj hj=>?_⟩
    . exact Vs ht1 (by rw [if_pos rfl]) λj _ hj=>by rw [if_neg hj]
    . rw [List.take_add_one, ht, List.mem_append] at ht'
      rcases ht' with q | q
      . have hne : t'.1 ≠ t.1:=by
          obtain ⟨k, hk, rfl⟩:=List.mem_iff_getElem.mp q
          rw [List.length_take] at hk
          have hinc:=h.inc
          rw [List.pairwise_map] at hinc
          have:=List.pairwise_iff_getElem.mp hinc k i (by lia) hi (by lia)
          have e2 : ts[i] = t:=by rw [List.getElem?_eq_getElem hi] at ht; exact Option.some.inj ht
          rw [List.getElem_take]
          rw [e2] at this
          lia
        show (if t'.1 = t.1 then _ else c t'.1) = _
        rw [if_neg hne]; exact h1 t' q
      . have : t' = t := by simpa using q
        subst this
        exact if_pos rfl
    . rw [List.take_add_one, ht] at hj
      have q1 : t.1 ≠ j:=hj t (by simp)
      show (if j = t.1 then _ else c j) = _
      rw [if_neg (λz=>q1 z.symm)]
      exact h2 j λt' ht'=>hj t' (by simp [ht'])
  . obtain ⟨c, rfl, h1, h2⟩ := hg
    rw [List.length_map, List.take_length] at h1 h2
    refine ⟨_, rfl, Qq λj hj=>?_⟩
    by_cases q : ∃ t ∈ ts, t.1 = j
    . obtain ⟨t, ht, rfl⟩ := q
      rw [h1 t ht, CW h.inc ht]
    . have q : ∀ t ∈ ts, t.1 ≠ j := λt ht z => q ⟨t, ht, z⟩
      rw [h2 j q, C6 q]
noncomputable def isT (ts : List (Nat × (Nat -> Int))) (j : Nat) : Bool:=ts.any λt=>decide (t.1 = j)
theorem Ih {j : Nat} : isT ts j = true ↔ ∃ t ∈ ts, t.1 = j:=by
  unfold isT
  rw [List.any_eq_true]
  simp
noncomputable def frs (K : Nat) (ts : List (Nat × (Nat -> Int))) : List Nat:=(List.range K).filter λj=>!(isT ts j)
theorem DA {D : List (List Int) × List (Int × Int)} {f : Int} {ms : List (Int × Int × Int × Int × Int)} (h : DG D) (hA : X2 D.1 = (K : Int)) (hK : K <= 100) (hp : PP p) (hf : ¬ f % p = 0) (e1 : ZI D = .ok ms) (hl : ms.length = N) (hN : N <= 100) (hm : ∀ m ∈ ms, MG (K : Int) m) (hE : (ms.map Z0).map (eqT K p f) = (List.range N).map λk=>YG K (e k)) (he : ∀ k, k < N -> Ran p K (e k)) :
    ∃ ws ts, GI p K N e K ws ts /\ Y3 D p f = .ok ((frs K ts).map (λ(j : Nat)=>(j : Int)), (frs K ts).map (λj=>YG K (Bg p ts j)), ts.map λt=>((t.1 : Int), YG N λk=>t.2 (K + k))):=by
  obtain ⟨p1, p2, _⟩:=id hp
  obtain ⟨told, et, ws, ts, rfl, hI⟩:=IG hp (e:=e) (ws0:=(List.range N).map (w0 K e)) hK hN (by simp; lia) (Bv (by lia) he)
  refine ⟨ws, ts, hI, ?_⟩
  have htl : ts.length <= 100:=by
    have h1 : (ts.map (·.1)).length <= (List.range K).length:=(List.nodup_iff_pairwise_ne.mpr (hI.inc.imp λh=>by lia)).length_le_of_subset λx hx=>by
      obtain ⟨t, ht, rfl⟩:=List.mem_map.mp hx
      exact List.mem_range.mpr (hI.tl t ht).2.2.1
    simp at h1
    lia
  unfold Y3
  simp only [Rs.okb]
  rw [Qf h.few h.short, hA, XV, Rs.okb, Qi h hA (by lia) hp hf e1 (by lia) hm, Rs.okb, hE, Hd hK hN, XV, Rs.okb, et, XV, Rs.okb]
  rw [show FD [] (ts.map (Qw (K + N))) = ts.map (Qw (K + N)) from CO (by rw [List.nil_append]; exact hI.nodup), Qz (by lia), Rs.okb]
  have hkey : ∀ j : Nat, (Zd (ts.map (Qw (K + N))) (j : Int)).isSome = isT ts j:=λj=>by
    rw [Bool.eq_iff_iff, C8, Ih, List.map_map, List.mem_map]
    constructor
    . rintro ⟨t, ht, q⟩
      exact ⟨t, ht, by have q : ((t.1 : Nat) : Int) = (j : Int):=q; lia⟩
    . rintro ⟨t, ht, rfl⟩
      exact ⟨t, ht, rfl⟩
  rw [Ul (p:=λx : Int=>!(isT ts x.toNat)) (h:=λx=>x) (sz (by simp; lia)) (λx hx=>?_) λ_ _ _=>rfl]
  . have e2 : (((List.range K).map λ(i : Nat)=>(i : Int)).filter λx : Int=>!(isT ts x.toNat)).map (λx=>x) = (frs K ts).map (λ(j : Nat)=>(j : Int)):=by
      rw [List.map_id', List.filter_map]
      congr 1
    rw [e2, Rs.okb]
    have hfl : (frs K ts).length <= 100:=by
      have:=List.length_filter_le (λj=>!(isT ts j)) (List.range K)
      unfold frs
      simp at this
      lia
    rw [Y2 (h:=λx : Int=>YG K (Bg p ts x.toNat)) (sz (by simp; lia)) λx hx=>?_, Rs.okb]
    . rw [Y2 (h := λx : Int × List Int => (x.1, x.2.drop K)) (sz (by simp; lia)) λx hx => ?_, Rs.okb]
      . have q1 : ((frs K ts).map (λ(j : Nat)=>(j : Int))).map (λx : Int=>YG K (Bg p ts x.toNat)) = (frs K ts).map (λj=>YG K (Bg p ts j)):=by
          rw [List.map_map]
          exact List.map_congr_left λj _=>by
            show YG K (Bg p ts ((j : Int)).toNat) = _
            rw [Int.toNat_natCast]
        have q2 : (ts.map (Qw (K + N))).map (λx : Int × List Int=>(x.1, x.2.drop K)) = ts.map λt=>((t.1 : Int), YG N λk=>t.2 (K + k)):=by
          rw [List.map_map]
          exact List.map_congr_left λt _=>by
            show ((t.1 : Int), (YG (K + N) t.2).drop K) = _
            have : (YG (K + N) t.2).drop K = YG N λk=>t.2 (K + k):=by
              unfold YG
              rw [List.range_add, List.map_append, List.drop_left' (by simp), List.map_map]
              rfl
            rw [this]
        rw [q1, q2]
      . obtain ⟨t, ht, rfl⟩ := List.mem_map.mp hx
        rw [show FQ (Qw (K + N) t).2 (some (K : Int)) none = (Qw (K + N) t).2.drop K from Bs _ (by show K <= (YG (K + N) t.2).length; rw [Q4]; lia)]
    . obtain ⟨j, hj, rfl⟩ := List.mem_map.mp hx
      have:=List.mem_range.mp (List.mem_filter.mp hj).1
      rw [U5 hI (by lia) hK this, XV, Int.toNat_natCast]
  . obtain ⟨i, hi, rfl⟩ := DC hx
    rw [hkey, Int.toNat_natCast]
end
theorem BL {K : Nat} {p f : Int} {L : List (Int × Int × Int)} : L.map (eqT K p f) = (List.range L.length).map λk=>YG K λj=>cfT f (L.getD k (0, 0, 0)) j % p:=by
  refine List.ext_getElem (by simp) λi h1 h2=>?_
  have hi : i < L.length:=by simpa using h1
  simp [eqT, YG, hi]
theorem Go {i : Int} (h : i.natAbs < 2 ^ 250) : i.natAbs.log2 < 1920:=by
  by_cases z : i.natAbs = 0
  . rw [z]; decide
  . exact (Nat.log2_lt z).mpr (Nat.lt_of_lt_of_le h (Nat.pow_le_pow_right (by decide) (by decide)))
theorem DU {γ ρ : Type} {c : γ -> Rs Bool} {f : γ -> Rs (Ctl ρ γ)} (P : γ -> Prop) (R : ρ -> Prop) (μ : γ -> Nat) (hs : ∀ g, P g -> ∃ b, c g = .ok b /\ (b = true -> (∃ g', f g = .ok (.nx g') /\ P g' /\ μ g' < μ g) ∨ ∃ x, f g = .ok (.ret x) /\ R x)) (n : Nat) : ∀ g : γ, P g -> μ g < n -> (∃ g', Z7 n g c f = .ok (.nx g') /\ P g' /\ c g' = .ok false) ∨ ∃ x, Z7 n g c f = .ok (.ret x) /\ R x:=by
  induction n with
  | zero=>intro g _ h; lia
  | succ n ih=>
    intro g hp h
    obtain ⟨b, eb, hb⟩:=hs g hp
    rw [Z7, eb, Rs.okb]
    cases b with
    | false=>exact .inl ⟨g, rfl, hp, eb⟩
    | true=>
      rcases hb rfl with ⟨g', e, p', l⟩ | ⟨x, e, hx⟩
      . rw [if_pos rfl, e, Rs.okb]
        exact ih g' p' (by lia)
      . rw [if_pos rfl, e, Rs.okb]
        exact .inr ⟨x, rfl, hx⟩
theorem Ha (p : Int) : Zi p = Yo p:=rfl
theorem Gg (p : Int) : ∃ b, Yo p = .ok b /\ (b = true -> PP p):=by
  unfold Yo
  simp only [Rs.okb]
  by_cases c1 : p < 2
  . rw [decide_eq_true c1]
    exact ⟨false, rfl, λz=>by cases z⟩
  by_cases c2 : 100000 < p
  . rw [decide_eq_false c1, decide_eq_true c2]
    exact ⟨false, rfl, λz=>by cases z⟩
  rw [decide_eq_false c1, decide_eq_false c2, show orR (Rs.ok false) (Rs.ok false) = .ok false from rfl, Rs.okb, if_neg (by decide)]
  rcases DU (c:=λg10 : Int=>(Rs.bind (Z5 g10 g10) λx14=>Rs.ok (decide (x14 <= p)))) (f:=λg10 : Int=>Rs.bind (Rs.bind (ZK p g10) λx18=>Rs.ok (decide (x18 = (0 : Int)))) λx20=>(if x20 = true then Rs.ok (Ctl.ret false) else ((λ(a23 : Int)=>Rs.ok (Ctl.nx a23)) (g10 + (1 : Int))))) (λg : Int=>(2 <= g /\ g <= 317) /\ ∀ a, 2 <= a -> a < g -> 0 < p % a) (λb=>b = false) (λg=>(p + 2 - g).toNat) (λg hg=>by
    obtain ⟨⟨g2, g3⟩, g4⟩:=hg
    refine ⟨decide (g * g <= p), by rw [Yz (by lia) (by lia), Rs.okb], λc=>?_⟩
    have c : g * g <= p:=of_decide_eq_true c
    have c1 : g ≠ 317:=λz=>by subst z; lia
    have c2 : 2 * g <= g * g:=Int.mul_le_mul_of_nonneg_right g2 (by lia)
    have c3:=Int.emod_nonneg p (show g ≠ 0 by lia)
    rw [Ye (by lia), Rs.okb, Rs.okb]
    by_cases q : p % g = 0
    . rw [decide_eq_true q]
      exact .inr ⟨false, rfl, rfl⟩
    . rw [decide_eq_false q, if_neg (by decide)]
      refine .inl ⟨g + 1, rfl, ⟨⟨by lia, by lia⟩, λa h1 h2=>?_⟩, by lia⟩
      by_cases z : a = g
      . subst z; lia
      . exact g4 a h1 (by lia)) (p.natAbs + 2) 2 ⟨⟨by decide, by decide⟩, λa _ _=>by lia⟩ (by lia) with ⟨g, e, ⟨⟨g2, g3⟩, g4⟩, hc⟩ | ⟨x, e, rfl⟩
  . rw [e, Rs.okb, Uf]
    refine ⟨true, rfl, λ_=>?_⟩
    rw [Yz (by lia) (by lia), Rs.okb] at hc
    have hc : ¬ g * g <= p:=of_decide_eq_false (Rs.ok.inj hc)
    have hg : Fj p = true:=by
      unfold Fj
      rw [List.all_eq_true]
      intro b hb
      obtain ⟨a, ha, rfl⟩:=List.mem_map.mp hb
      obtain ⟨h1, h2⟩:=List.mem_filter.mp ha
      have h1:=IR.mp h1
      have h2 : a * a <= p:=of_decide_eq_true h2
      refine decide_eq_true (g4 a h1.1 (Classical.byContradiction λz=>hc ?_))
      have : g * g <= a * a:=Int.mul_le_mul (by lia) (by lia) (by lia) (by lia)
      lia
    refine ⟨by lia, Classical.byContradiction λz=>?_, hg⟩
    have key : ∀ n : Fin 9, Fj (99992 + (n.val : Int)) = false:=by decide +kernel
    have:=key ⟨(p - 99992).toNat, by lia⟩
    rw [show 99992 + (((p - 99992).toNat : Nat) : Int) = p by lia, hg] at this
    cases this
  . rw [e, Rs.okb]
    exact ⟨false, rfl, λz=>by cases z⟩
section
variable {D : List (List Int) × List (Int × Int)} {p f : Int} {ec : Exc}
theorem KM (h : Xx p f = .err ec) : X4 D p f = .err ec:=by
  unfold X4
  simp only [Rs.okb]
  rw [h]; rfl
theorem DK (h : Xx p f = .err ec) {c : List Int} : Qb D p f c = .err ec:=by
  unfold Qb
  simp only [Rs.okb]
  rw [KM h]; rfl
theorem V1 (d : DG D) (h : Xx p f = .err ec) : Y3 D p f = .err ec:=by
  unfold Y3
  simp only [Rs.okb]
  rw [Qf d.few d.short, XV, Rs.okb, KM h]; rfl
theorem B9 (d : DG D) (h : Xx p f = .err ec) : XY D p f = .err ec:=by
  unfold XY
  simp only [Rs.okb]
  rw [V1 d h]; rfl
theorem UL (d : DG D) {K : Nat} (hA : X2 D.1 = (K : Int)) (hK : K <= 900) : ((chk (([(0 : Int)]).length <= sizeLine) (Rs.ok [(0 : Int)])).bind λx18=>(noE (QH D)).bind λx19=>Fo x18 x19) = .ok ((List.range K).map λ_=>0):=by
  rw [Xy (sz (by simp)), Rs.okb, BO d.short, ← d.count, hA, XV, Rs.okb, Mg hK]
theorem GY (d : DG D) {K : Nat} (hA : X2 D.1 = (K : Int)) (hK : K <= 900) (h : Xx p f = .err ec) (a : Int) : Qe a D p f = .err ec:=by
  unfold Qe
  simp only [Rs.okb]
  by_cases c0 : a = 0
  . rw [if_pos (decide_eq_true c0), KM h]; rfl
  rw [if_neg (by rw [decide_eq_true_eq]; exact c0)]
  by_cases c1 : a = 1
  . rw [if_pos (decide_eq_true c1), UL d hA hK, Rs.okb]
    exact DK h
  rw [if_neg (by rw [decide_eq_true_eq]; exact c1)]
  by_cases c2 : a = 2
  . rw [if_pos (decide_eq_true c2), V1 d h]; rfl
  rw [if_neg (by rw [decide_eq_true_eq]; exact c2), B9 d h]; rfl
theorem Hz (hp : PP p) : ∀ (xs : List Int) (g : Int), ∃ v, forN xs g (λg9 _=>(Rs.bind (Z5 g9 p) λa15=>(Rs.ok a15))) = .ok v:=by
  obtain ⟨p1, p2, _⟩:=hp
  intro xs
  induction xs with
  | nil=>intro g; exact ⟨g, rfl⟩
  | cons x xs ih=>
    intro g
    obtain ⟨v, hv⟩:=ih (g * p)
    exact ⟨v, by rw [forN, QI (by lia) (by lia), Rs.okb, Rs.okb]; exact hv⟩
theorem H9 (d : DG D) {K : Nat} (hA : X2 D.1 = (K : Int)) (hK : K <= 100) (hD : D.2.length <= 100) (hp : PP p) (hf : ¬ f % p = 0) (a : Int) : Qe a D p f = .ok true:=by
  obtain ⟨p1, p2, _⟩:=id hp
  obtain ⟨ms, e1, e3, e4⟩:=CM d
  rw [hA] at e4
  have eq:=Qi d hA (by lia) hp hf e1 (by lia) e4
  have hE:=BL (K:=K) (p:=p) (f:=f) (L:=ms.map Z0)
  rw [List.length_map] at hE
  obtain ⟨ws, ts, hI, es⟩:=DA (e:=λk j=>cfT f ((ms.map Z0).getD k (0, 0, 0)) j % p) d hA (by lia) hp hf e1 rfl (by lia) e4 hE λk _ j _=>Gi (by lia) _
  unfold Qe
  simp only [Rs.okb]
  by_cases c0 : a = 0
  . rw [if_pos (decide_eq_true c0), eq, Rs.okb]
    simp only [List.length_map, e3, decide_true]
    rfl
  rw [if_neg (by rw [decide_eq_true_eq]; exact c0)]
  by_cases c1 : a = 1
  . rw [if_pos (decide_eq_true c1), UL d hA (by lia), Rs.okb, B5 d hA (by lia) hp hf e1 (by lia) e4]
    congr 1
    rw [List.all_eq_true]
    intro l _
    have : dot l ((List.range K).map λ_=>0) = 0:=by
      unfold dot
      have key : ∀ (c : List Int), (∀ x ∈ c, x = 0) -> ∀ l : List Int, ((l.zip c).map λa=>a.1 * a.2).sum = 0:=by
        intro c
        induction c with
        | nil=>intro _ l; cases l <;> rfl
        | cons x c ih=>
          intro hx l
          cases l with
          | nil=>rfl
          | cons y l=>rw [List.zip_cons_cons, List.map_cons, List.sum_cons, ih (λz hz=>hx z (.tail _ hz)), hx x (.head _)]; show y * 0 + 0 = (0 : Int); lia
      refine key _ (λx hx=>?_) l
      obtain ⟨_, _, rfl⟩:=List.mem_map.mp hx
      rfl
    rw [this]
    exact decide_eq_true (Int.zero_emod p)
  rw [if_neg (by rw [decide_eq_true_eq]; exact c1)]
  by_cases c2 : a = 2
  . rw [if_pos (decide_eq_true c2), es]; rfl
  rw [if_neg (by rw [decide_eq_true_eq]; exact c2)]
  obtain ⟨v, hv⟩:=Hz hp ((frs K ts).map (λ(j : Nat)=>(j : Int))) 1
  have hm : XY D p f = .ok v:=by
    unfold XY
    simp only [Rs.okb]
    rw [es]
    simp only [Rs.okb]
    rw [hv, Rs.okb]
  rw [hm, es]
  simp only [Rs.okb]
  rw [hv]
  simp only [Rs.okb, decide_true]
  rfl
end
theorem Hr {a : Int} {D : List (List Int) × List (Int × Int)} {p f : Int} (h : Qe a D p f = .ok true) : Z8 a D p f = .ok (.inr ("yes", true)):=by
  unfold Z8
  simp only [Rs.okb]
  rw [h]
  rfl
theorem EN {a : Int} {D : List (List Int) × List (Int × Int)} {p f : Int} (h : Qe a D p f = .err ⟨"NoPrime", .non⟩) : Z8 a D p f = .ok (.inl ("no", true, false)):=by
  unfold Z8
  simp only [Rs.okb]
  rw [h]
  show chk (cau XB "NoPrime" "PlaitError" = true) _ = _
  rw [Xy (by decide +kernel)]
  rfl
theorem Hw {a : Int} {D : List (List Int) × List (Int × Int)} {p f : Int} (h : Qe a D p f = .err ⟨"NoUnit", .non⟩) : Z8 a D p f = .ok (.inl ("no", false, true)):=by
  unfold Z8
  simp only [Rs.okb]
  rw [h]
  show chk (cau XB "NoUnit" "PlaitError" = true) _ = _
  rw [Xy (by decide +kernel)]
  rfl
theorem DS {p f : Int} (h : Yo p = .ok false) (hb : p.natAbs < 2 ^ 250) : Xx p f = .err ⟨"NoPrime", .non⟩:=by
  unfold Xx
  simp only [Rs.okb]
  rw [h, XV]
  simp only [Rs.okb]
  rw [if_pos (by decide), Xy (Go hb), Xy (by decide +kernel)]
  rfl
theorem F7 {p f : Int} (h : Yo p = .ok true) (hp : 0 < p) (hf : f % p = 0) (hb : p.natAbs < 2 ^ 250) (hc : f.natAbs < 2 ^ 250) : Xx p f = .err ⟨"NoUnit", .non⟩:=by
  unfold Xx
  simp only [Rs.okb]
  rw [h, XV]
  simp only [Rs.okb]
  rw [if_neg (by decide), Ye hp]
  simp only [Rs.okb]
  rw [if_pos (decide_eq_true hf), Xy (Go hb), Xy (Go hc)]
  rfl
theorem By (ns : List Int) (_ : ns.length <= 63) : K7 ns = .ok true:=by
  unfold K7
  simp only [Rs.okb]
  obtain ⟨D, eD, hD⟩:=BI ns (p:=0) (by decide) (most:=4) (by decide)
  have eD : QG ns 0 4 = .ok D:=eD
  have d:=DG.of hD (by decide)
  obtain ⟨K, hA⟩ : ∃ K : Nat, X2 D.1 = (K : Int):=⟨(X2 D.1).toNat, by have:=Vx D.1; lia⟩
  have hK : K <= 16:=by
    have h1:=d.count
    have h2:=hD.le
    have h3:=hD.few
    have h4 : JF D.1 <= D.1.length:=Bw D.1
    lia
  have hDl:=hD.le
  rw [eD, XV, Rs.okb, Ka (b:=56) (by decide) (by decide) (by decide) (by decide), Rs.okb, Ka (b:=50) (by decide) (by decide) (by decide) (by decide)]
  simp only [Rs.okb]
  rw [Xy (sz (by decide)), Rs.okb]
  obtain ⟨r, er, hrl, hr⟩:=EB ns (p:=1) (by decide) [16, 300, 10 ^ (56 : Int).toNat, 4, 10 ^ (50 : Int).toNat, 5, 100000] (by decide) (by decide +kernel)
  have hrl : r.length = 7:=hrl
  rw [er, XV, Rs.okb]
  have v0:=hr 0 r[0] 16 (by simp) rfl
  have v1:=hr 1 r[1] 300 (by simp) rfl
  have v2:=hr 2 r[2] _ (by simp) rfl
  have v3:=hr 3 r[3] 4 (by simp) rfl
  have v4:=hr 4 r[4] _ (by simp) rfl
  have v5:=hr 5 r[5] 5 (by simp) rfl
  have v6:=hr 6 r[6] 100000 (by simp) rfl
  have w2 : r[2] < 2 ^ 200:=Int.lt_trans v2.2 (by decide +kernel)
  have w4 : r[4] < 2 ^ 200:=Int.lt_trans v4.2 (by decide +kernel)
  have u2:=v2.1
  have u4:=v4.1
  clear v2 v4
  rw [YA (r:=r) (k:=0) (n:=0) rfl (by lia), YA (r:=r) (k:=1) (n:=1) rfl (by lia), YA (r:=r) (k:=2) (n:=2) rfl (by lia), YA (r:=r) (k:=3) (n:=3) rfl (by lia), YA (r:=r) (k:=4) (n:=4) rfl (by lia), YA (r:=r) (k:=5) (n:=5) rfl (by lia), YA (r:=r) (k:=6) (n:=6) rfl (by lia)]
  simp only [Rs.okb]
  generalize r[0] = r0 at *
  generalize r[1] = r1 at *
  generalize r[2] = r2 at *
  generalize r[3] = r3 at *
  generalize r[4] = r4 at *
  generalize r[5] = r5 at *
  generalize r[6] = r6 at *
  rw [Xy (sz (by simp)), Rs.okb, Xy (sz (by simp)), Rs.okb]
  rw [show FY [0, 1, 2, 3, 4, 9, 97, 99991, 100003, 65537, 99999, r1] [-r1, 100001 + r2, r6 + 1, 1 + r1] = .ok ([0, 1, 2, 3, 4, 9, 97, 99991, 100003, 65537, 99999, r1] ++ [-r1, 100001 + r2, r6 + 1, 1 + r1]) from Xy (sz (by simp)), Rs.okb]
  obtain ⟨p, ep, mp⟩:=Et (as:=[0, 1, 2, 3, 4, 9, 97, 99991, 100003, 65537, 99999, r1] ++ [-r1, 100001 + r2, r6 + 1, 1 + r1]) (i:=r0) v0.1 (by simpa using v0.2)
  have bp : p.natAbs < 2 ^ 201:=by
    simp only [List.cons_append, List.nil_append, List.mem_cons, List.not_mem_nil, or_false] at mp
    omega
  rw [ep, Rs.okb, QI (a:=p) (b:=r1 - 150) (by lia) (by lia)]
  simp only [Rs.okb]
  rw [Xy (sz (by simp)), Rs.okb]
  obtain ⟨f, ef, mf⟩:=Et (as:=[0, r4, -r4, p * (r1 - 150), p + 1]) (i:=r5) v5.1 (by simpa using v5.2)
  have bf : f.natAbs < 2 ^ 250:=by
    have h1 : (p * (r1 - 150)).natAbs <= 2 ^ 201 * 150:=by
      rw [Int.natAbs_mul]
      exact Nat.mul_le_mul (by lia) (by lia)
    simp only [List.mem_cons, List.not_mem_nil, or_false] at mf
    generalize p * (r1 - 150) = z at *
    omega
  have bp : p.natAbs < 2 ^ 250:=Nat.lt_trans bp (by decide +kernel)
  rw [ef, Rs.okb, Ha]
  rw [show GZ 0 8 = .ok ((List.range 8).map λ(i : Nat)=>(i : Int)) from Qz (n:=8) (by decide)]
  simp only [Rs.okb]
  have fin : ∀ {u : (Str × Bool × Bool) ⊕ (Str × Bool)}, (∀ a, Z8 a D p f = .ok u) -> (Rs.bind (F0 ((List.range 8).map λ(i : Nat)=>(i : Int)) () (λ(g162 : Unit) (a164 : Int)=>(Rs.bind (Rs.bind (ZK (r3 + a164) 4) λx177=>(Rs.bind (noE (Vf D)) λx178=>(noE (Z8 x177 x178 p f)))) λa166=>(if (!(decide (a166 = u))) = true then (Rs.ok (Ctl.ret false)) else (Rs.ok (Ctl.nx ())))))) (Qu λ(g186 : Unit)=>(Rs.ok true))) = .ok true:=by
    intro u hu
    rw [Gq λx hx=>?_, Rs.okb, Uf]
    rw [Ye (by decide), Rs.okb, Ib d.few, XV, Rs.okb, hu, XV, Rs.okb, decide_eq_true (rfl : u = u)]
    rfl
  obtain ⟨b, eb, hb⟩:=Gg p
  rw [eb, XV]
  simp only [Rs.okb]
  cases b with
  | false=>
    rw [if_pos (by decide), Rs.okb]
    exact fin λa=>EN (GY d hA (by lia) (DS eb bp) a)
  | true=>
    have hp:=hb rfl
    obtain ⟨p1, p2, _⟩:=id hp
    rw [if_neg (by decide), Ye (by lia)]
    simp only [Rs.okb]
    by_cases q : f % p = 0
    . rw [if_pos (decide_eq_true q)]
      simp only [Rs.okb]
      exact fin λa=>Hw (GY d hA (by lia) (F7 eb (by lia) q bp bf) a)
    . rw [if_neg (by rw [decide_eq_true_eq]; exact q)]
      simp only [Rs.okb]
      exact fin λa=>Hr (H9 d hA (by lia) (by lia) hp q a)
noncomputable def top (i : Nat) : Stmt:=PySem.Challenge.pw_plait_k86_no_prime_no_unit.main.body.getD i (.Pass ⟨0, 0, 0, 0⟩)
noncomputable abbrev Jw : Stmt:=top 6
noncomputable abbrev JA : Stmt:=top 8
noncomputable abbrev Yw : Stmt:=top 9
noncomputable abbrev XX : Stmt:=top 10
noncomputable abbrev X9 : Stmt:=top 11
noncomputable abbrev Qd : Stmt:=top 12
noncomputable abbrev Jm : Stmt:=top 14
noncomputable abbrev X8 : Stmt:=top 17
noncomputable abbrev Y0 : Stmt:=top 18
noncomputable abbrev Yu : Stmt:=top 19
noncomputable abbrev ZY : Stmt:=top 20
noncomputable abbrev Zt : Stmt:=top 21
noncomputable abbrev Y5 : Stmt:=top 22
noncomputable abbrev XW : Stmt:=top 23
noncomputable abbrev Jv : Stmt:=top 24
noncomputable abbrev Yn : Stmt:=top 25
noncomputable abbrev ZT : Stmt:=top 26
noncomputable abbrev Y6 : Stmt:=top 27
noncomputable abbrev Ya : Stmt:=top 28
noncomputable abbrev Yb : Stmt:=top 29
noncomputable abbrev X0 : Stmt:=top 30
noncomputable abbrev Ju : Stmt:=top 32
noncomputable abbrev UN : Stmt:=top 33
noncomputable abbrev KD : Stmt:=top 34
noncomputable abbrev Qh : Stmt:=top 35
noncomputable abbrev Uw : Stmt:=top 36
noncomputable abbrev Zk : Stmt:=top 37
noncomputable abbrev ZU : Stmt:=top 38
noncomputable abbrev Q3 : Stmt:=top 39
noncomputable abbrev Y1 : Stmt:=top 40
noncomputable abbrev ZS : Stmt:=top 41
noncomputable abbrev Yt : Stmt:=top 42
noncomputable abbrev Jt : Stmt:=top 43
noncomputable abbrev Jy : Stmt:=top 44
noncomputable abbrev Up : Stmt:=top 45
structure Blt (mg : Str -> Option Value) : Prop where
  b_all : mg "all" = none
  b_bool : mg "bool" = none
  b_dict : mg "dict" = none
  b_enumerate : mg "enumerate" = none
  b_int : mg "int" = none
  b_isinstance : mg "isinstance" = none
  b_len : mg "len" = none
  b_list : mg "list" = none
  b_max : mg "max" = none
  b_min : mg "min" = none
  b_range : mg "range" = none
  b_sum : mg "sum" = none
  b_tuple : mg "tuple" = none
  b_zip : mg "zip" = none
  c_MOST_PRIME : ∃ u, mg "MOST_PRIME" = some u /\ Yi (.int 100000) u
section
variable {P : Program} {w : World} {K : PySem.W.Frag} {mg : Str -> Option Value} {base : Heap}
theorem K5 : FnScope ["drawing", "passage", "at", "walk"] ["drawing", "passage"] (Xf Jw):=⟨rfl, rfl, rfl, by decide +kernel, rfl, by decide +kernel, by decide +kernel⟩
theorem Hi (D : Def K mg "spot" Jw ["drawing", "passage"])  (Y : Ecs XB K mg) (Z : Blt mg) : FnX P w K mg base 1 "spot" ["drawing", "passage"] (Lg mg (rP2 (rV (rV Xa)) (rV (rP2 Xa Xa))) Xa (oF (rP2 Xa Xa)) Vr K):=by
  refine QV D K5 (λvs H Q E h=>?_) (λf cdv A outer s H vs Q E hr h=>?_)
  . obtain ⟨v_0, v_1, a_0, a_1, rfl, _⟩:=h; rfl
  obtain ⟨v_0, v_1, a_0, a_1, rfl, h_0, h_1, hz⟩:=h
  obtain ⟨C_NoCrossing, h_NoCrossing, q_NoCrossing⟩:=Y.adr "NoCrossing" (.tail _ (.head _))
  replace q_NoCrossing:=q_NoCrossing (by decide)
  have hu:=hu8 hr
  have hu1:=YI hr
  refine ⟨_, (Xd (PS.nox (YZ PassesOwn.never rfl (Ck rfl Z.b_enumerate (XO (YQ K rfl) (pv 0) Xg (λ_ _=>rfl))) (VU rfl (XQ (Xp (i:=2) K5.nd rfl (Or.inl rfl)) (XQ (Xp (i:=3) K5.nd rfl (Or.inl rfl)) ZJ)))
      (Xd (Zu (XR Cy (pv 1) (pv 3) rfl)
        (Xd (XL (Zr (Xc (pv 2) (Xc (Li (K:=K) rfl PySem.F.plainAttrs_list PySem.F.slot_list_index PySem.F.type_list_index (Dc K rfl) (pv 3) (Xc (pv 1) Xh)) Xh))))
        Xi)
        Xi)
      Xi)))
    (Xd (V7 CG rfl q_NoCrossing rfl h_NoCrossing (Xc (Mo (F2 JB (Km (pv 1) Dn))) Xh))
    Xi)), ?_⟩
  refine Jp (S:=(SC.add (SC.add SC.nil K (rP2 (rV (rV Xa)) (rV (rP2 Xa Xa))) v_0 a_0) K Xa v_1 a_1)) (σ:=[some v_0, some v_1, none, none]) 0 ?_ (SC.i (SC.i SC.t h_0) h_1) hz rfl
  unfold Vr
  exact (Cu (K:=K) (J:=({ oo:=λx3=>[], ss:=λx3=>[some v_0, some v_1, x3.1, x3.2], sc:=λg4 x3=>(SC.add (SC.add SC.nil K (rP2 (rV (rV Xa)) (rV (rP2 Xa Xa))) v_0 a_0) K Xa v_1 a_1) } : Jn (Unit) (Option V × Option V))) (λ_=>tg2 2 3) ((none), (none)) () (KB (VA (Xk (r:=(rP2 (rV (rV Xa)) (rV (rP2 Xa Xa)))) 0 rfl (λ_ s=>s.l.r)))) rfl rfl (λ_ s=>(SC.i (SC.i SC.t s.l.r) s.r)) (λg5 x6 a7 v8=>(Ug (XC (K:=K) (Ls (Xb (r:=Xa) 1 rfl (λ_ s=>s.l.l.r)) (Xb (r:=(rV Xa)) 3 rfl (λ_ s=>s.r)))) (XJ (EvS.ev (JJ (Xk (r:=Xa) 2 rfl (λ_ s=>s.l.r)) (EvB.sh (Cl (Xb (r:=(rV Xa)) 3 rfl (λ_ s=>s.r)) (Xb (r:=Xa) 1 rfl (λ_ s=>s.l.l.r))))))) (Gs (XE (J:=_) ((some v8.1), (some v8.2)) () rfl rfl (λ_ s=>(SC.i (SC.i SC.t s.l.l.l.r) s.l.l.r)))))) λg18 x19=>(UA h_NoCrossing (ES (K1 (Vi (K:=K) (Xb (r:=Xa) 1 rfl (λ_ s=>s.r)) KY)))))
theorem Qj : FnScope ["walk", "unders"] ["walk"] (Xf XX):=⟨rfl, rfl, rfl, by decide +kernel, rfl, by decide +kernel, by decide +kernel⟩
theorem Vg (D : Def K mg "arcs_of_walk" XX ["walk"])  (Y : Ecs XB K mg) (Z : Blt mg) : Fn P w K mg base 1 "arcs_of_walk" ["walk"] (sp1 (rV Xa) (oF Xa) XM K):=by
  refine Zm D Qj (λvs H Q E h=>?_) (λf cdv A outer s H vs Q E hr h=>?_)
  . obtain ⟨v_0, a_0, b, rfl, _⟩:=h; rfl
  obtain ⟨v_0, a_0, b, rfl, h_0, hm, q⟩:=h
  have hu:=hu8 hr
  have hu1:=YI hr
  refine ⟨_, (Xd (Q8 1 (Xf XX) ["walk", "unders"] ["passage"] [] rfl Qj.nd rfl rfl (XT (K:=K) rfl (pv 0)) (Zg (by decide)) (λcl C s H ex E=>⟨Xp (i:=0) (show List.Nodup (["passage"] : List Str) by decide +kernel) rfl (Or.inl rfl), (UJ (XR Ke (pv 0) Xg (X5 _))), (pv 0)⟩))
    (Xd (XL (XF (U4 rfl) rfl Z.b_max PyProof.Rows.boot_max (Xc (XF (Xu K rfl) rfl Z.b_len PySem.boot_len (Xc (pv 1) Xh)) (Xc Xg Xh))))
    Xi)), ?_⟩
  refine Zj (S:=(SC.add SC.nil K (rV Xa) v_0 a_0)) (σ:=[some v_0, none]) 0 ?_ (SC.i SC.t h_0) hm q rfl
  unfold XM
  exact (Xs (K:=K) (r:=(rV Xa)) 1 (Ev.sh (JP (λ_=>tg1 0) (XH (Xk (r:=(rV Xa)) 0 rfl (λ_ s=>s.r))) (λC3 a4 v5=>(XC (K:=K) (Jq (Xb (r:=Xa) 0 rfl (λ_ s=>s.r)) (Xe 0)))) (λC3 a4 v5=>(EvS.ev (Xk (r:=Xa) 0 rfl (λ_ s=>s.r)))))) λa1 v2=>(XJ (EvS.ev (EvB.sh (DX (YY (Xb (r:=(rV Xa)) 1 rfl (λ_ s=>s.r))) (Xe 1))))))
theorem Yq : FnScope ["walk", "first", "number", "unders", "ways", "passage"] ["walk", "first"] (Xf X9):=⟨rfl, rfl, rfl, by decide +kernel, rfl, by decide +kernel, by decide +kernel⟩
theorem Vw (D : Def K mg "arcs_of_ways" X9 ["walk", "first"]) (g_arcs_of_walk : Fn P w K mg base 1 "arcs_of_walk" ["walk"] (sp1 (rV Xa) (oF Xa) XM K)) (Y : Ecs XB K mg) (Z : Blt mg) : Fn P w K mg base 2 "arcs_of_ways" ["walk", "first"] (sp2 (rV Xa) Xa (oL (oF Xa)) YD K):=by
  refine Zm D Yq (λvs H Q E h=>?_) (λf cdv A outer s H vs Q E hr h=>?_)
  . obtain ⟨v_0, v_1, a_0, a_1, b, rfl, _⟩:=h; rfl
  obtain ⟨v_0, v_1, a_0, a_1, b, rfl, h_0, h_1, hm, q⟩:=h
  have hu:=hu8 hr
  have hu1:=YI hr
  refine ⟨_, (Xd (Xl (i:=2) Yq.nd rfl (Or.inl rfl) (YO g_arcs_of_walk hr (by decide) (Xc (pv 0) Xh)))
    (Xd (Xl (i:=3) Yq.nd rfl (Or.inl rfl) Xg)
    (Xd (Xl (i:=4) Yq.nd rfl (Or.inl rfl) (Ys (Xc (pv 1) Xh)))
    (Xd (YZ PassesOwn.never rfl (XT (K:=K) rfl (Uk (Ux K rfl) (pv 0) KN (Gh (KJ Vl Xg)))) (Xp (i:=5) Yq.nd rfl (Or.inl rfl))
      (Xd (Zu (XR Ke (pv 5) Xg (X5 _))
        (Xd (Kk (i:=3) Yq.nd rfl (Or.inl rfl) Xg Kz)
        Xi)
        Xi)
      (Xd (YR (Z9 PySem.F.plainAttrs_list PySem.F.slot_list_append PySem.F.type_list_append Yk (pv 4) (Xc (Xo Yh (pv 1) (Xo Yj (pv 3) (pv 2))) Xh)))
      Xi)))
    (Xd (XL (pv 4))
    Xi))))), ?_⟩
  refine Zj (S:=(SC.add (SC.add SC.nil K (rV Xa) v_0 a_0) K Xa v_1 a_1)) (σ:=[some v_0, some v_1, none, none, none, none]) 1 ?_ (SC.i (SC.i SC.t h_0) h_1) hm q rfl
  unfold YD
  exact (Xs (K:=K) (r:=Xa) 2 (EvB.sh (Ev.toB (YT (Xb (r:=(rV Xa)) 0 rfl (λ_ s=>s.l.r))))) λa1 v2=>(Xs (K:=K) (r:=Xa) 3 (EvB.sh (Xe 0)) λa5 v6=>(X1 (K:=K) (o:=(oL (oF Xa))) 4 0 (ZN (Xn (Xk (r:=Xa) 1 rfl (λ_ s=>s.l.l.r)) Zf)) (Nat.le_of_ble_eq_true rfl) λa7 v8 C9=>(Ze (K:=K) (J:=({ oo:=λx18=>[x18.2.2.2], ss:=λx18=>[some v_0, some v_1, some v2, some x18.2.1, some x18.2.2.1, x18.1], sc:=λg19 x18=>(SC.addO (SC.add (SC.add (SC.add (SC.add SC.nil K (rV Xa) v_0 a_0) K Xa v_1 a_1) K Xa v2 a1) K Xa x18.2.1 g19.1) K (oL (oF Xa)) x18.2.2.1 g19.2 x18.2.2.2) } : Jn (Int × (List Int)) (Option V × V × V × List XG))) (λ_=>tg1 5) ((none), v6, v8, C9) (a5, a7) (XH (Ev.sh (GL (EvS.ls (Xk (r:=(rV Xa)) 0 rfl (λ_ s=>s.l.l.l.l.r))) UE (Ui (K:=K) (QC (Xe 1)))))) rfl rfl (λ_ s=>(SC.i (SC.i (SC.i (SC.i (SC.i SC.t s.l.l.l.l.r) s.l.l.l.r) s.l.l.r) s.l.r) s.r)) (λg20 x21 a22 v23=>(Zo (J:=({ oo:=λx27=>[x21.2.2.2], ss:=λx27=>[some v_0, some v_1, some v2, some x27, some x21.2.2.1, some v23], sc:=λg28 x27=>(SC.add (SC.add (SC.addO (SC.add (SC.add (SC.add SC.nil K (rV Xa) v_0 a_0) K Xa v_1 a_1) K Xa v2 a1) K (oL (oF Xa)) x21.2.2.1 g20.2 x21.2.2.2) K Xa v23 a22) K Xa x27 g28) } : Jn (Int) (V))) (Z3 (Fd:=FNd ({ oo:=λx27=>[x21.2.2.2], ss:=λx27=>[some v_0, some v_1, some v2, some x27, some x21.2.2.1, some v23], sc:=λg28 x27=>(SC.add (SC.add (SC.addO (SC.add (SC.add (SC.add SC.nil K (rV Xa) v_0 a_0) K Xa v_1 a_1) K Xa v2 a1) K (oL (oF Xa)) x21.2.2.1 g20.2 x21.2.2.2) K Xa v23 a22) K Xa x27 g28) } : Jn (Int) (V))) (XC (K:=K) (Jq (Xb (r:=Xa) 5 rfl (λ_ s=>s.r)) (Xe 0))) (Cb (K:=K) (f:=λa31=>(Rs.ok (a31))) 3 rfl (λ_ s=>s.l.l.r) (Xe 1) λa31 v30=>(XE (J:=_) (v30) (a31) rfl rfl (λ_ s=>(SC.i (SC.i (SC.i (SC.i (SC.i (SC.i SC.t s.l.l.l.l.l.l.r) s.l.l.l.l.l.r) s.l.l.l.l.r) s.l.l.r) s.l.r) s.r)))) (XE (J:=_) (x21.2.1) (g20.1) rfl rfl (λ_ s=>(SC.i (SC.i (SC.i (SC.i (SC.i (SC.i SC.t s.l.l.l.l.l.r) s.l.l.l.l.r) s.l.l.l.r) s.l.r) s.r) s.l.l.r)))) λg33 x32=>(Z4 (K:=K) (o:=(oF Xa)) (f:=λa40=>(Rs.ok (g33, a40))) 4 0 rfl rfl rfl (λ_ s=>s.l.l.r) (EvS.ev (EvB.sh (XS (Xb (r:=Xa) 1 rfl (λ_ s=>s.l.l.l.l.r)) (XU (Xb (r:=Xa) 3 rfl (λ_ s=>s.r)) (Xb (r:=Xa) 2 rfl (λ_ s=>s.l.l.l.r)))))) λa38 C39=>(XE (J:=_) ((some v23), x32, x21.2.2.1, C39) (g33, (g20.2 ++ [a38])) rfl rfl (λ_ s=>(SC.i (SC.i (SC.i (SC.i (SC.i SC.t s.l.l.l.l.l.l.r) s.l.l.l.l.l.r) s.l.l.l.l.r) s.l.r) s.r)))))) λg41 x42=>(XJ (YK (o:=(oL (oF Xa))) 4 0 rfl rfl (λ_ s=>s.r)))))))
theorem Vc : FnScope ["drawing", "told", "first", "walk"] ["drawing"] (Xf JA):=⟨rfl, rfl, rfl, by decide +kernel, rfl, by decide +kernel, by decide +kernel⟩
theorem HD (D : Def K mg "arcs" JA ["drawing"]) (g_arcs_of_walk : Fn P w K mg base 1 "arcs_of_walk" ["walk"] (sp1 (rV Xa) (oF Xa) XM K)) (g_arcs_of_ways : Fn P w K mg base 2 "arcs_of_ways" ["walk", "first"] (sp2 (rV Xa) Xa (oL (oF Xa)) YD K)) (Y : Ecs XB K mg) (Z : Blt mg) : Fn P w K mg base 3 "arcs" ["drawing"] (sp1 (rP2 (rV (rV Xa)) (rV (rP2 Xa Xa))) (oL (oL (oF Xa))) VO K):=by
  refine Zm D Vc (λvs H Q E h=>?_) (λf cdv A outer s H vs Q E hr h=>?_)
  . obtain ⟨v_0, a_0, b, rfl, _⟩:=h; rfl
  obtain ⟨v_0, a_0, b, rfl, h_0, hm, q⟩:=h
  have hu:=hu8 hr
  have hu1:=YI hr
  refine ⟨_, (Xd (Xl (i:=1) Vc.nd rfl (Or.inl rfl) (Ys Xh))
    (Xd (Xl (i:=2) Vc.nd rfl (Or.inl rfl) Xg)
    (Xd (YZ PassesOwn.never rfl (XT (K:=K) rfl (XO (YQ K rfl) (pv 0) Xg (λ_ _=>rfl))) (Xp (i:=3) Vc.nd rfl (Or.inl rfl))
      (Xd (YR (Z9 PySem.F.plainAttrs_list PySem.F.slot_list_append PySem.F.type_list_append Yk (pv 1) (Xc (YO g_arcs_of_ways hr (by decide) (Xc (pv 3) (Xc (pv 2) Xh))) Xh)))
      (Xd (Kk (i:=2) Vc.nd rfl (Or.inl rfl) (YO g_arcs_of_walk hr (by decide) (Xc (pv 3) Xh)) Kz)
      Xi)))
    (Xd (XL (pv 1))
    Xi)))), ?_⟩
  refine Zj (S:=(SC.add SC.nil K (rP2 (rV (rV Xa)) (rV (rP2 Xa Xa))) v_0 a_0)) (σ:=[some v_0, none, none, none]) 1 ?_ (SC.i SC.t h_0) hm q rfl
  unfold VO
  exact (X1 (K:=K) (o:=(oL (oL (oF Xa)))) 1 0 (JC (o:=(oL (oF Xa)))) (Nat.le_of_ble_eq_true rfl) λa1 v2 C3=>(Xs (K:=K) (r:=Xa) 2 (EvB.sh (Xe 0)) λa4 v5=>(Ze (K:=K) (J:=({ oo:=λx7=>[x7.2.2.2], ss:=λx7=>[some v_0, some x7.2.2.1, some x7.2.1, x7.1], sc:=λg8 x7=>(SC.addO (SC.add (SC.add SC.nil K (rP2 (rV (rV Xa)) (rV (rP2 Xa Xa))) v_0 a_0) K Xa x7.2.1 g8.1) K (oL (oL (oF Xa))) x7.2.2.1 g8.2 x7.2.2.2) } : Jn (Int × (List (List Int))) (Option V × V × V × List XG))) (λ_=>tg1 3) ((none), v5, v2, C3) (a4, a1) (XH (VA (Xk (r:=(rP2 (rV (rV Xa)) (rV (rP2 Xa Xa)))) 0 rfl (λ_ s=>s.l.l.r)))) rfl rfl (λ_ s=>(SC.i (SC.i (SC.i SC.t s.l.l.r) s.r) s.l.r)) (λg9 x10 a11 v12=>(Z4 (K:=K) (o:=(oL (oF Xa))) (f:=λa18=>(Rs.bind (Rs.bind (Rs.ok a11) λx20=>(noE (XM x20))) λx21=>((λ(a23 : Int)=>(Rs.ok (a23, a18))) (g9.1 + x21)))) 1 0 rfl rfl rfl (λ_ s=>s.l.r) (Zh (Xb (r:=(rV Xa)) 3 rfl (λ_ s=>s.r)) (Xb (r:=Xa) 2 rfl (λ_ s=>s.l.l.r))) λa16 C17=>(Cb (K:=K) (f:=λa23=>(Rs.ok (a23, (g9.2 ++ [a16])))) 2 rfl (λ_ s=>s.l.l.l.r) (Ev.toB (YT (Xb (r:=(rV Xa)) 3 rfl (λ_ s=>s.l.r)))) λa23 v22=>(XE (J:=_) ((some v12), v22, x10.2.2.1, C17) (a23, (g9.2 ++ [a16])) rfl rfl (λ_ s=>(SC.i (SC.i (SC.i SC.t s.l.l.l.l.l.r) s.r) s.l.r)))))) λg24 x25=>(XJ (YK (o:=(oL (oL (oF Xa)))) 1 0 rfl rfl (λ_ s=>s.r))))))
theorem UU : FnScope ["drawing"] ["drawing"] (Xf Yw):=⟨rfl, rfl, rfl, by decide +kernel, rfl, by decide +kernel, by decide +kernel⟩
theorem Ki (D : Def K mg "arc_count" Yw ["drawing"]) (g_arcs_of_walk : Fn P w K mg base 1 "arcs_of_walk" ["walk"] (sp1 (rV Xa) (oF Xa) XM K)) (Y : Ecs XB K mg) (Z : Blt mg) : Fn P w K mg base 2 "arc_count" ["drawing"] (sp1 (rP2 (rV (rV Xa)) (rV (rP2 Xa Xa))) (oF Xa) YH K):=by
  refine Zm D UU (λvs H Q E h=>?_) (λf cdv A outer s H vs Q E hr h=>?_)
  . obtain ⟨v_0, a_0, b, rfl, _⟩:=h; rfl
  obtain ⟨v_0, a_0, b, rfl, h_0, hm, q⟩:=h
  have hu:=hu8 hr
  have hu1:=YI hr
  refine ⟨_, (Xd (XL (XF (UR rfl) rfl Z.b_sum PyProof.Rows.boot_sum (Xc (YV (sc:=(Xf Yw)) (N0:=["drawing"]) (tns:=["walk"]) (caps:=[]) rfl (XT (K:=K) rfl (XO (YQ K rfl) (pv 0) Xg (λ_ _=>rfl))) (Zg (by decide)) (λcl C s H ex E=>⟨Xp (i:=0) (show List.Nodup (["walk"] : List Str) by decide +kernel) rfl (Or.inl rfl), Za, (YO g_arcs_of_walk hr (by decide) (Xc (pv 0) Xh))⟩)) Xh)))
    Xi), ?_⟩
  refine Zj (S:=(SC.add SC.nil K (rP2 (rV (rV Xa)) (rV (rP2 Xa Xa))) v_0 a_0)) (σ:=[some v_0]) 0 ?_ (SC.i SC.t h_0) hm q rfl
  unfold YH
  exact (XJ (EvS.ev (EvB.sh (Dm (Ev.toB (Y9 (λ_=>tg1 0) (XH (VA (Xk (r:=(rP2 (rV (rV Xa)) (rV (rP2 Xa Xa)))) 0 rfl (λ_ s=>s.r)))) (λC3 a4 v5=>(YT (Xb (r:=(rV Xa)) 0 rfl (λ_ s=>s.r))))))))))
theorem Zc : FnScope ["drawing", "numbers", "told", "crossing", "sign", "above", "below", "over", "ways", "inward", "outward"] ["drawing"] (Xf Qd):=⟨rfl, rfl, rfl, by decide +kernel, rfl, by decide +kernel, by decide +kernel⟩
theorem Bt (D : Def K mg "meets" Qd ["drawing"]) (g_arcs : Fn P w K mg base 3 "arcs" ["drawing"] (sp1 (rP2 (rV (rV Xa)) (rV (rP2 Xa Xa))) (oL (oL (oF Xa))) VO K)) (g_spot : FnX P w K mg base 1 "spot" ["drawing", "passage"] (Lg mg (rP2 (rV (rV Xa)) (rV (rP2 Xa Xa))) Xa (oF (rP2 Xa Xa)) Vr K)) (Y : Ecs XB K mg) (Z : Blt mg) : FnX P w K mg base 4 "meets" ["drawing"] (IJ mg (rP2 (rV (rV Xa)) (rV (rP2 Xa Xa))) (oL (oF (rP5 Xa Xa Xa Xa Xa))) ZI K):=by
  refine QV D Zc (λvs H Q E h=>?_) (λf cdv A outer s H vs Q E hr h=>?_)
  . obtain ⟨v_0, a_0, rfl, _⟩:=h; rfl
  obtain ⟨v_0, a_0, rfl, h_0, hz⟩:=h
  have hu:=hu8 hr
  have hu1:=YI hr
  refine ⟨_, (Xd (PS.nox (Xl (i:=1) Zc.nd rfl (Or.inl rfl) (YO g_arcs hr (by decide) (Xc (pv 0) Xh))))
    (Xd (PS.nox (Xl (i:=2) Zc.nd rfl (Or.inl rfl) (Ys Xh)))
    (Xd (YZ PassesOwn.leaving rfl (XT (K:=K) rfl (XO (YQ K rfl) (pv 0) Xg (λ_ _=>rfl))) (VU rfl (XQ (Xp (i:=3) Zc.nd rfl (Or.inl rfl)) (XQ (Xp (i:=4) Zc.nd rfl (Or.inl rfl)) ZJ)))
      (Xd (Xl (i:=5) Zc.nd rfl (Or.inl rfl) (ZH g_spot hr (by decide) Q5 (Xc (pv 0) (Xc (pv 3) Xh))))
      (Xd (Xl (i:=6) Zc.nd rfl (Or.inl rfl) (ZH g_spot hr (by decide) Q5 (Xc (pv 0) (Xc (KJ Vl (pv 3)) Xh))))
      (Xd (PS.nox (Xl (i:=7) Zc.nd rfl (Or.inl rfl) (XO (Xm K rfl) (XO (Xm K rfl) (pv 1) (XO (YQ K rfl) (pv 5) Xg (λ_ _=>rfl)) (λ_ _=>rfl)) (XO (YQ K rfl) (pv 5) Xg (λ_ _=>rfl)) (λ_ _=>rfl))))
      (Xd (PS.nox (Xl (i:=8) Zc.nd rfl (Or.inl rfl) (XO (Xm K rfl) (pv 1) (XO (YQ K rfl) (pv 6) Xg (λ_ _=>rfl)) (λ_ _=>rfl))))
      (Xd (PS.nox (Xl (i:=9) Zc.nd rfl (Or.inl rfl) (XO (Xm K rfl) (pv 8) (XO (YQ K rfl) (pv 6) Xg (λ_ _=>rfl)) (λ_ _=>rfl))))
      (Xd (PS.nox (Xl (i:=10) Zc.nd rfl (Or.inl rfl) (XO (Xm K rfl) (pv 8) (Xo Yj (Xo Yh (XO (YQ K rfl) (pv 6) Xg (λ_ _=>rfl)) Xg) (XF (Xu K rfl) rfl Z.b_len PySem.boot_len (Xc (pv 8) Xh))) (λ_ _=>rfl))))
      (Xd (PS.nox (YR (Z9 PySem.F.plainAttrs_list PySem.F.slot_list_append PySem.F.type_list_append Yk (pv 2) (Xc (Zr (Xc (pv 3) (Xc (pv 4) (Xc (pv 7) (Xc (pv 9) (Xc (pv 10) Xh)))))) Xh))))
      Xi))))))))
    (Xd (PS.nox (XL (pv 2)))
    Xi)))), ?_⟩
  refine Jp (S:=(SC.add SC.nil K (rP2 (rV (rV Xa)) (rV (rP2 Xa Xa))) v_0 a_0)) (σ:=[some v_0, none, none, none, none, none, none, none, none, none, none]) 1 ?_ (SC.i SC.t h_0) hz rfl
  unfold ZI
  exact (Xs (K:=K) (r:=(rV (rV Xa))) 1 (Ev.sh (YT (Xb (r:=(rP2 (rV (rV Xa)) (rV (rP2 Xa Xa)))) 0 rfl (λ_ s=>s.r)))) λa1 v2=>(X1 (K:=K) (o:=(oL (oF (rP5 Xa Xa Xa Xa Xa)))) 2 0 (JC (o:=(oF (rP5 Xa Xa Xa Xa Xa)))) (Nat.le_of_ble_eq_true rfl) λa5 v6 C7=>(Ze (K:=K) (J:=({ oo:=λx9=>[x9.2.2.2.2.2.2.2.2.2], ss:=λx9=>[some v_0, some v2, some x9.2.2.2.2.2.2.2.2.1, x9.1, x9.2.1, x9.2.2.1, x9.2.2.2.1, x9.2.2.2.2.1, x9.2.2.2.2.2.1, x9.2.2.2.2.2.2.1, x9.2.2.2.2.2.2.2.1], sc:=λg10 x9=>(SC.addO (SC.add (SC.add SC.nil K (rP2 (rV (rV Xa)) (rV (rP2 Xa Xa))) v_0 a_0) K (rV (rV Xa)) v2 a1) K (oL (oF (rP5 Xa Xa Xa Xa Xa))) x9.2.2.2.2.2.2.2.2.1 g10 x9.2.2.2.2.2.2.2.2.2) } : Jn ((List (Int × Int × Int × Int × Int))) (Option V × Option V × Option V × Option V × Option V × Option V × Option V × Option V × V × List XG))) (λ_=>tg2 3 4) ((none), (none), (none), (none), (none), (none), (none), (none), v6, C7) (a5) (XH (Hq (Xk (r:=(rP2 (rV (rV Xa)) (rV (rP2 Xa Xa)))) 0 rfl (λ_ s=>s.l.l.r)))) rfl rfl (λ_ s=>(SC.i (SC.i (SC.i SC.t s.l.l.r) s.l.r) s.r)) (λg11 x12 a13 v14=>(Xs (K:=K) (r:=(rP2 Xa Xa)) 5 (EvB.sh (Ev.toB (Vn (Xb (r:=(rP2 (rV (rV Xa)) (rV (rP2 Xa Xa)))) 0 rfl (λ_ s=>s.l.l.l.l.r)) (Xb (r:=Xa) 3 rfl (λ_ s=>s.l.r))))) λa15 v16=>(Xs (K:=K) (r:=(rP2 Xa Xa)) 6 (EvB.sh (Ev.toB (Vn (Xb (r:=(rP2 (rV (rV Xa)) (rV (rP2 Xa Xa)))) 0 rfl (λ_ s=>s.l.l.l.l.l.r)) (QC (Xb (r:=Xa) 3 rfl (λ_ s=>s.l.l.r)))))) λa19 v20=>(Xs (K:=K) (r:=Xa) 7 (EvB.sh (XI (XI (Xb (r:=(rV (rV Xa))) 1 rfl (λ_ s=>s.l.l.l.l.l.r)) (CF (Xb (r:=(rP2 Xa Xa)) 5 rfl (λ_ s=>s.l.r)))) (Jh (Xb (r:=(rP2 Xa Xa)) 5 rfl (λ_ s=>s.l.r))))) λa24 v25=>(Xs (K:=K) (r:=(rV Xa)) 8 (Lh (EvS.ls (Xk (r:=(rV (rV Xa))) 1 rfl (λ_ s=>s.l.l.l.l.l.l.r))) (CF (Xb (r:=(rP2 Xa Xa)) 6 rfl (λ_ s=>s.l.r)))) λa32 v33=>(Xs (K:=K) (r:=Xa) 9 (EvB.sh (XI (Xb (r:=(rV Xa)) 8 rfl (λ_ s=>s.r)) (Jh (Xb (r:=(rP2 Xa Xa)) 6 rfl (λ_ s=>s.l.l.r))))) λa37 v38=>(Xs (K:=K) (r:=Xa) 10 (EvB.sh (XI (Xb (r:=(rV Xa)) 8 rfl (λ_ s=>s.l.r)) (XU (XS (Jh (Xb (r:=(rP2 Xa Xa)) 6 rfl (λ_ s=>s.l.l.l.r))) (Xe 1)) (YY (Xb (r:=(rV Xa)) 8 rfl (λ_ s=>s.l.r)))))) λa42 v43=>(Z4 (K:=K) (o:=(oF (rP5 Xa Xa Xa Xa Xa))) (f:=λa59=>(Rs.ok (a59))) 2 0 rfl rfl rfl (λ_ s=>s.l.l.l.l.l.l.l.l.r) (EvS.ev (BJ (Xk (r:=Xa) 3 rfl (λ_ s=>s.l.l.l.l.l.l.l.r)) (Xk (r:=Xa) 4 rfl (λ_ s=>s.l.l.l.l.l.l.r)) (Xk (r:=Xa) 7 rfl (λ_ s=>s.l.l.l.r)) (Xk (r:=Xa) 9 rfl (λ_ s=>s.l.r)) (Xk (r:=Xa) 10 rfl (λ_ s=>s.r)))) λa57 C58=>(XE (J:=_) ((some v14.1), (some v14.2), (some v16), (some v20), (some v25), (some v33), (some v38), (some v43), x12.2.2.2.2.2.2.2.2.1, C58) ((g11 ++ [a57])) rfl rfl (λ_ s=>(SC.i (SC.i (SC.i SC.t s.l.l.l.l.l.l.l.l.l.l.l.r) s.l.l.l.l.l.l.l.l.l.l.r) s.r))))))))))) λg60 x61=>(XJ (YK (o:=(oL (oF (rP5 Xa Xa Xa Xa Xa)))) 2 0 rfl rfl (λ_ s=>s.r))))))
theorem QP : FnScope ["drawing", "told", "crossing", "sign", "over", "inward", "outward"] ["drawing"] (Xf Jm):=⟨rfl, rfl, rfl, by decide +kernel, rfl, by decide +kernel, by decide +kernel⟩
theorem Ia (D : Def K mg "ties" Jm ["drawing"]) (g_meets : FnX P w K mg base 4 "meets" ["drawing"] (IJ mg (rP2 (rV (rV Xa)) (rV (rP2 Xa Xa))) (oL (oF (rP5 Xa Xa Xa Xa Xa))) ZI K)) (Y : Ecs XB K mg) (Z : Blt mg) : FnX P w K mg base 5 "ties" ["drawing"] (IJ mg (rP2 (rV (rV Xa)) (rV (rP2 Xa Xa))) (oL (oF (rP3 Xa Xa Xa))) VS K):=by
  refine QV D QP (λvs H Q E h=>?_) (λf cdv A outer s H vs Q E hr h=>?_)
  . obtain ⟨v_0, a_0, rfl, _⟩:=h; rfl
  obtain ⟨v_0, a_0, rfl, h_0, hz⟩:=h
  have hu:=hu8 hr
  have hu1:=YI hr
  refine ⟨_, (Xd (PS.nox (Xl (i:=1) QP.nd rfl (Or.inl rfl) (Ys Xh)))
    (Xd (YZ PassesOwn.leaving rfl (XT (K:=K) rfl (ZH g_meets hr (by decide) Q5 (Xc (pv 0) Xh))) (VU rfl (XQ (Xp (i:=2) QP.nd rfl (Or.inl rfl)) (XQ (Xp (i:=3) QP.nd rfl (Or.inl rfl)) (XQ (Xp (i:=4) QP.nd rfl (Or.inl rfl)) (XQ (Xp (i:=5) QP.nd rfl (Or.inl rfl)) (XQ (Xp (i:=6) QP.nd rfl (Or.inl rfl)) ZJ))))))
      (Xd (PS.nox (YR (Z9 PySem.F.plainAttrs_list PySem.F.slot_list_append PySem.F.type_list_append Yk (pv 1) (Xc (BN (XR Qx (pv 3) Xg (X5 _)) (Zr (Xc (pv 5) (Xc (pv 4) (Xc (pv 6) Xh)))) (Zr (Xc (pv 6) (Xc (pv 4) (Xc (pv 5) Xh))))) Xh))))
      Xi))
    (Xd (PS.nox (XL (pv 1)))
    Xi))), ?_⟩
  refine Jp (S:=(SC.add SC.nil K (rP2 (rV (rV Xa)) (rV (rP2 Xa Xa))) v_0 a_0)) (σ:=[some v_0, none, none, none, none, none, none]) 1 ?_ (SC.i SC.t h_0) hz rfl
  unfold VS
  exact (X1 (K:=K) (o:=(oL (oF (rP3 Xa Xa Xa)))) 1 0 (JC (o:=(oF (rP3 Xa Xa Xa)))) (Nat.le_of_ble_eq_true rfl) λa1 v2 C3=>(Ze (K:=K) (J:=({ oo:=λx5=>[x5.2.2.2.2.2.2], ss:=λx5=>[some v_0, some x5.2.2.2.2.2.1, x5.1, x5.2.1, x5.2.2.1, x5.2.2.2.1, x5.2.2.2.2.1], sc:=λg6 x5=>(SC.addO (SC.add SC.nil K (rP2 (rV (rV Xa)) (rV (rP2 Xa Xa))) v_0 a_0) K (oL (oF (rP3 Xa Xa Xa))) x5.2.2.2.2.2.1 g6 x5.2.2.2.2.2.2) } : Jn ((List (Int × Int × Int))) (Option V × Option V × Option V × Option V × Option V × V × List XG))) (λ_=>tg5 2 3 4 5 6) ((none), (none), (none), (none), (none), v2, C3) (a1) (XH (Ev.sh (Ko (Xb (r:=(rP2 (rV (rV Xa)) (rV (rP2 Xa Xa)))) 0 rfl (λ_ s=>s.l.r))))) rfl rfl (λ_ s=>(SC.i (SC.i SC.t s.l.r) s.r)) (λg7 x8 a9 v10=>(Z4 (K:=K) (o:=(oF (rP3 Xa Xa Xa))) (f:=λa22=>(Rs.ok (a22))) 1 0 rfl rfl rfl (λ_ s=>s.l.l.l.l.l.r) (Md (XC (K:=K) (Zs (Xb (r:=Xa) 3 rfl (λ_ s=>s.l.l.l.r)) (Xe 1))) (EvS.ev (Q1 (Xk (r:=Xa) 5 rfl (λ_ s=>s.l.r)) (Xk (r:=Xa) 4 rfl (λ_ s=>s.l.l.r)) (Xk (r:=Xa) 6 rfl (λ_ s=>s.r)))) (EvS.ev (Q1 (Xk (r:=Xa) 6 rfl (λ_ s=>s.r)) (Xk (r:=Xa) 4 rfl (λ_ s=>s.l.l.r)) (Xk (r:=Xa) 5 rfl (λ_ s=>s.l.r))))) λa20 C21=>(XE (J:=_) ((some v10.1), (some v10.2.1), (some v10.2.2.1), (some v10.2.2.2.1), (some v10.2.2.2.2), x8.2.2.2.2.2.1, C21) ((g7 ++ [a20])) rfl rfl (λ_ s=>(SC.i (SC.i SC.t s.l.l.l.l.l.l.l.r) s.r))))) λg23 x24=>(XJ (YK (o:=(oL (oF (rP3 Xa Xa Xa)))) 1 0 rfl rfl (λ_ s=>s.r)))))
theorem QD : FnScope ["number", "divisor"] ["number"] (Xf Y0):=⟨rfl, rfl, rfl, by decide +kernel, rfl, by decide +kernel, by decide +kernel⟩
theorem K3 (D : Def K mg "is_prime" Y0 ["number"])  (Y : Ecs XB K mg) (Z : Blt mg) : Fn P w K mg base 1 "is_prime" ["number"] (sp1 Xa (oF Xr) Yo K):=by
  refine Zm D QD (λvs H Q E h=>?_) (λf cdv A outer s H vs Q E hr h=>?_)
  . obtain ⟨v_0, a_0, b, rfl, _⟩:=h; rfl
  obtain ⟨v_0, a_0, b, rfl, h_0, hm, q⟩:=h
  have hu:=hu8 hr
  have hu1:=YI hr
  refine ⟨_, (Xd (Zu (PW.pt (LX (XR Ke (pv 0) Xg (X5 _)) (Ez (XR CP (pv 0) (El Z.c_MOST_PRIME rfl) (X5 _)))))
      (Xd (XL QM)
      Xi)
      Xi)
    (Xd (Xl (i:=1) QD.nd rfl (Or.inl rfl) Xg)
    (Xd (JN PassesOwn.never (XR LR (Xo Yr (pv 1) (pv 1)) (pv 0) (X5 _))
      (Xd (Zu (XR Qx (Xo Yj (pv 0) (pv 1)) Xg (X5 _))
        (Xd (XL QM)
        Xi)
        Xi)
      (Xd (Kk (i:=1) QD.nd rfl (Or.inl rfl) Xg Kz)
      Xi)))
    (Xd (XL QM)
    Xi)))), ?_⟩
  refine Zj (S:=(SC.add SC.nil K Xa v_0 a_0)) (σ:=[some v_0, none]) 0 ?_ (SC.i SC.t h_0) hm q rfl
  unfold Yo
  exact (VR (Ee (XC (K:=K) (Jq (Xb (r:=Xa) 0 rfl (λ_ s=>s.r)) (Xe 2))) (XC (K:=K) (UO (Xb (r:=Xa) 0 rfl (λ_ s=>s.r)) (Xe 100000)))) (XJ (EvS.ev (EvB.sh (ZA false)))) (Xs (K:=K) (r:=Xa) 1 (EvB.sh (Xe 2)) λa6 v7=>(Kc (K:=K) (J:=({ oo:=λx8=>[], ss:=λx8=>[some v_0, some x8], sc:=λg9 x8=>(SC.add (SC.add SC.nil K Xa v_0 a_0) K Xa x8 g9) } : Jn (Int) (V))) (a_0.natAbs + 2) (v7) (a6) rfl rfl (λ_ s=>(SC.i (SC.i SC.t s.l.r) s.r)) (λg10 x11=>(XC (K:=K) (Eo (XZ (Xb (r:=Xa) 1 rfl (λ_ s=>s.r)) (Xb (r:=Xa) 1 rfl (λ_ s=>s.r))) (Xb (r:=Xa) 0 rfl (λ_ s=>s.l.r))))) (λg10 x11=>(Ug (XC (K:=K) (Zs (XU (Xb (r:=Xa) 0 rfl (λ_ s=>s.l.r)) (Xb (r:=Xa) 1 rfl (λ_ s=>s.r))) (Xe 0))) (XJ (EvS.ev (EvB.sh (ZA false)))) (Cb (K:=K) (f:=λa23=>(Rs.bind (Rs.ok (a23)) λx24=>(Rs.ok (Ctl.nx x24)))) 1 rfl (λ_ s=>s.r) (Xe 1) λa23 v22=>(Gs (XE (J:=_) (v22) (a23) rfl rfl (λ_ s=>(SC.i (SC.i SC.t s.l.l.r) s.r))))))) λg26 x27=>(XJ (EvS.ev (EvB.sh (ZA true)))))))
theorem JV : FnScope ["prime", "factor"] ["prime", "factor"] (Xf X8):=⟨rfl, rfl, rfl, by decide +kernel, rfl, by decide +kernel, by decide +kernel⟩
theorem VC (D : Def K mg "refuse_wrong" X8 ["prime", "factor"]) (g_is_prime : Fn P w K mg base 1 "is_prime" ["number"] (sp1 Xa (oF Xr) Yo K)) (Y : Ecs XB K mg) (Z : Blt mg) : FnX P w K mg base 2 "refuse_wrong" ["prime", "factor"] (Lg mg Xa Xa oU Xx K):=by
  refine QV D JV (λvs H Q E h=>?_) (λf cdv A outer s H vs Q E hr h=>?_)
  . obtain ⟨v_0, v_1, a_0, a_1, rfl, _⟩:=h; rfl
  obtain ⟨v_0, v_1, a_0, a_1, rfl, h_0, h_1, hz⟩:=h
  obtain ⟨C_NoUnit, h_NoUnit, q_NoUnit⟩:=Y.adr "NoUnit" (.tail _ (.tail _ (.head _)))
  obtain ⟨C_NoPrime, h_NoPrime, q_NoPrime⟩:=Y.adr "NoPrime" (.tail _ (.tail _ (.tail _ (.head _))))
  replace q_NoUnit:=q_NoUnit (by decide)
  replace q_NoPrime:=q_NoPrime (by decide)
  have hu:=hu8 hr
  have hu1:=YI hr
  refine ⟨_, (Xd (Zu (GR (G0 (YO g_is_prime hr (by decide) (Xc (pv 0) Xh))))
      (Xd (V7 CG rfl q_NoPrime rfl h_NoPrime (Xc (Mo (Km (pv 0) (F2 JB (Km (El Z.c_MOST_PRIME rfl) Dn)))) Xh))
      Xi)
      Xi)
    (Xd (Zu (XR Qx (Xo Yj (pv 1) (pv 0)) Xg (X5 _))
      (Xd (V7 CG rfl q_NoUnit rfl h_NoUnit (Xc (Mo (Km (pv 0) (F2 JB (Km (pv 1) Dn)))) Xh))
      Xi)
      Xi)
    Xi)), ?_⟩
  refine LE (J:=({ oo:=λx3=>[], ss:=λx3=>[some v_0, some v_1], sc:=λg4 x3=>(SC.add (SC.add SC.nil K Xa v_0 a_0) K Xa v_1 a_1) } : Jn (Unit) (Unit))) (K:=K) (S:=(SC.add (SC.add SC.nil K Xa v_0 a_0) K Xa v_1 a_1)) (σ:=[some v_0, some v_1]) 0 ?_ (SC.i (SC.i SC.t h_0) h_1) hz (λ_ _=>rfl)
  unfold Xx
  exact (EC (K:=K) (o:=oU) (Ut (Fm (K:=K) (Ev.toB (YT (Xb (r:=Xa) 0 rfl (λ_ s=>s.l.r)))))) (UA h_NoPrime (ES (Vi (K:=K) (Xb (r:=Xa) 0 rfl (λ_ s=>s.l.r)) (K1 (Vi (K:=K) (Xe 100000) KY))))) (EC (K:=K) (o:=oU) (XC (K:=K) (Zs (XU (Xb (r:=Xa) 1 rfl (λ_ s=>s.r)) (Xb (r:=Xa) 0 rfl (λ_ s=>s.l.r))) (Xe 0))) (UA h_NoUnit (ES (Vi (K:=K) (Xb (r:=Xa) 0 rfl (λ_ s=>s.l.r)) (K1 (Vi (K:=K) (Xb (r:=Xa) 1 rfl (λ_ s=>s.r)) KY))))) (XE (J:=_) () () rfl rfl (λ_ s=>(SC.i (SC.i SC.t s.l.r) s.r)))))
theorem YM : FnScope ["drawing", "prime", "factor", "count", "told", "start", "over", "end", "numbers"] ["drawing", "prime", "factor"] (Xf Yu):=⟨rfl, rfl, rfl, by decide +kernel, rfl, by decide +kernel, by decide +kernel⟩
theorem KC (D : Def K mg "equations" Yu ["drawing", "prime", "factor"]) (g_refuse_wrong : FnX P w K mg base 2 "refuse_wrong" ["prime", "factor"] (Lg mg Xa Xa oU Xx K)) (g_arc_count : Fn P w K mg base 2 "arc_count" ["drawing"] (sp1 (rP2 (rV (rV Xa)) (rV (rP2 Xa Xa))) (oF Xa) YH K)) (g_ties : FnX P w K mg base 5 "ties" ["drawing"] (IJ mg (rP2 (rV (rV Xa)) (rV (rP2 Xa Xa))) (oL (oF (rP3 Xa Xa Xa))) VS K)) (Y : Ecs XB K mg) (Z : Blt mg) : FnX P w K mg base 6 "equations" ["drawing", "prime", "factor"] (Bi mg (rP2 (rV (rV Xa)) (rV (rP2 Xa Xa))) Xa Xa (oL (oL (oF Xa))) X4 K):=by
  refine QV D YM (λvs H Q E h=>?_) (λf cdv A outer s H vs Q E hr h=>?_)
  . obtain ⟨v_0, v_1, v_2, a_0, a_1, a_2, rfl, _⟩:=h; rfl
  obtain ⟨v_0, v_1, v_2, a_0, a_1, a_2, rfl, h_0, h_1, h_2, hz⟩:=h
  have hu:=hu8 hr
  have hu1:=YI hr
  refine ⟨_, (Xd (YR (ZH g_refuse_wrong hr (by decide) Q5 (Xc (pv 1) (Xc (pv 2) Xh))))
    (Xd (PS.nox (Xl (i:=3) YM.nd rfl (Or.inl rfl) (YO g_arc_count hr (by decide) (Xc (pv 0) Xh))))
    (Xd (PS.nox (Xl (i:=4) YM.nd rfl (Or.inl rfl) (Ys Xh)))
    (Xd (YZ PassesOwn.leaving rfl (XT (K:=K) rfl (ZH g_ties hr (by decide) Q5 (Xc (pv 0) Xh))) (VU rfl (XQ (Xp (i:=5) YM.nd rfl (Or.inl rfl)) (XQ (Xp (i:=6) YM.nd rfl (Or.inl rfl)) (XQ (Xp (i:=7) YM.nd rfl (Or.inl rfl)) ZJ))))
      (Xd (PS.nox (Xl (i:=8) YM.nd rfl (Or.inl rfl) (Xo U7 (Ys (Xc Xg Xh)) (pv 3))))
      (Xd (PS.nox (KR (pv 8) (pv 5) (Us K rfl) (pv 2) Kz Qn))
      (Xd (PS.nox (KR (pv 8) (pv 6) (Us K rfl) (Xo V0 Xg (pv 2)) Kz Qn))
      (Xd (PS.nox (KR (pv 8) (pv 7) (Us K rfl) Xg Lj Qn))
      (Xd (PS.nox (YR (Z9 PySem.F.plainAttrs_list PySem.F.slot_list_append PySem.F.type_list_append Yk (pv 4) (Xc (YV (sc:=(Xf Yu)) (N0:=["drawing", "prime", "factor", "count", "told", "start", "over", "end", "numbers"]) (tns:=["number"]) (caps:=[(1, "prime")]) rfl (XT (K:=K) rfl (pv 8)) (Zg (by decide)) (λcl C s H ex E=>⟨Xp (i:=0) (show List.Nodup (["number", "prime"] : List Str) by decide +kernel) rfl (Or.inl rfl), Za, (Xo Yj (pv 0) (pv 1))⟩)) Xh))))
      Xi))))))
    (Xd (PS.nox (XL (pv 4)))
    Xi))))), ?_⟩
  refine Jp (S:=(SC.add (SC.add (SC.add SC.nil K (rP2 (rV (rV Xa)) (rV (rP2 Xa Xa))) v_0 a_0) K Xa v_1 a_1) K Xa v_2 a_2)) (σ:=[some v_0, some v_1, some v_2, none, none, none, none, none, none]) 2 ?_ (SC.i (SC.i (SC.i SC.t h_0) h_1) h_2) hz rfl
  unfold X4
  exact (Hg (Ev.toB (Vn (Xb (r:=Xa) 1 rfl (λ_ s=>s.l.r)) (Xb (r:=Xa) 2 rfl (λ_ s=>s.r)))) (Xs (K:=K) (r:=Xa) 3 (EvB.sh (Ev.toB (YT (Xb (r:=(rP2 (rV (rV Xa)) (rV (rP2 Xa Xa)))) 0 rfl (λ_ s=>s.l.l.r))))) λa4 v5=>(X1 (K:=K) (o:=(oL (oL (oF Xa)))) 4 0 (JC (o:=(oL (oF Xa)))) (Nat.le_of_ble_eq_true rfl) λa8 v9 C10=>(Ze (K:=K) (J:=({ oo:=λx12=>[x12.2.2.2.2.2, []], ss:=λx12=>[some v_0, some v_1, some v_2, some v5, some x12.2.2.2.2.1, x12.1, x12.2.1, x12.2.2.1, x12.2.2.2.1], sc:=λg13 x12=>(SC.addO (SC.add (SC.add (SC.add (SC.add SC.nil K (rP2 (rV (rV Xa)) (rV (rP2 Xa Xa))) v_0 a_0) K Xa v_1 a_1) K Xa v_2 a_2) K Xa v5 a4) K (oL (oL (oF Xa))) x12.2.2.2.2.1 g13 x12.2.2.2.2.2) } : Jn ((List (List Int))) (Option V × Option V × Option V × Option V × V × List XG))) (λ_=>tg3 5 6 7) ((none), (none), (none), (none), v9, C10) (a8) (XH (Ev.sh (Ko (Xb (r:=(rP2 (rV (rV Xa)) (rV (rP2 Xa Xa)))) 0 rfl (λ_ s=>s.l.l.l.l.r))))) rfl rfl (λ_ s=>(SC.i (SC.i (SC.i (SC.i (SC.i SC.t s.l.l.l.l.r) s.l.l.l.r) s.l.l.r) s.l.r) s.r)) (λg14 x15 a16 v17=>(X1 (K:=K) (o:=(oL (oF Xa))) 8 1 (U8 (Ev.ls (ZN (Xn (EvB.sh (Xe 0)) Zf))) (Xb (r:=Xa) 3 rfl (λ_ s=>s.l.l.l.l.r))) (Nat.le_of_ble_eq_true rfl) λa18 v19 C20=>(V8 (K:=K) (g:=λi j=>i + j) (f:=λa26=>(Rs.bind (Rs.ok a16.2.1) λx35=>(Rs.bind (atR a26 x35) λx36=>(Rs.bind (Rs.bind (Rs.ok (1 : Int)) λx31=>(Rs.bind (Rs.ok a_2) λx32=>(Rs.ok (x31 - x32)))) λx37=>(Rs.bind (QZ a26 x35 (x36 + x37)) λa33=>(Rs.bind (Rs.ok a16.2.2) λx40=>(Rs.bind (atR a33 x40) λx41=>(Rs.bind (Rs.ok (1 : Int)) λx42=>(Rs.bind (QZ a33 x40 (x41 - x42)) λa38=>(Rs.bind (Rs.bind (Rs.ok a38) λx46=>(VG x46 (λa44=>(Rs.bind (Rs.ok a44) λx47=>(Rs.bind (Rs.ok a_1) λx48=>(ZK x47 x48)))))) λa49=>(chk (g14.length < sizeLine) ((λa51=>(Rs.ok (a51))) (g14 ++ [a49]))))))))))))) 8 1 rfl rfl (λ_ s=>s.r) (Xb (r:=Xa) 5 rfl (λ_ s=>s.l.l.l.r)) (Xb (r:=Xa) 2 rfl (λ_ s=>s.l.l.l.l.l.l.r)) λa26 C27=>(V8 (K:=K) (g:=λi j=>i + j) (f:=λa33=>(Rs.bind (Rs.ok a16.2.2) λx40=>(Rs.bind (atR a33 x40) λx41=>(Rs.bind (Rs.ok (1 : Int)) λx42=>(Rs.bind (QZ a33 x40 (x41 - x42)) λa38=>(Rs.bind (Rs.bind (Rs.ok a38) λx46=>(VG x46 (λa44=>(Rs.bind (Rs.ok a44) λx47=>(Rs.bind (Rs.ok a_1) λx48=>(ZK x47 x48)))))) λa49=>(chk (g14.length < sizeLine) ((λa51=>(Rs.ok (a51))) (g14 ++ [a49]))))))))) 8 1 rfl rfl (λ_ s=>s.r) (Xb (r:=Xa) 6 rfl (λ_ s=>s.l.l.l.r)) (Jd (Xe 1) (Xb (r:=Xa) 2 rfl (λ_ s=>s.l.l.l.l.l.l.l.r))) λa33 C34=>(V8 (K:=K) (g:=λi j=>i - j) (f:=λa38=>(Rs.bind (Rs.bind (Rs.ok a38) λx46=>(VG x46 (λa44=>(Rs.bind (Rs.ok a44) λx47=>(Rs.bind (Rs.ok a_1) λx48=>(ZK x47 x48)))))) λa49=>(chk (g14.length < sizeLine) ((λa51=>(Rs.ok (a51))) (g14 ++ [a49]))))) 8 1 rfl rfl (λ_ s=>s.r) (Xb (r:=Xa) 7 rfl (λ_ s=>s.l.l.l.r)) (Xe 1) λa38 C39=>(Z4 (K:=K) (o:=(oL (oF Xa))) (f:=λa51=>(Rs.ok (a51))) 4 0 rfl rfl rfl (λ_ s=>s.l.l.l.l.l.l.l.r) (Uh (K:=K) (o1:=(oL (oF Xa))) 1 rfl (λ_ s=>s.r) (Y9 (λ_=>tg1 0) (XH (Xk (r:=(rV Xa)) 8 rfl (λ_ s=>s.r))) (λC43 a44 v45=>(EvS.ev (EvB.sh (XU (Xb (r:=Xa) 0 rfl (λ_ s=>s.r)) (Xb (r:=Xa) 1 rfl (λ_ s=>s.l.l.l.l.l.l.l.l.l.l.l.l.r)))))))) λa49 C50=>(HS 1 (XE (J:=_) ((some v17.1), (some v17.2.1), (some v17.2.2), (some v19), x15.2.2.2.2.1, C50) ((g14 ++ [a49])) rfl rfl (λ_ s=>(SC.i (SC.i (SC.i (SC.i (SC.i SC.t s.l.l.l.l.l.l.l.l.l.l.l.l.r) s.l.l.l.l.l.l.l.l.l.l.l.r) s.l.l.l.l.l.l.l.l.l.l.r) s.l.l.l.l.l.l.l.l.l.r) s.r)))))))))) λg52 x53=>(XJ (YK (o:=(oL (oL (oF Xa)))) 4 0 rfl rfl (λ_ s=>s.r)))))))
theorem Dt : FnScope ["numbers", "colours"] ["numbers", "colours"] (Xf Zt):=⟨rfl, rfl, rfl, by decide +kernel, rfl, by decide +kernel, by decide +kernel⟩
theorem Cz (D : Def K mg "summed" Zt ["numbers", "colours"])  (Y : Ecs XB K mg) (Z : Blt mg) : Fn P w K mg base 1 "summed" ["numbers", "colours"] (sp2 (rV Xa) (rV Xa) (oF Xa) Qr K):=by
  refine Zm D Dt (λvs H Q E h=>?_) (λf cdv A outer s H vs Q E hr h=>?_)
  . obtain ⟨v_0, v_1, a_0, a_1, b, rfl, _⟩:=h; rfl
  obtain ⟨v_0, v_1, a_0, a_1, b, rfl, h_0, h_1, hm, q⟩:=h
  have hu:=hu8 hr
  have hu1:=YI hr
  refine ⟨_, (Xd (XL (XF (UR rfl) rfl Z.b_sum PyProof.Rows.boot_sum (Xc (YV (sc:=(Xf Zt)) (N0:=["numbers", "colours"]) (tns:=["number", "colour"]) (caps:=[]) rfl (Em K rfl rfl Z.b_zip (Xc (pv 0) (Xc (pv 1) Xh))) (VF (by decide) (by decide)) (λcl C s H ex E=>⟨J9 K rfl rfl (XQ (Xp (i:=0) (show List.Nodup (["number", "colour"] : List Str) by decide +kernel) rfl (Or.inl rfl)) (XQ (Xp (i:=1) (show List.Nodup (["number", "colour"] : List Str) by decide +kernel) rfl (Or.inl rfl)) ZJ)), Za, (Xo Yr (pv 0) (pv 1))⟩)) Xh)))
    Xi), ?_⟩
  refine Zj (S:=(SC.add (SC.add SC.nil K (rV Xa) v_0 a_0) K (rV Xa) v_1 a_1)) (σ:=[some v_0, some v_1]) 0 ?_ (SC.i (SC.i SC.t h_0) h_1) hm q rfl
  unfold Qr
  exact (XJ (EvS.ev (EvB.sh (Dm (Ev.toB (Y9 (λ_=>tg2 0 1) (Gy (Xk (r:=(rV Xa)) 0 rfl (λ_ s=>s.l.r)) (Xk (r:=(rV Xa)) 1 rfl (λ_ s=>s.r))) (λC4 a5 v6=>(EvS.ev (EvB.sh (XZ (Xb (r:=Xa) 0 rfl (λ_ s=>s.l.r)) (Xb (r:=Xa) 1 rfl (λ_ s=>s.r))))))))))))
theorem GH : FnScope ["drawing", "prime", "factor", "colours", "asked"] ["drawing", "prime", "factor", "colours"] (Xf ZY):=⟨rfl, rfl, rfl, by decide +kernel, rfl, by decide +kernel, by decide +kernel⟩
theorem BV (D : Def K mg "keeps" ZY ["drawing", "prime", "factor", "colours"]) (g_equations : FnX P w K mg base 6 "equations" ["drawing", "prime", "factor"] (Bi mg (rP2 (rV (rV Xa)) (rV (rP2 Xa Xa))) Xa Xa (oL (oL (oF Xa))) X4 K)) (g_summed : Fn P w K mg base 1 "summed" ["numbers", "colours"] (sp2 (rV Xa) (rV Xa) (oF Xa) Qr K)) (Y : Ecs XB K mg) (Z : Blt mg) : FnX P w K mg base 7 "keeps" ["drawing", "prime", "factor", "colours"] (IW mg (rP2 (rV (rV Xa)) (rV (rP2 Xa Xa))) Xa Xa (rV Xa) (oF Xr) Qb K):=by
  refine QV D GH (λvs H Q E h=>?_) (λf cdv A outer s H vs Q E hr h=>?_)
  . obtain ⟨v_0, v_1, v_2, v_3, a_0, a_1, a_2, a_3, rfl, _⟩:=h; rfl
  obtain ⟨v_0, v_1, v_2, v_3, a_0, a_1, a_2, a_3, rfl, h_0, h_1, h_2, h_3, hz⟩:=h
  have hu:=hu8 hr
  have hu1:=YI hr
  refine ⟨_, (Xd (Xl (i:=4) GH.nd rfl (Or.inl rfl) (ZH g_equations hr (by decide) Q5 (Xc (pv 0) (Xc (pv 1) (Xc (pv 2) Xh)))))
    (Xd (PS.nox (XL (XF (F3 rfl) rfl Z.b_all PyProof.Rows.boot_all (Xc (YV (sc:=(Xf ZY)) (N0:=["drawing", "prime", "factor", "colours", "asked"]) (tns:=["equation"]) (caps:=[(3, "colours"), (1, "prime")]) rfl (XT (K:=K) rfl (pv 4)) (Zg (by decide)) (λcl C s H ex E=>⟨Xp (i:=0) (show List.Nodup (["equation", "colours", "prime"] : List Str) by decide +kernel) rfl (Or.inl rfl), Za, (Ub Qx (Xo Yj (YO g_summed hr (by decide) (Xc (pv 0) (Xc (pv 1) Xh))) (pv 2)) Xg (X5 _))⟩)) Xh))))
    Xi)), ?_⟩
  refine Jp (S:=(SC.add (SC.add (SC.add (SC.add SC.nil K (rP2 (rV (rV Xa)) (rV (rP2 Xa Xa))) v_0 a_0) K Xa v_1 a_1) K Xa v_2 a_2) K (rV Xa) v_3 a_3)) (σ:=[some v_0, some v_1, some v_2, some v_3, none]) 0 ?_ (SC.i (SC.i (SC.i (SC.i SC.t h_0) h_1) h_2) h_3) hz rfl
  unfold Qb
  exact (Xs (K:=K) (r:=(rV (rV Xa))) 4 (Ev.sh (Zy (Xb (r:=(rP2 (rV (rV Xa)) (rV (rP2 Xa Xa)))) 0 rfl (λ_ s=>s.l.l.l.r)) (Xb (r:=Xa) 1 rfl (λ_ s=>s.l.l.r)) (Xb (r:=Xa) 2 rfl (λ_ s=>s.l.r)))) λa1 v2=>(XJ (EvS.ev (EvB.sh (EU (Ev.toB (Y9 (λ_=>tg1 0) (XH (Xk (r:=(rV (rV Xa))) 4 rfl (λ_ s=>s.r))) (λC7 a8 v9=>(EvS.ev (EvB.sh (Zs (XU (Ev.toB (Zh (Xb (r:=(rV Xa)) 0 rfl (λ_ s=>s.r)) (Xb (r:=(rV Xa)) 1 rfl (λ_ s=>s.l.l.r)))) (Xb (r:=Xa) 2 rfl (λ_ s=>s.l.l.l.l.r))) (Xe 0))))))))))))
theorem Ec : FnScope ["row", "number", "prime"] ["row", "number", "prime"] (Xf ZT):=⟨rfl, rfl, rfl, by decide +kernel, rfl, by decide +kernel, by decide +kernel⟩
theorem B6 (D : Def K mg "times" ZT ["row", "number", "prime"])  (Y : Ecs XB K mg) (Z : Blt mg) : Fn P w K mg base 1 "times" ["row", "number", "prime"] (sp3 (rV Xa) Xa Xa (oL (oF Xa)) Jj K):=by
  refine Zm D Ec (λvs H Q E h=>?_) (λf cdv A outer s H vs Q E hr h=>?_)
  . obtain ⟨v_0, v_1, v_2, a_0, a_1, a_2, b, rfl, _⟩:=h; rfl
  obtain ⟨v_0, v_1, v_2, a_0, a_1, a_2, b, rfl, h_0, h_1, h_2, hm, q⟩:=h
  have hu:=hu8 hr
  have hu1:=YI hr
  refine ⟨_, (Xd (XL (YV (sc:=(Xf ZT)) (N0:=["row", "number", "prime"]) (tns:=["entry"]) (caps:=[(1, "number"), (2, "prime")]) rfl (XT (K:=K) rfl (pv 0)) (Zg (by decide)) (λcl C s H ex E=>⟨Xp (i:=0) (show List.Nodup (["entry", "number", "prime"] : List Str) by decide +kernel) rfl (Or.inl rfl), Za, (Xo Yj (Xo Yr (pv 1) (pv 0)) (pv 2))⟩)))
    Xi), ?_⟩
  refine Zj (S:=(SC.add (SC.add (SC.add SC.nil K (rV Xa) v_0 a_0) K Xa v_1 a_1) K Xa v_2 a_2)) (σ:=[some v_0, some v_1, some v_2]) 0 ?_ (SC.i (SC.i (SC.i SC.t h_0) h_1) h_2) hm q rfl
  unfold Jj
  exact (XJ (Y9 (λ_=>tg1 0) (XH (Xk (r:=(rV Xa)) 0 rfl (λ_ s=>s.l.l.r))) (λC1 a2 v3=>(EvS.ev (EvB.sh (XU (XZ (Xb (r:=Xa) 1 rfl (λ_ s=>s.l.l.r)) (Xb (r:=Xa) 0 rfl (λ_ s=>s.r))) (Xb (r:=Xa) 2 rfl (λ_ s=>s.l.r))))))))
theorem Yd : FnScope ["number", "prime", "told", "square", "left"] ["number", "prime"] (Xf Ya):=⟨rfl, rfl, rfl, by decide +kernel, rfl, by decide +kernel, by decide +kernel⟩
theorem Vm (D : Def K mg "inverse_rest" Ya ["number", "prime"])  (Y : Ecs XB K mg) (Z : Blt mg) : Fn P w K mg base 1 "inverse_rest" ["number", "prime"] (sp2 Xa Xa (oF Xa) YE K):=by
  refine Zm D Yd (λvs H Q E h=>?_) (λf cdv A outer s H vs Q E hr h=>?_)
  . obtain ⟨v_0, v_1, a_0, a_1, b, rfl, _⟩:=h; rfl
  obtain ⟨v_0, v_1, a_0, a_1, b, rfl, h_0, h_1, hm, q⟩:=h
  have hu:=hu8 hr
  have hu1:=YI hr
  refine ⟨_, (Xd (Xl (i:=2) Yd.nd rfl (Or.inl rfl) Xg)
    (Xd (Xl (i:=3) Yd.nd rfl (Or.inl rfl) (pv 0))
    (Xd (Xl (i:=4) Yd.nd rfl (Or.inl rfl) (Xo V0 (pv 1) Xg))
    (Xd (JN PassesOwn.never (XR CP (pv 4) Xg (X5 _))
      (Xd (Zu (XR Qx (Xo Yj (pv 4) Xg) Xg (X5 _))
        (Xd (Xl (i:=2) Yd.nd rfl (Or.inl rfl) (Xo Yj (Xo Yr (pv 2) (pv 3)) (pv 1)))
        Xi)
        Xi)
      (Xd (Xl (i:=3) Yd.nd rfl (Or.inl rfl) (Xo Yj (Xo Yr (pv 3) (pv 3)) (pv 1)))
      (Xd (Kk (i:=4) Yd.nd rfl (Or.inl rfl) Xg EV)
      Xi))))
    (Xd (XL (pv 2))
    Xi))))), ?_⟩
  refine Zj (S:=(SC.add (SC.add SC.nil K Xa v_0 a_0) K Xa v_1 a_1)) (σ:=[some v_0, some v_1, none, none, none]) 0 ?_ (SC.i (SC.i SC.t h_0) h_1) hm q rfl
  unfold YE
  exact (Xs (K:=K) (r:=Xa) 2 (EvB.sh (Xe 1)) λa1 v2=>(Xs (K:=K) (r:=Xa) 3 (Xk (r:=Xa) 0 rfl (λ_ s=>s.l.l.r)) λa3 v4=>(Xs (K:=K) (r:=Xa) 4 (EvB.sh (Jd (Xb (r:=Xa) 1 rfl (λ_ s=>s.l.l.r)) (Xe 2))) λa5 v6=>(GE (J:=({ oo:=λx9=>[], ss:=λx9=>[some v_0, some v_1, some x9.2.2, some x9.1, some x9.2.1], sc:=λg10 x9=>(SC.add (SC.add (SC.add (SC.add (SC.add SC.nil K Xa v_0 a_0) K Xa v_1 a_1) K Xa x9.1 g10.1) K Xa x9.2.1 g10.2.1) K Xa x9.2.2 g10.2.2) } : Jn (Int × Int × Int) (V × V × V))) (100) (v4, v6, v2) (a3, a5, a1) rfl rfl (λ_ s=>(SC.i (SC.i (SC.i (SC.i (SC.i SC.t s.l.l.l.l.r) s.l.l.l.r) s.l.r) s.r) s.l.l.r)) (λg11 x12=>(XC (K:=K) (UO (Xb (r:=Xa) 4 rfl (λ_ s=>s.l.r)) (Xe 0)))) (λg11 x12=>(Zo (J:=({ oo:=λx20=>[], ss:=λx20=>[some v_0, some v_1, some x20, some x12.1, some x12.2.1], sc:=λg21 x20=>(SC.add (SC.add (SC.add (SC.add (SC.add SC.nil K Xa v_0 a_0) K Xa v_1 a_1) K Xa x12.1 g11.1) K Xa x12.2.1 g11.2.1) K Xa x20 g21) } : Jn (Int) (V))) (Z3 (Fd:=FNd ({ oo:=λx20=>[], ss:=λx20=>[some v_0, some v_1, some x20, some x12.1, some x12.2.1], sc:=λg21 x20=>(SC.add (SC.add (SC.add (SC.add (SC.add SC.nil K Xa v_0 a_0) K Xa v_1 a_1) K Xa x12.1 g11.1) K Xa x12.2.1 g11.2.1) K Xa x20 g21) } : Jn (Int) (V))) (XC (K:=K) (Zs (XU (Xb (r:=Xa) 4 rfl (λ_ s=>s.l.r)) (Xe 2)) (Xe 1))) (Xs (K:=K) (r:=Xa) 2 (EvB.sh (XU (XZ (Xb (r:=Xa) 2 rfl (λ_ s=>s.r)) (Xb (r:=Xa) 3 rfl (λ_ s=>s.l.l.r))) (Xb (r:=Xa) 1 rfl (λ_ s=>s.l.l.l.r)))) λa22 v23=>(XE (J:=_) (v23) (a22) rfl rfl (λ_ s=>(SC.i (SC.i (SC.i (SC.i (SC.i SC.t s.l.l.l.l.l.r) s.l.l.l.l.r) s.l.l.l.r) s.l.l.r) s.r)))) (XE (J:=_) (x12.2.2) (g11.2.2) rfl rfl (λ_ s=>(SC.i (SC.i (SC.i (SC.i (SC.i SC.t s.l.l.l.l.r) s.l.l.l.r) s.l.l.r) s.l.r) s.r)))) λg29 x28=>(Xs (K:=K) (r:=Xa) 3 (EvB.sh (XU (XZ (Xb (r:=Xa) 3 rfl (λ_ s=>s.l.l.r)) (Xb (r:=Xa) 3 rfl (λ_ s=>s.l.l.r))) (Xb (r:=Xa) 1 rfl (λ_ s=>s.l.l.l.r)))) λa30 v31=>(HI (K:=K) 4 rfl (λ_ s=>s.l.l.r) (Xe 2) λa38 v37=>(XE (J:=_) (v31, v37, x28) (a30, a38, g29) rfl rfl (λ_ s=>(SC.i (SC.i (SC.i (SC.i (SC.i SC.t s.l.l.l.l.l.l.r) s.l.l.l.l.l.r) s.l.r) s.r) s.l.l.r))))))) λg39 x40=>(XJ (EvS.ev (Xk (r:=Xa) 2 rfl (λ_ s=>s.r))))))))
theorem FC : FnScope ["row", "lead", "arc", "prime"] ["row", "lead", "arc", "prime"] (Xf Y6):=⟨rfl, rfl, rfl, by decide +kernel, rfl, by decide +kernel, by decide +kernel⟩
theorem Fb (D : Def K mg "cleared" Y6 ["row", "lead", "arc", "prime"])  (Y : Ecs XB K mg) (Z : Blt mg) : Fn P w K mg base 1 "cleared" ["row", "lead", "arc", "prime"] (sp4 (rV Xa) (rV Xa) Xa Xa (oL (oF Xa)) Zl K):=by
  refine Zm D FC (λvs H Q E h=>?_) (λf cdv A outer s H vs Q E hr h=>?_)
  . obtain ⟨v_0, v_1, v_2, v_3, a_0, a_1, a_2, a_3, b, rfl, _⟩:=h; rfl
  obtain ⟨v_0, v_1, v_2, v_3, a_0, a_1, a_2, a_3, b, rfl, h_0, h_1, h_2, h_3, hm, q⟩:=h
  have hu:=hu8 hr
  have hu1:=YI hr
  refine ⟨_, (Xd (XL (YV (sc:=(Xf Y6)) (N0:=["row", "lead", "arc", "prime"]) (tns:=["entry", "other"]) (caps:=[(0, "row"), (2, "arc"), (3, "prime")]) rfl (Em K rfl rfl Z.b_zip (Xc (pv 0) (Xc (pv 1) Xh))) (VF (by decide) (by decide)) (λcl C s H ex E=>⟨J9 K rfl rfl (XQ (Xp (i:=0) (show List.Nodup (["entry", "other", "row", "arc", "prime"] : List Str) by decide +kernel) rfl (Or.inl rfl)) (XQ (Xp (i:=1) (show List.Nodup (["entry", "other", "row", "arc", "prime"] : List Str) by decide +kernel) rfl (Or.inl rfl)) ZJ)), Za, (Xo Yj (Xo V0 (pv 0) (Xo Yr (XO (Xm K rfl) (pv 2) (pv 3) (λ_ _=>rfl)) (pv 1))) (pv 4))⟩)))
    Xi), ?_⟩
  refine Zj (S:=(SC.add (SC.add (SC.add (SC.add SC.nil K (rV Xa) v_0 a_0) K (rV Xa) v_1 a_1) K Xa v_2 a_2) K Xa v_3 a_3)) (σ:=[some v_0, some v_1, some v_2, some v_3]) 0 ?_ (SC.i (SC.i (SC.i (SC.i SC.t h_0) h_1) h_2) h_3) hm q rfl
  unfold Zl
  exact (XJ (Y9 (λ_=>tg2 0 1) (Gy (Xk (r:=(rV Xa)) 0 rfl (λ_ s=>s.l.l.l.r)) (Xk (r:=(rV Xa)) 1 rfl (λ_ s=>s.l.l.r))) (λC3 a4 v5=>(EvS.ev (EvB.sh (XU (Jd (Xb (r:=Xa) 0 rfl (λ_ s=>s.l.r)) (XZ (XI (Xb (r:=(rV Xa)) 2 rfl (λ_ s=>s.l.l.l.l.l.r)) (Xb (r:=Xa) 3 rfl (λ_ s=>s.l.l.l.r))) (Xb (r:=Xa) 1 rfl (λ_ s=>s.r)))) (Xb (r:=Xa) 4 rfl (λ_ s=>s.l.l.r))))))))
theorem YN : FnScope ["rows", "count", "prime", "told", "waiting", "arc", "leads", "lead"] ["rows", "count", "prime"] (Xf Yn):=⟨rfl, rfl, rfl, by decide +kernel, rfl, by decide +kernel, by decide +kernel⟩
theorem K6 (D : Def K mg "led_rows" Yn ["rows", "count", "prime"]) (g_times : Fn P w K mg base 1 "times" ["row", "number", "prime"] (sp3 (rV Xa) Xa Xa (oL (oF Xa)) Jj K)) (g_inverse_rest : Fn P w K mg base 1 "inverse_rest" ["number", "prime"] (sp2 Xa Xa (oF Xa) YE K)) (g_cleared : Fn P w K mg base 1 "cleared" ["row", "lead", "arc", "prime"] (sp4 (rV Xa) (rV Xa) Xa Xa (oL (oF Xa)) Zl K)) (Y : Ecs XB K mg) (Z : Blt mg) : Fn P w K mg base 2 "led_rows" ["rows", "count", "prime"] (sp3 (rV (rV Xa)) Xa Xa (oL (oT2 (oF Xa) (oL (oF Xa)))) Zv K):=by
  refine Zm D YN (λvs H Q E h=>?_) (λf cdv A outer s H vs Q E hr h=>?_)
  . obtain ⟨v_0, v_1, v_2, a_0, a_1, a_2, b, rfl, _⟩:=h; rfl
  obtain ⟨v_0, v_1, v_2, a_0, a_1, a_2, b, rfl, h_0, h_1, h_2, hm, q⟩:=h
  have hu:=hu8 hr
  have hu1:=YI hr
  refine ⟨_, (Xd (Xl (i:=3) YN.nd rfl (Or.inl rfl) (Ys Xh))
    (Xd (Xl (i:=4) YN.nd rfl (Or.inl rfl) (pv 0))
    (Xd (YZ PassesOwn.never rfl (YS rfl Z.b_range (Xc (pv 1) Xh)) (Xp (i:=5) YN.nd rfl (Or.inr rfl))
      (Xd (Q8 6 (Xf Yn) ["rows", "count", "prime", "told", "waiting", "arc", "leads", "lead"] ["row"] [(5, "arc")] rfl YN.nd rfl rfl (XT (K:=K) rfl (pv 4)) (Zg (by decide)) (λcl C s H ex E=>⟨Xp (i:=0) (show List.Nodup (["row", "arc"] : List Str) by decide +kernel) rfl (Or.inl rfl), (UJ (XR Mu (XO (Xm K rfl) (pv 0) (pv 1) (λ_ _=>rfl)) Xg (X5 _))), (pv 0)⟩))
      (Xd (Zu (XR CP (XF (Xu K rfl) rfl Z.b_len PySem.boot_len (Xc (pv 6) Xh)) Xg (X5 _))
        (Xd (Xl (i:=7) YN.nd rfl (Or.inr rfl) (YO g_times hr (by decide) (Xc (XO (Xm K rfl) (pv 6) Xg (λ_ _=>rfl)) (Xc (YO g_inverse_rest hr (by decide) (Xc (XO (Xm K rfl) (XO (Xm K rfl) (pv 6) Xg (λ_ _=>rfl)) (pv 5) (λ_ _=>rfl)) (Xc (pv 2) Xh))) (Xc (pv 2) Xh)))))
        (Xd (Q8 4 (Xf Yn) ["rows", "count", "prime", "told", "waiting", "arc", "leads", "lead"] ["row"] [(7, "lead"), (5, "arc"), (2, "prime")] rfl YN.nd rfl rfl (XT (K:=K) rfl (pv 4)) (Zg (by decide)) (λcl C s H ex E=>⟨Xp (i:=0) (show List.Nodup (["row", "lead", "arc", "prime"] : List Str) by decide +kernel) rfl (Or.inl rfl), Za, (YO g_cleared hr (by decide) (Xc (pv 0) (Xc (pv 1) (Xc (pv 2) (Xc (pv 3) Xh)))))⟩))
        (Xd (Xl (i:=3) YN.nd rfl (Or.inl rfl) (Xo Gr (YV (sc:=(Xf Yn)) (N0:=["rows", "count", "prime", "told", "waiting", "arc", "leads", "lead"]) (tns:=["other", "row"]) (caps:=[(7, "lead"), (5, "arc"), (2, "prime")]) rfl (XT (K:=K) rfl (pv 3)) (VF (by decide) (by decide)) (λcl C s H ex E=>⟨J9 K rfl rfl (XQ (Xp (i:=0) (show List.Nodup (["other", "row", "lead", "arc", "prime"] : List Str) by decide +kernel) rfl (Or.inl rfl)) (XQ (Xp (i:=1) (show List.Nodup (["other", "row", "lead", "arc", "prime"] : List Str) by decide +kernel) rfl (Or.inl rfl)) ZJ)), Za, (Zr (Xc (pv 0) (Xc (YO g_cleared hr (by decide) (Xc (pv 1) (Xc (pv 2) (Xc (pv 3) (Xc (pv 4) Xh))))) Xh)))⟩)) (Ys (Xc (Zr (Xc (pv 5) (Xc (pv 7) Xh))) Xh))))
        Xi)))
        Xi)
      Xi)))
    (Xd (XL (pv 3))
    Xi)))), ?_⟩
  refine Zj (S:=(SC.add (SC.add (SC.add SC.nil K (rV (rV Xa)) v_0 a_0) K Xa v_1 a_1) K Xa v_2 a_2)) (σ:=[some v_0, some v_1, some v_2, none, none, none, none, none]) 2 ?_ (SC.i (SC.i (SC.i SC.t h_0) h_1) h_2) hm q rfl
  unfold Zv
  exact (X1 (K:=K) (o:=(oL (oT2 (oF Xa) (oL (oF Xa))))) 3 0 (JC (o:=(oT2 (oF Xa) (oL (oF Xa))))) (Nat.le_of_ble_eq_true rfl) λa1 v2 C3=>(Xs (K:=K) (r:=(rV (rV Xa))) 4 (Xk (r:=(rV (rV Xa))) 0 rfl (λ_ s=>s.l.l.l.r)) λa4 v5=>(Ze (K:=K) (J:=({ oo:=λx7=>[x7.2.2.2.2.2, []], ss:=λx7=>[some v_0, some v_1, some v_2, some x7.2.2.2.2.1, some x7.2.2.2.1, x7.1, x7.2.1, x7.2.2.1], sc:=λg8 x7=>(SC.addO (SC.add (SC.add (SC.add (SC.add SC.nil K (rV (rV Xa)) v_0 a_0) K Xa v_1 a_1) K Xa v_2 a_2) K (rV (rV Xa)) x7.2.2.2.1 g8.1) K (oL (oT2 (oF Xa) (oL (oF Xa)))) x7.2.2.2.2.1 g8.2 x7.2.2.2.2.2) } : Jn ((List (List Int)) × (List (Int × (List Int)))) (Option V × Option V × Option V × V × V × List XG))) (λ_=>tg1 5) ((none), (none), (none), v5, v2, C3) (a4, a1) (Yl (Xb (r:=Xa) 1 rfl (λ_ s=>s.l.l.l.r))) rfl rfl (λ_ s=>(SC.i (SC.i (SC.i (SC.i (SC.i SC.t s.l.l.l.l.r) s.l.l.l.r) s.l.l.r) s.r) s.l.r)) (λg9 x10 a11 v12=>(Xs (K:=K) (r:=(rV (rV Xa))) 6 (Ev.sh (JP (λ_=>tg1 0) (XH (Xk (r:=(rV (rV Xa))) 4 rfl (λ_ s=>s.l.l.r))) (λC15 a16 v17=>(XC (K:=K) (LO (XI (Xb (r:=(rV Xa)) 0 rfl (λ_ s=>s.r)) (Xb (r:=Xa) 1 rfl (λ_ s=>s.l.r))) (Xe 0)))) (λC15 a16 v17=>(EvS.ev (Xk (r:=(rV Xa)) 0 rfl (λ_ s=>s.r)))))) λa13 v14=>(Zo (J:=({ oo:=λx27=>[x27.2.2.2, []], ss:=λx27=>[some v_0, some v_1, some v_2, some x27.2.2.1, some x27.2.1, some v12, some v14, x27.1], sc:=λg28 x27=>(SC.addO (SC.add (SC.add (SC.add (SC.add (SC.add (SC.add SC.nil K (rV (rV Xa)) v_0 a_0) K Xa v_1 a_1) K Xa v_2 a_2) K Xa v12 a11) K (rV (rV Xa)) v14 a13) K (rV (rV Xa)) x27.2.1 g28.1) K (oL (oT2 (oF Xa) (oL (oF Xa)))) x27.2.2.1 g28.2 x27.2.2.2) } : Jn ((List (List Int)) × (List (Int × (List Int)))) (Option V × V × V × List XG))) (Z3 (Fd:=FNd ({ oo:=λx27=>[x27.2.2.2, []], ss:=λx27=>[some v_0, some v_1, some v_2, some x27.2.2.1, some x27.2.1, some v12, some v14, x27.1], sc:=λg28 x27=>(SC.addO (SC.add (SC.add (SC.add (SC.add (SC.add (SC.add SC.nil K (rV (rV Xa)) v_0 a_0) K Xa v_1 a_1) K Xa v_2 a_2) K Xa v12 a11) K (rV (rV Xa)) v14 a13) K (rV (rV Xa)) x27.2.1 g28.1) K (oL (oT2 (oF Xa) (oL (oF Xa)))) x27.2.2.1 g28.2 x27.2.2.2) } : Jn ((List (List Int)) × (List (Int × (List Int)))) (Option V × V × V × List XG))) (XC (K:=K) (UO (YY (Xb (r:=(rV (rV Xa))) 6 rfl (λ_ s=>s.r))) (Xe 0))) (X1 (K:=K) (o:=(oL (oF Xa))) 7 1 (Qt (XI (Xb (r:=(rV (rV Xa))) 6 rfl (λ_ s=>s.r)) (Xe 0)) (Ev.toB (Zh (XI (XI (Xb (r:=(rV (rV Xa))) 6 rfl (λ_ s=>s.r)) (Xe 0)) (Xb (r:=Xa) 5 rfl (λ_ s=>s.l.r))) (Xb (r:=Xa) 2 rfl (λ_ s=>s.l.l.l.l.r)))) (Xb (r:=Xa) 2 rfl (λ_ s=>s.l.l.l.l.r))) (Nat.le_of_ble_eq_true rfl) λa29 v30 C31=>(Xs (K:=K) (r:=(rV (rV Xa))) 4 (Ev.sh (Y9 (λ_=>tg1 0) (XH (Xk (r:=(rV (rV Xa))) 4 rfl (λ_ s=>s.l.l.l.l.r))) (λC47 a48 v49=>(Q0 (Xb (r:=(rV Xa)) 0 rfl (λ_ s=>s.r)) (Zp (o:=(oL (oF Xa))) 1 2 rfl rfl (λ_ s=>s.l.r)) (Xb (r:=Xa) 2 rfl (λ_ s=>s.l.l.l.r)) (Xb (r:=Xa) 3 rfl (λ_ s=>s.l.l.l.l.l.l.r)))))) λa45 v46=>(X1 (K:=K) (o:=(oL (oT2 (oF Xa) (oL (oF Xa))))) 3 0 (HC (Uh (K:=K) (o1:=(oL (oT2 (oF Xa) (oL (oF Xa))))) 0 rfl (λ_ s=>s.l.l.l.l.r) (Y9 (λ_=>tg2 0 1) (XH (Xk (r:=(rV (rP2 Xa (rV Xa)))) 3 rfl (λ_ s=>s.r))) (λC61 a62 v63=>(QS (EvS.ev (Xk (r:=Xa) 0 rfl (λ_ s=>s.l.r))) λ_=>(Q0 (Xb (r:=(rV Xa)) 1 rfl (λ_ s=>s.r)) (Zp (o:=(oL (oF Xa))) 2 3 rfl rfl (λ_ s=>s.l.l.l.l.r)) (Xb (r:=Xa) 3 rfl (λ_ s=>s.l.l.l.l.l.l.r)) (Xb (r:=Xa) 4 rfl (λ_ s=>s.l.l.l.l.l.l.l.l.l.r))))))) λ_=>(Hc (CQ (QS (EvS.ev (Xk (r:=Xa) 5 rfl (λ_ s=>s.l.l.l.r))) λ_=>(YK (o:=(oL (oF Xa))) 7 3 rfl rfl (λ_ s=>s.l.r))) λ_=>BF))) (Nat.le_of_ble_eq_true rfl) λa56 v57 C58=>(XE (J:=_) ((some v30), v46, v57, C58) (a45, a56) rfl rfl (λ_ s=>(SC.i (SC.i (SC.i (SC.i (SC.i (SC.i (SC.i SC.t s.l.l.l.l.l.l.l.l.l.r) s.l.l.l.l.l.l.l.l.r) s.l.l.l.l.l.l.l.r) s.l.l.l.l.r) s.l.l.l.r) s.l.r) s.r)))))) (XE (J:=_) ((x10.2.2.1), x10.2.2.2.1, x10.2.2.2.2.1, x10.2.2.2.2.2) (g9.1, g9.2) rfl rfl (λ_ s=>(SC.i (SC.i (SC.i (SC.i (SC.i (SC.i (SC.i SC.t s.l.l.l.l.l.l.r) s.l.l.l.l.l.r) s.l.l.l.l.r) s.l.r) s.r) s.l.l.l.r) s.l.l.r)))) λg78 x77=>(XE (J:=_) ((some v12), (some v14), (x77.1), x77.2.1, x77.2.2.1, x77.2.2.2) (g78.1, g78.2) rfl rfl (λ_ s=>(SC.i (SC.i (SC.i (SC.i (SC.i SC.t s.l.l.l.l.l.l.r) s.l.l.l.l.l.r) s.l.l.l.l.r) s.l.r) s.r)))))) λg79 x80=>(XJ (YK (o:=(oL (oT2 (oF Xa) (oL (oF Xa))))) 3 0 rfl rfl (λ_ s=>s.r))))))
theorem F9 : FnScope ["count", "at", "numbers"] ["count", "at"] (Xf Jv):=⟨rfl, rfl, rfl, by decide +kernel, rfl, by decide +kernel, by decide +kernel⟩
theorem Io (D : Def K mg "unit" Jv ["count", "at"])  (Y : Ecs XB K mg) (Z : Blt mg) : Fn P w K mg base 1 "unit" ["count", "at"] (sp2 Xa Xa (oL (oF Xa)) Js K):=by
  refine Zm D F9 (λvs H Q E h=>?_) (λf cdv A outer s H vs Q E hr h=>?_)
  . obtain ⟨v_0, v_1, a_0, a_1, b, rfl, _⟩:=h; rfl
  obtain ⟨v_0, v_1, a_0, a_1, b, rfl, h_0, h_1, hm, q⟩:=h
  have hu:=hu8 hr
  have hu1:=YI hr
  refine ⟨_, (Xd (Xl (i:=2) F9.nd rfl (Or.inl rfl) (Xo U7 (Ys (Xc Xg Xh)) (pv 0)))
    (Xd (Co Xg (Df (pv 2) (pv 1) Qn))
    (Xd (XL (pv 2))
    Xi))), ?_⟩
  refine Zj (S:=(SC.add (SC.add SC.nil K Xa v_0 a_0) K Xa v_1 a_1)) (σ:=[some v_0, some v_1, none]) 1 ?_ (SC.i (SC.i SC.t h_0) h_1) hm q rfl
  unfold Js
  exact (X1 (K:=K) (o:=(oL (oF Xa))) 2 0 (U8 (Ev.ls (ZN (Xn (EvB.sh (Xe 0)) Zf))) (Xb (r:=Xa) 0 rfl (λ_ s=>s.l.r))) (Nat.le_of_ble_eq_true rfl) λa1 v2 C3=>(Ud (K:=K) (o:=(oF Xa)) 2 0 rfl rfl (λ_ s=>s.r) (EvS.ev (EvB.sh (Xe 1))) (λ_=>(Xb (r:=Xa) 1 rfl (λ_ s=>s.l.r))) λa11 C12=>(XJ (YK (o:=(oL (oF Xa))) 2 0 rfl rfl (λ_ s=>s.r)))))
theorem Vq : FnScope ["rows"] ["rows"] (Xf XW):=⟨rfl, rfl, rfl, by decide +kernel, rfl, by decide +kernel, by decide +kernel⟩
theorem Vp (D : Def K mg "with_factors" XW ["rows"]) (g_unit : Fn P w K mg base 1 "unit" ["count", "at"] (sp2 Xa Xa (oL (oF Xa)) Js K)) (Y : Ecs XB K mg) (Z : Blt mg) : Fn P w K mg base 2 "with_factors" ["rows"] (sp1 (rV (rV Xa)) (oL (oL (oF Xa))) YF K):=by
  refine Zm D Vq (λvs H Q E h=>?_) (λf cdv A outer s H vs Q E hr h=>?_)
  . obtain ⟨v_0, a_0, b, rfl, _⟩:=h; rfl
  obtain ⟨v_0, a_0, b, rfl, h_0, hm, q⟩:=h
  have hu:=hu8 hr
  have hu1:=YI hr
  refine ⟨_, (Xd (XL (YV (sc:=(Xf XW)) (N0:=["rows"]) (tns:=["at", "row"]) (caps:=[(0, "rows")]) rfl (Ck rfl Z.b_enumerate (pv 0)) (VF (by decide) (by decide)) (λcl C s H ex E=>⟨J9 K rfl rfl (XQ (Xp (i:=0) (show List.Nodup (["at", "row", "rows"] : List Str) by decide +kernel) rfl (Or.inl rfl)) (XQ (Xp (i:=1) (show List.Nodup (["at", "row", "rows"] : List Str) by decide +kernel) rfl (Or.inl rfl)) ZJ)), Za, (Xo Gr (pv 1) (YO g_unit hr (by decide) (Xc (XF (Xu K rfl) rfl Z.b_len PySem.boot_len (Xc (pv 2) Xh)) (Xc (pv 0) Xh))))⟩)))
    Xi), ?_⟩
  refine Zj (S:=(SC.add SC.nil K (rV (rV Xa)) v_0 a_0)) (σ:=[some v_0]) 0 ?_ (SC.i SC.t h_0) hm q rfl
  unfold YF
  exact (XJ (Y9 (λ_=>tg2 0 1) (KB (Xk (r:=(rV (rV Xa))) 0 rfl (λ_ s=>s.r))) (λC2 a3 v4=>(Ct (EvS.ls (Xk (r:=(rV Xa)) 1 rfl (λ_ s=>s.r))) (Ev.ls (Zh (YY (Xb (r:=(rV (rV Xa))) 2 rfl (λ_ s=>s.l.l.r))) (Xb (r:=Xa) 0 rfl (λ_ s=>s.l.r))))))))
theorem Y7 : FnScope ["free", "tied", "count", "prime", "colours", "arc", "row"] ["free", "tied", "count", "prime"] (Xf Yb):=⟨rfl, rfl, rfl, by decide +kernel, rfl, by decide +kernel, by decide +kernel⟩
theorem JT (D : Def K mg "colouring_of" Yb ["free", "tied", "count", "prime"]) (g_unit : Fn P w K mg base 1 "unit" ["count", "at"] (sp2 Xa Xa (oL (oF Xa)) Js K)) (Y : Ecs XB K mg) (Z : Blt mg) : Fn P w K mg base 2 "colouring_of" ["free", "tied", "count", "prime"] (sp4 Xa (rDf (rV Xa)) Xa Xa (oL (oF Xa)) YB K):=by
  refine Zm D Y7 (λvs H Q E h=>?_) (λf cdv A outer s H vs Q E hr h=>?_)
  . obtain ⟨v_0, v_1, v_2, v_3, a_0, a_1, a_2, a_3, b, rfl, _⟩:=h; rfl
  obtain ⟨v_0, v_1, v_2, v_3, a_0, a_1, a_2, a_3, b, rfl, h_0, h_1, h_2, h_3, hm, q⟩:=h
  have hu:=hu8 hr
  have hu1:=YI hr
  refine ⟨_, (Xd (Xl (i:=4) Y7.nd rfl (Or.inl rfl) (YO g_unit hr (by decide) (Xc (pv 2) (Xc (pv 0) Xh))))
    (Xd (YZ PassesOwn.never rfl (BS (pv 1)) (VU rfl (XQ (Xp (i:=5) Y7.nd rfl (Or.inl rfl)) (XQ (Xp (i:=6) Y7.nd rfl (Or.inl rfl)) ZJ)))
      (Xd (Co (Xo Yj (KJ Vl (XO (Xm K rfl) (pv 6) (pv 0) (λ_ _=>rfl))) (pv 3)) (Df (pv 4) (pv 5) Qn))
      Xi))
    (Xd (XL (pv 4))
    Xi))), ?_⟩
  refine Zj (S:=(SC.add (SC.add (SC.add (SC.add SC.nil K Xa v_0 a_0) K (rDf (rV Xa)) v_1 a_1) K Xa v_2 a_2) K Xa v_3 a_3)) (σ:=[some v_0, some v_1, some v_2, some v_3, none, none, none]) 1 ?_ (SC.i (SC.i (SC.i (SC.i SC.t h_0) h_1) h_2) h_3) hm q rfl
  unfold YB
  exact (X1 (K:=K) (o:=(oL (oF Xa))) 4 0 (Zh (Xb (r:=Xa) 2 rfl (λ_ s=>s.l.r)) (Xb (r:=Xa) 0 rfl (λ_ s=>s.l.l.l.r))) (Nat.le_of_ble_eq_true rfl) λa1 v2 C3=>(Ze (K:=K) (J:=({ oo:=λx7=>[x7.2.2.2], ss:=λx7=>[some v_0, some v_1, some v_2, some v_3, some x7.2.2.1, x7.1, x7.2.1], sc:=λg8 x7=>(SC.addO (SC.add (SC.add (SC.add (SC.add SC.nil K Xa v_0 a_0) K (rDf (rV Xa)) v_1 a_1) K Xa v_2 a_2) K Xa v_3 a_3) K (oL (oF Xa)) x7.2.2.1 g8 x7.2.2.2) } : Jn ((List Int)) (Option V × Option V × V × List XG))) (λ_=>tg2 5 6) ((none), (none), v2, C3) (a1) (KH (Xk (r:=(rDf (rV Xa))) 1 rfl (λ_ s=>s.l.l.l.r))) rfl rfl (λ_ s=>(SC.i (SC.i (SC.i (SC.i (SC.i SC.t s.l.l.l.l.r) s.l.l.l.r) s.l.l.r) s.l.r) s.r)) (λg9 x10 a11 v12=>(Ud (K:=K) (o:=(oF Xa)) 4 0 rfl rfl (λ_ s=>s.l.l.r) (EvS.ev (EvB.sh (XU (QC (XI (Xb (r:=(rV Xa)) 6 rfl (λ_ s=>s.r)) (Xb (r:=Xa) 0 rfl (λ_ s=>s.l.l.l.l.l.l.r)))) (Xb (r:=Xa) 3 rfl (λ_ s=>s.l.l.l.r))))) (λ_=>(Xb (r:=Xa) 5 rfl (λ_ s=>s.l.r))) λa20 C21=>(XE (J:=_) ((some v12.1), (some v12.2), x10.2.2.1, C21) (a20) rfl rfl (λ_ s=>(SC.i (SC.i (SC.i (SC.i (SC.i SC.t s.l.l.l.l.l.l.l.r) s.l.l.l.l.l.l.r) s.l.l.l.l.l.r) s.l.l.l.l.r) s.r))))) λg22 x23=>(XJ (YK (o:=(oL (oF Xa))) 4 0 rfl rfl (λ_ s=>s.r)))))
theorem ZP : FnScope ["drawing", "prime", "factor", "count", "rows", "tied", "frees", "basis"] ["drawing", "prime", "factor"] (Xf Y5):=⟨rfl, rfl, rfl, by decide +kernel, rfl, by decide +kernel, by decide +kernel⟩
theorem Be (D : Def K mg "solved" Y5 ["drawing", "prime", "factor"]) (g_arc_count : Fn P w K mg base 2 "arc_count" ["drawing"] (sp1 (rP2 (rV (rV Xa)) (rV (rP2 Xa Xa))) (oF Xa) YH K)) (g_led_rows : Fn P w K mg base 2 "led_rows" ["rows", "count", "prime"] (sp3 (rV (rV Xa)) Xa Xa (oL (oT2 (oF Xa) (oL (oF Xa)))) Zv K)) (g_with_factors : Fn P w K mg base 2 "with_factors" ["rows"] (sp1 (rV (rV Xa)) (oL (oL (oF Xa))) YF K)) (g_colouring_of : Fn P w K mg base 2 "colouring_of" ["free", "tied", "count", "prime"] (sp4 Xa (rDf (rV Xa)) Xa Xa (oL (oF Xa)) YB K)) (g_equations : FnX P w K mg base 6 "equations" ["drawing", "prime", "factor"] (Bi mg (rP2 (rV (rV Xa)) (rV (rP2 Xa Xa))) Xa Xa (oL (oL (oF Xa))) X4 K)) (Y : Ecs XB K mg) (Z : Blt mg) : FnX P w K mg base 7 "solved" ["drawing", "prime", "factor"] (Bi mg (rP2 (rV (rV Xa)) (rV (rP2 Xa Xa))) Xa Xa (oT3 (oL (oF Xa)) (oL (oL (oF Xa))) (oL (oT2 (oF Xa) (oL (oF Xa))))) Y3 K):=by
  refine QV D ZP (λvs H Q E h=>?_) (λf cdv A outer s H vs Q E hr h=>?_)
  . obtain ⟨v_0, v_1, v_2, a_0, a_1, a_2, rfl, _⟩:=h; rfl
  obtain ⟨v_0, v_1, v_2, a_0, a_1, a_2, rfl, h_0, h_1, h_2, hz⟩:=h
  have hu:=hu8 hr
  have hu1:=YI hr
  refine ⟨_, (Xd (PS.nox (Xl (i:=3) ZP.nd rfl (Or.inr rfl) (YO g_arc_count hr (by decide) (Xc (pv 0) Xh))))
    (Xd (Xl (i:=4) ZP.nd rfl (Or.inl rfl) (YO g_led_rows hr (by decide) (Xc (YO g_with_factors hr (by decide) (Xc (ZH g_equations hr (by decide) Q5 (Xc (pv 0) (Xc (pv 1) (Xc (pv 2) Xh)))) Xh)) (Xc (pv 3) (Xc (pv 1) Xh)))))
    (Xd (PS.nox (Xl (i:=5) ZP.nd rfl (Or.inr rfl) (QX (Ky K rfl rfl) rfl Z.b_dict PyProof.Rows.boot_dict (Xc (pv 4) Xh))))
    (Xd (PS.nox (Q8 6 (Xf Y5) ["drawing", "prime", "factor", "count", "rows", "tied", "frees", "basis"] ["arc"] [(5, "tied")] rfl ZP.nd rfl rfl (YS rfl Z.b_range (Xc (pv 3) Xh)) (Zg (by decide)) (λcl C s H ex E=>⟨Xp (i:=0) (show List.Nodup (["arc", "tied"] : List Str) by decide +kernel) rfl (Or.inl rfl), (UJ (Lm (DB hu1 (pv 0) (pv 1)))), (pv 0)⟩)))
    (Xd (PS.nox (Q8 7 (Xf Y5) ["drawing", "prime", "factor", "count", "rows", "tied", "frees", "basis"] ["free"] [(5, "tied"), (3, "count"), (1, "prime")] rfl ZP.nd rfl rfl (XT (K:=K) rfl (pv 6)) (Zg (by decide)) (λcl C s H ex E=>⟨Xp (i:=0) (show List.Nodup (["free", "tied", "count", "prime"] : List Str) by decide +kernel) rfl (Or.inl rfl), Za, (Mh 1 (YO g_colouring_of hr (by decide) (Xc (pv 0) (Xc (pv 1) (Xc (pv 2) (Xc (pv 3) Xh))))))⟩)))
    (Xd (PS.nox (XL (Zr (Xc (pv 6) (Xc (pv 7) (Xc (YV (sc:=(Xf Y5)) (N0:=["drawing", "prime", "factor", "count", "rows", "tied", "frees", "basis"]) (tns:=["arc", "row"]) (caps:=[(3, "count")]) rfl (XT (K:=K) rfl (pv 4)) (VF (by decide) (by decide)) (λcl C s H ex E=>⟨J9 K rfl rfl (XQ (Xp (i:=0) (show List.Nodup (["arc", "row", "count"] : List Str) by decide +kernel) rfl (Or.inl rfl)) (XQ (Xp (i:=1) (show List.Nodup (["arc", "row", "count"] : List Str) by decide +kernel) rfl (Or.inl rfl)) ZJ)), Za, (Zr (Xc (pv 0) (Xc (Uk (Ux K rfl) (pv 1) (Gh (pv 2)) KN) Xh)))⟩)) Xh))))))
    Xi)))))), ?_⟩
  refine Jp (S:=(SC.add (SC.add (SC.add SC.nil K (rP2 (rV (rV Xa)) (rV (rP2 Xa Xa))) v_0 a_0) K Xa v_1 a_1) K Xa v_2 a_2)) (σ:=[some v_0, some v_1, some v_2, none, none, none, none, none]) 3 ?_ (SC.i (SC.i (SC.i SC.t h_0) h_1) h_2) hz rfl
  unfold Y3
  exact (Xs (K:=K) (r:=Xa) 3 (EvB.sh (Ev.toB (YT (Xb (r:=(rP2 (rV (rV Xa)) (rV (rP2 Xa Xa)))) 0 rfl (λ_ s=>s.l.l.r))))) λa1 v2=>(Xs (K:=K) (r:=(rV (rP2 Xa (rV Xa)))) 4 (Ev.sh (Qt (Ev.toB (YT (Ev.toB (Zy (Xb (r:=(rP2 (rV (rV Xa)) (rV (rP2 Xa Xa)))) 0 rfl (λ_ s=>s.l.l.l.r)) (Xb (r:=Xa) 1 rfl (λ_ s=>s.l.l.r)) (Xb (r:=Xa) 2 rfl (λ_ s=>s.l.r)))))) (Xb (r:=Xa) 3 rfl (λ_ s=>s.r)) (Xb (r:=Xa) 1 rfl (λ_ s=>s.l.l.r)))) λa5 v6=>(X1 (K:=K) (o:=(oD (rV Xa))) 5 2 (Bq (EvS.ls (Xk (r:=(rV (rP2 Xa (rV Xa)))) 4 rfl (λ_ s=>s.r)))) (Nat.le_of_ble_eq_true rfl) λa16 v17 C18=>(X1 (K:=K) (o:=(oL (oF Xa))) 6 0 (JP (λ_=>tg1 0) (Yl (Xb (r:=Xa) 3 rfl (λ_ s=>s.l.l.r))) (λC24 a25 v26=>(Fm (K:=K) (B2 (Xb (r:=Xa) 0 rfl (λ_ s=>s.r)) (Zp (o:=(oD (rV Xa))) 1 3 rfl rfl (λ_ s=>s.l.r))))) (λC24 a25 v26=>(EvS.ev (Xk (r:=Xa) 0 rfl (λ_ s=>s.r))))) (Nat.le_of_ble_eq_true rfl) λa20 v21 C22=>(X1 (K:=K) (o:=(oL (oL (oF Xa)))) 7 1 (Uh (K:=K) (o1:=(oL (oF Xa))) 0 rfl (λ_ s=>s.r) (Y9 (λ_=>tg1 0) (XH (Xk (r:=(rV Xa)) 6 rfl (λ_ s=>s.r))) (λC33 a34 v35=>(Bn (K:=K) (r:=(rV Xa)) 1 3 rfl rfl (λ_ s=>s.l.l.l.r) (λ_=>UW) (Q0 (Xb (r:=Xa) 0 rfl (λ_ s=>s.l.r)) (Xb (r:=(rDf (rV Xa))) 1 rfl (λ_ s=>s.r)) (Xb (r:=Xa) 2 rfl (λ_ s=>s.l.l.l.l.l.l.r)) (Xb (r:=Xa) 3 rfl (λ_ s=>s.l.l.l.l.l.l.l.l.r))))))) (Nat.le_of_ble_eq_true rfl) λa30 v31 C32=>(XJ (B8 (YK (o:=(oL (oF Xa))) 6 0 rfl rfl (λ_ s=>s.l.r)) (λ_=>(YK (o:=(oL (oL (oF Xa)))) 7 2 rfl rfl (λ_ s=>s.r))) λ_ _=>(Y9 (λ_=>tg2 0 1) (XH (Xk (r:=(rV (rP2 Xa (rV Xa)))) 4 rfl (λ_ s=>s.l.l.l.r))) (λC43 a44 v45=>(QS (EvS.ev (Xk (r:=Xa) 0 rfl (λ_ s=>s.l.r))) λ_=>(GL (EvS.ls (Xk (r:=(rV Xa)) 1 rfl (λ_ s=>s.r))) (Ui (K:=K) (Xb (r:=Xa) 2 rfl (λ_ s=>s.l.l.l.l.l.l.r))) UE)))))))))))
theorem YW : FnScope ["drawing", "prime", "factor", "number", "free"] ["drawing", "prime", "factor"] (Xf X0):=⟨rfl, rfl, rfl, by decide +kernel, rfl, by decide +kernel, by decide +kernel⟩
theorem JG (D : Def K mg "straight_many" X0 ["drawing", "prime", "factor"]) (g_solved : FnX P w K mg base 7 "solved" ["drawing", "prime", "factor"] (Bi mg (rP2 (rV (rV Xa)) (rV (rP2 Xa Xa))) Xa Xa (oT3 (oL (oF Xa)) (oL (oL (oF Xa))) (oL (oT2 (oF Xa) (oL (oF Xa))))) Y3 K)) (Y : Ecs XB K mg) (Z : Blt mg) : FnX P w K mg base 8 "straight_many" ["drawing", "prime", "factor"] (Bi mg (rP2 (rV (rV Xa)) (rV (rP2 Xa Xa))) Xa Xa (oF Xa) XY K):=by
  refine QV D YW (λvs H Q E h=>?_) (λf cdv A outer s H vs Q E hr h=>?_)
  . obtain ⟨v_0, v_1, v_2, a_0, a_1, a_2, rfl, _⟩:=h; rfl
  obtain ⟨v_0, v_1, v_2, a_0, a_1, a_2, rfl, h_0, h_1, h_2, hz⟩:=h
  have hu:=hu8 hr
  have hu1:=YI hr
  refine ⟨_, (Xd (PS.nox (Xl (i:=3) YW.nd rfl (Or.inl rfl) Xg))
    (Xd (YZ PassesOwn.leaving rfl (XT (K:=K) rfl (XO (YQ K rfl) (ZH g_solved hr (by decide) Q5 (Xc (pv 0) (Xc (pv 1) (Xc (pv 2) Xh)))) Xg (λ_ _=>rfl))) (Xp (i:=4) YW.nd rfl (Or.inl rfl))
      (Xd (PS.nox (Kk (i:=3) YW.nd rfl (Or.inl rfl) (pv 1) IY))
      Xi))
    (Xd (PS.nox (XL (pv 3)))
    Xi))), ?_⟩
  refine Jp (S:=(SC.add (SC.add (SC.add SC.nil K (rP2 (rV (rV Xa)) (rV (rP2 Xa Xa))) v_0 a_0) K Xa v_1 a_1) K Xa v_2 a_2)) (σ:=[some v_0, some v_1, some v_2, none, none]) 0 ?_ (SC.i (SC.i (SC.i SC.t h_0) h_1) h_2) hz rfl
  unfold XY
  exact (Xs (K:=K) (r:=Xa) 3 (EvB.sh (Xe 1)) λa1 v2=>(Ze (K:=K) (J:=({ oo:=λx7=>[], ss:=λx7=>[some v_0, some v_1, some v_2, some x7.2, x7.1], sc:=λg8 x7=>(SC.add (SC.add (SC.add (SC.add SC.nil K (rP2 (rV (rV Xa)) (rV (rP2 Xa Xa))) v_0 a_0) K Xa v_1 a_1) K Xa v_2 a_2) K Xa x7.2 g8) } : Jn (Int) (Option V × V))) (λ_=>tg1 4) ((none), v2) (a1) (XH (F5 (Ev.sh (Zy (Xb (r:=(rP2 (rV (rV Xa)) (rV (rP2 Xa Xa)))) 0 rfl (λ_ s=>s.l.l.l.r)) (Xb (r:=Xa) 1 rfl (λ_ s=>s.l.l.r)) (Xb (r:=Xa) 2 rfl (λ_ s=>s.l.r)))))) rfl rfl (λ_ s=>(SC.i (SC.i (SC.i (SC.i SC.t s.l.l.l.r) s.l.l.r) s.l.r) s.r)) (λg9 x10 a11 v12=>(HE (K:=K) 3 rfl (λ_ s=>s.l.r) (Xb (r:=Xa) 1 rfl (λ_ s=>s.l.l.l.r)) λa15 v14=>(XE (J:=_) ((some v12), v14) (a15) rfl rfl (λ_ s=>(SC.i (SC.i (SC.i (SC.i SC.t s.l.l.l.l.l.r) s.l.l.l.l.r) s.l.l.l.r) s.r))))) λg16 x17=>(XJ (EvS.ev (Xk (r:=Xa) 3 rfl (λ_ s=>s.r))))))
theorem Uu : FnScope ["_law_script", "_law_place", "_law_seed", "_law_cell_here"] ["_law_script", "_law_place"] (Xf Ju):=⟨rfl, rfl, rfl, by decide +kernel, rfl, by decide +kernel, by decide +kernel⟩
theorem HM (D : Def K mg "_law_cell" Ju ["_law_script", "_law_place"])  (Y : Ecs XB K mg) (Z : Blt mg) : Fn P w K mg base 1 "_law_cell" ["_law_script", "_law_place"] (sp2 (rL Xa) Xa (oF Xa) Vh K):=by
  refine Zm D Uu (λvs H Q E h=>?_) (λf cdv A outer s H vs Q E hr h=>?_)
  . obtain ⟨v_0, v_1, a_0, a_1, b, rfl, _⟩:=h; rfl
  obtain ⟨v_0, v_1, a_0, a_1, b, rfl, h_0, h_1, hm, q⟩:=h
  have hu:=hu8 hr
  have hu1:=YI hr
  refine ⟨_, (Xd (Zu (XR Ke (pv 1) (XF (Xu K rfl) rfl Z.b_len PySem.boot_len (Xc (pv 0) Xh)) (X5 _))
      (Xd (XL (XO (Xm K rfl) (pv 0) (pv 1) (λ_ _=>rfl)))
      Xi)
      Xi)
    (Xd (Xl (i:=2) Uu.nd rfl (Or.inl rfl) Xg)
    (Xd (YZ PassesOwn.never rfl (XT (K:=K) rfl (Uk (Ux K rfl) (pv 0) KN (Gh Xg))) (Xp (i:=3) Uu.nd rfl (Or.inl rfl))
      (Xd (Xl (i:=2) Uu.nd rfl (Or.inl rfl) (Xo Yj (Xo Yh (Xo Yh (Xo Yr (pv 2) Xg) (Xo Yj (pv 3) Xg)) Xg) Xg))
      Xi))
    (Xd (XL (Xo Yj (Xo Yh (pv 2) (Xo Yr Xg (pv 1))) Xg))
    Xi)))), ?_⟩
  refine Zj (S:=(SC.add (SC.add SC.nil K (rL Xa) v_0 a_0) K Xa v_1 a_1)) (σ:=[some v_0, some v_1, none, none]) 0 ?_ (SC.i (SC.i SC.t h_0) h_1) hm q rfl
  unfold Vh
  exact (VR (XC (K:=K) (Jq (Xb (r:=Xa) 1 rfl (λ_ s=>s.r)) (BR (Xb (r:=(rL Xa)) 0 rfl (λ_ s=>s.l.r))))) (XJ (EvS.ev (EvB.sh (HJ (Xb (r:=(rL Xa)) 0 rfl (λ_ s=>s.l.r)) (Xb (r:=Xa) 1 rfl (λ_ s=>s.r)))))) (Xs (K:=K) (r:=Xa) 2 (EvB.sh (Xe 5)) λa7 v8=>(Ze (K:=K) (J:=({ oo:=λx13=>[], ss:=λx13=>[some v_0, some v_1, some x13.2, x13.1], sc:=λg14 x13=>(SC.add (SC.add (SC.add SC.nil K (rL Xa) v_0 a_0) K Xa v_1 a_1) K Xa x13.2 g14) } : Jn (Int) (Option V × V))) (λ_=>tg1 3) ((none), v8) (a7) (XH (Ev.sh (DW (Xb (r:=(rL Xa)) 0 rfl (λ_ s=>s.l.l.r)) UE (Ui (K:=K) (Xe 63))))) rfl rfl (λ_ s=>(SC.i (SC.i (SC.i SC.t s.l.l.r) s.l.r) s.r)) (λg15 x16 a17 v18=>(Xs (K:=K) (r:=Xa) 2 (EvB.sh (XU (XS (XS (XZ (Xb (r:=Xa) 2 rfl (λ_ s=>s.l.r)) (Xe 48271)) (XU (Xb (r:=Xa) 3 rfl (λ_ s=>s.r)) (Xe 1000003))) (Xe 1)) (Xe 2147483647))) λa19 v20=>(XE (J:=_) ((some v18), v20) (a19) rfl rfl (λ_ s=>(SC.i (SC.i (SC.i SC.t s.l.l.l.l.r) s.l.l.l.r) s.r))))) λg31 x32=>(XJ (EvS.ev (EvB.sh (XU (XS (Xb (r:=Xa) 2 rfl (λ_ s=>s.r)) (XZ (Xe 7919) (Xb (r:=Xa) 1 rfl (λ_ s=>s.l.r)))) (Xe 1000003))))))))
theorem Ce : FnScope ["_law_cell_here", "_law_k", "_law_one", "_law_two"] ["_law_cell_here", "_law_k"] (Xf UN):=⟨rfl, rfl, rfl, by decide +kernel, rfl, by decide +kernel, by decide +kernel⟩
theorem LI (D : Def K mg "_law_mix" UN ["_law_cell_here", "_law_k"])  (Y : Ecs XB K mg) (Z : Blt mg) : Fn P w K mg base 1 "_law_mix" ["_law_cell_here", "_law_k"] (sp2 Xa Xa (oF Xa) K8 K):=by
  refine Zm D Ce (λvs H Q E h=>?_) (λf cdv A outer s H vs Q E hr h=>?_)
  . obtain ⟨v_0, v_1, a_0, a_1, b, rfl, _⟩:=h; rfl
  obtain ⟨v_0, v_1, a_0, a_1, b, rfl, h_0, h_1, hm, q⟩:=h
  have hu:=hu8 hr
  have hu1:=YI hr
  refine ⟨_, (Xd (Xl (i:=2) Ce.nd rfl (Or.inl rfl) (Xo Yj (Xo UK (Xo Yh (Xo Yh (Xo Yj (pv 0) Xg) (Xo Yr Xg (pv 1))) Xg) Xg) Xg))
    (Xd (Xl (i:=3) Ce.nd rfl (Or.inl rfl) (Xo Yj (Xo Yh (Xo Yh (Xo Yr (pv 2) Xg) (Xo Yr (Xo Yr Xg (pv 1)) (pv 1))) Xg) Xg))
    (Xd (XL (Xo G5 (pv 3) Xg))
    Xi))), ?_⟩
  refine Zj (S:=(SC.add (SC.add SC.nil K Xa v_0 a_0) K Xa v_1 a_1)) (σ:=[some v_0, some v_1, none, none]) 0 ?_ (SC.i (SC.i SC.t h_0) h_1) hm q rfl
  unfold K8
  exact (Xs (K:=K) (r:=Xa) 2 (EvB.sh (XU (Vj (XS (XS (XU (Xb (r:=Xa) 0 rfl (λ_ s=>s.l.r)) (Xe 2147483629)) (XZ (Xe 1013) (Xb (r:=Xa) 1 rfl (λ_ s=>s.r)))) (Xe 7919)) (Xe 3)) (Xe 2147483647))) λa1 v2=>(Xs (K:=K) (r:=Xa) 3 (EvB.sh (XU (XS (XS (XZ (Xb (r:=Xa) 2 rfl (λ_ s=>s.r)) (Xe 40699)) (XZ (XZ (Xe 3793) (Xb (r:=Xa) 1 rfl (λ_ s=>s.l.r))) (Xb (r:=Xa) 1 rfl (λ_ s=>s.l.r)))) (Xe 11)) (Xe 2147483399))) λa15 v16=>(XJ (EvS.ev (EvB.sh (Bb (Xb (r:=Xa) 3 rfl (λ_ s=>s.r)) (Xe 101)))))))
theorem Vd : FnScope ["_law_script", "_law_place", "_law_sizes", "_law_cell_here", "_law_left", "_law_some", "_law_k", "_law_other"] ["_law_script", "_law_place", "_law_sizes"] (Xf KD):=⟨rfl, rfl, rfl, by decide +kernel, rfl, by decide +kernel, by decide +kernel⟩
theorem Ld (D : Def K mg "_law_row" KD ["_law_script", "_law_place", "_law_sizes"]) (g_cell : Fn P w K mg base 1 "_law_cell" ["_law_script", "_law_place"] (sp2 (rL Xa) Xa (oF Xa) Vh K)) (g_mix : Fn P w K mg base 1 "_law_mix" ["_law_cell_here", "_law_k"] (sp2 Xa Xa (oF Xa) K8 K)) (Y : Ecs XB K mg) (Z : Blt mg) : Fn P w K mg base 2 "_law_row" ["_law_script", "_law_place", "_law_sizes"] (sp3 (rL Xa) Xa (rV Xa) (oL (oF Xa)) Kg K):=by
  refine Zm D Vd (λvs H Q E h=>?_) (λf cdv A outer s H vs Q E hr h=>?_)
  . obtain ⟨v_0, v_1, v_2, a_0, a_1, a_2, b, rfl, _⟩:=h; rfl
  obtain ⟨v_0, v_1, v_2, a_0, a_1, a_2, b, rfl, h_0, h_1, h_2, hm, q⟩:=h
  have hu:=hu8 hr
  have hu1:=YI hr
  refine ⟨_, (Xd (Xl (i:=3) Vd.nd rfl (Or.inl rfl) (YO g_cell hr (by decide) (Xc (pv 0) (Xc (pv 1) Xh))))
    (Xd (Xl (i:=4) Vd.nd rfl (Or.inl rfl) (pv 3))
    (Xd (Xl (i:=5) Vd.nd rfl (Or.inl rfl) (Ys Xh))
    (Xd (YZ PassesOwn.never rfl (YS rfl Z.b_range (Xc (XF (Xu K rfl) rfl Z.b_len PySem.boot_len (Xc (pv 2) Xh)) Xh)) (Xp (i:=6) Vd.nd rfl (Or.inl rfl))
      (Xd (Zu (XR Ke (pv 3) (Xo UK Xg Xg) (X5 _))
        (Xd (YR (Z9 PySem.F.plainAttrs_list PySem.F.slot_list_append PySem.F.type_list_append Yk (pv 5) (Xc (Xo Yj (YO g_mix hr (by decide) (Xc (pv 3) (Xc (pv 6) Xh))) (XO (Xm K rfl) (pv 2) (pv 6) (λ_ _=>rfl))) Xh)))
        Xi)
        (Xd (Zu (XR CP (pv 4) Xg (X5 _))
          (Xd (YR (Z9 PySem.F.plainAttrs_list PySem.F.slot_list_append PySem.F.type_list_append Yk (pv 5) (Xc (Xo Yj (pv 4) (XO (Xm K rfl) (pv 2) (pv 6) (λ_ _=>rfl))) Xh)))
          (Xd (Xl (i:=4) Vd.nd rfl (Or.inl rfl) (Xo G5 (pv 4) (XO (Xm K rfl) (pv 2) (pv 6) (λ_ _=>rfl))))
          Xi))
          (Xd (Xl (i:=7) Vd.nd rfl (Or.inl rfl) (YO g_cell hr (by decide) (Xc (pv 0) (Xc (Xo Yj (Xo Yh (Xo Yh (pv 1) Xg) (pv 6)) Xg) Xh))))
          (Xd (YR (Z9 PySem.F.plainAttrs_list PySem.F.slot_list_append PySem.F.type_list_append Yk (pv 5) (Xc (Xo Yj (YO g_mix hr (by decide) (Xc (pv 7) (Xc (pv 6) Xh))) (XO (Xm K rfl) (pv 2) (pv 6) (λ_ _=>rfl))) Xh)))
          Xi)))
        Xi))
      Xi))
    (Xd (XL (pv 5))
    Xi))))), ?_⟩
  refine Zj (S:=(SC.add (SC.add (SC.add SC.nil K (rL Xa) v_0 a_0) K Xa v_1 a_1) K (rV Xa) v_2 a_2)) (σ:=[some v_0, some v_1, some v_2, none, none, none, none, none]) 1 ?_ (SC.i (SC.i (SC.i SC.t h_0) h_1) h_2) hm q rfl
  unfold Kg
  exact (Xs (K:=K) (r:=Xa) 3 (EvB.sh (Ev.toB (Zh (Xb (r:=(rL Xa)) 0 rfl (λ_ s=>s.l.l.r)) (Xb (r:=Xa) 1 rfl (λ_ s=>s.l.r))))) λa1 v2=>(Xs (K:=K) (r:=Xa) 4 (Xk (r:=Xa) 3 rfl (λ_ s=>s.r)) λa6 v7=>(X1 (K:=K) (o:=(oL (oF Xa))) 5 0 (JC (o:=(oF Xa))) (Nat.le_of_ble_eq_true rfl) λa8 v9 C10=>(Ze (K:=K) (J:=({ oo:=λx13=>[x13.2.2.2.2], ss:=λx13=>[some v_0, some v_1, some v_2, some v2, some x13.2.2.1, some x13.2.1, x13.1, x13.2.2.2.1], sc:=λg14 x13=>(SC.add (SC.addO (SC.add (SC.add (SC.add (SC.add SC.nil K (rL Xa) v_0 a_0) K Xa v_1 a_1) K (rV Xa) v_2 a_2) K Xa v2 a1) K (oL (oF Xa)) x13.2.1 g14.1 x13.2.2.2.2) K Xa x13.2.2.1 g14.2) } : Jn ((List Int) × Int) (Option V × V × V × Option V × List XG))) (λ_=>tg1 6) ((none), v9, v7, (none), C10) (a8, a6) (Yl (YY (Xb (r:=(rV Xa)) 2 rfl (λ_ s=>s.l.l.l.r)))) rfl rfl (λ_ s=>(SC.i (SC.i (SC.i (SC.i (SC.i (SC.i SC.t s.l.l.l.l.l.r) s.l.l.l.l.r) s.l.l.l.r) s.l.l.r) s.r) s.l.r)) (λg15 x16 a17 v18=>(Zo (J:=({ oo:=λx24=>[x24.2.2.2], ss:=λx24=>[some v_0, some v_1, some v_2, some v2, some x24.2.1, some x24.1, some v18, x24.2.2.1], sc:=λg25 x24=>(SC.add (SC.addO (SC.add (SC.add (SC.add (SC.add (SC.add SC.nil K (rL Xa) v_0 a_0) K Xa v_1 a_1) K (rV Xa) v_2 a_2) K Xa v2 a1) K Xa v18 a17) K (oL (oF Xa)) x24.1 g25.1 x24.2.2.2) K Xa x24.2.1 g25.2) } : Jn ((List Int) × Int) (V × V × Option V × List XG))) (Z3 (Fd:=FNd ({ oo:=λx24=>[x24.2.2.2], ss:=λx24=>[some v_0, some v_1, some v_2, some v2, some x24.2.1, some x24.1, some v18, x24.2.2.1], sc:=λg25 x24=>(SC.add (SC.addO (SC.add (SC.add (SC.add (SC.add (SC.add SC.nil K (rL Xa) v_0 a_0) K Xa v_1 a_1) K (rV Xa) v_2 a_2) K Xa v2 a1) K Xa v18 a17) K (oL (oF Xa)) x24.1 g25.1 x24.2.2.2) K Xa x24.2.1 g25.2) } : Jn ((List Int) × Int) (V × V × Option V × List XG))) (XC (K:=K) (Jq (Xb (r:=Xa) 3 rfl (λ_ s=>s.l.l.l.r)) (Vj (Xe 10) (Xe 18)))) (Z4 (K:=K) (o:=(oF Xa)) (f:=λa35=>(Rs.ok (a35, g15.2))) 5 0 rfl rfl rfl (λ_ s=>s.l.l.r) (EvS.ev (EvB.sh (XU (Ev.toB (Zh (Xb (r:=Xa) 3 rfl (λ_ s=>s.l.l.l.r)) (Xb (r:=Xa) 6 rfl (λ_ s=>s.r)))) (XI (Xb (r:=(rV Xa)) 2 rfl (λ_ s=>s.l.l.l.l.r)) (Xb (r:=Xa) 6 rfl (λ_ s=>s.r)))))) λa33 C34=>(XE (J:=_) (x16.2.1, x16.2.2.1, (x16.2.2.2.1), C34) ((g15.1 ++ [a33]), g15.2) rfl rfl (λ_ s=>(SC.i (SC.i (SC.i (SC.i (SC.i (SC.i (SC.i SC.t s.l.l.l.l.l.l.l.r) s.l.l.l.l.l.l.r) s.l.l.l.l.l.r) s.l.l.l.l.r) s.l.r) s.r) s.l.l.r)))) (Zo (J:=({ oo:=λx39=>[x39.2.2.2], ss:=λx39=>[some v_0, some v_1, some v_2, some v2, some x39.1, some x39.2.2.1, some v18, x39.2.1], sc:=λg40 x39=>(SC.addO (SC.add (SC.add (SC.add (SC.add (SC.add (SC.add SC.nil K (rL Xa) v_0 a_0) K Xa v_1 a_1) K (rV Xa) v_2 a_2) K Xa v2 a1) K Xa v18 a17) K Xa x39.1 g40.1) K (oL (oF Xa)) x39.2.2.1 g40.2 x39.2.2.2) } : Jn (Int × (List Int)) (V × Option V × V × List XG))) (Z3 (Fd:=FNd ({ oo:=λx39=>[x39.2.2.2], ss:=λx39=>[some v_0, some v_1, some v_2, some v2, some x39.1, some x39.2.2.1, some v18, x39.2.1], sc:=λg40 x39=>(SC.addO (SC.add (SC.add (SC.add (SC.add (SC.add (SC.add SC.nil K (rL Xa) v_0 a_0) K Xa v_1 a_1) K (rV Xa) v_2 a_2) K Xa v2 a1) K Xa v18 a17) K Xa x39.1 g40.1) K (oL (oF Xa)) x39.2.2.1 g40.2 x39.2.2.2) } : Jn (Int × (List Int)) (V × Option V × V × List XG))) (XC (K:=K) (UO (Xb (r:=Xa) 4 rfl (λ_ s=>s.l.r)) (Xe 0))) (Z4 (K:=K) (o:=(oF Xa)) (f:=λa47=>(Rs.bind (Rs.bind (Rs.ok g15.2) λx52=>(Rs.bind (Rs.bind (Rs.ok a_2) λx50=>(Rs.bind (Rs.ok a17) λx51=>(atR x50 x51))) λx53=>(Le x52 x53))) λa48=>(Rs.ok (a48, a47)))) 5 0 rfl rfl rfl (λ_ s=>s.l.l.r) (EvS.ev (EvB.sh (XU (Xb (r:=Xa) 4 rfl (λ_ s=>s.l.r)) (XI (Xb (r:=(rV Xa)) 2 rfl (λ_ s=>s.l.l.l.l.r)) (Xb (r:=Xa) 6 rfl (λ_ s=>s.r)))))) λa45 C46=>(Xs (K:=K) (r:=Xa) 4 (EvB.sh (Bb (Xb (r:=Xa) 4 rfl (λ_ s=>s.l.l.r)) (XI (Xb (r:=(rV Xa)) 2 rfl (λ_ s=>s.l.l.l.l.l.r)) (Xb (r:=Xa) 6 rfl (λ_ s=>s.l.r))))) λa48 v49=>(XE (J:=_) (v49, (x16.2.2.2.1), x16.2.1, C46) (a48, (g15.1 ++ [a45])) rfl rfl (λ_ s=>(SC.i (SC.i (SC.i (SC.i (SC.i (SC.i (SC.i SC.t s.l.l.l.l.l.l.l.l.r) s.l.l.l.l.l.l.l.r) s.l.l.l.l.l.l.r) s.l.l.l.l.l.r) s.l.l.r) s.r) s.l.r))))) (Xs (K:=K) (r:=Xa) 7 (EvB.sh (Ev.toB (Zh (Xb (r:=(rL Xa)) 0 rfl (λ_ s=>s.l.l.l.l.l.l.r)) (XU (XS (XS (Xb (r:=Xa) 1 rfl (λ_ s=>s.l.l.l.l.l.r)) (Xe 1)) (Xb (r:=Xa) 6 rfl (λ_ s=>s.r))) (Xe 63))))) λa54 v55=>(Z4 (K:=K) (o:=(oF Xa)) (f:=λa74=>(Rs.ok (g15.2, a74))) 5 0 rfl rfl rfl (λ_ s=>s.l.l.l.r) (EvS.ev (EvB.sh (XU (Ev.toB (Zh (Xb (r:=Xa) 7 rfl (λ_ s=>s.r)) (Xb (r:=Xa) 6 rfl (λ_ s=>s.l.r)))) (XI (Xb (r:=(rV Xa)) 2 rfl (λ_ s=>s.l.l.l.l.l.r)) (Xb (r:=Xa) 6 rfl (λ_ s=>s.l.r)))))) λa72 C73=>(XE (J:=_) (x16.2.2.1, (some v55), x16.2.1, C73) (g15.2, (g15.1 ++ [a72])) rfl rfl (λ_ s=>(SC.i (SC.i (SC.i (SC.i (SC.i (SC.i (SC.i SC.t s.l.l.l.l.l.l.l.l.r) s.l.l.l.l.l.l.l.r) s.l.l.l.l.l.l.r) s.l.l.l.l.l.r) s.l.l.r) s.l.l.l.r) s.r)))))) λg76 x75=>(XE (J:=_) (x75.2.2.1, x75.1, (x75.2.1), x75.2.2.2) (g76.2, g76.1) rfl rfl (λ_ s=>(SC.i (SC.i (SC.i (SC.i (SC.i (SC.i (SC.i SC.t s.l.l.l.l.l.l.r) s.l.l.l.l.l.r) s.l.l.l.l.r) s.l.l.l.r) s.l.l.r) s.r) s.l.r))))) λg78 x77=>(XE (J:=_) ((some v18), x77.1, x77.2.1, (x77.2.2.1), x77.2.2.2) (g78.1, g78.2) rfl rfl (λ_ s=>(SC.i (SC.i (SC.i (SC.i (SC.i (SC.i SC.t s.l.l.l.l.l.l.r) s.l.l.l.l.l.r) s.l.l.l.l.r) s.l.l.l.r) s.l.r) s.r))))) λg79 x80=>(XJ (YK (o:=(oL (oF Xa))) 5 0 rfl rfl (λ_ s=>s.l.r)))))))
theorem JH : FnScope ["_law_names", "_law_some", "_law_left", "_law_found", "_law_k"] ["_law_names", "_law_some"] (Xf Qh):=⟨rfl, rfl, rfl, by decide +kernel, rfl, by decide +kernel, by decide +kernel⟩
theorem BA (D : Def K mg "_law_mixed" Qh ["_law_names", "_law_some"])  (Y : Ecs XB K mg) (Z : Blt mg) : Fn P w K mg base 1 "_law_mixed" ["_law_names", "_law_some"] (sp2 (rV Xa) (rV Xa) (oL (oF Xa)) Jb K):=by
  refine Zm D JH (λvs H Q E h=>?_) (λf cdv A outer s H vs Q E hr h=>?_)
  . obtain ⟨v_0, v_1, a_0, a_1, b, rfl, _⟩:=h; rfl
  obtain ⟨v_0, v_1, a_0, a_1, b, rfl, h_0, h_1, hm, q⟩:=h
  have hu:=hu8 hr
  have hu1:=YI hr
  refine ⟨_, (Xd (Xl (i:=2) JH.nd rfl (Or.inl rfl) (QX (ZZ K rfl) rfl Z.b_list PyProof.Rows.boot_list (Xc (pv 0) Xh)))
    (Xd (Xl (i:=3) JH.nd rfl (Or.inl rfl) (Ys Xh))
    (Xd (YZ PassesOwn.never rfl (YS rfl Z.b_range (Xc (XF (Xu K rfl) rfl Z.b_len PySem.boot_len (Xc (pv 0) Xh)) Xh)) (Xp (i:=4) JH.nd rfl (Or.inl rfl))
      (Xd (YR (Z9 PySem.F.plainAttrs_list PySem.F.slot_list_append PySem.F.type_list_append Yk (pv 3) (Xc (Z9 PySem.F.plainAttrs_list PySem.F.slot_list_pop PySem.F.type_list_pop G1 (pv 2) (Xc (Xo Yj (XO (Xm K rfl) (pv 1) (Xo Yh (Xo Yr Xg (pv 4)) Xg) (λ_ _=>rfl)) (XF (Xu K rfl) rfl Z.b_len PySem.boot_len (Xc (pv 2) Xh))) Xh)) Xh)))
      Xi))
    (Xd (XL (pv 3))
    Xi)))), ?_⟩
  refine Zj (S:=(SC.add (SC.add SC.nil K (rV Xa) v_0 a_0) K (rV Xa) v_1 a_1)) (σ:=[some v_0, some v_1, none, none, none]) 2 ?_ (SC.i (SC.i SC.t h_0) h_1) hm q rfl
  unfold Jb
  exact (X1 (K:=K) (o:=(oL (oF Xa))) 2 1 (Ga (EvS.ls (Xk (r:=(rV Xa)) 0 rfl (λ_ s=>s.l.r)))) (Nat.le_of_ble_eq_true rfl) λa1 v2 C3=>(X1 (K:=K) (o:=(oL (oF Xa))) 3 0 (JC (o:=(oF Xa))) (Nat.le_of_ble_eq_true rfl) λa5 v6 C7=>(Ze (K:=K) (J:=({ oo:=λx10=>[x10.2.2.2.1, x10.2.2.2.2], ss:=λx10=>[some v_0, some v_1, some x10.2.2.1, some x10.2.1, x10.1], sc:=λg11 x10=>(SC.addO (SC.addO (SC.add (SC.add SC.nil K (rV Xa) v_0 a_0) K (rV Xa) v_1 a_1) K (oL (oF Xa)) x10.2.1 g11.1 x10.2.2.2.1) K (oL (oF Xa)) x10.2.2.1 g11.2 x10.2.2.2.2) } : Jn ((List Int) × (List Int)) (Option V × V × V × List XG × List XG))) (λ_=>tg1 4) ((none), v6, v2, C7, C3) (a5, a1) (Yl (YY (Xb (r:=(rV Xa)) 0 rfl (λ_ s=>s.l.l.l.r)))) rfl rfl (λ_ s=>(SC.i (SC.i (SC.i (SC.i SC.t s.l.l.l.r) s.l.l.r) s.r) s.l.r)) (λg12 x13 a14 v15=>(B4 (K:=K) (r:=Xa) (f:=λa26 a27=>(Rs.ok (a27, a26))) 2 1 3 0 (by decide) rfl rfl (λ_ s=>s.l.r) rfl rfl (λ_ s=>s.l.l.r) (XU (XI (Xb (r:=(rV Xa)) 1 rfl (λ_ s=>s.l.l.l.r)) (XS (XZ (Xe 8) (Xb (r:=Xa) 4 rfl (λ_ s=>s.r))) (Xe 9))) (YY (Zp (o:=(oL (oF Xa))) 2 1 rfl rfl (λ_ s=>s.l.r)))) λa25 a26 C28 C29=>(XE (J:=_) ((some v15), x13.2.1, x13.2.2.1, C29, C28) ((g12.1 ++ [a25]), a26) rfl rfl (λ_ s=>(SC.i (SC.i (SC.i (SC.i SC.t s.l.l.l.l.l.l.r) s.l.l.l.l.l.r) s.r) s.l.r))))) λg32 x33=>(XJ (YK (o:=(oL (oF Xa))) 3 0 rfl rfl (λ_ s=>s.l.r))))))
theorem VB : FnScope ["_law_names", "_law_some", "_law_rings", "_law_left", "_law_one", "_law_walks", "_law_k", "_law_at", "_law_passage"] ["_law_names", "_law_some", "_law_rings"] (Xf Uw):=⟨rfl, rfl, rfl, by decide +kernel, rfl, by decide +kernel, by decide +kernel⟩
theorem IL (D : Def K mg "_law_any" Uw ["_law_names", "_law_some", "_law_rings"])  (Y : Ecs XB K mg) (Z : Blt mg) : Fn P w K mg base 1 "_law_any" ["_law_names", "_law_some", "_law_rings"] (sp3 (rV Xa) (rV Xa) Xa (oL (oL (oF Xa))) Fu K):=by
  refine Zm D VB (λvs H Q E h=>?_) (λf cdv A outer s H vs Q E hr h=>?_)
  . obtain ⟨v_0, v_1, v_2, a_0, a_1, a_2, b, rfl, _⟩:=h; rfl
  obtain ⟨v_0, v_1, v_2, a_0, a_1, a_2, b, rfl, h_0, h_1, h_2, hm, q⟩:=h
  have hu:=hu8 hr
  have hu1:=YI hr
  refine ⟨_, (Xd (Xl (i:=3) VB.nd rfl (Or.inl rfl) (Ys Xh))
    (Xd (YZ PassesOwn.never rfl (XT (K:=K) rfl (pv 0)) (Xp (i:=4) VB.nd rfl (Or.inl rfl))
      (Xd (YR (Z9 PySem.F.plainAttrs_list PySem.F.slot_list_extend PySem.F.type_list_extend DM (pv 3) (Xc (Ys (Xc (pv 4) (Xc (KJ Vl (pv 4)) Xh))) Xh Kp)))
      Xi))
    (Xd (Q8 5 (Xf Uw) ["_law_names", "_law_some", "_law_rings", "_law_left", "_law_one", "_law_walks", "_law_k", "_law_at", "_law_passage"] ["_law_k"] [] rfl VB.nd rfl rfl (YS rfl Z.b_range (Xc (pv 2) Xh)) (Zg (by decide)) (λcl C s H ex E=>⟨Xp (i:=0) (show List.Nodup (["_law_k"] : List Str) by decide +kernel) rfl (Or.inl rfl), Za, (Ys Xh)⟩))
    (Xd (YZ PassesOwn.never rfl (YS rfl Z.b_range (Xc (Xo Yr Xg (XF (Xu K rfl) rfl Z.b_len PySem.boot_len (Xc (pv 0) Xh))) Xh)) (Xp (i:=6) VB.nd rfl (Or.inl rfl))
      (Xd (Xl (i:=7) VB.nd rfl (Or.inl rfl) (Xo Yh (Xo Yr Xg (pv 6)) Xg))
      (Xd (Xl (i:=8) VB.nd rfl (Or.inl rfl) (Z9 PySem.F.plainAttrs_list PySem.F.slot_list_pop PySem.F.type_list_pop G1 (pv 3) (Xc (Xo Yj (XO (Xm K rfl) (pv 1) (pv 7) (λ_ _=>rfl)) (XF (Xu K rfl) rfl Z.b_len PySem.boot_len (Xc (pv 3) Xh))) Xh)))
      (Xd (YR (Z9 PySem.F.plainAttrs_list PySem.F.slot_list_append PySem.F.type_list_append Yk (XO (Xm K rfl) (pv 5) (Xo Yj (XO (Xm K rfl) (pv 1) (Xo Yh (pv 7) Xg) (λ_ _=>rfl)) (pv 2)) (λ_ _=>rfl)) (Xc (pv 8) Xh)))
      Xi))))
    (Xd (XL (pv 5))
    Xi))))), ?_⟩
  refine Zj (S:=(SC.add (SC.add (SC.add SC.nil K (rV Xa) v_0 a_0) K (rV Xa) v_1 a_1) K Xa v_2 a_2)) (σ:=[some v_0, some v_1, some v_2, none, none, none, none, none, none]) 2 ?_ (SC.i (SC.i (SC.i SC.t h_0) h_1) h_2) hm q rfl
  unfold Fu
  exact (X1 (K:=K) (o:=(oL (oF Xa))) 3 1 (JC (o:=(oF Xa))) (Nat.le_of_ble_eq_true rfl) λa1 v2 C3=>(Ze (K:=K) (J:=({ oo:=λx4=>[[], x4.2.2], ss:=λx4=>[some v_0, some v_1, some v_2, some x4.2.1, x4.1, none, none, none, none], sc:=λg5 x4=>(SC.addO (SC.add (SC.add (SC.add SC.nil K (rV Xa) v_0 a_0) K (rV Xa) v_1 a_1) K Xa v_2 a_2) K (oL (oF Xa)) x4.2.1 g5 x4.2.2) } : Jn ((List Int)) (Option V × V × List XG))) (λ_=>tg1 4) ((none), v2, C3) (a1) (XH (Xk (r:=(rV Xa)) 0 rfl (λ_ s=>s.l.l.l.r))) rfl rfl (λ_ s=>(SC.i (SC.i (SC.i (SC.i SC.t s.l.l.l.r) s.l.l.r) s.l.r) s.r)) (λg6 x7 a8 v9=>(IB (K:=K) (o:=(oF Xa)) (f:=λa18=>(Rs.ok (a18))) 3 1 rfl rfl rfl (λ_ s=>s.l.r) (ZN (Xn (Xk (r:=Xa) 4 rfl (λ_ s=>s.r)) (Xn (EvB.sh (QC (Xb (r:=Xa) 4 rfl (λ_ s=>s.r)))) Zf))) λa16 C17=>(XE (J:=_) ((some v9), x7.2.1, C17) ((g6 ++ a16)) rfl rfl (λ_ s=>(SC.i (SC.i (SC.i (SC.i SC.t s.l.l.l.l.l.r) s.l.l.l.l.r) s.l.l.l.r) s.r))))) λg19 x20=>(X1 (K:=K) (o:=(oL (oL (oF Xa)))) 5 0 (Y9 (λ_=>tg1 0) (Yl (Xb (r:=Xa) 2 rfl (λ_ s=>s.l.r))) (λC25 a26 v27=>(JC (o:=(oF Xa))))) (Nat.le_of_ble_eq_true rfl) λa21 v22 C23=>(Ze (K:=K) (J:=({ oo:=λx33=>[x33.2.2.2.2.2.2, x33.2.2.2.2.2.1], ss:=λx33=>[some v_0, some v_1, some v_2, some x33.2.2.2.1, x20.1, some x33.2.2.2.2.1, x33.1, x33.2.1, x33.2.2.1], sc:=λg34 x33=>(SC.addO (SC.addO (SC.add (SC.add (SC.add SC.nil K (rV Xa) v_0 a_0) K (rV Xa) v_1 a_1) K Xa v_2 a_2) K (oL (oF Xa)) x33.2.2.2.1 g34.1 x33.2.2.2.2.2.1) K (oL (oL (oF Xa))) x33.2.2.2.2.1 g34.2 x33.2.2.2.2.2.2) } : Jn ((List Int) × (List (List Int))) (Option V × Option V × Option V × V × V × List XG × List XG))) (λ_=>tg1 6) ((none), (none), (none), x20.2.1, v22, x20.2.2, C23) (g19, a21) (Yl (XZ (Xe 2) (YY (Xb (r:=(rV Xa)) 0 rfl (λ_ s=>s.l.l.l.l.r))))) rfl rfl (λ_ s=>(SC.i (SC.i (SC.i (SC.i (SC.i SC.t s.l.l.l.l.r) s.l.l.l.r) s.l.l.r) s.l.r) s.r)) (λg35 x36 a37 v38=>(Xs (K:=K) (r:=Xa) 7 (EvB.sh (XS (XZ (Xe 4) (Xb (r:=Xa) 6 rfl (λ_ s=>s.r))) (Xe 5))) λa39 v40=>(Lr (K:=K) (r:=Xa) (f:=(λp55=>(λa50 a51=>(Rs.bind (Rs.bind (Rs.bind (Rs.ok a_1) λx58=>(Rs.bind (Rs.bind (Rs.ok a39) λx56=>(Rs.bind (Rs.ok (1 : Int)) λx57=>(Rs.ok (x56 + x57)))) λx59=>(atR x58 x59))) λx60=>(Rs.bind (Rs.ok a_2) λx61=>(ZK x60 x61))) λx63=>(Rs.bind (atR g35.2 x63) λx64=>(Rs.bind (Rs.ok a50) λx62=>(chk (x64.length < sizeLine) (Rs.bind (QZ g35.2 x63 (x64 ++ [x62])) λa65=>(Rs.ok (a51, a65)))))))) p55.1 p55.2)) 8 3 1 rfl rfl (λ_ s=>s.l.l.l.r) (XU (XI (Xb (r:=(rV Xa)) 1 rfl (λ_ s=>s.l.l.l.l.l.r)) (Xb (r:=Xa) 7 rfl (λ_ s=>s.r))) (YY (Zp (o:=(oL (oF Xa))) 3 1 rfl rfl (λ_ s=>s.l.l.l.r)))) λa50 a51 v52 C53=>(Bp (K:=K) (r:=Xa) 5 0 rfl rfl (λ_ s=>s.l.l.l.l.r) (Xk (r:=Xa) 8 rfl (λ_ s=>s.l.r)) (XU (XI (Xb (r:=(rV Xa)) 1 rfl (λ_ s=>s.l.l.l.l.l.l.l.r)) (XS (Xb (r:=Xa) 7 rfl (λ_ s=>s.l.l.r)) (Xe 1))) (Xb (r:=Xa) 2 rfl (λ_ s=>s.l.l.l.l.l.l.r))) λa65 C66=>(XE (J:=_) ((some v38), (some v40), (some v52), x36.2.2.2.1, x36.2.2.2.2.1, C53, C66) (a51, a65) rfl rfl (λ_ s=>(SC.i (SC.i (SC.i (SC.i (SC.i SC.t s.l.l.l.l.l.l.l.l.l.r) s.l.l.l.l.l.l.l.l.r) s.l.l.l.l.l.l.l.r) s.l.r) s.r))))))) λg67 x68=>(XJ (YK (o:=(oL (oL (oF Xa)))) 5 0 rfl rfl (λ_ s=>s.r)))))))
theorem YC : FnScope ["_law_names", "_law_signs", "_law_some", "_law_strands", "_law_seen", "_law_walks", "_law_start", "_law_walk", "_law_at", "_law_k", "_law_low"] ["_law_names", "_law_signs", "_law_some", "_law_strands"] (Xf Zk):=⟨rfl, rfl, rfl, by decide +kernel, rfl, by decide +kernel, by decide +kernel⟩
theorem Fg (D : Def K mg "_law_plaited" Zk ["_law_names", "_law_signs", "_law_some", "_law_strands"])  (Y : Ecs XB K mg) (Z : Blt mg) : Fn P w K mg base 1 "_law_plaited" ["_law_names", "_law_signs", "_law_some", "_law_strands"] (sp4 (rV Xa) (rD Xa) (rV Xa) Xa (oL (oL (oF Xa))) ZO K):=by
  refine Zm D YC (λvs H Q E h=>?_) (λf cdv A outer s H vs Q E hr h=>?_)
  . obtain ⟨v_0, v_1, v_2, v_3, a_0, a_1, a_2, a_3, b, rfl, _⟩:=h; rfl
  obtain ⟨v_0, v_1, v_2, v_3, a_0, a_1, a_2, a_3, b, rfl, h_0, h_1, h_2, h_3, hm, q⟩:=h
  have hu:=hu8 hr
  have hu1:=YI hr
  refine ⟨_, (Xd (Xl (i:=4) YC.nd rfl (Or.inl rfl) (Xo U7 (Ys (Xc QM Xh)) (pv 3)))
    (Xd (Xl (i:=5) YC.nd rfl (Or.inl rfl) (Ys Xh))
    (Xd (YZ PassesOwn.never rfl (YS rfl Z.b_range (Xc (pv 3) Xh)) (Xp (i:=6) YC.nd rfl (Or.inl rfl))
      (Xd (Zu (GR (G0 (XO (Xm K rfl) (pv 4) (pv 6) (λ_ _=>rfl))))
        (Xd (Xl (i:=7) YC.nd rfl (Or.inl rfl) (Ys Xh))
        (Xd (Xl (i:=8) YC.nd rfl (Or.inl rfl) (pv 6))
        (Xd (JN PassesOwn.never (GR (G0 (XO (Xm K rfl) (pv 4) (pv 8) (λ_ _=>rfl))))
          (Xd (Co QM (Df (pv 4) (pv 8) Qn))
          (Xd (YZ PassesOwn.never rfl (YS rfl Z.b_range (Xc (XF (Xu K rfl) rfl Z.b_len PySem.boot_len (Xc (pv 0) Xh)) Xh)) (Xp (i:=9) YC.nd rfl (Or.inl rfl))
            (Xd (Xl (i:=10) YC.nd rfl (Or.inl rfl) (Xo Yj (XO (Xm K rfl) (pv 2) (Xo Yh (Xo Yr Xg (pv 9)) Xg) (λ_ _=>rfl)) (Xo V0 (pv 3) Xg)))
            (Xd (Zu (XR Qx (pv 8) (pv 10) (X5 _))
              (Xd (YR (Z9 PySem.F.plainAttrs_list PySem.F.slot_list_append PySem.F.type_list_append Yk (pv 7) (Xc (Xo Yr (XO (Xm K rfl) (pv 0) (pv 9) (λ_ _=>rfl)) (KI hu1 (pv 1) (XO (Xm K rfl) (pv 0) (pv 9) (λ_ _=>rfl)) (λ_ _=>rfl))) Xh)))
              (Xd (Xl (i:=8) YC.nd rfl (Or.inl rfl) (Xo Yh (pv 10) Xg))
              Xi))
              (Xd (Zu (XR Qx (pv 8) (Xo Yh (pv 10) Xg) (X5 _))
                (Xd (YR (Z9 PySem.F.plainAttrs_list PySem.F.slot_list_append PySem.F.type_list_append Yk (pv 7) (Xc (Xo Yr (KJ Vl (XO (Xm K rfl) (pv 0) (pv 9) (λ_ _=>rfl))) (KI hu1 (pv 1) (XO (Xm K rfl) (pv 0) (pv 9) (λ_ _=>rfl)) (λ_ _=>rfl))) Xh)))
                (Xd (Xl (i:=8) YC.nd rfl (Or.inl rfl) (pv 10))
                Xi))
                Xi)
              Xi))
            Xi)))
          Xi)))
        (Xd (YR (Z9 PySem.F.plainAttrs_list PySem.F.slot_list_append PySem.F.type_list_append Yk (pv 5) (Xc (pv 7) Xh)))
        Xi))))
        Xi)
      Xi))
    (Xd (XL (pv 5))
    Xi)))), ?_⟩
  refine Zj (S:=(SC.add (SC.add (SC.add (SC.add SC.nil K (rV Xa) v_0 a_0) K (rD Xa) v_1 a_1) K (rV Xa) v_2 a_2) K Xa v_3 a_3)) (σ:=[some v_0, some v_1, some v_2, some v_3, none, none, none, none, none, none, none]) 3 ?_ (SC.i (SC.i (SC.i (SC.i SC.t h_0) h_1) h_2) h_3) hm q rfl
  unfold ZO
  exact (X1 (K:=K) (o:=(oL (oF Xr))) 4 1 (U8 (Ev.ls (ZN (Xn (EvB.sh (ZA false)) Zf))) (Xb (r:=Xa) 3 rfl (λ_ s=>s.r))) (Nat.le_of_ble_eq_true rfl) λa1 v2 C3=>(X1 (K:=K) (o:=(oL (oL (oF Xa)))) 5 0 (JC (o:=(oL (oF Xa)))) (Nat.le_of_ble_eq_true rfl) λa9 v10 C11=>(Ze (K:=K) (J:=({ oo:=λx13=>[x13.2.2.2.2.2.2.2.2, x13.2.2.2.2.2.2.2.1, []], ss:=λx13=>[some v_0, some v_1, some v_2, some v_3, some x13.2.2.2.1, some x13.2.2.2.2.2.1, x13.1, x13.2.1, x13.2.2.1, x13.2.2.2.2.1, x13.2.2.2.2.2.2.1], sc:=λg14 x13=>(SC.addO (SC.addO (SC.add (SC.add (SC.add (SC.add SC.nil K (rV Xa) v_0 a_0) K (rD Xa) v_1 a_1) K (rV Xa) v_2 a_2) K Xa v_3 a_3) K (oL (oF Xr)) x13.2.2.2.1 g14.1 x13.2.2.2.2.2.2.2.1) K (oL (oL (oF Xa))) x13.2.2.2.2.2.1 g14.2 x13.2.2.2.2.2.2.2.2) } : Jn ((List Bool) × (List (List Int))) (Option V × Option V × Option V × V × Option V × V × Option V × List XG × List XG))) (λ_=>tg1 6) ((none), (none), (none), v2, (none), v10, (none), C3, C11) (a1, a9) (Yl (Xb (r:=Xa) 3 rfl (λ_ s=>s.l.l.r))) rfl rfl (λ_ s=>(SC.i (SC.i (SC.i (SC.i (SC.i (SC.i SC.t s.l.l.l.l.l.r) s.l.l.l.l.r) s.l.l.l.r) s.l.l.r) s.l.r) s.r)) (λg15 x16 a17 v18=>(Zo (J:=({ oo:=λx23=>[x23.2.2.2.2.2.2.2, x23.2.2.2.2.2.2.1, []], ss:=λx23=>[some v_0, some v_1, some v_2, some v_3, some x23.2.2.1, some x23.2.2.2.2.1, some v18, x23.1, x23.2.1, x23.2.2.2.1, x23.2.2.2.2.2.1], sc:=λg24 x23=>(SC.addO (SC.addO (SC.add (SC.add (SC.add (SC.add (SC.add SC.nil K (rV Xa) v_0 a_0) K (rD Xa) v_1 a_1) K (rV Xa) v_2 a_2) K Xa v_3 a_3) K Xa v18 a17) K (oL (oF Xr)) x23.2.2.1 g24.1 x23.2.2.2.2.2.2.1) K (oL (oL (oF Xa))) x23.2.2.2.2.1 g24.2 x23.2.2.2.2.2.2.2) } : Jn ((List Bool) × (List (List Int))) (Option V × Option V × V × Option V × V × Option V × List XG × List XG))) (Z3 (Fd:=FNd ({ oo:=λx23=>[x23.2.2.2.2.2.2.2, x23.2.2.2.2.2.2.1, []], ss:=λx23=>[some v_0, some v_1, some v_2, some v_3, some x23.2.2.1, some x23.2.2.2.2.1, some v18, x23.1, x23.2.1, x23.2.2.2.1, x23.2.2.2.2.2.1], sc:=λg24 x23=>(SC.addO (SC.addO (SC.add (SC.add (SC.add (SC.add (SC.add SC.nil K (rV Xa) v_0 a_0) K (rD Xa) v_1 a_1) K (rV Xa) v_2 a_2) K Xa v_3 a_3) K Xa v18 a17) K (oL (oF Xr)) x23.2.2.1 g24.1 x23.2.2.2.2.2.2.1) K (oL (oL (oF Xa))) x23.2.2.2.2.1 g24.2 x23.2.2.2.2.2.2.2) } : Jn ((List Bool) × (List (List Int))) (Option V × Option V × V × Option V × V × Option V × List XG × List XG))) (Ut (Fm (K:=K) (XI (Zp (o:=(oL (oF Xr))) 4 1 rfl rfl (λ_ s=>s.l.l.r)) (Xb (r:=Xa) 6 rfl (λ_ s=>s.r))))) (X1 (K:=K) (o:=(oL (oF Xa))) 7 2 (JC (o:=(oF Xa))) (Nat.le_of_ble_eq_true rfl) λa25 v26 C27=>(Xs (K:=K) (r:=Xa) 8 (Xk (r:=Xa) 6 rfl (λ_ s=>s.l.r)) λa28 v29=>(GE (J:=({ oo:=λx30=>[x16.2.2.2.2.2.2.2.2, x30.2.2.2.2.2.1, x30.2.2.2.2.2.2], ss:=λx30=>[some v_0, some v_1, some v_2, some v_3, some x30.1, some x16.2.2.2.2.2.1, some v18, some x30.2.2.2.2.1, some x30.2.2.2.1, x30.2.1, x30.2.2.1], sc:=λg31 x30=>(SC.addO (SC.add (SC.addO (SC.add (SC.addO (SC.add (SC.add (SC.add (SC.add SC.nil K (rV Xa) v_0 a_0) K (rD Xa) v_1 a_1) K (rV Xa) v_2 a_2) K Xa v_3 a_3) K (oL (oL (oF Xa))) x16.2.2.2.2.2.1 g15.2 x16.2.2.2.2.2.2.2.2) K Xa v18 a17) K (oL (oF Xr)) x30.1 g31.1 x30.2.2.2.2.2.1) K Xa x30.2.2.2.1 g31.2.1) K (oL (oF Xa)) x30.2.2.2.2.1 g31.2.2 x30.2.2.2.2.2.2) } : Jn ((List Bool) × Int × (List Int)) (V × Option V × Option V × V × V × List XG × List XG))) (a_3.natAbs + 2) (x16.2.2.2.1, (x16.2.2.2.2.1), (x16.2.2.2.2.2.2.1), v29, v26, x16.2.2.2.2.2.2.2.1, C27) (g15.1, a28, a25) rfl rfl (λ_ s=>(SC.i (SC.i (SC.i (SC.i (SC.i (SC.i (SC.i (SC.i (SC.i SC.t s.l.l.l.l.l.l.l.l.r) s.l.l.l.l.l.l.l.r) s.l.l.l.l.l.l.r) s.l.l.l.l.l.r) s.l.l.l.r) s.l.l.r) s.l.l.l.l.r) s.r) s.l.r)) (λg32 x33=>(Ut (Fm (K:=K) (XI (Zp (o:=(oL (oF Xr))) 4 1 rfl rfl (λ_ s=>s.l.l.r)) (Xb (r:=Xa) 8 rfl (λ_ s=>s.l.r)))))) (λg32 x33=>(Ud (K:=K) (o:=(oF Xr)) 4 1 rfl rfl (λ_ s=>s.l.l.r) (EvS.ev (EvB.sh (ZA true))) (λ_=>(Xb (r:=Xa) 8 rfl (λ_ s=>s.l.r))) λa39 C40=>(Ze (K:=K) (J:=({ oo:=λx43=>[x16.2.2.2.2.2.2.2.2, C40, x43.2.2.2.2], ss:=λx43=>[some v_0, some v_1, some v_2, some v_3, some x33.1, some x16.2.2.2.2.2.1, some v18, some x43.2.2.2.1, some x43.2.2.1, x43.1, x43.2.1], sc:=λg44 x43=>(SC.addO (SC.add (SC.addO (SC.add (SC.addO (SC.add (SC.add (SC.add (SC.add SC.nil K (rV Xa) v_0 a_0) K (rD Xa) v_1 a_1) K (rV Xa) v_2 a_2) K Xa v_3 a_3) K (oL (oL (oF Xa))) x16.2.2.2.2.2.1 g15.2 x16.2.2.2.2.2.2.2.2) K Xa v18 a17) K (oL (oF Xr)) x33.1 a39 C40) K Xa x43.2.2.1 g44.1) K (oL (oF Xa)) x43.2.2.2.1 g44.2 x43.2.2.2.2) } : Jn (Int × (List Int)) (Option V × Option V × V × V × List XG))) (λ_=>tg1 9) ((x33.2.1), (x33.2.2.1), x33.2.2.2.1, x33.2.2.2.2.1, x33.2.2.2.2.2.2) (g32.2.1, g32.2.2) (Yl (YY (Xb (r:=(rV Xa)) 0 rfl (λ_ s=>s.l.l.l.l.l.l.l.l.l.r)))) rfl rfl (λ_ s=>(SC.i (SC.i (SC.i (SC.i (SC.i (SC.i (SC.i (SC.i (SC.i SC.t s.l.l.l.l.l.l.l.l.l.r) s.l.l.l.l.l.l.l.l.r) s.l.l.l.l.l.l.l.r) s.l.l.l.l.l.l.r) s.l.l.l.l.l.r) s.l.l.l.l.r) s.r) s.l.l.r) s.l.r)) (λg45 x46 a47 v48=>(Xs (K:=K) (r:=Xa) 10 (EvB.sh (XU (XI (Xb (r:=(rV Xa)) 2 rfl (λ_ s=>s.l.l.l.l.l.l.l.r)) (XS (XZ (Xe 8) (Xb (r:=Xa) 9 rfl (λ_ s=>s.r))) (Xe 10))) (Jd (Xb (r:=Xa) 3 rfl (λ_ s=>s.l.l.l.l.l.l.r)) (Xe 1)))) λa49 v50=>(Zo (J:=({ oo:=λx64=>[x16.2.2.2.2.2.2.2.2, C40, x64.2.2], ss:=λx64=>[some v_0, some v_1, some v_2, some v_3, some x33.1, some x16.2.2.2.2.2.1, some v18, some x64.2.1, some x64.1, some v48, some v50], sc:=λg65 x64=>(SC.addO (SC.add (SC.add (SC.add (SC.addO (SC.add (SC.addO (SC.add (SC.add (SC.add (SC.add SC.nil K (rV Xa) v_0 a_0) K (rD Xa) v_1 a_1) K (rV Xa) v_2 a_2) K Xa v_3 a_3) K (oL (oL (oF Xa))) x16.2.2.2.2.2.1 g15.2 x16.2.2.2.2.2.2.2.2) K Xa v18 a17) K (oL (oF Xr)) x33.1 a39 C40) K Xa v48 a47) K Xa v50 a49) K Xa x64.1 g65.1) K (oL (oF Xa)) x64.2.1 g65.2 x64.2.2) } : Jn (Int × (List Int)) (V × V × List XG))) (Z3 (Fd:=FNd ({ oo:=λx64=>[x16.2.2.2.2.2.2.2.2, C40, x64.2.2], ss:=λx64=>[some v_0, some v_1, some v_2, some v_3, some x33.1, some x16.2.2.2.2.2.1, some v18, some x64.2.1, some x64.1, some v48, some v50], sc:=λg65 x64=>(SC.addO (SC.add (SC.add (SC.add (SC.addO (SC.add (SC.addO (SC.add (SC.add (SC.add (SC.add SC.nil K (rV Xa) v_0 a_0) K (rD Xa) v_1 a_1) K (rV Xa) v_2 a_2) K Xa v_3 a_3) K (oL (oL (oF Xa))) x16.2.2.2.2.2.1 g15.2 x16.2.2.2.2.2.2.2.2) K Xa v18 a17) K (oL (oF Xr)) x33.1 a39 C40) K Xa v48 a47) K Xa v50 a49) K Xa x64.1 g65.1) K (oL (oF Xa)) x64.2.1 g65.2 x64.2.2) } : Jn (Int × (List Int)) (V × V × List XG))) (XC (K:=K) (Zs (Xb (r:=Xa) 8 rfl (λ_ s=>s.l.l.l.r)) (Xb (r:=Xa) 10 rfl (λ_ s=>s.r)))) (Z4 (K:=K) (o:=(oF Xa)) (f:=λa76=>(Rs.bind (Rs.bind (Rs.ok a49) λx79=>(Rs.bind (Rs.ok (1 : Int)) λx80=>(Rs.ok (x79 + x80)))) λa77=>(Rs.ok (a77, a76)))) 7 2 rfl rfl rfl (λ_ s=>s.l.l.r) (EvS.ev (EvB.sh (XZ (XI (Xb (r:=(rV Xa)) 0 rfl (λ_ s=>s.l.l.l.l.l.l.l.l.l.l.r)) (Xb (r:=Xa) 9 rfl (λ_ s=>s.l.r))) (UI (Xb (r:=(rD Xa)) 1 rfl (λ_ s=>s.l.l.l.l.l.l.l.l.l.r)) (XI (Xb (r:=(rV Xa)) 0 rfl (λ_ s=>s.l.l.l.l.l.l.l.l.l.l.r)) (Xb (r:=Xa) 9 rfl (λ_ s=>s.l.r))))))) λa74 C75=>(Xs (K:=K) (r:=Xa) 8 (EvB.sh (XS (Xb (r:=Xa) 10 rfl (λ_ s=>s.l.r)) (Xe 1))) λa77 v78=>(XE (J:=_) (v78, x46.2.2.2.1, C75) (a77, (g45.2 ++ [a74])) rfl rfl (λ_ s=>(SC.i (SC.i (SC.i (SC.i (SC.i (SC.i (SC.i (SC.i (SC.i (SC.i (SC.i SC.t s.l.l.l.l.l.l.l.l.l.l.l.l.r) s.l.l.l.l.l.l.l.l.l.l.l.r) s.l.l.l.l.l.l.l.l.l.l.r) s.l.l.l.l.l.l.l.l.l.r) s.l.l.l.l.l.l.l.l.r) s.l.l.l.l.l.l.l.r) s.l.l.l.l.l.l.r) s.l.l.l.r) s.l.l.r) s.r) s.l.r))))) (Zo (J:=({ oo:=λx86=>[x16.2.2.2.2.2.2.2.2, C40, x86.2.2], ss:=λx86=>[some v_0, some v_1, some v_2, some v_3, some x33.1, some x16.2.2.2.2.2.1, some v18, some x86.2.1, some x86.1, some v48, some v50], sc:=λg87 x86=>(SC.addO (SC.add (SC.add (SC.add (SC.addO (SC.add (SC.addO (SC.add (SC.add (SC.add (SC.add SC.nil K (rV Xa) v_0 a_0) K (rD Xa) v_1 a_1) K (rV Xa) v_2 a_2) K Xa v_3 a_3) K (oL (oL (oF Xa))) x16.2.2.2.2.2.1 g15.2 x16.2.2.2.2.2.2.2.2) K Xa v18 a17) K (oL (oF Xr)) x33.1 a39 C40) K Xa v48 a47) K Xa v50 a49) K Xa x86.1 g87.1) K (oL (oF Xa)) x86.2.1 g87.2 x86.2.2) } : Jn (Int × (List Int)) (V × V × List XG))) (Z3 (Fd:=FNd ({ oo:=λx86=>[x16.2.2.2.2.2.2.2.2, C40, x86.2.2], ss:=λx86=>[some v_0, some v_1, some v_2, some v_3, some x33.1, some x16.2.2.2.2.2.1, some v18, some x86.2.1, some x86.1, some v48, some v50], sc:=λg87 x86=>(SC.addO (SC.add (SC.add (SC.add (SC.addO (SC.add (SC.addO (SC.add (SC.add (SC.add (SC.add SC.nil K (rV Xa) v_0 a_0) K (rD Xa) v_1 a_1) K (rV Xa) v_2 a_2) K Xa v_3 a_3) K (oL (oL (oF Xa))) x16.2.2.2.2.2.1 g15.2 x16.2.2.2.2.2.2.2.2) K Xa v18 a17) K (oL (oF Xr)) x33.1 a39 C40) K Xa v48 a47) K Xa v50 a49) K Xa x86.1 g87.1) K (oL (oF Xa)) x86.2.1 g87.2 x86.2.2) } : Jn (Int × (List Int)) (V × V × List XG))) (XC (K:=K) (Zs (Xb (r:=Xa) 8 rfl (λ_ s=>s.l.l.l.r)) (XS (Xb (r:=Xa) 10 rfl (λ_ s=>s.r)) (Xe 1)))) (Z4 (K:=K) (o:=(oF Xa)) (f:=λa99=>(Rs.bind (Rs.ok a49) λa100=>(Rs.ok (a100, a99)))) 7 2 rfl rfl rfl (λ_ s=>s.l.l.r) (EvS.ev (EvB.sh (XZ (QC (XI (Xb (r:=(rV Xa)) 0 rfl (λ_ s=>s.l.l.l.l.l.l.l.l.l.l.r)) (Xb (r:=Xa) 9 rfl (λ_ s=>s.l.r)))) (UI (Xb (r:=(rD Xa)) 1 rfl (λ_ s=>s.l.l.l.l.l.l.l.l.l.r)) (XI (Xb (r:=(rV Xa)) 0 rfl (λ_ s=>s.l.l.l.l.l.l.l.l.l.l.r)) (Xb (r:=Xa) 9 rfl (λ_ s=>s.l.r))))))) λa97 C98=>(Xs (K:=K) (r:=Xa) 8 (Xk (r:=Xa) 10 rfl (λ_ s=>s.l.r)) λa100 v101=>(XE (J:=_) (v101, x46.2.2.2.1, C98) (a100, (g45.2 ++ [a97])) rfl rfl (λ_ s=>(SC.i (SC.i (SC.i (SC.i (SC.i (SC.i (SC.i (SC.i (SC.i (SC.i (SC.i SC.t s.l.l.l.l.l.l.l.l.l.l.l.l.r) s.l.l.l.l.l.l.l.l.l.l.l.r) s.l.l.l.l.l.l.l.l.l.l.r) s.l.l.l.l.l.l.l.l.l.r) s.l.l.l.l.l.l.l.l.r) s.l.l.l.l.l.l.l.r) s.l.l.l.l.l.l.r) s.l.l.l.r) s.l.l.r) s.r) s.l.r))))) (XE (J:=_) (x46.2.2.1, x46.2.2.2.1, x46.2.2.2.2) (g45.1, g45.2) rfl rfl (λ_ s=>(SC.i (SC.i (SC.i (SC.i (SC.i (SC.i (SC.i (SC.i (SC.i (SC.i (SC.i SC.t s.l.l.l.l.l.l.l.l.l.l.r) s.l.l.l.l.l.l.l.l.l.r) s.l.l.l.l.l.l.l.l.r) s.l.l.l.l.l.l.l.r) s.l.l.l.l.l.l.r) s.l.l.l.l.l.r) s.l.l.l.l.r) s.l.r) s.r) s.l.l.l.r) s.l.l.r)))) λg103 x102=>(XE (J:=_) (x102.1, x102.2.1, x102.2.2) (g103.1, g103.2) rfl rfl (λ_ s=>(SC.i (SC.i (SC.i (SC.i (SC.i (SC.i (SC.i (SC.i (SC.i (SC.i (SC.i SC.t s.l.l.l.l.l.l.l.l.l.l.r) s.l.l.l.l.l.l.l.l.l.r) s.l.l.l.l.l.l.l.l.r) s.l.l.l.l.l.l.l.r) s.l.l.l.l.l.l.r) s.l.l.l.l.l.r) s.l.l.l.l.r) s.l.l.l.r) s.l.l.r) s.l.r) s.r))))) λg105 x104=>(XE (J:=_) ((some v48), (some v50), x104.1, x104.2.1, x104.2.2) (g105.1, g105.2) rfl rfl (λ_ s=>(SC.i (SC.i (SC.i (SC.i (SC.i (SC.i (SC.i (SC.i (SC.i SC.t s.l.l.l.l.l.l.l.l.l.l.r) s.l.l.l.l.l.l.l.l.l.r) s.l.l.l.l.l.l.l.l.r) s.l.l.l.l.l.l.l.r) s.l.l.l.l.l.l.r) s.l.l.l.l.l.r) s.l.l.l.l.r) s.l.r) s.r)))))) λg106 x107=>(XE (J:=_) (x33.1, (x107.1), (x107.2.1), x107.2.2.1, x107.2.2.2.1, C40, x107.2.2.2.2) (a39, g106.1, g106.2) rfl rfl (λ_ s=>(SC.i (SC.i (SC.i (SC.i (SC.i (SC.i (SC.i (SC.i (SC.i SC.t s.l.l.l.l.l.l.l.l.r) s.l.l.l.l.l.l.l.r) s.l.l.l.l.l.l.r) s.l.l.l.l.l.r) s.l.l.l.l.r) s.l.l.l.r) s.l.l.r) s.l.r) s.r)))))) λg109 x110=>(Z4 (K:=K) (o:=(oL (oF Xa))) (f:=λa113=>(Rs.ok (g109.1, a113))) 5 0 rfl rfl rfl (λ_ s=>s.l.l.l.l.r) (YK (o:=(oL (oF Xa))) 7 2 rfl rfl (λ_ s=>s.r)) λa111 C112=>(XE (J:=_) ((some x110.2.2.2.2.1), (some x110.2.2.2.1), x110.1, (x110.2.1), x16.2.2.2.2.2.1, (x110.2.2.1), x110.2.2.2.2.2.1, C112) (g109.1, (g15.2 ++ [a111])) rfl rfl (λ_ s=>(SC.i (SC.i (SC.i (SC.i (SC.i (SC.i (SC.i SC.t s.l.l.l.l.l.l.l.l.l.r) s.l.l.l.l.l.l.l.l.r) s.l.l.l.l.l.l.l.r) s.l.l.l.l.l.l.r) s.l.l.l.l.r) s.l.l.l.r) s.r))))))) (XE (J:=_) ((x16.2.1), (x16.2.2.1), x16.2.2.2.1, (x16.2.2.2.2.1), x16.2.2.2.2.2.1, (x16.2.2.2.2.2.2.1), x16.2.2.2.2.2.2.2.1, x16.2.2.2.2.2.2.2.2) (g15.1, g15.2) rfl rfl (λ_ s=>(SC.i (SC.i (SC.i (SC.i (SC.i (SC.i (SC.i SC.t s.l.l.l.l.l.l.r) s.l.l.l.l.l.r) s.l.l.l.l.r) s.l.l.l.r) s.r) s.l.l.r) s.l.r)))) λg115 x114=>(XE (J:=_) ((some v18), (x114.1), (x114.2.1), x114.2.2.1, (x114.2.2.2.1), x114.2.2.2.2.1, (x114.2.2.2.2.2.1), x114.2.2.2.2.2.2.1, x114.2.2.2.2.2.2.2) (g115.1, g115.2) rfl rfl (λ_ s=>(SC.i (SC.i (SC.i (SC.i (SC.i (SC.i SC.t s.l.l.l.l.l.l.r) s.l.l.l.l.l.r) s.l.l.l.l.r) s.l.l.l.r) s.l.r) s.r))))) λg116 x117=>(XJ (YK (o:=(oL (oL (oF Xa)))) 5 0 rfl rfl (λ_ s=>s.r))))))
theorem YU : FnScope ["_law_script", "_law_place", "_law_most", "_law_sizes", "_law_some", "_law_names", "_law_signs", "_law_last", "_law_k", "_law_step", "_law_walks", "_law_rings"] ["_law_script", "_law_place", "_law_most"] (Xf ZU):=⟨rfl, rfl, rfl, by decide +kernel, rfl, by decide +kernel, by decide +kernel⟩
theorem Br (D : Def K mg "_law_drawn" ZU ["_law_script", "_law_place", "_law_most"]) (g_row : Fn P w K mg base 2 "_law_row" ["_law_script", "_law_place", "_law_sizes"] (sp3 (rL Xa) Xa (rV Xa) (oL (oF Xa)) Kg K)) (g_plaited : Fn P w K mg base 1 "_law_plaited" ["_law_names", "_law_signs", "_law_some", "_law_strands"] (sp4 (rV Xa) (rD Xa) (rV Xa) Xa (oL (oL (oF Xa))) ZO K)) (g_any : Fn P w K mg base 1 "_law_any" ["_law_names", "_law_some", "_law_rings"] (sp3 (rV Xa) (rV Xa) Xa (oL (oL (oF Xa))) Fu K)) (g_mixed : Fn P w K mg base 1 "_law_mixed" ["_law_names", "_law_some"] (sp2 (rV Xa) (rV Xa) (oL (oF Xa)) Jb K)) (Y : Ecs XB K mg) (Z : Blt mg) : Fn P w K mg base 3 "_law_drawn" ["_law_script", "_law_place", "_law_most"] (sp3 (rL Xa) Xa Xa (oT2 (oL (oL (oF Xa))) (oL (oF (rP2 Xa Xa)))) QG K):=by
  refine Zm D YU (λvs H Q E h=>?_) (λf cdv A outer s H vs Q E hr h=>?_)
  . obtain ⟨v_0, v_1, v_2, a_0, a_1, a_2, b, rfl, _⟩:=h; rfl
  obtain ⟨v_0, v_1, v_2, a_0, a_1, a_2, b, rfl, h_0, h_1, h_2, hm, q⟩:=h
  have hu:=hu8 hr
  have hu1:=YI hr
  refine ⟨_, (Xd (Xl (i:=3) YU.nd rfl (Or.inl rfl) (Ys (Xc (Xo Yh (pv 2) Xg) (Xc Xg (Xc Xg (Xc Xg (Xc Xg Xh)))))))
    (Xd (Xl (i:=4) YU.nd rfl (Or.inl rfl) (YO g_row hr (by decide) (Xc (pv 0) (Xc (pv 1) (Xc (Xo Gr (pv 3) (Xo U7 (Ys (Xc Xg (Xc Xg (Xc Xg (Xc Xg Xh))))) (Xo Yr Xg (pv 2)))) Xh)))))
    (Xd (Xl (i:=5) YU.nd rfl (Or.inl rfl) (Ys Xh))
    (Xd (Xl (i:=6) YU.nd rfl (Or.inr rfl) BQ)
    (Xd (Xl (i:=7) YU.nd rfl (Or.inl rfl) Xg)
    (Xd (YZ PassesOwn.never rfl (YS rfl Z.b_range (Xc (XO (Xm K rfl) (pv 4) Xg (λ_ _=>rfl)) Xh)) (Xp (i:=8) YU.nd rfl (Or.inl rfl))
      (Xd (Xl (i:=9) YU.nd rfl (Or.inl rfl) (Xo Yr (XO (Xm K rfl) (pv 4) (Xo Yh (Xo Yr Xg (pv 8)) Xg) (λ_ _=>rfl)) (XO (Xm K rfl) (Ys (Xc Xg (Xc Xg (Xc (Xo UK Xg Xg) Xh)))) (XO (Xm K rfl) (pv 4) Xg (λ_ _=>rfl)) (λ_ _=>rfl))))
      (Xd (Xl (i:=7) YU.nd rfl (Or.inl rfl) (Xo Yh (Xo Yh (pv 7) Xg) (pv 9)))
      (Xd (YR (Z9 PySem.F.plainAttrs_list PySem.F.slot_list_append PySem.F.type_list_append Yk (pv 5) (Xc (pv 7) Xh)))
      (Xd (E6 hu1 (pv 6) (pv 7) (Xo V0 (Xo Yr Xg (XO (Xm K rfl) (pv 4) (Xo Yh (Xo Yr Xg (pv 8)) Xg) (λ_ _=>rfl))) Xg) rfl)
      Xi)))))
    (Xd (Zu (XR Ke (XO (Xm K rfl) (pv 4) Xg (λ_ _=>rfl)) Xg (X5 _))
      (Xd (Xl (i:=10) YU.nd rfl (Or.inl rfl) (YO g_plaited hr (by decide) (Xc (YO g_mixed hr (by decide) (Xc (pv 5) (Xc (pv 4) Xh))) (Xc (pv 6) (Xc (pv 4) (Xc (Xo Yh Xg (XO (Xm K rfl) (pv 4) Xg (λ_ _=>rfl))) Xh))))))
      Xi)
      (Xd (Xl (i:=11) YU.nd rfl (Or.inl rfl) (XF (U4 rfl) rfl Z.b_max PyProof.Rows.boot_max (Xc (XO (Xm K rfl) (pv 4) Xg (λ_ _=>rfl)) (Xc (XF (CD rfl) rfl Z.b_min PyProof.Rows.boot_min (Xc (XF (Xu K rfl) rfl Z.b_len PySem.boot_len (Xc (pv 5) Xh)) (Xc Xg Xh))) Xh))))
      (Xd (Xl (i:=10) YU.nd rfl (Or.inl rfl) (YO g_any hr (by decide) (Xc (pv 5) (Xc (pv 4) (Xc (pv 11) Xh)))))
      Xi)))
    (Xd (XL (Zr (Xc (pv 10) (Xc (YV (sc:=(Xf ZU)) (N0:=["_law_script", "_law_place", "_law_most", "_law_sizes", "_law_some", "_law_names", "_law_signs", "_law_last", "_law_k", "_law_step", "_law_walks", "_law_rings"]) (tns:=["_law_one"]) (caps:=[(6, "_law_signs")]) rfl (XT (K:=K) rfl (pv 5)) (Zg (by decide)) (λcl C s H ex E=>⟨Xp (i:=0) (show List.Nodup (["_law_one", "_law_signs"] : List Str) by decide +kernel) rfl (Or.inl rfl), Za, (Zr (Xc (pv 0) (Xc (KI hu1 (pv 1) (pv 0) (λ_ _=>rfl)) Xh)))⟩)) Xh))))
    Xi)))))))), ?_⟩
  refine Zj (S:=(SC.add (SC.add (SC.add SC.nil K (rL Xa) v_0 a_0) K Xa v_1 a_1) K Xa v_2 a_2)) (σ:=[some v_0, some v_1, some v_2, none, none, none, none, none, none, none, none, none]) 3 ?_ (SC.i (SC.i (SC.i SC.t h_0) h_1) h_2) hm q rfl
  unfold QG
  exact (Xs (K:=K) (r:=(rV Xa)) 3 (Ev.sh (ZN (Xn (EvB.sh (XS (Xb (r:=Xa) 2 rfl (λ_ s=>s.r)) (Xe 1))) (Xn (EvB.sh (Xe 5)) (Xn (EvB.sh (Xe 4)) (Xn (EvB.sh (Xe 3)) (Xn (EvB.sh (Xe 3)) Zf))))))) λa1 v2=>(Xs (K:=K) (r:=(rV Xa)) 4 (Ev.sh (Qt (Xb (r:=(rL Xa)) 0 rfl (λ_ s=>s.l.l.l.r)) (Xb (r:=Xa) 1 rfl (λ_ s=>s.l.l.r)) (Ev.toB (Ct (EvS.ls (Xk (r:=(rV Xa)) 3 rfl (λ_ s=>s.r))) (Ev.ls (U8 (Ev.ls (ZN (Xn (EvB.sh (Xe 80)) (Xn (EvB.sh (Xe 5)) (Xn (EvB.sh (Xe 2)) (Xn (EvB.sh (Xe 3)) Zf)))))) (XZ (Xe 2) (Xb (r:=Xa) 2 rfl (λ_ s=>s.l.r))))))))) λa16 v17=>(X1 (K:=K) (o:=(oL (oF Xa))) 5 2 (JC (o:=(oF Xa))) (Nat.le_of_ble_eq_true rfl) λa37 v38 C39=>(X1 (K:=K) (o:=(oD Xa)) 6 1 (Hj (r:=Xa)) (Nat.le_of_ble_eq_true rfl) λa40 v41 C42=>(Xs (K:=K) (r:=Xa) 7 (EvB.sh (Xe 0)) λa43 v44=>(Ze (K:=K) (J:=({ oo:=λx48=>[[], x48.2.2.2.2.2.1, x48.2.2.2.2.2.2], ss:=λx48=>[some v_0, some v_1, some v_2, some v2, some v17, some x48.2.2.2.2.1, some x48.2.2.2.1, some x48.2.2.1, x48.1, x48.2.1, none, none], sc:=λg49 x48=>(SC.addO (SC.addO (SC.add (SC.add (SC.add (SC.add (SC.add (SC.add SC.nil K (rL Xa) v_0 a_0) K Xa v_1 a_1) K Xa v_2 a_2) K (rV Xa) v2 a1) K (rV Xa) v17 a16) K Xa x48.2.2.1 g49.1) K (oD Xa) x48.2.2.2.1 g49.2.1 x48.2.2.2.2.2.1) K (oL (oF Xa)) x48.2.2.2.2.1 g49.2.2 x48.2.2.2.2.2.2) } : Jn (Int × (List (Int × Int)) × (List Int)) (Option V × Option V × V × V × V × List XG × List XG))) (λ_=>tg1 8) ((none), (none), v44, v41, v38, C42, C39) (a43, a40, a37) (Yl (XI (Xb (r:=(rV Xa)) 4 rfl (λ_ s=>s.l.l.l.r)) (Xe 0))) rfl rfl (λ_ s=>(SC.i (SC.i (SC.i (SC.i (SC.i (SC.i (SC.i (SC.i SC.t s.l.l.l.l.l.l.l.r) s.l.l.l.l.l.l.r) s.l.l.l.l.l.r) s.l.l.l.l.r) s.l.l.l.r) s.r) s.l.r) s.l.l.r)) (λg50 x51 a52 v53=>(Xs (K:=K) (r:=Xa) 9 (EvB.sh (XZ (XI (Xb (r:=(rV Xa)) 4 rfl (λ_ s=>s.l.l.l.l.r)) (XS (XZ (Xe 8) (Xb (r:=Xa) 8 rfl (λ_ s=>s.r))) (Xe 8))) (XI (Ev.toB (ZN (Xn (EvB.sh (Xe 0)) (Xn (EvB.sh (Xe 1)) (Xn (EvB.sh (Vj (Xe 10) (Xe 9))) Zf))))) (XI (Xb (r:=(rV Xa)) 4 rfl (λ_ s=>s.l.l.l.l.r)) (Xe 3))))) λa54 v55=>(Xs (K:=K) (r:=Xa) 7 (EvB.sh (XS (XS (Xb (r:=Xa) 7 rfl (λ_ s=>s.l.l.l.l.r)) (Xe 1)) (Xb (r:=Xa) 9 rfl (λ_ s=>s.r)))) λa77 v78=>(Z4 (K:=K) (o:=(oF Xa)) (f:=λa85=>(Rs.bind (Rs.bind (Rs.bind (Rs.ok (2 : Int)) λx92=>(Rs.bind (Rs.bind (Rs.ok a16) λx90=>(Rs.bind (Rs.bind (Rs.bind (Rs.ok (8 : Int)) λx86=>(Rs.bind (Rs.ok a52) λx87=>(Z5 x86 x87))) λx88=>(Rs.bind (Rs.ok (7 : Int)) λx89=>(Rs.ok (x88 + x89)))) λx91=>(atR x90 x91))) λx93=>(Z5 x92 x93))) λx94=>(Rs.bind (Rs.ok (1 : Int)) λx95=>(Rs.ok (x94 - x95)))) λx96=>(Rs.bind (Rs.ok a77) λx97=>(chk (g50.2.1.length < sizeLine) ((λa98=>(Rs.ok (a77, a98, a85))) (JW g50.2.1 x97 x96)))))) 5 2 rfl rfl rfl (λ_ s=>s.l.l.l.r) (EvS.ev (Xk (r:=Xa) 7 rfl (λ_ s=>s.r))) λa83 C84=>(EZ (K:=K) (r:=Xa) (f:=λa98=>(Rs.ok (a77, a98, (g50.2.2 ++ [a83])))) 6 1 rfl rfl (λ_ s=>s.l.l.l.l.l.r) (EvB.sh (Jd (XZ (Xe 2) (XI (Xb (r:=(rV Xa)) 4 rfl (λ_ s=>s.l.l.l.l.l.l.l.r)) (XS (XZ (Xe 8) (Xb (r:=Xa) 8 rfl (λ_ s=>s.l.l.l.r))) (Xe 7)))) (Xe 1))) (Xb (r:=Xa) 7 rfl (λ_ s=>s.l.r)) λa98 C99=>(XE (J:=_) ((some v53), (some v55), v78, x51.2.2.2.1, x51.2.2.2.2.1, C99, C84) (a77, a98, (g50.2.2 ++ [a83])) rfl rfl (λ_ s=>(SC.i (SC.i (SC.i (SC.i (SC.i (SC.i (SC.i (SC.i SC.t s.l.l.l.l.l.l.l.l.l.l.l.l.r) s.l.l.l.l.l.l.l.l.l.l.l.r) s.l.l.l.l.l.l.l.l.l.l.r) s.l.l.l.l.l.l.l.l.l.r) s.l.l.l.l.l.l.l.l.r) s.l.l.r) s.r) s.l.r)))))))) λg100 x101=>(Zo (J:=({ oo:=λx107=>[x107.2.2, x101.2.2.2.2.2.1, x101.2.2.2.2.2.2], ss:=λx107=>[some v_0, some v_1, some v_2, some v2, some v17, some x101.2.2.2.2.1, some x101.2.2.2.1, some x101.2.2.1, x101.1, x101.2.1, some x107.1, x107.2.1], sc:=λg108 x107=>(SC.addO (SC.addO (SC.addO (SC.add (SC.add (SC.add (SC.add (SC.add (SC.add SC.nil K (rL Xa) v_0 a_0) K Xa v_1 a_1) K Xa v_2 a_2) K (rV Xa) v2 a1) K (rV Xa) v17 a16) K Xa x101.2.2.1 g100.1) K (oD Xa) x101.2.2.2.1 g100.2.1 x101.2.2.2.2.2.1) K (oL (oF Xa)) x101.2.2.2.2.1 g100.2.2 x101.2.2.2.2.2.2) K (oL (oL (oF Xa))) x107.1 g108 x107.2.2) } : Jn ((List (List Int))) (V × Option V × List XG))) (Z3 (Fd:=FNd ({ oo:=λx107=>[x107.2.2, x101.2.2.2.2.2.1, x101.2.2.2.2.2.2], ss:=λx107=>[some v_0, some v_1, some v_2, some v2, some v17, some x101.2.2.2.2.1, some x101.2.2.2.1, some x101.2.2.1, x101.1, x101.2.1, some x107.1, x107.2.1], sc:=λg108 x107=>(SC.addO (SC.addO (SC.addO (SC.add (SC.add (SC.add (SC.add (SC.add (SC.add SC.nil K (rL Xa) v_0 a_0) K Xa v_1 a_1) K Xa v_2 a_2) K (rV Xa) v2 a1) K (rV Xa) v17 a16) K Xa x101.2.2.1 g100.1) K (oD Xa) x101.2.2.2.1 g100.2.1 x101.2.2.2.2.2.1) K (oL (oF Xa)) x101.2.2.2.2.1 g100.2.2 x101.2.2.2.2.2.2) K (oL (oL (oF Xa))) x107.1 g108 x107.2.2) } : Jn ((List (List Int))) (V × Option V × List XG))) (XC (K:=K) (Jq (XI (Xb (r:=(rV Xa)) 4 rfl (λ_ s=>s.l.l.l.r)) (Xe 2)) (Xe 2))) (X1 (K:=K) (o:=(oL (oL (oF Xa)))) 10 0 (Q0 (Ev.toB (Zh (Zp (o:=(oL (oF Xa))) 5 2 rfl rfl (λ_ s=>s.r)) (Xb (r:=(rV Xa)) 4 rfl (λ_ s=>s.l.l.l.r)))) (Zp (o:=(oD Xa)) 6 1 rfl rfl (λ_ s=>s.l.r)) (Xb (r:=(rV Xa)) 4 rfl (λ_ s=>s.l.l.l.r)) (XS (Xe 2) (XI (Xb (r:=(rV Xa)) 4 rfl (λ_ s=>s.l.l.l.r)) (Xe 4)))) (Nat.le_of_ble_eq_true rfl) λa109 v110 C111=>(XE (J:=_) (v110, (none), C111) (a109) rfl rfl (λ_ s=>(SC.i (SC.i (SC.i (SC.i (SC.i (SC.i (SC.i (SC.i (SC.i SC.t s.l.l.l.l.l.l.l.l.r) s.l.l.l.l.l.l.l.r) s.l.l.l.l.l.l.r) s.l.l.l.l.l.r) s.l.l.l.l.r) s.l.l.l.r) s.l.l.r) s.l.r) s.r)))) (Xs (K:=K) (r:=Xa) 11 (EvB.sh (DX (XI (Xb (r:=(rV Xa)) 4 rfl (λ_ s=>s.l.l.l.r)) (Xe 1)) (Is (YY (Zp (o:=(oL (oF Xa))) 5 2 rfl rfl (λ_ s=>s.r))) (Xe 1)))) λa124 v125=>(X1 (K:=K) (o:=(oL (oL (oF Xa)))) 10 0 (Qt (Zp (o:=(oL (oF Xa))) 5 2 rfl rfl (λ_ s=>s.l.r)) (Xb (r:=(rV Xa)) 4 rfl (λ_ s=>s.l.l.l.l.r)) (Xb (r:=Xa) 11 rfl (λ_ s=>s.r))) (Nat.le_of_ble_eq_true rfl) λa133 v134 C135=>(XE (J:=_) (v134, (some v125), C135) (a133) rfl rfl (λ_ s=>(SC.i (SC.i (SC.i (SC.i (SC.i (SC.i (SC.i (SC.i (SC.i SC.t s.l.l.l.l.l.l.l.l.l.r) s.l.l.l.l.l.l.l.l.r) s.l.l.l.l.l.l.l.r) s.l.l.l.l.l.l.r) s.l.l.l.l.l.r) s.l.l.l.l.r) s.l.l.l.r) s.l.l.r) s.r)))))) λg141 x140=>(XJ (QS (YK (o:=(oL (oL (oF Xa)))) 10 0 rfl rfl (λ_ s=>s.r)) λ_=>(Uh (K:=K) (o1:=(oL (oF Xa))) 3 rfl (λ_ s=>s.l.r) (Y9 (λ_=>tg1 0) (XH (Xk (r:=(rV Xa)) 5 rfl (λ_ s=>s.r))) (λC142 a143 v144=>(EvS.ev (JJ (Xk (r:=Xa) 0 rfl (λ_ s=>s.r)) (EvB.sh (UI (Zp (o:=(oD Xa)) 1 3 rfl rfl (λ_ s=>s.l.l.l.l.r)) (Xb (r:=Xa) 0 rfl (λ_ s=>s.r))))))))))))))))))
theorem EY : FnScope ["_law_drawing"] ["_law_drawing"] (Xf Q3):=⟨rfl, rfl, rfl, by decide +kernel, rfl, by decide +kernel, by decide +kernel⟩
theorem HG (D : Def K mg "_law_copy" Q3 ["_law_drawing"])  (Y : Ecs XB K mg) (Z : Blt mg) : Fn P w K mg base 1 "_law_copy" ["_law_drawing"] (sp1 (rP2 (rV (rV Xa)) (rV (rP2 Xa Xa))) (oT2 (oL (oL (oF Xa))) (oL (oF (rP2 Xa Xa)))) Vf K):=by
  refine Zm D EY (λvs H Q E h=>?_) (λf cdv A outer s H vs Q E hr h=>?_)
  . obtain ⟨v_0, a_0, b, rfl, _⟩:=h; rfl
  obtain ⟨v_0, a_0, b, rfl, h_0, hm, q⟩:=h
  have hu:=hu8 hr
  have hu1:=YI hr
  refine ⟨_, (Xd (XL (Zr (Xc (YV (sc:=(Xf Q3)) (N0:=["_law_drawing"]) (tns:=["_law_walk"]) (caps:=[]) rfl (XT (K:=K) rfl (XO (YQ K rfl) (pv 0) Xg (λ_ _=>rfl))) (Zg (by decide)) (λcl C s H ex E=>⟨Xp (i:=0) (show List.Nodup (["_law_walk"] : List Str) by decide +kernel) rfl (Or.inl rfl), Za, (QX (ZZ K rfl) rfl Z.b_list PyProof.Rows.boot_list (Xc (pv 0) Xh))⟩)) (Xc (QX (ZZ K rfl) rfl Z.b_list PyProof.Rows.boot_list (Xc (XO (YQ K rfl) (pv 0) Xg (λ_ _=>rfl)) Xh)) Xh))))
    Xi), ?_⟩
  refine Zj (S:=(SC.add SC.nil K (rP2 (rV (rV Xa)) (rV (rP2 Xa Xa))) v_0 a_0)) (σ:=[some v_0]) 0 ?_ (SC.i SC.t h_0) hm q rfl
  unfold Vf
  exact (XJ (QS (Y9 (λ_=>tg1 0) (XH (VA (Xk (r:=(rP2 (rV (rV Xa)) (rV (rP2 Xa Xa)))) 0 rfl (λ_ s=>s.r)))) (λC2 a3 v4=>(Ga (EvS.ls (Xk (r:=(rV Xa)) 0 rfl (λ_ s=>s.r)))))) λ_=>(Ga (EvB.ls (Jh (Xb (r:=(rP2 (rV (rV Xa)) (rV (rP2 Xa Xa)))) 0 rfl (λ_ s=>s.r)))))))
theorem KL : FnScope ["_law_one"] ["_law_one"] (Xf Y1):=⟨rfl, rfl, rfl, by decide +kernel, rfl, by decide +kernel, by decide +kernel⟩
theorem K4 (D : Def K mg "_law_is_whole" Y1 ["_law_one"])  (Y : Ecs XB K mg) (Z : Blt mg) : Fn P w K mg base 1 "_law_is_whole" ["_law_one"] (sp1 Xa (oF Xr) Qm K):=by
  refine Zm D KL (λvs H Q E h=>?_) (λf cdv A outer s H vs Q E hr h=>?_)
  . obtain ⟨v_0, a_0, b, rfl, _⟩:=h; rfl
  obtain ⟨v_0, a_0, b, rfl, h_0, hm, q⟩:=h
  have hu:=hu8 hr
  have hu1:=YI hr
  refine ⟨_, (Xd (XL (GM (XF Z1 rfl Z.b_isinstance PyProof.Rows.boot_isinstance (Xc (pv 0) (Xc (Ua (v:=V.ty "int") rfl Z.b_int PyProof.Rows.boot_int rfl) Xh))) (GW (Ll (XF Z1 rfl Z.b_isinstance PyProof.Rows.boot_isinstance (Xc (pv 0) (Xc (Ua (v:=V.ty "bool") rfl Z.b_bool PyProof.Rows.boot_bool rfl) Xh)))))))
    Xi), ?_⟩
  refine Zj (S:=(SC.add SC.nil K Xa v_0 a_0)) (σ:=[some v_0]) 0 ?_ (SC.i SC.t h_0) hm q rfl
  unfold Qm
  exact (XJ (EvS.ev (EvB.sh (JK (Qp "int" true (Uc K "int") (Xb (r:=Xa) 0 rfl (λ_ s=>s.r))) (B0 (Qp "bool" false (UT K) (Xb (r:=Xa) 0 rfl (λ_ s=>s.r))))))))
theorem JS : FnScope ["_law_drawing", "_law_count_here", "_law_walk"] ["_law_drawing"] (Xf ZS):=⟨rfl, rfl, rfl, by decide +kernel, rfl, by decide +kernel, by decide +kernel⟩
theorem BX (D : Def K mg "_law_count" ZS ["_law_drawing"])  (Y : Ecs XB K mg) (Z : Blt mg) : Fn P w K mg base 1 "_law_count" ["_law_drawing"] (sp1 (rP2 (rV (rV Xa)) (rV (rP2 Xa Xa))) (oF Xa) QH K):=by
  refine Zm D JS (λvs H Q E h=>?_) (λf cdv A outer s H vs Q E hr h=>?_)
  . obtain ⟨v_0, a_0, b, rfl, _⟩:=h; rfl
  obtain ⟨v_0, a_0, b, rfl, h_0, hm, q⟩:=h
  have hu:=hu8 hr
  have hu1:=YI hr
  refine ⟨_, (Xd (Xl (i:=1) JS.nd rfl (Or.inl rfl) (XF (Xu K rfl) rfl Z.b_len PySem.boot_len (Xc (XO (YQ K rfl) (pv 0) Xg (λ_ _=>rfl)) Xh)))
    (Xd (YZ PassesOwn.never rfl (XT (K:=K) rfl (XO (YQ K rfl) (pv 0) Xg (λ_ _=>rfl))) (Xp (i:=2) JS.nd rfl (Or.inl rfl))
      (Xd (Zu (XR Qx (XF (Xu K rfl) rfl Z.b_len PySem.boot_len (Xc (YV (sc:=(Xf ZS)) (N0:=["_law_drawing", "_law_count_here", "_law_walk"]) (tns:=["_law_one"]) (caps:=[]) rfl (XT (K:=K) rfl (pv 2)) (Zg (by decide)) (λcl C s H ex E=>⟨Xp (i:=0) (show List.Nodup (["_law_one"] : List Str) by decide +kernel) rfl (Or.inl rfl), (UJ (XR Ke (pv 0) Xg (X5 _))), (pv 0)⟩)) Xh)) Xg (X5 _))
        (Xd (Xl (i:=1) JS.nd rfl (Or.inl rfl) (Xo Yh (pv 1) Xg))
        Xi)
        Xi)
      Xi))
    (Xd (XL (pv 1))
    Xi))), ?_⟩
  refine Zj (S:=(SC.add SC.nil K (rP2 (rV (rV Xa)) (rV (rP2 Xa Xa))) v_0 a_0)) (σ:=[some v_0, none, none]) 0 ?_ (SC.i SC.t h_0) hm q rfl
  unfold QH
  exact (Xs (K:=K) (r:=Xa) 1 (EvB.sh (YY (Jh (Xb (r:=(rP2 (rV (rV Xa)) (rV (rP2 Xa Xa)))) 0 rfl (λ_ s=>s.r))))) λa1 v2=>(Ze (K:=K) (J:=({ oo:=λx6=>[], ss:=λx6=>[some v_0, some x6.2, x6.1], sc:=λg7 x6=>(SC.add (SC.add SC.nil K (rP2 (rV (rV Xa)) (rV (rP2 Xa Xa))) v_0 a_0) K Xa x6.2 g7) } : Jn (Int) (Option V × V))) (λ_=>tg1 2) ((none), v2) (a1) (XH (VA (Xk (r:=(rP2 (rV (rV Xa)) (rV (rP2 Xa Xa)))) 0 rfl (λ_ s=>s.l.r)))) rfl rfl (λ_ s=>(SC.i (SC.i SC.t s.l.r) s.r)) (λg8 x9 a10 v11=>(Zo (J:=({ oo:=λx22=>[], ss:=λx22=>[some v_0, some x22, some v11], sc:=λg23 x22=>(SC.add (SC.add (SC.add SC.nil K (rP2 (rV (rV Xa)) (rV (rP2 Xa Xa))) v_0 a_0) K (rV Xa) v11 a10) K Xa x22 g23) } : Jn (Int) (V))) (Z3 (Fd:=FNd ({ oo:=λx22=>[], ss:=λx22=>[some v_0, some x22, some v11], sc:=λg23 x22=>(SC.add (SC.add (SC.add SC.nil K (rP2 (rV (rV Xa)) (rV (rP2 Xa Xa))) v_0 a_0) K (rV Xa) v11 a10) K Xa x22 g23) } : Jn (Int) (V))) (XC (K:=K) (Zs (YY (Ev.toB (JP (λ_=>tg1 0) (XH (Xk (r:=(rV Xa)) 2 rfl (λ_ s=>s.r))) (λC12 a13 v14=>(XC (K:=K) (Jq (Xb (r:=Xa) 0 rfl (λ_ s=>s.r)) (Xe 0)))) (λC12 a13 v14=>(EvS.ev (Xk (r:=Xa) 0 rfl (λ_ s=>s.r))))))) (Xe 0))) (Xs (K:=K) (r:=Xa) 1 (EvB.sh (XS (Xb (r:=Xa) 1 rfl (λ_ s=>s.l.r)) (Xe 1))) λa24 v25=>(XE (J:=_) (v25) (a24) rfl rfl (λ_ s=>(SC.i (SC.i (SC.i SC.t s.l.l.l.r) s.l.r) s.r)))) (XE (J:=_) (x9.2) (g8) rfl rfl (λ_ s=>(SC.i (SC.i (SC.i SC.t s.l.l.r) s.r) s.l.r)))) λg29 x28=>(XE (J:=_) ((some v11), x28) (g29) rfl rfl (λ_ s=>(SC.i (SC.i SC.t s.l.l.r) s.r))))) λg30 x31=>(XJ (EvS.ev (Xk (r:=Xa) 1 rfl (λ_ s=>s.r))))))
theorem ZR : FnScope ["_law_number", "_law_step"] ["_law_number"] (Xf Yt):=⟨rfl, rfl, rfl, by decide +kernel, rfl, by decide +kernel, by decide +kernel⟩
theorem V5 (D : Def K mg "_law_is_prime" Yt ["_law_number"])  (Y : Ecs XB K mg) (Z : Blt mg) : Fn P w K mg base 1 "_law_is_prime" ["_law_number"] (sp1 Xa (oF Xr) Zi K):=by
  refine Zm D ZR (λvs H Q E h=>?_) (λf cdv A outer s H vs Q E hr h=>?_)
  . obtain ⟨v_0, a_0, b, rfl, _⟩:=h; rfl
  obtain ⟨v_0, a_0, b, rfl, h_0, hm, q⟩:=h
  have hu:=hu8 hr
  have hu1:=YI hr
  refine ⟨_, (Xd (Zu (PW.pt (LX (XR Ke (pv 0) Xg (X5 _)) (Ez (XR CP (pv 0) Xg (X5 _)))))
      (Xd (XL QM)
      Xi)
      Xi)
    (Xd (Xl (i:=1) ZR.nd rfl (Or.inl rfl) Xg)
    (Xd (JN PassesOwn.never (XR LR (Xo Yr (pv 1) (pv 1)) (pv 0) (X5 _))
      (Xd (Zu (XR Qx (Xo Yj (pv 0) (pv 1)) Xg (X5 _))
        (Xd (XL QM)
        Xi)
        Xi)
      (Xd (Xl (i:=1) ZR.nd rfl (Or.inl rfl) (Xo Yh (pv 1) Xg))
      Xi)))
    (Xd (XL QM)
    Xi)))), ?_⟩
  refine Zj (S:=(SC.add SC.nil K Xa v_0 a_0)) (σ:=[some v_0, none]) 0 ?_ (SC.i SC.t h_0) hm q rfl
  unfold Zi
  exact (VR (Ee (XC (K:=K) (Jq (Xb (r:=Xa) 0 rfl (λ_ s=>s.r)) (Xe 2))) (XC (K:=K) (UO (Xb (r:=Xa) 0 rfl (λ_ s=>s.r)) (Xe 100000)))) (XJ (EvS.ev (EvB.sh (ZA false)))) (Xs (K:=K) (r:=Xa) 1 (EvB.sh (Xe 2)) λa6 v7=>(Kc (K:=K) (J:=({ oo:=λx8=>[], ss:=λx8=>[some v_0, some x8], sc:=λg9 x8=>(SC.add (SC.add SC.nil K Xa v_0 a_0) K Xa x8 g9) } : Jn (Int) (V))) (a_0.natAbs + 2) (v7) (a6) rfl rfl (λ_ s=>(SC.i (SC.i SC.t s.l.r) s.r)) (λg10 x11=>(XC (K:=K) (Eo (XZ (Xb (r:=Xa) 1 rfl (λ_ s=>s.r)) (Xb (r:=Xa) 1 rfl (λ_ s=>s.r))) (Xb (r:=Xa) 0 rfl (λ_ s=>s.l.r))))) (λg10 x11=>(Ug (XC (K:=K) (Zs (XU (Xb (r:=Xa) 0 rfl (λ_ s=>s.l.r)) (Xb (r:=Xa) 1 rfl (λ_ s=>s.r))) (Xe 0))) (XJ (EvS.ev (EvB.sh (ZA false)))) (Xs (K:=K) (r:=Xa) 1 (EvB.sh (XS (Xb (r:=Xa) 1 rfl (λ_ s=>s.r)) (Xe 1))) λa21 v22=>(Gs (XE (J:=_) (v22) (a21) rfl rfl (λ_ s=>(SC.i (SC.i SC.t s.l.l.r) s.r))))))) λg27 x28=>(XJ (EvS.ev (EvB.sh (ZA true)))))))
theorem QK : FnScope ["_law_ask", "_law_drawing", "_law_prime", "_law_factor", "_law_found", "_law_number", "_law_due", "_law_free"] ["_law_ask", "_law_drawing", "_law_prime", "_law_factor"] (Xf Jt):=⟨rfl, rfl, rfl, by decide +kernel, rfl, by decide +kernel, by decide +kernel⟩
theorem E5 (D : Def K mg "_law_said" Jt ["_law_ask", "_law_drawing", "_law_prime", "_law_factor"]) (g_straight_many : FnX P w K mg base 8 "straight_many" ["drawing", "prime", "factor"] (Bi mg (rP2 (rV (rV Xa)) (rV (rP2 Xa Xa))) Xa Xa (oF Xa) XY K)) (g_equations : FnX P w K mg base 6 "equations" ["drawing", "prime", "factor"] (Bi mg (rP2 (rV (rV Xa)) (rV (rP2 Xa Xa))) Xa Xa (oL (oL (oF Xa))) X4 K)) (g_keeps : FnX P w K mg base 7 "keeps" ["drawing", "prime", "factor", "colours"] (IW mg (rP2 (rV (rV Xa)) (rV (rP2 Xa Xa))) Xa Xa (rV Xa) (oF Xr) Qb K)) (g_solved : FnX P w K mg base 7 "solved" ["drawing", "prime", "factor"] (Bi mg (rP2 (rV (rV Xa)) (rV (rP2 Xa Xa))) Xa Xa (oT3 (oL (oF Xa)) (oL (oL (oF Xa))) (oL (oT2 (oF Xa) (oL (oF Xa))))) Y3 K)) (g_is_whole : Fn P w K mg base 1 "_law_is_whole" ["_law_one"] (sp1 Xa (oF Xr) Qm K)) (g_count : Fn P w K mg base 1 "_law_count" ["_law_drawing"] (sp1 (rP2 (rV (rV Xa)) (rV (rP2 Xa Xa))) (oF Xa) QH K)) (Y : Ecs XB K mg) (Z : Blt mg) : FnX P w K mg base 9 "_law_said" ["_law_ask", "_law_drawing", "_law_prime", "_law_factor"] (IW mg Xa (rP2 (rV (rV Xa)) (rV (rP2 Xa Xa))) Xa Xa (oF Xr) Qe K):=by
  refine QV D QK (λvs H Q E h=>?_) (λf cdv A outer s H vs Q E hr h=>?_)
  . obtain ⟨v_0, v_1, v_2, v_3, a_0, a_1, a_2, a_3, rfl, _⟩:=h; rfl
  obtain ⟨v_0, v_1, v_2, v_3, a_0, a_1, a_2, a_3, rfl, h_0, h_1, h_2, h_3, hz⟩:=h
  have hu:=hu8 hr
  have hu1:=YI hr
  refine ⟨_, (Xd (Zu (XR Qx (pv 0) Xg (X5 _))
      (Xd (Xl (i:=4) QK.nd rfl (Or.inl rfl) (ZH g_equations hr (by decide) Q5 (Xc (pv 1) (Xc (pv 2) (Xc (pv 3) Xh)))))
      (Xd (PS.nox (XL (GM (XF Z1 rfl Z.b_isinstance PyProof.Rows.boot_isinstance (Xc (pv 4) (Xc (Ua (v:=V.ty "list") rfl Z.b_list PyProof.Rows.boot_list rfl) Xh))) (GW (Ub Qx (XF (Xu K rfl) rfl Z.b_len PySem.boot_len (Xc (pv 4) Xh)) (XF (Xu K rfl) rfl Z.b_len PySem.boot_len (Xc (XO (YQ K rfl) (pv 1) Xg (λ_ _=>rfl)) Xh)) (X5 _))))))
      Xi))
      Xi)
    (Xd (Zu (XR Qx (pv 0) Xg (X5 _))
      (Xd (XL (ZH g_keeps hr (by decide) Q5 (Xc (pv 1) (Xc (pv 2) (Xc (pv 3) (Xc (Xo U7 (Ys (Xc Xg Xh)) (YO g_count hr (by decide) (Xc (pv 1) Xh))) Xh))))))
      Xi)
      Xi)
    (Xd (Zu (XR Qx (pv 0) Xg (X5 _))
      (Xd (Xl (i:=4) QK.nd rfl (Or.inl rfl) (ZH g_solved hr (by decide) Q5 (Xc (pv 1) (Xc (pv 2) (Xc (pv 3) Xh)))))
      (Xd (PS.nox (XL (GM (XF Z1 rfl Z.b_isinstance PyProof.Rows.boot_isinstance (Xc (pv 4) (Xc (Ua (v:=V.ty "tuple") rfl Z.b_tuple PyProof.Rows.boot_tuple rfl) Xh))) (GW (Ub Qx (XF (Xu K rfl) rfl Z.b_len PySem.boot_len (Xc (pv 4) Xh)) Xg (X5 _))))))
      Xi))
      Xi)
    (Xd (Xl (i:=5) QK.nd rfl (Or.inl rfl) (ZH g_straight_many hr (by decide) Q5 (Xc (pv 1) (Xc (pv 2) (Xc (pv 3) Xh)))))
    (Xd (PS.nox (Xl (i:=6) QK.nd rfl (Or.inl rfl) Xg))
    (Xd (YZ PassesOwn.leaving rfl (XT (K:=K) rfl (XO (YQ K rfl) (ZH g_solved hr (by decide) Q5 (Xc (pv 1) (Xc (pv 2) (Xc (pv 3) Xh)))) Xg (λ_ _=>rfl))) (Xp (i:=7) QK.nd rfl (Or.inl rfl))
      (Xd (PS.nox (Xl (i:=6) QK.nd rfl (Or.inl rfl) (Xo Yr (pv 6) (pv 2))))
      Xi))
    (Xd (PS.nox (XL (GM (YO g_is_whole hr (by decide) (Xc (pv 5) Xh)) (GW (Ub Qx (pv 5) (pv 6) (X5 _))))))
    Xi))))))), ?_⟩
  refine Jp (S:=(SC.add (SC.add (SC.add (SC.add SC.nil K Xa v_0 a_0) K (rP2 (rV (rV Xa)) (rV (rP2 Xa Xa))) v_1 a_1) K Xa v_2 a_2) K Xa v_3 a_3)) (σ:=[some v_0, some v_1, some v_2, some v_3, none, none, none, none]) 0 ?_ (SC.i (SC.i (SC.i (SC.i SC.t h_0) h_1) h_2) h_3) hz rfl
  unfold Qe
  exact (VR (XC (K:=K) (Zs (Xb (r:=Xa) 0 rfl (λ_ s=>s.l.l.l.r)) (Xe 0))) (Xs (K:=K) (r:=(rV (rV Xa))) 4 (Ev.sh (Zy (Xb (r:=(rP2 (rV (rV Xa)) (rV (rP2 Xa Xa)))) 1 rfl (λ_ s=>s.l.l.r)) (Xb (r:=Xa) 2 rfl (λ_ s=>s.l.r)) (Xb (r:=Xa) 3 rfl (λ_ s=>s.r)))) λa4 v5=>(XJ (EvS.ev (EvB.sh (JK (Qp "list" true (Uc K "list") (Xb (r:=(rV (rV Xa))) 4 rfl (λ_ s=>s.r))) (Zs (YY (Xb (r:=(rV (rV Xa))) 4 rfl (λ_ s=>s.r))) (YY (Jh (Xb (r:=(rP2 (rV (rV Xa)) (rV (rP2 Xa Xa)))) 1 rfl (λ_ s=>s.l.l.l.r)))))))))) (VR (XC (K:=K) (Zs (Xb (r:=Xa) 0 rfl (λ_ s=>s.l.l.l.r)) (Xe 1))) (XJ (Kf (Xb (r:=(rP2 (rV (rV Xa)) (rV (rP2 Xa Xa)))) 1 rfl (λ_ s=>s.l.l.r)) (Xb (r:=Xa) 2 rfl (λ_ s=>s.l.r)) (Xb (r:=Xa) 3 rfl (λ_ s=>s.r)) (Ev.toB (U8 (Ev.ls (ZN (Xn (EvB.sh (Xe 0)) Zf))) (Ev.toB (YT (Xb (r:=(rP2 (rV (rV Xa)) (rV (rP2 Xa Xa)))) 1 rfl (λ_ s=>s.l.l.r)))))))) (VR (XC (K:=K) (Zs (Xb (r:=Xa) 0 rfl (λ_ s=>s.l.l.l.r)) (Xe 2))) (Xs (K:=K) (r:=(rP3 (rV Xa) (rV (rV Xa)) (rV (rP2 Xa (rV Xa))))) 4 (Ev.sh (Zy (Xb (r:=(rP2 (rV (rV Xa)) (rV (rP2 Xa Xa)))) 1 rfl (λ_ s=>s.l.l.r)) (Xb (r:=Xa) 2 rfl (λ_ s=>s.l.r)) (Xb (r:=Xa) 3 rfl (λ_ s=>s.r)))) λa32 v33=>(XJ (EvS.ev (EvB.sh (JK (Qp "tuple" true (Uc K "tuple") (Xb (r:=(rP3 (rV Xa) (rV (rV Xa)) (rV (rP2 Xa (rV Xa))))) 4 rfl (λ_ s=>s.r))) (Zs (Dz (Xb (r:=(rP3 (rV Xa) (rV (rV Xa)) (rV (rP2 Xa (rV Xa))))) 4 rfl (λ_ s=>s.r))) (Xe 3))))))) (Xs (K:=K) (r:=Xa) 5 (EvB.sh (Ev.toB (Zy (Xb (r:=(rP2 (rV (rV Xa)) (rV (rP2 Xa Xa)))) 1 rfl (λ_ s=>s.l.l.r)) (Xb (r:=Xa) 2 rfl (λ_ s=>s.l.r)) (Xb (r:=Xa) 3 rfl (λ_ s=>s.r))))) λa41 v42=>(Xs (K:=K) (r:=Xa) 6 (EvB.sh (Xe 1)) λa46 v47=>(Ze (K:=K) (J:=({ oo:=λx52=>[], ss:=λx52=>[some v_0, some v_1, some v_2, some v_3, none, some v42, some x52.2, x52.1], sc:=λg53 x52=>(SC.add (SC.add (SC.add (SC.add (SC.add (SC.add SC.nil K Xa v_0 a_0) K (rP2 (rV (rV Xa)) (rV (rP2 Xa Xa))) v_1 a_1) K Xa v_2 a_2) K Xa v_3 a_3) K Xa v42 a41) K Xa x52.2 g53) } : Jn (Int) (Option V × V))) (λ_=>tg1 7) ((none), v47) (a46) (XH (F5 (Ev.sh (Zy (Xb (r:=(rP2 (rV (rV Xa)) (rV (rP2 Xa Xa)))) 1 rfl (λ_ s=>s.l.l.l.l.r)) (Xb (r:=Xa) 2 rfl (λ_ s=>s.l.l.l.r)) (Xb (r:=Xa) 3 rfl (λ_ s=>s.l.l.r)))))) rfl rfl (λ_ s=>(SC.i (SC.i (SC.i (SC.i (SC.i (SC.i SC.t s.l.l.l.l.l.r) s.l.l.l.l.r) s.l.l.l.r) s.l.l.r) s.l.r) s.r)) (λg54 x55 a56 v57=>(Xs (K:=K) (r:=Xa) 6 (EvB.sh (XZ (Xb (r:=Xa) 6 rfl (λ_ s=>s.l.r)) (Xb (r:=Xa) 2 rfl (λ_ s=>s.l.l.l.l.r)))) λa58 v59=>(XE (J:=_) ((some v57), v59) (a58) rfl rfl (λ_ s=>(SC.i (SC.i (SC.i (SC.i (SC.i (SC.i SC.t s.l.l.l.l.l.l.l.r) s.l.l.l.l.l.l.r) s.l.l.l.l.l.r) s.l.l.l.l.r) s.l.l.l.r) s.r))))) λg62 x63=>(XJ (EvS.ev (EvB.sh (JK (Ev.toB (YT (Xb (r:=Xa) 5 rfl (λ_ s=>s.l.r)))) (Zs (Xb (r:=Xa) 5 rfl (λ_ s=>s.l.r)) (Xb (r:=Xa) 6 rfl (λ_ s=>s.r)))))))))))))
theorem KU : FnScope ["_law_ask", "_law_drawing", "_law_prime", "_law_factor", "_law_found", "e"] ["_law_ask", "_law_drawing", "_law_prime", "_law_factor"] (Xf Jy):=⟨rfl, rfl, rfl, by decide +kernel, rfl, by decide +kernel, by decide +kernel⟩
theorem ER (D : Def K mg "_law_done" Jy ["_law_ask", "_law_drawing", "_law_prime", "_law_factor"]) (g_said : FnX P w K mg base 9 "_law_said" ["_law_ask", "_law_drawing", "_law_prime", "_law_factor"] (IW mg Xa (rP2 (rV (rV Xa)) (rV (rP2 Xa Xa))) Xa Xa (oF Xr) Qe K)) (Y : Ecs XB K mg) (Z : Blt mg) : Fn P w K mg base 10 "_law_done" ["_law_ask", "_law_drawing", "_law_prime", "_law_factor"] (sp4 Xa (rP2 (rV (rV Xa)) (rV (rP2 Xa Xa))) Xa Xa (oF (rEi (rP3 Ql Xr Xr) (rP2 Ql Xr))) Z8 K):=by
  refine Zm D KU (λvs H Q E h=>?_) (λf cdv A outer s H vs Q E hr h=>?_)
  . obtain ⟨v_0, v_1, v_2, v_3, a_0, a_1, a_2, a_3, b, rfl, _⟩:=h; rfl
  obtain ⟨v_0, v_1, v_2, v_3, a_0, a_1, a_2, a_3, b, rfl, h_0, h_1, h_2, h_3, hm, q⟩:=h
  obtain ⟨C_PlaitError, h_PlaitError, q_PlaitError⟩:=Y.adr "PlaitError" (.head _)
  obtain ⟨C_NoUnit, h_NoUnit, q_NoUnit⟩:=Y.adr "NoUnit" (.tail _ (.tail _ (.head _)))
  obtain ⟨C_NoPrime, h_NoPrime, q_NoPrime⟩:=Y.adr "NoPrime" (.tail _ (.tail _ (.tail _ (.head _))))
  have hu:=hu8 hr
  have hu1:=YI hr
  refine ⟨_, (Xd (LL rfl rfl rfl rfl h_PlaitError KU.nd (i:=5) rfl rfl rfl (λpn xe E hp=>(Xd (Xl (i:=4) KU.nd rfl (Or.inl rfl) (ZH g_said hr (by decide) hp (Xc (pv 0) (Xc (pv 1) (Xc (pv 2) (Xc (pv 3) Xh))))))
      Xi))
     (λpn a o C hm hc => (Xd (XL (Zr (Xc JB (Xc (XF (Gp rfl hm hc rfl) rfl Z.b_isinstance PyProof.Rows.boot_isinstance (Xc (pv 5) (Xc (Gj (v := V.ref C_NoPrime) rfl h_NoPrime rfl) Xh))) (Xc (XF (Gp rfl hm hc rfl) rfl Z.b_isinstance PyProof.Rows.boot_isinstance (Xc (pv 5) (Xc (Gj (v := V.ref C_NoUnit) rfl h_NoUnit rfl) Xh))) Xh)))))
      Xi)))
    (Xd (XL (Zr (Xc JB (Xc (pv 4) Xh))))
    Xi)), ?_⟩
  refine Zj (S:=(SC.add (SC.add (SC.add (SC.add SC.nil K Xa v_0 a_0) K (rP2 (rV (rV Xa)) (rV (rP2 Xa Xa))) v_1 a_1) K Xa v_2 a_2) K Xa v_3 a_3)) (σ:=[some v_0, some v_1, some v_2, some v_3, none, none]) 0 ?_ (SC.i (SC.i (SC.i (SC.i SC.t h_0) h_1) h_2) h_3) hm q rfl
  unfold Z8
  exact (Hh (r:=Xr) (K:=K) (d:="PlaitError") (N:=6) (i:=5) Y (.head _) h_PlaitError 4 (λ_=>(EvB.sh (Ev.toB (Kf (Xb (r:=Xa) 0 rfl (λ_ s=>s.l.l.l.r)) (Xb (r:=(rP2 (rV (rV Xa)) (rV (rP2 Xa Xa)))) 1 rfl (λ_ s=>s.l.l.r)) (Xb (r:=Xa) 2 rfl (λ_ s=>s.l.r)) (Xb (r:=Xa) 3 rfl (λ_ s=>s.r)))))) (λa6 v7=>(XJ (HK (EvS.ev (JJ (EvB.sh (J1 _)) (Xk (r:=Xr) 4 rfl (λ_ s=>s.r))))))) (λx1 hx C a hC=>(XJ (Hf (EvS.ev (Q1 (EvB.sh (J1 _)) (EvB.sh (C5 5 rfl (Y.att _ hx C hC) (Y.kit _ hx "NoPrime" (.tail _ (.tail _ (.tail _ (.head _)))) C C_NoPrime hC h_NoPrime))) (EvB.sh (C5 5 rfl (Y.att _ hx C hC) (Y.kit _ hx "NoUnit" (.tail _ (.tail _ (.head _))) C C_NoUnit hC h_NoUnit)))))))))
theorem Z6 : FnScope ["_law_script", "_law_drawing", "_law_some", "_law_primes", "_law_prime", "_law_factor", "_law_due", "_law_k", "_law_found"] ["_law_script"] (Xf Up):=⟨rfl, rfl, rfl, by decide +kernel, rfl, by decide +kernel, by decide +kernel⟩
theorem IX {f : Addr} {fd : FuncData} (F : Fun K "law" "law" Up f fd) (g_drawn : Fn P w K mg base 3 "_law_drawn" ["_law_script", "_law_place", "_law_most"] (sp3 (rL Xa) Xa Xa (oT2 (oL (oL (oF Xa))) (oL (oF (rP2 Xa Xa)))) QG K)) (g_row : Fn P w K mg base 2 "_law_row" ["_law_script", "_law_place", "_law_sizes"] (sp3 (rL Xa) Xa (rV Xa) (oL (oF Xa)) Kg K)) (g_l_is_prime : Fn P w K mg base 1 "_law_is_prime" ["_law_number"] (sp1 Xa (oF Xr) Zi K)) (g_done : Fn P w K mg base 10 "_law_done" ["_law_ask", "_law_drawing", "_law_prime", "_law_factor"] (sp4 Xa (rP2 (rV (rV Xa)) (rV (rP2 Xa Xa))) Xa Xa (oF (rEi (rP3 Ql Xr Xr) (rP2 Ql Xr))) Z8 K)) (g_copy : Fn P w K mg base 1 "_law_copy" ["_law_drawing"] (sp1 (rP2 (rV (rV Xa)) (rV (rP2 Xa Xa))) (oT2 (oL (oL (oF Xa))) (oL (oF (rP2 Xa Xa)))) Vf K)) (Y : Ecs XB K mg) (Z : Blt mg) : FnOk P w K mg base CX0 11 f fd ["_law_script"] (sp1 (rL Xa) (oF Xr) K7 K):=by
  refine F.ok Z6 (λvs H Q E h=>?_) (λcdv A outer s H vs Q E hr h=>?_)
  . obtain ⟨v_0, a_0, b, rfl, _⟩:=h; rfl
  obtain ⟨v_0, a_0, b, rfl, h_0, hm, q⟩:=h
  have hu:=hu8 hr
  have hu1:=YI hr
  apply Exists.intro
  apply And.intro
  case left=>
   refine' Xd ?zq1 ?zq2
   case zq1=>exact (Xl (i:=1) Z6.nd rfl (Or.inl rfl) (YO g_drawn hr (by decide) (Xc (pv 0) (Xc Xg (Xc Xg Xh)))))
   case zq2=>
    refine' Xd ?zq3 ?zq4
    case zq3=>exact (Xl (i:=2) Z6.nd rfl (Or.inl rfl) (YO g_row hr (by decide) (Xc (pv 0) (Xc Xg (Xc (Ys (Xc Xg (Xc Xg (Xc (Xo UK Xg Xg) (Xc Xg (Xc (Xo UK Xg Xg) (Xc Xg (Xc Xg Xh)))))))) Xh Kp)))))
    case zq4=>
     refine' Xd ?zq5 ?zq6
     case zq5=>
      refine' Xl (i:=3) ?zq7 ?zq8 ?zq9 ?zq10
      case zq7=>exact Z6.nd
      case zq8=>exact rfl
      case zq9=>exact (Or.inl rfl)
      case zq10=>
       refine' Ys ?zq11
       case zq11=>
        refine' Xc ?zq12 ?zq13
        case zq12=>exact Xg
        case zq13=>
         refine' Xc ?zq14 ?zq15
         case zq14=>exact Xg
         case zq15=>
          refine' Xc ?zq16 ?zq17
          case zq16=>exact Xg
          case zq17=>
           refine' Xc ?zq18 ?zq19
           case zq18=>exact Xg
           case zq19=>
            refine' Xc ?zq20 ?zq21
            case zq20=>exact Xg
            case zq21=>
             refine' Xc ?zq22 ?zq23
             case zq22=>exact Xg
             case zq23=>
              refine' Xc ?zq24 ?zq25
              case zq24=>exact Xg
              case zq25=>
               refine' Xc ?zq26 ?zq27
               case zq26=>exact Xg
               case zq27=>
                refine' Xc ?zq28 ?zq29
                case zq28=>exact Xg
                case zq29=>
                 refine' Xc ?zq30 ?zq31
                 case zq30=>exact Xg
                 case zq31=>
                  refine' Xc ?zq32 ?zq33
                  case zq32=>exact Xg
                  case zq33=>
                   refine' Xc ?zq34 ?zq35
                   case zq34=>exact (XO (Xm K rfl) (pv 2) Xg (λ_ _=>rfl))
                   case zq35=>
                    exact Xh
     case zq6=>
      exact (Xd (Xl (i:=3) Z6.nd rfl (Or.inl rfl) (Xo Gr (pv 3) (Ys (Xc (KJ Vl (XO (Xm K rfl) (pv 2) Xg (λ_ _=>rfl))) (Xc (Xo Yh Xg (XO (Xm K rfl) (pv 2) Xg (λ_ _=>rfl))) (Xc (Xo Yh (XO (Xm K rfl) (pv 2) Xg (λ_ _=>rfl)) Xg) (Xc (Xo Yh Xg (XO (Xm K rfl) (pv 2) Xg (λ_ _=>rfl))) Xh)))))))
       (Xd (Xl (i:=4) Z6.nd rfl (Or.inl rfl) (XO (Xm K rfl) (pv 3) (XO (Xm K rfl) (pv 2) Xg (λ_ _=>rfl)) (λ_ _=>rfl)))
       (Xd (Xl (i:=5) Z6.nd rfl (Or.inl rfl) (XO (Xm K rfl) (Ys (Xc Xg (Xc (XO (Xm K rfl) (pv 2) Xg (λ_ _=>rfl)) (Xc (KJ Vl (XO (Xm K rfl) (pv 2) Xg (λ_ _=>rfl))) (Xc (Xo Yr (pv 4) (Xo V0 (XO (Xm K rfl) (pv 2) Xg (λ_ _=>rfl)) Xg)) (Xc (Xo Yh (pv 4) Xg) Xh)))))) (XO (Xm K rfl) (pv 2) Xg (λ_ _=>rfl)) (λ_ _=>rfl)))
       (Xd (Xl (i:=6) Z6.nd rfl (Or.inl rfl) (Zr (Xc JB (Xc QM Xh))))
       (Xd (Zu (GR (G0 (YO g_l_is_prime hr (by decide) (Xc (pv 4) Xh))))
      (Xd (Xl (i:=6) Z6.nd rfl (Or.inl rfl) (Zr (Xc JB (Xc QM (Xc QM Xh)))))
      Xi)
      (Xd (Zu (XR Qx (Xo Yj (pv 5) (pv 4)) Xg (X5 _))
        (Xd (Xl (i:=6) Z6.nd rfl (Or.inl rfl) (Zr (Xc JB (Xc QM (Xc QM Xh)))))
        Xi)
        Xi)
      Xi))
       (Xd (YZ PassesOwn.never rfl (YS rfl Z.b_range (Xc Xg Xh)) (Xp (i:=7) Z6.nd rfl (Or.inl rfl))
      (Xd (Xl (i:=8) Z6.nd rfl (Or.inl rfl) (YO g_done hr (by decide) (Xc (Xo Yj (Xo Yh (XO (Xm K rfl) (pv 2) Xg (λ_ _=>rfl)) (pv 7)) Xg) (Xc (YO g_copy hr (by decide) (Xc (pv 1) Xh)) (Xc (pv 4) (Xc (pv 5) Xh))))))
      (Xd (Zu (XR (LS (Lk (Mr Iu B7 B7) (Ms Iu B7) (Ii Iu B7)) (Ma (by decide) hu)) (pv 8) (pv 6) (X5 _))
        (Xd (XL QM)
        Xi)
        Xi)
      Xi)))
       (Xd (XL QM)
       Xi)))))))
  refine Zj (S:=(SC.add SC.nil K (rL Xa) v_0 a_0)) (σ:=[some v_0, none, none, none, none, none, none, none, none]) 0 ?_ (SC.i SC.t h_0) hm q rfl
  unfold K7
  exact (Xs (K:=K) (r:=(rP2 (rV (rV Xa)) (rV (rP2 Xa Xa)))) 1 (Ev.sh (Qt (Xb (r:=(rL Xa)) 0 rfl (λ_ s=>s.r)) (Xe 0) (Xe 4))) λa1 v2=>(Xs (K:=K) (r:=(rV Xa)) 2 (Ev.sh (Qt (Xb (r:=(rL Xa)) 0 rfl (λ_ s=>s.l.r)) (Xe 1) (Ev.toB (ZN (Xn (EvB.sh (Xe 16)) (Xn (EvB.sh (Xe 300)) (Xn (EvB.sh (Vj (Xe 10) (Xe 56))) (Xn (EvB.sh (Xe 4)) (Xn (EvB.sh (Vj (Xe 10) (Xe 50))) (Xn (EvB.sh (Xe 5)) (Xn (EvB.sh (Xe 100000)) Zf))))))))))) λa7 v8=>(Xs (K:=K) (r:=(rV Xa)) 3 (Ev.sh (ZN (Xn (EvB.sh (Xe 0)) (Xn (EvB.sh (Xe 1)) (Xn (EvB.sh (Xe 2)) (Xn (EvB.sh (Xe 3)) (Xn (EvB.sh (Xe 4)) (Xn (EvB.sh (Xe 9)) (Xn (EvB.sh (Xe 97)) (Xn (EvB.sh (Xe 99991)) (Xn (EvB.sh (Xe 100003)) (Xn (EvB.sh (Xe 65537)) (Xn (EvB.sh (Xe 99999)) (Xn (EvB.sh (XI (Xb (r:=(rV Xa)) 2 rfl (λ_ s=>s.r)) (Xe 1))) Zf)))))))))))))) λa32 v33=>(Xs (K:=K) (r:=(rV Xa)) 3 (Ev.sh (Ct (EvS.ls (Xk (r:=(rV Xa)) 3 rfl (λ_ s=>s.r))) (Ev.ls (ZN (Xn (EvB.sh (QC (XI (Xb (r:=(rV Xa)) 2 rfl (λ_ s=>s.l.r)) (Xe 1)))) (Xn (EvB.sh (XS (Xe 100001) (XI (Xb (r:=(rV Xa)) 2 rfl (λ_ s=>s.l.r)) (Xe 2)))) (Xn (EvB.sh (XS (XI (Xb (r:=(rV Xa)) 2 rfl (λ_ s=>s.l.r)) (Xe 6)) (Xe 1))) (Xn (EvB.sh (XS (Xe 1) (XI (Xb (r:=(rV Xa)) 2 rfl (λ_ s=>s.l.r)) (Xe 1)))) Zf)))))))) λa61 v62=>(Xs (K:=K) (r:=Xa) 4 (EvB.sh (XI (Xb (r:=(rV Xa)) 3 rfl (λ_ s=>s.r)) (XI (Xb (r:=(rV Xa)) 2 rfl (λ_ s=>s.l.l.r)) (Xe 0)))) λa89 v90=>(Xs (K:=K) (r:=Xa) 5 (EvB.sh (XI (Ev.toB (ZN (Xn (EvB.sh (Xe 0)) (Xn (EvB.sh (XI (Xb (r:=(rV Xa)) 2 rfl (λ_ s=>s.l.l.l.r)) (Xe 4))) (Xn (EvB.sh (QC (XI (Xb (r:=(rV Xa)) 2 rfl (λ_ s=>s.l.l.l.r)) (Xe 4)))) (Xn (EvB.sh (XZ (Xb (r:=Xa) 4 rfl (λ_ s=>s.r)) (Jd (XI (Xb (r:=(rV Xa)) 2 rfl (λ_ s=>s.l.l.l.r)) (Xe 1)) (Xe 150)))) (Xn (EvB.sh (XS (Xb (r:=Xa) 4 rfl (λ_ s=>s.r)) (Xe 1))) Zf))))))) (XI (Xb (r:=(rV Xa)) 2 rfl (λ_ s=>s.l.l.l.r)) (Xe 5)))) λa95 v96=>(Xs (K:=K) (r:=(rEi (rP3 Ql Xr Xr) (rP2 Ql Xr))) 6 (EvB.sh (Hm (o:=(rP3 Ql Xr Xr)) (Ev.toB (EvS.ev (JJ (EvB.sh (J1 _)) (EvB.sh (ZA true))))))) λa125 v126=>(Zo (J:=({ oo:=λx134=>[], ss:=λx134=>[some v_0, some v2, some v8, some v62, some v90, some v96, some x134, none, none], sc:=λg135 x134=>(SC.add (SC.add (SC.add (SC.add (SC.add (SC.add (SC.add SC.nil K (rL Xa) v_0 a_0) K (rP2 (rV (rV Xa)) (rV (rP2 Xa Xa))) v2 a1) K (rV Xa) v8 a7) K (rV Xa) v62 a61) K Xa v90 a89) K Xa v96 a95) K (rEi (rP3 Ql Xr Xr) (rP2 Ql Xr)) x134 g135) } : Jn (((Str × Bool × Bool) ⊕ (Str × Bool))) (V))) (Z3 (Fd:=FNd ({ oo:=λx134=>[], ss:=λx134=>[some v_0, some v2, some v8, some v62, some v90, some v96, some x134, none, none], sc:=λg135 x134=>(SC.add (SC.add (SC.add (SC.add (SC.add (SC.add (SC.add SC.nil K (rL Xa) v_0 a_0) K (rP2 (rV (rV Xa)) (rV (rP2 Xa Xa))) v2 a1) K (rV Xa) v8 a7) K (rV Xa) v62 a61) K Xa v90 a89) K Xa v96 a95) K (rEi (rP3 Ql Xr Xr) (rP2 Ql Xr)) x134 g135) } : Jn (((Str × Bool × Bool) ⊕ (Str × Bool))) (V))) (Ut (Fm (K:=K) (Ev.toB (YT (Xb (r:=Xa) 4 rfl (λ_ s=>s.l.l.r)))))) (Xs (K:=K) (r:=(rEi (rP3 Ql Xr Xr) (rP2 Ql Xr))) 6 (EvB.sh (DN (p:=(rP2 Ql Xr)) (Ev.toB (EvS.ev (Q1 (EvB.sh (J1 _)) (EvB.sh (ZA true)) (EvB.sh (ZA false))))))) λa136 v137=>(XE (J:=_) (v137) (a136) rfl rfl (λ_ s=>(SC.i (SC.i (SC.i (SC.i (SC.i (SC.i (SC.i SC.t s.l.l.l.l.l.l.l.l.r) s.l.l.l.l.l.l.l.r) s.l.l.l.l.l.l.r) s.l.l.l.l.r) s.l.l.l.r) s.l.l.r) s.r)))) (Zo (J:=({ oo:=λx147=>[], ss:=λx147=>[some v_0, some v2, some v8, some v62, some v90, some v96, some x147, none, none], sc:=λg148 x147=>(SC.add (SC.add (SC.add (SC.add (SC.add (SC.add (SC.add SC.nil K (rL Xa) v_0 a_0) K (rP2 (rV (rV Xa)) (rV (rP2 Xa Xa))) v2 a1) K (rV Xa) v8 a7) K (rV Xa) v62 a61) K Xa v90 a89) K Xa v96 a95) K (rEi (rP3 Ql Xr Xr) (rP2 Ql Xr)) x147 g148) } : Jn (((Str × Bool × Bool) ⊕ (Str × Bool))) (V))) (Z3 (Fd:=FNd ({ oo:=λx147=>[], ss:=λx147=>[some v_0, some v2, some v8, some v62, some v90, some v96, some x147, none, none], sc:=λg148 x147=>(SC.add (SC.add (SC.add (SC.add (SC.add (SC.add (SC.add SC.nil K (rL Xa) v_0 a_0) K (rP2 (rV (rV Xa)) (rV (rP2 Xa Xa))) v2 a1) K (rV Xa) v8 a7) K (rV Xa) v62 a61) K Xa v90 a89) K Xa v96 a95) K (rEi (rP3 Ql Xr Xr) (rP2 Ql Xr)) x147 g148) } : Jn (((Str × Bool × Bool) ⊕ (Str × Bool))) (V))) (XC (K:=K) (Zs (XU (Xb (r:=Xa) 5 rfl (λ_ s=>s.l.r)) (Xb (r:=Xa) 4 rfl (λ_ s=>s.l.l.r))) (Xe 0))) (Xs (K:=K) (r:=(rEi (rP3 Ql Xr Xr) (rP2 Ql Xr))) 6 (EvB.sh (DN (p:=(rP2 Ql Xr)) (Ev.toB (EvS.ev (Q1 (EvB.sh (J1 _)) (EvB.sh (ZA false)) (EvB.sh (ZA true))))))) λa149 v150=>(XE (J:=_) (v150) (a149) rfl rfl (λ_ s=>(SC.i (SC.i (SC.i (SC.i (SC.i (SC.i (SC.i SC.t s.l.l.l.l.l.l.l.l.r) s.l.l.l.l.l.l.l.r) s.l.l.l.l.l.l.r) s.l.l.l.l.r) s.l.l.l.r) s.l.l.r) s.r)))) (XE (J:=_) (v126) (a125) rfl rfl (λ_ s=>(SC.i (SC.i (SC.i (SC.i (SC.i (SC.i (SC.i SC.t s.l.l.l.l.l.l.l.r) s.l.l.l.l.l.l.r) s.l.l.l.l.l.r) s.l.l.l.r) s.l.l.r) s.l.r) s.r)))) λg156 x155=>(XE (J:=_) (x155) (g156) rfl rfl (λ_ s=>(SC.i (SC.i (SC.i (SC.i (SC.i (SC.i (SC.i SC.t s.l.l.l.l.l.l.r) s.l.l.l.l.l.r) s.l.l.l.l.r) s.l.l.l.r) s.l.l.r) s.l.r) s.r))))) λg158 x157=>(Cu (K:=K) (J:=({ oo:=λx160=>[], ss:=λx160=>[some v_0, some v2, some v8, some v62, some v90, some v96, some x157, x160.1, x160.2], sc:=λg161 x160=>(SC.add (SC.add (SC.add (SC.add (SC.add (SC.add (SC.add SC.nil K (rL Xa) v_0 a_0) K (rP2 (rV (rV Xa)) (rV (rP2 Xa Xa))) v2 a1) K (rV Xa) v8 a7) K (rV Xa) v62 a61) K Xa v90 a89) K Xa v96 a95) K (rEi (rP3 Ql Xr Xr) (rP2 Ql Xr)) x157 g158) } : Jn (Unit) (Option V × Option V))) (λ_=>tg1 7) ((none), (none)) () (Yl (Xe 8)) rfl rfl (λ_ s=>(SC.i (SC.i (SC.i (SC.i (SC.i (SC.i (SC.i SC.t s.l.l.l.l.l.l.r) s.l.l.l.l.l.r) s.l.l.l.l.r) s.l.l.l.r) s.l.l.r) s.l.r) s.r)) (λg162 x163 a164 v165=>(Xs (K:=K) (r:=(rEi (rP3 Ql Xr Xr) (rP2 Ql Xr))) 8 (EvB.sh (Ev.toB (Q0 (XU (XS (XI (Xb (r:=(rV Xa)) 2 rfl (λ_ s=>s.l.l.l.l.l.r)) (Xe 3)) (Xb (r:=Xa) 7 rfl (λ_ s=>s.r))) (Xe 4)) (Ev.toB (YT (Xb (r:=(rP2 (rV (rV Xa)) (rV (rP2 Xa Xa)))) 1 rfl (λ_ s=>s.l.l.l.l.l.l.r)))) (Xb (r:=Xa) 4 rfl (λ_ s=>s.l.l.l.r)) (Xb (r:=Xa) 5 rfl (λ_ s=>s.l.l.r))))) λa166 v167=>(Ug (XC (K:=K) (Ie (Xb (r:=(rEi (rP3 Ql Xr Xr) (rP2 Ql Xr))) 8 rfl (λ_ s=>s.r)) (Xb (r:=(rEi (rP3 Ql Xr Xr) (rP2 Ql Xr))) 6 rfl (λ_ s=>s.l.l.r)))) (XJ (EvS.ev (EvB.sh (ZA false)))) (Gs (XE (J:=_) ((some v165), (some v167)) () rfl rfl (λ_ s=>(SC.i (SC.i (SC.i (SC.i (SC.i (SC.i (SC.i SC.t s.l.l.l.l.l.l.l.l.r) s.l.l.l.l.l.l.l.r) s.l.l.l.l.l.l.r) s.l.l.l.l.l.r) s.l.l.l.l.r) s.l.l.l.r) s.l.l.r))))))) λg186 x187=>(XJ (EvS.ev (EvB.sh (ZA true)))))))))))))
end
theorem IP {l : PySem.W.OpenLaw} {w : World} {K : PySem.W.Frag} {h : Heap} {mg : Str -> Option Value} {fa f1 f2 f3 f4 f5 f6 f7 f8 f9 f10 f11 f12 f13 f14 f15 f16 f17 f18 f19 f20 f21 f22 f23 f24 f25 f26 f27 f28 f29 f30 f31 f32 f33 f34 f35 : Addr}  {tk0 : Tok} {E0 : Addr} {E1 : Addr} {E2 : Addr} {E3 : Addr} (X : K.In h) (G : h.Ns mainGlobals mg) (hfa : mg "law" = some (.ref fa))
    {od1 an1 od2 an2 od3 an3 od4 an4 od5 an5 od6 an6 od7 an7 od8 an8 od9 an9 od10 an10 od11 an11 od12 an12 od13 an13 od14 an14 od15 an15 od16 an16 od17 an17 od18 an18 od19 an19 od20 an20 od21 an21 od22 an22 od23 an23 od24 an24 od25 an25 od26 an26 od27 an27 od28 an28 od29 an29 od30 an30 od31 an31 od32 an32 od33 an33 od34 an34 od35 an35 : Option Addr} {sl1 sl2 sl3 sl4 sl5 sl6 sl7 sl8 sl9 sl10 sl11 sl12 sl13 sl14 sl15 sl16 sl17 sl18 sl19 sl20 sl21 sl22 sl23 sl24 sl25 sl26 sl27 sl28 sl29 sl30 sl31 sl32 sl33 sl34 sl35 : Array (Option Value)} {oc1 kV1 dc1 pm1 cd1 ct1 oc2 kV2 dc2 pm2 cd2 ct2 oc3 kV3 dc3 pm3 cd3 ct3 oc4 kV4 dc4 pm4 cd4 ct4 oc5 kV5 dc5 pm5 cd5 ct5 oc6 kV6 dc6 pm6 cd6 ct6 oc7 kV7 dc7 pm7 cd7 ct7 oc8 kV8 dc8 pm8 cd8 ct8 oc9 kV9 dc9 pm9 cd9 ct9 oc10 kV10 dc10 pm10 cd10 ct10 oc11 kV11 dc11 pm11 cd11 ct11 oc12 kV12 dc12 pm12 cd12 ct12 oc13 kV13 dc13 pm13 cd13 ct13 oc14 kV14 dc14 pm14 cd14 ct14 oc15 kV15 dc15 pm15 cd15 ct15 oc16 kV16 dc16 pm16 cd16 ct16 oc17 kV17 dc17 pm17 cd17 ct17 oc18 kV18 dc18 pm18 cd18 ct18 oc19 kV19 dc19 pm19 cd19 ct19 oc20 kV20 dc20 pm20 cd20 ct20 oc21 kV21 dc21 pm21 cd21 ct21 oc22 kV22 dc22 pm22 cd22 ct22 oc23 kV23 dc23 pm23 cd23 ct23 oc24 kV24 dc24 pm24 cd24 ct24 oc25 kV25 dc25 pm25 cd25 ct25 oc26 kV26 dc26 pm26 cd26 ct26 oc27 kV27 dc27 pm27 cd27 ct27 oc28 kV28 dc28 pm28 cd28 ct28 oc29 kV29 dc29 pm29 cd29 ct29 oc30 kV30 dc30 pm30 cd30 ct30 oc31 kV31 dc31 pm31 cd31 ct31 oc32 kV32 dc32 pm32 cd32 ct32 oc33 kV33 dc33 pm33 cd33 ct33 oc34 kV34 dc34 pm34 cd34 ct34 oc35 kV35 dc35 pm35 cd35 ct35 : Value}
    (a1 : PySem.W.nsIn K mainGlobals "spot" = some (some (.ref f1))) (l1 : K.lookup f1 = some ⟨oc1, od1, .func (PySem.W.fnOf "spot" "spot" (XA Jw) (Xw Jw) (Xf Jw) .none kV1 dc1 pm1 an1 cd1 ct1), sl1⟩) (c1 : PySem.W.codeIn K cd1 "spot" = true) (k1 : PySem.W.keepIn K (.ref f1) = true)
    (a2 : PySem.W.nsIn K mainGlobals "arcs" = some (some (.ref f2))) (l2 : K.lookup f2 = some ⟨oc2, od2, .func (PySem.W.fnOf "arcs" "arcs" (XA JA) (Xw JA) (Xf JA) .none kV2 dc2 pm2 an2 cd2 ct2), sl2⟩) (c2 : PySem.W.codeIn K cd2 "arcs" = true) (k2 : PySem.W.keepIn K (.ref f2) = true)
    (a3 : PySem.W.nsIn K mainGlobals "arc_count" = some (some (.ref f3))) (l3 : K.lookup f3 = some ⟨oc3, od3, .func (PySem.W.fnOf "arc_count" "arc_count" (XA Yw) (Xw Yw) (Xf Yw) .none kV3 dc3 pm3 an3 cd3 ct3), sl3⟩) (c3 : PySem.W.codeIn K cd3 "arc_count" = true) (k3 : PySem.W.keepIn K (.ref f3) = true)
    (a4 : PySem.W.nsIn K mainGlobals "arcs_of_walk" = some (some (.ref f4))) (l4 : K.lookup f4 = some ⟨oc4, od4, .func (PySem.W.fnOf "arcs_of_walk" "arcs_of_walk" (XA XX) (Xw XX) (Xf XX) .none kV4 dc4 pm4 an4 cd4 ct4), sl4⟩) (c4 : PySem.W.codeIn K cd4 "arcs_of_walk" = true) (k4 : PySem.W.keepIn K (.ref f4) = true)
    (a5 : PySem.W.nsIn K mainGlobals "arcs_of_ways" = some (some (.ref f5))) (l5 : K.lookup f5 = some ⟨oc5, od5, .func (PySem.W.fnOf "arcs_of_ways" "arcs_of_ways" (XA X9) (Xw X9) (Xf X9) .none kV5 dc5 pm5 an5 cd5 ct5), sl5⟩) (c5 : PySem.W.codeIn K cd5 "arcs_of_ways" = true) (k5 : PySem.W.keepIn K (.ref f5) = true)
    (a6 : PySem.W.nsIn K mainGlobals "meets" = some (some (.ref f6))) (l6 : K.lookup f6 = some ⟨oc6, od6, .func (PySem.W.fnOf "meets" "meets" (XA Qd) (Xw Qd) (Xf Qd) .none kV6 dc6 pm6 an6 cd6 ct6), sl6⟩) (c6 : PySem.W.codeIn K cd6 "meets" = true) (k6 : PySem.W.keepIn K (.ref f6) = true)
    (a7 : PySem.W.nsIn K mainGlobals "ties" = some (some (.ref f7))) (l7 : K.lookup f7 = some ⟨oc7, od7, .func (PySem.W.fnOf "ties" "ties" (XA Jm) (Xw Jm) (Xf Jm) .none kV7 dc7 pm7 an7 cd7 ct7), sl7⟩) (c7 : PySem.W.codeIn K cd7 "ties" = true) (k7 : PySem.W.keepIn K (.ref f7) = true)
    (a8 : PySem.W.nsIn K mainGlobals "refuse_wrong" = some (some (.ref f8))) (l8 : K.lookup f8 = some ⟨oc8, od8, .func (PySem.W.fnOf "refuse_wrong" "refuse_wrong" (XA X8) (Xw X8) (Xf X8) .none kV8 dc8 pm8 an8 cd8 ct8), sl8⟩) (c8 : PySem.W.codeIn K cd8 "refuse_wrong" = true) (k8 : PySem.W.keepIn K (.ref f8) = true)
    (a9 : PySem.W.nsIn K mainGlobals "is_prime" = some (some (.ref f9))) (l9 : K.lookup f9 = some ⟨oc9, od9, .func (PySem.W.fnOf "is_prime" "is_prime" (XA Y0) (Xw Y0) (Xf Y0) .none kV9 dc9 pm9 an9 cd9 ct9), sl9⟩) (c9 : PySem.W.codeIn K cd9 "is_prime" = true) (k9 : PySem.W.keepIn K (.ref f9) = true)
    (a10 : PySem.W.nsIn K mainGlobals "equations" = some (some (.ref f10))) (l10 : K.lookup f10 = some ⟨oc10, od10, .func (PySem.W.fnOf "equations" "equations" (XA Yu) (Xw Yu) (Xf Yu) .none kV10 dc10 pm10 an10 cd10 ct10), sl10⟩) (c10 : PySem.W.codeIn K cd10 "equations" = true) (k10 : PySem.W.keepIn K (.ref f10) = true)
    (a11 : PySem.W.nsIn K mainGlobals "keeps" = some (some (.ref f11))) (l11 : K.lookup f11 = some ⟨oc11, od11, .func (PySem.W.fnOf "keeps" "keeps" (XA ZY) (Xw ZY) (Xf ZY) .none kV11 dc11 pm11 an11 cd11 ct11), sl11⟩) (c11 : PySem.W.codeIn K cd11 "keeps" = true) (k11 : PySem.W.keepIn K (.ref f11) = true)
    (a12 : PySem.W.nsIn K mainGlobals "summed" = some (some (.ref f12))) (l12 : K.lookup f12 = some ⟨oc12, od12, .func (PySem.W.fnOf "summed" "summed" (XA Zt) (Xw Zt) (Xf Zt) .none kV12 dc12 pm12 an12 cd12 ct12), sl12⟩) (c12 : PySem.W.codeIn K cd12 "summed" = true) (k12 : PySem.W.keepIn K (.ref f12) = true)
    (a13 : PySem.W.nsIn K mainGlobals "solved" = some (some (.ref f13))) (l13 : K.lookup f13 = some ⟨oc13, od13, .func (PySem.W.fnOf "solved" "solved" (XA Y5) (Xw Y5) (Xf Y5) .none kV13 dc13 pm13 an13 cd13 ct13), sl13⟩) (c13 : PySem.W.codeIn K cd13 "solved" = true) (k13 : PySem.W.keepIn K (.ref f13) = true)
    (a14 : PySem.W.nsIn K mainGlobals "with_factors" = some (some (.ref f14))) (l14 : K.lookup f14 = some ⟨oc14, od14, .func (PySem.W.fnOf "with_factors" "with_factors" (XA XW) (Xw XW) (Xf XW) .none kV14 dc14 pm14 an14 cd14 ct14), sl14⟩) (c14 : PySem.W.codeIn K cd14 "with_factors" = true) (k14 : PySem.W.keepIn K (.ref f14) = true)
    (a15 : PySem.W.nsIn K mainGlobals "unit" = some (some (.ref f15))) (l15 : K.lookup f15 = some ⟨oc15, od15, .func (PySem.W.fnOf "unit" "unit" (XA Jv) (Xw Jv) (Xf Jv) .none kV15 dc15 pm15 an15 cd15 ct15), sl15⟩) (c15 : PySem.W.codeIn K cd15 "unit" = true) (k15 : PySem.W.keepIn K (.ref f15) = true)
    (a16 : PySem.W.nsIn K mainGlobals "led_rows" = some (some (.ref f16))) (l16 : K.lookup f16 = some ⟨oc16, od16, .func (PySem.W.fnOf "led_rows" "led_rows" (XA Yn) (Xw Yn) (Xf Yn) .none kV16 dc16 pm16 an16 cd16 ct16), sl16⟩) (c16 : PySem.W.codeIn K cd16 "led_rows" = true) (k16 : PySem.W.keepIn K (.ref f16) = true)
    (a17 : PySem.W.nsIn K mainGlobals "times" = some (some (.ref f17))) (l17 : K.lookup f17 = some ⟨oc17, od17, .func (PySem.W.fnOf "times" "times" (XA ZT) (Xw ZT) (Xf ZT) .none kV17 dc17 pm17 an17 cd17 ct17), sl17⟩) (c17 : PySem.W.codeIn K cd17 "times" = true) (k17 : PySem.W.keepIn K (.ref f17) = true)
    (a18 : PySem.W.nsIn K mainGlobals "cleared" = some (some (.ref f18))) (l18 : K.lookup f18 = some ⟨oc18, od18, .func (PySem.W.fnOf "cleared" "cleared" (XA Y6) (Xw Y6) (Xf Y6) .none kV18 dc18 pm18 an18 cd18 ct18), sl18⟩) (c18 : PySem.W.codeIn K cd18 "cleared" = true) (k18 : PySem.W.keepIn K (.ref f18) = true)
    (a19 : PySem.W.nsIn K mainGlobals "inverse_rest" = some (some (.ref f19))) (l19 : K.lookup f19 = some ⟨oc19, od19, .func (PySem.W.fnOf "inverse_rest" "inverse_rest" (XA Ya) (Xw Ya) (Xf Ya) .none kV19 dc19 pm19 an19 cd19 ct19), sl19⟩) (c19 : PySem.W.codeIn K cd19 "inverse_rest" = true) (k19 : PySem.W.keepIn K (.ref f19) = true)
    (a20 : PySem.W.nsIn K mainGlobals "colouring_of" = some (some (.ref f20))) (l20 : K.lookup f20 = some ⟨oc20, od20, .func (PySem.W.fnOf "colouring_of" "colouring_of" (XA Yb) (Xw Yb) (Xf Yb) .none kV20 dc20 pm20 an20 cd20 ct20), sl20⟩) (c20 : PySem.W.codeIn K cd20 "colouring_of" = true) (k20 : PySem.W.keepIn K (.ref f20) = true)
    (a21 : PySem.W.nsIn K mainGlobals "straight_many" = some (some (.ref f21))) (l21 : K.lookup f21 = some ⟨oc21, od21, .func (PySem.W.fnOf "straight_many" "straight_many" (XA X0) (Xw X0) (Xf X0) .none kV21 dc21 pm21 an21 cd21 ct21), sl21⟩) (c21 : PySem.W.codeIn K cd21 "straight_many" = true) (k21 : PySem.W.keepIn K (.ref f21) = true)
    (a22 : PySem.W.nsIn K mainGlobals "_law_cell" = some (some (.ref f22))) (l22 : K.lookup f22 = some ⟨oc22, od22, .func (PySem.W.fnOf "_law_cell" "_law_cell" (XA Ju) (Xw Ju) (Xf Ju) .none kV22 dc22 pm22 an22 cd22 ct22), sl22⟩) (c22 : PySem.W.codeIn K cd22 "_law_cell" = true) (k22 : PySem.W.keepIn K (.ref f22) = true)
    (a23 : PySem.W.nsIn K mainGlobals "_law_mix" = some (some (.ref f23))) (l23 : K.lookup f23 = some ⟨oc23, od23, .func (PySem.W.fnOf "_law_mix" "_law_mix" (XA UN) (Xw UN) (Xf UN) .none kV23 dc23 pm23 an23 cd23 ct23), sl23⟩) (c23 : PySem.W.codeIn K cd23 "_law_mix" = true) (k23 : PySem.W.keepIn K (.ref f23) = true)
    (a24 : PySem.W.nsIn K mainGlobals "_law_row" = some (some (.ref f24))) (l24 : K.lookup f24 = some ⟨oc24, od24, .func (PySem.W.fnOf "_law_row" "_law_row" (XA KD) (Xw KD) (Xf KD) .none kV24 dc24 pm24 an24 cd24 ct24), sl24⟩) (c24 : PySem.W.codeIn K cd24 "_law_row" = true) (k24 : PySem.W.keepIn K (.ref f24) = true)
    (a25 : PySem.W.nsIn K mainGlobals "_law_mixed" = some (some (.ref f25))) (l25 : K.lookup f25 = some ⟨oc25, od25, .func (PySem.W.fnOf "_law_mixed" "_law_mixed" (XA Qh) (Xw Qh) (Xf Qh) .none kV25 dc25 pm25 an25 cd25 ct25), sl25⟩) (c25 : PySem.W.codeIn K cd25 "_law_mixed" = true) (k25 : PySem.W.keepIn K (.ref f25) = true)
    (a26 : PySem.W.nsIn K mainGlobals "_law_any" = some (some (.ref f26))) (l26 : K.lookup f26 = some ⟨oc26, od26, .func (PySem.W.fnOf "_law_any" "_law_any" (XA Uw) (Xw Uw) (Xf Uw) .none kV26 dc26 pm26 an26 cd26 ct26), sl26⟩) (c26 : PySem.W.codeIn K cd26 "_law_any" = true) (k26 : PySem.W.keepIn K (.ref f26) = true)
    (a27 : PySem.W.nsIn K mainGlobals "_law_plaited" = some (some (.ref f27))) (l27 : K.lookup f27 = some ⟨oc27, od27, .func (PySem.W.fnOf "_law_plaited" "_law_plaited" (XA Zk) (Xw Zk) (Xf Zk) .none kV27 dc27 pm27 an27 cd27 ct27), sl27⟩) (c27 : PySem.W.codeIn K cd27 "_law_plaited" = true) (k27 : PySem.W.keepIn K (.ref f27) = true)
    (a28 : PySem.W.nsIn K mainGlobals "_law_drawn" = some (some (.ref f28))) (l28 : K.lookup f28 = some ⟨oc28, od28, .func (PySem.W.fnOf "_law_drawn" "_law_drawn" (XA ZU) (Xw ZU) (Xf ZU) .none kV28 dc28 pm28 an28 cd28 ct28), sl28⟩) (c28 : PySem.W.codeIn K cd28 "_law_drawn" = true) (k28 : PySem.W.keepIn K (.ref f28) = true)
    (a29 : PySem.W.nsIn K mainGlobals "_law_copy" = some (some (.ref f29))) (l29 : K.lookup f29 = some ⟨oc29, od29, .func (PySem.W.fnOf "_law_copy" "_law_copy" (XA Q3) (Xw Q3) (Xf Q3) .none kV29 dc29 pm29 an29 cd29 ct29), sl29⟩) (c29 : PySem.W.codeIn K cd29 "_law_copy" = true) (k29 : PySem.W.keepIn K (.ref f29) = true)
    (a30 : PySem.W.nsIn K mainGlobals "_law_is_whole" = some (some (.ref f30))) (l30 : K.lookup f30 = some ⟨oc30, od30, .func (PySem.W.fnOf "_law_is_whole" "_law_is_whole" (XA Y1) (Xw Y1) (Xf Y1) .none kV30 dc30 pm30 an30 cd30 ct30), sl30⟩) (c30 : PySem.W.codeIn K cd30 "_law_is_whole" = true) (k30 : PySem.W.keepIn K (.ref f30) = true)
    (a31 : PySem.W.nsIn K mainGlobals "_law_count" = some (some (.ref f31))) (l31 : K.lookup f31 = some ⟨oc31, od31, .func (PySem.W.fnOf "_law_count" "_law_count" (XA ZS) (Xw ZS) (Xf ZS) .none kV31 dc31 pm31 an31 cd31 ct31), sl31⟩) (c31 : PySem.W.codeIn K cd31 "_law_count" = true) (k31 : PySem.W.keepIn K (.ref f31) = true)
    (a32 : PySem.W.nsIn K mainGlobals "_law_is_prime" = some (some (.ref f32))) (l32 : K.lookup f32 = some ⟨oc32, od32, .func (PySem.W.fnOf "_law_is_prime" "_law_is_prime" (XA Yt) (Xw Yt) (Xf Yt) .none kV32 dc32 pm32 an32 cd32 ct32), sl32⟩) (c32 : PySem.W.codeIn K cd32 "_law_is_prime" = true) (k32 : PySem.W.keepIn K (.ref f32) = true)
    (a33 : PySem.W.nsIn K mainGlobals "_law_said" = some (some (.ref f33))) (l33 : K.lookup f33 = some ⟨oc33, od33, .func (PySem.W.fnOf "_law_said" "_law_said" (XA Jt) (Xw Jt) (Xf Jt) .none kV33 dc33 pm33 an33 cd33 ct33), sl33⟩) (c33 : PySem.W.codeIn K cd33 "_law_said" = true) (k33 : PySem.W.keepIn K (.ref f33) = true)
    (a34 : PySem.W.nsIn K mainGlobals "_law_done" = some (some (.ref f34))) (l34 : K.lookup f34 = some ⟨oc34, od34, .func (PySem.W.fnOf "_law_done" "_law_done" (XA Jy) (Xw Jy) (Xf Jy) .none kV34 dc34 pm34 an34 cd34 ct34), sl34⟩) (c34 : PySem.W.codeIn K cd34 "_law_done" = true) (k34 : PySem.W.keepIn K (.ref f34) = true)
    (a35 : PySem.W.nsIn K mainGlobals "law" = some (some (.ref f35))) (l35 : K.lookup f35 = some ⟨oc35, od35, .func (PySem.W.fnOf "law" "law" (XA Up) (Xw Up) (Xf Up) .none kV35 dc35 pm35 an35 cd35 ct35), sl35⟩) (c35 : PySem.W.codeIn K cd35 "law" = true) (k35 : PySem.W.keepIn K (.ref f35) = true)
    (z1 : PySem.W.nsIn K mainGlobals "all" = some none)
    (z2 : PySem.W.nsIn K mainGlobals "bool" = some none)
    (z3 : PySem.W.nsIn K mainGlobals "dict" = some none)
    (z4 : PySem.W.nsIn K mainGlobals "enumerate" = some none)
    (z5 : PySem.W.nsIn K mainGlobals "int" = some none)
    (z6 : PySem.W.nsIn K mainGlobals "isinstance" = some none)
    (z7 : PySem.W.nsIn K mainGlobals "len" = some none)
    (z8 : PySem.W.nsIn K mainGlobals "list" = some none)
    (z9 : PySem.W.nsIn K mainGlobals "max" = some none)
    (z10 : PySem.W.nsIn K mainGlobals "min" = some none)
    (z11 : PySem.W.nsIn K mainGlobals "range" = some none)
    (z12 : PySem.W.nsIn K mainGlobals "sum" = some none)
    (z13 : PySem.W.nsIn K mainGlobals "tuple" = some none)
    (z14 : PySem.W.nsIn K mainGlobals "zip" = some none)
    (w0 : PySem.W.nsIn K mainGlobals "MOST_PRIME" = some (some (.int 100000 tk0)))
    (x0 : PySem.W.nsIn K mainGlobals "PlaitError" = some (some (.ref E0)))
    (x1 : PySem.W.nsIn K mainGlobals "NoCrossing" = some (some (.ref E1)))
    (x2 : PySem.W.nsIn K mainGlobals "NoUnit" = some (some (.ref E2)))
    (x3 : PySem.W.nsIn K mainGlobals "NoPrime" = some (some (.ref E3)))
    (yg : PySem.W.specialIn K (.builtin "object.__class__") "__get__" = some (some (.builtin "getset_descriptor.__get__")))
    (yt : PySem.W.takesIn K (.builtin "object.__class__") = some true)
    (ya0 : PySem.W.excIn K E0 vEr "ValueError.__new__" = true)
    (yb0 : PySem.W.findIn K (.ref E0) "__getattribute__" = some (some (.builtin "BaseException.__getattribute__")))
    (yc0 : PySem.W.findIn K (.ref E0) "__getattr__" = some none)
    (yd0 : PySem.W.findIn K (.ref E0) "__class__" = some (some (.builtin "object.__class__")))
    (ye0 : PySem.W.mroIn K E0 (.type "object") = some true)
    (yf0 : PySem.W.isClsIn K E0 = true)
    (yh0 : PySem.W.mroIn K E0 (.type "BaseException") = some true)
    (yi0 : PySem.W.subIn K (.ref E0) (.type "ValueError") = some true)
    (yj0 : PySem.W.typeIn K (.ref E0) = some (.type "type"))
    (yk0 : PySem.W.subIn K (.ref E0) (.type "BaseException") = some true)
    (ya1 : PySem.W.excIn K E1 vEr "ValueError.__new__" = true)
    (yb1 : PySem.W.findIn K (.ref E1) "__getattribute__" = some (some (.builtin "BaseException.__getattribute__")))
    (yc1 : PySem.W.findIn K (.ref E1) "__getattr__" = some none)
    (yd1 : PySem.W.findIn K (.ref E1) "__class__" = some (some (.builtin "object.__class__")))
    (ye1 : PySem.W.mroIn K E1 (.type "object") = some true)
    (yf1 : PySem.W.isClsIn K E1 = true)
    (yh1 : PySem.W.mroIn K E1 (.type "BaseException") = some true)
    (yi1 : PySem.W.subIn K (.ref E1) (.type "ValueError") = some true)
    (yj1 : PySem.W.typeIn K (.ref E1) = some (.type "type"))
    (yk1 : PySem.W.subIn K (.ref E1) (.type "BaseException") = some true)
    (ya2 : PySem.W.excIn K E2 vEr "ValueError.__new__" = true)
    (yb2 : PySem.W.findIn K (.ref E2) "__getattribute__" = some (some (.builtin "BaseException.__getattribute__")))
    (yc2 : PySem.W.findIn K (.ref E2) "__getattr__" = some none)
    (yd2 : PySem.W.findIn K (.ref E2) "__class__" = some (some (.builtin "object.__class__")))
    (ye2 : PySem.W.mroIn K E2 (.type "object") = some true)
    (yf2 : PySem.W.isClsIn K E2 = true)
    (yh2 : PySem.W.mroIn K E2 (.type "BaseException") = some true)
    (yi2 : PySem.W.subIn K (.ref E2) (.type "ValueError") = some true)
    (yj2 : PySem.W.typeIn K (.ref E2) = some (.type "type"))
    (yk2 : PySem.W.subIn K (.ref E2) (.type "BaseException") = some true)
    (ya3 : PySem.W.excIn K E3 vEr "ValueError.__new__" = true)
    (yb3 : PySem.W.findIn K (.ref E3) "__getattribute__" = some (some (.builtin "BaseException.__getattribute__")))
    (yc3 : PySem.W.findIn K (.ref E3) "__getattr__" = some none)
    (yd3 : PySem.W.findIn K (.ref E3) "__class__" = some (some (.builtin "object.__class__")))
    (ye3 : PySem.W.mroIn K E3 (.type "object") = some true)
    (yf3 : PySem.W.isClsIn K E3 = true)
    (yh3 : PySem.W.mroIn K E3 (.type "BaseException") = some true)
    (yi3 : PySem.W.subIn K (.ref E3) (.type "ValueError") = some true)
    (yj3 : PySem.W.typeIn K (.ref E3) = some (.type "type"))
    (yk3 : PySem.W.subIn K (.ref E3) (.type "BaseException") = some true)
    (yl0_0 : PySem.W.subIn K (.ref E0) (.ref E0) = some true)
    (yl0_1 : PySem.W.subIn K (.ref E0) (.ref E1) = some false)
    (yl0_2 : PySem.W.subIn K (.ref E0) (.ref E2) = some false)
    (yl0_3 : PySem.W.subIn K (.ref E0) (.ref E3) = some false)
    (yl1_0 : PySem.W.subIn K (.ref E1) (.ref E0) = some true)
    (yl1_1 : PySem.W.subIn K (.ref E1) (.ref E1) = some true)
    (yl1_2 : PySem.W.subIn K (.ref E1) (.ref E2) = some false)
    (yl1_3 : PySem.W.subIn K (.ref E1) (.ref E3) = some false)
    (yl2_0 : PySem.W.subIn K (.ref E2) (.ref E0) = some true)
    (yl2_1 : PySem.W.subIn K (.ref E2) (.ref E1) = some false)
    (yl2_2 : PySem.W.subIn K (.ref E2) (.ref E2) = some true)
    (yl2_3 : PySem.W.subIn K (.ref E2) (.ref E3) = some false)
    (yl3_0 : PySem.W.subIn K (.ref E3) (.ref E0) = some true)
    (yl3_1 : PySem.W.subIn K (.ref E3) (.ref E1) = some false)
    (yl3_2 : PySem.W.subIn K (.ref E3) (.ref E2) = some false)
    (yl3_3 : PySem.W.subIn K (.ref E3) (.ref E3) = some true)
    : ∃ fd : FuncData, (∀ (s : Shared) (v : Value), BindsTo s fd ⟨[v], []⟩ [("_law_script", v)]) /\ ∀ base : Heap, K.In base -> base.Ns mainGlobals mg -> FnOk l.prog w K mg base CX0 11 fa fd ["_law_script"] (sp1 (rL Xa) (oF Xr) K7 K):=by
  have e:=hfa.symm.trans (PySem.W.mg_of X G a35)
  cases e
  have pz0 : Jk "PlaitError" = true:=by decide
  have er0:=GX yb0 yc0 yd0 ye0 yf0 yh0 yg yt
  have iz0_0 : ZD "PlaitError" "PlaitError" = true:=by decide
  have kx0_0:=Qv yl0_0 yl0_0 yf0 yj0 yk0
  have iz0_1 : ZD "PlaitError" "NoCrossing" = false:=by decide
  have kx0_1:=Qv yl0_0 yl0_1 yf1 yj1 yk1
  have iz0_2 : ZD "PlaitError" "NoUnit" = false:=by decide
  have kx0_2:=Qv yl0_0 yl0_2 yf2 yj2 yk2
  have iz0_3 : ZD "PlaitError" "NoPrime" = false:=by decide
  have kx0_3:=Qv yl0_0 yl0_3 yf3 yj3 yk3
  have pz1 : Jk "NoCrossing" = true:=by decide
  have er1:=GX yb1 yc1 yd1 ye1 yf1 yh1 yg yt
  have iz1_0 : ZD "NoCrossing" "PlaitError" = true:=by decide
  have kx1_0:=Qv yl1_1 yl1_0 yf0 yj0 yk0
  have iz1_1 : ZD "NoCrossing" "NoCrossing" = true:=by decide
  have kx1_1:=Qv yl1_1 yl1_1 yf1 yj1 yk1
  have iz1_2 : ZD "NoCrossing" "NoUnit" = false:=by decide
  have kx1_2:=Qv yl1_1 yl1_2 yf2 yj2 yk2
  have iz1_3 : ZD "NoCrossing" "NoPrime" = false:=by decide
  have kx1_3:=Qv yl1_1 yl1_3 yf3 yj3 yk3
  have pz2 : Jk "NoUnit" = true:=by decide
  have er2:=GX yb2 yc2 yd2 ye2 yf2 yh2 yg yt
  have iz2_0 : ZD "NoUnit" "PlaitError" = true:=by decide
  have kx2_0:=Qv yl2_2 yl2_0 yf0 yj0 yk0
  have iz2_1 : ZD "NoUnit" "NoCrossing" = false:=by decide
  have kx2_1:=Qv yl2_2 yl2_1 yf1 yj1 yk1
  have iz2_2 : ZD "NoUnit" "NoUnit" = true:=by decide
  have kx2_2:=Qv yl2_2 yl2_2 yf2 yj2 yk2
  have iz2_3 : ZD "NoUnit" "NoPrime" = false:=by decide
  have kx2_3:=Qv yl2_2 yl2_3 yf3 yj3 yk3
  have pz3 : Jk "NoPrime" = true:=by decide
  have er3:=GX yb3 yc3 yd3 ye3 yf3 yh3 yg yt
  have iz3_0 : ZD "NoPrime" "PlaitError" = true:=by decide
  have kx3_0:=Qv yl3_3 yl3_0 yf0 yj0 yk0
  have iz3_1 : ZD "NoPrime" "NoCrossing" = false:=by decide
  have kx3_1:=Qv yl3_3 yl3_1 yf1 yj1 yk1
  have iz3_2 : ZD "NoPrime" "NoUnit" = false:=by decide
  have kx3_2:=Qv yl3_3 yl3_2 yf2 yj2 yk2
  have iz3_3 : ZD "NoPrime" "NoPrime" = true:=by decide
  have kx3_3:=Qv yl3_3 yl3_3 yf3 yj3 yk3
  have y0 : HW K [("PlaitError", E0), ("NoCrossing", E1), ("NoUnit", E2), ("NoPrime", E3)] = true:=by
    unfold HW
    simp only [List.all_cons, List.all_nil, Bool.and_true, Bool.and_self, beq_self_eq_true, Bool.not_true, Bool.not_false, Bool.false_or, Bool.true_or, pz0, ya0, er0, UG yi0, pz1, ya1, er1, UG yi1, pz2, ya2, er2, UG yi2, pz3, ya3, er3, UG yi3, iz0_0, kx0_0.1, kx0_0.2, iz0_1, kx0_1.1, kx0_1.2, iz0_2, kx0_2.1, kx0_2.2, iz0_3, kx0_3.1, kx0_3.2, iz1_0, kx1_0.1, kx1_0.2, iz1_1, kx1_1.1, kx1_1.2, iz1_2, kx1_2.1, kx1_2.2, iz1_3, kx1_3.1, kx1_3.2, iz2_0, kx2_0.1, kx2_0.2, iz2_1, kx2_1.1, kx2_1.2, iz2_2, kx2_2.1, kx2_2.2, iz2_3, kx2_3.1, kx2_3.2, iz3_0, kx3_0.1, kx3_0.2, iz3_1, kx3_1.1, kx3_1.2, iz3_2, kx3_2.1, kx3_2.2, iz3_3, kx3_3.1, kx3_3.2]
  have Y : Ecs XB K mg:=IT (cs:=[("PlaitError", E0), ("NoCrossing", E1), ("NoUnit", E2), ("NoPrime", E3)]) y0 (λp hp=>by
    simp only [List.mem_cons, List.not_mem_nil, or_false] at hp
    rcases hp with rfl | rfl | rfl | rfl
    . exact PySem.W.mg_of X G x0
    . exact PySem.W.mg_of X G x1
    . exact PySem.W.mg_of X G x2
    . exact PySem.W.mg_of X G x3)
  have Z : Blt mg:=⟨PySem.W.mg_none_of X G z1, PySem.W.mg_none_of X G z2, PySem.W.mg_none_of X G z3, PySem.W.mg_none_of X G z4, PySem.W.mg_none_of X G z5, PySem.W.mg_none_of X G z6, PySem.W.mg_none_of X G z7, PySem.W.mg_none_of X G z8, PySem.W.mg_none_of X G z9, PySem.W.mg_none_of X G z10, PySem.W.mg_none_of X G z11, PySem.W.mg_none_of X G z12, PySem.W.mg_none_of X G z13, PySem.W.mg_none_of X G z14, ⟨_, PySem.W.mg_of X G w0, _, rfl⟩⟩
  have D1 : Def K mg "spot" Jw ["drawing", "passage"]:=⟨f1, _, Xq (st:=Jw) l1 c1 k1, (Xq (st:=Jw) l1 c1 k1).binds (ps:=["drawing", "passage"]) λ_ _ _ _ _ _ us hl=>(by obtain ⟨_, _, rfl⟩:=VL hl; rfl), PySem.W.mg_of X G a1⟩
  have D2 : Def K mg "arcs" JA ["drawing"]:=⟨f2, _, Xq (st:=JA) l2 c2 k2, (Xq (st:=JA) l2 c2 k2).binds (ps:=["drawing"]) λ_ _ _ _ _ _ us hl=>(by obtain ⟨_, rfl⟩:=JE hl; rfl), PySem.W.mg_of X G a2⟩
  have D3 : Def K mg "arc_count" Yw ["drawing"]:=⟨f3, _, Xq (st:=Yw) l3 c3 k3, (Xq (st:=Yw) l3 c3 k3).binds (ps:=["drawing"]) λ_ _ _ _ _ _ us hl=>(by obtain ⟨_, rfl⟩:=JE hl; rfl), PySem.W.mg_of X G a3⟩
  have D4 : Def K mg "arcs_of_walk" XX ["walk"]:=⟨f4, _, Xq (st:=XX) l4 c4 k4, (Xq (st:=XX) l4 c4 k4).binds (ps:=["walk"]) λ_ _ _ _ _ _ us hl=>(by obtain ⟨_, rfl⟩:=JE hl; rfl), PySem.W.mg_of X G a4⟩
  have D5 : Def K mg "arcs_of_ways" X9 ["walk", "first"]:=⟨f5, _, Xq (st:=X9) l5 c5 k5, (Xq (st:=X9) l5 c5 k5).binds (ps:=["walk", "first"]) λ_ _ _ _ _ _ us hl=>(by obtain ⟨_, _, rfl⟩:=VL hl; rfl), PySem.W.mg_of X G a5⟩
  have D6 : Def K mg "meets" Qd ["drawing"]:=⟨f6, _, Xq (st:=Qd) l6 c6 k6, (Xq (st:=Qd) l6 c6 k6).binds (ps:=["drawing"]) λ_ _ _ _ _ _ us hl=>(by obtain ⟨_, rfl⟩:=JE hl; rfl), PySem.W.mg_of X G a6⟩
  have D7 : Def K mg "ties" Jm ["drawing"]:=⟨f7, _, Xq (st:=Jm) l7 c7 k7, (Xq (st:=Jm) l7 c7 k7).binds (ps:=["drawing"]) λ_ _ _ _ _ _ us hl=>(by obtain ⟨_, rfl⟩:=JE hl; rfl), PySem.W.mg_of X G a7⟩
  have D8 : Def K mg "refuse_wrong" X8 ["prime", "factor"]:=⟨f8, _, Xq (st:=X8) l8 c8 k8, (Xq (st:=X8) l8 c8 k8).binds (ps:=["prime", "factor"]) λ_ _ _ _ _ _ us hl=>(by obtain ⟨_, _, rfl⟩:=VL hl; rfl), PySem.W.mg_of X G a8⟩
  have D9 : Def K mg "is_prime" Y0 ["number"]:=⟨f9, _, Xq (st:=Y0) l9 c9 k9, (Xq (st:=Y0) l9 c9 k9).binds (ps:=["number"]) λ_ _ _ _ _ _ us hl=>(by obtain ⟨_, rfl⟩:=JE hl; rfl), PySem.W.mg_of X G a9⟩
  have D10 : Def K mg "equations" Yu ["drawing", "prime", "factor"]:=⟨f10, _, Xq (st:=Yu) l10 c10 k10, (Xq (st:=Yu) l10 c10 k10).binds (ps:=["drawing", "prime", "factor"]) λ_ _ _ _ _ _ us hl=>(by obtain ⟨_, _, _, rfl⟩:=Uy hl; rfl), PySem.W.mg_of X G a10⟩
  have D11 : Def K mg "keeps" ZY ["drawing", "prime", "factor", "colours"]:=⟨f11, _, Xq (st:=ZY) l11 c11 k11, (Xq (st:=ZY) l11 c11 k11).binds (ps:=["drawing", "prime", "factor", "colours"]) λ_ _ _ _ _ _ us hl=>(by obtain ⟨_, _, _, _, rfl⟩:=FN hl; rfl), PySem.W.mg_of X G a11⟩
  have D12 : Def K mg "summed" Zt ["numbers", "colours"]:=⟨f12, _, Xq (st:=Zt) l12 c12 k12, (Xq (st:=Zt) l12 c12 k12).binds (ps:=["numbers", "colours"]) λ_ _ _ _ _ _ us hl=>(by obtain ⟨_, _, rfl⟩:=VL hl; rfl), PySem.W.mg_of X G a12⟩
  have D13 : Def K mg "solved" Y5 ["drawing", "prime", "factor"]:=⟨f13, _, Xq (st:=Y5) l13 c13 k13, (Xq (st:=Y5) l13 c13 k13).binds (ps:=["drawing", "prime", "factor"]) λ_ _ _ _ _ _ us hl=>(by obtain ⟨_, _, _, rfl⟩:=Uy hl; rfl), PySem.W.mg_of X G a13⟩
  have D14 : Def K mg "with_factors" XW ["rows"]:=⟨f14, _, Xq (st:=XW) l14 c14 k14, (Xq (st:=XW) l14 c14 k14).binds (ps:=["rows"]) λ_ _ _ _ _ _ us hl=>(by obtain ⟨_, rfl⟩:=JE hl; rfl), PySem.W.mg_of X G a14⟩
  have D15 : Def K mg "unit" Jv ["count", "at"]:=⟨f15, _, Xq (st:=Jv) l15 c15 k15, (Xq (st:=Jv) l15 c15 k15).binds (ps:=["count", "at"]) λ_ _ _ _ _ _ us hl=>(by obtain ⟨_, _, rfl⟩:=VL hl; rfl), PySem.W.mg_of X G a15⟩
  have D16 : Def K mg "led_rows" Yn ["rows", "count", "prime"]:=⟨f16, _, Xq (st:=Yn) l16 c16 k16, (Xq (st:=Yn) l16 c16 k16).binds (ps:=["rows", "count", "prime"]) λ_ _ _ _ _ _ us hl=>(by obtain ⟨_, _, _, rfl⟩:=Uy hl; rfl), PySem.W.mg_of X G a16⟩
  have D17 : Def K mg "times" ZT ["row", "number", "prime"]:=⟨f17, _, Xq (st:=ZT) l17 c17 k17, (Xq (st:=ZT) l17 c17 k17).binds (ps:=["row", "number", "prime"]) λ_ _ _ _ _ _ us hl=>(by obtain ⟨_, _, _, rfl⟩:=Uy hl; rfl), PySem.W.mg_of X G a17⟩
  have D18 : Def K mg "cleared" Y6 ["row", "lead", "arc", "prime"]:=⟨f18, _, Xq (st:=Y6) l18 c18 k18, (Xq (st:=Y6) l18 c18 k18).binds (ps:=["row", "lead", "arc", "prime"]) λ_ _ _ _ _ _ us hl=>(by obtain ⟨_, _, _, _, rfl⟩:=FN hl; rfl), PySem.W.mg_of X G a18⟩
  have D19 : Def K mg "inverse_rest" Ya ["number", "prime"]:=⟨f19, _, Xq (st:=Ya) l19 c19 k19, (Xq (st:=Ya) l19 c19 k19).binds (ps:=["number", "prime"]) λ_ _ _ _ _ _ us hl=>(by obtain ⟨_, _, rfl⟩:=VL hl; rfl), PySem.W.mg_of X G a19⟩
  have D20 : Def K mg "colouring_of" Yb ["free", "tied", "count", "prime"]:=⟨f20, _, Xq (st:=Yb) l20 c20 k20, (Xq (st:=Yb) l20 c20 k20).binds (ps:=["free", "tied", "count", "prime"]) λ_ _ _ _ _ _ us hl=>(by obtain ⟨_, _, _, _, rfl⟩:=FN hl; rfl), PySem.W.mg_of X G a20⟩
  have D21 : Def K mg "straight_many" X0 ["drawing", "prime", "factor"]:=⟨f21, _, Xq (st:=X0) l21 c21 k21, (Xq (st:=X0) l21 c21 k21).binds (ps:=["drawing", "prime", "factor"]) λ_ _ _ _ _ _ us hl=>(by obtain ⟨_, _, _, rfl⟩:=Uy hl; rfl), PySem.W.mg_of X G a21⟩
  have D22 : Def K mg "_law_cell" Ju ["_law_script", "_law_place"]:=⟨f22, _, Xq (st:=Ju) l22 c22 k22, (Xq (st:=Ju) l22 c22 k22).binds (ps:=["_law_script", "_law_place"]) λ_ _ _ _ _ _ us hl=>(by obtain ⟨_, _, rfl⟩:=VL hl; rfl), PySem.W.mg_of X G a22⟩
  have D23 : Def K mg "_law_mix" UN ["_law_cell_here", "_law_k"]:=⟨f23, _, Xq (st:=UN) l23 c23 k23, (Xq (st:=UN) l23 c23 k23).binds (ps:=["_law_cell_here", "_law_k"]) λ_ _ _ _ _ _ us hl=>(by obtain ⟨_, _, rfl⟩:=VL hl; rfl), PySem.W.mg_of X G a23⟩
  have D24 : Def K mg "_law_row" KD ["_law_script", "_law_place", "_law_sizes"]:=⟨f24, _, Xq (st:=KD) l24 c24 k24, (Xq (st:=KD) l24 c24 k24).binds (ps:=["_law_script", "_law_place", "_law_sizes"]) λ_ _ _ _ _ _ us hl=>(by obtain ⟨_, _, _, rfl⟩:=Uy hl; rfl), PySem.W.mg_of X G a24⟩
  have D25 : Def K mg "_law_mixed" Qh ["_law_names", "_law_some"]:=⟨f25, _, Xq (st:=Qh) l25 c25 k25, (Xq (st:=Qh) l25 c25 k25).binds (ps:=["_law_names", "_law_some"]) λ_ _ _ _ _ _ us hl=>(by obtain ⟨_, _, rfl⟩:=VL hl; rfl), PySem.W.mg_of X G a25⟩
  have D26 : Def K mg "_law_any" Uw ["_law_names", "_law_some", "_law_rings"]:=⟨f26, _, Xq (st:=Uw) l26 c26 k26, (Xq (st:=Uw) l26 c26 k26).binds (ps:=["_law_names", "_law_some", "_law_rings"]) λ_ _ _ _ _ _ us hl=>(by obtain ⟨_, _, _, rfl⟩:=Uy hl; rfl), PySem.W.mg_of X G a26⟩
  have D27 : Def K mg "_law_plaited" Zk ["_law_names", "_law_signs", "_law_some", "_law_strands"]:=⟨f27, _, Xq (st:=Zk) l27 c27 k27, (Xq (st:=Zk) l27 c27 k27).binds (ps:=["_law_names", "_law_signs", "_law_some", "_law_strands"]) λ_ _ _ _ _ _ us hl=>(by obtain ⟨_, _, _, _, rfl⟩:=FN hl; rfl), PySem.W.mg_of X G a27⟩
  have D28 : Def K mg "_law_drawn" ZU ["_law_script", "_law_place", "_law_most"]:=⟨f28, _, Xq (st:=ZU) l28 c28 k28, (Xq (st:=ZU) l28 c28 k28).binds (ps:=["_law_script", "_law_place", "_law_most"]) λ_ _ _ _ _ _ us hl=>(by obtain ⟨_, _, _, rfl⟩:=Uy hl; rfl), PySem.W.mg_of X G a28⟩
  have D29 : Def K mg "_law_copy" Q3 ["_law_drawing"]:=⟨f29, _, Xq (st:=Q3) l29 c29 k29, (Xq (st:=Q3) l29 c29 k29).binds (ps:=["_law_drawing"]) λ_ _ _ _ _ _ us hl=>(by obtain ⟨_, rfl⟩:=JE hl; rfl), PySem.W.mg_of X G a29⟩
  have D30 : Def K mg "_law_is_whole" Y1 ["_law_one"]:=⟨f30, _, Xq (st:=Y1) l30 c30 k30, (Xq (st:=Y1) l30 c30 k30).binds (ps:=["_law_one"]) λ_ _ _ _ _ _ us hl=>(by obtain ⟨_, rfl⟩:=JE hl; rfl), PySem.W.mg_of X G a30⟩
  have D31 : Def K mg "_law_count" ZS ["_law_drawing"]:=⟨f31, _, Xq (st:=ZS) l31 c31 k31, (Xq (st:=ZS) l31 c31 k31).binds (ps:=["_law_drawing"]) λ_ _ _ _ _ _ us hl=>(by obtain ⟨_, rfl⟩:=JE hl; rfl), PySem.W.mg_of X G a31⟩
  have D32 : Def K mg "_law_is_prime" Yt ["_law_number"]:=⟨f32, _, Xq (st:=Yt) l32 c32 k32, (Xq (st:=Yt) l32 c32 k32).binds (ps:=["_law_number"]) λ_ _ _ _ _ _ us hl=>(by obtain ⟨_, rfl⟩:=JE hl; rfl), PySem.W.mg_of X G a32⟩
  have D33 : Def K mg "_law_said" Jt ["_law_ask", "_law_drawing", "_law_prime", "_law_factor"]:=⟨f33, _, Xq (st:=Jt) l33 c33 k33, (Xq (st:=Jt) l33 c33 k33).binds (ps:=["_law_ask", "_law_drawing", "_law_prime", "_law_factor"]) λ_ _ _ _ _ _ us hl=>(by obtain ⟨_, _, _, _, rfl⟩:=FN hl; rfl), PySem.W.mg_of X G a33⟩
  have D34 : Def K mg "_law_done" Jy ["_law_ask", "_law_drawing", "_law_prime", "_law_factor"]:=⟨f34, _, Xq (st:=Jy) l34 c34 k34, (Xq (st:=Jy) l34 c34 k34).binds (ps:=["_law_ask", "_law_drawing", "_law_prime", "_law_factor"]) λ_ _ _ _ _ _ us hl=>(by obtain ⟨_, _, _, _, rfl⟩:=FN hl; rfl), PySem.W.mg_of X G a34⟩
  refine ⟨PySem.W.fnOf "law" "law" (XA Up) (Xw Up) (Xf Up) .none kV35 dc35 pm35 an35 cd35 ct35, λs v=>.of_eq rfl, λbase _ _=>?_⟩
  have g_cell:=HM (P:=l.prog) (w:=w) (base:=base) D22  Y Z
  have g_mix:=LI (P:=l.prog) (w:=w) (base:=base) D23  Y Z
  have g_row:=Ld (P:=l.prog) (w:=w) (base:=base) D24 g_cell g_mix Y Z
  have g_plaited:=Fg (P:=l.prog) (w:=w) (base:=base) D27  Y Z
  have g_any:=IL (P:=l.prog) (w:=w) (base:=base) D26  Y Z
  have g_mixed:=BA (P:=l.prog) (w:=w) (base:=base) D25  Y Z
  have g_drawn:=Br (P:=l.prog) (w:=w) (base:=base) D28 g_row g_plaited g_any g_mixed Y Z
  have g_l_is_prime:=V5 (P:=l.prog) (w:=w) (base:=base) D32  Y Z
  have g_arcs_of_walk:=Vg (P:=l.prog) (w:=w) (base:=base) D4  Y Z
  have g_arc_count:=Ki (P:=l.prog) (w:=w) (base:=base) D3 g_arcs_of_walk Y Z
  have g_times:=B6 (P:=l.prog) (w:=w) (base:=base) D17  Y Z
  have g_inverse_rest:=Vm (P:=l.prog) (w:=w) (base:=base) D19  Y Z
  have g_cleared:=Fb (P:=l.prog) (w:=w) (base:=base) D18  Y Z
  have g_led_rows:=K6 (P:=l.prog) (w:=w) (base:=base) D16 g_times g_inverse_rest g_cleared Y Z
  have g_unit:=Io (P:=l.prog) (w:=w) (base:=base) D15  Y Z
  have g_with_factors:=Vp (P:=l.prog) (w:=w) (base:=base) D14 g_unit Y Z
  have g_colouring_of:=JT (P:=l.prog) (w:=w) (base:=base) D20 g_unit Y Z
  have g_is_prime:=K3 (P:=l.prog) (w:=w) (base:=base) D9  Y Z
  have g_refuse_wrong:=VC (P:=l.prog) (w:=w) (base:=base) D8 g_is_prime Y Z
  have g_arcs_of_ways:=Vw (P:=l.prog) (w:=w) (base:=base) D5 g_arcs_of_walk Y Z
  have g_arcs:=HD (P:=l.prog) (w:=w) (base:=base) D2 g_arcs_of_walk g_arcs_of_ways Y Z
  have g_spot:=Hi (P:=l.prog) (w:=w) (base:=base) D1  Y Z
  have g_meets:=Bt (P:=l.prog) (w:=w) (base:=base) D6 g_arcs g_spot Y Z
  have g_ties:=Ia (P:=l.prog) (w:=w) (base:=base) D7 g_meets Y Z
  have g_equations:=KC (P:=l.prog) (w:=w) (base:=base) D10 g_refuse_wrong g_arc_count g_ties Y Z
  have g_solved:=Be (P:=l.prog) (w:=w) (base:=base) D13 g_arc_count g_led_rows g_with_factors g_colouring_of g_equations Y Z
  have g_straight_many:=JG (P:=l.prog) (w:=w) (base:=base) D21 g_solved Y Z
  have g_summed:=Cz (P:=l.prog) (w:=w) (base:=base) D12  Y Z
  have g_keeps:=BV (P:=l.prog) (w:=w) (base:=base) D11 g_equations g_summed Y Z
  have g_is_whole:=K4 (P:=l.prog) (w:=w) (base:=base) D30  Y Z
  have g_count:=BX (P:=l.prog) (w:=w) (base:=base) D31  Y Z
  have g_said:=E5 (P:=l.prog) (w:=w) (base:=base) D33 g_straight_many g_equations g_keeps g_solved g_is_whole g_count Y Z
  have g_done:=ER (P:=l.prog) (w:=w) (base:=base) D34 g_said Y Z
  have g_copy:=HG (P:=l.prog) (w:=w) (base:=base) D29  Y Z
  exact IX (P:=l.prog) (w:=w) (base:=base) (Xq (st:=Up) l35 c35 k35) g_drawn g_row g_l_is_prime g_done g_copy Y Z
theorem MT {l : PySem.W.OpenLaw} {q : Program} {loose : List Str} {XP : (Str -> Option Value) -> Heap -> Prop} {YP : World -> Heap -> Prop} {d : DefRec} {K : Params -> PySem.W.Frag} (hn : l.most = some 63) (hdf : d.params.defaults = [])
    (hY : ∀ (w : World) (h : Heap), YP w h -> (K w.params).In h)
    (F : ∀ (w : World) (mg : Str -> Option Value) (fa : Addr) (h : Heap), (K w.params).In h -> h.Ns mainGlobals mg -> mg d.name = some (.ref fa) ->
      ∃ fd : FuncData, (∀ (s : Shared) (u : Value), BindsTo s fd ⟨[u], []⟩ [("_law_script", u)]) /\ ∀ base : Heap, (K w.params).In base -> base.Ns mainGlobals mg -> FnOk l.prog w (K w.params) mg base CX0 11 fa fd ["_law_script"] (sp1 (rL Xa) (oF Xr) K7 (K w.params))) :
    PySem.W.WalkO q loose XP YP l.row.toRowW d [] (λf vs=>PySem.call f vs):=
  L2.HP (n:=63) (k:=11) (x:="_law_script") (CX:=λ_=>CX0) (sp:=λw=>sp1 (rL Xa) (oF Xr) K7 (K w.params)) hn (by decide) hdf ⟨rfl, by decide, by decide⟩ hY F (λ_ _ a ns hl _ hS=>⟨.ref a, ns, true, rfl, ⟨a, _, rfl, hS, KZ ns⟩, By ns hl, λv C H' w m ho=>ho.2⟩) λ_ _ _ _ _ z=>z
end My
open PySem PySem.W PyProof.Rows
set_option maxRecDepth 100000 in
set_option maxHeartbeats 0 in
theorem PySem.Challenge.cw_plait_k86_no_prime_no_unit_holds : PySem.Challenge.rw_plait_k86_no_prime_no_unit.Holds := by
  w_on; o_law; k_head; (case hw => w_witness2)
  k_fill
  refine My.MT (l := PySem.Challenge.rw_plait_k86_no_prime_no_unit) rfl rfl (fun w h Y => PySem.W.kIn_of Y) ?F
  case F =>
    intro w mg fa h KX G hmg
    refine' My.IP KX G hmg ?a1 ?l1 ?c1 ?k1 ?a2 ?l2 ?c2 ?k2 ?a3 ?l3 ?c3 ?k3 ?a4 ?l4 ?c4 ?k4 ?a5 ?l5 ?c5 ?k5 ?a6 ?l6 ?c6 ?k6 ?a7 ?l7 ?c7 ?k7 ?a8 ?l8 ?c8 ?k8 ?a9 ?l9 ?c9 ?k9 ?a10 ?l10 ?c10 ?k10 ?a11 ?l11 ?c11 ?k11 ?a12 ?l12 ?c12 ?k12 ?a13 ?l13 ?c13 ?k13 ?a14 ?l14 ?c14 ?k14 ?a15 ?l15 ?c15 ?k15 ?a16 ?l16 ?c16 ?k16 ?a17 ?l17 ?c17 ?k17 ?a18 ?l18 ?c18 ?k18 ?a19 ?l19 ?c19 ?k19 ?a20 ?l20 ?c20 ?k20 ?a21 ?l21 ?c21 ?k21 ?a22 ?l22 ?c22 ?k22 ?a23 ?l23 ?c23 ?k23 ?a24 ?l24 ?c24 ?k24 ?a25 ?l25 ?c25 ?k25 ?a26 ?l26 ?c26 ?k26 ?a27 ?l27 ?c27 ?k27 ?a28 ?l28 ?c28 ?k28 ?a29 ?l29 ?c29 ?k29 ?a30 ?l30 ?c30 ?k30 ?a31 ?l31 ?c31 ?k31 ?a32 ?l32 ?c32 ?k32 ?a33 ?l33 ?c33 ?k33 ?a34 ?l34 ?c34 ?k34 ?a35 ?l35 ?c35 ?k35 ?z1 ?z2 ?z3 ?z4 ?z5 ?z6 ?z7 ?z8 ?z9 ?z10 ?z11 ?z12 ?z13 ?z14 ?w0 ?x0 ?x1 ?x2 ?x3 ?yg ?yt ?ya0 ?yb0 ?yc0 ?yd0 ?ye0 ?yf0 ?yh0 ?yi0 ?yj0 ?yk0 ?ya1 ?yb1 ?yc1 ?yd1 ?ye1 ?yf1 ?yh1 ?yi1 ?yj1 ?yk1 ?ya2 ?yb2 ?yc2 ?yd2 ?ye2 ?yf2 ?yh2 ?yi2 ?yj2 ?yk2 ?ya3 ?yb3 ?yc3 ?yd3 ?ye3 ?yf3 ?yh3 ?yi3 ?yj3 ?yk3 ?yl0_0 ?yl0_1 ?yl0_2 ?yl0_3 ?yl1_0 ?yl1_1 ?yl1_2 ?yl1_3 ?yl2_0 ?yl2_1 ?yl2_2 ?yl2_3 ?yl3_0 ?yl3_1 ?yl3_2 ?yl3_3
    (case a1 => k_is); (case l1 => k_is); (case c1 => k_is); (case k1 => k_is); (case a2 => k_is); (case l2 => k_is); (case c2 => k_is); (case k2 => k_is); (case a3 => k_is); (case l3 => k_is); (case c3 => k_is); (case k3 => k_is); (case a4 => k_is); (case l4 => k_is); (case c4 => k_is); (case k4 => k_is); (case a5 => k_is); (case l5 => k_is); (case c5 => k_is); (case k5 => k_is); (case a6 => k_is); (case l6 => k_is); (case c6 => k_is); (case k6 => k_is); (case a7 => k_is); (case l7 => k_is); (case c7 => k_is); (case k7 => k_is); (case a8 => k_is); (case l8 => k_is); (case c8 => k_is); (case k8 => k_is); (case a9 => k_is); (case l9 => k_is); (case c9 => k_is); (case k9 => k_is); (case a10 => k_is); (case l10 => k_is); (case c10 => k_is); (case k10 => k_is); (case a11 => k_is); (case l11 => k_is); (case c11 => k_is); (case k11 => k_is); (case a12 => k_is); (case l12 => k_is); (case c12 => k_is); (case k12 => k_is); (case a13 => k_is); (case l13 => k_is); (case c13 => k_is); (case k13 => k_is); (case a14 => k_is); (case l14 => k_is); (case c14 => k_is); (case k14 => k_is); (case a15 => k_is); (case l15 => k_is); (case c15 => k_is); (case k15 => k_is); (case a16 => k_is); (case l16 => k_is); (case c16 => k_is); (case k16 => k_is); (case a17 => k_is); (case l17 => k_is); (case c17 => k_is); (case k17 => k_is); (case a18 => k_is); (case l18 => k_is); (case c18 => k_is); (case k18 => k_is); (case a19 => k_is); (case l19 => k_is); (case c19 => k_is); (case k19 => k_is); (case a20 => k_is); (case l20 => k_is); (case c20 => k_is); (case k20 => k_is); (case a21 => k_is); (case l21 => k_is); (case c21 => k_is); (case k21 => k_is); (case a22 => k_is); (case l22 => k_is); (case c22 => k_is); (case k22 => k_is); (case a23 => k_is); (case l23 => k_is); (case c23 => k_is); (case k23 => k_is); (case a24 => k_is); (case l24 => k_is); (case c24 => k_is); (case k24 => k_is); (case a25 => k_is); (case l25 => k_is); (case c25 => k_is); (case k25 => k_is); (case a26 => k_is); (case l26 => k_is); (case c26 => k_is); (case k26 => k_is); (case a27 => k_is); (case l27 => k_is); (case c27 => k_is); (case k27 => k_is); (case a28 => k_is); (case l28 => k_is); (case c28 => k_is); (case k28 => k_is); (case a29 => k_is); (case l29 => k_is); (case c29 => k_is); (case k29 => k_is); (case a30 => k_is); (case l30 => k_is); (case c30 => k_is); (case k30 => k_is); (case a31 => k_is); (case l31 => k_is); (case c31 => k_is); (case k31 => k_is); (case a32 => k_is); (case l32 => k_is); (case c32 => k_is); (case k32 => k_is); (case a33 => k_is); (case l33 => k_is); (case c33 => k_is); (case k33 => k_is); (case a34 => k_is); (case l34 => k_is); (case c34 => k_is); (case k34 => k_is); (case a35 => k_is); (case l35 => k_is); (case c35 => k_is); (case k35 => k_is); (case z1 => k_is); (case z2 => k_is); (case z3 => k_is); (case z4 => k_is); (case z5 => k_is); (case z6 => k_is); (case z7 => k_is); (case z8 => k_is); (case z9 => k_is); (case z10 => k_is); (case z11 => k_is); (case z12 => k_is); (case z13 => k_is); (case z14 => k_is); (case w0 => k_is); (case x0 => k_is); (case x1 => k_is); (case x2 => k_is); (case x3 => k_is); (case yg => k_is); (case yt => k_is); (case ya0 => k_exc); (case yb0 => k_is); (case yc0 => k_is); (case yd0 => k_is); (case ye0 => k_is); (case yf0 => k_is); (case yh0 => k_is); (case yi0 => k_is); (case yj0 => k_is); (case yk0 => k_is); (case ya1 => k_exc); (case yb1 => k_is); (case yc1 => k_is); (case yd1 => k_is); (case ye1 => k_is); (case yf1 => k_is); (case yh1 => k_is); (case yi1 => k_is); (case yj1 => k_is); (case yk1 => k_is); (case ya2 => k_exc); (case yb2 => k_is); (case yc2 => k_is); (case yd2 => k_is); (case ye2 => k_is); (case yf2 => k_is); (case yh2 => k_is); (case yi2 => k_is); (case yj2 => k_is); (case yk2 => k_is); (case ya3 => k_exc); (case yb3 => k_is); (case yc3 => k_is); (case yd3 => k_is); (case ye3 => k_is); (case yf3 => k_is); (case yh3 => k_is); (case yi3 => k_is); (case yj3 => k_is); (case yk3 => k_is); (case yl0_0 => k_is); (case yl0_1 => k_is); (case yl0_2 => k_is); (case yl0_3 => k_is); (case yl1_0 => k_is); (case yl1_1 => k_is); (case yl1_2 => k_is); (case yl1_3 => k_is); (case yl2_0 => k_is); (case yl2_1 => k_is); (case yl2_2 => k_is); (case yl2_3 => k_is); (case yl3_0 => k_is); (case yl3_1 => k_is); (case yl3_2 => k_is); (case yl3_3 => k_is)
