import PyProof.Rows.All
import Wide.All
import OpenK.AllK
import Wide.FinOn
import Lean
import PyProof.EqAt
import PyProof.EqKinds
import PyProof.TupleCall
import PySem.Challenge.RW_plait_k47_too_big_everywhere
set_option Elab.async false
set_option linter.all false
set_option maxRecDepth 100000
set_option maxHeartbeats 4000000
namespace L2
open PySem PySem.Spec PyProof.Rows
abbrev Fgg:=PySem.W.Frag
theorem Zq {α : Type} {a : α} {l : List α} : a ∈ a :: l:=List.mem_cons_self
theorem ZP {α : Type} {a : α} (y : α) {l : List α} (h : a ∈ l) : a ∈ y :: l:=List.mem_cons_of_mem y h
theorem Qp {h : Heap} {a : Addr} {o' : Obj} (o : Obj) (e : h.get? a = some o') : (h.push o).get? a = some o':=Heap.get?_push_of_some o e
abbrev Key:=Sum Int Str
def Fz : Key -> Value -> Bool
  | .inl k, v=>Value.isInt k v
  | .inr x, v=>Value.isStrOf x v
def NG (w : World) : Key -> Int
  | .inl k=>hashInt k
  | .inr x=>hashStr w x
theorem Yi : ∀ {k : Key} {v : Value}, Fz k v = true -> (∃ i t, k = Sum.inl i /\ v = Value.int i t) ∨ (∃ x t, k = Sum.inr x /\ v = Value.str x t)
  | .inl i, v, h=>by
    obtain ⟨t, e⟩:=Value.isInt_shape (k:=i) (v:=v) h
    exact .inl ⟨i, t, rfl, e⟩
  | .inr x, v, h=>by
    obtain ⟨t, e⟩:=Value.isStrOf_shape (x:=x) (v:=v) h
    exact .inr ⟨x, t, rfl, e⟩
theorem DG (i : Int) (t : Tok) : Fz (.inl i) (.int i t) = true:=by simp [Fz, Value.isInt]
theorem Bc (x : Str) (t : Tok) : Fz (.inr x) (.str x t) = true:=by simp [Fz, Value.isStrOf]
theorem LU (a b : Int) : decide ((Sum.inl a : Key) = Sum.inl b) = (a == b):=by
  by_cases e : a = b
  . subst e; simp
  . have h : ¬ (Sum.inl a : Key) = Sum.inl b := λq => e (Sum.inl.inj q)
    rw [decide_eq_false h]
    exact (beq_eq_false_iff_ne.mpr e).symm
theorem LZ (a b : Str) : decide ((Sum.inr a : Key) = Sum.inr b) = decide (a = b):=by
  by_cases e : a = b
  . subst e; simp
  . have h : ¬ (Sum.inr a : Key) = Sum.inr b := λq => e (Sum.inr.inj q)
    rw [decide_eq_false h, decide_eq_false e]
theorem Mm (a : Int) (b : Str) : decide ((Sum.inl a : Key) = Sum.inr b) = false:=decide_eq_false (λq=>nomatch q)
theorem Me (a : Str) (b : Int) : decide ((Sum.inr a : Key) = Sum.inl b) = false:=decide_eq_false (λq=>nomatch q)
def YX (prog : Program) (w : World) : PySem.KeyKind prog w Key where
  is:=Fz
  hash:=NG w
  inj:=λv a b ha hb=>by
    rcases Yi ha with ⟨i, t, rfl, rfl⟩ | ⟨x, t, rfl, rfl⟩
    . rcases Yi hb with ⟨j, u, rfl, e⟩ | ⟨y, u, rfl, e⟩
      . injection e with e1 _; rw [e1]
      . exact nomatch e
    . rcases Yi hb with ⟨j, u, rfl, e⟩ | ⟨y, u, rfl, e⟩
      . exact nomatch e
      . injection e with e1 _; rw [e1]
  byValue := λk v h => by
    rcases Yi h with ⟨i, t, rfl, rfl⟩ | ⟨x, t, rfl, rfl⟩ <;> rfl
  pyHash:=λhv h=>by
    rcases Yi hv with ⟨i, t, rfl, rfl⟩ | ⟨x, t, rfl, rfl⟩
    . exact wpAny_pyHash_int h
    . exact wpAny_pyHash_str h
  eqBool:=λhu hv h=>by
    rcases Yi hu with ⟨i, t, rfl, rfl⟩ | ⟨x, t, rfl, rfl⟩
    . rcases Yi hv with ⟨j, u, rfl, rfl⟩ | ⟨y, u, rfl, rfl⟩
      . rw [LU] at h; exact wpAny_eqBool_int h
      . rw [Mm] at h; exact SeqAt.EqAt.int_str i t y u _ _ _ _ h
    . rcases Yi hv with ⟨j, u, rfl, rfl⟩ | ⟨y, u, rfl, rfl⟩
      . rw [Me] at h; exact SeqAt.EqAt.str_int x t j u _ _ _ _ h
      . rw [LZ] at h; exact wpAny_eqBool_str h
  «strs»:=λk x t v h=>by
    rcases Yi h with ⟨i, u, rfl, e⟩ | ⟨y, u, rfl, e⟩
    . exact nomatch e
    . injection e with e1 _
      subst e1
      cases v <;> rfl
theorem K6 (prog : Program) (w : World) (i : Int) (t : Tok) : (YX prog w).is (.inl i) (.int i t) = true:=DG i t
theorem K5 (prog : Program) (w : World) (x : Str) (t : Tok) : (YX prog w).is (.inr x) (.str x t) = true:=Bc x t
inductive V where
  | non | bl (b : Bool) | int (i : Int) | str (x : Str) | byt (b : Array UInt8) | flt (b : UInt64) | ref (a : Addr) | ty (n : String)
  deriving DecidableEq
def X7 : V -> Value -> Prop
  | .non, u=>u = Value.none
  | .bl b, u=>u = Value.bool b
  | .int i, u=>∃ t, u = Value.int i t
  | .str x, u=>∃ t, u = Value.str x t
  | .byt b, u=>∃ t, u = Value.bytes b t
  | .flt b, u=>∃ t, u = Value.float b t
  | .ref a, u=>u = Value.ref a
  | .ty n, u=>u = Value.type n
abbrev X5 : List V -> List Value -> Prop:=Paired X7
theorem X5.length {xs : List V} {us : List Value} (r : X5 xs us) : xs.length = us.length:=Paired.length r
theorem X5.get : ∀ {xs : List V} {us : List Value} {i : Nat} {x : V}, X5 xs us -> xs[i]? = some x -> ∃ u, us[i]? = some u /\ X7 x u
  | _, _, _, _, .nil, e=>by simp at e
  | _, _, 0, _, .cons r _, e=>by simp at e; subst e; exact ⟨_, rfl, r⟩
  | _, _, i + 1, x, .cons _ t, e=>by
    obtain ⟨u, h1, h2⟩:=X5.get (i:=i) (x:=x) t (by simpa using e)
    exact ⟨u, by simpa using h1, h2⟩
theorem X5.set {x : V} {u : Value} (r : X7 x u) : ∀ {xs : List V} {us : List Value} (i : Nat), X5 xs us -> X5 (xs.set i x) (us.set i u)
  | _, _, _, .nil=>.nil
  | _, _, 0, .cons _ t=>.cons r t
  | _, _, i + 1, .cons q t=>.cons q (X5.set r i t)
theorem X5.append : ∀ {xs ys : List V} {us ws : List Value}, X5 xs us -> X5 ys ws -> X5 (xs ++ ys) (us ++ ws):=λp s=>by
  induction p with
  | nil=>exact s
  | cons r _ ih=>exact .cons r ih
theorem X5.take : ∀ {xs : List V} {us : List Value} (n : Nat), X5 xs us -> X5 (xs.take n) (us.take n)
  | _, _, 0, _=>.nil
  | _, _, _ + 1, .nil=>.nil
  | _, _, n + 1, .cons r t=>.cons r (X5.take n t)
theorem X5.drop : ∀ {xs : List V} {us : List Value} (n : Nat), X5 xs us -> X5 (xs.drop n) (us.drop n)
  | _, _, 0, r=>r
  | _, _, _ + 1, .nil=>.nil
  | _, _, n + 1, .cons _ t=>X5.drop n t
def Ex : Option V -> Option Value -> Prop
  | some v, some u=>X7 v u
  | none, none=>True
  | _, _=>False
def KV {κ : Type} : List (κ × V) -> List (κ × Value) -> Prop:=Paired λ(p : κ × V) (q : κ × Value)=>p.1 = q.1 /\ X7 p.2 q.2
def kV : Key -> V
  | .inl i=>.int i
  | .inr x=>.str x
inductive HO where
  /-- a list -/
  | lst (xs : List V)
  /-- a tuple (never changes) -/
  | tup (xs : List V)
  /-- a dict whose keys are ints and texts; one whose keys are tuples of ints and texts (the empty one is both) -/
  | dK (kvs : List (Key × V)) | dT (kvs : List (List Key × V))
  /-- a set of ints: its members, its size -/
  | set (S : Int -> Bool) (n : Nat)
  /-- an instance of the class at C, its dict at dx, its attributes -/
  | ins (C dx : Addr) (fs : List (Str × V))
  /-- the dict of the instance at x -/
  | own (x : Addr)
  /-- the dict of an exception -/
  | xd (fs : List (Str × V))
  /-- a bound method, f of x -/
  | met (f x : Addr)
  /-- a range object lo, lo + 1, .. below hi -/
  | rng (lo hi : Int)
  /-- a thing that is known to the object (the script; a dict while a loop walks it): read, never written while it is so -/
  | frz (o : Obj) (u : HO)
  /-- a code object's table -/
  | tbl (ps : Array Value)
  /-- any other thing, by what is true of its one object (a def of one's own: SetO a S n:=HO.ext λh=>..) -/
  | ext (φ : Heap -> Prop)
abbrev Hp:=Addr -> Option HO
def upd (H : Hp) (a : Addr) (o : HO) : Hp:=λb=>if b = a then some o else H b
theorem Yp {H : Hp} {a : Addr} {o : HO} : upd H a o a = some o:=by unfold upd; rw [if_pos rfl]
theorem XI {H : Hp} {a b : Addr} {o : HO} (h : b ≠ a) : upd H a o b = H b:=by unfold upd; rw [if_neg h]
theorem XL {H : Hp} {a b : Addr} {o : HO} (h : H a = some o) (h' : H b = none) : a ≠ b:=by
  intro e; subst e; rw [h] at h'; cases h'
section
variable (P : Program) (w : World)
def Zd (H : Hp) (h : Heap) (a : Addr) : HO -> Prop
  | .lst xs=>xs.length <= sizeLine /\ ∃ (its : List Value) (n : Nat), X5 xs its /\ h.get? a = some { cls:=.type "list", data:=.seq its.toArray n }
  | .tup xs=>xs.length <= sizeLine /\ ∃ its : List Value, X5 xs its /\ IsTup h a its.toArray
  | .dK kvs=>kvs.length <= sizeLine /\ (a == sysModules) = false /\ ∃ vs, KV kvs vs /\ h.DictOf (YX P w) a vs
  | .dT kvs=>kvs.length <= sizeLine /\ (a == sysModules) = false /\ ∃ xs : List (List Key × Addr × Value),
      Paired (λ(p : List Key × V) (q : List Key × Addr × Value)=>p.1 = q.1 /\ H q.2.1 = some (.tup (p.1.map kV)) /\ X7 p.2 q.2.2) kvs xs /\
      ∃ o es ep, h.get? a = some o /\ o.ExactDict /\ o.data = .dict es ep /\ es.toList = xs.map (entryOfKey (tupleKind (YX P w))) /\ (xs.map (·.1)).Nodup
  | .set S n=>h.SetOf (intKind P w) a S n
  | .ins C dx fs=>H dx = some (.own a) /\ fs.length <= 1000 /\ dx ≠ a /\ h.get? a = some (PySem.W.instObj C dx) /\
      ∃ mA, h.Ns1 dx mA /\ (∀ f, Ex (fs.lookup f) (mA f)) /\ PySem.Within mA (fs.map (·.1))
  | .own _=>∃ o, h.get? a = some o
  | .xd fs=>∃ mA, h.Ns1 a mA /\ ∀ f, Ex (fs.lookup f) (mA f)
  | .rng lo hi=>∃ t u v, h.get? a = some { cls:=.type "range", data:=.fields #[.int lo t, .int hi u, .int 1 v] }
  | .frz o u=>h.get? a = some o /\ Zd H h a u
  | .tbl ps=>h.get? a = some { cls:=.none, data:=.fields ps }
  | .met f x=>h.get? a = some (PySem.W.methodObj (.ref f) (.ref x))
  | .ext φ=>φ h /\ (∃ o, h.get? a = some o) /\ ∀ h1 h2 : Heap, φ h1 -> (∀ o, h1.get? a = some o -> h2.get? a = some o) -> φ h2
def HOk (H : Hp) (h : Heap) : Prop:=∀ a o, H a = some o -> Zd P w H h a o
end
section
variable {P : Program} {w : World} {H H' : Hp} {h h' : Heap} {a : Addr} {o : HO}
theorem Zd.lt (x : Zd P w H h a o) : a < h.objs.size:=by
  cases o with
  | lst xs=>obtain ⟨_, _, _, _, e⟩:=x; exact Heap.lt_size e
  | tup xs=>obtain ⟨_, _, _, p⟩:=x; exact p.lt
  | dK kvs=>obtain ⟨_, _, _, _, o, _, _, e, _⟩:=x; exact Heap.lt_size e
  | dT kvs=>obtain ⟨_, _, _, _, o, _, _, e, _⟩:=x; exact Heap.lt_size e
  | set S n=>obtain ⟨o, _, _, _, e, _⟩:=x; exact Heap.lt_size e
  | ins C dx fs=>obtain ⟨_, _, _, e, _⟩:=x; exact Heap.lt_size e
  | own y=>obtain ⟨_, e⟩:=x; exact Heap.lt_size e
  | xd fs=>obtain ⟨_, ⟨_, _, _, e, _⟩, _⟩:=x; exact Heap.lt_size e
  | rng lo hi=>obtain ⟨_, _, _, e⟩:=x; exact Heap.lt_size e
  | frz ob u=>obtain ⟨e, _⟩:=x; exact Heap.lt_size e
  | tbl ps=>exact Heap.lt_size (show h.get? a = some _ from x)
  | met f y=>exact Heap.lt_size (show h.get? a = some _ from x)
  | ext φ=>obtain ⟨_, ⟨_, e⟩, _⟩:=x; exact Heap.lt_size e
theorem Paired.mapP {α β : Type} {F G : α -> β -> Prop} : ∀ {l₁ : List α} {l₂ : List β}, Paired F l₁ l₂ -> (∀ a b, F a b -> G a b) -> Paired G l₁ l₂:=λp f=>by
  induction p with
  | nil=>exact .nil
  | cons r _ ih=>exact .cons (f _ _ r) ih
theorem Zd.stay (x : Zd P w H h a o) (k : ∀ b u, (b = a ∨ H b = some (.own a)) -> h.get? b = some u -> h'.get? b = some u)
    (ho : ∀ b, H b = some (.own a) -> H' b = some (.own a)) (ht : ∀ b xs, H b = some (.tup xs) -> H' b = some (.tup xs)) : Zd P w H' h' a o:=by
  induction o with
  | lst xs=>obtain ⟨z, its, n, r, e⟩:=x; exact ⟨z, its, n, r, k _ _ (.inl rfl) e⟩
  | tup xs=>obtain ⟨z, its, r, ob, e, c⟩:=x; exact ⟨z, its, r, ob, k _ _ (.inl rfl) e, c⟩
  | dK kvs=>obtain ⟨z, y, vs, r, ob, es, ep, e, c⟩:=x; exact ⟨z, y, vs, r, ob, es, ep, k _ _ (.inl rfl) e, c⟩
  | dT kvs=>
    obtain ⟨z, y, xs, r, ob, es, ep, e, c⟩:=x
    exact ⟨z, y, xs, Paired.mapP r λp q z=>⟨z.1, ht _ _ z.2.1, z.2.2⟩, ob, es, ep, k _ _ (.inl rfl) e, c⟩
  | set S n=>obtain ⟨ob, es, ep, t, e, c⟩:=x; exact ⟨ob, es, ep, t, k _ _ (.inl rfl) e, c⟩
  | ins C dx fs=>
    obtain ⟨d, z, ne, e, mA, ⟨od, es, ep, e2, c⟩, r⟩:=x
    exact ⟨ho _ d, z, ne, k _ _ (.inl rfl) e, mA, ⟨od, es, ep, k _ _ (.inr d) e2, c⟩, r⟩
  | own y=>obtain ⟨ob, e⟩:=x; exact ⟨ob, k _ _ (.inl rfl) e⟩
  | xd fs=>obtain ⟨mA, ⟨od, es, ep, e, c⟩, r⟩:=x; exact ⟨mA, ⟨od, es, ep, k _ _ (.inl rfl) e, c⟩, r⟩
  | rng lo hi=>obtain ⟨t, u, v, e⟩:=x; exact ⟨t, u, v, k _ _ (.inl rfl) e⟩
  | frz ob u ih=>obtain ⟨e, q⟩:=x; exact ⟨k _ _ (.inl rfl) e, ih q⟩
  | tbl ps=>
    have e : h.get? a = some { cls:=.none, data:=.fields ps }:=x
    show h'.get? a = some { cls:=.none, data:=.fields ps }
    exact k a _ (.inl rfl) e
  | met f y=>
    have e : h.get? a = some (PySem.W.methodObj (.ref f) (.ref y)):=x
    show h'.get? a = some (PySem.W.methodObj (.ref f) (.ref y))
    exact k a _ (.inl rfl) e
  | ext φ=>obtain ⟨p, ⟨o, e⟩, st⟩:=x; exact ⟨st _ _ p λo q=>k _ _ (.inl rfl) q, ⟨o, k _ _ (.inl rfl) e⟩, st⟩
theorem HOk.lt (x : HOk P w H h) (e : H a = some o) : a < h.objs.size:=(x a o e).lt
theorem HOk.fresh (x : HOk P w H h) (e : h.objs.size <= a) : H a = none:=by
  cases q : H a with
  | none=>rfl
  | some u=>exact absurd (Nat.lt_of_lt_of_le (x.lt q) e) (Nat.lt_irrefl _)
theorem HOk.kept (x : HOk P w H h) (k : ∀ b u, h.get? b = some u -> h'.get? b = some u) : HOk P w H h':=λa o e=>
  (x a o e).stay (λb u _ q=>k b u q) (λ_ q=>q) λ_ _ q=>q
theorem HOk.laid (x : HOk P w H h) (k : ∀ b u, h.get? b = some u -> h'.get? b = some u) (hp : h.objs.size <= a) (new : Zd P w (upd H a o) h' a o) : HOk P w (upd H a o) h':=λb u e=>by
  have hn:=x.fresh hp
  by_cases hb : b = a
  . subst hb; rw [Yp] at e; cases e; exact new
  . rw [XI hb] at e
    exact (x b u e).stay (λc v _ q=>k c v q) (λc q=>by rw [XI (XL q hn)]; exact q) λc xs q=>by rw [XI (XL q hn)]; exact q
end
def Rd (H : Hp) (a : Addr) (u : HO) : Prop:=H a = some u ∨ ∃ o, H a = some (.frz o u)
theorem Rd.of {H : Hp} {a : Addr} {u : HO} (h : H a = some u) : Rd H a u:=.inl h
theorem Rd.ok {P : Program} {w : World} {H : Hp} {h : Heap} {a : Addr} {u : HO} (r : Rd H a u) (x : HOk P w H h) : Zd P w H h a u:=by
  rcases r with r | ⟨o, r⟩
  . exact x a u r
  . obtain ⟨_, q⟩ := x a _ r
    exact q
def Mut : Option HO -> Prop
  | some (.lst _)=>True
  | some (.dK _)=>True
  | some (.dT _)=>True
  | some (.set _ _)=>True
  | some (.ins _ _ _)=>True
  | some (.ext _)=>True
  | _=>False
section
variable {P : Program} {w : World} {H : Hp} {h h' : Heap} {x e : Addr} {o' : HO}
theorem HOk.write (ok : HOk P w H h) (mu : Mut (H x)) (he : e = x ∨ H e = some (.own x)) (k : ∀ b u, b ≠ e -> h.get? b = some u -> h'.get? b = some u) (heo : ∃ u, h'.get? e = some u)
    (new : Zd P w (upd H x o') h' x o') : HOk P w (upd H x o') h':=λb u q=>by
  have nown : ∀ c y, H c = some (.own y) -> c ≠ x:=λc y r z=>by subst z; rw [r] at mu; exact mu
  have ntup : ∀ c xs, H c = some (.tup xs) -> c ≠ x:=λc xs r z=>by subst z; rw [r] at mu; exact mu
  by_cases hb : b = x
  . subst hb; rw [Yp] at q; cases q; exact new
  . rw [XI hb] at q
    by_cases hbe : b = e
    . have q' : H b = some (.own x):=by
        rcases he with z | z
        . exact absurd (hbe.trans z) hb
        . rw [hbe]; exact z
      rw [q] at q'; cases q'
      obtain ⟨v, hv⟩:=heo
      exact ⟨v, by rw [hbe]; exact hv⟩
    . refine (ok b u q).stay (λc v hc r => k c v ?_ r) (λc r => by rw [XI (nown c b r)]; exact r) λc xs r => by rw [XI (ntup c xs r)]; exact r
      rcases hc with rfl | hc
      . exact hbe
      . rintro rfl
        rcases he with z | z
        . exact nown c b hc z
        . rw [hc] at z; cases z; exact hb rfl
end
structure Un (fs ex : List Addr) (H H' : Hp) (h h' : Heap) : Prop where
  keep : ∀ b o, h.get? b = some o -> H b = none -> b ∉ fs -> b ∉ ex -> h'.get? b = some o
  slot : ∀ b o, h.get? b = some o -> H b = none -> b ∈ fs -> b ∉ ex -> ∃ sl, h'.get? b = some { o with slots:=sl }
  free : ∀ b o, h.get? b = some o -> H b = none -> b ∉ ex -> H' b = none
  there : ∀ b o, h.get? b = some o -> b ∉ ex -> ∃ o', h'.get? b = some o'
  tups : ∀ b xs, H b = some (.tup xs) -> H' b = some (.tup xs)
  frzs : ∀ b o u, H b = some (.frz o u) -> H' b = some (.frz o u)
  tbls : ∀ b ps, H b = some (.tbl ps) -> ∃ more, H' b = some (.tbl (ps ++ more))
section
variable {fs fs' ex ex' : List Addr} {H H1 H2 : Hp} {h h1 h2 h' : Heap} {a x e : Addr} {o : HO}
theorem Un.any (u : Un fs ex H H1 h h1) {b : Addr} {ob : Obj} (q : h.get? b = some ob) (n : H b = none) (hx : b ∉ ex) : ∃ sl, h1.get? b = some { ob with slots:=sl }:=by
  by_cases hb : b ∈ fs
  . exact u.slot b ob q n hb hx
  . exact ⟨ob.slots, u.keep b ob q n hb hx⟩
theorem Un.trans (a : Un fs ex H H1 h h1) (b : Un fs ex H1 H2 h1 h2) : Un fs ex H H2 h h2 where
  keep:=λc ob q n hc hx=>b.keep c ob (a.keep c ob q n hc hx) (a.free c ob q n hx) hc hx
  slot:=λc ob q n hc hx=>by
    obtain ⟨sl, e1⟩:=a.slot c ob q n hc hx
    obtain ⟨sl', e2⟩:=b.slot c _ e1 (a.free c ob q n hx) hc hx
    exact ⟨sl', e2⟩
  free:=λc ob q n hx=>by
    obtain ⟨o', e1⟩:=a.there c ob q hx
    exact b.free c o' e1 (a.free c ob q n hx) hx
  there:=λc ob q hx=>by
    obtain ⟨o', e1⟩:=a.there c ob q hx
    exact b.there c o' e1 hx
  tups:=λc xs q=>b.tups c xs (a.tups c xs q)
  frzs:=λc ob xs q=>b.frzs c ob xs (a.frzs c ob xs q)
  tbls:=λc ps q=>by
    obtain ⟨m1, e1⟩:=a.tbls c ps q
    obtain ⟨m2, e2⟩:=b.tbls c _ e1
    exact ⟨m1 ++ m2, by rw [e2, Array.append_assoc]⟩
theorem Un.kept (k : ∀ b u, h.get? b = some u -> h'.get? b = some u) : Un fs ex H H h h':=
  ⟨λb ob q _ _ _=>k b ob q, λb ob q _ _ _=>⟨ob.slots, k b ob q⟩, λ_ _ _ n _=>n, λb ob q _=>⟨ob, k b ob q⟩, λ_ _ q=>q, λ_ _ _ q=>q, λ_ ps q=>⟨#[], by rw [q]; simp⟩⟩
theorem Un.refl : Un fs ex H H h h:=Un.kept λ_ _ q=>q
theorem Un.laid (k : ∀ b u, h.get? b = some u -> h'.get? b = some u) (hp : h.objs.size <= a) (hn : H a = none) : Un fs ex H (upd H a o) h h' where
  keep:=λb u q _ _ _=>k b u q
  slot:=λb u q _ _ _=>⟨u.slots, k b u q⟩
  free:=λb u q n _=>by rw [XI (Nat.ne_of_lt (Nat.lt_of_lt_of_le (Heap.lt_size q) hp))]; exact n
  there:=λb u q _=>⟨u, k b u q⟩
  tups:=λb xs q=>by rw [XI (XL q hn)]; exact q
  frzs:=λb u xs q=>by rw [XI (XL q hn)]; exact q
  tbls:=λb ps q=>⟨#[], by rw [XI (XL q hn), q]; simp⟩
theorem Un.write (mu : Mut (H x)) (he : e = x ∨ H e = some (.own x)) (k : ∀ b u, b ≠ e -> h.get? b = some u -> h'.get? b = some u) (heo : ∃ u, h'.get? e = some u) : Un fs ex H (upd H x o) h h':=by
  have hx : ∀ b, H b = none -> b ≠ x:=λb n z=>by subst z; rw [n] at mu; exact mu
  have hb : ∀ b, H b = none -> b ≠ e:=λb n z=>by
    subst z
    rcases he with r | r
    . exact hx b n r
    . rw [n] at r; cases r
  have hm : ∀ b u, H b = some u -> ¬ Mut (some u) -> b ≠ x:=λb u q nm z=>by subst z; rw [q] at mu; exact nm mu
  refine ⟨λb u q n _ _=>k b u (hb b n) q, λb u q n _ _=>⟨u.slots, k b u (hb b n) q⟩, λb u q n _=>by rw [XI (hx b n)]; exact n, λb u q _=>?_,
    λb xs q=>by rw [XI (hm b _ q λz=>z)]; exact q, λb u xs q=>by rw [XI (hm b _ q λz=>z)]; exact q, λb ps q=>⟨#[], by rw [XI (hm b _ q λz=>z), q]; simp⟩⟩
  by_cases hbe : b = e
  . subst hbe; exact heo
  . exact ⟨u, k b u hbe q⟩
theorem Un.mono (u : Un fs ex H H1 h h1) (hs : ∀ b ∈ fs, b ∈ fs') (hx : ∀ b ∈ ex, b ∈ ex') : Un fs' ex' H H1 h h1:=
  ⟨λb ob q n hb he=>u.keep b ob q n (λz=>hb (hs b z)) λz=>he (hx b z), λ_ _ q n _ he=>u.any q n λz=>he (hx _ z), λb ob q n he=>u.free b ob q n λz=>he (hx b z), λb ob q he=>u.there b ob q λz=>he (hx b z), u.tups, u.frzs, u.tbls⟩
end
def trk (h : Heap) (H : Hp) : List Addr:=(List.range h.objs.size).filter λa=>(H a).isSome
def Bo (h : Heap) (H : Hp) : Heap:=PySem.W.hideAll h (trk h H)
theorem CL (h : Heap) (H : Hp) : (Bo h H).objs.size = h.objs.size:=PySem.W.hideAll_size _ _
theorem GT {h : Heap} {H : Hp} {b : Addr} {o : Obj} (e : h.get? b = some o) (n : H b = none) : (Bo h H).get? b = some o:=
  PySem.W.hideAll_get _ e λhm=>by
    have q : (H b).isSome = true:=(List.mem_filter.mp hm).2
    rw [n] at q; simp at q
theorem Bh {h : Heap} {H : Hp} {b : Addr} {o : Obj} (e : (Bo h H).get? b = some o) : h.get? b = some o /\ H b = none:=by
  have e' : h.get? b = some o:=PySem.W.of_hideAll (trk h H) e
  refine ⟨e', ?_⟩
  cases q : H b with
  | none=>rfl
  | some x=>
    have hm : b ∈ trk h H:=List.mem_filter.mpr ⟨List.mem_range.mpr (Heap.lt_size e'), by simp [q]⟩
    have z : (Bo h H).get? b = none:=PySem.W.hideAll_none (trk h H) hm
    rw [z] at e; cases e
def Ih (g h : Heap) (L : Addr) : List (Addr × Obj):=(List.range h.objs.size).filterMap λa=>if a = L ∨ (g.get? a).isSome = true then none else (h.get? a).map λo=>(a, o)
def Zk (g h : Heap) (L d : Addr) : List (Addr × Obj):=(Ih g h L).filter λp=>decide (p.1 ≠ d)
structure Mod (K : Fgg) (mg : Str -> Option Value) (base : Heap) : Prop where
  kin : K.In base
  glob : base.Ns mainGlobals mg
  blt : ∃ mb, base.Ns builtinsNs mb /\ ∀ x : Str, x ≠ "__name__" -> mb x = bootBuiltins x
  nolimit : base.NoLimit
structure Cx where
  prog : Program
  w : World
  K : Fgg
  mg : Str -> Option Value
  base : Heap
  A : Around
  N : List Str
  s₀ : Shared
  H₀ : Hp
  env : Env
  outer : List Env
  stack : List Env
  ex : List Addr
  fn : Str -> Bool
  calm : Bool
  pn : List (Addr × Obj)
  xe : Value -> Shared -> Prop
def frs (l : List Env) : List Addr:=l.filterMap (·.frame)
abbrev Cx.fs (X : Cx) : List Addr:=frs X.outer
def Vis (sc : Scope) (x : Str) : Prop:=sc.names.lookup x = some .local ∨ sc.names.lookup x = some .cell ∨ sc.names.lookup x = some .free
def Loc (sc : Scope) (x : Str) : Prop:=sc.names.lookup x = some .local ∨ sc.names.lookup x = some .cell
def NK (env : Env) (h : Heap) (m : Str -> Option Value) (x : Str) (u : Value) : Prop:=
  (env.kindOf x = some .local /\ m x = some u) ∨ ((env.kindOf x = some .cell ∨ env.kindOf x = some .free) /\ ∃ c, env.cells.lookup x = some c /\ h.IsCell c (some u))
structure Cx.Ok (X : Cx) : Prop where
  mod : Mod X.K X.mg X.base
  kind : X.env.scope.kind = .function
  glob : X.env.globals = mainGlobals
  blt : X.env.builtins = builtinsNs
  above : X.s₀.heap.objs.size <= X.env.locals
  inj : ∀ x y c, X.env.cells.lookup x = some c -> X.env.cells.lookup y = some c -> x = y
  has : ∀ x, (X.env.kindOf x = some .cell ∨ X.env.kindOf x = some .free) -> ∃ c, X.env.cells.lookup x = some c
  cab : ∀ x c, X.fn x = true -> X.env.cells.lookup x = some c -> X.s₀.heap.objs.size <= c
  hd : X.calm = true -> X.A.handled = none
  frames : X.A.frames = some X.stack
  stk : X.stack = X.outer ∨ (X.stack = X.env :: X.outer /\ X.env.frame = some X.env.locals)
  exf : ∀ b ∈ X.ex, b ≠ X.env.locals /\ ∀ x c, X.env.cells.lookup x = some c -> c ≠ b
  bs : ∀ b o, X.base.get? b = some o -> X.s₀.heap.get? b = some o /\ X.H₀ b = none
  bsz : X.base.objs.size <= X.s₀.heap.objs.size
  noex : ∀ b o, X.base.get? b = some o -> b ∉ X.ex
  exfs : ∀ b ∈ X.ex, b ∉ X.fs
  funs : X.s₀.heap.FunFrames X.base X.outer
  frf : ∀ b ∈ X.fs, X.H₀ b = none
structure Inv (X : Cx) (pins : List (Addr × Obj)) (σ : List (Option V)) (H : Hp) (s : Shared) : Prop where
  ok : X.Ok
  os : s.os = X.s₀.os
  bare : AllBare s.gens
  base : Un X.fs X.ex X.H₀ H X.s₀.heap s.heap
  loc : ∃ m, s.heap.Ns X.env.locals m /\ ∀ (i : Nat) (x : Str) (v : V), X.N[i]? = some x -> σ[i]? = some (some v) -> Vis X.env.scope x -> ∃ u, X7 v u /\ NK X.env s.heap m x u
  cell : ∀ x c, X.env.cells.lookup x = some c -> ∃ v, s.heap.IsCell c v
  free : H X.env.locals = none
  freeC : ∀ x c, X.env.cells.lookup x = some c -> H c = none
  pin : ∀ p ∈ X.pn ++ pins, s.heap.get? p.1 = some p.2 /\ H p.1 = none /\ p.1 ≠ X.env.locals /\ p.1 ∉ X.fs /\ ∀ v, p.2.data ≠ .cell v
  hok : HOk X.prog X.w H s.heap
  len : σ.length = X.N.length
section
variable {X : Cx} {pins : List (Addr × Obj)} {σ : List (Option V)} {H H' : Hp} {s : Shared} {h' : Heap}
theorem Cx.Ok.nofr (ok : X.Ok) {b : Addr} {o : Obj} (e : X.base.get? b = some o) : b ∉ X.fs:=λhb=>by
  have:=(ok.funs.mem hb).1
  rw [e] at this; cases this
theorem Inv.bs (I : Inv X pins σ H s) : ∀ b o, X.base.get? b = some o -> s.heap.get? b = some o /\ H b = none:=λb o e=>
  ⟨I.base.keep b o (I.ok.bs b o e).1 (I.ok.bs b o e).2 (I.ok.nofr e) (I.ok.noex b o e), I.base.free b o (I.ok.bs b o e).1 (I.ok.bs b o e).2 (I.ok.noex b o e)⟩
theorem Inv.bk (I : Inv X pins σ H s) : ∀ b o, X.base.get? b = some o -> s.heap.get? b = some o:=λb o e=>(I.bs b o e).1
theorem Inv.mod (I : Inv X pins σ H s) : Mod X.K X.mg X.base:=I.ok.mod
theorem Inv.kIn (I : Inv X pins σ H s) : X.K.In s.heap:=I.ok.mod.kin.keeps I.bk
theorem Inv.lt (I : Inv X pins σ H s) : X.env.locals < s.heap.objs.size:=let ⟨_, hn, _⟩:=I.loc; hn.lt
theorem Inv.sz (I : Inv X pins σ H s) : X.s₀.heap.objs.size <= s.heap.objs.size:=Nat.le_trans I.ok.above (Nat.le_of_lt I.lt)
theorem Inv.nofs (I : Inv X pins σ H s) {a : Addr} (h : s.heap.objs.size <= a) : a ∉ X.fs:=λhb=>by
  obtain ⟨_, o, ho, _⟩:=I.ok.funs.mem hb
  exact absurd (Nat.lt_of_lt_of_le (Heap.lt_size ho) (Nat.le_trans I.sz h)) (Nat.lt_irrefl _)
theorem Inv.cne (I : Inv X pins σ H s) : ∀ x c, X.env.cells.lookup x = some c -> c ≠ X.env.locals:=λx c e z=>by
  obtain ⟨v, o, ho, hd⟩:=I.cell x c e
  obtain ⟨m, ⟨o', es, ep, ho', hd', _⟩, _⟩:=I.loc
  rw [z, ho'] at ho; cases ho; rw [hd'] at hd; cases hd
theorem Inv.funs (I : Inv X pins σ H s) : s.heap.FunFrames X.base X.outer:=by
  have all : ∀ (l : List Env), (∀ b ∈ frs l, b ∈ X.fs) -> X.s₀.heap.FunFrames X.base l -> s.heap.FunFrames X.base l:=by
    intro l
    induction l with
    | nil=>intro _ _; trivial
    | cons env r ih=>
      intro hs hl
      obtain ⟨hk, ⟨L, o, hf, hn, ho, hd⟩, hr⟩:=hl
      have hL : L ∈ X.fs:=hs L (by unfold frs; rw [List.filterMap_cons, hf]; exact Zq)
      obtain ⟨sl, e⟩:=I.base.slot L o ho (I.ok.frf L hL) hL λz=>I.ok.exfs L z hL
      exact ⟨hk, ⟨L, _, hf, hn, e, hd⟩, ih (λb hb=>hs b (by unfold frs; rw [List.filterMap_cons, hf]; exact ZP _ hb)) hr⟩
  exact all X.outer (λ_ hb=>hb) I.ok.funs
theorem Inv.stack (I : Inv X pins σ H s) : s.heap.FunFrames X.base X.stack:=by
  rcases I.ok.stk with e | ⟨e, hf⟩
  . rw [e]; exact I.funs
  . rw [e]
    obtain ⟨m, hn, _⟩:=I.loc
    refine .cons (by rw [I.ok.kind]; decide) hf hn ?_ I.funs
    exact Heap.get?_none_of_le (Nat.le_trans I.ok.bsz I.ok.above)
theorem Inv.stkSub (I : Inv X pins σ H s) : ∀ b ∈ frs X.stack, b ∈ X.env.locals :: X.fs:=λb hb=>by
  rcases I.ok.stk with e | ⟨e, hf⟩
  . rw [e] at hb; exact ZP _ hb
  . rw [e] at hb
    unfold frs at hb
    rw [List.filterMap_cons, hf] at hb
    exact hb
theorem Inv.stkFree (I : Inv X pins σ H s) : ∀ b ∈ frs X.stack, H b = none:=λb hb=>by
  rcases List.mem_cons.mp (I.stkSub b hb) with e | hb
  . rw [e]; exact I.free
  . obtain ⟨_, o, ho, _⟩ := I.ok.funs.mem hb
    exact I.base.free b o ho (I.ok.frf b hb) λz=>I.ok.exfs b z hb
theorem Inv.step {g' : Array GenState} {t' : Nat} {d' : Drawn} {ch : List Addr} (I : Inv X pins σ H s)
    (hch : ∀ b ∈ ch, (b ∈ X.ex ∨ X.s₀.heap.objs.size <= b) /\ b ≠ X.env.locals /\ (∀ x c, X.env.cells.lookup x = some c -> c ≠ b) /\ ∀ p ∈ X.pn ++ pins, p.1 ≠ b)
    (keep : ∀ b o, b ≠ X.env.locals -> b ∉ X.fs -> b ∉ ch -> s.heap.get? b = some o -> H b = none -> h'.get? b = some o)
    (slot : ∀ b o, b ≠ X.env.locals -> b ∈ X.fs -> b ∉ ch -> s.heap.get? b = some o -> H b = none -> ∃ sl, h'.get? b = some { o with slots:=sl }) (free : ∀ b o, b ∉ ch -> s.heap.get? b = some o -> H b = none -> H' b = none)
    (there : ∀ b o, b ∉ ch -> s.heap.get? b = some o -> ∃ o', h'.get? b = some o')
    (tups : ∀ b xs, H b = some (.tup xs) -> H' b = some (.tup xs)) (frzs : ∀ b o u, H b = some (.frz o u) -> H' b = some (.frz o u)) (tbls : ∀ b ps, H b = some (.tbl ps) -> ∃ more, H' b = some (.tbl (ps ++ more)))
    (ns : ∀ m, s.heap.Ns X.env.locals m -> h'.Ns X.env.locals m) (hok : HOk X.prog X.w H' h') (hg : AllBare g') :
    Inv X pins σ H' { s with heap:=h', gens:=g', drawn:=d', toks:=t' }:=by
  have neL : ∀ b o, X.s₀.heap.get? b = some o -> b ≠ X.env.locals:=λb o e=>Nat.ne_of_lt (Nat.lt_of_lt_of_le (Heap.lt_size e) I.ok.above)
  have neC : ∀ b o, X.s₀.heap.get? b = some o -> b ∉ X.ex -> b ∉ ch:=λb o e hx hb=>by
    rcases (hch b hb).1 with z | z
    . exact hx z
    . exact absurd (Nat.lt_of_lt_of_le (Heap.lt_size e) z) (Nat.lt_irrefl _)
  have cellK : ∀ x c, X.env.cells.lookup x = some c -> ∀ v, s.heap.IsCell c v -> h'.IsCell c v:=λx c e v ⟨o, ho, hd⟩=>by
    have nch : c ∉ ch:=λz=>(hch c z).2.2.1 x c e rfl
    by_cases hc : c ∈ X.fs
    . obtain ⟨sl, q⟩ := slot c o (I.cne x c e) hc nch ho (I.freeC x c e)
      exact ⟨_, q, hd⟩
    . exact ⟨o, keep c o (I.cne x c e) hc nch ho (I.freeC x c e), hd⟩
  refine ⟨I.ok, I.os, hg, ⟨λb o e n hb hx=>?_, λb o e n hb hx=>?_, λb o e n hx=>?_, λb o e hx=>?_, λb xs e=>tups b xs (I.base.tups b xs e), λb o xs e=>frzs b o xs (I.base.frzs b o xs e), λb ps e=>?_⟩, ?_, λx c e=>?_, ?_, λx c e=>?_, λp hp=>?_, hok, I.len⟩
  . exact keep b o (neL b o e) hb (neC b o e hx) (I.base.keep b o e n hb hx) (I.base.free b o e n hx)
  . obtain ⟨sl, e1⟩ := I.base.slot b o e n hb hx
    obtain ⟨sl', e2⟩:=slot b _ (neL b o e) hb (neC b o e hx) e1 (I.base.free b o e n hx)
    exact ⟨sl', e2⟩
  . obtain ⟨o', e1⟩ := I.base.there b o e hx
    exact free b o' (neC b o e hx) e1 (I.base.free b o e n hx)
  . obtain ⟨o', e1⟩ := I.base.there b o e hx
    exact there b o' (neC b o e hx) e1
  . obtain ⟨m1, e1⟩ := I.base.tbls b ps e
    obtain ⟨m2, e2⟩:=tbls b _ e1
    exact ⟨m1 ++ m2, by rw [e2, Array.append_assoc]⟩
  . obtain ⟨m, hn, hl⟩ := I.loc
    refine ⟨m, ns m hn, λi x v e1 e2 e3=>?_⟩
    obtain ⟨u, r, l⟩:=hl i x v e1 e2 e3
    refine ⟨u, r, ?_⟩
    rcases l with l | ⟨k, c, e, z⟩
    . exact .inl l
    . exact .inr ⟨k, c, e, cellK x c e _ z⟩
  . obtain ⟨v, z⟩ := I.cell x c e
    exact ⟨v, cellK x c e v z⟩
  . obtain ⟨m, ⟨o, _, _, ho, _⟩, _⟩ := I.loc
    exact free _ o (λz=>(hch _ z).2.1 rfl) ho I.free
  . obtain ⟨v, o, ho, hd⟩ := I.cell x c e
    exact free c o (λz=>(hch c z).2.2.1 x c e rfl) ho (I.freeC x c e)
  . obtain ⟨e, n, ne, nf, d⟩ := I.pin p hp
    have nch : p.1 ∉ ch:=λz=>(hch p.1 z).2.2.2 p hp rfl
    exact ⟨keep p.1 p.2 ne nf nch e n, free p.1 p.2 nch e n, ne, nf, d⟩
theorem Inv.un {t' : Nat} (I : Inv X pins σ H s) (u : Un X.fs [] H H' s.heap h') (hok : HOk X.prog X.w H' h') : Inv X pins σ H' { s with heap:=h', toks:=t' }:=by
  obtain ⟨m, ⟨o, es, ep, ho, r⟩, _⟩:=id I.loc
  obtain ⟨sl, hL⟩:=u.any ho I.free (by simp)
  exact I.step (g':=s.gens) (d':=s.drawn) (ch:=[]) (λ_ z=>nomatch z) (λb o _ hb _ e n=>u.keep b o e n hb (by simp)) (λb o _ hb _ e n=>u.slot b o e n hb (by simp)) (λb o _ e n=>u.free b o e n (by simp)) (λb o _ e=>u.there b o e (by simp)) u.tups u.frzs u.tbls (λm' hm=>by
    obtain ⟨o', es', ep', ho', r'⟩:=hm
    rw [ho] at ho'; cases ho'
    exact ⟨_, es', ep', hL, r'⟩) hok I.bare
theorem Inv.call {g' : Array GenState} {t' : Nat} {d' : Drawn} {ch : List Addr} (I : Inv X pins σ H s) (u : Un (frs X.stack) ch H H' s.heap h') (hok : HOk X.prog X.w H' h') (hg : AllBare g')
    (hch : ∀ b ∈ ch, (b ∈ X.ex ∨ X.s₀.heap.objs.size <= b) /\ b ≠ X.env.locals /\ (∀ x c, X.env.cells.lookup x = some c -> c ≠ b) /\ ∀ p ∈ X.pn ++ pins, p.1 ≠ b) :
    Inv X pins σ H' { s with heap:=h', gens:=g', drawn:=d', toks:=t' }:=by
  obtain ⟨m, ⟨o, es, ep, ho, r⟩, _⟩:=id I.loc
  obtain ⟨sl, hL⟩:=u.any ho I.free λz=>(hch _ z).2.1 rfl
  exact I.step (ch:=ch) hch (λb o hL hb hc e n=>u.keep b o e n (λz=>(List.mem_cons.mp (I.stkSub b z)).elim hL hb) hc) (λb o _ _ hc e n=>u.any e n hc) (λb o hc e n=>u.free b o e n hc) (λb o hc e=>u.there b o e hc) u.tups u.frzs u.tbls (λm' hm=>by
    obtain ⟨o', es', ep', ho', r'⟩:=hm
    rw [ho] at ho'; cases ho'
    exact ⟨_, es', ep', hL, r'⟩) hok hg
theorem Inv.turned {t' : Nat} {it : Addr} (I : Inv X pins σ H s) (k : ∀ b o, b ≠ it -> s.heap.get? b = some o -> h'.get? b = some o) (hn : H it = none) (hL : it ≠ X.env.locals)
    (h1 : it ∈ X.ex ∨ X.s₀.heap.objs.size <= it) (h2 : ∀ x c, X.env.cells.lookup x = some c -> c ≠ it) (h3 : ∀ p ∈ X.pn ++ pins, p.1 ≠ it) : Inv X pins σ H { s with heap:=h', toks:=t' }:=by
  have nit : ∀ b u, H b = some u -> b ≠ it:=λb u e z=>by rw [z, hn] at e; cases e
  refine I.step (g':=s.gens) (d':=s.drawn) (ch:=[it]) (λb hb=>?_) (λb o _ _ hc e _=>k b o (λz=>hc (by simp [z])) e) (λb o _ _ hc e _=>⟨o.slots, k b o (λz=>hc (by simp [z])) e⟩) (λ_ _ _ _ n=>n)
    (λb o hc e=>⟨o, k b o (λz=>hc (by simp [z])) e⟩) (λ_ _ e=>e) (λ_ _ _ e=>e) (λb ps e=>⟨#[], by rw [e]; simp⟩) (λm hm=>?_) (λb u e=>?_) I.bare
  . have e : b = it := by simpa using hb
    subst e
    exact ⟨h1, hL, h2, h3⟩
  . obtain ⟨o, es, ep, ho, r⟩ := hm
    exact ⟨o, es, ep, k _ o (Ne.symm hL) ho, r⟩
  . refine (I.hok b u e).stay (λc v hc q => k c v ?_ q) (λ_ q => q) λ_ _ q => q
    rcases hc with z | z
    . rw [z]; exact nit b u e
    . exact nit c _ z
theorem Inv.tok (I : Inv X pins σ H s) (t : Nat) : Inv X pins σ H { s with toks:=t }:=I.un (h':=s.heap) (t':=t) Un.refl I.hok
theorem Inv.kept {t' : Nat} (I : Inv X pins σ H s) (k : ∀ b u, s.heap.get? b = some u -> h'.get? b = some u) : Inv X pins σ H { s with heap:=h', toks:=t' }:=I.un (Un.kept k) (I.hok.kept k)
theorem Inv.laid {a : Addr} {o : HO} {t' : Nat} (I : Inv X pins σ H s) (k : ∀ b u, s.heap.get? b = some u -> h'.get? b = some u) (hp : s.heap.objs.size <= a) (new : Zd X.prog X.w (upd H a o) h' a o) :
    Inv X pins σ (upd H a o) { s with heap:=h', toks:=t' }:=I.un (Un.laid k hp (I.hok.fresh hp)) (I.hok.laid k hp new)
theorem Inv.write {x e : Addr} {o : HO} {t' : Nat} (I : Inv X pins σ H s) (mu : Mut (H x)) (he : e = x ∨ H e = some (.own x)) (k : ∀ b u, b ≠ e -> s.heap.get? b = some u -> h'.get? b = some u) (heo : ∃ u, h'.get? e = some u)
    (new : Zd X.prog X.w (upd H x o) h' x o) : Inv X pins σ (upd H x o) { s with heap:=h', toks:=t' }:=I.un (Un.write mu he k heo) (I.hok.write mu he k heo new)
theorem Inv.weak {σ' : List (Option V)} (I : Inv X pins σ H s) (hl : σ'.length = σ.length) (w : ∀ (i : Nat) v, σ'[i]? = some (some v) -> σ[i]? = some (some v)) : Inv X pins σ' H s:=
  ⟨I.ok, I.os, I.bare, I.base, let ⟨m, hn, hl'⟩:=I.loc; ⟨m, hn, λi x v e1 e2 e3=>hl' i x v e1 (w i v e2) e3⟩, I.cell, I.free, I.freeC, I.pin, I.hok, hl.trans I.len⟩
theorem Inv.pins_of {pins' : List (Addr × Obj)} (I : Inv X pins σ H s) (h : ∀ p ∈ pins', s.heap.get? p.1 = some p.2 /\ H p.1 = none /\ p.1 ≠ X.env.locals /\ p.1 ∉ X.fs /\ ∀ v, p.2.data ≠ .cell v) : Inv X pins' σ H s:=
  ⟨I.ok, I.os, I.bare, I.base, I.loc, I.cell, I.free, I.freeC, λp hp=>(List.mem_append.mp hp).elim (λz=>I.pin p (List.mem_append_left _ z)) (h p), I.hok, I.len⟩
theorem GM {N : List Str} (hN : N.Nodup) {i j : Nat} {x : Str} (a : N[i]? = some x) (b : N[j]? = some x) : i = j:=by
  obtain ⟨h1, e1⟩:=List.getElem?_eq_some_iff.mp a
  obtain ⟨h2, e2⟩:=List.getElem?_eq_some_iff.mp b
  exact (List.getElem_inj hN).mp (e1.trans e2.symm)
theorem UY {M : Model} {A : Around} {E : Value -> Shared -> Prop} {i : Nat} {x : Str} {v : V} {u : Value} {Q : Unit -> Shared -> Prop} (I : Inv X pins σ H s) (hN : X.N.Nodup) (hi : X.N[i]? = some x) (hx : Loc X.env.scope x) (r : X7 v u)
    (h : ∀ s', Inv X pins (σ.set i (some v)) H s' -> (∃ a, Heap.SameBut a s.heap s'.heap /\ (a = X.env.locals ∨ X.env.cells.lookup x = some a)) -> Q () s') (hf : X.fn x = true ∨ X.env.scope.names.lookup x = some .local:=by first | exact .inl rfl | exact .inr rfl | assumption) : wpAny M A (storeName X.env x u) Q E s:=by
  obtain ⟨m, hn, hl⟩:=id I.loc
  have hcls : (X.env.scope.kind == .class || (X.env.scope.kind == .module && X.env.locals != X.env.globals)) = false:=by rw [I.ok.kind]; rfl
  have hiσ : i < σ.length:=by rw [I.len]; exact (List.getElem?_eq_some_iff.mp hi).1
  have cne:=I.cne
  have tracked : ∀ {a : Addr} {h' : Heap}, (∃ o, s.heap.get? a = some o /\ H a = none) -> Heap.SameBut a s.heap h' -> HOk X.prog X.w H h':=fun {a h'} ha hs b ob e=>by
    obtain ⟨_, _, hfree⟩:=ha
    refine (I.hok b ob e).stay (λc w' hc q=>(hs.2 c ?_).trans q) (λ_ q=>q) λ_ _ q=>q
    rintro rfl
    rcases hc with rfl | hc
    . rw [hfree] at e; cases e
    . rw [hfree] at hc; cases hc
  rcases hx with hk | hk
  . refine wpAny_storeName_local hk hn (λh' hn' hs => ?_) hcls
    obtain ⟨oL, _, _, hoL, _⟩:=id hn
    refine h _ ⟨I.ok, I.os, I.bare, ⟨λb o e n hb hx=>?_, λb o e n hb hx=>?_, I.base.free, λb o e hx=>?_, I.base.tups, I.base.frzs, I.base.tbls⟩, ⟨_, hn', λj y v' e1 e2 e3=>?_⟩, λy c e=>?_, I.free, I.freeC, λp hp=>?_, tracked ⟨oL, hoL, I.free⟩ hs, by simpa using I.len⟩ ⟨_, hs, .inl rfl⟩
    . exact (hs.2 b (Nat.ne_of_lt (Nat.lt_of_lt_of_le (Heap.lt_size e) I.ok.above))).trans (I.base.keep b o e n hb hx)
    . obtain ⟨sl, e1⟩ := I.base.slot b o e n hb hx
      exact ⟨sl, (hs.2 b (Nat.ne_of_lt (Nat.lt_of_lt_of_le (Heap.lt_size e) I.ok.above))).trans e1⟩
    . obtain ⟨o', e1⟩ := I.base.there b o e hx
      exact ⟨o', (hs.2 b (Nat.ne_of_lt (Nat.lt_of_lt_of_le (Heap.lt_size e) I.ok.above))).trans e1⟩
    . by_cases hj : j = i
      . subst hj
        rw [hi] at e1; cases e1
        rw [List.getElem?_set_self hiσ] at e2
        cases e2
        exact ⟨u, r, .inl ⟨hk, by simp⟩⟩
      . rw [List.getElem?_set_ne (Ne.symm hj)] at e2
        obtain ⟨u', r', q⟩:=hl j y v' e1 e2 e3
        refine ⟨u', r', ?_⟩
        rcases q with ⟨k, e⟩ | ⟨k, c, e, z⟩
        . refine .inl ⟨k, ?_⟩
          have : y ≠ x:=λe=>hj (GM hN e1 (e ▸ hi))
          simp [this, e]
        . exact .inr ⟨k, c, e, z.sameBut hs (cne y c e)⟩
    . obtain ⟨w', z⟩ := I.cell y c e
      exact ⟨w', z.sameBut hs (cne y c e)⟩
    . obtain ⟨e, n, ne, nf, d⟩ := I.pin p hp
      exact ⟨(hs.2 p.1 ne).trans e, n, ne, nf, d⟩
  . have hfn : X.fn x = true:=by
      rcases hf with z | z
      . exact z
      . rw [z] at hk; cases hk
    obtain ⟨c, hc⟩:=I.ok.has x (.inl hk)
    obtain ⟨w', z⟩:=I.cell x c hc
    refine wpAny_storeName_cell I.ok.kind hk hc z (λh' hc' hs=>?_)
    obtain ⟨oc, hoc, hocd⟩:=id z
    refine h { s with heap:=h' } ⟨I.ok, I.os, I.bare, ⟨λb o e n hb hx=>?_, λb o e n hb hx=>?_, I.base.free, λb o e hx=>?_, I.base.tups, I.base.frzs, I.base.tbls⟩, ⟨m, hn.sameBut hs (Ne.symm (cne x c hc)), λj y v' e1 e2 e3=>?_⟩, λy c' e=>?_, I.free, I.freeC, λp hp=>?_, tracked ⟨oc, hoc, I.freeC x c hc⟩ hs, by simpa using I.len⟩ ⟨c, hs, .inr hc⟩
    . exact (hs.2 b (Nat.ne_of_lt (Nat.lt_of_lt_of_le (Heap.lt_size e) (I.ok.cab x c hfn hc)))).trans (I.base.keep b o e n hb hx)
    . obtain ⟨sl, e1⟩ := I.base.slot b o e n hb hx
      exact ⟨sl, (hs.2 b (Nat.ne_of_lt (Nat.lt_of_lt_of_le (Heap.lt_size e) (I.ok.cab x c hfn hc)))).trans e1⟩
    . obtain ⟨o', e1⟩ := I.base.there b o e hx
      exact ⟨o', (hs.2 b (Nat.ne_of_lt (Nat.lt_of_lt_of_le (Heap.lt_size e) (I.ok.cab x c hfn hc)))).trans e1⟩
    . by_cases hj : j = i
      . subst hj
        rw [hi] at e1; cases e1
        rw [List.getElem?_set_self hiσ] at e2
        cases e2
        exact ⟨u, r, .inr ⟨.inl hk, c, hc, hc'⟩⟩
      . rw [List.getElem?_set_ne (Ne.symm hj)] at e2
        obtain ⟨u', r', q⟩:=hl j y v' e1 e2 e3
        refine ⟨u', r', ?_⟩
        rcases q with q | ⟨k, c', e, z'⟩
        . exact .inl q
        . refine .inr ⟨k, c', e, z'.sameBut hs ?_⟩
          rintro rfl
          exact hj (GM hN e1 (I.ok.inj _ _ _ e hc ▸ hi))
    . by_cases hcc : c' = c
      . subst hcc; exact ⟨_, hc'⟩
      . obtain ⟨w2, z2⟩ := I.cell y c' e
        exact ⟨w2, z2.sameBut hs hcc⟩
    . obtain ⟨e, n, ne, nf, d⟩ := I.pin p hp
      refine ⟨(hs.2 p.1 ?_).trans e, n, ne, nf, d⟩
      intro q
      rw [q, hoc] at e
      have q' : oc = p.2:=Option.some.inj e
      exact d w' (by rw [← q']; exact hocd)
theorem QY {M : Model} {A : Around} {E : Value -> Shared -> Prop} {i : Nat} {x : Str} {v : V} {u : Value} {Q : Unit -> Shared -> Prop} (I : Inv X pins σ H s) (hN : X.N.Nodup) (hi : X.N[i]? = some x) (hx : Loc X.env.scope x) (r : X7 v u)
    (h : ∀ s', Inv X pins (σ.set i (some v)) H s' -> Q () s') (hf : X.fn x = true ∨ X.env.scope.names.lookup x = some .local:=by first | exact .inl rfl | exact .inr rfl | assumption) : wpAny M A (storeName X.env x u) Q E s:=
  UY I hN hi hx r (λs' I' _=>h s' I') hf
theorem Inv.call' {s' : Shared} {ch : List Addr} (I : Inv X pins σ H s) (ho : s'.os = s.os) (u : Un (frs X.stack) ch H H' s.heap s'.heap) (hok : HOk X.prog X.w H' s'.heap) (hg : AllBare s'.gens)
    (hch : ∀ b ∈ ch, (b ∈ X.ex ∨ X.s₀.heap.objs.size <= b) /\ b ≠ X.env.locals /\ (∀ x c, X.env.cells.lookup x = some c -> c ≠ b) /\ ∀ p ∈ X.pn ++ pins, p.1 ≠ b) : Inv X pins σ H' s':=by
  obtain ⟨h', g', d', t', o'⟩:=s'
  have e : o' = s.os:=ho
  subst e
  exact I.call (g':=g') (t':=t') (d':=d') u hok hg hch
end
abbrev XK:=Value -> Option Addr -> Hp -> Prop
abbrev St:=List (Option V)
abbrev VK:=V -> Hp -> Prop
abbrev TE:=St -> Hp -> VK -> Prop
abbrev TT:=St -> Hp -> (Bool -> Hp -> Prop) -> Prop
abbrev TA:=St -> Hp -> (List V -> Hp -> Prop) -> Prop
structure Ends where
  nx : St -> Hp -> Prop
  rt : VK
  bk : St -> Hp -> Prop:=λ_ _=>False
  ct : St -> Hp -> Prop:=λ_ _=>False
abbrev TS:=Ends -> St -> Hp -> Prop
def EP (X : Cx) (pins : List (Addr × Obj)) (σ : St) (Q : VK) (u : Value) (s' : Shared) : Prop:=∃ v H', Inv X pins σ H' s' /\ X7 v u /\ Q v H'
def TP (X : Cx) (pins : List (Addr × Obj)) (σ : St) (Q : Bool -> Hp -> Prop) (b : Bool) (s' : Shared) : Prop:=∃ H', Inv X pins σ H' s' /\ Q b H'
def AP (X : Cx) (pins : List (Addr × Obj)) (σ : St) (Q : List V -> Hp -> Prop) (us : List Value) (s' : Shared) : Prop:=∃ vs H', Inv X pins σ H' s' /\ X5 vs us /\ Q vs H'
def SP (X : Cx) (pins : List (Addr × Obj)) (D : Ends) (f : Flow) (s' : Shared) : Prop:=
  match f with
  | .next=>∃ σ' H', Inv X pins σ' H' s' /\ D.nx σ' H'
  | .brk=>∃ σ' H', Inv X pins σ' H' s' /\ D.bk σ' H'
  | .cont=>∃ σ' H', Inv X pins σ' H' s' /\ D.ct σ' H'
  | .ret u=>∃ v σ' H', Inv X pins σ' H' s' /\ X7 v u /\ D.rt v H'
def PE (X : Cx) (e : Expr) (t : TE) : Prop:=
  ∀ (pins : List (Addr × Obj)) (s : Shared) (σ : St) (H : Hp) (Q : VK), Inv X pins σ H s -> t σ H Q -> wpAny (model X.prog X.w) X.A (eval e X.env) (EP X pins σ Q) X.xe s
def PT (X : Cx) (e : Expr) (t : TT) : Prop:=
  ∀ (pins : List (Addr × Obj)) (s : Shared) (σ : St) (H : Hp) (Q : Bool -> Hp -> Prop), Inv X pins σ H s -> t σ H Q -> wpAny (model X.prog X.w) X.A (isTrue e X.env (eval e X.env)) (TP X pins σ Q) X.xe s
def PW (X : Cx) (e : Expr) (t : TT) : Prop:=
  ∀ (whole : Sem Value) (pins : List (Addr × Obj)) (s : Shared) (σ : St) (H : Hp) (Q : Bool -> Hp -> Prop), Inv X pins σ H s -> t σ H Q -> wpAny (model X.prog X.w) X.A (isTrue e X.env whole) (TP X pins σ Q) X.xe s
theorem PW.pt {X : Cx} {e : Expr} {t : TT} (h : PW X e t) : PT X e t:=h _
def PA (X : Cx) (es : List Expr) (t : TA) : Prop:=
  ∀ (pos : Pos) (pins : List (Addr × Obj)) (s : Shared) (σ : St) (H : Hp) (Q : List V -> Hp -> Prop), Inv X pins σ H s -> t σ H Q -> wpAny (model X.prog X.w) X.A (spliced (backTo pos (starEach es X.env))) (AP X pins σ Q) X.xe s
def PS (X : Cx) (st : Stmt) (t : TS) : Prop:=
  ∀ (pins : List (Addr × Obj)) (s : Shared) (σ : St) (H : Hp) (D : Ends), Inv X pins σ H s -> t D σ H -> wpAny (model X.prog X.w) X.A (exec st X.env) (SP X pins D) X.xe s
def PSs (X : Cx) (st : List Stmt) (t : TS) : Prop:=
  ∀ (pins : List (Addr × Obj)) (s : Shared) (σ : St) (H : Hp) (D : Ends), Inv X pins σ H s -> t D σ H -> wpAny (model X.prog X.w) X.A (execs st X.env) (SP X pins D) X.xe s
theorem thn {α : Type} {t : Sem α} {Q Q' : α -> Shared -> Prop} {M : Model} {A : Around} {E : Value -> Shared -> Prop} {s : Shared} (h : wpAny M A t Q E s) (hQ : ∀ a s, Q a s -> Q' a s) : wpAny M A t Q' E s:=wpAny_mono h hQ λ_ _ x=>x
section
variable {X : Cx}
def UX (i : Nat) : TE:=λσ H Q=>∃ v, σ[i]? = some (some v) /\ Q v H
def tC (v : V) : TE:=λ_ H Q=>Q v H
theorem Ld {i : Nat} {x : Str} {pos : Pos} (hN : X.N[i]? = some x) (hv : Vis X.env.scope x) (hd : (x == ("__debug__" : Str)) = false:=by decide) (hcd : (x == ("__classdict__" : Str)) = false:=by decide) : PE X (.Name x pos) (UX i):=by
  intro pins s σ H Q I h
  obtain ⟨v, e, h⟩:=h
  obtain ⟨m, hn, hl⟩:=I.loc
  obtain ⟨u, r, l⟩:=hl i x v hN e hv
  have fin : EP X pins σ Q u s:=⟨v, H, I, r, h⟩
  rcases l with ⟨hk, hm⟩ | ⟨hk, c, hc, hcell⟩
  . exact wpAny_Name (wpAny_loadName_local I.ok.kind hk hn hm fin) hd
  . rcases hk with hk | hk
    . exact wpAny_Name (wpAny_loadName_cell I.ok.kind hk hc hcell fin) hd
    . exact wpAny_Name (wpAny_loadName_free I.ok.kind hk hc hcell fin hcd) hd
theorem Xh {i j pos} : PE X (.Constant (.int i) j pos) (tC (.int i)):=λ_ _ _ H _ I h=>wpAny_Constant_int ⟨.int i, H, I.tok _, ⟨_, rfl⟩, h⟩
theorem KU {b j pos} : PE X (.Constant (.bool b) j pos) (tC (.bl b)):=λ_ _ _ H _ I h=>Constant_bool ⟨.bl b, H, I, rfl, h⟩
theorem Zj {j pos} : PE X (.Constant .none j pos) (tC .non):=λ_ _ _ H _ I h=>Constant_none ⟨.non, H, I, rfl, h⟩
theorem Lh {x j pos} : PE X (.Constant (.str x) j pos) (tC (.str x)):=λ_ _ _ H _ I h=>Calls.Constant_str ⟨.str x, H, I.tok _, ⟨_, rfl⟩, h⟩
def Gl (X : Cx) (x : Str) : Prop:=X.env.kindOf x = some .globalImplicit
theorem Uz {E : Value -> Shared -> Prop} {pins : List (Addr × Obj)} {s : Shared} {σ : St} {H : Hp} {x : Str} {u : Value} {pos : Pos} {Q : Value -> Shared -> Prop} (I : Inv X pins σ H s) (hg : Gl X x) (hm : X.mg x = some u) (h : Q u s)
    (hd : (x == ("__debug__" : Str)) = false:=by decide) : wpAny (model X.prog X.w) X.A (eval (.Name x pos) X.env) Q E s:=
  Calls.Name_function_global I.ok.kind hg (Calls.loadGlobal_global (by rw [I.ok.glob]; exact I.mod.glob.keeps I.bk) hm h) hd
theorem Jm {E : Value -> Shared -> Prop} {pins : List (Addr × Obj)} {s : Shared} {σ : St} {H : Hp} {x : Str} {u : Value} {pos : Pos} {Q : Value -> Shared -> Prop} (I : Inv X pins σ H s) (hg : Gl X x) (hm : X.mg x = none) (hv : bootBuiltins x = some u) (h : Q u s)
    (hn : x ≠ "__name__":=by decide) (hd : (x == ("__debug__" : Str)) = false:=by decide) : wpAny (model X.prog X.w) X.A (eval (.Name x pos) X.env) Q E s:=by
  obtain ⟨mb, h1, h2⟩:=I.mod.blt
  exact Calls.Name_function_global I.ok.kind hg (Calls.loadGlobal_builtin (by rw [I.ok.glob]; exact I.mod.glob.keeps I.bk) hm (by rw [I.ok.blt]; exact h1.keeps I.bk) ((h2 x hn).trans hv) h) hd
theorem K2 {x : Str} {v : V} {u : Value} {pos : Pos} (hg : Gl X x) (hm : X.mg x = some u) (r : X7 v u) (hd : (x == ("__debug__" : Str)) = false:=by decide) : PE X (.Name x pos) (tC v):=
  λ_ _ _ H _ I h=>Uz I hg hm ⟨v, H, I, r, h⟩ hd
theorem Ie {x : Str} {v : V} {u : Value} {pos : Pos} (hg : Gl X x) (hm : X.mg x = none) (hv : bootBuiltins x = some u) (r : X7 v u) (hn : x ≠ "__name__":=by decide) (hd : (x == ("__debug__" : Str)) = false:=by decide) : PE X (.Name x pos) (tC v):=
  λ_ _ _ H _ I h=>Jm I hg hm hv ⟨v, H, I, r, h⟩ hn hd
variable {a b : Expr} {ta tb : TE} {pos : Pos}
def PC (X : Cx) (op : CmpOp) (a b : Expr) (t : TE) : Prop:=
  ∀ (pins : List (Addr × Obj)) (s : Shared) (σ : St) (H : Hp) (Q : VK), Inv X pins σ H s -> t σ H Q ->
    wpAny (model X.prog X.w) X.A (eval a X.env) (λv s₁=>wpAny (model X.prog X.w) X.A (eval b X.env) (λu s₂=>wpAny (model X.prog X.w) X.A (compareOp op v u) (EP X pins σ Q) X.xe s₂) X.xe s₁) X.xe s
def tB (t : TE) : TT:=λσ H Q=>t σ H λx H1=>∃ c, x = .bl c /\ Q c H1
theorem LE {op : CmpOp} {t : TE} (h : PC X op a b t) (h1 : behindInMarks op b = false:=by first | exact nobehind _ (by decide) (by decide) | rfl) : PE X (.Compare a [op] [b] pos) t:=λpins s σ H Q I hw=>wpAny_Compare1 (h pins s σ H Q I hw) h1
theorem V8 {e : Expr} {t : TE} (h : PE X e t) (he : ∀ whole, isTrue e X.env whole = (do let v ← whole; standAt e.pos; holding [v] (truthy v)):=by intro _; rfl) : PT X e (tB t):=by
  intro pins s σ H Q I hw
  refine isTrue_plain (thn (h pins s σ H _ I hw) λv s1 r9=>?_) (he _)
  obtain ⟨x, H1, I1, r1, q1⟩:=r9
  obtain ⟨d, rfl, q⟩:=q1
  cases r1
  exact wpAny_truthy_bool ⟨H1, I1, q⟩
variable {tA tB' : TT} {Zk : List Expr}
def Nh (t u : TT) : TT:=λσ H Q=>t σ H λc H1=>if c = true then u σ H1 Q else Q false H1
def tOr (t u : TT) : TT:=λσ H Q=>t σ H λc H1=>if c = true then Q true H1 else u σ H1 Q
def Nr (t : TT) : TT:=λσ H Q=>t σ H λc H1=>Q (!c) H1
theorem JW (ha : PT X a tA) : PW X (.BoolOp .And [a] pos) tA:=by
  intro wh pins s σ H Q I h
  refine isTrue_and (thn (ha pins s σ H Q I h) λc s1 e=>?_)
  cases c with
  | true=>exact isTrue_and_nil e
  | false=>exact e
theorem DE (ha : PT X a tA) : PW X (.BoolOp .Or [a] pos) tA:=by
  intro wh pins s σ H Q I h
  refine isTrue_or (thn (ha pins s σ H Q I h) λc s1 e=>?_)
  cases c with
  | false=>exact isTrue_or_nil e
  | true=>exact e
theorem QE (ha : PT X a tA) (hb : PW X (.BoolOp .And (b :: Zk) pos) tB') : PW X (.BoolOp .And (a :: b :: Zk) pos) (Nh tA tB'):=by
  intro wh pins s σ H Q I h
  refine isTrue_and (thn (ha pins s σ H _ I h) λc s1 r9=>?_)
  obtain ⟨H1, I1, q1⟩:=r9
  cases c with
  | true=>exact hb wh pins s1 σ H1 Q I1 q1
  | false=>exact ⟨H1, I1, q1⟩
theorem HL (ha : PT X a tA) (hb : PW X (.BoolOp .Or (b :: Zk) pos) tB') : PW X (.BoolOp .Or (a :: b :: Zk) pos) (tOr tA tB'):=by
  intro wh pins s σ H Q I h
  refine isTrue_or (thn (ha pins s σ H _ I h) λc s1 r9=>?_)
  obtain ⟨H1, I1, q1⟩:=r9
  cases c with
  | true=>exact ⟨H1, I1, q1⟩
  | false=>exact hb wh pins s1 σ H1 Q I1 q1
theorem DR (ha : PT X a tA) : PT X (.UnaryOp .Not a pos) (Nr tA):=by
  intro pins s σ H Q I h
  exact isTrue_not (ha pins s σ H (λc H1=>Q (!c) H1) I h)
def LI (ta tb : TE) : TE:=λσ H Q=>ta σ H λx H1=>∃ c, x = .bl c /\ if c = true then tb σ H1 Q else Q (.bl false) H1
def LM (ta : TE) : TE:=λσ H Q=>ta σ H λx H1=>∃ c, x = .bl c /\ Q (.bl (!c)) H1
theorem G6 {op} {t : TE} (h : PE X a t) : PE X (.BoolOp op [a] pos) t:=λpins s σ H Q I hw=>BoolOp_one (h pins s σ H Q I hw)
theorem VS (ha : PE X a ta) (hb : PE X (.BoolOp .And (b :: Zk) pos) tb) : PE X (.BoolOp .And (a :: b :: Zk) pos) (LI ta tb):=by
  intro pins s σ H Q I h
  refine BoolOp_and (thn (ha pins s σ H _ I h) λv s1 r9=>?_)
  obtain ⟨x, H1, I1, r1, q1⟩:=r9
  obtain ⟨c, rfl, q1⟩:=q1
  cases r1
  refine wpAny_truthy_bool ?_
  cases c with
  | true=>exact hb pins s1 σ H1 Q I1 q1
  | false=>exact ⟨.bl false, H1, I1, rfl, q1⟩
theorem L9 (ha : PE X a ta) : PE X (.UnaryOp .Not a pos) (LM ta):=by
  intro pins s σ H Q I h
  refine UnaryOp_ (thn (ha pins s σ H _ I h) λv s1 r9=>?_)
  obtain ⟨x, H1, I1, r1, q1⟩:=r9
  obtain ⟨c, rfl, q1⟩:=q1
  cases r1
  exact not_of (wpAny_truthy_bool ⟨.bl (!c), H1, I1, rfl, q1⟩)
def tIf (t : TT) (ta tb : TE) : TE:=λσ H Q=>t σ H λc H1=>if c = true then ta σ H1 Q else tb σ H1 Q
theorem Ee {c : Expr} (hc : PT X c tA) (ha : PE X a ta) (hb : PE X b tb) : PE X (.IfExp c a b pos) (tIf tA ta tb):=by
  intro pins s σ H Q I h
  refine wpAny_IfExp (thn (hc pins s σ H _ I h) λd s1 r9=>?_)
  obtain ⟨H1, I1, q1⟩:=r9
  cases d with
  | true=>exact ha pins s1 σ H1 Q I1 q1
  | false=>exact hb pins s1 σ H1 Q I1 q1
end
def SqL (K : Fgg) (H : Hp) (a : Addr) (xs : List V) : Prop:=
  Rd H a (.lst xs) ∨
    ∃ (o : Obj) (its : Array Value) (n : Nat), K.lookup a = some o /\ o.cls = .type "list" /\ o.dict = none /\ o.data = .seq its n /\ its.size <= sizeLine /\ X5 xs its.toList
def SqT (K : Fgg) (H : Hp) (a : Addr) (xs : List V) : Prop:=
  Rd H a (.tup xs) ∨
    ∃ (o : Obj) (its : Array Value) (n : Nat), K.lookup a = some o /\ o.cls = .type "tuple" /\ o.data = .seq its n /\ its.size <= sizeLine /\ X5 xs its.toList
def NH : Value -> Option V
  | .none=>some .non
  | .bool b=>some (.bl b)
  | .int i _=>some (.int i)
  | .str x _=>some (.str x)
  | .bytes b _=>some (.byt b)
  | .float b _=>some (.flt b)
  | .ref a=>some (.ref a)
  | .type n=>some (.ty n)
  | _=>none
theorem X7.abs {x : V} {u : Value} (r : X7 x u) : NH u = some x:=by
  cases x with
  | non=>cases r; rfl
  | bl _=>cases r; rfl
  | int _=>obtain ⟨t, rfl⟩:=r; rfl
  | str _=>obtain ⟨t, rfl⟩:=r; rfl
  | byt _=>obtain ⟨t, rfl⟩:=r; rfl
  | flt _=>obtain ⟨t, rfl⟩:=r; rfl
  | ref _=>cases r; rfl
  | ty _=>cases r; rfl
theorem X7.inj {x y : V} {u : Value} (r : X7 x u) (q : X7 y u) : x = y:=Option.some.inj (r.abs.symm.trans q.abs)
theorem X5.inj : ∀ {xs ys : List V} {us : List Value}, X5 xs us -> X5 ys us -> xs = ys:=fun {xs ys us} p=>by
  induction p generalizing ys with
  | nil=>intro q; cases q; rfl
  | cons r _ ih=>intro q; cases q with | cons r' t'=>rw [r.inj r', ih t']
section
variable {X : Cx} {pins : List (Addr × Obj)} {σ : St} {H : Hp} {s : Shared} {a : Addr} {xs ys : List V}
theorem SqL.of {K : Fgg} (h : H a = some (.lst xs)) : SqL K H a xs:=.inl (.inl h)
theorem SqT.of {K : Fgg} (h : H a = some (.tup xs)) : SqT K H a xs:=.inl (.inl h)
theorem Inv.list (I : Inv X pins σ H s) (h : SqL X.K H a xs) : ∃ its : List Value, X5 xs its /\ PlainL s.heap a its.toArray /\ xs.length <= sizeLine:=by
  rcases h with h | ⟨o, its, n, hk, hc, hd, hs, hz, r⟩
  . obtain ⟨z, its, n, r, e⟩ := h.ok I.hok
    exact ⟨its, r, ⟨_, n, e, rfl, rfl, rfl⟩, z⟩
  . refine ⟨its.toList, r, ⟨o, n, I.kIn a o hk, hc, hd, by simpa using hs⟩, ?_⟩
    have e:=r.length
    simp only [Array.length_toList] at e
    lia
theorem Inv.tuple (I : Inv X pins σ H s) (h : SqT X.K H a xs) : ∃ its : List Value, X5 xs its /\ IsTup s.heap a its.toArray /\ xs.length <= sizeLine:=by
  rcases h with h | ⟨o, its, n, hk, hc, hs, hz, r⟩
  . obtain ⟨z, its, r, p⟩ := h.ok I.hok
    exact ⟨its, r, p, z⟩
  . refine ⟨its.toList, r, ⟨o, I.kIn a o hk, hc, n, by simpa using hs⟩, ?_⟩
    have e:=r.length
    simp only [Array.length_toList] at e
    lia
theorem Inv.list_inj (I : Inv X pins σ H s) (h : SqL X.K H a xs) (h' : SqL X.K H a ys) : xs = ys:=by
  obtain ⟨its, r, ⟨o, n, e, _, _, d⟩, _⟩:=I.list h
  obtain ⟨its', r', ⟨o', n', e', _, _, d'⟩, _⟩:=I.list h'
  rw [e] at e'; cases e'
  rw [d] at d'
  injection d' with d1 _
  have : its = its':=by simpa using congrArg Array.toList d1
  subst this
  exact r.inj r'
theorem Inv.tuple_inj (I : Inv X pins σ H s) (h : SqT X.K H a xs) (h' : SqT X.K H a ys) : xs = ys:=by
  obtain ⟨its, r, ⟨o, e, _, n, d⟩, _⟩:=I.tuple h
  obtain ⟨its', r', ⟨o', e', _, n', d'⟩, _⟩:=I.tuple h'
  rw [e] at e'; cases e'
  rw [d] at d'
  injection d' with d1 _
  have : its = its':=by simpa using congrArg Array.toList d1
  subst this
  exact r.inj r'
end
abbrev Cx.wish (X : Cx) (E : Value -> Shared -> Prop) : Cx:={ X with xe:=E }
abbrev Cx.nox (X : Cx) : Cx:=X.wish λ_ _=>False
theorem Cx.Ok.wish {X : Cx} (ok : X.Ok) (E : Value -> Shared -> Prop) : (X.wish E).Ok:=
  ⟨ok.mod, ok.kind, ok.glob, ok.blt, ok.above, ok.inj, ok.has, ok.cab, ok.hd, ok.frames, ok.stk, ok.exf, ok.bs, ok.bsz, ok.noex, ok.exfs, ok.funs, ok.frf⟩
theorem Cx.Ok.unwish {X : Cx} {E : Value -> Shared -> Prop} (ok : (X.wish E).Ok) : X.Ok:=
  ⟨ok.mod, ok.kind, ok.glob, ok.blt, ok.above, ok.inj, ok.has, ok.cab, ok.hd, ok.frames, ok.stk, ok.exf, ok.bs, ok.bsz, ok.noex, ok.exfs, ok.funs, ok.frf⟩
section
variable {X : Cx} {pins : List (Addr × Obj)} {σ : St} {H : Hp} {s : Shared} {E : Value -> Shared -> Prop}
theorem Inv.wish (I : Inv X pins σ H s) (E : Value -> Shared -> Prop) : Inv (X.wish E) pins σ H s:=⟨I.ok.wish E, I.os, I.bare, I.base, I.loc, I.cell, I.free, I.freeC, I.pin, I.hok, I.len⟩
theorem Inv.unwish (I : Inv (X.wish E) pins σ H s) : Inv X pins σ H s:=⟨I.ok.unwish, I.os, I.bare, I.base, I.loc, I.cell, I.free, I.freeC, I.pin, I.hok, I.len⟩
theorem SP.unwish {D : Ends} {f : Flow} {s' : Shared} (h : SP (X.wish E) pins D f s') : SP X pins D f s':=by
  cases f with
  | next=>obtain ⟨σ', H', I, q⟩:=h; exact ⟨σ', H', I.unwish, q⟩
  | brk=>obtain ⟨σ', H', I, q⟩:=h; exact ⟨σ', H', I.unwish, q⟩
  | cont=>obtain ⟨σ', H', I, q⟩:=h; exact ⟨σ', H', I.unwish, q⟩
  | ret u=>obtain ⟨v, σ', H', I, r, q⟩:=h; exact ⟨v, σ', H', I.unwish, r, q⟩
theorem PE.nox {e : Expr} {t : TE} (h : PE X.nox e t) : PE X e t:=λpins s σ H Q I hw=>
  wpAny_mono (h pins s σ H Q (I.wish _) hw) (λ_ _ r9=>by obtain ⟨v, H', I', r, q⟩:=r9; exact ⟨v, H', I'.unwish, r, q⟩) λ_ _ z=>False.elim z
theorem PT.nox {e : Expr} {t : TT} (h : PT X.nox e t) : PT X e t:=λpins s σ H Q I hw=>
  wpAny_mono (h pins s σ H Q (I.wish _) hw) (λ_ _ r9=>by obtain ⟨H', I', q⟩:=r9; exact ⟨H', I'.unwish, q⟩) λ_ _ z=>False.elim z
theorem PSs.nox {st : List Stmt} {t : TS} (h : PSs X.nox st t) : PSs X st t:=λpins s σ H D I hw=>
  wpAny_mono (h pins s σ H D (I.wish _) hw) (λ_ _ q=>q.unwish) λ_ _ z=>False.elim z
end
section
variable {X : Cx} {st : Stmt} {Zk : List Stmt} {t u : TS} {e : Expr} {te : TE} {pos : Pos}
def FC : TS:=λD σ H=>D.nx σ H
def Jb (t u : TS) : TS:=λD σ H=>t { D with nx:=u D } σ H
theorem Xg : PSs X [] FC:=λ_ _ σ H _ I h=>wpAny_execs_nil ⟨σ, H, I, h⟩
theorem Xd (h1 : PS X st t) (h2 : PSs X Zk u) : PSs X (st :: Zk) (Jb t u):=by
  intro pins s σ H D I h
  refine wpAny_execs_cons (thn (h1 pins s σ H { D with nx:=u D } I h) λf s1 q=>?_)
  cases f with
  | next=>
    obtain ⟨σ', H', I', q⟩:=q
    exact h2 pins s1 σ' H' D I' q
  | ret v=>exact q
  | brk=>exact q
  | cont=>exact q
theorem Inv.quiet {pins : List (Addr × Obj)} {σ : St} {H : Hp} {s : Shared} (I : Inv X pins σ H s) : interactive X.env = false:=by simp [interactive, I.ok.kind]
def Fv (te : TE) : TS:=λD σ H=>te σ H λ_ H1=>D.nx σ H1
theorem Ya (he : PE X e te) (hs : swapsWith e none pos.line X.env = pure false:=by rfl) : PS X (.Expr e pos) (Fv te):=by
  intro pins s σ H D I h
  exact wpAny_Expr_any (thn (he pins s σ H _ I h) λv s1 r9=>by obtain ⟨x, H1, I1, r1, q1⟩:=r9; exact ⟨σ, H1, I1, q1⟩) I.quiet hs
def MS (te : TE) : TS:=λD σ H=>te σ H D.rt
theorem Xw (he : PE X e te) : PS X (.Return (some e) pos) (MS te):=by
  intro pins s σ H D I h
  exact wpAny_Return_some (thn (he pins s σ H _ I h) λv s1 r9=>by obtain ⟨x, H1, I1, r1, q1⟩:=r9; exact ⟨x, σ, H1, I1, r1, q1⟩)
def Mg (c : TT) (t u : TS) : TS:=λD σ H=>c σ H λb H1=>if b = true then t D σ H1 else u D σ H1
theorem YD {c : Expr} {a b : List Stmt} {tc : TT} (hc : PT X c tc) (ha : PSs X a t) (hb : PSs X b u) : PS X (.If c a b pos) (Mg tc t u):=by
  intro pins s σ H D I h
  refine wpAny_If (thn (hc pins s σ H _ I h) λd s1 r9=>?_)
  obtain ⟨H1, I1, q1⟩:=r9
  cases d with
  | true=>exact ha pins s1 σ H1 D I1 q1
  | false=>exact hb pins s1 σ H1 D I1 q1
end
abbrev TG:=V -> St -> Hp -> (St -> Hp -> Prop) -> Prop
abbrev TGs:=List V -> St -> Hp -> (St -> Hp -> Prop) -> Prop
def PG (X : Cx) (target : Expr) (t : TG) : Prop:=
  ∀ (pins : List (Addr × Obj)) (s : Shared) (σ : St) (H : Hp) (v : V) (u : Value) (Q : St -> Hp -> Prop), Inv X pins σ H s -> X7 v u -> t v σ H Q ->
    wpAny (model X.prog X.w) X.A (assign target X.env u) (λ_ s'=>∃ σ' H', Inv X pins σ' H' s' /\ Q σ' H') X.xe s
def PGs (X : Cx) (ts : List Expr) (t : TGs) : Prop:=
  ∀ (pins : List (Addr × Obj)) (s : Shared) (σ : St) (H : Hp) (vs : List V) (us : List Value) (Q : St -> Hp -> Prop), Inv X pins σ H s -> X5 vs us -> t vs σ H Q ->
    wpAny (model X.prog X.w) X.A (assignInOrder ((assignEach ts X.env).map (·.2)) us) (λ_ s'=>∃ σ' H', Inv X pins σ' H' s' /\ Q σ' H') X.xe s
abbrev Nd:=V -> V -> V -> Hp -> (Hp -> Prop) -> Prop
def Ni (X : Cx) (t : Nd) : Prop:=
  ∀ (pins : List (Addr × Obj)) (s : Shared) (σ : St) (H : Hp) (o i v : V) (ov iv u : Value) (Q : Hp -> Prop), Inv X pins σ H s -> X7 o ov -> X7 i iv -> X7 v u -> t o i v H Q ->
    wpAny (model X.prog X.w) X.A (setItem ov iv u) (λ_ s'=>∃ H', Inv X pins σ H' s' /\ Q H') X.xe s
section
variable {X : Cx} {pos : Pos}
def QP (i : Nat) : TG:=λv σ H Q=>Q (σ.set i (some v)) H
theorem Xu {i : Nat} {x : Str} (hN : X.N.Nodup) (hi : X.N[i]? = some x) (hx : Loc X.env.scope x) (hf : X.fn x = true ∨ X.env.scope.names.lookup x = some .local:=by first | exact .inl rfl | exact .inr rfl | assumption) : PG X (.Name x pos) (QP i):=by
  intro pins s σ H v u Q I r h
  exact wpAny_assign_Name (QY I hN hi hx r (λs' I'=>⟨_, H, I', h⟩) hf)
def Na : TGs:=λvs σ H Q=>vs = [] /\ Q σ H
def Ba (t : TG) (u : TGs) : TGs:=λvs σ H Q=>∃ v r, vs = v :: r /\ t v σ H λσ' H'=>u r σ' H' Q
theorem JT : PGs X [] Na:=by
  intro pins s σ H vs us Q I r h
  obtain ⟨e, h⟩:=h
  subst e
  cases r
  exact assignInOrder_nil ⟨σ, H, I, h⟩
theorem Y7 {e : Expr} {es : List Expr} {t : TG} {u : TGs} (h1 : PG X e t) (h2 : PGs X es u)
    (hs : (assignEach (e :: es) X.env).map (·.2) = assign e X.env :: (assignEach es X.env).map (·.2):=by rfl) : PGs X (e :: es) (Ba t u):=by
  intro pins s σ H vs us Q I r h
  obtain ⟨v, vr, e1, h⟩:=h
  subst e1
  cases r with
  | cons r rr=>
    rw [hs]
    refine assignInOrder_cons (thn (h1 pins s σ H _ _ _ I r h) λ_ s1 r9=>?_)
    obtain ⟨σ1, H1, I1, q1⟩:=r9
    exact h2 pins s1 σ1 H1 _ _ Q I1 rr q1
def MN (K : Fgg) (n : Nat) (t : TGs) : TG:=λv σ H Q=>∃ a xs, v = .ref a /\ SqT K H a xs /\ xs.length = n /\ t xs σ H Q
theorem KA {es : List Expr} {k : Nat} {t : TGs} {n : Nat} (hc : X.calm = true) (h : PGs X es t)
    (hn : (assignEach es X.env).length = n:=by rfl) (hst : (assignEach es X.env).findIdx? (·.1) = none:=by rfl) : PG X (.Tuple es k pos) (MN X.K n t):=by
  intro pins s σ H v u Q I r hw
  obtain ⟨a, xs, e1, hq, hl, hw⟩:=hw
  subst e1
  cases r
  obtain ⟨its, rv, ht, hz⟩:=I.tuple hq
  refine assign_Tuple_tuple (I.ok.hd hc) ht (by simp [hn, ← hl, rv.length]) hst λh' hx=>?_
  have I1 : Inv X pins σ H { s with heap:=h' }:=I.kept (t':=s.toks) λb o e=>hx b o (Nat.ne_of_lt (Heap.lt_size e)) e
  exact h pins _ σ H xs _ Q I1 (by simpa using rv) hw
def Nt (to ti : TE) (t : Nd) : TG:=λv σ H Q=>to σ H λo H1=>ti σ H1 λi H2=>t o i v H2 λH3=>Q σ H3
theorem Ms {o i : Expr} {to ti : TE} {t : Nd} (ho : PE X o to) (hi : PE X i ti) (hs : Ni X t)
    (ha : ∀ v, assign (.Subscript o i pos) X.env v = (do
      let ov ← holding [v] (eval o X.env)
      let iv ← holding [v, ov] (eval i X.env)
      standAt pos
      holding [v, ov, iv] (setItem ov iv v)
      release [v, ov, iv] []):=by intro _; rfl) : PG X (.Subscript o i pos) (Nt to ti t):=by
  intro pins s σ H v u Q I r h
  rw [ha]
  refine wpAny_bind (wpAny_holding (thn (ho pins s σ H _ I h) λov s1 r9=>?_))
  obtain ⟨x, H1, I1, r1, q1⟩:=r9
  refine wpAny_bind (wpAny_holding (thn (hi pins s1 σ H1 _ I1 q1) λiv s2 r9=>?_))
  obtain ⟨y, H2, I2, r2, q2⟩:=r9
  refine wpAny_bind (wpAny_standAt (wpAny_bind (wpAny_holding (thn (hs pins s2 σ H2 x y v ov iv u _ I2 r1 r2 r q2) λ_ s3 r9=>?_))))
  obtain ⟨H3, I3, q3⟩:=r9
  exact wpAny_release ⟨σ, H3, I3, q3⟩
def EL (te : TE) (g : TG) : TS:=λD σ H=>te σ H λx H1=>g x σ H1 D.nx
theorem EX {tg e : Expr} {te : TE} {g : TG} (he : PE X e te) (hg : PG X tg g) (hs : swapsWithSole [tg] e pos.line X.env = pure false:=by rfl) (hw : swappedStores [tg] e X.env = pure none:=by rfl)
    (h1 : (assignEach [tg] X.env).map (·.2) = [assign tg X.env]:=by rfl) : PS X (.Assign [tg] e pos) (EL te g):=by
  intro pins s σ H D I h
  refine wpAny_Assign_stores (thn (he pins s σ H _ I h) λv s1 r9=>?_) hs hw
  obtain ⟨x, H1, I1, r1, q1⟩:=r9
  rw [h1]
  exact thn (hg pins s1 σ H1 x v _ I1 r1 q1) λ_ s2 q=>q
theorem XF {i : Nat} {x : Str} {e : Expr} {te : TE} {pos' : Pos} (hN : X.N.Nodup) (hi : X.N[i]? = some x) (hx : Loc X.env.scope x) (he : PE X e te) (hs : swapsWith e (some (.Name x pos')) pos.line X.env = pure false:=by rfl) (hf : X.fn x = true ∨ X.env.scope.names.lookup x = some .local:=by first | exact .inl rfl | exact .inr rfl | assumption) :
    PS X (.Assign [.Name x pos'] e pos) (EL te (QP i)):=by
  intro pins s σ H D I h
  refine wpAny_Assign_Name (thn (he pins s σ H _ I h) λv s1 r9=>?_) hs
  obtain ⟨y, H1, I1, r1, q1⟩:=r9
  exact QY I1 hN hi hx r1 (λs2 I2=>⟨_, H1, I2, q1⟩) hf
def Nw (i j : Nat) (ta : TA) : TS:=λD σ H=>ta σ H λvs H1=>∃ v w, vs = [v, w] /\ D.nx ((σ.set i (some v)).set j (some w)) H1
theorem Eu {i j : Nat} {x y : Str} {a b : Expr} {ta : TA} {px py pt : Pos} {kt k2 pt2} (hc : X.calm = true) (hN : X.N.Nodup) (hi : X.N[i]? = some x) (hj : X.N[j]? = some y) (hij : i ≠ j)
    (hx : X.env.scope.names.lookup x = some .local) (hy : X.env.scope.names.lookup y = some .local) (ha : PA X [a, b] ta)
    (hw : swappedStores [.Tuple [.Name x px, .Name y py] kt pt] (.Tuple [a, b] k2 pt2) X.env = pure (some [x, y]))
    (hs : swapsWithSole [.Tuple [.Name x px, .Name y py] kt pt] (.Tuple [a, b] k2 pt2) pos.line X.env = pure false:=by rfl) :
    PS X (.Assign [.Tuple [.Name x px, .Name y py] kt pt] (.Tuple [a, b] k2 pt2) pos) (Nw i j ta):=by
  intro pins s σ H D I h
  rw [exec_Assign_arm]
  refine wpAny_bind (wpAny_standAt ?_)
  rw [hs]
  refine wpAny_bind (wpAny_pure ?_)
  rw [if_neg (by decide)]
  refine wpAny_bind (Tuple_ (thn (ha _ pins s σ H _ I h) λus s1 r9=>?_))
  obtain ⟨vs, H1, I1, r1, q1⟩:=r9
  obtain ⟨v, w, e1, q1⟩:=q1
  subst e1
  obtain ⟨u1, u2, rfl, rv, rw'⟩ : ∃ u1 u2, us = [u1, u2] /\ X7 v u1 /\ X7 w u2:=by
    cases r1 with
    | cons p q=>
      cases q with
      | cons p' q'=>
        cases q'
        exact ⟨_, _, rfl, p, p'⟩
  refine wpAny_newObj_type ?_ (by show 2 <= sizeLine; decide)
  have I2 : Inv X pins σ H1 { s1 with heap:=s1.heap.push { cls:=.type "tuple", data:=.seq [u1, u2].toArray } }:=I1.kept (t':=s1.toks) λb o e=>Qp _ e
  rw [hw]
  refine wpAny_bind (wpAny_pure ?_)
  show wpAny (model X.prog X.w) X.A (do rule "assign.swapped-stores"; let items ← unpackItems (.ref s1.heap.objs.size) 2 none; assignInOrder [λv=>bindName X.env y v, λv=>bindName X.env x v] items.reverse; pure Flow.next) _ _ _
  refine wpAny_bind (wpAny_rule (wpAny_bind (unpackItems_tuple (items:=#[u1, u2]) (I.ok.hd hc) (IsTup.new s1.heap _) λh' hx'=>?_)))
  have I3:=I2.kept (h':=h') (t':=s1.toks) λb o e=>hx' b o (Nat.ne_of_lt (Heap.lt_size e)) e
  show wpAny _ _ (assignInOrder [λv=>bindName X.env y v, λv=>bindName X.env x v] [u2, u1] >>= λ_=>pure Flow.next) _ _ _
  refine wpAny_bind (assignInOrder_cons (wpAny_bindName (QY I3 hN hj (.inl hy) rw' (λs2 I4=>?_) (.inr hy))))
  refine assignInOrder_cons (wpAny_bindName (QY I4 hN hi (.inl hx) rv (λs3 I5=>assignInOrder_nil (wpAny_pure ?_)) (.inr hx)))
  rw [List.set_comm _ _ (Ne.symm hij)] at I5
  exact ⟨_, H1, I5, q1⟩
end
section
variable {X : Cx} {pos : Pos}
def Cp (c : TT) (tb : TS) : TS:=λD σ H=>∃ W : Nat -> St -> Hp -> Prop, (∃ m, W m σ H) /\ ∀ m σ H, W m σ H ->
  c σ H λb H1=>if b = true then ∃ N : St -> Hp -> Prop, (∀ σ' H', N σ' H' -> ∃ m', m' < m /\ W m' σ' H') /\ tb { D with nx:=N, ct:=N, bk:=D.nx } σ H1 else D.nx σ H1
theorem Uu {c : Expr} {body : List Stmt} {tc : TT} {tb : TS} (hp : PassesOwn (model X.prog X.w) X.A X.env X.xe) (hc : PT X c tc) (hb : PSs X body tb) : PS X (.While c body [] pos) (Cp tc tb):=by
  intro pins s σ H D I h
  obtain ⟨W, ⟨m0, w0⟩, turn⟩:=h
  refine wpAny_While (codeAny_whileLoop (λn s'=>∃ σ' H', Inv X pins σ' H' s' /\ W n σ' H') ?_ m0 ⟨σ, H, I, w0⟩)
  rintro n s1 ⟨σ1, H1, I1, w1⟩
  refine wpAny_passesOwn hp (thn (hc pins s1 σ1 H1 _ I1 (turn n σ1 H1 w1)) λb s2 r9=>?_)
  obtain ⟨H2, I2, q2⟩:=r9
  cases b with
  | true=>
    obtain ⟨N, hN, q2⟩:=q2
    rw [if_pos rfl]
    refine wpAny_passesOwn hp (thn (hb pins s2 σ1 H2 _ I2 q2) λf s3 q3=>?_)
    cases f with
    | next=>
      obtain ⟨σ3, H3, I3, n3⟩:=q3
      obtain ⟨m', hm, w3⟩:=hN σ3 H3 n3
      exact ⟨m', hm, σ3, H3, I3, w3⟩
    | cont=>
      obtain ⟨σ3, H3, I3, n3⟩:=q3
      obtain ⟨m', hm, w3⟩:=hN σ3 H3 n3
      exact ⟨m', hm, σ3, H3, I3, w3⟩
    | brk=>exact q3
    | ret v=>exact q3
  | false=>
    rw [if_neg Bool.false_ne_true]
    exact wpAny_execs_nil ⟨σ1, H2, I2, q2⟩
end
structure It where
  go : Nat -> Hp -> Prop
  yld : Nat -> Hp -> V -> Hp -> Prop
  stop : Nat -> Hp -> Prop
def Gk (X : Cx) (pins : List (Addr × Obj)) (H : Hp) (b : Addr) : Prop:=
  H b = none /\ b ≠ X.env.locals /\ b ∉ X.fs /\ (b ∈ X.ex ∨ X.s₀.heap.objs.size <= b) /\ (∀ x c, X.env.cells.lookup x = some c -> c ≠ b) /\ ∀ p ∈ X.pn ++ pins, p.1 ≠ b
theorem Inv.fpOk {X : Cx} {pins : List (Addr × Obj)} {σ : St} {H H' : Hp} {s : Shared} {b : Addr} (I : Inv X pins σ H s) (hb : s.heap.objs.size <= b) (hn : H' b = none) : Gk X pins H' b:=by
  refine ⟨hn, Nat.ne_of_gt (Nat.lt_of_lt_of_le I.lt hb), I.nofs hb, .inr (Nat.le_trans I.sz hb), λx c e z=>?_, λp hp z=>?_⟩
  . obtain ⟨v, q⟩ := I.cell x c e
    exact absurd (Nat.lt_of_lt_of_le q.lt (by rw [z]; exact hb)) (Nat.lt_irrefl _)
  . exact absurd (Nat.lt_of_lt_of_le (Heap.lt_size (I.pin p hp).1) (by rw [z]; exact hb)) (Nat.lt_irrefl _)
structure Turn (P : Program) (w : World) (K : Fgg) (tg : Expr) (J : It) (fp : List Addr) (it : Addr) (tn : Nat -> Heap -> Prop) : Prop where
  mem : it ∈ fp
  obj : ∀ i h, tn i h -> ∀ b ∈ fp, ∃ o, h.get? b = some o /\ ∀ v, o.data ≠ .cell v
  keep : ∀ i h h', tn i h -> (∀ b ∈ fp, ∀ o, h.get? b = some o -> h'.get? b = some o) -> tn i h'
  item : ∀ (X : Cx), X.prog = P -> X.w = w -> X.K = K -> X.calm = true -> ∀ (i : Nat) (pins : List (Addr × Obj)) (s : Shared) (σ : St) (H : Hp) (E : Value -> Shared -> Prop), Inv X pins σ H s -> (∀ b ∈ fp, Gk X pins H b) -> tn i s.heap -> J.go i H ->
    wpAny (model P w) X.A (pyNext (.ref it)) (λr s1=>∃ u, r = some u /\
      wpAny (model P w) X.A (letOwnedTupleGo tg (.ref it) u) (λ_ s2=>∃ x H', Inv X pins σ H' s2 /\ X7 x u /\ J.yld i H x H' /\ tn (i + 1) s2.heap /\ ∀ b ∈ fp, H' b = none) E s1) E s
  done : ∀ (X : Cx), X.prog = P -> X.w = w -> X.K = K -> X.calm = true -> ∀ (i : Nat) (pins : List (Addr × Obj)) (s : Shared) (σ : St) (H : Hp) (E : Value -> Shared -> Prop), Inv X pins σ H s -> (∀ b ∈ fp, Gk X pins H b) -> tn i s.heap -> J.stop i H ->
    wpAny (model P w) X.A (pyNext (.ref it)) (λr s1=>r = none /\ Inv X pins σ H s1) E s
  self : ∀ (A : Around) (i : Nat) (s : Shared) (Q : Value -> Shared -> Prop) (E : Value -> Shared -> Prop), tn i s.heap -> Q (.ref it) s -> wpAny (model P w) A (pyIter (.ref it)) Q E s
abbrev TI:=St -> Hp -> (It -> Hp -> Prop) -> Prop
def PIE (X : Cx) (pins : List (Addr × Obj)) (σ : St) (tg : Expr) (R : It -> Hp -> Prop) (itv : Value) (s2 : Shared) : Prop:=
  ∃ (it : Addr) (fp : List Addr) (tn : Nat -> Heap -> Prop) (J : It) (H' : Hp), itv = .ref it /\ Inv X pins σ H' s2 /\ Turn X.prog X.w X.K tg J fp it tn /\ tn 0 s2.heap /\ (∀ b ∈ fp, Gk X pins H' b) /\ R J H'
def PI (X : Cx) (tg iter : Expr) (wi : TI) : Prop:=
  ∀ (pins : List (Addr × Obj)) (s : Shared) (σ : St) (H : Hp) (R : It -> Hp -> Prop), Inv X pins σ H s -> wi σ H R ->
    wpAny (model X.prog X.w) X.A (eval iter X.env) (λv s1=>wpAny (model X.prog X.w) X.A (pyIter v) (PIE X pins σ tg R) X.xe s1) X.xe s
theorem BD {M : Model} {A : Around} {E : Value -> Shared -> Prop} {s : Shared} {tg : Expr} {it : Addr} {u : Value} {o : Obj} {n : String} {vs : Array Value} {Q : Unit -> Shared -> Prop} (ho : s.heap.get? it = some o) (hc : o.cls = .type n) (hd : o.data = .fields vs)
    (hn : ["enumerate", "zip", "dict_itemiterator", "dict_reverseitemiterator", "odict_iterator", "itertools.zip_longest", "itertools.pairwise"].contains n = false) (hQ : Q () s) : wpAny M A (letOwnedTupleGo tg (.ref it) u) Q E s:=by
  unfold letOwnedTupleGo
  cases tg <;> first
    | exact wpAny_pure hQ
    | (cases u <;> first
        | exact wpAny_pure hQ
        | (refine wpAny_bind (wpAny_load ho ?_)
           rw [hc, hd]
           show wpAny M A (if (["enumerate", "zip", "dict_itemiterator", "dict_reverseitemiterator", "odict_iterator", "itertools.zip_longest", "itertools.pairwise"].contains n && vs[0]? == some (rawInt _)) = true then _ else _) Q E s
           rw [if_neg (by intro h; rw [hn, Bool.false_and] at h; cases h)]
           exact wpAny_pure hQ))
def Itl (K : Fgg) (a : Addr) : It:=
  ⟨λi H=>∃ xs x, SqL K H a xs /\ xs[i]? = some x, λi H x H'=>H' = H /\ ∀ xs, SqL K H a xs -> xs[i]? = some x, λi H=>∃ xs, SqL K H a xs /\ xs.length <= i⟩
def Itt (K : Fgg) (a : Addr) : It:=
  ⟨λi H=>∃ xs x, SqT K H a xs /\ xs[i]? = some x, λi H x H'=>H' = H /\ ∀ xs, SqT K H a xs -> xs[i]? = some x, λi H=>∃ xs, SqT K H a xs /\ xs.length <= i⟩
def Itr (lo : Int) (n : Nat) : It:=⟨λi _=>i < n, λi H x H'=>H' = H /\ x = .int (lo + i), λi _=>n <= i⟩
theorem Bk {P : Program} {w : World} {K : Fgg} {tg : Expr} (a it : Addr) : Turn P w K tg (Itl K a) [it] it (λi h=>h.IsListIter it a i) where
  mem:=by simp
  obj:=λi h st b hb=>by
    have e : b = it:=by simpa using hb
    subst e
    obtain ⟨o, e, c, d⟩:=st
    exact ⟨o, e, λv z=>by rw [d] at z; cases z⟩
  keep:=λi h h' st k=>st.at λo e=>k it (by simp) o e
  item:=by
    intro X hP hw hK hc i pins s σ H E I hf st hg
    subst hP hw hK
    obtain ⟨xs, x, hq, hx⟩:=hg
    obtain ⟨its, rv, p, hz⟩:=I.list hq
    obtain ⟨u, hu, ru⟩:=rv.get hx
    obtain ⟨f0, f1, f2, f3, f4, f5⟩:=hf it (by simp)
    refine wpAny_pyNext_list_item st p.isList (x:=u) (by simpa using hu) λh' st' sb=>?_
    have I1 : Inv X pins σ H { s with heap:=h' }:=I.turned (t':=s.toks) (λb o hb e=>(sb.2 b hb).trans e) f0 f1 f3 f4 f5
    obtain ⟨o, e, c, d⟩:=id st'
    exact ⟨u, rfl, BD (s:={ s with heap:=h' }) e c d (by decide) ⟨x, H, I1, ru, ⟨rfl, λys hy=>by rw [I.list_inj hy hq]; exact hx⟩, st', λb hb=>(hf b hb).1⟩⟩
  done:=by
    intro X hP hw hK hc i pins s σ H E I hf st hg
    subst hP hw hK
    obtain ⟨xs, hq, hx⟩:=hg
    obtain ⟨its, rv, p, hz⟩:=I.list hq
    obtain ⟨f0, f1, f2, f3, f4, f5⟩:=hf it (by simp)
    have hl:=rv.length
    exact wpAny_pyNext_list_end (I.ok.hd hc) st p.isList (by simp; lia) λh' eb=>⟨rfl, I.turned (t':=s.toks) (λb o hb e=>eb b o hb e) f0 f1 f3 f4 f5⟩
  self:=λ_ _ _ _ _ st h=>wpAny_pyIter_listiter st h
theorem Fj {P : Program} {w : World} {K : Fgg} {tg : Expr} (a it : Addr) : Turn P w K tg (Itt K a) [it] it (λi h=>h.IsTupleIter it a i) where
  mem:=by simp
  obj:=λi h st b hb=>by
    have e : b = it:=by simpa using hb
    subst e
    obtain ⟨o, e, c, d⟩:=st
    exact ⟨o, e, λv z=>by rw [d] at z; cases z⟩
  keep:=λi h h' st k=>st.at λo e=>k it (by simp) o e
  item:=by
    intro X hP hw hK hc i pins s σ H E I hf st hg
    subst hP hw hK
    obtain ⟨xs, x, hq, hx⟩:=hg
    obtain ⟨its, rv, p, hz⟩:=I.tuple hq
    obtain ⟨u, hu, ru⟩:=rv.get hx
    obtain ⟨f0, f1, f2, f3, f4, f5⟩:=hf it (by simp)
    refine wpAny_pyNext_tuple_item st (show s.heap.IsTuple a its.toArray from p) (x:=u) (by simpa using hu) λh' st' sb=>?_
    have I1 : Inv X pins σ H { s with heap:=h' }:=I.turned (t':=s.toks) (λb o hb e=>(sb.2 b hb).trans e) f0 f1 f3 f4 f5
    obtain ⟨o, e, c, d⟩:=id st'
    exact ⟨u, rfl, BD (s:={ s with heap:=h' }) e c d (by decide) ⟨x, H, I1, ru, ⟨rfl, λys hy=>by rw [I.tuple_inj hy hq]; exact hx⟩, st', λb hb=>(hf b hb).1⟩⟩
  done:=by
    intro X hP hw hK hc i pins s σ H E I hf st hg
    subst hP hw hK
    obtain ⟨xs, hq, hx⟩:=hg
    obtain ⟨its, rv, p, hz⟩:=I.tuple hq
    obtain ⟨f0, f1, f2, f3, f4, f5⟩:=hf it (by simp)
    have hl:=rv.length
    exact wpAny_pyNext_tuple_end (I.ok.hd hc) st (show s.heap.IsTuple a its.toArray from p) (by simp; lia) λh' eb=>⟨rfl, I.turned (t':=s.toks) (λb o hb e=>eb b o hb e) f0 f1 f3 f4 f5⟩
  self:=λ_ _ _ _ _ st h=>wpAny_pyIter_tupleiter st h
theorem FI {P : Program} {w : World} {K : Fgg} {tg : Expr} (it : Addr) (lo : Int) (n : Nat) : Turn P w K tg (Itr lo n) [it] it (λi h=>IsRangeIter h it (lo + (i : Nat) * 1) ((n : Int) - (i : Nat)) 1) where
  mem:=by simp
  obj:=λi h st b hb=>by
    have e : b = it:=by simpa using hb
    subst e
    exact ⟨_, st, λv z=>by
      have z' : Data.fields _ = Data.cell v:=z
      cases z'⟩
  keep:=λi h h' st k=>k it (by simp) _ st
  item:=by
    intro X hP hw hK hc i pins s σ H E I hf st hg
    subst hP hw hK
    obtain ⟨f0, f1, f2, f3, f4, f5⟩:=hf it (by simp)
    have W:=Walks.range (prog:=X.prog) (w:=X.w) (I.ok.hd hc) it lo 1 n
    refine W.item i s _ _ hg st λv h' tk hv st' kk=>?_
    obtain ⟨t, rfl⟩:=hv
    have I1 : Inv X pins σ H { s with heap:=h', toks:=tk }:=I.turned (λb o hb e=>kk b o (by simpa using hb) e) f0 f1 f3 f4 f5
    refine ⟨_, rfl, BD (s:={ s with heap:=h', toks:=tk }) (n:="range_iterator") st' rfl rfl (by decide) ⟨.int (lo + i), H, I1, ⟨t, ?_⟩, ⟨rfl, rfl⟩, st', λb hb=>(hf b hb).1⟩⟩
    rw [Int.mul_one]
  done:=by
    intro X hP hw hK hc i pins s σ H E I hf st hg
    subst hP hw hK
    obtain ⟨f0, f1, f2, f3, f4, f5⟩:=hf it (by simp)
    exact wpAny_pyNext_range_end (I.ok.hd hc) st (by have : n <= i:=hg; lia) λh' eb=>⟨rfl, I.turned (t':=s.toks) (λb o hb e=>eb b o hb e) f0 f1 f3 f4 f5⟩
  self:=λ_ _ _ _ _ st h=>wpAny_pyIter_rangeiter st h
section
variable {X : Cx} {tg : Expr}
def F1 (K : Fgg) (tl : TE) : TI:=λσ H R=>tl σ H λx H1=>∃ a, x = .ref a /\ (∃ xs, SqL K H1 a xs) /\ R (Itl K a) H1
def MO (K : Fgg) (tl : TE) : TI:=λσ H R=>tl σ H λx H1=>∃ a, x = .ref a /\ (∃ xs, SqT K H1 a xs) /\ R (Itt K a) H1
theorem Hu {l : Expr} {tl : TE} (hl : PE X l tl) : PI X tg l (F1 X.K tl):=by
  intro pins s σ H R I h
  refine thn (hl pins s σ H _ I h) λv s1 r9=>?_
  obtain ⟨x, H1, I1, r1, q1⟩:=r9
  obtain ⟨a, e, ⟨xs, hq⟩, q⟩:=q1
  subst e
  cases r1
  obtain ⟨its, rv, p, hz⟩:=I1.list hq
  refine wpAny_pyIter_list p.isList ?_
  refine ⟨s1.heap.objs.size, [s1.heap.objs.size], _, _, H1, rfl, I1.kept (t':=s1.toks) λb o e=>Qp _ e, Bk a _, ⟨_, Heap.get?_push_size _ rfl, rfl, rfl⟩, λb hb=>?_, q⟩
  have e : b = s1.heap.objs.size:=by simpa using hb
  subst e
  exact I1.fpOk (Nat.le_refl _) (I1.hok.fresh (Nat.le_refl _))
theorem L7 {l : Expr} {tl : TE} (hl : PE X l tl) : PI X tg l (MO X.K tl):=by
  intro pins s σ H R I h
  refine thn (hl pins s σ H _ I h) λv s1 r9=>?_
  obtain ⟨x, H1, I1, r1, q1⟩:=r9
  obtain ⟨a, e, ⟨xs, hq⟩, q⟩:=q1
  subst e
  cases r1
  obtain ⟨its, rv, p, hz⟩:=I1.tuple hq
  refine wpAny_pyIter_tuple (show s1.heap.IsTuple a its.toArray from p) ?_
  refine ⟨s1.heap.objs.size, [s1.heap.objs.size], _, _, H1, rfl, I1.kept (t':=s1.toks) λb o e=>Qp _ e, Fj a _, ⟨_, Heap.get?_push_size _ rfl, rfl, rfl⟩, λb hb=>?_, q⟩
  have e : b = s1.heap.objs.size:=by simpa using hb
  subst e
  exact I1.fpOk (Nat.le_refl _) (I1.hok.fresh (Nat.le_refl _))
theorem Bs {pins : List (Addr × Obj)} {σ : St} {H : Hp} {s : Shared} {R : It -> Hp -> Prop} {E : Value -> Shared -> Prop} {lo hi : Int} {t u v : Tok} {tk : Nat} (I : Inv X pins σ H s) (h1 : -(2 ^ 62) <= lo) (h2 : lo < 2 ^ 62) (h3 : -(2 ^ 62) <= hi) (h4 : hi < 2 ^ 62)
    (q : R (Itr lo (hi - lo).toNat) H) : wpAny (model X.prog X.w) X.A (pyIter (.ref s.heap.objs.size)) (PIE X pins σ tg R) E { s with heap:=s.heap.push { cls:=.type "range", data:=.fields #[.int lo t, .int hi u, .int 1 v] }, toks:=tk }:=by
  refine wpAny_pyIter_range (IsRange.new ..) (small_one h1 h2 h3 h4) ?_
  have I1 : Inv X pins σ H { s with heap:=s.heap.push { cls:=.type "range", data:=.fields #[.int lo t, .int hi u, .int 1 v] }, toks:=tk }:=I.kept λb o e=>Qp _ e
  refine ⟨(s.heap.push { cls:=.type "range", data:=.fields #[.int lo t, .int hi u, .int 1 v] }).objs.size, [(s.heap.push { cls:=.type "range", data:=.fields #[.int lo t, .int hi u, .int 1 v] }).objs.size], _, _, H, rfl,
    I1.kept (t':=tk) λb o e=>Qp _ e, FI _ lo (hi - lo).toNat, ?_, λb hb=>?_, q⟩
  . have e1 : lo + ((0 : Nat) : Int) * 1 = lo := by simp
    have e2 : (((hi - lo).toNat : Nat) : Int) - ((0 : Nat) : Int) = Builtin.Range.rangeSize lo hi 1:=by rw [rangeSize_one]; split <;> lia
    show IsRangeIter _ _ (lo + ((0 : Nat) : Int) * 1) ((((hi - lo).toNat : Nat) : Int) - ((0 : Nat) : Int)) 1
    rw [e1, e2]
    exact Heap.get?_push_size _ rfl
  . have e : b = (s.heap.push { cls := .type "range", data := .fields #[.int lo t, .int hi u, .int 1 v] }).objs.size := by simpa using hb
    subst e
    exact I1.fpOk (Nat.le_refl _) (I1.hok.fresh (Nat.le_refl _))
def Lv (ta : TA) : TI:=λσ H R=>ta σ H λvs H1=>∃ j : Int, vs = [.int j] /\ -(2 ^ 62) <= j /\ j < 2 ^ 62 /\ R (Itr 0 j.toNat) H1
theorem XZ {a : Expr} {ta : TA} {p pos : Pos} (hg : Gl X "range") (hm : X.mg "range" = none) (ha : PA X [a] ta) (hs : starEach [a] X.env = [(false, eval a X.env)]:=by rfl) : PI X tg (.Call (.Name "range" p) [a] [] pos) (Lv ta):=by
  intro pins s σ H R I h
  refine Call_ (Jm I hg hm boot_range (PyProof.Rows.callWith_type1 (thn (ha pos pins s σ H _ I h) λus s1 r9=>?_) hs rfl))
  obtain ⟨vs, H1, I1, r1, q1⟩:=r9
  obtain ⟨j, e, q1, q2, q⟩:=q1
  subst e
  cases r1 with
  | cons r rr=>
    cases rr
    obtain ⟨t, rfl⟩:=r
    exact call_range_1 (Bs I1 (by lia) (by lia) q1 q2 (by simpa using q))
def Mr (wi : TI) (g : TG) (tb : TS) : TS:=λD σ H=>wi σ H λJ H1=>∃ W : Nat -> Nat -> St -> Hp -> Prop, (∃ m, W 0 m σ H1) /\ ∀ i m σ H, W i m σ H ->
  (J.stop i H /\ D.nx σ H) ∨ (J.go i H /\ ∃ N : St -> Hp -> Prop, (∀ σ' H', N σ' H' -> ∃ m', m' < m /\ W (i + 1) m' σ' H') /\ ∀ x H', J.yld i H x H' -> g x σ H' λσ2 H2=>tb { D with nx:=N, ct:=N, bk:=D.nx } σ2 H2)
def U2 (fp : List Addr) (h : Heap) : List (Addr × Obj):=fp.filterMap λb=>(h.get? b).map λo=>(b, o)
theorem Jc {fp : List Addr} {h : Heap} {b : Addr} {o : Obj} (hb : b ∈ fp) (e : h.get? b = some o) : (b, o) ∈ U2 fp h:=List.mem_filterMap.mpr ⟨b, hb, by rw [e]; rfl⟩
theorem Ci {fp : List Addr} {h : Heap} {p : Addr × Obj} (hp : p ∈ U2 fp h) : p.1 ∈ fp /\ h.get? p.1 = some p.2:=by
  obtain ⟨b, hb, e⟩:=List.mem_filterMap.mp hp
  cases q : h.get? b with
  | none=>rw [q] at e; cases e
  | some o=>
    rw [q] at e
    have e' : (b, o) = p:=Option.some.inj e
    subst e'
    exact ⟨hb, q⟩
theorem Inv.pinned {pins : List (Addr × Obj)} {σ : St} {H : Hp} {s : Shared} {fp : List Addr} (I : Inv X pins σ H s) (hf : ∀ b ∈ fp, Gk X pins H b) (ho : ∀ b ∈ fp, ∃ o, s.heap.get? b = some o /\ ∀ v, o.data ≠ .cell v) : Inv X (pins ++ U2 fp s.heap) σ H s:=
  I.pins_of λp hp=>(List.mem_append.mp hp).elim (λz=>I.pin p (List.mem_append_right _ z)) λz=>by
    obtain ⟨hb, e⟩:=Ci z
    obtain ⟨f0, f1, f2, _⟩:=hf p.1 hb
    obtain ⟨o, e', d⟩:=ho p.1 hb
    rw [e] at e'; cases e'
    exact ⟨e, f0, f1, f2, d⟩
theorem Inv.unpinned {pins pl : List (Addr × Obj)} {σ : St} {H : Hp} {s : Shared} (I : Inv X (pins ++ pl) σ H s) : Inv X pins σ H s:=I.pins_of λp hp=>I.pin p (List.mem_append_right _ (List.mem_append_left _ hp))
theorem YF {iter : Expr} {body : List Stmt} {wi : TI} {g : TG} {tb : TS} {pos : Pos} (hp : PassesOwn (model X.prog X.w) X.A X.env X.xe) (hc : X.calm = true) (hi : PI X tg iter wi) (hg : PG X tg g) (hb : PSs X body tb)
    (hs : ∀ x, foldedSetIterable iter X.env x = pure x:=by intro _; rfl) : PS X (.For tg iter body [] pos) (Mr wi g tb):=by
  intro pins s σ H D I h
  refine wpAny_For (thn (hi pins s σ H _ I h) λv s1 h1=>thn h1 λitv s2 h2=>?_) hs
  obtain ⟨it, fp, tn, J, H2, e, I2, T, st2, f2, W, ⟨m0, w0⟩, turn⟩:=h2
  subst e
  -- what stays true of the iterator's objects through the loop
  have stat : ∀ {H' : Hp}, (∀ b ∈ fp, H' b = none) -> ∀ b ∈ fp, Gk X pins H' b:=λhn b hb=>⟨hn b hb, (f2 b hb).2⟩
  refine codeAny_forLoop_any (λn s'=>∃ i σ' H', Inv X pins σ' H' s' /\ tn i s'.heap /\ (∀ b ∈ fp, H' b = none) /\ W i n σ' H') ?_ m0 ⟨0, σ, H2, I2, st2, λb hb=>(f2 b hb).1, w0⟩
  rintro n s3 ⟨i, σ3, H3, I3, st3, fr3, w3⟩
  rcases turn i n σ3 H3 w3 with ⟨stop, qn⟩ | ⟨go, N, hN, step⟩
  . refine wpAny_passesOwn hp (thn (T.done X rfl rfl rfl hc i pins s3 σ3 H3 X.xe I3 (stat fr3) st3 stop) λr s4 r9 => ?_)
    obtain ⟨hr, I4⟩:=r9
    subst hr
    exact wpAny_execs_nil ⟨σ3, H3, I4, qn⟩
  . refine wpAny_passesOwn hp (thn (T.item X rfl rfl rfl hc i pins s3 σ3 H3 X.xe I3 (stat fr3) st3 go) λr s4 r9 => ?_)
    obtain ⟨u, hr, h4⟩:=r9
    subst hr
    refine wpAny_passesOwn hp (thn h4 λ_ s5 r9=>?_)
    obtain ⟨x, H5, I5, r5, y5, st5, fr5⟩:=r9
    have I5':=I5.pinned (stat fr5) (T.obj _ _ st5)
    refine wpAny_passesOwn hp (thn (hg _ s5 σ3 H5 x u _ I5' r5 (step x H5 y5)) λ_ s6 r9=>?_)
    obtain ⟨σ6, H6, I6, q6⟩:=r9
    refine wpAny_passesOwn hp (thn (hb _ s6 σ6 H6 _ I6 q6) λf s7 q7=>?_)
    have again : ∀ {σ7 : St} {H7 : Hp}, Inv X (pins ++ U2 fp s5.heap) σ7 H7 s7 -> N σ7 H7 -> ∃ m, m < n /\ ∃ i σ' H', Inv X pins σ' H' s7 /\ tn i s7.heap /\ (∀ b ∈ fp, H' b = none) /\ W i m σ' H':=fun {σ7 H7} I7 n7=>by
      obtain ⟨m', hm, w7⟩:=hN σ7 H7 n7
      refine ⟨m', hm, i + 1, σ7, H7, I7.unpinned, T.keep _ _ _ st5 λb hb o e=>(I7.pin (b, o) (List.mem_append_right _ (List.mem_append_right _ (Jc hb e)))).1, λb hb=>?_, w7⟩
      obtain ⟨o, e, d⟩:=T.obj _ _ st5 b hb
      exact (I7.pin (b, o) (List.mem_append_right _ (List.mem_append_right _ (Jc hb e)))).2.1
    cases f with
    | next=>obtain ⟨σ7, H7, I7, n7⟩:=q7; exact again I7 n7
    | cont=>obtain ⟨σ7, H7, I7, n7⟩:=q7; exact again I7 n7
    | brk=>obtain ⟨σ7, H7, I7, q7⟩:=q7; exact ⟨σ7, H7, I7.unpinned, q7⟩
    | ret v=>obtain ⟨x7, σ7, H7, I7, r7, q7⟩:=q7; exact ⟨x7, σ7, H7, I7.unpinned, r7, q7⟩
end
abbrev R2:=V -> V -> Hp -> VK -> Prop
def OpR (X : Cx) (f : Value -> Value -> Sem Value) (r : R2) : Prop:=
  ∀ (pins : List (Addr × Obj)) (s : Shared) (σ : St) (H : Hp) (x y : V) (v u : Value) (Q : VK), Inv X pins σ H s -> X7 x v -> X7 y u -> r x y H Q ->
    wpAny (model X.prog X.w) X.A (f v u) (EP X pins σ Q) X.xe s
def UnR (X : Cx) (f : Value -> Sem Value) (r : V -> Hp -> VK -> Prop) : Prop:=
  ∀ (pins : List (Addr × Obj)) (s : Shared) (σ : St) (H : Hp) (x : V) (v : Value) (Q : VK), Inv X pins σ H s -> X7 x v -> r x H Q ->
    wpAny (model X.prog X.w) X.A (f v) (EP X pins σ Q) X.xe s
def Qf (X : Cx) (f : Value) (r : List V -> Hp -> VK -> Prop) : Prop:=
  ∀ (pins : List (Addr × Obj)) (s : Shared) (σ : St) (H : Hp) (xs : List V) (us : List Value) (Q : VK), Inv X pins σ H s -> X5 xs us -> r xs H Q ->
    wpAny (model X.prog X.w) X.A (call f us) (EP X pins σ Q) X.xe s
def tOp (r : R2) (ta tb : TE) : TE:=λσ H Q=>ta σ H λx H1=>tb σ H1 λy H2=>r x y H2 Q
def tUn (r : V -> Hp -> VK -> Prop) (ta : TE) : TE:=λσ H Q=>ta σ H λx H1=>r x H1 Q
def rI (C : Int -> Int -> Prop) (g : Int -> Int -> V) : R2:=λx y H Q=>∃ i j, x = .int i /\ y = .int j /\ C i j /\ Q (g i j) H
def rI0 (g : Int -> Int -> V) : R2:=λx y H Q=>∃ i j, x = .int i /\ y = .int j /\ Q (g i j) H
def rU (g : Int -> V) : V -> Hp -> VK -> Prop:=λx H Q=>∃ i, x = .int i /\ Q (g i) H
section
variable {X : Cx} {a b c : Expr} {ta tb tc : TE} {pos : Pos}
theorem MW (ha : PE X a ta) (hb : PE X b tb) {pins : List (Addr × Obj)} {s : Shared} {σ : St} {H : Hp} {R : V -> V -> Hp -> Prop} (I : Inv X pins σ H s)
    (h : ta σ H λx H1=>tb σ H1 λy H2=>R x y H2) {Q : Value -> Shared -> Prop} {f : Value -> Value -> Sem Value}
    (hf : ∀ v u s2 x y H2, Inv X pins σ H2 s2 -> X7 x v -> X7 y u -> R x y H2 -> wpAny (model X.prog X.w) X.A (f v u) Q X.xe s2) :
    wpAny (model X.prog X.w) X.A (eval a X.env) (λv s₁=>wpAny (model X.prog X.w) X.A (eval b X.env) (λu s₂=>wpAny (model X.prog X.w) X.A (f v u) Q X.xe s₂) X.xe s₁) X.xe s:=by
  refine thn (ha pins s σ H _ I h) λv s1 r9=>?_
  obtain ⟨x, H1, I1, r1, q1⟩:=r9
  refine thn (hb pins s1 σ H1 _ I1 q1) λu s2 r9=>?_
  obtain ⟨y, H2, I2, r2, q2⟩:=r9
  exact hf v u s2 x y H2 I2 r1 r2 q2
theorem XB {op : Operator} {r : R2} (ho : OpR X (binaryOp op) r) (ha : PE X a ta) (hb : PE X b tb) : PE X (.BinOp a op b pos) (tOp r ta tb):=by
  intro pins s σ H Q I h
  exact wpAny_BinOp (MW ha hb I h λv u s2 x y H2 I2 rx ry q=>ho pins s2 σ H2 x y v u Q I2 rx ry q)
theorem Ll {op : UnaryOp} {r : V -> Hp -> VK -> Prop} (ho : UnR X (unaryOp op) r) (ha : PE X a ta) : PE X (.UnaryOp op a pos) (tUn r ta):=by
  intro pins s σ H Q I h
  exact UnaryOp_ (thn (ha pins s σ H _ I h) λv s1 r9=>by obtain ⟨x, H1, I1, r1, q1⟩:=r9; exact ho pins s1 σ H1 x v Q I1 r1 q1)
theorem opI {f : Value -> Value -> Sem Value} {C : Int -> Int -> Prop} {g : Int -> Int -> Int}
    (rule : ∀ (i j : Int) (t u : Tok) (s : Shared) (Q : Value -> Shared -> Prop) (E : Value -> Shared -> Prop), C i j -> Q (.int (g i j) s.toks) { s with toks:=s.toks + 1 } -> wpAny (model X.prog X.w) X.A (f (.int i t) (.int j u)) Q E s) :
    OpR X f (rI C λi j=>.int (g i j)):=by
  intro pins s σ H x y v u Q I rx ry h
  obtain ⟨i, j, rfl, rfl, hc, q⟩:=h
  obtain ⟨t, rfl⟩:=rx
  obtain ⟨t', rfl⟩:=ry
  exact rule i j t t' s _ _ hc ⟨.int (g i j), H, I.tok _, ⟨_, rfl⟩, q⟩
theorem Np {f : Value -> Value -> Sem Value} {g : Int -> Int -> Int}
    (rule : ∀ (i j : Int) (t u : Tok) (s : Shared) (Q : Value -> Shared -> Prop) (E : Value -> Shared -> Prop), Q (.int (g i j) s.toks) { s with toks:=s.toks + 1 } -> wpAny (model X.prog X.w) X.A (f (.int i t) (.int j u)) Q E s) :
    OpR X f (rI0 λi j=>.int (g i j)):=by
  intro pins s σ H x y v u Q I rx ry h
  obtain ⟨i, j, rfl, rfl, q⟩:=h
  obtain ⟨t, rfl⟩:=rx
  obtain ⟨t', rfl⟩:=ry
  exact rule i j t t' s _ _ ⟨.int (g i j), H, I.tok _, ⟨_, rfl⟩, q⟩
theorem MC {f : Value -> Value -> Sem Value} {g : Int -> Int -> Bool}
    (rule : ∀ (i j : Int) (t u : Tok) (s : Shared) (Q : Value -> Shared -> Prop) (E : Value -> Shared -> Prop), Q (.bool (g i j)) s -> wpAny (model X.prog X.w) X.A (f (.int i t) (.int j u)) Q E s) :
    OpR X f (rI0 λi j=>.bl (g i j)):=by
  intro pins s σ H x y v u Q I rx ry h
  obtain ⟨i, j, rfl, rfl, q⟩:=h
  obtain ⟨t, rfl⟩:=rx
  obtain ⟨t', rfl⟩:=ry
  exact rule i j t t' s _ _ ⟨.bl (g i j), H, I, rfl, q⟩
def No (i j : Int) : Prop:=0 <= j /\ j <= 1000000 /\ i.natAbs < 2 ^ 64
def Mw (i j : Int) : Prop:=(-(2 ^ 64) < i /\ i < 2 ^ 64) ∨ (-(2 ^ 64) < j /\ j < 2 ^ 64)
theorem Mw.ok {i j : Int} (h : Mw i j) : IntMulOk i j:=by
  rcases h with ⟨h1, h2⟩ | ⟨h1, h2⟩
  . exact .of_left (intBits_le_64 h1 h2)
  . exact .of_right (intBits_le_64 h1 h2)
theorem Yv : OpR X (binaryOp .Add) (rI0 λi j=>.int (i + j)):=Np λ_ _ _ _ _ _ _ q=>add_int q
theorem Qc : OpR X (binaryOp .Sub) (rI0 λi j=>.int (i - j)):=Np λ_ _ _ _ _ _ _ q=>sub_int q
theorem Qo : OpR X (binaryOp .Mult) (rI Mw λi j=>.int (i * j)):=opI λ_ _ _ _ _ _ _ hc q=>mul_int q hc.ok
theorem YJ : OpR X (binaryOp .Mod) (rI (λ_ j=>0 < j) λi j=>.int (i % j)):=opI λi j _ _ _ _ _ hc q=>by
  have h1 : (0 : Int) < j:=hc
  exact mod_int' (by lia) (by rw [Int.fmod_eq_emod_of_nonneg i (by lia)]; exact q)
theorem CY : OpR X (binaryOp .Pow) (rI No λi j=>.int (i ^ j.toNat)):=opI λ_ _ _ _ _ _ _ hc q=>pow_int_small hc.1 hc.2.1 hc.2.2 q
theorem unI {f : Value -> Sem Value} {g : Int -> Int}
    (rule : ∀ (i : Int) (t : Tok) (s : Shared) (Q : Value -> Shared -> Prop) (E : Value -> Shared -> Prop), Q (.int (g i) s.toks) { s with toks:=s.toks + 1 } -> wpAny (model X.prog X.w) X.A (f (.int i t)) Q E s) :
    UnR X f (rU λi=>.int (g i)):=by
  intro pins s σ H x v Q I rx h
  obtain ⟨i, rfl, q⟩:=h
  obtain ⟨t, rfl⟩:=rx
  exact rule i t s _ _ ⟨.int (g i), H, I.tok _, ⟨_, rfl⟩, q⟩
theorem EU : UnR X (unaryOp .USub) (rU λi=>.int (-i)):=unI λ_ _ _ _ _ q=>neg_int q
end
def M6 : V -> V -> Bool
  | .non, .non=>true | .non, .int _=>true | .int _, .non=>true | .non, .bl _=>true | .bl _, .non=>true | .non, .str _=>true | .str _, .non=>true
  | .int _, .int _=>true | .bl _, .bl _=>true | .str _, .str _=>true | .byt _, .byt _=>true
  | .int _, .str _=>true | .str _, .int _=>true | .bl _, .str _=>true | .str _, .bl _=>true
  | _, _=>false
def rEq : R2:=λx y H Q=>M6 x y = true /\ Q (.bl (decide (x = y))) H
def rNe : R2:=λx y H Q=>M6 x y = true /\ Q (.bl (!decide (x = y))) H
theorem CF {i j : Int} : decide (V.int i = V.int j) = (i == j):=by
  rw [Bool.eq_iff_iff]
  simp
theorem EK {i j : Bool} : decide (V.bl i = V.bl j) = (i == j):=by
  rw [Bool.eq_iff_iff]
  simp
theorem DC {i j : Str} : decide (V.str i = V.str j) = (i == j):=by
  rw [Bool.eq_iff_iff]
  simp
theorem F5 {i j : Array UInt8} : decide (V.byt i = V.byt j) = (i.toList == j.toList):=by
  rw [Bool.eq_iff_iff]
  cases i
  cases j
  simp
section
variable {X : Cx} {a b c : Expr} {ta tb tc : TE} {pos : Pos}
theorem X0 {pins : List (Addr × Obj)} {σ : St} {H : Hp} {s : Shared} {Q : VK} {k k' : Bool} (I : Inv X pins σ H s) (q : Q (.bl k) H) (e : k = k') : EP X pins σ Q (.bool k') s:=by
  subst e
  exact ⟨.bl k, H, I, rfl, q⟩
theorem Z5 : OpR X (compareOp .Eq) rEq:=by
  intro pins s σ H x y v u Q I rx ry h
  obtain ⟨hs, q⟩:=h
  cases x with
  | non=>
    cases rx
    cases y with
    | non=>cases ry; exact PySem.EqNone.eq_none_none (X0 I q (by simp))
    | bl j=>cases ry; exact PySem.EqNone.eq_none_bool (X0 I q (by simp))
    | int j=>obtain ⟨t', rfl⟩:=ry; exact PySem.EqNone.eq_none_int (X0 I q (by simp))
    | str j=>obtain ⟨t', rfl⟩:=ry; exact PySem.EqNone.eq_none_str (X0 I q (by simp))
    | _=>exact absurd (show false = true from hs) Bool.false_ne_true
  | bl i=>
    cases rx
    cases y with
    | non=>cases ry; exact PySem.EqNone.eq_bool_none (X0 I q (by simp))
    | bl j=>cases ry; exact eq_bool (X0 I q EK)
    | str j=>obtain ⟨t', rfl⟩:=ry; exact PySem.EqMixed.eq_bool_str (X0 I q (by simp))
    | _=>exact absurd (show false = true from hs) Bool.false_ne_true
  | int i=>
    obtain ⟨t, rfl⟩:=rx
    cases y with
    | non=>cases ry; exact PySem.EqNone.eq_int_none (X0 I q (by simp))
    | int j=>obtain ⟨t', rfl⟩:=ry; exact eq_int (X0 I q CF)
    | str j=>obtain ⟨t', rfl⟩:=ry; exact PySem.EqMixed.eq_int_str (X0 I q (by simp))
    | _=>exact absurd (show false = true from hs) Bool.false_ne_true
  | str i=>
    obtain ⟨t, rfl⟩:=rx
    cases y with
    | non=>cases ry; exact PySem.EqNone.eq_str_none (X0 I q (by simp))
    | bl j=>cases ry; exact PySem.EqMixed.eq_str_bool (X0 I q (by simp))
    | int j=>obtain ⟨t', rfl⟩:=ry; exact PySem.EqMixed.eq_str_int (X0 I q (by simp))
    | str j=>obtain ⟨t', rfl⟩:=ry; exact eq_str (X0 I q DC)
    | _=>exact absurd (show false = true from hs) Bool.false_ne_true
  | byt i=>
    obtain ⟨t, rfl⟩:=rx
    cases y with
    | byt j=>obtain ⟨t', rfl⟩:=ry; exact PySem.W.eq_bytes (X0 I q F5)
    | _=>exact absurd (show false = true from hs) Bool.false_ne_true
  | _=>cases y <;> exact absurd (show false = true from hs) Bool.false_ne_true
theorem FG : OpR X (compareOp .NotEq) rNe:=by
  intro pins s σ H x y v u Q I rx ry h
  obtain ⟨hs, q⟩:=h
  cases x with
  | non=>
    cases rx
    cases y with
    | non=>cases ry; exact PySem.EqNone.ne_none_none (X0 I q (by simp))
    | bl j=>cases ry; exact PySem.EqNone.ne_none_bool (X0 I q (by simp))
    | int j=>obtain ⟨t', rfl⟩:=ry; exact PySem.EqNone.ne_none_int (X0 I q (by simp))
    | str j=>obtain ⟨t', rfl⟩:=ry; exact PySem.EqNone.ne_none_str (X0 I q (by simp))
    | _=>exact absurd (show false = true from hs) Bool.false_ne_true
  | bl i=>
    cases rx
    cases y with
    | non=>cases ry; exact PySem.EqNone.ne_bool_none (X0 I q (by simp))
    | bl j=>cases ry; exact ne_bool (X0 I q (congrArg not EK))
    | str j=>obtain ⟨t', rfl⟩:=ry; exact PySem.EqMixed.ne_bool_str (X0 I q (by simp))
    | _=>exact absurd (show false = true from hs) Bool.false_ne_true
  | int i=>
    obtain ⟨t, rfl⟩:=rx
    cases y with
    | non=>cases ry; exact PySem.EqNone.ne_int_none (X0 I q (by simp))
    | int j=>obtain ⟨t', rfl⟩:=ry; exact ne_int (X0 I q (congrArg not CF))
    | str j=>obtain ⟨t', rfl⟩:=ry; exact PySem.EqMixed.ne_int_str (X0 I q (by simp))
    | _=>exact absurd (show false = true from hs) Bool.false_ne_true
  | str i=>
    obtain ⟨t, rfl⟩:=rx
    cases y with
    | non=>cases ry; exact PySem.EqNone.ne_str_none (X0 I q (by simp))
    | bl j=>cases ry; exact PySem.EqMixed.ne_str_bool (X0 I q (by simp))
    | int j=>obtain ⟨t', rfl⟩:=ry; exact PySem.EqMixed.ne_str_int (X0 I q (by simp))
    | str j=>obtain ⟨t', rfl⟩:=ry; exact ne_str (X0 I q (congrArg not DC))
    | _=>exact absurd (show false = true from hs) Bool.false_ne_true
  | byt i=>
    obtain ⟨t, rfl⟩:=rx
    cases y with
    | byt j=>obtain ⟨t', rfl⟩:=ry; exact PySem.W.ne_bytes (X0 I q (congrArg not F5))
    | _=>exact absurd (show false = true from hs) Bool.false_ne_true
  | _=>cases y <;> exact absurd (show false = true from hs) Bool.false_ne_true
theorem Ui : OpR X (compareOp .Lt) (rI0 λi j=>.bl (decide (i < j))):=MC λ_ _ _ _ _ _ _ q=>lt_int q
theorem Lb : OpR X (compareOp .LtE) (rI0 λi j=>.bl (decide (i <= j))):=MC λ_ _ _ _ _ _ _ q=>le_int q
theorem Di : OpR X (compareOp .Gt) (rI0 λi j=>.bl (decide (j < i))):=MC λ_ _ _ _ _ _ _ q=>gt_int q
theorem Lg : OpR X (compareOp .GtE) (rI0 λi j=>.bl (decide (j <= i))):=MC λ_ _ _ _ _ _ _ q=>ge_int q
theorem U1 : OpR X (compareOp .Is) (λx y H Q=>y = .non /\ Q (.bl (decide (x = .non))) H):=by
  intro pins s σ H x y v u Q I rx ry h
  obtain ⟨rfl, q⟩:=h
  cases ry
  refine is_none_gen (X0 I q ?_)
  cases x <;> first
    | (cases rx; rfl)
    | (obtain ⟨t, rfl⟩:=rx; rfl)
theorem UU : OpR X (compareOp .IsNot) (λx y H Q=>y = .non /\ Q (.bl (!decide (x = .non))) H):=by
  intro pins s σ H x y v u Q I rx ry h
  obtain ⟨rfl, q⟩:=h
  cases ry
  refine isnot_none_gen (X0 I q ?_)
  cases x <;> first
    | (cases rx; rfl)
    | (obtain ⟨t, rfl⟩:=rx; rfl)
theorem XC (b : Expr) {op : CmpOp} (h : op ≠ .In:=by decide) (h2 : op ≠ .NotIn:=by decide) : behindInMarks op b = false:=by
  have e1 : (op == CmpOp.In) = false:=by cases op <;> first | rfl | exact absurd rfl h
  have e2 : (op == CmpOp.NotIn) = false:=by cases op <;> first | rfl | exact absurd rfl h2
  cases b <;> simp [behindInMarks, e1, e2]
theorem JK {op : CmpOp} {r : R2} (ho : OpR X (compareOp op) r) (ha : PE X a ta) (hb : PE X b tb) (hm : behindInMarks op b = false) : PE X (.Compare a [op] [b] pos) (tOp r ta tb):=by
  intro pins s σ H Q I h
  exact wpAny_Compare1 (MW ha hb I h λv u s2 x y H2 I2 rx ry q=>ho pins s2 σ H2 x y v u Q I2 rx ry q) hm
def Mq (t : TE) : TT:=λσ H Q=>t σ H λx H'=>∃ k, x = .bl k /\ Q k H'
theorem Xs {op : CmpOp} {r : R2} (ho : OpR X (compareOp op) r) (ha : PE X a ta) (hb : PE X b tb) (hm : behindInMarks op b = false) : PT X (.Compare a [op] [b] pos) (Mq (tOp r ta tb)):=by
  intro pins s σ H Q I h
  refine wpAny_isTrue_Compare1 (thn (ha pins s σ H _ I h) λv s1 ⟨x, H1, I1, r1, q1⟩=>thn (hb pins s1 σ H1 _ I1 q1) λu s2 ⟨y, H2, I2, r2, q2⟩=>
    thn (ho pins s2 σ H2 x y v u _ I2 r1 r2 q2) λc s3 ⟨z, H3, I3, r3, k, e, q3⟩=>?_) hm
  subst e
  cases r3
  exact wpAny_truthy_bool ⟨H3, I3, q3⟩
def E3 (r r' : R2) (ta tb tc : TE) : TE:=λσ H Q=>ta σ H λx H1=>tb σ H1 λy H2=>r x y H2 λz H3=>∃ k, z = .bl k /\
  (if k = true then tc σ H3 λw' H4=>r' y w' H4 Q else Q (.bl false) H3)
theorem GN {op op' : CmpOp} {r r' : R2} (ho : OpR X (compareOp op) r) (ho' : OpR X (compareOp op') r') (ha : PE X a ta) (hb : PE X b tb) (hc : PE X c tc)
    (hm : lastMarks [op, op'] [b, c] = false:=by with_unfolding_all rfl) : PE X (.Compare a [op, op'] [b, c] pos) (E3 r r' ta tb tc):=by
  intro pins s σ H Q I h
  refine Compare_chain (thn (ha pins s σ H _ I h) λv s1 ⟨x, H1, I1, r1, q1⟩=>chain_link (thn (hb pins s1 σ H1 _ I1 q1) λu s2 ⟨y, H2, I2, r2, q2⟩=>
    thn (ho pins s2 σ H2 x y v u _ I2 r1 r2 q2) λd s3 ⟨z, H3, I3, r3, k, e, q3⟩=>?_)) hm
  subst e
  cases r3
  refine wpAny_truthy_bool ?_
  cases k with
  | false=>exact ite_ff ⟨.bl false, H3, I3, rfl, q3⟩
  | true=>exact ite_tt (chain_last (thn (hc pins s3 σ H3 _ I3 q3) λw' s4 r9=>by obtain ⟨z', H4, I4, r4, q4⟩:=r9; exact ho' pins s4 σ H4 y z' u w' Q I4 r2 r4 q4))
theorem GK : (sizeLine : Nat) < 2 ^ 63:=by rw [sizeLine_eq]; decide
theorem VL {x : V} {us : List Value} (r : X5 [x] us) : ∃ u, us = [u] /\ X7 x u:=by
  cases r with
  | cons r1 r2=>cases r2; exact ⟨_, rfl, r1⟩
theorem MT {x y : V} {us : List Value} (r : X5 [x, y] us) : ∃ u w', us = [u, w'] /\ X7 x u /\ X7 y w':=by
  cases r with
  | cons r1 r2=>
    cases r2 with
    | cons r3 r4=>cases r4; exact ⟨_, _, rfl, r1, r3⟩
theorem G8 : Qf X (.builtin "abs") (λxs H Q=>∃ i, xs = [.int i] /\ Q (.int (if i < 0 then -i else i)) H):=by
  intro pins s σ H xs us Q I r h
  obtain ⟨i, rfl, q⟩:=h
  obtain ⟨u, rfl, t, rfl⟩:=VL r
  exact call_abs_int λu tk=>⟨.int (if i < 0 then -i else i), H, I.tok _, ⟨_, rfl⟩, q⟩
theorem Bi (hc : X.calm = true) : Qf X (.builtin "max") (λxs H Q=>∃ i j, xs = [.int i, .int j] /\ Q (.int (if j > i then j else i)) H):=by
  intro pins s σ H xs us Q I r h
  obtain ⟨i, j, rfl, q⟩:=h
  obtain ⟨u, w', rfl, ⟨t, rfl⟩, ⟨t', rfl⟩⟩:=MT r
  refine max_two_ints (I.ok.hd hc) λh' tk k=>⟨_, H, I.kept k, ?_, q⟩
  by_cases hj : j > i
  . rw [if_pos hj, if_pos hj]; exact ⟨_, rfl⟩
  . rw [if_neg hj, if_neg hj]; exact ⟨_, rfl⟩
end
section
variable {prog : Program} {w : World} {A : Around} {E : Value -> Shared -> Prop} {s : Shared} {K : Fgg} {x dx C f : Addr} {mA : Str -> Option Value} {name : Str} {v : Value}
end
section
variable {P : Program} {w : World} {H H' : Hp} {h h' : Heap} {a C dx : Addr} {fs fs' : List (Str × V)}
end
structure Cls (K : Fgg) (C : Addr) : Prop where
  pg : PySem.W.plainGet K C Str.empty = true
  hd : PySem.W.hasDictIn K C = true
  po : PySem.W.plainOver K C = true
  sa : PySem.W.findIn K (.ref C) "__setattr__" = some (some (.builtin "object.__setattr__"))
theorem Cls.get {K : Fgg} {C : Addr} (c : Cls K C) (f : Str) : PySem.W.plainGet K C f = true:=c.pg
section
variable {X : Cx} {pins : List (Addr × Obj)} {σ : St} {H : Hp} {s : Shared} {a C dx : Addr} {fs : List (Str × V)} {f : Str} {v : V} {A : Around} {E : Value -> Shared -> Prop}
theorem Inv.made (I : Inv X pins σ H s) : Inv X pins σ (upd (upd H s.heap.objs.size (.own (s.heap.objs.size + 1))) (s.heap.objs.size + 1) (.ins C s.heap.objs.size []))
    { s with heap:=(s.heap.push PySem.W.emptyDict).push (PySem.W.instObj C s.heap.objs.size) }:=by
  have e1 : (s.heap.push PySem.W.emptyDict).get? s.heap.objs.size = some PySem.W.emptyDict:=Heap.get?_push_size s.heap rfl
  have e2 : ((s.heap.push PySem.W.emptyDict).push (PySem.W.instObj C s.heap.objs.size)).get? (s.heap.objs.size + 1) = some (PySem.W.instObj C s.heap.objs.size):=by
    have:=Heap.get?_push_size (s.heap.push PySem.W.emptyDict) (o:=PySem.W.instObj C s.heap.objs.size) rfl
    rwa [Heap.size_push] at this
  have e3 : (s.heap.push PySem.W.emptyDict).Ns s.heap.objs.size (λ_=>none):=⟨PySem.W.emptyDict, #[], _, e1, rfl, (λe he=>absurd he (by simp)), λ_=>rfl⟩
  have I1:=I.laid (a:=s.heap.objs.size) (o:=.own (s.heap.objs.size + 1)) (h':=s.heap.push PySem.W.emptyDict) (t':=s.toks) (λb u q=>Qp _ q) (Nat.le_refl _) ⟨_, e1⟩
  refine I1.laid (a:=s.heap.objs.size + 1) (o:=.ins C s.heap.objs.size []) (t':=s.toks) (λb u q=>Qp _ q) (Nat.le_of_eq (Heap.size_push _ _)) ?_
  have ne : s.heap.objs.size ≠ s.heap.objs.size + 1:=Nat.ne_of_lt (Nat.lt_succ_self _)
  refine ⟨by rw [XI ne, Yp], Nat.zero_le _, ne, e2, λ_=>none, (Heap.Ns1.of_empty e3).at λo q=>Qp _ q, λ_=>True.intro, λy hy=>absurd rfl hy⟩
end
section
variable {X : Cx} {o e value : Expr} {f : Str} {pos pos' tpos : Pos} {ta tv : TE}
end
section
variable {X : Cx} {pins : List (Addr × Obj)} {σ : St} {H : Hp} {s : Shared} {A : Around} {E : Value -> Shared -> Prop} {Q : Value -> Shared -> Prop} {c : Value} {b : Bool}
end
structure Room (k : Nat) (A : Around) : Prop where
  hd : A.handled = none
  dp : A.depth + 3 * k + 5 < recursionLimit
  un : A.units + 16 * k + 200 < cLine
theorem Room.mono {j k : Nat} {A : Around} (r : Room k A) (h : j <= k) : Room j A:=⟨r.hd, by have:=r.dp; lia, by have:=r.un; lia⟩
theorem Room.deeper {k : Nat} {A : Around} (r : Room (k + 1) A) (env : Env) : Room k (A.deeper env):=
  ⟨r.hd, by have:=r.dp; show A.depth + 1 + 3 * k + 5 < _; lia, by have:=r.un; show A.units + 3 + 16 * k + 200 < _; lia⟩
theorem Room.in1 {k : Nat} {A : Around} (r : Room (k + 1) A) : Room k A.in1:=
  ⟨r.hd, by have:=r.dp; show A.depth + 3 * k + 5 < _; lia, by have:=r.un; show A.units + 1 + 16 * k + 200 < _; lia⟩
theorem Room.depth {k : Nat} {A : Around} (r : Room k A) : A.depth < recursionLimit:=by have:=r.dp; lia
theorem Room.units {k : Nat} {A : Around} (r : Room k A) : A.units + 64 < cLine:=by have:=r.un; lia
def Zc : TA:=λ_ H Q=>Q [] H
def Xr (ta : TE) (tr : TA) : TA:=λσ H Q=>ta σ H λx H1=>tr σ H1 λxs H2=>Q (x :: xs) H2
section
variable {X : Cx} {e : Expr} {es : List Expr} {te : TE} {t : TA} {pos : Pos}
theorem Xe : PA X [] Zc:=λ_ _ _ _ H Q I h=>Calls.spliced_nil ⟨[], H, I, .nil, h⟩
theorem Xb (ha : PE X e te) (hr : PA X es t) (hs : starEach (e :: es) X.env = (false, eval e X.env) :: starEach es X.env:=by rfl) : PA X (e :: es) (Xr te t):=by
  intro pos pins s σ H Q I h
  rw [hs]
  show wpAny _ _ (spliced ((false, eval e X.env) :: backTo pos (starEach es X.env))) _ _ s
  refine Calls.spliced_cons (thn (ha pins s σ H _ I h) λu s1 r9=>?_)
  obtain ⟨x, H1, I1, r1, q1⟩:=r9
  exact thn (hr pos pins s1 σ H1 _ I1 q1) λus s2 r9=>by obtain ⟨xs, H2, I2, r2, q2⟩:=r9; exact ⟨x :: xs, H2, I2, .cons r1 r2, q2⟩
def IF (t : TA) : TE:=λσ H Q=>t σ H λxs H1=>xs.length <= sizeLine /\ ∀ p, H1 p = none -> Q (.ref p) (upd H1 p (.tup xs))
def BC (t : TA) : TE:=λσ H Q=>t σ H λxs H1=>xs.length <= sizeLine /\ ∀ p, H1 p = none -> Q (.ref p) (upd H1 p (.lst xs))
theorem YL {x1} (h : PA X es t) : PE X (.Tuple es x1 pos) (IF t):=by
  intro pins s σ H Q I hq
  refine wpAny_Tuple_spliced (thn (h pos pins s σ H _ I hq) λus s1 ⟨xs, H1, I1, r, z, q⟩=>⟨by rw [← r.length]; exact z, ?_⟩)
  have hf : H1 s1.heap.objs.size = none:=I1.hok.fresh (Nat.le_refl _)
  refine ⟨.ref s1.heap.objs.size, upd H1 s1.heap.objs.size (.tup xs), I1.laid (t':=s1.toks) (λb u e=>Qp _ e) (Nat.le_refl _) ?_, rfl, q _ hf⟩
  exact ⟨z, us, r, ⟨_, Heap.get?_push_size _ rfl, rfl, _, rfl⟩⟩
theorem X3 (h : PA X es t) : PE X (.List es pos) (BC t):=by
  intro pins s σ H Q I hq
  refine wpAny_List_spliced (thn (h pos pins s σ H _ I hq) λus s1 ⟨xs, H1, I1, r, z, q⟩=>⟨by rw [← r.length]; exact z, ?_⟩)
  have hf : H1 s1.heap.objs.size = none:=I1.hok.fresh (Nat.le_refl _)
  refine ⟨.ref s1.heap.objs.size, upd H1 s1.heap.objs.size (.lst xs), I1.laid (t':=s1.toks) (λb u e=>Qp _ e) (Nat.le_refl _) ?_, rfl, q _ hf⟩
  exact ⟨z, us, 0, r, Heap.get?_push_size _ rfl⟩
end
abbrev Sp:=List V -> Hp -> VK -> XK -> Prop
abbrev CXT:=List Env -> Hp -> Shared -> XK -> Value -> Shared -> Prop
structure Env0 (P : Program) (w : World) (K : Fgg) (mg : Str -> Option Value) (base : Heap) (A : Around) (outer : List Env) (s : Shared) (H : Hp) : Prop where
  frames : A.frames = some outer
  mod : Mod K mg base
  bs : ∀ b o, base.get? b = some o -> s.heap.get? b = some o /\ H b = none
  bsz : base.objs.size <= s.heap.objs.size
  funs : s.heap.FunFrames base outer
  frf : ∀ b ∈ frs outer, H b = none
  hok : HOk P w H s.heap
  bare : AllBare s.gens
def CE (outer : List Env) (P : Program) (w : World) (H : Hp) (s : Shared) (Q : VK) (u : Value) (s' : Shared) : Prop:=
  ∃ v H', s'.os = s.os /\ AllBare s'.gens /\ Un (frs outer) [] H H' s.heap s'.heap /\ HOk P w H' s'.heap /\ X7 v u /\ Q v H'
def CR (CX : CXT) (outer : List Env) (P : Program) (w : World) (H : Hp) (s : Shared) (Q : VK) (E : XK) (r : Result) (s' : Shared) : Prop:=
  match r with
  | .ok (.ret u)=>CE outer P w H s Q u s'
  | .ok _=>False
  | .error e=>CX outer H s E e s'
structure FnOk (P : Program) (w : World) (K : Fgg) (mg : Str -> Option Value) (base : Heap) (CX : CXT) (k : Nat) (f : Addr) (fd : FuncData) (ps : List Str) (sp : Sp) : Prop where
  len : ∀ vs H Q E, sp vs H Q E -> vs.length = ps.length
  run : ∀ (A : Around) (outer : List Env) (s : Shared) (H : Hp) (args : Args) (us : List Value) (vs : List V) (Q : VK) (E : XK), Room k A -> Env0 P w K mg base A outer s H -> BindsTo s fd args (ps.zip us) -> X5 vs us -> sp vs H Q E ->
    codeAny (model P w) A (.call (.ref f) args) (CR CX outer P w H s Q E) s
theorem FnOk.mono {P : Program} {w : World} {K : Fgg} {mg : Str -> Option Value} {base : Heap} {CX : CXT} {j k : Nat} {f : Addr} {fd : FuncData} {ps : List Str} {sp : Sp} (F : FnOk P w K mg base CX j f fd ps sp) (h : j <= k) :
    FnOk P w K mg base CX k f fd ps sp:=⟨F.len, λA outer s H args us vs Q E hr=>F.run A outer s H args us vs Q E (hr.mono h)⟩
theorem FnOk.imp {P : Program} {w : World} {K : Fgg} {mg : Str -> Option Value} {base : Heap} {CX : CXT} {k : Nat} {f : Addr} {fd : FuncData} {ps : List Str} {sp sp' : Sp} (F : FnOk P w K mg base CX k f fd ps sp)
    (h : ∀ vs H Q E, sp' vs H Q E -> sp vs H Q E) : FnOk P w K mg base CX k f fd ps sp':=
  ⟨λvs H Q E q=>F.len vs H Q E (h _ _ _ _ q), λA outer s H args us vs Q E hr he hb hv hs=>F.run A outer s H args us vs Q E hr he hb hv (h _ _ _ _ hs)⟩
theorem Env0.in1 {P : Program} {w : World} {K : Fgg} {mg : Str -> Option Value} {base : Heap} {A : Around} {outer : List Env} {s : Shared} {H : Hp} (e : Env0 P w K mg base A outer s H) :
    Env0 P w K mg base A.in1 outer s H:=⟨e.frames, e.mod, e.bs, e.bsz, e.funs, e.frf, e.hok, e.bare⟩
section
variable {X : Cx} {pins : List (Addr × Obj)} {σ : St} {H : Hp} {s s' : Shared}
theorem Inv.env0 (I : Inv X pins σ H s) : Env0 X.prog X.w X.K X.mg X.base X.A X.stack s H:=
  ⟨I.ok.frames, I.ok.mod, I.bs, Nat.le_trans I.ok.bsz I.sz, I.stack, I.stkFree, I.hok, I.bare⟩
theorem Inv.after {Q : VK} {u : Value} (I : Inv X pins σ H s) (h : CE X.stack X.prog X.w H s Q u s') : EP X pins σ Q u s':=by
  obtain ⟨v, H', os, bare, un, hok, r, q⟩:=h
  obtain ⟨hh, g, d, t, os'⟩:=s'
  obtain rfl : os' = s.os:=os
  exact ⟨v, H', I.call (h':=hh) (g':=g) (d':=d) (t':=t) (ch:=[]) un hok bare (λb z=>absurd z (by simp)), r, q⟩
end
def QM (sp : Sp) (dvs : List V) (E : XK) (t : TA) : TE:=λσ H Q=>t σ H λvs H1=>sp (vs ++ dvs) H1 Q E
def Kf (K : Fgg) (fd : FuncData) (ps : List Str) (ds : List Value) : Prop:=
  ∀ (s : Shared) (us : List Value), K.In s.heap -> (us ++ ds).length = ps.length -> BindsTo s fd ⟨us, []⟩ (ps.zip (us ++ ds))
theorem Kf.all {K : Fgg} {fd : FuncData} {ps : List Str} (h : ∀ us : List Value, us.length = ps.length -> bindArgs fd ⟨us, []⟩ = pure (ps.zip us)) : Kf K fd ps []:=λs us _ hl=>by
  rw [List.append_nil] at hl ⊢
  exact .of_eq (h us hl)
def Vy (CX : CXT) (X : Cx) (E : XK) : Prop:=∀ (pins : List (Addr × Obj)) (σ : St) (H : Hp) (s : Shared) (e : Value) (s' : Shared), Inv X pins σ H s -> CX X.stack H s E e s' -> X.xe e s'
section
variable {X : Cx} {CX : CXT} {k : Nat} {f C : Addr} {fd : FuncData} {ps : List Str} {sp : Sp} {dvs : List V} {ds : List Value} {E : XK} {x m : Str} {p pos apos : Pos} {e o : Expr} {es : List Expr} {ta : TE} {t : TA}
theorem Lp {pins : List (Addr × Obj)} {σ : St} {H : Hp} {s : Shared} {Q : VK} {us : List Value} {vs : List V} (F : FnOk X.prog X.w X.K X.mg X.base CX k f fd ps sp) (hr : Room k X.A) (hb : Kf X.K fd ps ds) (hd : X5 dvs ds) (hx : Vy CX X E)
    (I : Inv X pins σ H s) (r : X5 vs us) (h : sp (vs ++ dvs) H Q E) : wpAny (model X.prog X.w) X.A (call (.ref f) us) (EP X pins σ Q) X.xe s:=by
  have r2 : X5 (vs ++ dvs) (us ++ ds):=r.append hd
  have hl : (us ++ ds).length = ps.length:=by rw [← r2.length]; exact F.len _ _ _ _ h
  refine wpAny_call (codeAny_mono (F.run X.A X.stack s H ⟨us, []⟩ (us ++ ds) (vs ++ dvs) Q E hr I.env0 (hb s us I.kIn hl) r2 h) λr s' hq=>?_)
  cases r with
  | error e=>exact hx pins σ H s e s' I hq
  | ok fl=>
    cases fl with
    | ret u=>exact I.after hq
    | next=>exact False.elim hq
    | brk=>exact False.elim hq
    | cont=>exact False.elim hq
theorem Co (F : FnOk X.prog X.w X.K X.mg X.base CX k f fd ps sp) (hr : Room k X.A) (hg : Gl X x) (hm : X.mg x = some (.ref f)) (hk : PySem.W.keepIn X.K (.ref f) = true) (hb : Kf X.K fd ps ds) (hd : X5 dvs ds) (hx : Vy CX X E)
    (ha : PA X (e :: es) t) (hdb : (x == ("__debug__" : Str)) = false:=by decide) (he : starEach (e :: es) X.env = (false, eval e X.env) :: starEach es X.env:=by rfl) (hpl : (backTo pos (starEach es X.env)).any (·.1) = false:=by rfl) :
    PE X (.Call (.Name x p) (e :: es) [] pos) (QM sp dvs E t):=by
  intro pins s σ H Q I h
  refine wpAny_Call_Name_kw (Uz I hg hm ?_ hdb)
  refine PySem.W.callWith_K (h₀:=X.base) I.ok.mod.kin hk (thn (ha pos pins s σ H _ I h) λus s1 ⟨vs, H1, I1, r, q⟩=>⟨I1.kIn, ?_⟩) he hpl
  exact Lp F hr hb hd hx I1 r q
end
section
variable {X : Cx} {CX : CXT} {k : Nat} {f C : Addr} {fd : FuncData} {ps ks : List Str} {sp : Sp} {E : XK} {x m : Str} {p pos apos kpos : Pos} {e o : Expr} {es : List Expr} {kws : List Keyword} {te ta : TE} {t tk : TA} {nm : Option Str}
variable {g : List Value -> List Value -> List Value} {gV : List V -> List V -> List V}
end
structure FnScope (N P : List Str) (sc : Scope) : Prop where
  kind : sc.kind = .function
  co : sc.isCoroutine = false
  gen : sc.isGenerator = false
  nd : N.Nodup
  pre : N.take P.length = P
  par : ∀ x ∈ P, sc.names.lookup x = some .local ∨ sc.names.lookup x = some .cell
  nofree : ∀ y ∈ sc.names, y.2 ≠ .free
theorem Kl {kindOf : Str -> Option NameKind} {x : Str} : ∀ {binds : List (Str × Value)} {m : Str -> Option Value}, (∀ v, (x, v) ∉ binds) -> bindL kindOf binds m x = m x
  | [], _, _=>rfl
  | (n, v) :: r, m, h=>by
    unfold bindL
    rw [Kl λw hw=>h w (ZP _ hw)]
    split
    . have : x ≠ n := by rintro rfl; exact h v Zq
      simp [this]
    . rfl
theorem Kq {kindOf : Str -> Option NameKind} {x : Str} : ∀ {binds : List (Str × Value)} {m : Str -> Option Value}, (∀ v, (x, v) ∉ binds) -> bindC kindOf binds m x = m x
  | [], _, _=>rfl
  | (n, v) :: r, m, h=>by
    unfold bindC
    rw [Kq λw hw=>h w (ZP _ hw)]
    split
    . rfl
    . have : x ≠ n := by rintro rfl; exact h v Zq
      simp [this]
theorem KJ {kindOf : Str -> Option NameKind} {x : Str} {v : Value} : ∀ {P : List Str} {vs : List Value} {i : Nat} {m : Str -> Option Value}, P.Nodup -> P[i]? = some x -> vs[i]? = some v -> kindOf x = some .local ->
    bindL kindOf (P.zip vs) m x = some v
  | [], _, _, _, _, h, _, _=>by simp at h
  | _ :: _, [], _, _, _, _, h, _=>by simp at h
  | p :: P, w :: vs, 0, m, nd, h1, h2, hk=>by
    simp at h1 h2; subst h1; subst h2
    show bindL kindOf ((p, w) :: P.zip vs) m p = _
    unfold bindL
    rw [Kl λv hv=>(List.nodup_cons.mp nd).1 (List.of_mem_zip hv).1, if_pos hk]
    simp
  | p :: P, w :: vs, i + 1, m, nd, h1, h2, hk=>by
    show bindL kindOf ((p, w) :: P.zip vs) m x = _
    unfold bindL
    exact KJ (i:=i) (List.nodup_cons.mp nd).2 (by simpa using h1) (by simpa using h2) hk
theorem Km {kindOf : Str -> Option NameKind} {x : Str} {v : Value} : ∀ {P : List Str} {vs : List Value} {i : Nat} {m : Str -> Option Value}, P.Nodup -> P[i]? = some x -> vs[i]? = some v -> kindOf x ≠ some .local ->
    bindC kindOf (P.zip vs) m x = some v
  | [], _, _, _, _, h, _, _=>by simp at h
  | _ :: _, [], _, _, _, _, h, _=>by simp at h
  | p :: P, w :: vs, 0, m, nd, h1, h2, hk=>by
    simp at h1 h2; subst h1; subst h2
    show bindC kindOf ((p, w) :: P.zip vs) m p = _
    unfold bindC
    rw [Kq λv hv=>(List.nodup_cons.mp nd).1 (List.of_mem_zip hv).1, if_neg hk]
    simp
  | p :: P, w :: vs, i + 1, m, nd, h1, h2, hk=>by
    show bindC kindOf ((p, w) :: P.zip vs) m x = _
    unfold bindC
    exact Km (i:=i) (List.nodup_cons.mp nd).2 (by simpa using h1) (by simpa using h2) hk
def VM (N : List Str) (vs : List V) : St:=vs.map some ++ List.replicate (N.length - vs.length) none
def Fs (CX : CXT) (P : Program) (w : World) (K : Fgg) (mg : Str -> Option Value) (base : Heap) (N : List Str) (qual : Str) (scope : Scope) (f : Addr) (cd : Value) (A : Around) (outer : List Env) (s : Shared) (H : Hp) (E : XK) : Cx where
  prog:=P
  w:=w
  K:=K
  mg:=mg
  base:=base
  A:=A.deeper (envOfC qual scope s.heap.objs.size f cd)
  N:=N
  s₀:=s
  H₀:=H
  env:=envOfC qual scope s.heap.objs.size f cd
  outer:=outer
  stack:=envOfC qual scope s.heap.objs.size f cd :: outer
  ex:=[]
  calm:=true
  fn:=λ_=>true
  pn:=[]
  xe:=λe s'=>wpAny (model P w) (A.deeper (envOfC qual scope s.heap.objs.size f cd)) (leaving (envOfC qual scope s.heap.objs.size f cd) e) (λ_ s''=>CX outer H s E e s'') (λe' s''=>CX outer H s E e' s'') s'
theorem GR {sc : Scope} {n : Nat} {x : Str} (h : sc.names.lookup x = some .cell) : ∃ c, (cellsFrom n sc.names []).lookup x = some c:=by
  have q:=PySem.W.cellsFrom_some sc.names n [] (.inl h)
  exact Option.isSome_iff_exists.mp q
theorem Ca {CX : CXT} {P : Program} {w : World} {K : Fgg} {mg : Str -> Option Value} {base : Heap} {N ps : List Str} {qual : Str} {scope : Scope} {f : Addr} {cd : Value} {A : Around} {outer : List Env} {s s1 : Shared} {H : Hp} {E : XK} {us : List Value} {vs : List V}
    (S : FnScope N ps scope) (hd : A.handled = none) (e0 : Env0 P w K mg base A outer s H) (hl : vs.length = ps.length) (r : X5 vs us)
    (x : InCallC s s.heap.objs.size (bindL (envOfC qual scope s.heap.objs.size f cd).kindOf (ps.zip us) λ_=>none) (cellsFrom (s.heap.objs.size + 1) scope.names []) (bindC (envOfC qual scope s.heap.objs.size f cd).kindOf (ps.zip us) λ_=>none) s1) :
    Inv (Fs CX P w K mg base N qual scope f cd A outer s H E) [] (VM N vs) H s1:=by
  have hpl : ps.length <= N.length:=by have:=congrArg List.length S.pre; rw [List.length_take] at this; lia
  obtain ⟨h1, tk, rfl, hk⟩:=x.done
  have noA : ∀ b : Addr, b ∉ (Fs CX P w K mg base N qual scope f cd A outer s H E).ex:=λb z=>absurd (show b ∈ ([] : List Addr) from z) (by simp)
  refine ⟨⟨e0.mod, S.kind, rfl, rfl, Nat.le_refl _, λy z c h1 h2=>?_, λy hy=>?_, λy c _ h=>?_, λ_=>hd, Around.frames_deeper e0.frames, .inr ⟨rfl, rfl⟩, λb z=>absurd z (noA b), e0.bs, e0.bsz, λb _ _=>noA b, λb z=>absurd z (noA b), e0.funs, e0.frf⟩,
    rfl, e0.bare, Un.kept hk, ⟨_, x.toInCall.ns, λi y v h1 h2 h3=>?_⟩, λy c h=>⟨_, x.cell y c h⟩, e0.hok.fresh (Nat.le_refl _), λy c h=>?_, λp hp=>absurd (show p ∈ ([] : List (Addr × Obj)) from hp) (by simp), e0.hok.kept hk, ?_⟩
  . exact name_of_addr x.apart (PySem.mem_of_lookup h1) (PySem.mem_of_lookup h2)
  . have hy : scope.names.lookup y = some .cell ∨ scope.names.lookup y = some .free := hy
    rcases hy with hy | hy
    . exact GR hy
    . exact absurd rfl (S.nofree _ (PySem.mem_of_lookup hy))
  . exact Nat.le_of_lt (x.above y c (PySem.mem_of_lookup h))
  . have hi : i < vs.length:=by
      unfold VM at h2
      by_cases hi : i < vs.length
      . exact hi
      . rw [List.getElem?_append_right (by simpa using hi)] at h2
        rw [List.getElem?_replicate] at h2
        split at h2 <;> cases h2
    have ha : vs[i]? = some v:=by
      unfold VM at h2
      rw [List.getElem?_append_left (by simpa using hi), List.getElem?_map] at h2
      cases e : vs[i]? with
      | none=>rw [e] at h2; cases h2
      | some a=>rw [e] at h2; cases h2; rfl
    obtain ⟨u, hu, rv⟩:=r.get ha
    have hp : ps[i]? = some y:=by
      rw [← S.pre, List.getElem?_take_of_lt (by lia)]; exact h1
    have ndP : ps.Nodup:=by rw [← S.pre]; exact S.nd.sublist (List.take_sublist _ _)
    refine ⟨u, rv, ?_⟩
    rcases S.par y (List.mem_of_getElem? hp) with k | k
    . exact .inl ⟨k, KJ ndP hp hu k⟩
    . obtain ⟨c, e⟩ := GR (n := s.heap.objs.size + 1) k
      refine .inr ⟨.inl k, c, e, ?_⟩
      have q:=x.cell y c e
      rw [Km ndP hp hu (by show scope.names.lookup y ≠ _; rw [k]; decide)] at q
      exact q
  . exact e0.hok.fresh (Nat.le_of_lt (x.above y c (PySem.mem_of_lookup h)))
  . unfold VM
    show _ = N.length
    rw [List.length_append, List.length_map, List.length_replicate]
    lia
theorem IX {CX : CXT} {P : Program} {w : World} {K : Fgg} {mg : Str -> Option Value} {base : Heap} {k : Nat} {f : Addr} {name qual : Str} {params : Arguments} {body : List Stmt} {scope : Scope} {dV kV doc pm cdv ct oc : Value} {an od : Option Addr}
    {osl : Array (Option Value)} {N ps : List Str} {sp : Sp} (lk : K.lookup f = some ⟨oc, od, .func (PySem.W.fnOf name qual params body scope dV kV doc pm an cdv ct), osl⟩) (hcd : PySem.W.codeIn K cdv qual = true) (S : FnScope N ps scope)
    (len : ∀ vs H Q E, sp vs H Q E -> vs.length = ps.length)
    (hbody : ∀ (A : Around) (outer : List Env) (s : Shared) (H : Hp) (vs : List V) (Q : VK) (E : XK), Room k (A.deeper (envOfC qual scope s.heap.objs.size f cdv)) -> sp vs H Q E ->
      ∃ t, PSs (Fs CX P w K mg base N qual scope f cdv A outer s H E) body t /\ t { nx:=λ_ H'=>Q .non H', rt:=Q } (VM N vs) H) :
    FnOk P w K mg base CX (k + 1) f (PySem.W.fnOf name qual params body scope dV kV doc pm an cdv ct) ps sp:=by
  refine ⟨len, λA outer s H args us vs Q E hr e0 hb r hsp=>?_⟩
  have hl:=len _ _ _ _ hsp
  have KX : K.In s.heap:=e0.mod.kin.keeps λb o e=>(e0.bs b o e).1
  have lim : s.heap.NoLimit:=e0.mod.nolimit.keeps λb o e=>(e0.bs b o e).1
  have hkind : ∀ y ∈ ps.zip us, scope.names.lookup y.1 = some .local ∨ (scope.names.lookup y.1 = some .cell /\ ((cellsFrom (s.heap.objs.size + 1) scope.names []).lookup y.1).isSome = true):=λ⟨n, v⟩ hy=>by
    rcases S.par n (List.of_mem_zip hy).1 with q | q
    . exact .inl q
    . exact .inr ⟨q, PySem.W.cellsFrom_some _ _ _ (.inl q)⟩
  refine codeAny_call_function hr.depth (KX _ _ lk) rfl S.co S.gen rfl (PySem.W.codeRec_of KX hcd) (hb _ _ _ _ ?_)
  refine wpAny_newFunctionEnv_cells S.kind hkind λenv he s1 x=>?_
  subst he
  refine ⟨lim.keeps x.toInCall.keep, codeAny_func ?_⟩
  obtain ⟨t, ht, hq⟩:=hbody A outer s H vs Q E (hr.deeper _) hsp
  have I : Inv (Fs CX P w K mg base N qual scope f cdv A outer s H E) [] (VM N vs) H s1:=Ca S hr.hd e0 hl r x
  refine wpAny_mono (ht [] s1 (VM N vs) H _ I hq) (λfl s' hs=>?_) λe s' hs=>hs
  have fin : ∀ {σ' : St} {H' : Hp} {v : V} {u : Value}, Inv (Fs CX P w K mg base N qual scope f cdv A outer s H E) [] σ' H' s' -> X7 v u -> Q v H' -> CE outer P w H s Q u s':=
    fun {σ' H' v u} J rv q=>⟨v, H', J.os, J.bare, J.base, J.hok, rv, q⟩
  cases fl with
  | ret u=>
    obtain ⟨v, σ', H', J, rv, q⟩:=hs
    exact fin J rv q
  | next=>
    obtain ⟨σ', H', J, q⟩:=hs
    exact fin (v:=V.non) (u:=Value.none) J rfl q
  | brk=>
    obtain ⟨_, _, _, q⟩:=hs
    exact False.elim q
  | cont=>
    obtain ⟨_, _, _, q⟩:=hs
    exact False.elim q
section
variable {X : Cx} {x : Str} {p pos : Pos} {e : Expr} {es : List Expr} {t : TA} {id T : String} {r : List V -> Hp -> VK -> Prop}
def tCB (r : List V -> Hp -> VK -> Prop) (t : TA) : TE:=λσ H Q=>t σ H λvs H1=>r vs H1 Q
theorem Xt (hc : Qf X (.builtin id) r) (hg : Gl X x) (hm : X.mg x = none) (hv : bootBuiltins x = some (.builtin id)) (ha : PA X (e :: es) t) (hn : x ≠ "__name__":=by decide) (hdb : (x == ("__debug__" : Str)) = false:=by decide)
    (he : starEach (e :: es) X.env = (false, eval e X.env) :: starEach es X.env:=by rfl) (hpl : (backTo pos (starEach es X.env)).any (·.1) = false:=by rfl) : PE X (.Call (.Name x p) (e :: es) [] pos) (tCB r t):=by
  intro pins s σ H Q I h
  refine wpAny_Call_Name_kw (Jm I hg hm hv ?_ hn hdb)
  exact PyProof.Rows.callWith_builtin1 (thn (ha pos pins s σ H _ I h) λus s1 r9=>by obtain ⟨vs, H1, I1, r1, q1⟩:=r9; exact hc pins s1 σ H1 vs us Q I1 r1 q1) he hpl
theorem YW (hc : Qf X (.type T) r) (hg : Gl X x) (hm : X.mg x = none) (hv : bootBuiltins x = some (.type T)) (ha : PA X (e :: es) t) (hn : x ≠ "__name__":=by decide) (hdb : (x == ("__debug__" : Str)) = false:=by decide)
    (he : starEach (e :: es) X.env = (false, eval e X.env) :: starEach es X.env:=by rfl) (hpl : (backTo pos (starEach es X.env)).any (·.1) = false:=by rfl) : PE X (.Call (.Name x p) (e :: es) [] pos) (tCB r t):=by
  intro pins s σ H Q I h
  refine wpAny_Call_Name_kw (Jm I hg hm hv ?_ hn hdb)
  exact PyProof.Rows.callWith_type1 (thn (ha pos pins s σ H _ I h) λus s1 r9=>by obtain ⟨vs, H1, I1, r1, q1⟩:=r9; exact hc pins s1 σ H1 vs us Q I1 r1 q1) he hpl
end
end L2
namespace HT
open PySem PyProof.Rows
section
open PySem.SeqAt
open PySem.AutoSeq1 (wpAny_loadPart')
open PySem.MeetsSeq PySem.MeetsSeq2 PySem.MeetsSeq3
end
section
variable {prog : Program} {w : World} {A : Around} {E : Value -> Shared -> Prop} {s : Shared}
theorem cat_tup {t b : Addr} {vs ws : List Value} {Q : Value -> Shared -> Prop} (ht : IsTup s.heap t vs.toArray) (hb : IsTup s.heap b ws.toArray) (hv : vs ≠ [])
    (h1 : ws = [] -> Q (.ref t) s) (h2 : ws ≠ [] -> Q (.ref s.heap.objs.size) { s with heap:=s.heap.push { cls:=.type "tuple", data:=.seq (vs ++ ws).toArray } })
    (hsz : vs.length + ws.length <= sizeLine) : wpAny (model prog w) A (binaryOp .Add (.ref t) (.ref b)) Q E s:=by
  obtain ⟨⟨cls, dd, data, sl⟩, ho, hc, n, hd⟩:=id ht
  obtain ⟨⟨cls2, dd2, data2, sl2⟩, ho2, hc2, n2, hd2⟩:=id hb
  simp only at hc hd hc2 hd2
  subst hc hd hc2 hd2
  have e : vs.toArray ++ ws.toArray = (vs ++ ws).toArray:=by simp
  by_cases hw : ws = []
  . exact concat_meets ⟨_, ho, rfl⟩ ⟨_, ho2, rfl⟩ noFill_tuple_add seq_tuple_add PySem.F.slot_tuple_add PySem.F.entry_tuple_add (PySem.F.args_tuple_add_2 _ _)
      (tuple_addW1 t b vs.toArray ws.toArray n n2 dd dd2 sl sl2 (by simpa using hv) (by simp [hw])) ⟨ho, ho2, h1 hw⟩
  . refine concat_meets ⟨_, ho, rfl⟩ ⟨_, ho2, rfl⟩ noFill_tuple_add seq_tuple_add PySem.F.slot_tuple_add PySem.F.entry_tuple_add (PySem.F.args_tuple_add_2 _ _)
      (tuple_addW2 t b vs.toArray ws.toArray n n2 dd dd2 sl sl2 (by simpa using hv) (by simpa using hw) (by rw [List.size_toArray, List.size_toArray]; exact hsz)) ⟨ho, ho2, ?_⟩
    rw [e]
    exact h2 hw
def sIx (n d : Nat) : Option Int -> Nat
  | none=>d
  | some v=>if v < 0 then (v + (n : Int)).toNat else min v.toNat n
theorem sIx_none (n d : Nat) : sIx n d none = d:=rfl
theorem sIx_nat (n d k : Nat) : sIx n d (some (k : Int)) = min k n:=by
  show (if (k : Int) < 0 then ((k : Int) + (n : Int)).toNat else min (k : Int).toNat n) = min k n
  rw [if_neg (by lia), Int.toNat_natCast]
end
end HT
namespace L2
open PySem PySem.Spec PyProof.Rows
abbrev TO:=St -> Hp -> (Option Int -> Hp -> Prop) -> Prop
def PO (X : Cx) (e : Option Expr) (t : TO) : Prop:=
  ∀ (pins : List (Addr × Obj)) (s : Shared) (σ : St) (H : Hp) (Q : Option Int -> Hp -> Prop), Inv X pins σ H s -> t σ H Q ->
    wpAny (model X.prog X.w) X.A (evalPart e X.env) (λu s'=>∃ o H', Inv X pins σ H' s' /\ IsPart u o /\ Q o H') X.xe s
def Cb : TO:=λ_ H Q=>Q none H
def I9 (t : TE) : TO:=λσ H Q=>t σ H λx H1=>∃ i, x = .int i /\ Q (some i) H1
section
variable {X : Cx} {e : Expr} {te : TE} {lo hi : Option Expr} {tl th : TO} {pos p2 : Pos}
theorem Ue : PO X none Cb:=by
  intro pins s σ H Q I h
  rw [evalPart_none]
  exact wpAny_pure ⟨none, H, I, .none, h⟩
theorem UH (h : PE X e te) : PO X (some e) (I9 te):=by
  intro pins s σ H Q I hw
  rw [evalPart_some]
  refine thn (h pins s σ H _ I hw) λu s1 r9=>?_
  obtain ⟨x, H1, I1, r1, q1⟩:=r9
  obtain ⟨i, rfl, q⟩:=q1
  obtain ⟨t, rfl⟩:=r1
  exact ⟨some i, H1, I1, .int i t, q⟩
def SlR (X : Cx) (r : V -> Option Int -> Option Int -> Hp -> VK -> Prop) : Prop:=
  ∀ (pins : List (Addr × Obj)) (s : Shared) (σ : St) (H : Hp) (x : V) (v vl vu : Value) (lo hi : Option Int) (sl : Addr) (Q : VK), Inv X pins σ H s -> X7 x v -> s.heap.IsSliceOf sl vl vu .none -> IsPart vl lo -> IsPart vu hi -> r x lo hi H Q ->
    ∃ T id, typeLookup (.type T) "__getitem__" = pure (some (.builtin id)) /\ s.TypeIs v T /\ wpAny (model X.prog X.w) X.A (getItem v (.ref sl)) (EP X pins σ Q) X.xe s
def tSl (r : V -> Option Int -> Option Int -> Hp -> VK -> Prop) (te : TE) (tl th : TO) : TE:=λσ H Q=>te σ H λx H1=>tl σ H1 λl H2=>th σ H2 λu H3=>r x l u H3 Q
theorem Jz {r : V -> Option Int -> Option Int -> Hp -> VK -> Prop} (hr : SlR X r) (he : PE X e te) (hl : PO X lo tl) (hu : PO X hi th) : PE X (.Subscript e (.Slice lo hi none p2) pos) (tSl r te tl th):=by
  intro pins s σ H Q I h
  refine Subscript_ (thn (he pins s σ H _ I h) λv s1 r9=>?_)
  obtain ⟨x, H1, I1, r1, q1⟩:=r9
  refine wpAny_Slice (thn (hl pins s1 σ H1 _ I1 q1) λvl s2 ⟨l, H2, I2, pl, q2⟩=>thn (hu pins s2 σ H2 _ I2 q2) λvu s3 r9=>?_)
  obtain ⟨u, H3, I3, pu, q3⟩:=r9
  rw [evalPart_none]
  refine wpAny_pure ?_
  have I4 : Inv X pins σ H3 { s3 with heap:=s3.heap.push { cls:=.type "slice", data:=.fields #[vl, vu, .none] } }:=I3.kept (t':=s3.toks) λb ob q=>Qp _ q
  obtain ⟨T, id, hT, ht, hg⟩:=hr pins { s3 with heap:=s3.heap.push { cls:=.type "slice", data:=.fields #[vl, vu, .none] } } σ H3 x v vl vu l u s3.heap.objs.size Q I4 r1 (Heap.IsSliceOf.new ..) pl pu q3
  show wpAny (model X.prog X.w) X.A (subscriptTail e (.Slice lo hi none p2) v (.ref s3.heap.objs.size)) (EP X pins σ Q) X.xe { s3 with heap:=s3.heap.push { cls:=.type "slice", data:=.fields #[vl, vu, .none] } }
  exact tail_any (ops:=[.ref s3.heap.objs.size, v]) ht hT hg (by with_unfolding_all rfl)
def IJ (xs : List V) (lo hi : Option Int) : List V:=(xs.drop (HT.sIx xs.length 0 lo)).take (HT.sIx xs.length xs.length hi - HT.sIx xs.length 0 lo)
theorem KZ (xs : List V) (lo hi : Option Int) : (IJ xs lo hi).length <= xs.length:=by
  unfold IJ
  rw [List.length_take, List.length_drop]
  lia
def M7 (K : Fgg) : R2:=λx y H Q=>∃ a b xs ys, x = .ref a /\ y = .ref b /\ SqT K H a xs /\ SqT K H b ys /\ xs ≠ [] /\ xs.length + ys.length <= sizeLine /\
  (ys = [] -> Q (.ref a) H) /\ (ys ≠ [] -> ∀ p, H p = none -> Q (.ref p) (upd H p (.tup (xs ++ ys))))
theorem X5.nil_iff {xs : List V} {us : List Value} (r : X5 xs us) : us = [] ↔ xs = []:=by
  cases r with
  | nil=>simp
  | cons _ _=>simp
theorem Hc : OpR X (binaryOp .Add) (M7 X.K):=by
  intro pins s σ H x y v u Q I rx ry h
  obtain ⟨a, b, xs, ys, rfl, rfl, ha, hb, hx, hz, q1, q2⟩:=h
  cases rx
  cases ry
  obtain ⟨its, r1, p1, _⟩:=I.tuple ha
  obtain ⟨its2, r2, p2, _⟩:=I.tuple hb
  refine HT.cat_tup p1 p2 (λz=>hx (r1.nil_iff.mp z)) (λz=>⟨.ref a, H, I, rfl, q1 (r2.nil_iff.mp z)⟩) (λz=>?_) (by rw [← r1.length, ← r2.length]; exact hz)
  refine ⟨.ref s.heap.objs.size, _, I.laid (t':=s.toks) (o:=.tup (xs ++ ys)) (λb ob q=>Qp _ q) (Nat.le_refl _) ?_, rfl, q2 (λw=>z (r2.nil_iff.mpr w)) _ (I.hok.fresh (Nat.le_refl _))⟩
  exact ⟨by rw [List.length_append]; exact hz, _, r1.append r2, IsTup.new _ _⟩
end
def ixN (n : Nat) (i : Int) : Option Nat:=if 0 <= i then (if i < n then some i.toNat else none) else if -(n : Int) <= i then some (i + n).toNat else none
def atI {α : Type} (xs : List α) (i : Int) : Option α:=(ixN xs.length i).bind λj=>xs[j]?
theorem Ck {n : Nat} {i : Int} {j : Nat} (h : ixN n i = some j) : seqIndex? i n = some j /\ j < n /\ -(n : Int) <= i /\ i < n:=by
  unfold ixN at h
  by_cases h0 : 0 <= i
  . rw [if_pos h0] at h
    by_cases h1 : i < n
    . rw [if_pos h1] at h
      have e : i.toNat = j:=Option.some.inj h
      exact ⟨by rw [seqIndex_of h0 h1, e], by lia, by lia, h1⟩
    . rw [if_neg h1] at h; cases h
  . rw [if_neg h0] at h
    by_cases h1 : -(n : Int) <= i
    . rw [if_pos h1] at h
      have e : (i + n).toNat = j:=Option.some.inj h
      exact ⟨by rw [seqIndex_neg (by lia) h1, e], by lia, h1, by lia⟩
    . rw [if_neg h1] at h; cases h
theorem Cw {α : Type} {xs : List α} {i : Int} {v : α} (h : atI xs i = some v) : ∃ j, seqIndex? i xs.length = some j /\ xs[j]? = some v /\ j < xs.length /\ -(xs.length : Int) <= i /\ i < xs.length:=by
  unfold atI at h
  cases e : ixN xs.length i with
  | none=>rw [e] at h; cases h
  | some j=>
    rw [e] at h
    obtain ⟨h1, h2, h3, h4⟩:=Ck e
    exact ⟨j, h1, h, h2, h3, h4⟩
def Iv (b : Expr) : Prop:=∀ o i, subscripted b false o i = operate [o, i] (getItem o i)
def IxR (X : Cx) (r : R2) : Prop:=
  ∀ (value slice : Expr) (pins : List (Addr × Obj)) (s : Shared) (σ : St) (H : Hp) (x y : V) (v u : Value) (Q : VK), Inv X pins σ H s -> X7 x v -> X7 y u -> r x y H Q ->
    subscripted slice false v u = operate [v, u] (getItem v u) -> wpAny (model X.prog X.w) X.A (subscriptTail value slice v u) (EP X pins σ Q) X.xe s
def MtR (X : Cx) (id : String) (r : V -> List V -> Hp -> VK -> Prop) : Prop:=
  ∀ (pins : List (Addr × Obj)) (s : Shared) (σ : St) (H : Hp) (x : V) (xs : List V) (v : Value) (us : List Value) (Q : VK), Inv X pins σ H s -> X7 x v -> X5 xs us -> r x xs H Q ->
    wpAny (model X.prog X.w) X.A (call (.builtin id) (v :: us)) (EP X pins σ Q) X.xe s
section
variable {X : Cx} {a b : Expr} {ta tb : TE} {pos : Pos}
theorem XO {r : R2} (hr : IxR X r) (ha : PE X a ta) (hb : PE X b tb) (hs : Iv b) : PE X (.Subscript a b pos) (tOp r ta tb):=by
  intro pins s σ H Q I h
  exact Subscript_ (MW ha hb I h λv u s2 x y H2 I2 rx ry q=>hr a b pins s2 σ H2 x y v u Q I2 rx ry q (hs _ _))
def IP (K : Fgg) : R2:=λx y H Q=>∃ p xs i v, x = .ref p /\ y = .int i /\ SqL K H p xs /\ atI xs i = some v /\ Q v H
def Bn (K : Fgg) : R2:=λx y H Q=>∃ p xs i v, x = .ref p /\ y = .int i /\ SqT K H p xs /\ atI xs i = some v /\ Q v H
theorem Ij : IxR X (IP X.K):=by
  intro value slice pins s σ H x y v u Q I rx ry h hs
  obtain ⟨p, xs, i, z, rfl, rfl, hq, he, q⟩:=h
  cases rx
  obtain ⟨t, rfl⟩:=ry
  obtain ⟨its, r, pl, hz⟩:=I.list hq
  obtain ⟨j, h1, h2, h3, h4, h5⟩:=Cw he
  obtain ⟨w, ew, rw'⟩:=r.get h2
  have hl:=r.length
  have hn:=GK
  have fin : EP X pins σ Q w s:=⟨z, H, I, rw', q⟩
  by_cases h0 : 0 <= i
  . have hj : i.toNat = j:=by
      rw [seqIndex_of h0 h5] at h1
      exact Option.some.inj h1
    exact item_listR pl.isList h0 (by lia) (by rw [hj]; simpa using ew) fin hs
  . have hj : (i + (its.toArray.size : Int)).toNat = j:=by
      rw [seqIndex_neg (by lia) h4] at h1
      rw [List.size_toArray, ← hl]
      exact Option.some.inj h1
    exact subscriptTail_builtinR (x:=w) pl.isList.typeIs slot_list_getitem.lookup
      (wpAny_getItem_list_neg (Q:=λr s'=>r = w /\ EP X pins σ Q r s') pl.isList (by lia) (by rw [List.size_toArray] <;> lia) (by lia) (by rw [hj]; simpa using ew) ⟨rfl, fin⟩) hs
theorem LQ : IxR X (Bn X.K):=by
  intro value slice pins s σ H x y v u Q I rx ry h hs
  obtain ⟨p, xs, i, z, rfl, rfl, hq, he, q⟩:=h
  cases rx
  obtain ⟨t, rfl⟩:=ry
  obtain ⟨its, r, pl, hz⟩:=I.tuple hq
  obtain ⟨j, h1, h2, h3, h4, h5⟩:=Cw he
  obtain ⟨w, ew, rw'⟩:=r.get h2
  have hl:=r.length
  have hn:=GK
  have fin : EP X pins σ Q w s:=⟨z, H, I, rw', q⟩
  exact subscriptTail_builtinR (x:=w) pl.typeIs slot_tuple_getitem.lookup
    (getItem_tuple (j:=j) (Q:=λr s'=>r = w /\ EP X pins σ Q r s') pl (by lia) (by lia) (by rw [List.size_toArray, ← hl]; exact h1) (by simpa using ew) ⟨rfl, fin⟩) hs
theorem Fk (its : List Value) (n j : Nat) (u : Value) : Obj.mapSeq (·.setIfInBounds j u) { cls:=.type "list", data:=.seq its.toArray n } = { cls:=.type "list", data:=.seq (its.set j u).toArray n }:=by
  simp [Obj.mapSeq]
theorem Inv.lst {pins : List (Addr × Obj)} {σ : St} {H : Hp} {s : Shared} {p : Addr} {xs : List V} (I : Inv X pins σ H s) (h : H p = some (.lst xs)) :
    ∃ (its : List Value) (n : Nat), X5 xs its /\ s.heap.get? p = some { cls:=.type "list", data:=.seq its.toArray n } /\ xs.length <= sizeLine:=by
  obtain ⟨z, its, n, r, e⟩:=I.hok p _ h
  exact ⟨its, n, r, e, z⟩
theorem Inv.lstUpd {pins : List (Addr × Obj)} {σ : St} {H : Hp} {s : Shared} {p : Addr} {xs ys : List V} {its its' : List Value} {n n' : Nat} {f : Obj -> Obj} (I : Inv X pins σ H s) (h : H p = some (.lst xs))
    (ho : s.heap.get? p = some { cls:=.type "list", data:=.seq its.toArray n }) (hf : f { cls:=.type "list", data:=.seq its.toArray n } = { cls:=.type "list", data:=.seq its'.toArray n' }) (r : X5 ys its') (hz : ys.length <= sizeLine) (t : Nat) :
    Inv X pins σ (upd H p (.lst ys)) { s with heap:=s.heap.update p f, toks:=t }:=by
  have e : (s.heap.update p f).get? p = some { cls:=.type "list", data:=.seq its'.toArray n' }:=by
    rw [Heap.get?_update_self f ho (by rw [hf] <;> rfl), hf]
  refine I.write (x:=p) (e:=p) (by rw [h]; trivial) (.inl rfl) (λb u hb q=>(Heap.get?_update_other _ _ (Ne.symm hb)).trans q) ⟨_, e⟩ ?_
  exact ⟨hz, its', n', r, e⟩
def Lx : V -> V -> V -> Hp -> (Hp -> Prop) -> Prop:=λo i v H Q=>∃ p xs k j, o = .ref p /\ i = .int k /\ H p = some (.lst xs) /\ ixN xs.length k = some j /\ Q (upd H p (.lst (xs.set j v)))
theorem El : Ni X Lx:=by
  intro pins s σ H o i v ov iv u Q I ro ri rv h
  obtain ⟨p, xs, k, j, rfl, rfl, hp, hj, q⟩:=h
  cases ro
  obtain ⟨t, rfl⟩:=ri
  obtain ⟨its, n, r, ho, hz⟩:=I.lst hp
  obtain ⟨h1, h2, h3, h4⟩:=Ck hj
  have hl:=r.length
  have hn:=GK
  have I' : Inv X pins σ (upd H p (.lst (xs.set j v))) { s with heap:=s.heap.update p (Obj.mapSeq (·.setIfInBounds j u)) }:=
    I.lstUpd hp ho (Fk its n j u) (r.set rv j) (by rw [List.length_set]; exact hz) s.toks
  by_cases h0 : 0 <= k
  . have hk : k.toNat = j:=by
      rw [seqIndex_of h0 h4] at h1
      exact Option.some.inj h1
    exact PySem.W.ki_setAt ho h0 (by lia) (by rw [List.size_toArray, ← hl]; exact h4) (by rw [hk]; exact ⟨_, I', q⟩)
  . have hk : (k + (its.toArray.size : Int)).toNat = j:=by
      rw [seqIndex_neg (by lia) h3] at h1
      rw [List.size_toArray, ← hl]
      exact Option.some.inj h1
    exact PySem.W.ki_setBack ho (by lia) (by rw [List.size_toArray, ← hl]; exact h3) (by lia) (by rw [hk]; exact ⟨_, I', q⟩)
theorem KH (lo hi : Option Int) (n : Nat) : (sliceBounds lo hi none n).1 = ((HT.sIx n 0 lo : Nat) : Int) /\ (sliceBounds lo hi none n).2.1 = ((HT.sIx n n hi : Nat) : Int) /\ (sliceBounds lo hi none n).2.2 = 1:=by
  refine ⟨?_, ?_, rfl⟩
  . cases lo with
    | none=>simp [sliceBounds, HT.sIx]
    | some i=>
      simp only [sliceBounds, HT.sIx, Option.getD_none, show (1 : Int) > 0 by decide, if_true]
      by_cases h : i < 0
      . simp only [h, if_true] <;> lia
      . simp only [h, if_false] <;> lia
  . cases hi with
    | none=>simp [sliceBounds, HT.sIx]
    | some i=>
      simp only [sliceBounds, HT.sIx, Option.getD_none, show (1 : Int) > 0 by decide, if_true]
      by_cases h : i < 0
      . simp only [h, if_true] <;> lia
      . simp only [h, if_false] <;> lia
theorem UL (its : List Value) (lo hi : Option Int) : slicePick its.toArray lo hi none = ((its.drop (HT.sIx its.length 0 lo)).take (HT.sIx its.length its.length hi - HT.sIx its.length 0 lo)).toArray:=by
  obtain ⟨h1, h2, h3⟩:=KH lo hi its.toArray.size
  unfold slicePick
  rw [h1, h2, h3]
  simp only [sliceRange_one, pick_run, List.size_toArray] <;> rfl
def MD (K : Fgg) : V -> Option Int -> Option Int -> Hp -> VK -> Prop:=λx lo hi H Q=>∃ a xs, x = .ref a /\ SqL K H a xs /\ ∀ p, H p = none -> Q (.ref p) (upd H p (.lst (IJ xs lo hi)))
theorem Ho : SlR X (MD X.K):=by
  intro pins s σ H x v vl vu lo hi sl Q I rx hs pl pu h
  obtain ⟨a, xs, rfl, hx, q⟩:=h
  cases rx
  obtain ⟨its, r, ht, hz⟩:=I.list hx
  have hlen:=r.length
  refine ⟨"list", _, slot_list_getitem.lookup, ht.isList.typeIs, ?_⟩
  refine wpAny_getItem_list_slice ht.isList hs pl pu .none (by simp) ?_ (by rw [List.size_toArray] <;> lia)
  rw [UL, ← hlen]
  refine ⟨.ref s.heap.objs.size, _, I.laid (t':=s.toks) (o:=.lst (IJ xs lo hi)) (λb ob q=>Qp _ q) (Nat.le_refl _) ?_, rfl, q _ (I.hok.fresh (Nat.le_refl _))⟩
  exact ⟨Nat.le_trans (KZ xs lo hi) hz, _, 0, (r.drop (HT.sIx xs.length 0 lo)).take (HT.sIx xs.length xs.length hi - HT.sIx xs.length 0 lo), Heap.get?_push_size _ rfl⟩
def Ju : V -> Bool
  | .non=>true
  | .bl _=>true
  | .int _=>true
  | .str _=>true
  | _=>false
def eqV : V -> V -> Bool
  | .non, .non=>true
  | .bl a, .bl b=>a == b
  | .bl a, .int b=>(if a then 1 else 0) == b
  | .int a, .bl b=>a == (if b then 1 else 0)
  | .int a, .int b=>a == b
  | .str a, .str b=>a == b
  | _, _=>false
theorem Mc {A : Around} {s : Shared} {y x : V} {u v : Value} (ry : X7 y u) (rx : X7 x v) (fy : Ju y = true) (fx : Ju x = true) : SeqAt.EqAt A s u v (eqV y x):=by
  cases y with
  | non=>
    cases ry
    cases x with
    | non=>cases rx; exact SeqAt.EqAt.same _
    | bl b=>cases rx; exact SeqAt.EqAt.none_bool b
    | int b=>obtain ⟨t, rfl⟩:=rx; exact SeqAt.EqAt.none_int b t
    | str b=>obtain ⟨t, rfl⟩:=rx; exact SeqAt.EqAt.none_str b t
    | _=>exact absurd (show false = true from fx) Bool.false_ne_true
  | bl a=>
    cases ry
    cases x with
    | non=>cases rx; exact SeqAt.EqAt.bool_none a
    | bl b=>cases rx; exact SeqAt.EqAt.bool_bool a b
    | int b=>obtain ⟨t, rfl⟩:=rx; exact SeqAt.EqAt.bool_int a b t
    | str b=>obtain ⟨t, rfl⟩:=rx; exact SeqAt.EqAt.bool_str a b t
    | _=>exact absurd (show false = true from fx) Bool.false_ne_true
  | int a=>
    obtain ⟨t', rfl⟩:=ry
    cases x with
    | non=>cases rx; exact SeqAt.EqAt.int_none a t'
    | bl b=>cases rx; exact SeqAt.EqAt.int_bool a t' b
    | int b=>obtain ⟨t, rfl⟩:=rx; exact SeqAt.EqAt.int_int a t' b t
    | str b=>obtain ⟨t, rfl⟩:=rx; exact SeqAt.EqAt.int_str a t' b t
    | _=>exact absurd (show false = true from fx) Bool.false_ne_true
  | str a=>
    obtain ⟨t', rfl⟩:=ry
    cases x with
    | non=>cases rx; exact SeqAt.EqAt.str_none a t'
    | bl b=>cases rx; exact SeqAt.EqAt.str_bool a t' b
    | int b=>obtain ⟨t, rfl⟩:=rx; exact SeqAt.EqAt.str_int a t' b t
    | str b=>obtain ⟨t, rfl⟩:=rx; exact SeqAt.EqAt.str_str a t' b t
    | _=>exact absurd (show false = true from fx) Bool.false_ne_true
  | _=>exact absurd (show false = true from fy) Bool.false_ne_true
def eqU (x : V) (u : Value) : Bool:=match u with
  | .none=>eqV .non x
  | .bool b=>eqV (.bl b) x
  | .int i _=>eqV (.int i) x
  | .str z _=>eqV (.str z) x
  | _=>false
theorem DU {x y : V} {u : Value} (r : X7 y u) (f : Ju y = true) : eqU x u = eqV y x:=by
  cases y with
  | non=>cases r; rfl
  | bl b=>cases r; rfl
  | int i=>obtain ⟨t, rfl⟩:=r; rfl
  | str z=>obtain ⟨t, rfl⟩:=r; rfl
  | _=>exact absurd (show false = true from f) Bool.false_ne_true
theorem JY {x : V} : ∀ {xs : List V} {us : List Value}, X5 xs us -> xs.all Ju = true -> us.any (eqU x) = xs.any λy=>eqV y x
  | _, _, .nil, _=>rfl
  | y :: xs, u :: us, .cons r t, f=>by
    rw [List.all_cons, Bool.and_eq_true] at f
    rw [List.any_cons, List.any_cons, DU r f.1, JY t f.2]
theorem Qz {A : Around} {s : Shared} {x : V} {v : Value} (rx : X7 x v) (fx : Ju x = true) : ∀ {xs : List V} {us : List Value}, X5 xs us -> xs.all Ju = true -> ∀ u ∈ us, SeqAt.EqAt A s u v (eqU x u)
  | _, _, .nil, _=>λu hu=>by cases hu
  | y :: xs, u :: us, .cons r t, f=>λu' hu=>by
    rw [List.all_cons, Bool.and_eq_true] at f
    rcases List.mem_cons.mp hu with rfl | hu
    . rw [DU r f.1]; exact Mc r rx f.1 fx
    . exact Qz rx fx t f.2 u' hu
def inV (x : V) (xs : List V) : Bool:=xs.any λy=>eqV y x
def rIn (K : Fgg) (neg : Bool) : R2:=λx y H Q=>∃ p xs, y = .ref p /\ (SqL K H p xs ∨ SqT K H p xs) /\ Ju x = true /\ xs.all Ju = true /\ Q (.bl (if neg then !inV x xs else inV x xs)) H
theorem Dg : OpR X (compareOp .In) (rIn X.K false):=by
  intro pins s σ H x y v u Q I rx ry h
  obtain ⟨p, xs, rfl, hq, fx, fs, q⟩:=h
  cases ry
  rcases hq with hq | hq
  . obtain ⟨its, r, pl, hz⟩ := I.list hq
    refine SeqAt.in_listAt (eqU x) pl.isList (λw hw=>Qz rx fx r fs w (by simpa using hw)) ⟨.bl _, H, I, rfl, ?_⟩
    rw [show its.toArray.any (eqU x) = its.any (eqU x) by simp, JY r fs]
    exact q
  . obtain ⟨its, r, pl, hz⟩ := I.tuple hq
    refine SeqAt.in_tupleAt (eqU x) pl (λw hw=>Qz rx fx r fs w (by simpa using hw)) ⟨.bl _, H, I, rfl, ?_⟩
    rw [show its.toArray.any (eqU x) = its.any (eqU x) by simp, JY r fs]
    exact q
theorem Ji : OpR X (compareOp .NotIn) (rIn X.K true):=by
  intro pins s σ H x y v u Q I rx ry h
  obtain ⟨p, xs, rfl, hq, fx, fs, q⟩:=h
  cases ry
  rcases hq with hq | hq
  . obtain ⟨its, r, pl, hz⟩ := I.list hq
    refine SeqAt.notIn_listAt (eqU x) pl.isList (λw hw=>Qz rx fx r fs w (by simpa using hw)) ⟨.bl _, H, I, rfl, ?_⟩
    rw [show its.toArray.any (eqU x) = its.any (eqU x) by simp, JY r fs]
    exact q
  . obtain ⟨its, r, pl, hz⟩ := I.tuple hq
    refine SeqAt.notIn_tupleAt (eqU x) pl (λw hw=>Qz rx fx r fs w (by simpa using hw)) ⟨.bl _, H, I, rfl, ?_⟩
    rw [show its.toArray.any (eqU x) = its.any (eqU x) by simp, JY r fs]
    exact q
theorem Kh : Qf X (.builtin "len") (λxs H Q=>∃ p ys, xs = [.ref p] /\ (SqL X.K H p ys ∨ SqT X.K H p ys) /\ Q (.int ys.length) H):=by
  intro pins s σ H xs us Q I r h
  obtain ⟨p, ys, rfl, hq, q⟩:=h
  obtain ⟨u, rfl, rx⟩:=VL r
  cases rx
  have hn:=GK
  rcases hq with hq | hq
  . obtain ⟨its, r', pl, hz⟩ := I.list hq
    have hlen:=r'.length
    exact Calls.call_len_list pl.isList (by simp only [List.size_toArray] <;> lia) ⟨.int ys.length, H, I.tok _, ⟨s.toks + 1, by rw [List.size_toArray, hlen]⟩, q⟩
  . obtain ⟨its, r', pl, hz⟩ := I.tuple hq
    have hlen:=r'.length
    exact len_tuple pl (by simp only [List.size_toArray] <;> lia) ⟨.int ys.length, H, I.tok _, ⟨s.toks + 1, by rw [List.size_toArray, hlen]⟩, q⟩
theorem Kb : Qf X (.type "list") (λxs H Q=>∃ p ys, xs = [.ref p] /\ (SqL X.K H p ys ∨ SqT X.K H p ys) /\ ∀ l, H l = none -> Q (.ref l) (upd H l (.lst ys))):=by
  intro pins s σ H xs us Q I r h
  obtain ⟨p, ys, rfl, hq, q⟩:=h
  obtain ⟨u, rfl, rx⟩:=VL r
  cases rx
  have fin : ∀ (its : List Value), X5 ys its -> ys.length <= sizeLine -> ∀ (h' : Heap) (c' : Nat), (∀ b o', s.heap.get? b = some o' -> h'.get? b = some o') ->
      h'.get? s.heap.objs.size = some { cls:=.type "list", dict:=none, data:=.seq its.toArray c', slots:=#[] } -> EP X pins σ Q (.ref s.heap.objs.size) { s with heap:=h' }:=λits r' hz h' c' kp e=>
    ⟨.ref s.heap.objs.size, _, I.laid (t':=s.toks) kp (Nat.le_refl _) (show Zd X.prog X.w _ h' _ (.lst ys) from ⟨hz, its, c', r', e⟩), rfl, q _ (I.hok.fresh (Nat.le_refl _))⟩
  rcases hq with hq | hq
  . obtain ⟨its, r', pl, hz⟩ := I.list hq
    have hlen:=r'.length
    obtain ⟨o, ho, hc, n, hd⟩:=pl.isList
    exact call_list_seq p (.inl rfl) ho hc hd (λh' c' kp e=>fin its r' hz h' c' kp e) (by simp only [List.size_toArray] <;> lia)
  . obtain ⟨its, r', pl, hz⟩ := I.tuple hq
    have hlen:=r'.length
    obtain ⟨o, ho, hc, n, hd⟩:=pl
    exact call_list_seq p (.inr rfl) ho hc hd (λh' c' kp e=>fin its r' hz h' c' kp e) (by simp only [List.size_toArray] <;> lia)
theorem Uj : Qf X (.type "tuple") (λxs H Q=>∃ p ys, xs = [.ref p] /\ ((SqL X.K H p ys /\ ∀ l, H l = none -> Q (.ref l) (upd H l (.tup ys))) ∨ (SqT X.K H p ys /\ Q (.ref p) H))):=by
  intro pins s σ H xs us Q I r h
  obtain ⟨p, ys, rfl, h⟩:=h
  obtain ⟨u, rfl, rx⟩:=VL r
  cases rx
  rcases h with ⟨hq, q⟩ | ⟨hq, q⟩
  . obtain ⟨its, r', pl, hz⟩ := I.list hq
    have hlen:=r'.length
    refine call_tuple_list pl.isList (λh' kp=>?_) (by simp only [List.size_toArray] <;> lia)
    have I1 : Inv X pins σ H { s with heap:=h' }:=I.kept (t':=s.toks) kp
    have I2 : Inv X pins σ (upd H h'.objs.size (.tup ys)) { s with heap:=h'.push { cls:=.type "tuple", data:=.seq its.toArray } }:=
      I1.laid (t':=s.toks) (λb o e=>Qp _ e) (Nat.le_refl _) (show Zd X.prog X.w _ _ _ (.tup ys) from ⟨hz, its, r', IsTup.new _ _⟩)
    exact ⟨.ref h'.objs.size, _, I2, rfl, q _ (I1.hok.fresh (Nat.le_refl _))⟩
  . obtain ⟨its, r', pl, hz⟩ := I.tuple hq
    exact call_tuple_same pl ⟨.ref p, H, I, rfl, q⟩
def tyV (K : Fgg) (T : String) (x : V) (H : Hp) : Prop:=match x with
  | .str _=>T = "str"
  | .int _=>T = "int"
  | .ref p=>(T = "list" /\ ∃ xs, SqL K H p xs) ∨ (T = "tuple" /\ ∃ o, K.lookup p = some o /\ o.cls = .type "tuple" /\ o.dict = none) ∨
      (T = "dict" /\ ((∃ kvs, H p = some (.dK kvs)) ∨ ∃ kvs, H p = some (.dT kvs))) ∨ (T = "set" /\ ∃ S n, H p = some (.set S n))
  | _=>False
theorem EB {pins : List (Addr × Obj)} {σ : St} {H : Hp} {s : Shared} {T : String} {x : V} {v : Value} (I : Inv X pins σ H s) (r : X7 x v) (ty : tyV X.K T x H) :
    s.TypeIs v T /\ ∀ a, v = .ref a -> ∃ ob, s.heap.get? a = some ob /\ ob.dict = none:=by
  cases x with
  | str z=>
    obtain ⟨t, rfl⟩:=r
    cases (show T = "str" from ty)
    exact ⟨typeIs_str s z t, λ_ e=>nomatch e⟩
  | int i=>
    obtain ⟨t, rfl⟩:=r
    cases (show T = "int" from ty)
    exact ⟨typeIs_int s i t, λ_ e=>nomatch e⟩
  | ref p=>
    cases r
    rcases ty with ⟨rfl, xs, hq⟩ | ⟨rfl, o, hk, hc, hd⟩ | ⟨rfl, hk⟩ | ⟨rfl, S, n, hk⟩
    . obtain ⟨its, _, pl, _⟩ := I.list hq
      refine ⟨pl.isList.typeIs, λa e=>?_⟩
      cases e
      obtain ⟨o, n, e, c, hd, _⟩:=pl
      exact ⟨o, e, hd⟩
    . refine ⟨⟨o, I.kIn p o hk, hc⟩, λa e => ?_⟩
      cases e
      exact ⟨o, I.kIn _ o hk, hd⟩
    . have z : ∃ o, s.heap.get? p = some o /\ o.ExactDict:=by
        rcases hk with ⟨kvs, hk⟩ | ⟨kvs, hk⟩
        . obtain ⟨_, _, _, _, o, _, _, e, ex, _⟩ := I.hok p _ hk
          exact ⟨o, e, ex⟩
        . obtain ⟨_, _, _, _, o, _, _, e, ex, _⟩ := I.hok p _ hk
          exact ⟨o, e, ex⟩
      obtain ⟨o, e, ex⟩:=z
      refine ⟨⟨o, e, ex.1⟩, λa e2=>?_⟩
      cases e2
      exact ⟨o, e, ex.2.1⟩
    . obtain ⟨o, _, _, _, e, ex, _⟩ := I.hok p _ hk
      refine ⟨⟨o, e, ex.1⟩, λa e2=>?_⟩
      cases e2
      exact ⟨o, e, ex.2.1⟩
  | _=>exact False.elim ty
def Nq (K : Fgg) (T : String) (r : V -> List V -> Hp -> VK -> Prop) (to : TE) : TE:=λσ H Q=>to σ H λx H1=>tyV K T x H1 /\ r x [] H1 Q
def tBM (K : Fgg) (T : String) (r : V -> List V -> Hp -> VK -> Prop) (to : TE) (t : TA) : TE:=λσ H Q=>to σ H λx H1=>tyV K T x H1 /\ t σ H1 λxs H2=>r x xs H2 Q
variable {o e : Expr} {es : List Expr} {to : TE} {t : TA} {name : Str} {apos cpos : Pos} {T id : String} {r : V -> List V -> Hp -> VK -> Prop}
theorem LX (pa : PlainAttrs T) (slot : Slot T name id) (hty : typeOf (.builtin id) = pure (.type "method_descriptor")) (hm : MtR X id r) (ho : PE X o to)
    (hbase : attributeBase o name X.env (eval o X.env) = eval o X.env:=by rfl) (hline : (apos.endLine == cpos.line) = true:=by rfl) : PE X (.Call (.Attribute o name apos) [] [] cpos) (Nq X.K T r to):=by
  intro pins s σ H Q I h
  refine wpAny_Call_method0_late hbase hline (thn (ho pins s σ H _ I h) λv s1 r9=>?_)
  obtain ⟨x, H1, I1, r1, ty, q1⟩:=r9
  obtain ⟨h1, h2⟩:=EB I1 r1 ty
  exact ⟨T, id, pa, slot, hty, h1, h2, Calls.callWith_builtin rfl (PySem.evalArgs_none (hm pins s1 σ H1 x [] v [] Q I1 r1 .nil q1))⟩
theorem Jq (pa : PlainAttrs T) (slot : Slot T name id) (hty : typeOf (.builtin id) = pure (.type "method_descriptor")) (hm : MtR X id r) (ho : PE X o to) (ha : PA X (e :: es) t)
    (hbase : attributeBase o name X.env (eval o X.env) = eval o X.env:=by rfl)
    (hfew : ((backTo cpos (starEach (e :: es) X.env)).all (λx=>!x.1) && (backToKw cpos (keywordEach [] X.env)).all (λx=>x.1.isSome)
      && decide ((e :: es).length + ([] : List Keyword).length + (if ([] : List Keyword).isEmpty then 0 else 1) < 30)) = true:=by rfl)
    (hline : (apos.endLine == cpos.line) = true:=by rfl) (hs : starEach (e :: es) X.env = (false, eval e X.env) :: starEach es X.env:=by rfl) (hplain : (backTo cpos (starEach es X.env)).any (·.1) = false:=by rfl) :
    PE X (.Call (.Attribute o name apos) (e :: es) [] cpos) (tBM X.K T r to t):=by
  intro pins s σ H Q I h
  refine wpAny_Call_method_late hbase hfew hline rfl (thn (ho pins s σ H _ I h) λv s1 r9=>?_)
  obtain ⟨x, H1, I1, r1, ty, q1⟩:=r9
  obtain ⟨h1, h2⟩:=EB I1 r1 ty
  refine ⟨T, id, pa, slot, hty, h1, h2, ?_⟩
  have hA:=ha cpos pins s1 σ H1 _ I1 q1
  rw [hs] at hA ⊢
  refine Calls.callWith_builtin (by show (false || (backTo cpos (starEach es X.env)).any (·.1)) = false; rw [hplain] <;> rfl) (Calls.evalArgs_plain ?_)
  exact thn hA λus s2 r9=>by obtain ⟨vs, H2, I2, r2, q2⟩:=r9; exact hm pins s2 σ H2 x vs v us Q I2 r1 r2 q2
/- xs.append(e), list.index on a module's tuple .. are MtR facts of 06m -/
end
def MtM (X : Cx) (id : String) (r : V -> List V -> Hp -> VK -> Prop) : Prop:=
  ∀ (pins : List (Addr × Obj)) (s : Shared) (σ : St) (H : Hp) (x : V) (xs : List V) (v : Value) (us : List Value) (Q : VK), Inv X pins σ H s -> X7 x v -> X5 xs us -> r x xs H Q ->
    wpAny (model X.prog X.w) X.A (call (.builtin id) (v :: us)) (EP X pins σ Q) X.xe s
theorem X5.one : ∀ {x : V} {us : List Value}, X5 [x] us -> ∃ u, us = [u] /\ X7 x u:=fun {x us} h=>by
  cases h with
  | cons r t=>
    cases t
    exact ⟨_, rfl, r⟩
theorem X5.two : ∀ {x y : V} {us : List Value}, X5 [x, y] us -> ∃ u v, us = [u, v] /\ X7 x u /\ X7 y v:=fun {x y us} h=>by
  cases h with
  | cons r t=>
    cases t with
    | cons q t=>
      cases t
      exact ⟨_, _, rfl, r, q⟩
theorem X5.zero : ∀ {us : List Value}, X5 [] us -> us = []
  | _, .nil=>rfl
theorem X5.dropLast {xs : List V} {us : List Value} (h : X5 xs us) : X5 xs.dropLast us.dropLast:=by
  induction h with
  | nil=>exact .nil
  | cons r t ih=>
    cases t with
    | nil=>exact .nil
    | cons q t'=>exact .cons r ih
theorem X5.eraseIdx : ∀ {xs : List V} {us : List Value} (i : Nat), X5 xs us -> X5 (xs.eraseIdx i) (us.eraseIdx i)
  | _, _, _, .nil=>.nil
  | _, _, 0, .cons _ t=>t
  | _, _, i + 1, .cons r t=>.cons r (X5.eraseIdx i t)
theorem X5.reverse {xs : List V} {us : List Value} (h : X5 xs us) : X5 xs.reverse us.reverse:=by
  induction h with
  | nil=>exact .nil
  | cons r t ih=>rw [List.reverse_cons, List.reverse_cons]; exact X5.append ih (.cons r .nil)
theorem X5.rep {xs : List V} {us : List Value} (h : X5 xs us) : ∀ k : Nat, X5 (List.replicate k xs).flatten (List.replicate k us).flatten
  | 0=>.nil
  | k + 1=>by
    rw [List.replicate_succ, List.replicate_succ, List.flatten_cons, List.flatten_cons]
    exact X5.append h (X5.rep h k)
theorem Fc {α : Type} (l : List α) : l.eraseIdx (l.length - 1) = l.dropLast:=by
  induction l with
  | nil=>rfl
  | cons a r ih=>
    cases r with
    | nil=>rfl
    | cons b r=>
      have e : (a :: b :: r).length - 1 = ((b :: r).length - 1) + 1:=by
        have h1 : (a :: b :: r).length = r.length + 2:=rfl
        have h2 : (b :: r).length = r.length + 1:=rfl
        lia
      rw [e, List.eraseIdx_cons_succ, ih]
      all_goals rfl
theorem U5 {α : Type} : ∀ (l : List α) (i : Nat), (l.eraseIdx i).length <= l.length
  | [], _=>Nat.le_refl _
  | _ :: _, 0=>Nat.le_succ _
  | _ :: r, i + 1=>Nat.succ_le_succ (U5 r i)
theorem KG (its : List Value) : ∀ (k : Nat) (acc : List Value),
    List.foldl (λx1 x2=>x1 ++ x2) acc.toArray (List.replicate k its.toArray) = (acc ++ (List.replicate k its).flatten).toArray
  | 0, acc=>by simp
  | k + 1, acc=>by
    have e : acc.toArray ++ its.toArray = (acc ++ its).toArray:=by simp
    have e2 : (acc ++ its) ++ (List.replicate k its).flatten = acc ++ (List.replicate (k + 1) its).flatten:=by
      rw [List.replicate_succ, List.flatten_cons, List.append_assoc]
    rw [← e2, ← KG its k (acc ++ its), ← e, List.replicate_succ, List.foldl_cons]
section
variable {X : Cx} {pins : List (Addr × Obj)} {σ : St} {H : Hp} {s : Shared} {l b : Addr} {xs ys zs : List V}
theorem Inv.lset {its its' : List Value} {n : Nat} {f : Array Value -> Array Value} {t' : Nat} (I : Inv X pins σ H s) (hH : H l = some (.lst xs))
    (e : s.heap.get? l = some { cls:=.type "list", data:=.seq its.toArray n }) (hf : f its.toArray = its'.toArray) (hv : X5 ys its') (hz : ys.length <= sizeLine) :
    Inv X pins σ (upd H l (.lst ys)) { s with heap:=s.heap.update l (Obj.mapSeq f), toks:=t' }:=by
  have q:=PySem.IsL.update e f
  rw [hf] at q
  refine I.write (x:=l) (e:=l) (by rw [hH]; exact trivial) (.inl rfl) (λb' u hb hu=>(Heap.get?_update_other s.heap (Obj.mapSeq f) (Ne.symm hb)).trans hu) ⟨_, q⟩ ?_
  exact ⟨hz, its', _, hv, q⟩
theorem Inv.lnew {its : List Value} {t' : Nat} (I : Inv X pins σ H s) (hv : X5 ys its) (hz : ys.length <= sizeLine) :
    Inv X pins σ (upd H s.heap.objs.size (.lst ys)) { s with heap:=s.heap.push { cls:=.type "list", data:=.seq its.toArray }, toks:=t' }:=
  I.laid (λ_ _ q=>Qp _ q) (Nat.le_refl _) ⟨hz, its, 0, hv, Heap.get?_push_size _ rfl⟩
theorem Inv.fresh (I : Inv X pins σ H s) : H s.heap.objs.size = none:=I.hok.fresh (Nat.le_refl _)
theorem Inv.lstM (I : Inv X pins σ H s) (hH : H l = some (.lst xs)) : xs.length <= sizeLine /\ ∃ (its : List Value) (n : Nat), X5 xs its /\ xs.length = its.length /\ s.heap.get? l = some { cls:=.type "list", data:=.seq its.toArray n }:=by
  obtain ⟨z, its, n, r, e⟩:=I.hok l _ hH
  exact ⟨z, its, n, r, r.length, e⟩
theorem GU {n : Nat} (h : n <= sizeLine) : Builtin.List.listTooLong n = false:=by
  unfold Builtin.List.listTooLong
  exact decide_eq_false (by lia)
end
section
variable {X : Cx}
def Gv : V -> List V -> Hp -> VK -> Prop:=λx vs H Q=>∃ l xs y, x = .ref l /\ vs = [y] /\ H l = some (.lst xs) /\ xs.length < sizeLine /\ Q .non (upd H l (.lst (xs ++ [y])))
theorem Zb : MtM X "list.append" Gv:=by
  intro pins s σ H x vs v us Q I rx rv h
  obtain ⟨l, xs, y, rfl, rfl, hH, hz, q⟩:=h
  cases rx
  obtain ⟨u, rfl, ru⟩:=rv.one
  obtain ⟨z, its, n, r, hl, e⟩:=I.lstM hH
  refine call_meets F.slot_list_append ⟨_, e, rfl⟩ F.entry_list_append (F.args_list_append_2 _ _) (PySem.list_append l its.toArray n u (by rw [List.size_toArray]; lia)) ⟨e, ?_⟩
  refine ⟨.non, _, I.lset (its':=its ++ [u]) hH e (by simp) (r.append (.cons ru .nil)) ?_, rfl, q⟩
  rw [List.length_append, List.length_singleton]
  lia
def CG : V -> List V -> Hp -> VK -> Prop:=λx vs H Q=>∃ l b xs zs, x = .ref l /\ vs = [.ref b] /\ H l = some (.lst xs) /\ H b = some (.lst zs) /\ xs.length + zs.length <= sizeLine /\ Q .non (upd H l (.lst (xs ++ zs)))
theorem KD : MtM X "list.extend" CG:=by
  intro pins s σ H x vs v us Q I rx rv h
  obtain ⟨l, b, xs, zs, rfl, rfl, hH, hB, hz, q⟩:=h
  cases rx
  obtain ⟨u, rfl, ru⟩:=rv.one
  cases ru
  obtain ⟨z, its, n, r, hl, e⟩:=I.lstM hH
  obtain ⟨z2, its2, n2, r2, hl2, e2⟩:=I.lstM hB
  have hsz : its.toArray.size + its2.toArray.size <= sizeLine:=by rw [List.size_toArray, List.size_toArray]; lia
  have hlong : ¬ (!its.toArray.isEmpty && Builtin.List.listTooLong (its.toArray.size + its2.toArray.size)) = true:=by
    rw [GU hsz, Bool.and_false]
    exact Bool.false_ne_true
  refine call_meets F.slot_list_extend ⟨_, e, rfl⟩ F.entry_list_extend (F.args_list_extend_2 _ _)
    (AutoSeq1.list_extend_list_list_0 l its.toArray n b its2.toArray n2 hlong (by rw [List.size_toArray]; lia) (by lia)) ⟨e, e2, ?_⟩
  refine ⟨.non, _, I.lset (its':=its ++ its2) hH e (by simp) (r.append r2) ?_, rfl, q⟩
  rw [List.length_append]
  lia
def Nx : V -> List V -> Hp -> VK -> Prop:=λx vs H Q=>∃ l xs y, x = .ref l /\ vs = [] /\ H l = some (.lst xs) /\ xs[xs.length - 1]? = some y /\ Q y (upd H l (.lst xs.dropLast))
theorem Li : MtM X "list.pop" Nx:=by
  intro pins s σ H x vs v us Q I rx rv h
  obtain ⟨l, xs, y, rfl, rfl, hH, hy, q⟩:=h
  cases rx
  have hus:=rv.zero
  subst hus
  obtain ⟨z, its, n, r, hl, e⟩:=I.lstM hH
  obtain ⟨u, hu, ru⟩:=r.get hy
  have hy' : its.toArray[its.toArray.size - 1]? = some u:=by
    show its.toArray[its.length - 1]? = some u
    rw [← Array.getElem?_toList, ← hl]
    exact hu
  refine call_meets F.slot_list_pop ⟨_, e, rfl⟩ F.entry_list_pop (F.args_list_pop_1 _) (MeetsSeq.list_pop_last l its.toArray n u hy' (by rw [List.size_toArray]; lia)) ⟨e, ?_⟩
  refine ⟨y, _, I.lset (its':=its.dropLast) hH e ?_ r.dropLast ?_, ru, q⟩
  . show its.toArray.eraseIdxIfInBounds (its.toArray.size - 1) = its.dropLast.toArray
    rw [List.size_toArray, List.eraseIdxIfInBounds_toArray, Fc]
  . rw [List.length_dropLast]
    lia
def DN : V -> List V -> Hp -> VK -> Prop:=λx vs H Q=>∃ l xs i k y, x = .ref l /\ vs = [.int i] /\ H l = some (.lst xs) /\ -(2 ^ 63) <= i /\ i < 2 ^ 63 /\ seqIndex? i xs.length = some k /\ xs[k]? = some y /\ Q y (upd H l (.lst (xs.eraseIdx k)))
theorem BY : MtM X "list.pop" DN:=by
  intro pins s σ H x vs v us Q I rx rv h
  obtain ⟨l, xs, i, k, y, rfl, rfl, hH, h1, h2, hk, hy, q⟩:=h
  cases rx
  obtain ⟨u, rfl, ru⟩:=rv.one
  obtain ⟨t, rfl⟩:=ru
  obtain ⟨z, its, n, r, hl, e⟩:=I.lstM hH
  obtain ⟨w, hw, rw'⟩:=r.get hy
  refine call_meets F.slot_list_pop ⟨_, e, rfl⟩ F.entry_list_pop (F.args_list_pop_2 _ _)
    (MeetsSeq.list_pop_at l its.toArray n i t k w (fitsIndex_both h1 h2) (by rw [List.size_toArray, ← hl]; exact hk) (by rw [← Array.getElem?_toList]; exact hw) (by rw [List.size_toArray]; lia)) ⟨e, ?_⟩
  refine ⟨y, _, I.lset (its':=its.eraseIdx k) hH e ?_ (r.eraseIdx k) ?_, rw', q⟩
  . show its.toArray.eraseIdxIfInBounds k = (its.eraseIdx k).toArray
    rw [List.eraseIdxIfInBounds_toArray]
  . have := U5 xs k
    lia
def Nk : R2:=λx y H Q=>∃ l b xs zs, x = .ref l /\ y = .ref b /\ H l = some (.lst xs) /\ H b = some (.lst zs) /\ xs.length + zs.length <= sizeLine /\ ∀ p, H p = none -> Q (.ref p) (upd H p (.lst (xs ++ zs)))
theorem C5 : OpR X (binaryOp .Add) Nk:=by
  intro pins s σ H x y v u Q I rx ry h
  obtain ⟨l, b, xs, zs, rfl, rfl, hH, hB, hz, q⟩:=h
  cases rx
  cases ry
  obtain ⟨z, its, n, r, hl, e⟩:=I.lstM hH
  obtain ⟨z2, its2, n2, r2, hl2, e2⟩:=I.lstM hB
  refine PySem.P.add_list e e2 ?_ (by rw [List.size_toArray, List.size_toArray]; lia)
  have ea : its.toArray ++ its2.toArray = (its ++ its2).toArray:=by simp
  rw [ea]
  exact ⟨.ref _, _, I.lnew (t':=s.toks) (r.append r2) (by rw [List.length_append]; lia), rfl, q _ I.fresh⟩
def Nu : R2:=λx y H Q=>∃ l k xs, x = .ref l /\ y = .int k /\ H l = some (.lst xs) /\ -(2 ^ 63) <= k /\ k < 2 ^ 63 /\ xs.length * k.toNat <= sizeLine /\
  ∀ p, H p = none -> Q (.ref p) (upd H p (.lst (List.replicate k.toNat xs).flatten))
theorem Hk {α : Type} (xs : List α) (k : Nat) : (List.replicate k xs).flatten.length = k * xs.length:=by
  induction k with
  | zero=>simp
  | succ k ih=>rw [List.replicate_succ, List.flatten_cons, List.length_append, ih, Nat.succ_mul, Nat.add_comm]
theorem Ml : OpR X (binaryOp .Mult) Nu:=by
  intro pins s σ H x y v u Q I rx ry h
  obtain ⟨l, k, xs, rfl, rfl, hH, h1, h2, hz, q⟩:=h
  cases rx
  obtain ⟨t, rfl⟩:=ry
  obtain ⟨z, its, n, r, hl, e⟩:=I.lstM hH
  have hlen : its.toArray.size * k.toNat <= sizeLine:=by rw [List.size_toArray, ← hl]; exact hz
  have hcap : ¬ its.toArray.size * k.toNat > (2 ^ 63 - 1) / 8:=by
    have : (sizeLine : Nat) <= (2 ^ 63 - 1) / 8:=by decide
    lia
  have hfit : ¬ (!Builtin.List.listFitsIndex k) = true:=by
    rw [fitsIndex_both h1 h2]
    exact Bool.false_ne_true
  have hlong : ¬ Builtin.List.listTooLong (its.toArray.size * k.toNat) = true:=by
    rw [GU hlen]
    exact Bool.false_ne_true
  have hnew : List.foldl (λx1 x2=>x1 ++ x2) #[] (List.replicate (if its.toArray.isEmpty = true then 0 else k.toNat) its.toArray) = (List.replicate k.toNat its).flatten.toArray:=by
    have f0 : ∀ m : Nat, List.foldl (λx1 x2=>x1 ++ x2) #[] (List.replicate m its.toArray) = (List.replicate m its).flatten.toArray:=λm=>by
      have:=KG its m []
      rw [List.nil_append] at this
      exact this
    rw [f0]
    cases its with
    | nil=>simp
    | cons a r'=>rw [if_neg (by simp)]
  refine wpAny_binaryOp_repeat_ref (T:="list") (U:="int") (by decide) ⟨_, e, rfl⟩ (λs'=>typeIs_int s' k t) noFill_list_mul F.fills_int_mul F.slot_int_rmul repeat_list F.slot_int_index.lookup
    (call_meets F.slot_int_rmul (typeIs_int s k t) F.entry_int_rmul (F.args_int_rmul_2 _ _) (int___rmul___int_list k t l its.toArray n)
      ⟨e, rfl, ⟨_, e, rfl⟩, call_meets F.slot_list_mul ⟨_, e, rfl⟩ F.entry_list_mul (F.args_list_mul_2 _ _) (AutoListH.list___mul___list_int_3 l its.toArray n k t hfit hcap hlong) ⟨e, ?_⟩⟩)
  rw [hnew]
  exact ⟨.ref _, _, I.lnew (t':=s.toks) (r.rep k.toNat) (by rw [Hk, Nat.mul_comm]; exact hz), rfl, q _ I.fresh⟩
end
section
variable {prog : Program} {w : World} {A : Around} {E : Value -> Shared -> Prop} {s : Shared}
end
section
variable {X : Cx}
end
end L2
namespace Att
open PySem PySem.W PySem.Calls PyProof.Rows
theorem J0 {P : Params} {h : Heap} : ∀ (ns : List Int) (vs : List Value), WellAll P h vs (ns.map WData.int) -> IntsAre vs ns:=by
  intro ns
  induction ns with
  | nil=>
    intro vs w
    rw [List.map_nil] at w
    cases w
    exact .nil
  | cons n ns ih=>
    intro vs w
    rw [List.map_cons] at w
    cases w with
    | cons a b=>
      cases a
      exact .cons _ _ (ih _ b)
theorem Bj {l : OpenLaw} {n : Nat} (hn : l.most = some n) {P : Params} {h : Heap} {args : List WData} {vals : List Value}
    (hpre : l.row.toRowW.claim.pre args = true) (hwl : WellAll P h vals args) :
    ∃ a vs ns, vals = [Value.ref a] /\ args = [WData.list (ns.map WData.int)] /\ h.get? a = some { cls:=.type "list", data:=.seq vs.toArray } /\ IntsAre vs ns /\ ns.length <= n:=by
  have hsh : WShape.hasAll [] args [.list .int] = true:=(pre_splitW hpre).1
  have hc : l.pre.holds [] { args:=args } = true:=(pre_splitW hpre).2
  obtain ⟨d, r, rfl, h1, h2⟩:=hasAllW_cons hsh
  obtain rfl:=hasAllW_nil h2
  obtain ⟨xs, rfl, h3⟩:=hasW_list h1
  obtain ⟨ns, rfl⟩:=items_int h3
  have hlen : ns.length <= n:=by
    unfold OpenLaw.pre at hc
    have h4 : (WTm.not (.lt (.lit (.int (n : Int))) (.len (.arg 0)))).holds [] { args:=[.list (ns.map .int)] } = true:=by
      have h4:=(holds_andW hc).1
      rw [hn] at h4
      exact h4
    have h5:=condW_of h4 (w_not (w_lt w_lit (w_len_list (w_arg rfl))))
    rw [List.length_map] at h5
    refine Nat.le_of_not_lt λq=>?_
    have q' : (n : Int) < ((ns.length : Nat) : Int):=by lia
    first
      | (rw [decide_eq_true q'] at h5; exact absurd h5 (by decide))
      | (simp at h5; lia)
  cases hwl with
  | cons w1 w2=>
    cases w2
    cases w1 with
    | list ho hall=>exact ⟨_, _, ns, rfl, rfl, ho, J0 ns _ hall, hlen⟩
theorem FZ (l : OpenLaw) (args : List WData) : l.row.toRowW.claim.post args (.bool true) args = true:=
  postW_of (r:=l.row.toRowW) (X:=(true == true))
    (show WShape.has [] (.bool true) .bool = true by first | rfl | decide | simp [WShape.has, WShape.arms, WShape.armsAll])
    (show (WTm.eq .res (.lit (.bool true))).value [] { args:=args, res:=some (.bool true), after:=args } = some (.bool (true == true)) from w_eq_bool (w_res rfl) w_lit) rfl
theorem attach_call {l : OpenLaw} {n : Nat} {q : Program} {loose : List Str} {XP : (Str -> Option Value) -> Heap -> Prop} {YP : World -> Heap -> Prop} {d : DefRec}
    (hn : l.most = some n) (hdf : d.params.defaults = [])
    (call : ∀ (w : World) (s₀ s₁ : Shared) (mg mb : Str -> Option Value) (fa : Addr) (o : Obj) (pm cd doc : Value) (a : Addr) (vs : List Value) (ns : List Int),
      Ground q loose [] XP w s₀ mg mb s₁.heap -> YP w s₁.heap ->
      s₁.heap.get? fa = some o -> o.data = .func (docDef d.name d.params d.body d.scope pm cd doc) -> s₁.heap.CodeRec cd d.name -> mg d.name = some (.ref fa) ->
      s₁.heap.get? a = some { cls:=.type "list", data:=.seq vs.toArray } -> IntsAre vs ns -> ns.length <= n -> s₁.gens = #[] ->
      codeAny (model l.prog w) callerA (.call (.ref fa) ⟨[.ref a], []⟩) (λr s'=>r = .ok (.ret (.bool true)) /\ OldK s₁.heap s'.heap /\ s'.os = s₁.os /\ AllBare s'.gens) s₁) :
    WalkO q loose XP YP l.row.toRowW d [] (λf vs=>PySem.call f vs):=by
  intro w s₀ s₁ mg mb G Y fa o pm cd doc dV kV ho hd hcd hD hmg hg args vals as hpre hlay hrd hwl hlo
  obtain rfl : dV = .none:=Dflts.none hD hdf
  obtain rfl : kV = .none:=Dflts.noKw hD
  obtain ⟨a, vs, ns, rfl, rfl, hobj, hints, hlen⟩:=Bj hn hpre hwl
  refine enter_call (codeAny_mono (call w s₀ s₁ mg mb fa o pm cd doc a vs ns G Y ho (fd_plain hd) hcd hmg hobj hints hlen hg) λr s' hq=>?_)
  obtain ⟨rfl, h2, h3, h4⟩:=hq
  exact ⟨.inl ⟨.bool true, .bool true, [], rfl, λ_=>rfl, .bool true, FZ l _, λ_=>⟨List.Pairwise.nil, λ_ hm=>(nomatch hm)⟩⟩, h2, h3, h4⟩
section
variable {prog : Program} {w : World} {A : Around} {E : Value -> Shared -> Prop} {s : Shared} {K : Frag}
end
end Att
namespace L2
open PySem PySem.Spec PyProof.Rows
theorem Df : ∀ {vs : List Value} {ns : List Int}, IntsAre vs ns -> X5 (ns.map V.int) vs:=λp=>by
  induction p with
  | nil=>exact .nil
  | cons n t _ ih=>exact .cons ⟨t, rfl⟩ ih
def M8 (H : Hp) : Prop:=∀ b, H b = none ∨ ∃ o xs, H b = some (.frz o (.lst xs))
theorem Bz {P : Program} {w : World} {K : Fgg} {mg mb : Str -> Option Value} {CX : CXT} {k : Nat} {fa a : Addr} {fd : FuncData} {x : Str} {sp : Sp} {s₁ : Shared} {vs : List Value} {ns : List Int}
    (KX : K.In s₁.heap) (hns : s₁.heap.Ns mainGlobals mg) (hb : s₁.heap.Ns builtinsNs mb) (hbb : ∀ x : Str, x ≠ "__name__" -> mb x = bootBuiltins x) (hlim : s₁.heap.NoLimit) (hg : s₁.gens = #[])
    (ha : s₁.heap.get? a = some { cls:=.type "list", data:=.seq vs.toArray }) (hi : IntsAre vs ns) (hl : ns.length <= sizeLine) (hr : Room k callerA)
    (F : ∀ base : Heap, K.In base -> base.Ns mainGlobals mg -> FnOk P w K mg base CX k fa fd [x] sp) (hbind : ∀ (s : Shared) (u : Value), BindsTo s fd ⟨[u], []⟩ [(x, u)])
    (hsp : ∀ H : Hp, M8 H -> SqL K H a (ns.map V.int) -> sp [.ref a] H (λv _=>v = .bl true) λ_ _ _=>False)
    (hCX : ∀ H e s', CX [] H s₁ (λ_ _ _=>False) e s' -> False) :
    codeAny (model P w) callerA (.call (.ref fa) ⟨[.ref a], []⟩) (λr s'=>r = .ok (.ret (.bool true)) /\ OldK s₁.heap s'.heap /\ s'.os = s₁.os /\ AllBare s'.gens) s₁:=by
  have rv:=Df hi
  have lenV:=hi.length
  -- from an abstract heap in which nothing but the script may be tracked
  have core : ∀ H : Hp, M8 H -> SqL K H a (ns.map V.int) -> HOk P w H s₁.heap -> (∀ b, H b ≠ none -> b = a) -> (H a ≠ none -> K.lookup a = none) ->
      codeAny (model P w) callerA (.call (.ref fa) ⟨[.ref a], []⟩) (λr s'=>r = .ok (.ret (.bool true)) /\ OldK s₁.heap s'.heap /\ s'.os = s₁.os /\ AllBare s'.gens) s₁:=by
    intro H hO hS hok hA hK
    have base_of : ∀ {b : Addr} {o : Obj}, s₁.heap.get? b = some o -> H b = none -> (Bo s₁.heap H).get? b = some o:=λe n=>GT e n
    have noA : ∀ {b : Addr} {o : Obj} {es : Array DictEntry} {ep : Nat}, s₁.heap.get? b = some o -> o.data = .dict es ep -> H b = none:=fun {b o es ep} e d=>by
      cases q : H b with
      | none=>rfl
      | some u=>
        have e' : b = a:=hA b (by rw [q]; simp)
        subst e'
        rw [ha] at e; cases e
        have d' : Data.seq vs.toArray _ = Data.dict es ep:=d
        cases d'
    have nsK : ∀ {b : Addr} {m : Str -> Option Value}, s₁.heap.Ns b m -> (Bo s₁.heap H).Ns b m:=fun {b m} ⟨o, es, ep, e, d, r⟩=>⟨o, es, ep, base_of e (noA e d), d, r⟩
    have hKb : K.In (Bo s₁.heap H):=λb o e=>base_of (KX b o e) (by
      cases q : H b with
      | none=>rfl
      | some u=>
        have e' : b = a:=hA b (by rw [q]; simp)
        subst e'
        rw [hK (by rw [q]; simp)] at e; cases e)
    have hM : Mod K mg (Bo s₁.heap H):=⟨hKb, nsK hns, ⟨mb, nsK hb, hbb⟩, let ⟨mc, h1, h2⟩:=hlim; ⟨mc, nsK h1, h2⟩⟩
    have e0 : Env0 P w K mg (Bo s₁.heap H) callerA [] s₁ H:=⟨rfl, hM, λb o e=>Bh e, Nat.le_of_eq (CL _ _), trivial, λb hb=>absurd (show b ∈ ([] : List Addr) from hb) (by simp), hok, .of_eq hg⟩
    refine codeAny_mono ((F _ hKb (nsK hns)).run callerA [] s₁ H ⟨[.ref a], []⟩ [.ref a] [.ref a] _ _ hr e0 (hbind s₁ (.ref a)) (.cons rfl .nil) (hsp H hO hS)) λr s' h=>?_
    cases r with
    | error e=>exact (hCX H e s' h).elim
    | ok fl=>
      cases fl with
      | next=>exact False.elim h
      | brk=>exact False.elim h
      | cont=>exact False.elim h
      | ret u=>
        obtain ⟨v, H', os, bare, un, hok', r', q⟩:=h
        have q' : v = .bl true:=q
        subst q'
        obtain rfl : u = Value.bool true:=r'
        refine ⟨rfl, OldK.of_keep λb o e=>?_, os, bare⟩
        cases q : H b with
        | none=>exact un.keep b o e q (by intro z; exact absurd (show b ∈ ([] : List Addr) from z) (by simp)) (by simp)
        | some u=>
          rcases hO b with z | ⟨ob, xs, z⟩
          . rw [q] at z; cases z
          . have z2 := un.frzs b ob _ z
            obtain ⟨e1, _⟩:=hok b _ z
            obtain ⟨e2, _⟩:=hok' b _ z2
            rw [e] at e1; cases e1
            exact e2
  cases hk : K.lookup a with
  | some o=>
    -- the script is one of the module's own objects
    have e:=KX a o hk
    rw [ha] at e
    cases e
    refine core (λ_=>none) (λ_=>.inl rfl) (.inr ⟨_, vs.toArray, _, hk, rfl, rfl, rfl, by rw [List.size_toArray, lenV]; exact hl, by simpa using rv⟩) (λb u z=>by have z' : (none : Option HO) = some u:=z; cases z') (λb z=>absurd rfl z) λz=>absurd rfl z
  | none=>
    refine core (λb=>if b = a then some (.frz { cls:=.type "list", data:=.seq vs.toArray } (.lst (ns.map V.int))) else none) (λb=>?_) (.inl (.inr ⟨{ cls:=.type "list", data:=.seq vs.toArray }, if_pos rfl⟩)) (λb u z=>?_) (λb z=>?_) λ_=>hk
    . by_cases hb : b = a
      . exact .inr ⟨_, _, if_pos hb⟩
      . exact .inl (if_neg hb)
    . by_cases hb : b = a
      . have z' := (if_pos hb).symm.trans z
        cases z'
        subst hb
        exact ⟨ha, by rw [List.length_map]; exact hl, vs, _, rv, ha⟩
      . have z' := (if_neg hb).symm.trans z
        cases z'
    . by_cases hb : b = a
      . exact hb
      . exact absurd (if_neg hb) z
theorem Hw {l : PySem.W.OpenLaw} {n k : Nat} {q : Program} {loose : List Str} {XP : (Str -> Option Value) -> Heap -> Prop} {YP : World -> Heap -> Prop} {d : DefRec} {K : Params -> Fgg} {CX : World -> CXT} {sp : World -> Sp} {x : Str}
    (hn : l.most = some n) (hn2 : n <= sizeLine) (hdf : d.params.defaults = []) (hr : Room k callerA)
    (hY : ∀ (w : World) (h : Heap), YP w h -> (K w.params).In h)
    (F : ∀ (w : World) (mg : Str -> Option Value) (fa : Addr) (h : Heap), (K w.params).In h -> h.Ns mainGlobals mg -> mg d.name = some (.ref fa) ->
      ∃ fd : FuncData, (∀ (s : Shared) (u : Value), BindsTo s fd ⟨[u], []⟩ [(x, u)]) /\
        ∀ base : Heap, (K w.params).In base -> base.Ns mainGlobals mg -> FnOk l.prog w (K w.params) mg base (CX w) k fa fd [x] (sp w))
    (hsp : ∀ (w : World) (H : Hp) (a : Addr) (ns : List Int), ns.length <= n -> M8 H -> SqL (K w.params) H a (ns.map V.int) -> sp w [.ref a] H (λv _=>v = .bl true) λ_ _ _=>False)
    (hCX : ∀ (w : World) (H : Hp) (s : Shared) (e : Value) (s' : Shared), CX w [] H s (λ_ _ _=>False) e s' -> False) :
    PySem.W.WalkO q loose XP YP l.row.toRowW d [] (λf vs=>PySem.call f vs):=by
  refine Att.attach_call hn hdf λw s₀ s₁ mg mb fa o pm cd doc a vs ns G Y ho hd hcd hmg hobj hints hlen hg=>?_
  have KX:=hY w _ Y
  obtain ⟨fd, hb, hF⟩:=F w mg fa _ KX G.T.g hmg
  exact Bz KX G.T.g G.T.b G.T.builtins G.T.nolimit hg hobj hints (Nat.le_trans hlen hn2) hr hF hb (λH hO hS=>hsp w H a ns hlen hO hS) λH e s'=>hCX w H s₁ e s'
def YY (s : Stmt) : Arguments:=match s with
  | .FunctionDef _ a _ _ _ _ _ _ _ _=>a
  | _=>{ posonlyargs:=[], args:=[], vararg:=none, kwonlyargs:=[], kw_defaults:=[], kwarg:=none, defaults:=[] }
def Yr (s : Stmt) : List Stmt:=match s with
  | .FunctionDef _ _ b _ _ _ _ _ _ _=>b
  | _=>[]
def Xi (s : Stmt) : Scope:=match s with
  | .FunctionDef _ _ _ _ _ _ sc _ _ _=>sc
  | _=>{ kind:=.function, names:=[], isGenerator:=false, isCoroutine:=false }
abbrev CX0 : CXT:=λ_ _ _ _ _ _=>False
abbrev E0 : XK:=λ_ _ _=>False
theorem MU {X : Cx} : Vy CX0 X E0:=λ_ _ _ _ _ _ _ h=>h.elim
structure Fun (K : Fgg) (x qual : Str) (st : Stmt) (f : Addr) (fd : FuncData) : Prop where
  ex : ∃ (oc : Value) (od : Option Addr) (kV doc pm : Value) (an : Option Addr) (cdv ct : Value) (osl : Array (Option Value)),
    fd = PySem.W.fnOf x qual (YY st) (Yr st) (Xi st) .none kV doc pm an cdv ct /\ K.lookup f = some ⟨oc, od, .func fd, osl⟩ /\ PySem.W.codeIn K cdv qual = true
  kp : PySem.W.keepIn K (.ref f) = true
section
variable {P : Program} {w : World} {K : Fgg} {mg : Str -> Option Value} {base : Heap}
theorem Fun.ok {x qual : Str} {st : Stmt} {f : Addr} {fd : FuncData} {N ps : List Str} {k : Nat} {sp : Sp} (F : Fun K x qual st f fd) (S : FnScope N ps (Xi st)) (len : ∀ vs H Q E, sp vs H Q E -> vs.length = ps.length)
    (hbody : ∀ (cdv : Value) (A : Around) (outer : List Env) (s : Shared) (H : Hp) (vs : List V) (Q : VK) (E : XK), Room k (A.deeper (envOfC qual (Xi st) s.heap.objs.size f cdv)) -> sp vs H Q E ->
      ∃ t, PSs (Fs CX0 P w K mg base N qual (Xi st) f cdv A outer s H E).nox (Yr st) t /\ t { nx:=λ_ H'=>Q .non H', rt:=Q } (VM N vs) H) : FnOk P w K mg base CX0 (k + 1) f fd ps sp:=by
  obtain ⟨oc, od, kV, doc, pm, an, cdv, ct, osl, rfl, lk, hcd⟩:=F.ex
  refine IX lk hcd S len λA outer s H vs Q E hr hsp=>?_
  obtain ⟨t, h, q⟩:=hbody cdv A outer s H vs Q E hr hsp
  exact ⟨t, h.nox, q⟩
theorem Fun.binds {x qual : Str} {st : Stmt} {f : Addr} {fd : FuncData} {ps : List Str} (F : Fun K x qual st f fd)
    (h : ∀ (kV doc pm : Value) (an : Option Addr) (cdv ct : Value) (us : List Value), us.length = ps.length -> bindArgs (PySem.W.fnOf x qual (YY st) (Yr st) (Xi st) .none kV doc pm an cdv ct) ⟨us, []⟩ = pure (ps.zip us)) : Kf K fd ps []:=by
  obtain ⟨oc, od, kV, doc, pm, an, cdv, ct, osl, rfl, lk, hcd⟩:=F.ex
  exact .all (h kV doc pm an cdv ct)
theorem QZ {x qual : Str} {st : Stmt} {f : Addr} {oc : Value} {od an : Option Addr} {osl : Array (Option Value)} {kV doc pm cdv ct : Value} (l : K.lookup f = some ⟨oc, od, .func (PySem.W.fnOf x qual (YY st) (Yr st) (Xi st) .none kV doc pm an cdv ct), osl⟩)
    (c : PySem.W.codeIn K cdv qual = true) (k : PySem.W.keepIn K (.ref f) = true) : Fun K x qual st f (PySem.W.fnOf x qual (YY st) (Yr st) (Xi st) .none kV doc pm an cdv ct):=⟨⟨oc, od, kV, doc, pm, an, cdv, ct, osl, rfl, l, c⟩, k⟩
end
theorem Yl {A : Around} {k : Nat} (hr : Room k A) : A.units + 1 < cLine:=Nat.lt_of_le_of_lt (Nat.add_le_add_left (by decide : 1 <= 64) _) hr.units
theorem Dj {n : Nat} (h : n <= 1000) : n < sizeLine:=Nat.lt_of_le_of_lt h (by decide)
section
variable {X : Cx}
theorem pv (i : Nat) {x : Str} {pos : Pos} (hN : X.N[i]? = some x:=by rfl) (hv : Vis X.env.scope x:=by first | exact Or.inl rfl | exact Or.inr (Or.inl rfl) | exact Or.inr (Or.inr rfl)) (hd : (x == ("__debug__" : Str)) = false:=by decide)
    (hcd : (x == ("__classdict__" : Str)) = false:=by decide) : PE X (.Name x pos) (UX i):=Ld hN hv hd hcd
end
def Xp (H H' : Hp) : Prop:=∀ b o, H b = some o -> H' b = some o
theorem Xp.refl (H : Hp) : Xp H H:=λ_ _ h=>h
theorem Xp.trans {H H1 H2 : Hp} (a : Xp H H1) (b : Xp H1 H2) : Xp H H2:=λc o h=>b c o (a c o h)
theorem Xp.free {H H' : Hp} (e : Xp H H') {l : Addr} (h : H' l = Option.none) : H l = Option.none:=by
  cases q : H l with
  | none=>rfl
  | some o=>
    rw [e l o q] at h
    cases h
theorem Xp.seq {K : Fgg} {H H' : Hp} {a : Addr} {xs : List V} (e : Xp H H') (h : SqL K H a xs) : SqL K H' a xs:=by
  rcases h with (h | ⟨o, h⟩) | h
  . exact .inl (.inl (e _ _ h))
  . exact .inl (.inr ⟨o, e _ _ h⟩)
  . exact .inr h
section
variable {κ : Type} [DecidableEq κ]
def G7 (kvs : List (κ × V)) (k : κ) : Option V:=(kvs.find? λkv=>decide (kv.1 = k)).map (·.2)
def UW (kvs : List (κ × V)) (k : κ) (v : V) : List (κ × V):=
  if (kvs.any λkv=>decide (kv.1 = k)) = true then kvs.map (λkv=>if kv.1 = k then (kv.1, v) else kv) else kvs ++ [(k, v)]
def L4 (kvs : List (κ × V)) (k : κ) : List (κ × V):=kvs.filter λkv=>decide (kv.1 ≠ k)
theorem JE {p : κ × V} {r : List (κ × V)} {k : κ} (e : p.1 = k) : G7 (p :: r) k = some p.2:=by simp [G7, List.find?_cons, e]
theorem Jw {p : κ × V} {r : List (κ × V)} {k : κ} (e : ¬ p.1 = k) : G7 (p :: r) k = G7 r k:=by simp [G7, List.find?_cons, e]
theorem GF (k : κ) : ∀ kvs : List (κ × V), (kvs.any λkv=>decide (kv.1 = k)) = (G7 kvs k).isSome
  | []=>rfl
  | p :: r=>by
    rw [List.any_cons]
    by_cases e : p.1 = k
    . simp only [JE e, decide_eq_true e, Bool.true_or, Option.isSome_some]
    . rw [Jw e, decide_eq_false e, Bool.false_or]; exact GF k r
theorem Ex.isSome_eq {o : Option V} {u : Option Value} (r : Ex o u) : o.isSome = u.isSome:=by
  cases o with
  | none=>cases u with
    | none=>rfl
    | some _=>exact (show False from r).elim
  | some _=>cases u with
    | none=>exact (show False from r).elim
    | some _=>rfl
theorem Ex.getD {o : Option V} {u : Option Value} {d : V} {d' : Value} (r : Ex o u) (rd : X7 d d') : X7 (o.getD d) (u.getD d'):=by
  cases o with
  | none=>cases u with
    | none=>exact rd
    | some _=>exact (show False from r).elim
  | some _=>cases u with
    | none=>exact (show False from r).elim
    | some _=>exact r
theorem KV.val {kvs : List (κ × V)} {vs : List (κ × Value)} (r : KV kvs vs) (k : κ) : Ex (G7 kvs k) (valueAt vs k):=by
  unfold KV at r
  induction r with
  | nil=>exact True.intro
  | @cons p q ps qs h t ih=>
    obtain ⟨h1, h2⟩:=h
    by_cases e : p.1 = k
    . have e' : q.1 = k := h1.symm.trans e
      have b : valueAt (q :: qs) k = some q.2:=by simp [valueAt, List.find?_cons, e']
      rw [JE e, b]; exact h2
    . have e' : ¬ q.1 = k := λz => e (h1.trans z)
      have b : valueAt (q :: qs) k = valueAt qs k:=by simp [valueAt, List.find?_cons, e']
      rw [Jw e, b]; exact ih
theorem KV.any {kvs : List (κ × V)} {vs : List (κ × Value)} (r : KV kvs vs) (k : κ) : (kvs.any λkv=>decide (kv.1 = k)) = vs.any λkv=>decide (kv.1 = k):=by
  unfold KV at r
  induction r with
  | nil=>rfl
  | cons h t ih=>rw [List.any_cons, List.any_cons, ih, h.1]
theorem KV.repl {kvs : List (κ × V)} {vs : List (κ × Value)} (r : KV kvs vs) (k : κ) {y : V} {u : Value} (ry : X7 y u) :
    KV (kvs.map λkv=>if kv.1 = k then (kv.1, y) else kv) (vs.map λkv=>if kv.1 = k then (kv.1, u) else kv):=by
  unfold KV at r ⊢
  induction r with
  | nil=>exact .nil
  | @cons p q ps qs h t ih=>
    rw [List.map_cons, List.map_cons]
    refine .cons ?_ ih
    obtain ⟨h1, h2⟩:=h
    by_cases e : p.1 = k
    . rw [if_pos e, if_pos (h1.symm.trans e)]; exact ⟨h1, ry⟩
    . rw [if_neg e, if_neg (λz=>e (h1.trans z))]; exact ⟨h1, h2⟩
theorem KV.put {kvs : List (κ × V)} {vs : List (κ × Value)} (r : KV kvs vs) (k : κ) {y : V} {u : Value} (ry : X7 y u) : KV (UW kvs k y) (stored vs k u):=by
  unfold UW stored
  rw [r.any k]
  by_cases e : (vs.any λkv=>decide (kv.1 = k)) = true
  . rw [if_pos e, if_pos e]; exact r.repl k ry
  . rw [if_neg e, if_neg e]; exact Paired.snoc r ⟨rfl, ry⟩
theorem KV.drop {kvs : List (κ × V)} {vs : List (κ × Value)} (r : KV kvs vs) (k : κ) : KV (L4 kvs k) (without vs k):=by
  unfold KV at r ⊢
  unfold L4 without
  induction r with
  | nil=>exact .nil
  | @cons p q ps qs h t ih=>
    obtain ⟨h1, h2⟩:=h
    rw [List.filter_cons, List.filter_cons]
    by_cases e : p.1 = k
    . have a : ¬ decide (p.1 ≠ k) = true := by simp [e]
      have b : ¬ decide (q.1 ≠ k) = true:=by simp [h1.symm.trans e]
      rw [if_neg a, if_neg b]; exact ih
    . have e' : ¬ q.1 = k := λz => e (h1.trans z)
      have a : decide (p.1 ≠ k) = true:=by simp [e]
      have b : decide (q.1 ≠ k) = true:=by simp [e']
      rw [if_pos a, if_pos b]; exact .cons ⟨h1, h2⟩ ih
theorem KV.keys {kvs : List (κ × V)} {vs : List (κ × Value)} (r : KV kvs vs) : kvs.map (·.1) = vs.map (·.1):=by
  unfold KV at r
  induction r with
  | nil=>rfl
  | cons h t ih=>rw [List.map_cons, List.map_cons, ih, h.1]
theorem KV.length {kvs : List (κ × V)} {vs : List (κ × Value)} (r : KV kvs vs) : kvs.length = vs.length:=Paired.length r
end
theorem Mp {P : Program} {w : World} {k : Key} {u : Value} (r : X7 (kV k) u) : (YX P w).is k u = true:=by
  cases k with
  | inl i=>obtain ⟨t, e⟩:=(show ∃ t, u = Value.int i t from r); subst e; exact K6 P w i t
  | inr x=>obtain ⟨t, e⟩:=(show ∃ t, u = Value.str x t from r); subst e; exact K5 P w x t
theorem Kk {P : Program} {w : World} : ∀ {ks : List Key} {us : List Value}, X5 (ks.map kV) us -> ItemsAre (YX P w) ks us
  | [], _, r=>by rw [List.map_nil] at r; cases r; exact .nil
  | k :: ks, _, r=>by
    rw [List.map_cons] at r
    cases r with
    | cons h t=>exact .cons (Mp h) (Kk t)
abbrev KT (H : Hp) : List (List Key × V) -> List (List Key × Addr × Value) -> Prop:=Paired λp q=>p.1 = q.1 /\ H q.2.1 = some (.tup (p.1.map kV)) /\ X7 p.2 q.2.2
theorem KT.val {H : Hp} {kvs : List (List Key × V)} {xs : List (List Key × Addr × Value)} (r : KT H kvs xs) (k : List Key) : Ex (G7 kvs k) ((atKey xs k).map (·.2)):=by
  induction r with
  | nil=>exact True.intro
  | @cons p q ps qs h t ih=>
    obtain ⟨h1, _, h2⟩:=h
    by_cases e : p.1 = k
    . have e' : q.1 = k := h1.symm.trans e
      have b : atKey (q :: qs) k = some q.2:=by simp [atKey, List.find?_cons, e']
      rw [JE e, b]; exact h2
    . have e' : ¬ q.1 = k := λz => e (h1.trans z)
      have b : atKey (q :: qs) k = atKey qs k:=by simp [atKey, List.find?_cons, e']
      rw [Jw e, b]; exact ih
theorem KT.repl {H : Hp} {kvs : List (List Key × V)} {xs : List (List Key × Addr × Value)} (r : KT H kvs xs) (k : List Key) {y : V} {u : Value} (ry : X7 y u) :
    KT H (kvs.map λkv=>if kv.1 = k then (kv.1, y) else kv) (xs.map (putAt k u)):=by
  induction r with
  | nil=>exact .nil
  | @cons p q ps qs h t ih=>
    rw [List.map_cons, List.map_cons]
    refine .cons ?_ ih
    obtain ⟨h1, h2, h3⟩:=h
    unfold putAt
    by_cases e : p.1 = k
    . rw [if_pos e, if_pos (h1.symm.trans e)]; exact ⟨h1, h2, ry⟩
    . rw [if_neg e, if_neg (λz=>e (h1.trans z))]; exact ⟨h1, h2, h3⟩
theorem KT.put {H : Hp} {kvs : List (List Key × V)} {xs : List (List Key × Addr × Value)} (r : KT H kvs xs) (k : List Key) {b : Addr} {y : V} {u : Value} (hb : H b = some (.tup (k.map kV))) (ry : X7 y u) :
    KT H (UW kvs k y) (storedH xs k b u):=by
  have e : (kvs.any λkv=>decide (kv.1 = k)) = (atKey xs k).isSome:=by
    rw [GF, (r.val k).isSome_eq, Option.isSome_map]
  unfold UW storedH
  rw [e]
  by_cases q : (atKey xs k).isSome = true
  . rw [if_pos q, if_pos q]; exact r.repl k ry
  . rw [if_neg q, if_neg q]; exact Paired.snoc r ⟨rfl, hb, ry⟩
theorem KT.keeps {H H' : Hp} {kvs : List (List Key × V)} {xs : List (List Key × Addr × Value)} (r : KT H kvs xs) (ht : ∀ b ys, H b = some (.tup ys) -> H' b = some (.tup ys)) : KT H' kvs xs:=
  Paired.mapP r λ_ _ z=>⟨z.1, ht _ _ z.2.1, z.2.2⟩
section
variable {P : Program} {w : World} {H : Hp} {h : Heap} {a : Addr}
theorem Ly {u : HO} (ok : HOk P w H h) (e : Rd H a u) : Zd P w H h a u:=e.ok ok
theorem MQ {kvs : List (Key × V)} (ok : HOk P w H h) (e : Rd H a (.dK kvs)) : kvs.length <= sizeLine /\ (a == sysModules) = false /\ ∃ vs, KV kvs vs /\ h.DictOf (YX P w) a vs:=
  show Zd P w H h a (.dK kvs) from Ly ok e
theorem GG {ks : List Key} (ok : HOk P w H h) (e : H a = some (.tup (ks.map kV))) : (tupleKind (YX P w)).is h ks a:=by
  obtain ⟨_, its, r, o, h1, h2, n, h3⟩:=(show Zd P w H h a (.tup (ks.map kV)) from ok a _ e)
  exact ⟨o, its.toArray, n, h1, h2, h3, by simpa using Kk r⟩
theorem MH {kvs : List (List Key × V)} (ok : HOk P w H h) (e : Rd H a (.dT kvs)) : kvs.length <= sizeLine /\ (a == sysModules) = false /\
    ∃ xs, KT H kvs xs /\ h.DictOfH (tupleKind (YX P w)) a xs:=by
  obtain ⟨z, y, xs, r, o, es, ep, h1, h2, h3, h4, h5⟩:=(show Zd P w H h a (.dT kvs) from Ly ok e)
  refine ⟨z, y, xs, r, o, es, ep, h1, h2, h3, h4, λx hx=>?_, h5⟩
  have all : ∀ {l : List (List Key × V)} {m : List (List Key × Addr × Value)}, KT H l m -> ∀ x ∈ m, (tupleKind (YX P w)).is h x.1 x.2.1:=by
    intro l m q
    induction q with
    | nil=>intro x hx; exact nomatch hx
    | @cons p q ps qs hq t ih=>
      intro x hx
      rcases List.mem_cons.mp hx with e | hx
      . subst e
        exact GG ok (by rw [← hq.1]; exact hq.2.1)
      . exact ih x hx
  exact all r x hx
end
def IN (H : Hp) (a : Addr) (y : V) (r : Option V) : Prop:=
  (∃ kvs k, Rd H a (.dK kvs) /\ y = kV k /\ r = G7 kvs k) ∨ ∃ kvs k b, Rd H a (.dT kvs) /\ y = .ref b /\ H b = some (.tup (k.map kV)) /\ r = G7 kvs k
def MA (H : Hp) (a : Addr) (y v : V) (H' : Hp) : Prop:=
  (∃ kvs k, H a = some (.dK kvs) /\ y = kV k /\ kvs.length < sizeLine /\ H' = upd H a (.dK (UW kvs k v))) ∨
  ∃ kvs k b, H a = some (.dT kvs) /\ y = .ref b /\ H b = some (.tup (k.map kV)) /\ kvs.length < sizeLine /\ H' = upd H a (.dT (UW kvs k v))
theorem IN.k {H : Hp} {a : Addr} {kvs : List (Key × V)} {k : Key} (e : H a = some (.dK kvs)) : IN H a (kV k) (G7 kvs k):=.inl ⟨kvs, k, .inl e, rfl, rfl⟩
theorem IN.t {H : Hp} {a b : Addr} {kvs : List (List Key × V)} {k : List Key} (e : H a = some (.dT kvs)) (eb : H b = some (.tup (k.map kV))) : IN H a (.ref b) (G7 kvs k):=.inr ⟨kvs, k, b, .inl e, rfl, eb, rfl⟩
theorem MA.k {H : Hp} {a : Addr} {kvs : List (Key × V)} {k : Key} {v : V} (e : H a = some (.dK kvs)) (hl : kvs.length < sizeLine) : MA H a (kV k) v (upd H a (.dK (UW kvs k v))):=.inl ⟨kvs, k, e, rfl, hl, rfl⟩
theorem MA.t {H : Hp} {a b : Addr} {kvs : List (List Key × V)} {k : List Key} {v : V} (e : H a = some (.dT kvs)) (eb : H b = some (.tup (k.map kV))) (hl : kvs.length < sizeLine) :
    MA H a (.ref b) v (upd H a (.dT (UW kvs k v))):=.inr ⟨kvs, k, b, e, rfl, eb, hl, rfl⟩
section
variable {X : Cx} {pins : List (Addr × Obj)} {σ : St} {H : Hp} {s : Shared} {a : Addr} {y v : V} {u r : Value} {o : Option V} {A : Around} {E : Value -> Shared -> Prop}
theorem Inv.big (I : Inv X pins σ H s) : sysModules < s.heap.objs.size:=by
  have h : mainGlobals < s.heap.objs.size:=(I.mod.glob.keeps I.bk).lt
  exact Nat.lt_trans (by decide) h
theorem NB {Q : Value -> Shared -> Prop} (hu : A.units + 1 < cLine) (I : Inv X pins σ H s) (g : IN H a y o) (ry : X7 y u) (h : ∀ s', Inv X pins σ H s' -> Q (.bool o.isSome) s') :
    wpAny (model X.prog X.w) A (compareOp .In u (.ref a)) Q E s:=by
  rcases g with ⟨kvs, k, e, ey, l⟩ | ⟨kvs, k, b, e, ey, eb, l⟩
  . subst ey
    obtain ⟨z, hd, vs, rel, dd⟩:=MQ I.hok e
    refine wpAny_in_of (Mp ry) hd dd.mapOf ?_
    rw [← (rel.val k).isSome_eq, ← l]
    exact h _ (I.tok _)
  . subst ey
    cases (show u = Value.ref b from ry)
    obtain ⟨z, hd, xs, rel, dd⟩:=MH I.hok e
    refine wpAny_in_heap (tupleKind_room_in1 hu) (GG I.hok eb) hd dd ?_
    have q:=(rel.val k).isSome_eq
    rw [Option.isSome_map] at q
    rw [← q, ← l]
    exact h _ (I.tok _)
end
section
variable {X : Cx} {pins : List (Addr × Obj)} {σ : St} {H : Hp} {s : Shared} {a : Addr} {kvs : List (Key × V)} {k : Key} {u : Value} {A : Around} {E : Value -> Shared -> Prop}
end
def Nn (ty td : TE) : TE:=λσ H Q=>ty σ H λy H1=>td σ H1 λx H2=>∃ a o, x = .ref a /\ IN H2 a y o /\ Q (.bl o.isSome) H2
section
variable {X : Cx} {o i e value : Expr} {pos pos' tpos : Pos} {td ty tv : TE}
theorem LN (hu : X.A.units + 1 < cLine) (hi : PE X i ty) (ho : PE X o td) : PC X .In i o (Nn ty td):=by
  intro pins s σ H Q I h
  refine thn (hi pins s σ H _ I h) λiv s1 ⟨y, H1, I1, ry, q1⟩=>thn (ho pins s1 σ H1 _ I1 q1) λu s2 r9=>?_
  obtain ⟨x, H2, I2, rx, a, ov, ex, g, q2⟩:=r9
  subst ex
  obtain rfl : u = Value.ref a:=rx
  exact NB hu I2 g ry λs3 I3=>⟨.bl ov.isSome, H2, I3, rfl, q2⟩
end
section
variable {X : Cx} {pos : Pos}
end
section
variable {X : Cx} {pins : List (Addr × Obj)} {σ : St} {H : Hp} {s : Shared} {a : Addr} {y d : V} {u r : Value} {o : Option V} {A : Around} {E : Value -> Shared -> Prop}
end
section
variable {X : Cx} {o e f : Expr} {apos cpos : Pos} {td ty tx : TE}
end
section
variable {X : Cx} {pins : List (Addr × Obj)} {σ : St} {H : Hp} {s : Shared} {a : Addr} {kvs : List (Key × V)} {A : Around} {E : Value -> Shared -> Prop}
end
section
variable {X : Cx} {pins : List (Addr × Obj)} {σ : St} {H : Hp} {s : Shared} {a : Addr} {y : V} {u : Value} {A : Around} {E : Value -> Shared -> Prop}
end
section
variable {X : Cx}
end
section
variable {κ : Type} [DecidableEq κ]
end
theorem DQ {env : Env} : ∀ (names : List (Str × NameKind)), (∀ x ∈ names, x.2 = NameKind.free -> ∃ c, env.cells.lookup x.1 = some c) ->
    ∀ cs : List (Str × Addr), (∀ x c, cs.lookup x = some c -> env.cells.lookup x = some c) ->
    ∃ cl : List (Str × Addr), (forIn names cs (λ(x : Str × NameKind) (r : List (Str × Addr))=>(if (x.2 == NameKind.free) = true then do let a ← cellOf env x.1; pure (ForInStep.yield ((x.1, a) :: r)) else pure (ForInStep.yield r) : Sem (ForInStep (List (Str × Addr)))))) = (pure cl : Sem (List (Str × Addr))) /\
      (∀ x c, cl.lookup x = some c -> env.cells.lookup x = some c) /\ (∀ x, ((x, NameKind.free) ∈ names ∨ ∃ c, cs.lookup x = some c) -> ∃ c, cl.lookup x = some c)
  | [], _, cs, hs=>⟨cs, by rw [List.forIn_nil], hs, λx h=>h.elim (λz=>nomatch z) id⟩
  | (n, k) :: r, hf, cs, hs=>by
    have hr : ∀ x ∈ r, x.2 = NameKind.free -> ∃ c, env.cells.lookup x.1 = some c:=λx hx=>hf x (ZP _ hx)
    by_cases hk : k = NameKind.free
    . subst hk
      obtain ⟨a, ha⟩:=hf (n, NameKind.free) Zq rfl
      have hs' : ∀ x c, ((n, a) :: cs).lookup x = some c -> env.cells.lookup x = some c:=λx c h=>by
        rw [List.lookup_cons] at h
        by_cases hx : x = n
        . subst hx
          simp only [beq_self_eq_true] at h
          rw [← h]; exact ha
        . have : (x == n) = false := beq_eq_false_iff_ne.mpr hx
          rw [this] at h
          exact hs x c h
      obtain ⟨cl, e, h1, h2⟩:=DQ r hr ((n, a) :: cs) hs'
      refine ⟨cl, ?_, h1, λx h=>h2 x ?_⟩
      . rw [List.forIn_cons]
        have e1 : cellOf env n = pure a:=by unfold cellOf; rw [show env.cells.lookup n = some a from ha]
        simp only [beq_self_eq_true, if_true, e1]
        exact e
      . rcases h with h | ⟨c, h⟩
        . rcases List.mem_cons.mp h with h | h
          . have : x = n := congrArg Prod.fst h
            subst this
            exact .inr ⟨a, by rw [List.lookup_cons]; simp⟩
          . exact .inl h
        . by_cases hx : x = n
          . subst hx; exact .inr ⟨a, by rw [List.lookup_cons]; simp⟩
          . exact .inr ⟨c, by rw [List.lookup_cons, beq_eq_false_iff_ne.mpr hx]; exact h⟩
    . obtain ⟨cl, e, h1, h2⟩ := DQ r hr cs hs
      refine ⟨cl, ?_, h1, λx h=>h2 x ?_⟩
      . rw [List.forIn_cons]
        have hb : (k == NameKind.free) = false:=by simpa using hk
        simp only [hb, Bool.false_eq_true, if_false]
        exact e
      . rcases h with h | h
        . rcases List.mem_cons.mp h with h | h
          . exact absurd (congrArg Prod.snd h).symm hk
          . exact .inl h
        . exact .inr h
theorem GA {scope : Scope} {env : Env} (hf : ∀ x ∈ scope.names, x.2 = NameKind.free -> ∃ c, env.cells.lookup x.1 = some c) :
    ∃ cl : List (Str × Addr), closureFor scope env = pure cl /\ (∀ x c, cl.lookup x = some c -> env.cells.lookup x = some c) /\ (∀ x, (x, NameKind.free) ∈ scope.names -> ∃ c, cl.lookup x = some c):=by
  obtain ⟨cl, e, h1, h2⟩:=DQ scope.names hf [] (λx c h=>by simp at h)
  refine ⟨cl, ?_, h1, λx h=>h2 x (.inl h)⟩
  unfold closureFor
  show ((forIn scope.names [] (λ(x : Str × NameKind) (r : List (Str × Addr))=>(if (x.2 == NameKind.free) = true then do let a ← cellOf env x.1; pure (ForInStep.yield ((x.1, a) :: r)) else pure (ForInStep.yield r) : Sem (ForInStep (List (Str × Addr)))))) >>= λs=>pure s) = pure cl
  rw [e]
  rfl
theorem QL {env : Env} : ∀ {names : List (Str × NameKind)} {x : Str} {k : NameKind}, (∀ y ∈ names, y.2 ≠ NameKind.cell) ->
    (names.map λ(n, k)=>if (k == NameKind.free && env.scope.kind == .function && env.kindOf n == some .cell) then (n, NameKind.cell) else (n, k)).lookup x = some k -> (k = .cell ∨ k = .free) -> (x, NameKind.free) ∈ names
  | [], _, _, _, h, _=>by simp at h
  | (n, kk) :: r, x, k, hc, h, hk=>by
    have ih:=@QL env r x k (λy hy=>hc y (ZP _ hy))
    have hh:=hc (n, kk) Zq
    simp only [List.map_cons] at h
    by_cases hcond : (kk == NameKind.free && env.scope.kind == .function && env.kindOf n == some .cell) = true
    . rw [if_pos hcond, List.lookup_cons] at h
      have hfree : kk = NameKind.free:=by
        rw [Bool.and_eq_true, Bool.and_eq_true] at hcond
        simpa using hcond.1.1
      cases hx : x == n with
      | true=>
        have : x = n:=by simpa using hx
        subst this; subst hfree
        exact Zq
      | false=>rw [hx] at h; exact ZP _ (ih h hk)
    . rw [if_neg hcond, List.lookup_cons] at h
      cases hx : x == n with
      | true=>
        rw [hx] at h
        have hkk : kk = k:=Option.some.inj h
        have : x = n:=by simpa using hx
        subst this; subst hkk
        rcases hk with z | z
        . exact absurd z hh
        . subst z; exact Zq
      | false=>rw [hx] at h; exact ZP _ (ih h hk)
theorem Qm {env : Env} : ∀ {names : List (Str × NameKind)} {x : Str}, names.lookup x = some .free ->
    let l:=(names.map λ(n, k)=>if (k == NameKind.free && env.scope.kind == .function && env.kindOf n == some .cell) then (n, NameKind.cell) else (n, k))
    l.lookup x = some .cell ∨ l.lookup x = some .free
  | [], _, h=>by simp at h
  | (n, kk) :: r, x, h=>by
    have ih:=@Qm env r x
    simp only [List.map_cons]
    rw [List.lookup_cons] at h
    by_cases hcond : (kk == NameKind.free && env.scope.kind == .function && env.kindOf n == some .cell) = true
    . rw [if_pos hcond, List.lookup_cons]
      cases hx : x == n with
      | true=>exact .inl rfl
      | false=>rw [hx] at h; exact ih h
    . rw [if_neg hcond, List.lookup_cons]
      cases hx : x == n with
      | true=>rw [hx] at h; exact .inr h
      | false=>rw [hx] at h; exact ih h
abbrev Cx.comp (X : Cx) (N : List Str) (scope : Scope) (cl : List (Str × Addr)) (C : Addr) (s : Shared) (H : Hp) (ex : List Addr) (E : Value -> Shared -> Prop) : Cx:=
  { X with N:=N, s₀:=s, H₀:=H, env:=compEnvC scope cl C X.env, outer:=X.stack, ex:=ex, fn:=λ_=>false, pn:=[], xe:=E }
def PTs (X : Cx) (ifs : List Expr) (t : TT) : Prop:=
  ∀ (pins : List (Addr × Obj)) (s : Shared) (σ : St) (H : Hp) (Q : Bool -> Hp -> Prop), Inv X pins σ H s -> t σ H Q ->
    wpAny (model X.prog X.w) X.A (forIn ifs true λc r=>if r = true then do let ok ← isTrue c X.env (eval c X.env); pure (ForInStep.yield ok) else pure (ForInStep.yield r)) (TP X pins σ Q) X.xe s
def UC : TT:=λ_ H Q=>Q true H
theorem Lo {σ : St} {H : Hp} {A B : Hp -> Prop} (h : A H) : UC σ H λc H5=>if c = true then A H5 else B H5:=by
  show if true = true then A H else B H
  rw [if_pos rfl]
  exact h
theorem Y5 {X : Cx} : PTs X [] UC:=λ_ _ _ H _ I h=>wpAny_tests_nil ⟨H, I, h⟩
theorem Up {X : Cx} {c : Expr} {t : TT} (h : PT X c t) : PTs X [c] t:=λpins s σ H Q I hw=>wpAny_tests_one (h pins s σ H Q I hw)
def Vx (n : Nat) (g : TG) : Prop:=∀ x σ H Q, g x σ H Q -> g x σ H λσ2 H2=>Q σ2 H2 /\ σ2.length = σ.length /\ ∀ i, n <= i -> σ2[i]? = σ[i]?
theorem Yt {n i : Nat} (h : i < n) : Vx n (QP i):=λx σ H Q q=>⟨q, by simp, λj hj=>by rw [List.getElem?_set_ne (by lia)]⟩
def YI (n : Nat) (caps : List (Nat × Str)) (σ : St) : St:=List.replicate n none ++ caps.map λp=>(σ[p.1]?).join
def B6 (g : TG) (tt : TT) (te : TE) (σ : St) (Q : VK) (J : It) (W : Nat -> Nat -> List V -> Hp -> Prop) : Prop:=
  ∀ i m ys H2, W i m ys H2 -> ys.length <= sizeLine /\
    ((J.stop i H2 /\ ∀ p, H2 p = none -> Q (.ref p) (upd H2 p (.lst ys))) ∨
    (J.go i H2 /\ ∃ N : List V -> Hp -> Prop, (∀ ys' H', N ys' H' -> ∃ m', m' < m /\ W (i + 1) m' ys' H') /\ ∀ x H3, J.yld i H2 x H3 -> g x σ H3 λσ4 H4=>tt σ4 H4 λc H5=>
      if c = true then te σ4 H5 λv H6=>N (ys ++ [v]) H6 else N ys H5))
def DW (n : Nat) (caps : List (Nat × Str)) (g : TG) (tt : TT) (te : TE) (σ : St) (Q : VK) (J : It) (H1 : Hp) : Prop:=
  ∃ W : Nat -> Nat -> List V -> Hp -> Prop, (∃ m, W 0 m [] H1) /\ B6 g tt te (YI n caps σ) Q J W
def KC (n : Nat) (caps : List (Nat × Str)) (wi : TI) (g : TG) (tt : TT) (te : TE) : TE:=λσ H Q=>wi σ H λJ H1=>DW n caps g tt te σ Q J H1
def U8 (sc scope : Scope) (N0 tns : List Str) (caps : List (Nat × Str)) : Bool:=
  scope.kind == .function && scope.names.all (λy=>!(y.2 == .cell)) && scope.names.all (λy=>!(y.2 == .local) || scope.names.lookup y.1 == some .local) &&
  scope.names.all (λy=>!(y.2 == .free) || sc.names.lookup y.1 == some .cell) && caps.all (λp=>N0[p.1]? == some p.2 && sc.names.lookup p.2 == some .cell && scope.names.lookup p.2 == some .free)
theorem Kr {α : Type} {p : α} {P : Prop} (h : p ∈ ([] : List α)) : P:=nomatch h
def LW (M : Model) (A : Around) (elt tg : Expr) (ifs : List Expr) (acc : Value) (env : Env) (E : Value -> Shared -> Prop) (K : Shared -> Prop) (v : Value) (s : Shared) : Prop:=
  wpAny M A (assign tg env v) (λ_ s₂=>wpAny M A (forIn ifs true λc r=>if r = true then do let ok ← isTrue c env (eval c env); pure (ForInStep.yield ok) else pure (ForInStep.yield r)) (λok s₃=>
    if ok = true then wpAny M A (eval elt env) (λx s₄=>wpAny M A (call (.builtin "list.append") [acc, x]) (λ_ s₅=>K s₅) E s₄) E s₃ else K s₃) E s₂) E s
def M0 (M : Model) (A : Around) (elt tg : Expr) (ifs : List Expr) (it acc : Value) (env : Env) (E : Value -> Shared -> Prop) (Rn K : Shared -> Prop) (s : Shared) : Prop:=
  wpAny M A (pyNext it) (λr s₁=>r = none /\ Rn s₁ ∨ ∃ v, r = some v /\ wpAny M A (letOwnedTupleGo tg it v) (λ_ s₁=>LW M A elt tg ifs acc env E K v s₁) E s₁) E s
section
variable {prog : Program} {w : World} {A : Around} {R : Result -> Shared -> Prop} {s : Shared}
theorem Ks {elt target iter : Expr} {ifs : List Expr} {scope : Scope} {pos : Pos} {it acc : Value} {env : Env} {E : Value -> Shared -> Prop} (I : Nat -> Shared -> Prop) (hE : (notedBy (model prog w) A env λe s'=>R (.error e) s') = E)
    (turn : ∀ n s, I n s -> M0 (model prog w) A elt target ifs it acc env E (λs=>R (.ok .next) s) (λs=>∃ m, m < n /\ I m s) s) (n : Nat) (h : I n s) :
    codeAny (model prog w) A (.compLoop (.ListComp elt [⟨target, iter, ifs, 0⟩] scope pos) 0 it acc env) R s:=by
  subst hE
  refine codeAny_loop rfl I (λn s hI=>?_) n h
  show wpAny _ A ((compTurn (.ListComp elt [⟨target, iter, ifs, 0⟩] scope pos) 0 it acc env).onRaise (λx=>do noteFrame x env; theTreesLotGoes x)) _ _ s
  refine wpAny_noted ?_
  rw [compTurn_list]
  refine wpAny_bind (wpAny_standAt (wpAny_bind (thn (turn n s hI) λr s₁ h₁=>?_)))
  rcases h₁ with ⟨rfl, h₁⟩ | ⟨v, rfl, h₁⟩
  . exact wpAny_pure h₁
  . refine wpAny_bind (thn h₁ λ_ s₁' h₁' => wpAny_bind (thn h₁' λ_ s₂ h₂ => wpAny_bind (thn h₂ λok s₃ h₃ => ?_)))
    cases ok with
    | false=>exact wpAny_pure ⟨rfl, h₃⟩
    | true=>exact wpAny_bind (wpAny_bind (thn h₃ λx s₄ h₄=>wpAny_bind (thn h₄ λ_ s₅ h₅=>wpAny_pure (wpAny_pure ⟨rfl, h₅⟩))))
end
def lob (its : List Value) (k : Nat) : Obj:={ cls:=.type "list", data:=.seq (List.toArray its) k }
structure CIn (Y : Cx) (tn : Nat -> Heap -> Prop) (fp : List Addr) (D : Addr) (σ : St) (i : Nat) (H : Hp) (o : Obj) (s : Shared) : Prop where
  I : Inv Y [] σ H s
  t : tn i s.heap
  f : ∀ b ∈ fp, H b = none
  l : s.heap.get? D = some o
  n : H D = none
inductive CI (Y : Cx) (tn : Nat -> Heap -> Prop) (fp : List Addr) (D : Addr) (σ : St) (W : Nat -> Nat -> List V -> Hp -> Prop) (m : Nat) (s : Shared) : Prop
  | mk (i : Nat) (H : Hp) (ys : List V) (its : List Value) (k : Nat) (c : CIn Y tn fp D σ i H (lob its k) s) (r : X5 ys its) (w : W i m ys H)
structure CAt (Y : Cx) (fp : List Addr) (D : Addr) : Prop where
  calm : Y.calm = true
  pn : Y.pn = []
  ne : D ≠ Y.env.locals
  fs : D ∉ Y.fs
  sz : Y.s₀.heap.objs.size <= D
  cl : ∀ x c, Y.env.cells.lookup x = some c -> c ≠ D
  fpn : ∀ b ∈ fp, b ≠ D
  ok : ∀ b ∈ fp, ∀ H : Hp, H b = none -> Gk Y [] H b
section
variable {Y : Cx} {tn : Nat -> Heap -> Prop} {fp : List Addr} {D it : Addr} {σ : St} {tg elt iter : Expr} {ifs : List Expr} {J : It} {g : TG} {tt : TT} {te : TE} {n i : Nat} {H : Hp} {s : Shared} {o : Obj} {Kn : Shared -> Prop}
theorem CAt.pins (c : CAt Y fp D) (hn : ∀ b ∈ fp, H b = none) : ∀ b ∈ fp, Gk Y [(D, o)] H b:=λb hb=>
  have z:=c.ok b hb H (hn b hb)
  ⟨z.1, z.2.1, z.2.2.1, z.2.2.2.1, z.2.2.2.2.1, λp hp e=>by
    rw [c.pn] at hp
    cases List.mem_singleton.mp hp
    exact c.fpn b hb e.symm⟩
theorem GP (T : Turn Y.prog Y.w Y.K tg J fp it tn) {h5 : Heap} (t : tn i h5) (I : Inv Y ([(D, o)] ++ U2 fp h5) σ H s) : CIn Y tn fp D σ i H o s:=
  have p:=I.pin (D, o) (List.mem_append_right _ (.head _))
  have q : ∀ b ∈ fp, ∀ o', h5.get? b = some o' -> s.heap.get? b = some o' /\ H b = none:=λb hb o' e=>have z:=I.pin (b, o') (List.mem_append_right _ (.tail _ (Jc hb e))); ⟨z.1, z.2.1⟩
  ⟨I.pins_of (pins':=[]) λ_ h=>Kr h, T.keep _ _ _ t λb hb o' e=>(q b hb o' e).1, λb hb=>(T.obj _ _ t b hb).elim λo' e=>(q b hb o' e.1).2, p.1, p.2.1⟩
theorem NA (T : Turn Y.prog Y.w Y.K tg J fp it tn) (a : CAt Y fp D) {its : List Value} {k : Nat} {v : Value} {E : Value -> Shared -> Prop} (c : CIn Y tn fp D σ i H (lob its k) s) (hz : its.length <= sizeLine)
    (hQ : ∀ k' s', CIn Y tn fp D σ i H (lob (its ++ [v]) k') s' -> Kn s') : wpAny (model Y.prog Y.w) Y.A (call (.builtin "list.append") [.ref D, v]) (λ_ s=>Kn s) E s:=by
  refine call_meets F.slot_list_append ⟨_, c.l, rfl⟩ F.entry_list_append (F.args_list_append_2 _ _) (PySem.list_append D (List.toArray its) k v hz) ⟨c.l, ?_⟩
  have q : ∃ k', PySem.IsL (s.heap.update D (Obj.mapSeq (·.push v))) D ((List.toArray its).push v) k':=⟨_, PySem.IsL.update c.l (·.push v)⟩
  rw [List.push_toArray] at q
  obtain ⟨k', q⟩:=q
  exact hQ k' _ ⟨c.I.turned (t':=s.toks) (h':=s.heap.update D (Obj.mapSeq (·.push v))) (it:=D) (λb o hb' e=>(Heap.get?_update_other s.heap _ (Ne.symm hb')).trans e) c.n a.ne (.inr a.sz) a.cl (λp hp=>by rw [a.pn] at hp; exact Kr hp),
    T.keep _ _ _ c.t λb hb o e=>(Heap.get?_update_other s.heap _ (Ne.symm (a.fpn b hb))).trans e, c.f, q, c.n⟩
theorem Eg {acc : Value} {pins : List (Addr × Obj)} {N : List V -> Hp -> Prop} {ys : List V} {x : V} {u : Value} (hg : PG Y tg g) (ht : PTs Y ifs tt) (he : PE Y elt te) (hG : Vx n g) (h0 : ∀ (j : Nat) v, σ[j]? = some (some v) -> n <= j)
    (I : Inv Y pins σ H s) (r : X7 x u) (st : g x σ H λσ4 H4=>tt σ4 H4 λc H5=>if c = true then te σ4 H5 λv H6=>N (ys ++ [v]) H6 else N ys H5)
    (hF : ∀ H7 s7, Inv Y pins σ H7 s7 -> N ys H7 -> Kn s7) (hT : ∀ H8 s8 y v, Inv Y pins σ H8 s8 -> X7 y v -> N (ys ++ [y]) H8 -> wpAny (model Y.prog Y.w) Y.A (call (.builtin "list.append") [acc, v]) (λ_ s=>Kn s) Y.xe s8) :
    LW (model Y.prog Y.w) Y.A elt tg ifs acc Y.env Y.xe Kn u s:=by
  refine thn (hg _ s _ H x u _ I r (hG _ _ _ _ st)) λ_ s6 r9=>?_
  obtain ⟨σ6, H6, I6, q6, l6, k6⟩:=r9
  have wk : ∀ (j : Nat) v, σ[j]? = some (some v) -> σ6[j]? = some (some v):=λj v e=>(k6 j (h0 j v e)).trans e
  refine thn (ht _ s6 σ6 H6 _ I6 q6) λc s7 r9=>?_
  obtain ⟨H7, I7, q7⟩:=r9
  cases c with
  | false=>exact hF _ _ (I7.weak l6.symm wk) q7
  | true=>exact thn (he _ s7 σ6 H7 _ I7 q7) λv8 s8 r9=>by obtain ⟨y8, H8, I8, r8, n8⟩:=r9; exact hT _ _ _ _ (I8.weak l6.symm wk) r8 n8
theorem VR {scope : Scope} {pos : Pos} {Q : V -> Hp -> Prop} {R : Result -> Shared -> Prop} (hE : (notedBy (model Y.prog Y.w) Y.A Y.env λe s'=>R (.error e) s') = Y.xe)
    (T : Turn Y.prog Y.w Y.K tg J fp it tn) (hG : Vx n g) (hg : PG Y tg g) (ht : PTs Y ifs tt) (he : PE Y elt te) (a : CAt Y fp D) (h0 : ∀ (j : Nat) v, σ[j]? = some (some v) -> n <= j)
    {W : Nat -> Nat -> List V -> Hp -> Prop} (turn : B6 g tt te σ Q J W)
    (hEnd : ∀ ys its k H3 s4, Inv Y [(D, lob its k)] σ H3 s4 -> X5 ys its -> ys.length <= sizeLine -> Q (.ref D) (upd H3 D (.lst ys)) -> R (.ok .next) s4) {m0 : Nat} (hi : CI Y tn fp D σ W m0 s) :
    codeAny (model Y.prog Y.w) Y.A (.compLoop (.ListComp elt [⟨tg, iter, ifs, 0⟩] scope pos) 0 (.ref it) (.ref D) Y.env) R s:=by
  refine Ks (CI Y tn fp D σ W) hE (λm s3 c=>?_) m0 hi
  cases c with
  | mk i H3 ys its k c rv w3=>
  have I3 : Inv Y [(D, lob its k)] σ H3 s3:=c.I.pins_of λp hp=>List.mem_singleton.mp hp ▸ ⟨c.l, c.n, a.ne, a.fs, λ_ z=>by cases z⟩
  have t:=turn i m ys H3 w3
  refine t.2.elim (λq=>?_) λq=>?_
  . exact thn (T.done Y rfl rfl rfl a.calm i _ s3 _ H3 Y.xe I3 (a.pins c.f) c.t q.1) λr s4 h=>.inl ⟨h.1, hEnd ys its k H3 s4 h.2 rv t.1 (q.2 D c.n)⟩
  . refine q.2.elim λNN h => ?_
    refine thn (T.item Y rfl rfl rfl a.calm i _ s3 _ H3 Y.xe I3 (a.pins c.f) c.t q.1) λr s4 h4=>.inr (h4.elim λu h4=>⟨u, h4.1, thn h4.2 λ_ s5 h5=>h5.elim λx h5=>h5.elim λH5 h5=>?_⟩)
    exact Eg hg ht he hG h0 (h5.1.pinned (a.pins h5.2.2.2.2) (T.obj _ _ h5.2.2.2.1)) h5.2.1 (h.2 x H5 h5.2.2.1)
      (λH7 s7 I7 q7=>(h.1 _ _ q7).elim λm' z=>⟨m', z.1, .mk (i + 1) H7 ys its k (GP T h5.2.2.2.1 I7) rv z.2⟩)
      λH8 s8 y v I8 r8 q8=>(h.1 _ _ q8).elim λm' z=>NA T a (GP T h5.2.2.2.1 I8) (rv.length ▸ t.1) λk' s' c'=>⟨m', z.1, .mk (i + 1) H8 (ys ++ [y]) (its ++ [v]) k' c' (rv.append (.cons r8 .nil)) z.2⟩
end
section
variable {X : Cx} {elt tg iter : Expr} {ifs : List Expr} {scope sc : Scope} {pos : Pos} {n : Nat} {tns : List Str} {caps : List (Nat × Str)} {wi : TI} {g : TG} {tt : TT} {te : TE}
structure CompEnd (X : Cx) (pins : List (Addr × Obj)) (σ : St) (H3 : Hp) (D C : Addr) (ys : List V) (s' : Shared) : Prop where
  inv : Inv X pins σ (upd H3 D (.lst ys)) s'
  fresh : H3 D = none
  fp : Gk X pins (upd H3 D (.lst ys)) C
  ns : ∃ m, s'.heap.Ns C m
theorem G2 {pins : List (Addr × Obj)} {σ σ' : St} {H H3 : Hp} {s s4 : Shared} {D C : Addr} {fp : List Addr} {its : List Value} {k : Nat} {ys : List V} {Y : Cx} (I : Inv X pins σ H s) (hf : ∀ b ∈ fp, Gk X pins H b) (hD : s.heap.objs.size <= D) (hDlt : D < C)
    (I4 : Inv Y [(D, lob its k)] σ' H3 s4) (hos : s4.os = s.os) (u : Un (frs X.stack) fp H H3 s.heap s4.heap) (hok : HOk X.prog X.w H3 s4.heap) (hC : Y.env.locals = C) (rv : X5 ys its) (hz : ys.length <= sizeLine) : CompEnd X pins σ H3 D C ys s4:=by
  subst hC
  have p:=I4.pin (D, lob its k) (List.mem_append_right _ (.head _))
  have hDn : H3 D = none:=p.2.1
  have up : ∀ {b : Addr} {o : HO}, H3 b = some o -> upd H3 D (.lst ys) b = some o:=λe=>(XI (XL e hDn)).trans e
  refine ⟨I.call' (ch:=fp) hos ⟨u.keep, u.slot, λb o e nn hx=>(XI (Nat.ne_of_lt (Nat.lt_of_lt_of_le (Heap.lt_size e) hD))).trans (u.free b o e nn hx), u.there, λb xs e=>up (u.tups b xs e), λb o xs e=>up (u.frzs b o xs e), λb ps e=>(u.tbls b ps e).elim λmore z=>⟨more, up z⟩⟩ (λa o e=>?_) I4.bare λb hb=>have z:=hf b hb; ⟨z.2.2.2.1, z.2.1, z.2.2.2.2.1, z.2.2.2.2.2⟩, hDn, I.fpOk (Nat.le_trans hD (Nat.le_of_lt hDlt)) ((XI (Nat.ne_of_gt hDlt)).trans I4.free), I4.loc.elim λm z=>⟨m, z.1⟩⟩
  by_cases ha : a = D
  . subst ha
    rw [Yp] at e; cases e
    exact ⟨hz, its, k, rv, p.1⟩
  . rw [XI ha] at e
    exact (hok a o e).stay (λb u _ q=>q) (λb q=>up q) λb xs q=>up q
def NE (X : Cx) (elt tg iter : Expr) (ifs : List Expr) (scope : Scope) (pos : Pos) (it : Value) (cl : List (Str × Addr)) (RR : Value -> Addr -> Result -> Shared -> Prop) (E : Value -> Shared -> Prop) (s : Shared) : Prop:=
  wpAny (model X.prog X.w) X.A (newList []) (λacc s₃=>wpAny (model X.prog X.w) X.A (newFunctionEnv scope X.env.globals cl [] X.env.qual none .none (some X.env)) (λcenv s₄=>
      codeAny (model X.prog X.w) X.A (.compStart (.ListComp elt [⟨tg, iter, ifs, 0⟩] scope pos) 0 it acc { cenv with scope:=relabel scope X.env }) (RR acc cenv.locals) s₄) E s₃) E s
theorem Vc {σ : St} {i : Nat} {v : V} (e : (YI n caps σ)[i]? = some (some v)) : n <= i /\ ∃ p, caps[i - n]? = some p /\ σ[p.1]? = some (some v):=by
  unfold YI at e
  by_cases h : i < n
  . rw [List.getElem?_append_left (by simpa using h), List.getElem?_replicate, if_pos h] at e
    cases e
  . have hi := Nat.le_of_not_lt h
    rw [List.getElem?_append_right (by simpa using hi), List.length_replicate, List.getElem?_map] at e
    refine ⟨hi, ?_⟩
    cases hcp : caps[i - n]? with
    | none=>rw [hcp] at e; cases e
    | some p=>
      rw [hcp] at e
      exact ⟨p, rfl, Option.join_eq_some_iff.mp (Option.some.inj e)⟩
structure COk (X : Cx) (scope : Scope) (caps : List (Nat × Str)) : Prop where
  kind : scope.kind = .function
  cell : ∀ y ∈ scope.names, y.2 ≠ NameKind.cell
  loc : ∀ y ∈ scope.names, y.2 = .local -> scope.names.lookup y.1 = some .local
  free : ∀ y ∈ scope.names, y.2 = .free -> X.env.scope.names.lookup y.1 = some .cell
  caps : ∀ p ∈ caps, (X.N[p.1]? = some p.2 /\ X.env.scope.names.lookup p.2 = some .cell) /\ scope.names.lookup p.2 = some .free
theorem COk.of {N0 : List Str} (hsc : X.env.scope = sc) (hN0 : X.N = N0) (ok : U8 sc scope N0 tns caps = true) : COk X scope caps:=by
  subst hsc
  subst hN0
  unfold U8 at ok
  simp only [Bool.and_eq_true, List.all_eq_true, beq_iff_eq, Bool.or_eq_true, Bool.not_eq_true', beq_eq_false_iff_ne] at ok
  exact ⟨ok.1.1.1.1, ok.1.1.1.2, λy hy e=>(ok.1.1.2 y hy).resolve_left (absurd e), λy hy e=>(ok.1.2 y hy).resolve_left (absurd e), ok.2⟩
section
variable {pins : List (Addr × Obj)} {σ : St} {H : Hp} {s : Shared} {fp : List Addr} {cl : List (Str × Addr)} {C : Addr} {E : Value -> Shared -> Prop} {N : List Str} {h₁ : Heap}
theorem Hg (ok : COk X scope caps) (I : Inv X pins σ H s) (hf : ∀ b ∈ fp, Gk X pins H b) (hlt : ∀ b ∈ fp, b < s.heap.objs.size)
    (hsub : ∀ x c, cl.lookup x = some c -> X.env.cells.lookup x = some c) (hall : ∀ x, (x, NameKind.free) ∈ scope.names -> ∃ c, cl.lookup x = some c) (hC : s.heap.objs.size < C) : (X.comp N scope cl C s H fp E).Ok:=
  ⟨I.ok.mod, ok.kind, I.ok.glob, I.ok.blt, Nat.le_of_lt hC, λx y c h1 h2=>I.ok.inj x y c (hsub x c h1) (hsub y c h2), λx hx=>hall x (hx.elim (λz=>QL ok.cell z (.inl rfl)) λz=>QL ok.cell z (.inr rfl)), (λx c hx=>by cases hx), I.ok.hd, I.ok.frames, .inl rfl,
    λb hb=>⟨Nat.ne_of_lt (Nat.lt_trans (hlt b hb) hC), λx c e=>(hf b hb).2.2.2.2.1 x c (hsub x c e)⟩, I.bs, Nat.le_trans I.ok.bsz I.sz, λb o e hb=>(hf b hb).2.2.2.1.elim (I.ok.noex b o e) λz=>absurd (Nat.lt_of_lt_of_le (Heap.lt_size e) (Nat.le_trans I.ok.bsz z)) (Nat.lt_irrefl _),
    λb hb hz=>(List.mem_cons.mp (I.stkSub b hz)).elim (hf b hb).2.1 (hf b hb).2.2.1, I.stack, I.stkFree⟩
theorem Em (okc : COk X scope caps) (hn : tns.length = n) (ok : (X.comp (tns ++ caps.map (·.2)) scope cl C s H fp E).Ok) (I : Inv X pins σ H s)
    (hsub : ∀ x c, cl.lookup x = some c -> X.env.cells.lookup x = some c) (hall : ∀ x, (x, NameKind.free) ∈ scope.names -> ∃ c, cl.lookup x = some c) (hC : s.heap.objs.size < C) (hns : h₁.Ns C λ_=>none) (old : ∀ b o, s.heap.get? b = some o -> h₁.get? b = some o) {tk : Nat} :
    Inv (X.comp (tns ++ caps.map (·.2)) scope cl C s H fp E) [] (YI n caps σ) H { s with heap:=h₁, toks:=tk }:=by
  refine ⟨ok, rfl, I.bare, Un.kept old, ⟨_, hns, λi x v e1 e2 _=>?_⟩, λx c e=>(I.cell x c (hsub x c e)).elim λv z=>z.elim λo z=>⟨v, o, old _ _ z.1, z.2⟩, I.hok.fresh (Nat.le_of_lt hC), λx c e=>I.freeC x c (hsub x c e), λp hp=>Kr (α:=Addr × Obj) hp, I.hok.kept old, by simp [YI, hn]⟩
  obtain ⟨hi, p, hp, hσ⟩:=Vc e2
  have e1' : (tns ++ caps.map (·.2))[i]? = some x:=e1
  rw [List.getElem?_append_right (hn ▸ hi), hn, List.getElem?_map, hp] at e1'
  cases Option.some.inj e1'
  have p5:=okc.caps p (List.mem_of_getElem? hp)
  obtain ⟨m, hm, hl⟩:=I.loc
  obtain ⟨u, r, l⟩:=hl p.1 p.2 v p5.1.1 hσ (.inr (.inl p5.1.2))
  refine ⟨u, r, .inr ?_⟩
  rcases l with ⟨k, _⟩ | ⟨k, c, e, z⟩
  . cases p5.1.2.symm.trans k
  . obtain ⟨c', e'⟩ := hall p.2 (PySem.mem_of_lookup p5.2)
    cases e.symm.trans (hsub _ _ e')
    exact ⟨Qm (env:=X.env) p5.2, c, e', z.elim λo z=>⟨o, old _ _ z.1, z.2⟩⟩
variable {J : It} {it : Addr} {tn : Nat -> Heap -> Prop} {Q : V -> Hp -> Prop} {RR : Value -> Addr -> Result -> Shared -> Prop} {W : Nat -> Nat -> List V -> Hp -> Prop} {m0 : Nat}
theorem Ic (ok : COk X scope caps) (hc : X.calm = true) (hn : tns.length = n) (hG : Vx n g)
    (hb : ∀ cl C s H ex E, PG (X.comp (tns ++ caps.map (·.2)) scope cl C s H ex E) tg g /\ PTs (X.comp (tns ++ caps.map (·.2)) scope cl C s H ex E) ifs tt /\ PE (X.comp (tns ++ caps.map (·.2)) scope cl C s H ex E) elt te)
    (I : Inv X pins σ H s) (T : Turn X.prog X.w X.K tg J fp it tn) (t0 : tn 0 s.heap) (hf : ∀ b ∈ fp, Gk X pins H b)
    (hsub : ∀ x c, cl.lookup x = some c -> X.env.cells.lookup x = some c) (hall : ∀ x, (x, NameKind.free) ∈ scope.names -> ∃ c, cl.lookup x = some c)
    (w0 : W 0 m0 [] H) (turn : B6 g tt te (YI n caps σ) Q J W)
    (hRR : ∀ D C ys H3 s', CompEnd X pins σ H3 D C ys s' -> Q (.ref D) (upd H3 D (.lst ys)) -> RR (.ref D) C (.ok .next) s')
    (hC : s.heap.objs.size < C) (hns : h₁.Ns C λ_=>none) (old : ∀ b o, s.heap.get? b = some o -> h₁.get? b = some o) (hacc : h₁.get? s.heap.objs.size = some (lob [] 0)) {tk : Nat} :
    codeAny (model X.prog X.w) X.A (.compStart (.ListComp elt [⟨tg, iter, ifs, 0⟩] scope pos) 0 (.ref it) (.ref s.heap.objs.size) (compEnvC scope cl C X.env)) (RR (.ref s.heap.objs.size) C) { s with heap:=h₁, toks:=tk }:=by
  have hlt : ∀ b ∈ fp, b < s.heap.objs.size:=λb hb=>(T.obj _ _ t0 b hb).elim λo e=>Heap.lt_size e.1
  have okY : ∀ E, (X.comp (tns ++ caps.map (·.2)) scope cl C s H fp E).Ok:=λE=>Hg ok I hf hlt hsub hall hC
  have t1 : tn 0 h₁:=T.keep _ _ _ t0 λb _ o e=>old b o e
  have loop : ∀ tk, codeAny (model X.prog X.w) X.A (.compLoop (.ListComp elt [⟨tg, iter, ifs, 0⟩] scope pos) 0 (.ref it) (.ref s.heap.objs.size) (compEnvC scope cl C X.env)) (RR (.ref s.heap.objs.size) C) { s with heap:=h₁, toks:=tk }:=λtk=>
    have z:=hb cl C s H fp (notedBy (model X.prog X.w) X.A (compEnvC scope cl C X.env) λe s'=>RR (.ref s.heap.objs.size) C (.error e) s')
    VR (Y:=X.comp (tns ++ caps.map (·.2)) scope cl C s H fp _) rfl T hG z.1 z.2.1 z.2.2
      ⟨hc, rfl, Nat.ne_of_lt hC, λhz=>(I.stack.mem hz).2.elim λo ho=>absurd (Heap.lt_size ho.1) (Nat.lt_irrefl _), Nat.le_refl _, λx c e=>(I.cell x c (hsub x c e)).elim λv z=>Nat.ne_of_lt z.lt, λb hb=>Nat.ne_of_lt (hlt b hb),
        λb hb H' h'=>⟨h', Nat.ne_of_lt (Nat.lt_trans (hlt b hb) hC), (okY λ_ _=>True).exfs b hb, .inl hb, λx c e=>(hf b hb).2.2.2.2.1 x c (hsub x c e), λp hp=>Kr (α:=Addr × Obj) hp⟩⟩
      (λj v e=>(Vc e).1) turn (λys its k H3 s4 I4 rv hz q=>hRR _ C ys H3 s4 (G2 I hf (Nat.le_refl _) hC I4 I4.os I4.base I4.hok rfl rv hz) q)
      (.mk 0 H [] [] 0 ⟨Em ok hn (okY _) I hsub hall hC hns old, t1, λb hb=>(hf b hb).1, hacc, I.hok.fresh (Nat.le_refl _)⟩ .nil w0)
  exact codeAny_compStart_list (loop _) (T.self _ 0 _ _ _ t1 (loop _))
theorem V3 (ok : COk X scope caps) (hc : X.calm = true) (hn : tns.length = n) (hG : Vx n g)
    (hb : ∀ cl C s H ex E, PG (X.comp (tns ++ caps.map (·.2)) scope cl C s H ex E) tg g /\ PTs (X.comp (tns ++ caps.map (·.2)) scope cl C s H ex E) ifs tt /\ PE (X.comp (tns ++ caps.map (·.2)) scope cl C s H ex E) elt te)
    {itv : Value} (h : PIE X pins σ tg (λJ H1=>DW n caps g tt te σ Q J H1) itv s)
    (hsub : ∀ x c, cl.lookup x = some c -> X.env.cells.lookup x = some c) (hall : ∀ x, (x, NameKind.free) ∈ scope.names -> ∃ c, cl.lookup x = some c)
    (hRR : ∀ D C ys H3 s', CompEnd X pins σ H3 D C ys s' -> Q (.ref D) (upd H3 D (.lst ys)) -> RR (.ref D) C (.ok .next) s') :
    NE X elt tg iter ifs scope pos itv cl RR E s:=by
  obtain ⟨it, fp, tn, J, H', rfl, I, T, t0, hf, W, ⟨m0, w0⟩, turn⟩:=h
  refine wpAny_newObj_type (wpAny_newFunctionEnv ok.cell (by intro y hy; simp at hy) (λh₁ hns₁ hsb₁=>?_) ok.kind)
  have hs : ∀ o, (s.heap.push o).objs.size = s.heap.objs.size + 1:=λo=>Heap.size_push ..
  exact Ic ok hc hn hG hb I T t0 hf hsub hall w0 turn hRR (Nat.lt_of_lt_of_eq (Nat.lt_succ_self _) (hs _).symm) hns₁
    (λb o e=>hsb₁.extBut b o (Nat.ne_of_lt (Nat.lt_trans (Heap.lt_size e) (Nat.lt_of_lt_of_eq (Nat.lt_succ_self _) (hs _).symm))) (Qp _ (Qp _ e)))
    (hsb₁.extBut _ _ (Nat.ne_of_lt (Nat.lt_of_lt_of_eq (Nat.lt_succ_self _) (hs _).symm)) (Qp _ (Heap.get?_push_size _ rfl)))
end
theorem Hi (sc : Scope) (N0 : List Str) (tns : List Str) (caps : List (Nat × Str)) (hc : X.calm = true) (hi : PI X tg iter wi) (hG : Vx tns.length g)
    (hb : ∀ cl C s H ex E, PG (X.comp (tns ++ caps.map (·.2)) scope cl C s H ex E) tg g /\ PTs (X.comp (tns ++ caps.map (·.2)) scope cl C s H ex E) ifs tt /\ PE (X.comp (tns ++ caps.map (·.2)) scope cl C s H ex E) elt te)
    (hsc : X.env.scope = sc:=by rfl) (hN0 : X.N = N0:=by rfl) (ok : U8 sc scope N0 tns caps = true:=by decide +kernel)
    (hs : ∀ x, foldedSetIterable iter X.env x = pure x:=by intro _; rfl) :
    PE X (.ListComp elt [⟨tg, iter, ifs, 0⟩] scope pos) (KC tns.length caps wi g tt te):=by
  intro pins s σ H Q I h
  have okc:=COk.of hsc hN0 ok
  obtain ⟨cl, ecl, hsub, hall⟩:=GA (scope:=scope) (env:=X.env) λx hx hfr=>I.ok.has x.1 (.inl (okc.free x hx hfr))
  rw [eval_ListComp]
  exact wpAny_comprehension_free (use:=none) rfl hs ecl okc.kind okc.loc (thn (hi pins s σ H _ I h) λxv s₁ h₁=>thn h₁ λitv s₂ h₂=>
    V3 (RR:=λacc C=>compPost (model X.prog X.w) X.A X.xe none (EP X pins σ Q) acc C) okc hc rfl hG hb h₂ hsub hall λD C ys H3 s' ce q=>ce.ns.elim λmm hns=>
      ⟨mm, hns, λh' hs'=>⟨.ref D, _, ce.inv.turned (t':=s'.toks) (λb o hb' e=>(hs'.extBut b o hb' e)) ce.fp.1 ce.fp.2.1 ce.fp.2.2.2.1 ce.fp.2.2.2.2.1 ce.fp.2.2.2.2.2, rfl, q⟩⟩)
theorem CU {x : Str} {px spos : Pos} (j : Nat) (sc : Scope) (N0 : List Str) (tns : List Str) (caps : List (Nat × Str)) (hc : X.calm = true) (hN : X.N.Nodup) (hj : X.N[j]? = some x) (hx : X.env.scope.names.lookup x = some .local) (hi : PI X tg iter wi) (hG : Vx tns.length g)
    (hb : ∀ cl C s H ex E, PG (X.comp (tns ++ caps.map (·.2)) scope cl C s H ex E) tg g /\ PTs (X.comp (tns ++ caps.map (·.2)) scope cl C s H ex E) ifs tt /\ PE (X.comp (tns ++ caps.map (·.2)) scope cl C s H ex E) elt te)
    (hsc : X.env.scope = sc:=by rfl) (hN0 : X.N = N0:=by rfl) (ok : U8 sc scope N0 tns caps = true:=by decide +kernel)
    (hsw : swapsWith (.ListComp elt [⟨tg, iter, ifs, 0⟩] scope pos) (some (.Name x px)) spos.line X.env = pure true:=by rfl)
    (hs : ∀ x, foldedSetIterable iter X.env x = pure x:=by intro _; rfl) :
    PS X (.Assign [.Name x px] (.ListComp elt [⟨tg, iter, ifs, 0⟩] scope pos) spos) (EL (KC tns.length caps wi g tt te) (QP j)):=by
  intro pins s σ H D I h
  have okc:=COk.of hsc hN0 ok
  obtain ⟨cl, ecl, hsub, hall⟩:=GA (scope:=scope) (env:=X.env) λx hx hfr=>I.ok.has x.1 (.inl (okc.free x hx hfr))
  rw [exec_Assign_Name_used _ _ _ _ hsw]
  refine wpAny_bind (wpAny_standAt (wpAny_bind ?_))
  show wpAny _ _ (do let _ ← comprehension (.ListComp elt [⟨tg, iter, ifs, 0⟩] scope pos) scope X.env _ (newList []) false (eval iter X.env) (some (assign (.Name x px) X.env))) _ _ s
  refine wpAny_bind (thn (wpAny_comprehension_free (use:=some (assign (.Name x px) X.env)) (Q:=λ_ s'=>SP X pins D .next s') rfl hs ecl okc.kind okc.loc
    (thn (hi pins s σ H _ I h) λxv s₁ h₁=>thn h₁ λitv s₂ h₂=>?_)) λ_ s' hq=>wpAny_pure (wpAny_pure hq))
  refine V3 (Q:=λv H1=>QP j v σ H1 D.nx) (RR:=λacc C=>compPost (model X.prog X.w) X.A X.xe (some (assign (.Name x px) X.env)) (λ_ s'=>SP X pins D .next s') acc C) okc hc rfl hG hb h₂ hsub hall ?_
  intro DD C ys H3 s' ce q
  obtain ⟨mm, hns⟩:=ce.ns
  obtain ⟨c0, c1, c2, c3, c4, c5⟩:=ce.fp
  show wpAny _ _ (assign (.Name x px) X.env (.ref DD)) _ _ _
  refine wpAny_assign_Name (UY ce.inv hN hj (.inl hx) (v:=.ref DD) rfl (λs2 I2 chg=>?_) (.inr hx))
  obtain ⟨c, hsb, hcc⟩:=chg
  have hCc : C ≠ c:=by
    rcases hcc with z | z
    . rw [z]; exact c1
    . exact λe=>c4 x c z e.symm
  refine ⟨mm, ?_, λh' hs'=>?_⟩
  . obtain ⟨o, es, ep, ho, r⟩ := hns
    exact ⟨o, es, ep, (hsb.2 C hCc).trans ho, r⟩
  . exact ⟨_, _, I2.turned (t':=s2.toks) (λb o hb' e=>(hs'.extBut b o hb' e)) c0 c1 c3 c4 c5, q⟩
end
section
variable {K : Fgg} {a : Addr} {xs : List V} {n : Nat} {caps : List (Nat × Str)} {g : TG} {tt : TT} {te : TE} {σ : St} {H : Hp} {Q : V -> Hp -> Prop}
theorem Bd (Pv : Nat -> List V -> Hp -> Prop) (h0 : Pv 0 [] H) (hl : ∀ i ys H, i <= xs.length -> Pv i ys H -> SqL K H a xs /\ ys.length <= sizeLine)
    (hs : ∀ i x ys H, xs[i]? = some x -> Pv i ys H -> g x (YI n caps σ) H λσ4 H4=>tt σ4 H4 λc H5=>if c = true then te σ4 H5 λv H6=>Pv (i + 1) (ys ++ [v]) H6 else Pv (i + 1) ys H5)
    (hd : ∀ ys H p, Pv xs.length ys H -> H p = none -> Q (.ref p) (upd H p (.lst ys))) :
    DW n caps g tt te σ Q (Itl K a) H:=by
  refine ⟨λi m ys H=>m = xs.length - i /\ i <= xs.length /\ Pv i ys H, ⟨xs.length, by simp, Nat.zero_le _, h0⟩, ?_⟩
  rintro i m ys H2 ⟨rfl, hi, p⟩
  obtain ⟨q, hz⟩:=hl i ys H2 hi p
  refine ⟨hz, ?_⟩
  by_cases hlt : i < xs.length
  . refine .inr ⟨⟨xs, xs[i], q, by simp [hlt]⟩, Pv (i + 1), λys' H' p' => ⟨xs.length - (i + 1), by (clear p' hz q p hi hd hs hl h0; lia), rfl, hlt, p'⟩, λx H' y => ?_⟩
    obtain ⟨e, y⟩:=y
    subst e
    exact hs i x ys _ (y xs q) p
  . have e : i = xs.length := by lia
    subst e
    exact .inl ⟨⟨xs, q, Nat.le_refl _⟩, λp' hp'=>hd ys H2 p' p hp'⟩
end
section
variable {X : Cx} {pos : Pos}
def Ga (K : Fgg) : List V -> Hp -> VK -> Prop:=λxs H Q=>∃ p ys, xs = [.ref p] /\ (SqL K H p ys ∨ SqT K H p ys) /\ ∀ l, H l = none -> Q (.ref l) (upd H l (.lst ys))
def G0 (K : Fgg) : List V -> Hp -> VK -> Prop:=λxs H Q=>∃ p ys, xs = [.ref p] /\ (SqL K H p ys ∨ SqT K H p ys) /\ Q (.int ys.length) H
theorem Yy (K : Fgg) (h : X.K = K) : Qf X (.type "list") (Ga K):=by subst h; exact Kb
theorem Xk (K : Fgg) (h : X.K = K) : Qf X (.builtin "len") (G0 K):=by subst h; exact Kh
theorem Xm (K : Fgg) (h : X.K = K) : IxR X (IP K):=by subst h; exact Ij
theorem YT (K : Fgg) (h : X.K = K) : IxR X (Bn K):=by subst h; exact LQ
theorem JD (K : Fgg) (h : X.K = K) : SlR X (MD K):=by subst h; exact Ho
end
structure Fn (P : Program) (w : World) (K : Fgg) (mg : Str -> Option Value) (base : Heap) (k : Nat) (x : Str) (ps : List Str) (sp : Sp) : Prop where
  ex : ∃ f fd, FnOk P w K mg base CX0 k f fd ps sp /\ Kf K fd ps [] /\ PySem.W.keepIn K (.ref f) = true /\ mg x = some (.ref f)
section
variable {X : Cx} {k j : Nat} {x : Str} {ps : List Str} {sp : Sp} {e : Expr} {es : List Expr} {t : TA} {p pos : Pos}
theorem Yq (G : Fn X.prog X.w X.K X.mg X.base k x ps sp) (hr : Room j X.A) (hj : k <= j) (ha : PA X (e :: es) t) (hg : Gl X x:=by rfl) (hdb : (x == ("__debug__" : Str)) = false:=by decide)
    (he : starEach (e :: es) X.env = (false, eval e X.env) :: starEach es X.env:=by rfl) (hpl : (backTo pos (starEach es X.env)).any (·.1) = false:=by rfl) :
    PE X (.Call (.Name x p) (e :: es) [] pos) (QM sp [] E0 t):=by
  obtain ⟨f, fd, F, b, kp, m⟩:=G.ex
  exact Co F (hr.mono hj) hg m kp b .nil MU ha hdb he hpl
end
def Def (K : Fgg) (mg : Str -> Option Value) (x : Str) (st : Stmt) (ps : List Str) : Prop:=∃ f fd, Fun K x x st f fd /\ Kf K fd ps [] /\ mg x = some (.ref f)
theorem Y0 {P : Program} {w : World} {K : Fgg} {mg : Str -> Option Value} {base : Heap} {x : Str} {st : Stmt} {N ps : List Str} {k : Nat} {sp : Sp} (D : Def K mg x st ps) (S : FnScope N ps (Xi st)) (len : ∀ vs H Q E, sp vs H Q E -> vs.length = ps.length)
    (hbody : ∀ (f : Addr) (cdv : Value) (A : Around) (outer : List Env) (s : Shared) (H : Hp) (vs : List V) (Q : VK) (E : XK), Room k (A.deeper (envOfC x (Xi st) s.heap.objs.size f cdv)) -> sp vs H Q E ->
      ∃ t, PSs (Fs CX0 P w K mg base N x (Xi st) f cdv A outer s H E).nox (Yr st) t /\ t { nx:=λ_ H'=>Q .non H', rt:=Q } (VM N vs) H) : Fn P w K mg base (k + 1) x ps sp:=by
  obtain ⟨f, fd, F, b, m⟩:=D
  exact ⟨f, fd, F.ok S len (hbody f), b, F.kp, m⟩
theorem BH {a d c : Nat} (h : d <= 8) (hu : a + 8 < c) : a + d < c:=by lia
theorem XE {H : Hp} {p : Addr} (h : H p = none) (o : HO) : Xp H (upd H p o):=λb u q=>by rw [XI (XL q h)]; exact q
theorem Xp.own {H H2 : Hp} {p : Addr} (s : Xp H H2) (h : H p = none) (o : HO) : Xp H (upd H2 p o):=λb u q=>by rw [XI (XL q h)]; exact s b u q
theorem Xp.new {H H2 : Hp} {p : Addr} (s : Xp H H2) (h : H2 p = none) (o : HO) : Xp H (upd H2 p o):=s.trans (XE h o)
theorem Xp.seqT {K : Fgg} {H H' : Hp} {a : Addr} {xs : List V} (e : Xp H H') (h : SqT K H a xs) : SqT K H' a xs:=by
  rcases h with (h | ⟨o, h⟩) | h
  . exact .inl (.inl (e _ _ h))
  . exact .inl (.inr ⟨o, e _ _ h⟩)
  . exact .inr h
theorem hu8 {A : Around} {k : Nat} (hr : Room k A) : A.units + 8 < cLine:=Nat.lt_of_le_of_lt (Nat.add_le_add_left (by decide : 8 <= 64) _) hr.units
abbrev Enc (α : Type):=Fgg -> Hp -> V -> α -> Prop
def Xa : Enc Int:=λ_ _ v i=>v = .int i
def rL {α : Type} (r : Enc α) : Enc (List α):=λK H v as=>∃ a xs, v = .ref a /\ SqL K H a xs /\ Paired (r K H) xs as
theorem Paired.getL {α β : Type} {F : α -> β -> Prop} : ∀ {l : List α} {m : List β} {i : Nat} {a : α}, Paired F l m -> l[i]? = some a -> ∃ b, m[i]? = some b /\ F a b
  | _, _, _, _, .nil, e=>by simp at e
  | _, _, 0, _, .cons r _, e=>by simp at e; subst e; exact ⟨_, rfl, r⟩
  | _, _, i + 1, a, .cons _ t, e=>by
    obtain ⟨b, h1, h2⟩:=Paired.getL (i:=i) (a:=a) t (by simpa using e)
    exact ⟨b, by simpa using h1, h2⟩
theorem Paired.getR {α β : Type} {F : α -> β -> Prop} : ∀ {l : List α} {m : List β} {i : Nat} {b : β}, Paired F l m -> m[i]? = some b -> ∃ a, l[i]? = some a /\ F a b
  | _, _, _, _, .nil, e=>by simp at e
  | _, _, 0, _, .cons r _, e=>by simp at e; subst e; exact ⟨_, rfl, r⟩
  | _, _, i + 1, b, .cons _ t, e=>by
    obtain ⟨a, h1, h2⟩:=Paired.getR (i:=i) (b:=b) t (by simpa using e)
    exact ⟨a, by simpa using h1, h2⟩
theorem Paired.len {α β : Type} {F : α -> β -> Prop} {l : List α} {m : List β} (h : Paired F l m) : l.length = m.length:=Paired.length h
theorem Paired.app {α β : Type} {F : α -> β -> Prop} : ∀ {l l' : List α} {m m' : List β}, Paired F l m -> Paired F l' m' -> Paired F (l ++ l') (m ++ m'):=λp h=>by
  induction p with
  | nil=>exact h
  | cons r _ ih=>exact .cons r ih
theorem K3 (ns : List Int) : ∀ {K : Fgg} {H : Hp}, Paired (Xa K H) (ns.map V.int) ns:=by
  intro K H
  induction ns with
  | nil=>exact .nil
  | cons n r ih=>exact .cons rfl ih
structure EqOk {α : Type} [DecidableEq α] (r : Enc α) (d : Nat) : Prop where
  uniq : ∀ {X : Cx} {pins : List (Addr × Obj)} {σ : St} {H : Hp} {s : Shared} {x : V} {a b : α}, Inv X pins σ H s -> r X.K H x a -> r X.K H x b -> a = b
  eq : ∀ {X : Cx} {pins : List (Addr × Obj)} {σ : St} {H : Hp} {s : Shared} {x y : V} {v u : Value} {a b : α} {A : Around}, Inv X pins σ H s -> X7 x v -> X7 y u -> r X.K H x a -> r X.K H y b -> A.units + d < cLine -> SeqAt.EqAt A s v u (decide (a = b))
  rc : ∀ {X : Cx} {pins : List (Addr × Obj)} {σ : St} {H : Hp} {s : Shared} {x y : V} {v u : Value} {a b : α} {A : Around}, Inv X pins σ H s -> X7 x v -> X7 y u -> r X.K H x a -> r X.K H y b -> A.units + d < cLine -> SeqAt.RcAt A s v u (decide (a = b))
  ne : ∀ {X : Cx} {pins : List (Addr × Obj)} {σ : St} {H : Hp} {s : Shared} {x y : V} {v u : Value} {a b : α} {A : Around}, Inv X pins σ H s -> X7 x v -> X7 y u -> r X.K H x a -> r X.K H y b -> A.units + d < cLine -> SeqAt.RcNeAt A s v u (!decide (a = b))
  keep : ∀ {K : Fgg} {H H' : Hp} {x : V} {a : α}, Xp H H' -> r K H x a -> r K H' x a
theorem EqOk.up {α : Type} [DecidableEq α] {r : Enc α} {d e : Nat} (E : EqOk r d) (h : d <= e) : EqOk r e:=
  ⟨E.uniq, λI rx ry h1 h2 hu=>E.eq I rx ry h1 h2 (by lia), λI rx ry h1 h2 hu=>E.rc I rx ry h1 h2 (by lia), λI rx ry h1 h2 hu=>E.ne I rx ry h1 h2 (by lia), E.keep⟩
theorem YV (A : Around) : A.in1.units = A.units + 1:=rfl
theorem BJ {a b : Int} : (a == b) = decide (a = b):=by rw [Bool.eq_iff_iff]; simp
theorem eq_int : EqOk Xa 0 where
  uniq:=λ_ h1 h2=>by
    have h1' : _ = V.int _:=h1
    have h2' : _ = V.int _:=h2
    rw [h1'] at h2'; injection h2'
  eq:=fun {X pins σ H s x y v u a b A} I rx ry h1 h2 _=>by
    have h1' : x = V.int a:=h1
    have h2' : y = V.int b:=h2
    subst h1' h2'
    obtain ⟨t, rfl⟩:=rx
    obtain ⟨t', rfl⟩:=ry
    rw [← BJ]; exact SeqAt.EqAt.int_int a t b t'
  rc:=fun {X pins σ H s x y v u a b A} I rx ry h1 h2 _=>by
    have h1' : x = V.int a:=h1
    have h2' : y = V.int b:=h2
    subst h1' h2'
    obtain ⟨t, rfl⟩:=rx
    obtain ⟨t', rfl⟩:=ry
    rw [← BJ]; exact SeqAt.RcAt.int_int a t b t'
  ne:=fun {X pins σ H s x y v u a b A} I rx ry h1 h2 _=>by
    have h1' : x = V.int a:=h1
    have h2' : y = V.int b:=h2
    subst h1' h2'
    obtain ⟨t, rfl⟩:=rx
    obtain ⟨t', rfl⟩:=ry
    rw [← BJ]; exact SeqAt.RcNeAt.int_int a t b t'
  keep:=λ_ h=>h
theorem Gs {α : Type} [DecidableEq α] {as bs : List α} (h : as.length = bs.length) : (List.range as.length).all (λj=>decide (as[j]? = bs[j]?)) = decide (as = bs):=by
  rw [Bool.eq_iff_iff]
  simp only [List.all_eq_true, List.mem_range, decide_eq_true_eq]
  constructor
  . intro hh
    apply List.ext_getElem?
    intro i
    by_cases hi : i < as.length
    . exact hh i hi
    . rw [List.getElem?_eq_none (by lia), List.getElem?_eq_none (by lia)]
  . rintro rfl; intros; rfl
theorem Paired.uniq {α β : Type} {F : α -> β -> Prop} (hu : ∀ a b c, F a b -> F a c -> b = c) : ∀ {l : List α} {m m' : List β}, Paired F l m -> Paired F l m' -> m = m':=fun {l m m'} p=>by
  induction p generalizing m' with
  | nil=>intro q; cases q; rfl
  | cons r _ ih=>intro q; cases q with | cons r' t'=>rw [hu _ _ _ r r', ih t']
theorem Paired.imp2 {α β : Type} {F G : α -> β -> Prop} (h : ∀ a b, F a b -> G a b) : ∀ {l : List α} {m : List β}, Paired F l m -> Paired G l m:=λp=>by
  induction p with
  | nil=>exact .nil
  | cons r _ ih=>exact .cons (h _ _ r) ih
section
variable {α : Type} [DecidableEq α] {r : Enc α} {d : Nat}
theorem Qx (E : EqOk r d) {X : Cx} {pins : List (Addr × Obj)} {σ : St} {H : Hp} {s : Shared} {A : Around} (I : Inv X pins σ H s) (hu : A.units + (d + 1) < cLine) {xs ys : List V} {as bs : List α} {its its2 : List Value}
    (r1 : X5 xs its) (r2 : X5 ys its2) (p1 : Paired (r X.K H) xs as) (p2 : Paired (r X.K H) ys bs) :
    ∀ j (h1 : j < its.toArray.size) (h2 : j < its2.toArray.size), SeqAt.EqAt A.in1 s its.toArray[j] its2.toArray[j] (decide (as[j]? = bs[j]?)):=by
  intro j h1 h2
  have h1' : j < its.length:=by simpa using h1
  have h2' : j < its2.length:=by simpa using h2
  obtain ⟨x, ex, rx⟩:=Paired.getR (i:=j) (b:=its[j]) r1 (by simp [h1'])
  obtain ⟨y, ey, ry⟩:=Paired.getR (i:=j) (b:=its2[j]) r2 (by simp [h2'])
  obtain ⟨a, ea, ra⟩:=Paired.getL p1 ex
  obtain ⟨b, eb, rb⟩:=Paired.getL p2 ey
  have:=E.eq (A:=A.in1) I rx ry ra rb (by rw [YV]; lia)
  rw [ea, eb]
  simpa using this
theorem F4 (E : EqOk r d) : EqOk (rL r) (d + 1):=by
  have un : ∀ {X : Cx} {pins : List (Addr × Obj)} {σ : St} {H : Hp} {s : Shared} {x : V} {a b : List α}, Inv X pins σ H s -> rL r X.K H x a -> rL r X.K H x b -> a = b:=by
    intro X pins σ H s x as bs I h1 h2
    obtain ⟨a, xs, rfl, q1, p1⟩:=h1
    obtain ⟨b, ys, e, q2, p2⟩:=h2
    cases e
    cases I.list_inj q1 q2
    exact Paired.uniq (F:=r X.K H) (λ_ _ _ z z'=>E.uniq I z z') p1 p2
  have rc : ∀ {X : Cx} {pins : List (Addr × Obj)} {σ : St} {H : Hp} {s : Shared} {x y : V} {v u : Value} {a b : List α} {A : Around}, Inv X pins σ H s -> X7 x v -> X7 y u -> rL r X.K H x a -> rL r X.K H y b -> A.units + (d + 1) < cLine -> SeqAt.RcAt A s v u (decide (a = b)):=by
    intro X pins σ H s x y v u as bs A I rx ry h1 h2 hu
    obtain ⟨a, xs, rfl, q1, p1⟩:=h1
    obtain ⟨b, ys, rfl, q2, p2⟩:=h2
    cases rx; cases ry
    obtain ⟨its, r1, l1, _⟩:=I.list q1
    obtain ⟨its2, r2, l2, _⟩:=I.list q2
    have n1:=r1.length
    have n2:=r2.length
    have m1:=Paired.len p1
    have m2:=Paired.len p2
    by_cases hl : as.length = bs.length
    . have := SeqAt.RcAt.lists (A := A) (e := λj => decide (as[j]? = bs[j]?)) l1.isList l2.isList (by simp only [List.size_toArray]; lia) (by lia) (Qx E I hu r1 r2 p1 p2)
      rw [show its.toArray.size = as.length by simp only [List.size_toArray]; lia, Gs hl] at this
      exact this
    . rw [decide_eq_false (λe => hl (congrArg List.length e))]
      exact SeqAt.RcAt.lists_lengths l1.isList l2.isList (by simp only [List.size_toArray, bne_iff_ne]; lia) (by lia)
  refine ⟨un, ?_, rc, ?_, ?_⟩
  . intro X pins σ H s x y v u as bs A I rx ry h1 h2 hu
    obtain ⟨a, xs, rfl, q1, p1⟩:=id h1
    obtain ⟨b, ys, rfl, q2, p2⟩:=id h2
    have R:=rc (A:=A) I rx ry h1 h2 hu
    cases rx; cases ry
    by_cases e : a = b
    . subst e
      rw [decide_eq_true (un I h1 h2)]
      exact SeqAt.EqAt.same _
    . exact SeqAt.EqAt.of_refs e R
  . intro X pins σ H s x y v u as bs A I rx ry h1 h2 hu
    obtain ⟨a, xs, rfl, q1, p1⟩:=h1
    obtain ⟨b, ys, rfl, q2, p2⟩:=h2
    cases rx; cases ry
    obtain ⟨its, r1, l1, _⟩:=I.list q1
    obtain ⟨its2, r2, l2, _⟩:=I.list q2
    have n1:=r1.length
    have n2:=r2.length
    have m1:=Paired.len p1
    have m2:=Paired.len p2
    by_cases hl : as.length = bs.length
    . have := SeqAt.RcNeAt.lists (A := A) (e := λj => decide (as[j]? = bs[j]?)) l1.isList l2.isList (by simp only [List.size_toArray]; lia) (by lia) (Qx E I hu r1 r2 p1 p2)
      rw [show its.toArray.size = as.length by simp only [List.size_toArray]; lia, Gs hl] at this
      exact this
    . rw [decide_eq_false (λe => hl (congrArg List.length e))]
      exact SeqAt.RcNeAt.lists_lengths l1.isList l2.isList (by simp only [List.size_toArray, bne_iff_ne]; lia) (by lia)
  . intro K H H' x as e h
    obtain ⟨a, xs, rfl, q1, p1⟩:=h
    exact ⟨a, xs, rfl, e.seq q1, Paired.imp2 (λ_ _ z=>E.keep e z) p1⟩
end
section
variable {α β : Type} [DecidableEq α] [DecidableEq β] {r : Enc α} {q : Enc β} {d : Nat}
end
section
variable {X : Cx} {α : Type} [DecidableEq α] {r : Enc α} {d : Nat}
def Nl (K : Fgg) (r : Enc α) : R2:=λx y H Q=>∃ a b, r K H x a /\ r K H y b /\ Q (.bl (!decide (a = b))) H
theorem Es (E : EqOk r d) (hu : X.A.units + d < cLine) : OpR X (compareOp .NotEq) (Nl X.K r):=by
  intro pins s σ H x y v u Q I rx ry h
  obtain ⟨a, b, h1, h2, q⟩:=h
  exact E.ne (A:=X.A) I rx ry h1 h2 hu _ _ _ _ ⟨.bl _, H, I, rfl, q⟩
theorem Ur : OpR X (binaryOp .FloorDiv) (rI (λ_ j=>0 < j /\ j.natAbs.log2 < 9000) λi j=>.int (i / j)):=opI λi j _ _ _ _ _ hc q=>by
  refine floordiv_int (by lia) ?_ (.inl (PyProof.noPylong_of_log2 hc.2))
  rw [Int.fdiv_eq_ediv_of_nonneg i (by lia)]
  exact q
end
end L2
namespace PySem
open Sem (wp)
section
variable {prog : Program} {w : World} {A : Around} {E : Value -> Shared -> Prop} {s : Shared}
end
end PySem
namespace L2
open PySem PySem.Spec PyProof.Rows
theorem GB {α β : Type} {F : α -> β -> Prop} : ∀ {l : List α} {m : List β} {i : Nat} {b : β}, Paired F l m -> m[i]? = some b -> ∃ a, l[i]? = some a /\ F a b
  | _, _, _, _, .nil, e=>by simp at e
  | _, _, 0, _, .cons r _, e=>by simp at e; subst e; exact ⟨_, rfl, r⟩
  | _, _, i + 1, b, .cons _ t, e=>by
    obtain ⟨a, h1, h2⟩:=GB (i:=i) (b:=b) t (by simpa using e)
    exact ⟨a, by simpa using h1, h2⟩
section
variable {X : Cx} {e : Expr} {te : TE}
end
section
variable {X : Cx} {pins : List (Addr × Obj)} {σ : St} {H : Hp} {s : Shared} {h' : Heap}
theorem Inv.turnLay {t' : Nat} {ch : List Addr} {T : Addr} {u : HO} (I : Inv X pins σ H s) (k : ∀ b o, b ∉ ch -> s.heap.get? b = some o -> h'.get? b = some o) (hf : ∀ b ∈ ch, Gk X pins H b)
    (hp : s.heap.objs.size <= T) (new : Zd X.prog X.w (upd H T u) h' T u) : Inv X pins σ (upd H T u) { s with heap:=h', toks:=t' }:=by
  have hn : H T = none:=I.hok.fresh hp
  have nit : ∀ b o, H b = some o -> b ∉ ch:=λb o e z=>by rw [(hf b z).1] at e; cases e
  refine I.step (g':=s.gens) (d':=s.drawn) (ch:=ch) (λb hb=>?_) (λb o _ _ hc e _=>k b o hc e) (λb o _ _ hc e _=>⟨o.slots, k b o hc e⟩)
    (λb o _ e n=>by rw [XI (Nat.ne_of_lt (Nat.lt_of_lt_of_le (Heap.lt_size e) hp))]; exact n)
    (λb o hc e=>⟨o, k b o hc e⟩) (λb xs e=>by rw [XI (XL e hn)]; exact e) (λb o xs e=>by rw [XI (XL e hn)]; exact e) (λb ps e=>⟨#[], by rw [XI (XL e hn), e]; simp⟩) (λm hm=>?_) (λb v e=>?_) I.bare
  . obtain ⟨f0, f1, f2, f3, f4, f5⟩ := hf b hb
    exact ⟨f3, f1, f4, f5⟩
  . obtain ⟨o, es, ep, ho, r⟩ := hm
    exact ⟨o, es, ep, k _ o (λz=>(hf _ z).2.1 rfl) ho, r⟩
  . by_cases hb : b = T
    . subst hb; rw [Yp] at e; cases e; exact new
    . rw [XI hb] at e
      refine (I.hok b v e).stay (λc o hc q=>k c o ?_ q) (λc q=>by rw [XI (XL q hn)]; exact q) λc xs q=>by rw [XI (XL q hn)]; exact q
      rcases hc with z | z
      . rw [z]; exact nit b v e
      . exact nit c _ z
end
def Ite (K : Fgg) (a : Addr) : It:=
  ⟨λi H=>∃ xs x, SqL K H a xs /\ xs[i]? = some x, λi H y H'=>∃ p x, y = .ref p /\ H p = none /\ H' = upd H p (.tup [.int (i : Int), x]) /\ ∀ xs, SqL K H a xs -> xs[i]? = some x, λi H=>∃ xs, SqL K H a xs /\ xs.length <= i⟩
theorem DH {P : Program} {w : World} {K : Fgg} {elts : List Expr} {k : Nat} {pos : Pos} (a e it : Addr) (h1 : e ≠ it) (h2 : a ≠ e) (h3 : a ≠ it) :
    Turn P w K (.Tuple elts k pos) (Ite K a) [e, it] e (λi h=>(∃ old, IsEnum h e it (i : Int) old) /\ h.IsListIter it a i) where
  mem:=by simp
  obj:=λi h st b hb=>by
    obtain ⟨⟨old, eo⟩, o, io, c, d⟩:=st
    rcases List.mem_cons.mp hb with z | z
    . subst z
      exact ⟨_, eo, λv z=>by cases z⟩
    . have z := List.mem_singleton.mp z
      subst z
      exact ⟨o, io, λv z=>by rw [d] at z; cases z⟩
  keep:=λi h h' st k=>⟨let ⟨old, eo⟩:=st.1; ⟨old, k e (by simp) _ eo⟩, st.2.at λo q=>k it (by simp) o q⟩
  item:=by
    intro X hP hw hK hc i pins s σ H E I hf st hg
    subst hP hw hK
    obtain ⟨xs, x, hq, hx⟩:=hg
    obtain ⟨its, rv, p, hz⟩:=I.list hq
    obtain ⟨u, hu, ru⟩:=rv.get hx
    obtain ⟨⟨old, eo⟩, io⟩:=id st
    have hu' : its.toArray[i]? = some u:=by simpa using hu
    have W:=WalksT.enumerate (prog:=X.prog) (w:=X.w) (A:=X.A) (I.ok.hd hc) e it a h1 h2 h3 its.toArray
    refine wpAny_pyNext_enum_item eo io p.isList hu' h1 λh' eo' io' tup sz kk=>?_
    have hT : ∀ b o, s.heap.get? b = some o -> s.heap.objs.size ≠ b:=λb o q z=>absurd (Heap.lt_size q) (by rw [← z]; exact Nat.lt_irrefl _)
    have hTe:=hT e _ eo
    have hTi : s.heap.objs.size ≠ it:=by obtain ⟨o, q, _⟩:=io; exact hT it o q
    have ha' : h'.IsList a its.toArray:=p.isList.at λo q=>kk a o h2 h3 q
    refine ⟨_, rfl, W.go elts k pos i s.heap.objs.size _ _ _ ⟨⟨_, eo'⟩, io', ha', hTe, hTi⟩ λh'' st' kk'=>?_⟩
    obtain ⟨st2, io2, _⟩:=st'
    have tup2:=kk' _ _ (by simp [hTe, hTi]) tup
    have k2 : ∀ b o, b ∉ [e, it] -> s.heap.get? b = some o -> h''.get? b = some o:=λb o q1 q=>kk' b o q1 (kk b o (λz=>q1 (by simp [z])) (λz=>q1 (by simp [z])) q)
    refine ⟨.ref s.heap.objs.size, upd H s.heap.objs.size (.tup [.int (i : Int), x]), I.turnLay (h':=h'') (t':=s.toks + 1) k2 hf (Nat.le_refl _) ⟨by show 2 <= sizeLine; decide, [.int (i : Int) s.toks, u], .cons ⟨_, rfl⟩ (.cons ru .nil), ⟨_, tup2, rfl, _, rfl⟩⟩, rfl,
      ⟨_, x, rfl, I.hok.fresh (Nat.le_refl _), rfl, λys hy=>by rw [I.list_inj hy hq]; exact hx⟩, ⟨by simpa using st2, io2⟩, λb hb=>?_⟩
    rcases List.mem_cons.mp hb with z | z
    . rw [z, XI hTe.symm]; exact (hf e (by simp)).1
    . rw [List.mem_singleton.mp z, XI hTi.symm]; exact (hf it (by simp)).1
  done:=by
    intro X hP hw hK hc i pins s σ H E I hf st hg
    subst hP hw hK
    obtain ⟨xs, hq, hx⟩:=hg
    obtain ⟨its, rv, p, hz⟩:=I.list hq
    obtain ⟨⟨old, eo⟩, io⟩:=id st
    obtain ⟨f0, f1, f2, f3, f4, f5⟩:=hf it (by simp)
    have hl:=rv.length
    exact wpAny_pyNext_enum_end (I.ok.hd hc) eo io p.isList (by simp; lia) λh' eb=>⟨rfl, I.turned (t':=s.toks) (λb o hb q=>eb b o hb q) f0 f1 f3 f4 f5⟩
  self:=by
    intro A i s Q E st h
    obtain ⟨⟨old, eo⟩, io⟩:=st
    exact wpAny_pyIter_enum eo h
section
variable {X : Cx} {elts : List Expr} {k : Nat} {pos0 : Pos}
def IQ (K : Fgg) (tl : TE) : TI:=λσ H R=>tl σ H λx H1=>∃ a, x = .ref a /\ (∃ xs, SqL K H1 a xs) /\ R (Ite K a) H1
theorem UF {l : Expr} {tl : TE} {p pos : Pos} (hg : Gl X "enumerate") (hm : X.mg "enumerate" = none) (hl : PE X l tl) (hs : starEach [l] X.env = [(false, eval l X.env)]:=by rfl) :
    PI X (.Tuple elts k pos0) (.Call (.Name "enumerate" p) [l] [] pos) (IQ X.K tl):=by
  intro pins s σ H R I h
  refine wpAny_Call_Name_kw (Jm I hg hm boot_enumerate ?_)
  refine PyProof.Rows.callWith_type1 ?_ hs rfl
  rw [hs]
  show wpAny _ _ (spliced ((false, eval l X.env) :: backTo pos [])) _ _ s
  refine Calls.spliced_cons (thn (hl pins s σ H _ I h) λv s1 ⟨x, H1, I1, r1, a, ex, ⟨xs, hq⟩, q⟩=>?_)
  subst ex
  cases r1
  obtain ⟨its, rv, pl, hz⟩:=I1.list hq
  refine Calls.spliced_nil ?_
  have hlt : a < s1.heap.objs.size:=by obtain ⟨o, n, ho, _⟩:=pl; exact Heap.lt_size ho
  refine call_enumerate_list pl.isList λh' en io sz kk=>?_
  refine wpAny_pyIter_enum en ?_
  refine ⟨_, [s1.heap.objs.size + 1, s1.heap.objs.size], _, _, H1, rfl, I1.kept (t':=s1.toks) kk, DH a _ _ (Nat.ne_of_gt (Nat.lt_succ_self _)) (Nat.ne_of_lt (Nat.lt_succ_of_lt hlt)) (Nat.ne_of_lt hlt), ⟨⟨_, en⟩, io⟩, λb hb=>?_, q⟩
  have hb' : s1.heap.objs.size <= b:=by
    rcases List.mem_cons.mp hb with z | z
    . rw [z]; exact Nat.le_succ _
    . rw [List.mem_singleton.mp z]; exact Nat.le_refl _
  exact I1.fpOk hb' (I1.hok.fresh hb')
end
section
variable {X : Cx}
end
def rTL {α : Type} (r : Enc α) : Enc (List α):=λK H v as=>∃ a xs, v = .ref a /\ SqT K H a xs /\ Paired (r K H) xs as
section
variable {α : Type} [DecidableEq α] {r : Enc α} {d : Nat}
theorem DY {as bs : List α} : ((List.range (min as.length bs.length)).all (λj=>decide (as[j]? = bs[j]?)) && as.length == bs.length) = decide (as = bs):=by
  by_cases hl : as.length = bs.length
  . rw [show min as.length bs.length = as.length by lia, Gs hl]
    simp [hl]
  . rw [decide_eq_false (λe => hl (congrArg List.length e))]
    simp [hl]
theorem IB (E : EqOk r d) : EqOk (rTL r) (d + 1):=by
  have un : ∀ {X : Cx} {pins : List (Addr × Obj)} {σ : St} {H : Hp} {s : Shared} {x : V} {a b : List α}, Inv X pins σ H s -> rTL r X.K H x a -> rTL r X.K H x b -> a = b:=by
    intro X pins σ H s x as bs I h1 h2
    obtain ⟨a, xs, rfl, q1, p1⟩:=h1
    obtain ⟨b, ys, e, q2, p2⟩:=h2
    cases e
    cases I.tuple_inj q1 q2
    exact Paired.uniq (F:=r X.K H) (λ_ _ _ z z'=>E.uniq I z z') p1 p2
  have rc : ∀ {X : Cx} {pins : List (Addr × Obj)} {σ : St} {H : Hp} {s : Shared} {x y : V} {v u : Value} {a b : List α} {A : Around}, Inv X pins σ H s -> X7 x v -> X7 y u -> rTL r X.K H x a -> rTL r X.K H y b -> A.units + (d + 1) < cLine -> SeqAt.RcAt A s v u (decide (a = b)):=by
    intro X pins σ H s x y v u as bs A I rx ry h1 h2 hu
    obtain ⟨a, xs, rfl, q1, p1⟩:=h1
    obtain ⟨b, ys, rfl, q2, p2⟩:=h2
    cases rx; cases ry
    obtain ⟨its, r1, l1, _⟩:=I.tuple q1
    obtain ⟨its2, r2, l2, _⟩:=I.tuple q2
    have n1:=r1.length
    have n2:=r2.length
    have m1:=Paired.len p1
    have m2:=Paired.len p2
    have:=SeqAt.RcAt.tuples (A:=A) (e:=λj=>decide (as[j]? = bs[j]?)) l1 l2 (by lia) (Qx E I hu r1 r2 p1 p2)
    rw [show its.toArray.size = as.length by simp only [List.size_toArray]; lia, show its2.toArray.size = bs.length by simp only [List.size_toArray]; lia, DY] at this
    exact this
  refine ⟨un, ?_, rc, ?_, ?_⟩
  . intro X pins σ H s x y v u as bs A I rx ry h1 h2 hu
    obtain ⟨a, xs, rfl, q1, p1⟩:=id h1
    obtain ⟨b, ys, rfl, q2, p2⟩:=id h2
    have R:=rc (A:=A) I rx ry h1 h2 hu
    cases rx; cases ry
    by_cases e : a = b
    . subst e
      rw [decide_eq_true (un I h1 h2)]
      exact SeqAt.EqAt.same _
    . exact SeqAt.EqAt.of_refs e R
  . intro X pins σ H s x y v u as bs A I rx ry h1 h2 hu
    obtain ⟨a, xs, rfl, q1, p1⟩:=h1
    obtain ⟨b, ys, rfl, q2, p2⟩:=h2
    cases rx; cases ry
    obtain ⟨its, r1, l1, _⟩:=I.tuple q1
    obtain ⟨its2, r2, l2, _⟩:=I.tuple q2
    have n1:=r1.length
    have n2:=r2.length
    have m1:=Paired.len p1
    have m2:=Paired.len p2
    have:=SeqAt.RcNeAt.tuples (A:=A) (e:=λj=>decide (as[j]? = bs[j]?)) l1 l2 (by lia) (Qx E I hu r1 r2 p1 p2)
    rw [show its.toArray.size = as.length by simp only [List.size_toArray]; lia, show its2.toArray.size = bs.length by simp only [List.size_toArray]; lia, DY] at this
    exact this
  . intro K H H' x as e h
    obtain ⟨a, xs, rfl, q1, p1⟩:=h
    exact ⟨a, xs, rfl, e.seqT q1, Paired.imp2 (λ_ _ z=>E.keep e z) p1⟩
end
section
variable {X : Cx} {o e f : Expr} {td ty tx : TE} {apos cpos : Pos}
end
theorem YO : ∀ (names : List (Str × NameKind)) (n : Nat) (acc : List (Str × Addr)) {x : Str}, (x, NameKind.cell) ∉ names -> (cellsFrom n names acc).lookup x = acc.lookup x
  | [], _, _, _, _=>rfl
  | (y, k) :: r, n, acc, x, h=>by
    have hr : (x, NameKind.cell) ∉ r:=λz=>h (ZP _ z)
    unfold cellsFrom
    split
    . rename_i hk
      have hk' : k = NameKind.cell:=by simpa using hk
      rw [YO r _ _ hr, List.lookup_cons]
      have : (x == y) = false:=beq_eq_false_iff_ne.mpr λe=>h (by rw [e, hk']; exact Zq)
      rw [this]
    . exact YO r _ _ hr
theorem Qa : ∀ (names : List (Str × NameKind)) (n : Nat) (acc : List (Str × Addr)) {x : Str} {c : Addr}, (x, NameKind.cell) ∈ names -> (cellsFrom n names acc).lookup x = some c -> n <= c
  | [], _, _, _, _, h, _=>nomatch h
  | (y, k) :: r, n, acc, x, c, h, e=>by
    unfold cellsFrom at e
    split at e
    . by_cases hr : (x, NameKind.cell) ∈ r
      . exact Nat.le_of_succ_le (Qa r _ _ hr e)
      . rw [YO r _ _ hr, List.lookup_cons] at e
        rcases List.mem_cons.mp h with h | h
        . have hx : x = y := congrArg Prod.fst h
          rw [hx, beq_self_eq_true] at e
          exact Nat.le_of_eq (Option.some.inj e)
        . exact absurd h hr
    . rename_i hk
      rcases List.mem_cons.mp h with h | h
      . exact absurd (by simpa using (congrArg Prod.snd h).symm) hk
      . exact Qa r _ _ h e
theorem Z6 : ∀ (names : List (Str × NameKind)) (n : Nat) (acc : List (Str × Addr)) {x : Str}, ((x, NameKind.cell) ∈ names ∨ ∃ c, acc.lookup x = some c) -> ∃ c, (cellsFrom n names acc).lookup x = some c
  | [], _, _, _, h=>h.elim (λz=>nomatch z) id
  | (y, k) :: r, n, acc, x, h=>by
    unfold cellsFrom
    split
    . refine Z6 r _ _ ?_
      by_cases hx : x = y
      . subst hx; exact .inr ⟨n, by rw [List.lookup_cons]; simp⟩
      . rcases h with h | ⟨c, h⟩
        . rcases List.mem_cons.mp h with h | h
          . exact absurd (congrArg Prod.fst h) hx
          . exact .inl h
        . exact .inr ⟨c, by rw [List.lookup_cons, beq_eq_false_iff_ne.mpr hx]; exact h⟩
    . rename_i hk
      refine Z6 r _ _ ?_
      rcases h with h | h
      . rcases List.mem_cons.mp h with h | h
        . exact absurd (by simpa using (congrArg Prod.snd h).symm) hk
        . exact .inl h
      . exact .inr h
theorem Z8 : ∀ (names : List (Str × NameKind)) (n : Nat) (acc : List (Str × Addr)), (∀ x y c, acc.lookup x = some c -> acc.lookup y = some c -> x = y) -> (∀ x c, acc.lookup x = some c -> c < n) ->
    ∀ x y c, (cellsFrom n names acc).lookup x = some c -> (cellsFrom n names acc).lookup y = some c -> x = y
  | [], _, _, h, _=>h
  | (z, k) :: r, n, acc, h, hl=>by
    unfold cellsFrom
    split
    . refine Z8 r (n + 1) _ (λx y c h1 h2 => ?_) λx c h1 => ?_
      . rw [List.lookup_cons] at h1 h2
        cases hx : x == z <;> cases hy : y == z <;> rw [hx] at h1 <;> rw [hy] at h2 <;> simp only at h1 h2
        . exact h x y c h1 h2
        . cases h2; exact absurd (hl x n h1) (Nat.lt_irrefl _)
        . cases h1; exact absurd (hl y n h2) (Nat.lt_irrefl _)
        . rw [beq_iff_eq.mp hx, beq_iff_eq.mp hy]
      . rw [List.lookup_cons] at h1
        cases hx : x == z <;> rw [hx] at h1 <;> simp only at h1
        . exact Nat.lt_succ_of_lt (hl x c h1)
        . cases h1; exact Nat.lt_succ_self _
    . exact Z8 r n acc h hl
theorem ZH : ∀ (names : List (Str × NameKind)) (h : Heap) (acc : List (Str × Addr)) {x : Str} {c : Addr}, (cellsFrom h.objs.size names acc).lookup x = some c -> acc.lookup x = some c ∨ ((pushCells h names).IsCell c none /\ h.objs.size <= c)
  | [], _, _, _, _, e=>.inl e
  | (z, k) :: r, h, acc, x, c, e=>by
    unfold cellsFrom at e
    unfold pushCells
    split at e
    . rename_i hk
      rw [if_pos hk]
      have e' : (cellsFrom (h.push { cls:=.type "cell", data:=.cell none }).objs.size r ((z, h.objs.size) :: acc)).lookup x = some c:=by rw [Heap.size_push]; exact e
      rcases ZH r _ _ e' with q | ⟨q1, q2⟩
      . rw [List.lookup_cons] at q
        cases hx : x == z <;> rw [hx] at q <;> simp only at q
        . exact .inl q
        . cases q
          exact .inr ⟨⟨_, pushCells_keeps _ _ _ _ (Heap.get?_push_size _ rfl), rfl⟩, Nat.le_refl _⟩
      . exact .inr ⟨q1, by rw [Heap.size_push] at q2; lia⟩
    . rename_i hk
      rw [if_neg hk]
      exact ZH r h acc e
theorem VT : ∀ {l : List (Str × NameKind)} {x : Str} {j k : NameKind}, (l.map (·.1)).Nodup -> (x, j) ∈ l -> (x, k) ∈ l -> j ≠ k -> False
  | [], _, _, _, _, h, _, _=>nomatch h
  | (y, i) :: r, x, j, k, hn, h1, h2, ne=>by
    rw [List.map_cons, List.nodup_cons] at hn
    rcases List.mem_cons.mp h1 with h1 | h1 <;> rcases List.mem_cons.mp h2 with h2 | h2
    . cases h1; cases h2; exact ne rfl
    . cases h1; exact hn.1 (List.mem_map.mpr ⟨_, h2, rfl⟩)
    . cases h2; exact hn.1 (List.mem_map.mpr ⟨_, h1, rfl⟩)
    . exact VT hn.2 h1 h2 ne
theorem Qe {env : Env} : ∀ {names : List (Str × NameKind)} {x : Str} {k : NameKind},
    (names.map λ(n, k)=>if (k == NameKind.free && env.scope.kind == .function && env.kindOf n == some .cell) then (n, NameKind.cell) else (n, k)).lookup x = some k -> (k = .cell ∨ k = .free) -> (x, NameKind.free) ∈ names ∨ (x, NameKind.cell) ∈ names
  | [], _, _, h, _=>by simp at h
  | (n, kk) :: r, x, k, h, hk=>by
    have ih:=@Qe env r x k
    simp only [List.map_cons] at h
    have up : ((x, NameKind.free) ∈ r ∨ (x, NameKind.cell) ∈ r) -> ((x, NameKind.free) ∈ (n, kk) :: r ∨ (x, NameKind.cell) ∈ (n, kk) :: r):=λz=>z.elim (λz=>.inl (ZP _ z)) λz=>.inr (ZP _ z)
    by_cases hcond : (kk == NameKind.free && env.scope.kind == .function && env.kindOf n == some .cell) = true
    . rw [if_pos hcond, List.lookup_cons] at h
      have hfree : kk = NameKind.free:=by
        rw [Bool.and_eq_true, Bool.and_eq_true] at hcond
        simpa using hcond.1.1
      cases hx : x == n with
      | true=>
        have : x = n:=by simpa using hx
        subst this; subst hfree
        exact .inl Zq
      | false=>rw [hx] at h; exact up (ih h hk)
    . rw [if_neg hcond, List.lookup_cons] at h
      cases hx : x == n with
      | true=>
        rw [hx] at h
        have hkk : kk = k:=Option.some.inj h
        have : x = n:=by simpa using hx
        subst this; subst hkk
        rcases hk with z | z
        . subst z; exact .inr Zq
        . subst z; exact .inl Zq
      | false=>rw [hx] at h; exact up (ih h hk)
theorem Fp {M : Model} {A : Around} {E : Value -> Shared -> Prop} {s : Shared} {scope : Scope} {globals : Addr} {cl : List (Str × Addr)} {qual : Str} {outer : Env} {Q : Env -> Shared -> Prop}
    (hQ : ∀ h', h'.Ns s.heap.objs.size (λ_=>none) -> (∀ b o, s.heap.get? b = some o -> h'.get? b = some o) ->
      (∀ x c, (cellsFrom (s.heap.objs.size + 1) scope.names cl).lookup x = some c -> cl.lookup x = some c ∨ (h'.IsCell c none /\ s.heap.objs.size + 1 <= c)) ->
      Q (newEnv scope s.heap.objs.size globals (cellsFrom (s.heap.objs.size + 1) scope.names cl) qual none .none (some outer) builtinsNs) { s with heap:=h' }) :
    wpAny M A (newFunctionEnv scope globals cl [] qual none .none (some outer)) Q E s:=by
  simp only [newFunctionEnv, Option.isSome_some, if_true]
  refine wpAny_bind (wpAny_alloc ?_)
  refine wpAny_bind (wpAny_layCells _ (λname kind cells=>by cases hkc : kind == NameKind.cell <;> simp [hkc]) _ _ _ _ ?_)
  rw [show ({ s with heap:=s.heap.push { cls:=.type "dict", data:=.dict #[] } } : Shared).heap.objs.size = s.heap.objs.size + 1 from Heap.size_push ..]
  rw [List.forIn_nil]
  refine wpAny_bind (wpAny_pure (wpAny_pure (hQ _ ((Heap.Ns.new s.heap (.type "dict")).keeps (pushCells_keeps _ _)) (λb o e=>pushCells_keeps _ _ b o (Qp _ e)) λx c e=>?_)))
  have e' : (cellsFrom (s.heap.push { cls:=.type "dict", data:=.dict #[] }).objs.size scope.names cl).lookup x = some c:=by rw [Heap.size_push]; exact e
  rcases ZH scope.names _ cl e' with q | ⟨q1, q2⟩
  . exact .inl q
  . exact .inr ⟨q1, by rw [Heap.size_push] at q2; exact q2⟩
def Va (sc scope : Scope) (N0 tns : List Str) (caps : List (Nat × Str)) : Bool:=
  scope.kind == .function && decide (scope.names.map (·.1)).Nodup && scope.names.all (λy=>!(y.2 == .local) || scope.names.lookup y.1 == some .local) &&
  scope.names.all (λy=>!(y.2 == .free) || (sc.names.lookup y.1 == some .cell || sc.names.lookup y.1 == some .free)) && caps.all (λp=>N0[p.1]? == some p.2 && (sc.names.lookup p.2 == some .cell || sc.names.lookup p.2 == some .free) && scope.names.lookup p.2 == some .free)
abbrev Cx.compN (X : Cx) (N : List Str) (scope : Scope) (cl : List (Str × Addr)) (C : Addr) (s : Shared) (H : Hp) (ex : List Addr) (E : Value -> Shared -> Prop) : Cx:=
  { X.comp N scope cl C s H ex E with fn:=λx=>scope.names.lookup x == some .cell }
def M1 (scope sc : Scope) : Scope:=
  { scope with names:=scope.names.map λ(n, k)=>if (k == .free && sc.kind == .function && sc.names.lookup n == some .cell) then (n, .cell) else (n, k) }
section
variable {X : Cx} {elt tg iter : Expr} {ifs : List Expr} {scope sc : Scope} {pos : Pos} {n : Nat} {tns : List Str} {caps : List (Nat × Str)} {wi : TI} {g : TG} {tt : TT} {te : TE}
theorem K7 {N0 : List Str} (hc : X.calm = true) (hsc : X.env.scope = sc) (hN0 : X.N = N0) (ok : Va sc scope N0 tns caps = true) (hn : tns.length = n) (hG : Vx n g)
    (hb : ∀ cl C s H ex E, PG (X.compN (tns ++ caps.map (·.2)) scope cl C s H ex E) tg g /\ PTs (X.compN (tns ++ caps.map (·.2)) scope cl C s H ex E) ifs tt /\ PE (X.compN (tns ++ caps.map (·.2)) scope cl C s H ex E) elt te)
    {pins : List (Addr × Obj)} {σ : St} {H : Hp} {s : Shared} {J : It} {fp : List Addr} {it : Addr} {tn : Nat -> Heap -> Prop} {cl : List (Str × Addr)} {Q : V -> Hp -> Prop} {RR : Value -> Addr -> Result -> Shared -> Prop}
    (I : Inv X pins σ H s) (T : Turn X.prog X.w X.K tg J fp it tn) (t0 : tn 0 s.heap) (hf : ∀ b ∈ fp, Gk X pins H b)
    (hsub : ∀ x c, cl.lookup x = some c -> X.env.cells.lookup x = some c) (hall : ∀ x, (x, NameKind.free) ∈ scope.names -> ∃ c, cl.lookup x = some c)
    (W : Nat -> Nat -> List V -> Hp -> Prop) {m0 : Nat} (w0 : W 0 m0 [] H)
    (turn : B6 g tt te (YI n caps σ) Q J W)
    (hRR : ∀ D C ys H3 s', CompEnd X pins σ H3 D C ys s' -> Q (.ref D) (upd H3 D (.lst ys)) -> RR (.ref D) C (.ok .next) s') {E : Value -> Shared -> Prop} :
    wpAny (model X.prog X.w) X.A (newList []) (λacc s₃=>wpAny (model X.prog X.w) X.A (newFunctionEnv scope X.env.globals cl [] X.env.qual none .none (some X.env)) (λcenv s₄=>
      codeAny (model X.prog X.w) X.A (.compStart (.ListComp elt [⟨tg, iter, ifs, 0⟩] scope pos) 0 (.ref it) acc { cenv with scope:=relabel scope X.env }) (RR acc cenv.locals) s₄) E s₃) E s:=by
  subst hsc
  subst hN0
  unfold Va at ok
  simp only [Bool.and_eq_true, List.all_eq_true] at ok
  obtain ⟨⟨⟨⟨ok1, ok2⟩, ok3⟩, ok4⟩, ok5⟩:=ok
  have hkind : scope.kind = .function:=by simpa using ok1
  have hnd : (scope.names.map (·.1)).Nodup:=by simpa using ok2
  refine wpAny_newObj_type (Fp (λh₁ hns₁ hsb₁ hc₁=>?_))
  dsimp only at hns₁ hsb₁ hc₁ ⊢
  generalize hH2 : s.heap.push { cls:=.type "list", dict:=none, data:=.seq ([] : List Value).toArray } = H2 at hns₁ hsb₁ hc₁ ⊢
  have hC : H2.objs.size = s.heap.objs.size + 1:=by rw [← hH2, Heap.size_push]
  have hDC : s.heap.objs.size ≠ H2.objs.size:=by rw [hC]; exact Nat.ne_of_lt (Nat.lt_succ_self _)
  have hCle : s.heap.objs.size <= H2.objs.size:=by rw [hC]; exact Nat.le_succ _
  have below : ∀ b, b < s.heap.objs.size -> b ≠ H2.objs.size /\ b ≠ s.heap.objs.size:=λb hb=>⟨by rw [hC]; exact Nat.ne_of_lt (Nat.lt_succ_of_lt hb), Nat.ne_of_lt hb⟩
  have old : ∀ b o, s.heap.get? b = some o -> h₁.get? b = some o:=λb o e=>hsb₁ b o (hH2 ▸ Qp _ e)
  have hacc : h₁.get? s.heap.objs.size = some { cls:=.type "list", data:=.seq ([] : List Value).toArray 0 }:=hsb₁ _ _ (hH2 ▸ Heap.get?_push_size _ rfl)
  have hst₁ : tn 0 h₁:=T.keep _ _ _ t0 λb _ o e=>old b o e
  have cf2 : ∀ x, (x, NameKind.free) ∈ scope.names -> ∃ c, (cellsFrom (H2.objs.size + 1) scope.names cl).lookup x = some c /\ cl.lookup x = some c:=λx hx=>by
    obtain ⟨c, hc⟩:=hall x hx
    exact ⟨c, by rw [YO scope.names _ _ (λhm=>VT hnd hx hm (by decide))]; exact hc, hc⟩
  have cf3 : ∀ x, (x, NameKind.cell) ∈ scope.names -> ∃ c, (cellsFrom (H2.objs.size + 1) scope.names cl).lookup x = some c:=λx hx=>Z6 scope.names _ _ (.inl hx)
  have cf4 : ∀ x y c, (cellsFrom (H2.objs.size + 1) scope.names cl).lookup x = some c -> (cellsFrom (H2.objs.size + 1) scope.names cl).lookup y = some c -> x = y:=
    Z8 scope.names _ _ (λx y c h1 h2=>I.ok.inj x y c (hsub x c h1) (hsub y c h2)) (λx c e=>by
      obtain ⟨v, z⟩:=I.cell x c (hsub x c e)
      exact Nat.lt_of_lt_of_le z.lt (by rw [hC]; lia))
  have cf5 : ∀ x c, scope.names.lookup x = some NameKind.cell -> (cellsFrom (H2.objs.size + 1) scope.names cl).lookup x = some c -> H2.objs.size + 1 <= c:=λx c hx e=>Qa scope.names _ _ (PySem.mem_of_lookup hx) e
  generalize hcl : cellsFrom (H2.objs.size + 1) scope.names cl = cl' at *
  -- addresses
  generalize hD : s.heap.objs.size = D at *
  generalize hCe : H2.objs.size = C at *
  have fpLt : ∀ b ∈ fp, b < D:=λb hb=>by
    obtain ⟨o, e, _⟩:=T.obj _ _ t0 b hb
    rw [← hD]; exact Heap.lt_size e
  have hDlt : D < C:=by lia
  have cellNe : ∀ x c, cl'.lookup x = some c -> c ≠ D:=λx c e=>by
    rcases hc₁ x c e with q | ⟨_, q⟩
    . obtain ⟨v, z⟩ := I.cell x c (hsub x c q)
      rw [← hD]; exact Nat.ne_of_lt z.lt
    . exact Nat.ne_of_gt (Nat.lt_trans hDlt (Nat.lt_of_succ_le q))
  have fpNe : ∀ b ∈ fp, ∀ x c, cl'.lookup x = some c -> c ≠ b:=λb hb x c e=>by
    rcases hc₁ x c e with q | ⟨_, q⟩
    . exact (hf b hb).2.2.2.2.1 x c (hsub x c q)
    . exact Nat.ne_of_gt (Nat.lt_trans (fpLt b hb) (Nat.lt_trans hDlt (Nat.lt_of_succ_le q)))
  let X' : Cx:=X.compN (tns ++ caps.map (·.2)) scope cl' C s H fp (notedBy (model X.prog X.w) X.A (compEnvC scope cl' C X.env) λe s'=>RR (.ref D) C (.error e) s')
  have okX : X'.Ok:=by
    refine ⟨I.ok.mod, hkind, I.ok.glob, I.ok.blt, by show s.heap.objs.size <= C; lia, cf4, λx hx=>?_, λx c hx hcx=>(by show s.heap.objs.size <= c; have:=cf5 x c (by have hx2 : (scope.names.lookup x == some NameKind.cell) = true:=hx; simpa using hx2) hcx; lia), I.ok.hd, I.ok.frames, .inl rfl, λb hb=>?_, I.bs, Nat.le_trans I.ok.bsz I.sz, λb o e hb=>?_, λb hb hz=>?_, I.stack, I.stkFree⟩
    . have hx' : (relabel scope X.env).names.lookup x = some .cell ∨ (relabel scope X.env).names.lookup x = some .free := hx
      have hz : (x, NameKind.free) ∈ scope.names ∨ (x, NameKind.cell) ∈ scope.names:=by
        rcases hx' with z | z
        . exact Qe z (.inl rfl)
        . exact Qe z (.inr rfl)
      rcases hz with z | z
      . obtain ⟨c, q, _⟩ := cf2 x z
        exact ⟨c, q⟩
      . exact cf3 x z
    . refine ⟨Nat.ne_of_lt (Nat.lt_trans (fpLt b hb) hDlt), fpNe b hb⟩
    . rcases (hf b hb).2.2.2.1 with z | z
      . exact I.ok.noex b o e z
      . exact absurd (Nat.lt_of_lt_of_le (Heap.lt_size e) (Nat.le_trans I.ok.bsz z)) (Nat.lt_irrefl _)
    . rcases List.mem_cons.mp (I.stkSub b hz) with z | z
      . exact (hf b hb).2.1 z
      . exact (hf b hb).2.2.1 z
  have lenc : (YI n caps σ).length = (tns ++ caps.map (·.2)).length:=by unfold YI; simp [hn]
  have I1 : ∀ tk, Inv X' [] (YI n caps σ) H { s with heap:=h₁, toks:=tk }:=λtk=>by
    refine ⟨okX, rfl, I.bare, Un.kept old, ⟨_, hns₁, λi x v e1 e2 e3=>?_⟩, λx c e=>?_, I.hok.fresh (by rw [hD]; exact Nat.le_of_lt hDlt), λx c e=>?fc, λp hp=>absurd (show p ∈ ([] : List (Addr × Obj)) from hp) (by simp), I.hok.kept old, lenc⟩
    . have hi : n <= i:=by
        by_cases h : n <= i
        . exact h
        . have e2' : (YI n caps σ)[i]? = some (some v) := e2
          unfold YI at e2'
          rw [List.getElem?_append_left (by simp; lia), List.getElem?_replicate] at e2'
          split at e2' <;> cases e2'
      have e2' : (YI n caps σ)[i]? = some (some v):=e2
      unfold YI at e2'
      rw [List.getElem?_append_right (by simpa using hi), List.length_replicate, List.getElem?_map] at e2'
      have e1' : (tns ++ caps.map (·.2))[i]? = some x:=e1
      rw [List.getElem?_append_right (by rw [hn]; exact hi), hn, List.getElem?_map] at e1'
      cases hcp : caps[i - n]? with
      | none=>rw [hcp] at e2'; cases e2'
      | some p=>
        rw [hcp] at e2' e1'
        simp only [Option.map_some, Option.some.injEq] at e2' e1'
        have hp5:=ok5 p (List.mem_of_getElem? hcp)
        simp only [beq_iff_eq, Bool.or_eq_true] at hp5
        obtain ⟨⟨p1, p2⟩, p3⟩:=hp5
        have hσ : σ[p.1]? = some (some v):=by
          cases hq : σ[p.1]? with
          | none=>rw [hq] at e2'; cases e2'
          | some o=>rw [hq] at e2'; simp at e2'; rw [e2']
        subst e1'
        obtain ⟨m, hm, hl⟩:=I.loc
        obtain ⟨u, r, l⟩:=hl p.1 p.2 v p1 hσ (.inr p2)
        refine ⟨u, r, .inr ?_⟩
        rcases l with ⟨k, _⟩ | ⟨k, c, e, z⟩
        . have k' : X.env.scope.names.lookup p.2 = some .local := k
          rcases p2 with p2 | p2 <;> (rw [p2] at k'; cases k')
        . obtain ⟨c', e', e''⟩ := cf2 p.2 (PySem.mem_of_lookup p3)
          have:=hsub _ _ e''
          rw [e] at this; cases this
          obtain ⟨o, ho, hd⟩:=z
          exact ⟨Qm (env:=X.env) p3, c, e', ⟨o, old _ _ ho, hd⟩⟩
    . rcases hc₁ x c e with q | ⟨q, _⟩
      . obtain ⟨v, o, ho, hd⟩ := I.cell x c (hsub x c q)
        exact ⟨v, o, old _ _ ho, hd⟩
      . exact ⟨_, q⟩
    case fc=>
      rcases hc₁ x c e with q | ⟨_, q⟩
      . exact I.freeC x c (hsub x c q)
      . exact I.hok.fresh (by rw [hD]; lia)
  obtain ⟨hg, ht, he⟩:=hb cl' C s H fp X'.xe
  have fsLt : ∀ b ∈ X'.fs, b < D:=λb hb=>by
    obtain ⟨_, o, ho, _⟩:=I.stack.mem hb
    rw [← hD]; exact Heap.lt_size ho
  have aY : CAt X' fp D:=⟨hc, rfl, Nat.ne_of_lt hDlt, λhz=>absurd (fsLt _ hz) (Nat.lt_irrefl _), by show s.heap.objs.size <= D; lia, cellNe, λb hb=>Nat.ne_of_lt (fpLt b hb), λb hb H' h'=>⟨h', Nat.ne_of_lt (Nat.lt_trans (fpLt b hb) hDlt), okX.exfs b hb, .inl hb, fpNe b hb, λp hp=>Kr (α:=Addr × Obj) hp⟩⟩
  have loop : ∀ s₃ : Shared, (∃ tk, s₃ = { s with heap:=h₁, toks:=tk }) ->
      codeAny (model X.prog X.w) X.A (.compLoop (.ListComp elt [⟨tg, iter, ifs, 0⟩] scope pos) 0 (.ref it) (.ref D) (compEnvC scope cl' C X.env)) (RR (.ref D) C) s₃:=by
    rintro s₃ ⟨tk, rfl⟩
    exact VR (Y:=X') rfl T hG hg ht he aY (λj v e=>(Vc e).1) turn (λys its k H3 s4 I4 rv hz q=>hRR _ C ys H3 s4 (G2 I hf (Nat.le_of_eq hD) hDlt I4 I4.os I4.base I4.hok rfl rv hz) q)
      (.mk 0 H [] [] 0 ⟨I1 tk, hst₁, λb hb=>(hf b hb).1, hacc, I.hok.fresh (by rw [hD]; exact Nat.le_refl _)⟩ .nil w0)
  exact codeAny_compStart_list (loop _ ⟨_, rfl⟩) (T.self _ 0 _ _ _ hst₁ (loop _ ⟨_, rfl⟩))
theorem Bp (sc : Scope) (N0 : List Str) (tns : List Str) (caps : List (Nat × Str)) (hc : X.calm = true) (hi : PI X tg iter wi) (hG : Vx tns.length g)
    (hb : ∀ cl C s H ex E, PG (X.compN (tns ++ caps.map (·.2)) scope cl C s H ex E) tg g /\ PTs (X.compN (tns ++ caps.map (·.2)) scope cl C s H ex E) ifs tt /\ PE (X.compN (tns ++ caps.map (·.2)) scope cl C s H ex E) elt te)
    (hsc : X.env.scope = sc:=by rfl) (hN0 : X.N = N0:=by rfl) (ok : Va sc scope N0 tns caps = true:=by decide +kernel)
    (hs : ∀ x, foldedSetIterable iter X.env x = pure x:=by intro _; rfl) :
    PE X (.ListComp elt [⟨tg, iter, ifs, 0⟩] scope pos) (KC tns.length caps wi g tt te):=by
  intro pins s σ H Q I h
  have ok':=ok
  unfold Va at ok'
  simp only [Bool.and_eq_true, List.all_eq_true] at ok'
  obtain ⟨⟨⟨⟨ok1, ok2⟩, ok3⟩, ok4⟩, ok5⟩:=ok'
  obtain ⟨cl, ecl, hsub, hall⟩:=GA (scope:=scope) (env:=X.env) λx hx hfr=>by
    have:=ok4 x hx
    rw [hfr] at this
    have z : sc.names.lookup x.1 = some .cell ∨ sc.names.lookup x.1 = some .free:=by simpa using this
    exact I.ok.has x.1 (by show X.env.scope.names.lookup x.1 = _ ∨ X.env.scope.names.lookup x.1 = _; rw [hsc]; exact z)
  rw [eval_ListComp]
  refine wpAny_comprehension_free (use:=none) rfl hs ecl (by simpa using ok1) (λx hx hl=>by have:=ok3 x hx; rw [hl] at this; simpa using this) (thn (hi pins s σ H _ I h) λxv s₁ h₁=>thn h₁ λitv s₂ h₂=>?_)
  obtain ⟨it, fp, tn, J, H', rfl, I2, T, st2, f2, W, ⟨m0, w0⟩, turn⟩:=h₂
  refine K7 (RR:=λacc C=>compPost (model X.prog X.w) X.A X.xe none (EP X pins σ Q) acc C) hc hsc hN0 ok rfl hG hb I2 T st2 f2 hsub hall W w0 turn ?_
  intro D C ys H3 s' ce q
  obtain ⟨mm, hns⟩:=ce.ns
  refine ⟨mm, hns, λh' hs'=>⟨.ref D, _, ?_, rfl, q⟩⟩
  obtain ⟨c0, c1, c2, c3, c4, c5⟩:=ce.fp
  exact ce.inv.turned (t':=s'.toks) (λb o hb' e=>(hs'.extBut b o hb' e)) c0 c1 c3 c4 c5
end
theorem VC : ∀ (xs : List V) (us : List Value), xs.length = us.length -> (∀ (j : Nat) x u, xs[j]? = some x -> us[j]? = some u -> X7 x u) -> X5 xs us
  | [], [], _, _=>.nil
  | [], _ :: _, h, _=>by simp at h
  | _ :: _, [], h, _=>by simp at h
  | x :: xs, u :: us, h, r=>.cons (r 0 x u rfl rfl) (VC xs us (by simpa using h) λj y v e1 e2=>r (j + 1) y v (by simpa using e1) (by simpa using e2))
def G1 (ta : TA) : TE:=λσ H Q=>ta σ H λvs H1=>∃ j : Int, vs = [.int j] /\ 0 <= j /\ j <= 1000 /\ ∀ p, H1 p = none -> Q (.ref p) (upd H1 p (.lst ((List.range j.toNat).map λi=>V.int ((i : Nat) : Int))))
variable {X : Cx}
theorem Ky {e : Expr} {ta : TA} {p q q2 pos : Pos} (hc : X.calm = true) (hg : Gl X "list") (hg2 : Gl X "range") (hm : X.mg "list" = none) (hm2 : X.mg "range" = none) (ha : PA X [e] ta)
    (hs : starEach [.Call (.Name "range" q) [e] [] q2] X.env = [(false, eval (.Call (.Name "range" q) [e] [] q2) X.env)]:=by rfl) (hs2 : starEach [e] X.env = [(false, eval e X.env)]:=by rfl) :
    PE X (.Call (.Name "list" p) [.Call (.Name "range" q) [e] [] q2] [] pos) (G1 ta):=by
  intro pins s σ H Q I h
  refine wpAny_Call_Name_kw (Jm I hg hm PyProof.Rows.boot_list ?_)
  refine PyProof.Rows.callWith_type1 ?_ hs rfl
  rw [hs]
  show wpAny _ _ (spliced ((false, eval (.Call (.Name "range" q) [e] [] q2) X.env) :: backTo pos [])) _ _ s
  refine Calls.spliced_cons ?_
  refine wpAny_Call_Name_kw (Jm I hg2 hm2 boot_range ?_)
  refine PyProof.Rows.callWith_type1 (thn (ha q2 pins s σ H _ I h) λus s1 r9=>?_) hs2 rfl
  obtain ⟨vs, H1, I1, r1, q1⟩:=r9
  obtain ⟨j, e, h0, h1, k⟩:=q1
  subst e
  cases r1 with
  | cons r rr=>
    cases rr
    obtain ⟨t, rfl⟩:=r
    refine call_range_1 ?_
    refine Calls.spliced_nil ?_
    refine call_list_range (n:=j.toNat) (I.ok.hd hc) (IsRange.new ..) (small_one (by lia) (by lia) (by lia) (by lia)) (by rw [rangeSize_one]; split <;> lia) (by lia) λh' tk acc' c' hk hS hacc=>?_
    refine ⟨.ref _, _, I1.laid (h':=h') (t':=tk) (o:=.lst ((List.range j.toNat).map λi=>V.int ((i : Nat) : Int))) (λb o e=>hk b o (Qp _ e)) (by rw [Heap.size_push]; exact Nat.le_succ _) ?_, rfl, k _ (I1.hok.fresh (by rw [Heap.size_push]; exact Nat.le_succ _))⟩
    refine ⟨by rw [List.length_map, List.length_range]; exact Nat.le_of_lt (Dj (by lia)), acc'.toList, c', VC _ _ (by simp [hacc.1]) λi x u e1 e2=>?_, hS⟩
    have e2' : acc'[i]? = some u:=by simpa using e2
    obtain ⟨tk, rfl⟩:=hacc.2 i u e2'
    rw [List.getElem?_map] at e1
    cases e3 : (List.range j.toNat)[i]? with
    | none=>rw [e3] at e1; cases e1
    | some z=>
      rw [e3] at e1
      have hz : z = i:=by
        have hi : i < j.toNat:=by have:=(List.getElem?_eq_some_iff.mp e3).1; simpa using this
        rw [List.getElem?_range hi] at e3
        exact (Option.some.inj e3).symm
      subst hz
      have : x = V.int (z : Int):=(Option.some.inj e1).symm
      subst this
      exact ⟨tk, by simp⟩
theorem Zs {l : List Expr} {p : Pos} {es : List Expr} {env : Env} : starEach (.List l p :: es) env = (false, eval (.List l p) env) :: starEach es env:=rfl
theorem UP {X : Cx} {l : List Expr} {p : Pos} {es : List Expr} {te : TE} {t : TA} (ha : PE X (.List l p) te) (hr : PA X es t) : PA X (.List l p :: es) (Xr te t):=Xb ha hr Zs
variable {X : Cx} {o e : Expr} {es : List Expr} {to : TE} {t : TA} {name : Str} {apos cpos : Pos} {T id : String} {r : V -> List V -> Hp -> VK -> Prop}
end L2
namespace PySem
open PySem.Spec
namespace SeqAt
open MeetsSeq
theorem list_indexFrom (l : Addr) (items : Array Value) (n : Nat) (dd : Option Addr) (sl : Array (Option Value)) (x : Value) (e : Value -> Bool) (k : Nat) (t : Tok) (j : Nat) (hk : k <= j) (hj : j < items.size) (hsmall : (j : Int) < 2 ^ 63 - 1)
    (hit : e items[j] = true) (hno : ∀ m (hm : m < items.size), k <= m -> m < j -> e items[m] = false) :
    Meets (Builtin.«list.index» ⟨[.ref l, x, .int (k : Int) t], []⟩)
      (λA R s=>s.heap.get? l = some { cls:=.type "list", dict:=dd, data:=.seq items n, slots:=sl } /\ (∀ y, y ∈ items -> EqAt A.in1 s y x (e y)) /\ R (.ok (.ret (.int j s.toks))) { s with toks:=s.toks + 1 }):=by
  intro prog w A R s h
  obtain ⟨hp, g, d, tk, os⟩:=s; obtain ⟨hl, he, h⟩:=h
  wp_walk using wpAny_loadPart' hl
  have a1 : ((λi : Int=>if i < 0 then max 0 (i + (items.size : Int)) else i) ((some (k : Int)).getD 0)) = ((k : Nat) : Int):=by
    show (if (k : Int) < 0 then max 0 ((k : Int) + (items.size : Int)) else (k : Int)) = _
    rw [if_neg (by lia)]
  have a2 : ((λi : Int=>if i < 0 then max 0 (i + (items.size : Int)) else i) ((none : Option Int).getD (2 ^ 63 - 1))) = 2 ^ 63 - 1:=by simp
  rw [a1, a2]
  exact ⟨plainId_quiet plain_index_loop _, codeAny_builtin entry_index_loop (by
    rw [Around.under_plainId plain_index_loop _]
    exact index_loopAt l items n dd sl x e (2 ^ 63 - 1) j hj hsmall hit _ k rfl hk (λm hm h1 h2=>hno m hm h1 h2) prog w A R _ ⟨hl, he, h⟩)⟩
end SeqAt
end PySem
namespace L2
open PySem PySem.Spec PyProof.Rows
def Db (K : Fgg) : V -> List V -> Hp -> VK -> Prop:=λx vs H Q=>∃ l xs y, ∃ k j : Nat, ∃ kk : Int, x = .ref l /\ vs = [y, .int kk] /\ kk = (k : Int) /\ SqL K H l xs /\ Ju y = true /\ xs.all Ju = true /\ k <= j /\ (∃ z, xs[j]? = some z /\ eqV z y = true) /\ (∀ (m : Nat) z, k <= m -> m < j -> xs[m]? = some z -> eqV z y = false) /\ Q (.int (j : Int)) H
section
variable {X : Cx}
theorem Cn : MtR X "list.index" (Db X.K):=by
  intro pins s σ H x vs v us Q I rx rv h
  obtain ⟨l, xs, y, k, j, kk, rfl, rfl, rfl, hq, fy, fs, hkj, ⟨z, hz, ez⟩, hm, q⟩:=h
  cases rx
  obtain ⟨u, u2, rfl, ry, rk⟩:=X5.two rv
  obtain ⟨t, rfl⟩:=rk
  obtain ⟨its, r, pl, hle⟩:=I.list hq
  have hl:=r.length
  have hjl:=(List.getElem?_eq_some_iff.mp hz).1
  have ge : ∀ (m : Nat) (w : V), xs[m]? = some w -> ∀ hm : m < its.toArray.size, eqU y its.toArray[m] = eqV w y:=λm w hw hm=>by
    obtain ⟨u', hu', ru'⟩:=r.get hw
    have e : its.toArray[m] = u':=by
      have:=(List.getElem?_eq_some_iff.mp hu').2
      simpa using this
    rw [e]
    exact DU ru' (List.all_eq_true.mp fs w (List.mem_of_getElem? hw))
  obtain ⟨o, n, ho, hc, hd, hs⟩:=id pl
  obtain ⟨cls, dict, data, slots⟩:=o
  cases hc; cases hd; cases hs
  refine call_meets F.slot_list_index ⟨_, ho, rfl⟩ F.entry_list_index (F.args_list_index_3 _ _ _) (SeqAt.list_indexFrom l its.toArray n none slots u (eqU y) k t j hkj (by rw [List.size_toArray]; lia) ?_ ?_ ?_) ⟨ho, λw hw=>Qz ry fy r fs w (by simpa using hw), ?_⟩
  . have : sizeLine < 2 ^ 63 - 1 := by decide
    lia
  . rw [ge j z hz]; exact ez
  . intro m hm' hle1 hlt
    rw [ge m xs[m] (List.getElem?_eq_getElem (by lia))]
    exact hm m _ hle1 hlt (List.getElem?_eq_getElem (by lia))
  . exact ⟨.int (j : Int), H, I.tok _, ⟨_, rfl⟩, q⟩
end
def Ny (K : Fgg) : List V -> Hp -> VK -> Prop:=λxs H Q=>∃ (a : Addr) (bs : List Bool), xs = [.ref a] /\ SqL K H a (bs.map V.bl) /\ Q (.bl (bs.all id)) H
section
variable {X : Cx}
theorem Mh : ∀ (bs : List Bool), ((List.range bs.length).all λi=>(bs[i]?).getD true) = bs.all id:=λbs=>by
  rw [Bool.eq_iff_iff, List.all_eq_true, List.all_eq_true]
  constructor
  . intro h b hb
    obtain ⟨i, hi, rfl⟩:=List.getElem_of_mem hb
    have:=h i (List.mem_range.mpr hi)
    simpa [List.getElem?_eq_getElem hi] using this
  . intro h i hi
    have hi':=List.mem_range.mp hi
    simpa [List.getElem?_eq_getElem hi'] using h _ (List.getElem_mem hi')
theorem JZ (hc : X.calm = true) : Qf X (.builtin "all") (Ny X.K):=by
  intro pins s σ H xs us Q I r h
  obtain ⟨a, bs, rfl, hq, q⟩:=h
  obtain ⟨u, rfl, ru⟩:=VL r
  cases ru
  obtain ⟨its, rv, pl, hz⟩:=I.list hq
  have hlen : bs.length = its.length:=by have:=rv.length; rwa [List.length_map] at this
  have hlt : a < s.heap.objs.size:=by obtain ⟨o, n, ho, _⟩:=pl; exact Heap.lt_size ho
  refine call_all_walk (wpAny_pyIter_list pl.isList ?_)
  refine ⟨s.heap.objs.size, [s.heap.objs.size, a], [s.heap.objs.size], its.toArray.size, _, _, λi=>(bs[i]?).getD true, rfl, Walks.list (A:=X.A.in1) (I.ok.hd hc) _ a (Nat.ne_of_lt hlt) its.toArray,
    ⟨⟨_, Heap.get?_push_size _ rfl, rfl, rfl⟩, pl.isList.at λo e=>Qp _ e⟩, λi v s' Q' E' hP hQ=>?_, λh' tk hk=>?_⟩
  . have hv' : its[i]? = some v := by simpa using hP
    obtain ⟨x, ex, rx⟩:=GB rv hv'
    rw [List.getElem?_map] at ex
    cases e : bs[i]? with
    | none=>rw [e] at ex; cases ex
    | some z=>
      rw [e] at ex
      have ex' : V.bl z = x:=Option.some.inj ex
      subst ex'
      cases rx
      simp only [e, Option.getD_some] at hQ
      exact wpAny_truthy_bool hQ
  . have e : ((List.range its.toArray.size).all λi=>(bs[i]?).getD true) = bs.all id:=by
      rw [List.size_toArray, ← hlen]; exact Mh bs
    rw [e]
    have I2 : Inv X pins σ H { s with heap:=h', toks:=tk }:=I.kept (t':=tk) λb o e=>hk b o (λhm=>by
      rw [List.mem_singleton.mp hm] at e
      exact absurd (Heap.lt_size e) (Nat.lt_irrefl _)) (Qp _ e)
    exact ⟨.bl (bs.all id), H, I2, rfl, q⟩
end
section
variable {X : Cx} {α : Type} [DecidableEq α] {r : Enc α} {d : Nat}
end
section
variable {X : Cx}
end
section
variable {X : Cx}
theorem UA (K : Fgg) (h : X.K = K) : OpR X (compareOp .NotIn) (rIn K true):=by subst h; exact Ji
variable {T : String} {name : Str} {id : String} {r : V -> List V -> Hp -> VK -> Prop} {o e : Expr} {es : List Expr} {to : TE} {t : TA} {apos cpos : Pos}
end
section
variable {X : Cx} {elt tg iter : Expr} {ifs : List Expr} {scope : Scope} {pos : Pos} {wi : TI} {g : TG} {tt : TT} {te : TE}
theorem G4 {sc : Scope} {N0 : List Str} {tns : List Str} {caps : List (Nat × Str)} (hc : X.calm = true) (hi : PI X tg iter wi) (hG : Vx tns.length g)
    (hb : ∀ cl C s H ex E, PG (X.compN (tns ++ caps.map (·.2)) scope cl C s H ex E) tg g /\ PTs (X.compN (tns ++ caps.map (·.2)) scope cl C s H ex E) ifs tt /\ PE (X.compN (tns ++ caps.map (·.2)) scope cl C s H ex E) elt te)
    (hsc : X.env.scope = sc:=by rfl) (hN0 : X.N = N0:=by rfl) (ok : Va sc scope N0 tns caps = true:=by decide +kernel)
    (hs : ∀ x, foldedSetIterable iter X.env x = pure x:=by intro _; rfl) :
    PE X (.ListComp elt [⟨tg, iter, ifs, 0⟩] scope pos) (KC tns.length caps wi g tt te):=Bp sc N0 tns caps hc hi hG hb hsc hN0 ok hs
theorem Yz {sc : Scope} {N0 : List Str} {tns : List Str} {caps : List (Nat × Str)} (hc : X.calm = true) (hi : PI X tg iter wi) (hG : Vx tns.length g)
    (hb : ∀ cl C s H ex E, PG (X.comp (tns ++ caps.map (·.2)) scope cl C s H ex E) tg g /\ PTs (X.comp (tns ++ caps.map (·.2)) scope cl C s H ex E) ifs tt /\ PE (X.comp (tns ++ caps.map (·.2)) scope cl C s H ex E) elt te)
    (hsc : X.env.scope = sc:=by rfl) (hN0 : X.N = N0:=by rfl) (ok : U8 sc scope N0 tns caps = true:=by decide +kernel)
    (hs : ∀ x, foldedSetIterable iter X.env x = pure x:=by intro _; rfl) :
    PE X (.ListComp elt [⟨tg, iter, ifs, 0⟩] scope pos) (KC tns.length caps wi g tt te):=Hi sc N0 tns caps hc hi hG hb hsc hN0 ok hs
end
section
variable {X : Cx} {tg l : Expr} {tl : TE} {p pos : Pos} {K : Fgg}
theorem Yb (h : X.K = K) (hl : PE X l tl) : PI X tg l (F1 K tl):=by subst h; exact Hu hl
theorem Hn (h : X.K = K) (hl : PE X l tl) : PI X tg l (MO K tl):=by subst h; exact L7 hl
end
section
variable {X : Cx}
end
inductive Pay where
  | non | int (i : Int) | tag (t : Str) (xs : List Int)
  deriving DecidableEq
structure Exc where
  cls : Str
  pay : Pay
inductive Rs (α : Type) where
  | bad | err (x : Exc) | ok (a : α)
def Rs.bind {α β : Type} : Rs α -> (α -> Rs β) -> Rs β
  | .bad, _=>.bad
  | .err x, _=>.err x
  | .ok a, f=>f a
theorem Rs.ok_bind {α β : Type} (a : α) (f : α -> Rs β) : (Rs.ok a).bind f = f a:=rfl
def chk {α : Type} (c : Prop) [Decidable c] (m : Rs α) : Rs α:=if c then m else .bad
theorem XG {α : Type} {c : Prop} [Decidable c] {m : Rs α} (h : c) : chk c m = m:=if_pos h
abbrev Xz:=Addr × HO
def IH : HO -> Bool
  | .lst _=>true
  | .dK _=>true
  | .dT _=>true
  | _=>false
def fl (OO : List (List Xz)) : List Addr:=OO.flatten.map (·.1)
open Classical in
noncomputable def hid (H : Hp) (OO : List (List Xz)) : Hp:=λb=>if b ∈ fl OO then none else H b
structure W (OO : List (List Xz)) (H : Hp) : Prop where
  tr : ∀ c ∈ OO.flatten, H c.1 = some c.2
  nd : (fl OO).Nodup
  mu : ∀ c ∈ OO.flatten, IH c.2 = true
theorem X6 {H : Hp} {OO} {b : Addr} {o : HO} (h : hid H OO b = some o) : H b = some o /\ b ∉ fl OO:=by
  unfold hid at h
  split at h
  . cases h
  . exact ⟨h, by assumption⟩
theorem Y9 {H : Hp} {OO} {b : Addr} {o : HO} (h : H b = some o) (n : b ∉ fl OO) : hid H OO b = some o:=by
  unfold hid; rw [if_neg n]; exact h
theorem Xv {H : Hp} {OO} : Xp (hid H OO) H:=λb o h=>(X6 h).1
theorem Xj {H H' : Hp} {OO} (s : Xp H H') : Xp (hid H OO) (hid H' OO):=λb o h=>Y9 (s _ _ (X6 h).1) (X6 h).2
theorem Zg {H H' : Hp} {OO OO'} (s : Xp H H') (h : ∀ b, b ∈ fl OO' -> b ∈ fl OO) : Xp (hid H OO) (hid H' OO'):=λb o q=>Y9 (s _ _ (X6 q).1) λz=>(X6 q).2 (h b z)
theorem XU {C : List Xz} {OO} : fl (C :: OO) = C.map (·.1) ++ fl OO:=by simp [fl]
theorem DZ {OO} : fl ([] :: OO) = fl OO:=by simp [fl]
theorem YC {H : Hp} {OO} : hid H ([] :: OO) = hid H OO:=by unfold hid; rw [DZ]
theorem W.keep {OO} {H H' : Hp} (w : W OO H) (s : Xp H H') : W OO H':=⟨λc hc=>s _ _ (w.tr c hc), w.nd, w.mu⟩
theorem W.of {OO OO' : List (List Xz)} {H : Hp} (w : W OO H) (h : OO'.flatten.Perm OO.flatten) : W OO' H:=
  ⟨λc hc=>w.tr c (h.mem_iff.mp hc), (h.map _).nodup_iff.mpr w.nd, λc hc=>w.mu c (h.mem_iff.mp hc)⟩
theorem W.sub {OO OO' : List (List Xz)} {H : Hp} (w : W OO H) (h : OO'.flatten.Sublist OO.flatten) : W OO' H:=
  ⟨λc hc=>w.tr c (h.mem hc), (h.map _).nodup w.nd, λc hc=>w.mu c (h.mem hc)⟩
theorem W.tail {C OO} {H : Hp} (w : W (C :: OO) H) : W OO H:=w.sub (by simp)
theorem W.nil {OO} {H : Hp} (w : W OO H) : W ([] :: OO) H:=w.of (by simp)
theorem W.cell {C OO} {H : Hp} (w : W (C :: OO) H) : ∀ c ∈ C, H c.1 = some c.2:=λc hc=>w.tr c (by simp [hc])
theorem V6 {OO : List (List Xz)} {c : Xz} (h : c ∈ OO.flatten) : c.1 ∈ fl OO:=List.mem_map.mpr ⟨c, h, rfl⟩
theorem Ft {OO : List (List Xz)} {b : Addr} (h : b ∈ fl OO) : ∃ o, (b, o) ∈ OO.flatten:=by
  obtain ⟨⟨a, o⟩, hc, rfl⟩:=List.mem_map.mp h
  exact ⟨o, hc⟩
theorem W.fresh {OO} {H : Hp} (w : W OO H) {p : Addr} (h : H p = none) : p ∉ fl OO:=λz=>by
  obtain ⟨o, ho⟩:=Ft z
  have:=w.tr _ ho
  rw [h] at this; cases this
theorem W.new {OO} {H : Hp} (w : W OO H) {p : Addr} (h : H p = none) {o : HO} (m : IH o = true) : W ([(p, o)] :: OO) (upd H p o):=by
  have hf:=w.fresh h
  refine ⟨λc hc=>?_, ?_, λc hc=>?_⟩
  . simp only [List.flatten_cons, List.cons_append, List.nil_append, List.mem_cons] at hc
    rcases hc with rfl | hc
    . exact Yp
    . rw [XI (λe=>hf (by rw [← e]; exact V6 hc))]; exact w.tr c hc
  . rw [XU]; simpa using ⟨hf, w.nd⟩
  . simp only [List.flatten_cons, List.cons_append, List.nil_append, List.mem_cons] at hc
    rcases hc with rfl | hc
    . exact m
    . exact w.mu c hc
theorem UT {OO} {H : Hp} {p : Addr} (h : H p = none) {o : HO} : Xp (hid H OO) (hid (upd H p o) ([(p, o)] :: OO)):=λb u q=>by
  obtain ⟨q1, q2⟩:=X6 q
  have hb : b ≠ p:=XL q1 h
  refine Y9 (by rw [XI hb]; exact q1) ?_
  rw [XU]; simpa using ⟨hb, q2⟩
theorem Qv {OO} {H : Hp} (w : W OO H) {p : Addr} (h : H p = none) {o : HO} : hid (upd H p o) OO p = some o:=Y9 Yp (w.fresh h)
class MonoE {α : Type} (r : Enc α) : Prop where
  mono : ∀ {K : Fgg} {H H' : Hp} {v : V} {a : α}, Xp H H' -> r K H v a -> r K H' v a
def Ng : HO -> Bool
  | .tup _=>true
  | .frz _ _=>true
  | _=>false
def VH (H H' : Hp) : Prop:=∀ b o, H b = some o -> Ng o = true -> H' b = some o
theorem Xp.i {H H' : Hp} (s : Xp H H') : VH H H':=λb o h _=>s b o h
theorem W.i {OO} {H : Hp} (w : W OO H) : VH H (hid H OO):=λb o h i=>Y9 h λz=>by
  obtain ⟨u, hu⟩:=Ft z
  have h1:=w.tr _ hu
  have h2:=w.mu _ hu
  rw [h] at h1
  have e : o = u:=Option.some.inj h1
  subst e
  revert i h2; cases o <;> simp [Ng, IH]
theorem VH.trans {H H1 H2 : Hp} (a : VH H H1) (b : VH H1 H2) : VH H H2:=λc o h i=>b c o (a c o h i) i
class FlatE {α : Type} (r : Enc α) : Prop where
  flat : ∀ {K : Fgg} {H H' : Hp} {v : V} {a : α}, VH H H' -> r K H v a -> r K H' v a
instance {α : Type} {r : Enc α} [f : FlatE r] : MonoE r:=⟨λs h=>f.flat s.i h⟩
def XR : Enc Bool:=λ_ _ v b=>v = .bl b
def ZB {α : Type} (r : Enc α) : Enc (Option α):=λK H v a=>match a with
  | none=>v = .non
  | some a=>v ≠ .non /\ r K H v a
def rV {α : Type} (r : Enc α) : Enc (List α):=λK H v as=>∃ a xs, v = .ref a /\ H a = some (.lst xs) /\ Paired (r K H) xs as
def rPL {α : Type} (r : Enc α) : Enc (List α):=λK H v as=>∃ a xs, v = .ref a /\ H a = some (.tup xs) /\ Paired (r K H) xs as
def rP2 {α β : Type} (r : Enc α) (q : Enc β) : Enc (α × β):=λK H v p=>∃ a x y, v = .ref a /\ H a = some (.tup [x, y]) /\ r K H x p.1 /\ q K H y p.2
def rP3 {α β γ : Type} (r : Enc α) (q : Enc β) (t : Enc γ) : Enc (α × β × γ):=λK H v p=>∃ a x y z, v = .ref a /\ H a = some (.tup [x, y, z]) /\ r K H x p.1 /\ q K H y p.2.1 /\ t K H z p.2.2
instance {α : Type} {r : Enc α} [m : MonoE r] : MonoE (rV r):=⟨λs r9=>by obtain ⟨a, xs, e, q, p⟩:=r9; exact ⟨a, xs, e, s _ _ q, Paired.imp2 (λ_ _ z=>m.mono s z) p⟩⟩
instance {α : Type} {r : Enc α} [m : MonoE r] : MonoE (rPL r):=⟨λs r9=>by obtain ⟨a, xs, e, q, p⟩:=r9; exact ⟨a, xs, e, s _ _ q, Paired.imp2 (λ_ _ z=>m.mono s z) p⟩⟩
instance {α : Type} {r : Enc α} [m : FlatE r] : FlatE (rPL r):=⟨λs r9=>by obtain ⟨a, xs, e, q, p⟩:=r9; exact ⟨a, xs, e, s _ _ q rfl, Paired.imp2 (λ_ _ z=>m.flat s z) p⟩⟩
instance {α β : Type} {r : Enc α} {q : Enc β} [m : MonoE r] [n : MonoE q] : MonoE (rP2 r q):=⟨λs r9=>by obtain ⟨a, x, y, e, h, p1, p2⟩:=r9; exact ⟨a, x, y, e, s _ _ h, m.mono s p1, n.mono s p2⟩⟩
instance {α β : Type} {r : Enc α} {q : Enc β} [m : FlatE r] [n : FlatE q] : FlatE (rP2 r q):=⟨λs r9=>by obtain ⟨a, x, y, e, h, p1, p2⟩:=r9; exact ⟨a, x, y, e, s _ _ h rfl, m.flat s p1, n.flat s p2⟩⟩
instance {α β γ : Type} {r : Enc α} {q : Enc β} {t : Enc γ} [m : MonoE r] [n : MonoE q] [k : MonoE t] : MonoE (rP3 r q t):=⟨λs r9=>by obtain ⟨a, x, y, z, e, h, p1, p2, p3⟩:=r9; exact ⟨a, x, y, z, e, s _ _ h, m.mono s p1, n.mono s p2, k.mono s p3⟩⟩
instance {α β γ : Type} {r : Enc α} {q : Enc β} {t : Enc γ} [m : FlatE r] [n : FlatE q] [k : FlatE t] : FlatE (rP3 r q t):=⟨λs r9=>by obtain ⟨a, x, y, z, e, h, p1, p2, p3⟩:=r9; exact ⟨a, x, y, z, e, s _ _ h rfl, m.flat s p1, n.flat s p2, k.flat s p3⟩⟩
instance : FlatE Xa:=⟨λ_ h=>h⟩
instance : FlatE XR:=⟨λ_ h=>h⟩
instance {α : Type} {r : Enc α} [m : MonoE r] : MonoE (rL r):=⟨λs r9=>by obtain ⟨a, xs, e, q, p⟩:=r9; exact ⟨a, xs, e, s.seq q, Paired.imp2 (λ_ _ z=>m.mono s z) p⟩⟩
instance {α : Type} {r : Enc α} [m : MonoE r] : MonoE (ZB r):=⟨fun {K H H' v a} s h=>by cases a with
  | none=>exact h
  | some a=>exact ⟨h.1, m.mono s h.2⟩⟩
instance {α : Type} {r : Enc α} [m : FlatE r] : FlatE (ZB r):=⟨fun {K H H' v a} s h=>by cases a with
  | none=>exact h
  | some a=>exact ⟨h.1, m.flat s h.2⟩⟩
abbrev OE (α : Type):=Fgg -> Hp -> V -> α -> List Xz -> Prop
inductive P3 {α β γ : Type} (F : α -> β -> γ -> Prop) : List α -> List β -> List γ -> Prop where
  | nil : P3 F [] [] []
  | cons {a b c l m n} : F a b c -> P3 F l m n -> P3 F (a :: l) (b :: m) (c :: n)
def oF {α : Type} (r : Enc α) : OE α:=λK h v a C=>C = [] /\ r K h v a
def oL {α : Type} (o : OE α) : OE (List α):=λK h v as C=>∃ p xs Cs, v = .ref p /\ P3 (o K h) xs as Cs /\ C = (p, .lst xs) :: Cs.flatten
def oT2 {α β : Type} (o : OE α) (q : OE β) : OE (α × β):=λK h v a C=>∃ p x y C1 C2, v = .ref p /\ h p = some (.tup [x, y]) /\ o K h x a.1 C1 /\ q K h y a.2 C2 /\ C = C1 ++ C2
def VZ {α : Type} (o : OE α) : OE (Option α):=λK h v a C=>match a with
  | none=>v = .non /\ C = []
  | some a=>v ≠ .non /\ o K h v a C
section
variable {α β γ δ : Type}
theorem P3.imp {F G : α -> β -> γ -> Prop} (h : ∀ a b c, F a b c -> G a b c) : ∀ {l m n}, P3 F l m n -> P3 G l m n:=λp=>by
  induction p with
  | nil=>exact .nil
  | cons r _ ih=>exact .cons (h _ _ _ r) ih
theorem P3.app {F : α -> β -> γ -> Prop} : ∀ {l m n l' m' n'}, P3 F l m n -> P3 F l' m' n' -> P3 F (l ++ l') (m ++ m') (n ++ n'):=λp h=>by
  induction p with
  | nil=>exact h
  | cons r _ ih=>exact .cons r ih
theorem P3.snoc {F : α -> β -> γ -> Prop} {l m n a b c} (h : P3 F l m n) (r : F a b c) : P3 F (l ++ [a]) (m ++ [b]) (n ++ [c]):=h.app (.cons r .nil)
theorem P3.len {F : α -> β -> γ -> Prop} : ∀ {l m n}, P3 F l m n -> l.length = m.length /\ n.length = m.length:=λp=>by
  induction p with
  | nil=>exact ⟨rfl, rfl⟩
  | cons _ _ ih=>exact ⟨congrArg Nat.succ ih.1, congrArg Nat.succ ih.2⟩
theorem P3.pair {F : α -> β -> γ -> Prop} {G : α -> β -> Prop} : ∀ {l m n}, P3 F l m n -> (∀ a b c, c ∈ n -> F a b c -> G a b) -> Paired G l m:=λp h=>by
  induction p with
  | nil=>exact .nil
  | cons r _ ih=>exact .cons (h _ _ _ Zq r) (ih λa b c hc=>h a b c (ZP _ hc))
theorem P3.get {F : α -> β -> γ -> Prop} : ∀ {l m n} {i : Nat} {b : β}, P3 F l m n -> m[i]? = some b -> ∃ a c, l[i]? = some a /\ n[i]? = some c /\ F a b c
  | _, _, _, _, _, .nil, e=>by simp at e
  | _, _, _, 0, _, .cons r _, e=>by simp at e; subst e; exact ⟨_, _, rfl, rfl, r⟩
  | _, _, _, i + 1, b, .cons _ t, e=>by
    obtain ⟨a, c, h1, h2, h3⟩:=P3.get (i:=i) (b:=b) t (by simpa using e)
    exact ⟨a, c, by simpa using h1, by simpa using h2, h3⟩
theorem P3.set {F : α -> β -> γ -> Prop} {a : α} {b : β} {c : γ} (r : F a b c) : ∀ {l m n} (i : Nat), P3 F l m n -> P3 F (l.set i a) (m.set i b) (n.set i c)
  | _, _, _, _, .nil=>.nil
  | _, _, _, 0, .cons _ t=>.cons r t
  | _, _, _, i + 1, .cons q t=>.cons q (P3.set r i t)
theorem P3.flat {F : α -> β -> Prop} : ∀ {l : List α} {m : List β} {n : List (List Xz)}, P3 (λa b c=>c = [] /\ F a b) l m n -> Paired F l m /\ n.flatten = []:=λp=>by
  induction p with
  | nil=>exact ⟨.nil, rfl⟩
  | cons r _ ih=>exact ⟨.cons r.2 ih.1, by rw [List.flatten_cons, r.1, ih.2]; rfl⟩
theorem P3.of {F : α -> β -> Prop} : ∀ {l : List α} {m : List β}, Paired F l m -> P3 (λa b (c : List Xz)=>c = [] /\ F a b) l m (List.replicate m.length [])
  | _, _, .nil=>.nil
  | _, _, .cons r t=>.cons ⟨rfl, r⟩ (P3.of t)
theorem Yj : ∀ n : Nat, (List.replicate n ([] : List Xz)).flatten = []
  | 0=>rfl
  | n + 1=>by simp [List.replicate_succ, Yj n]
end
class MonoO {α : Type} (o : OE α) : Prop where
  mono : ∀ {K : Fgg} {H H' : Hp} {v : V} {a : α} {C : List Xz}, Xp H H' -> o K H v a C -> o K H' v a C
class FlatO {α : Type} (o : OE α) : Prop where
  flat : ∀ {K : Fgg} {H H' : Hp} {v : V} {a : α} {C : List Xz}, VH H H' -> o K H v a C -> o K H' v a C
class FrzC {α : Type} (o : OE α) (r : outParam (Enc α)) : Prop where
  frz : ∀ {K : Fgg} {H H' : Hp} {v : V} {a : α} {C : List Xz}, o K H v a C -> Xp H H' -> (∀ c ∈ C, H' c.1 = some c.2) -> r K H' v a
instance {α : Type} {r : Enc α} [m : MonoE r] : MonoO (oF r):=⟨λs h=>⟨h.1, m.mono s h.2⟩⟩
instance {α : Type} {r : Enc α} [m : FlatE r] : FlatO (oF r):=⟨λs h=>⟨h.1, m.flat s h.2⟩⟩
instance {α : Type} {r : Enc α} [m : MonoE r] : FrzC (oF r) r:=⟨λh s _=>m.mono s h.2⟩
instance {α : Type} {o : OE α} [m : MonoO o] : MonoO (oL o):=⟨λs r9=>by obtain ⟨p, xs, Cs, e, q, c⟩:=r9; exact ⟨p, xs, Cs, e, q.imp λ_ _ _ z=>m.mono s z, c⟩⟩
instance {α : Type} {o : OE α} [m : FlatO o] : FlatO (oL o):=⟨λs r9=>by obtain ⟨p, xs, Cs, e, q, c⟩:=r9; exact ⟨p, xs, Cs, e, q.imp λ_ _ _ z=>m.flat s z, c⟩⟩
instance {α : Type} {o : OE α} {r : Enc α} [m : FrzC o r] : FrzC (oL o) (rV r):=⟨λ⟨p, xs, Cs, e, q, c⟩ s hc=>by
  subst c
  exact ⟨p, xs, e, hc _ Zq, q.pair λa b c hm z=>m.frz z s λx hx=>hc x (ZP _ (List.mem_flatten.mpr ⟨c, hm, hx⟩))⟩⟩
instance {α β : Type} {o : OE α} {q : OE β} [m : MonoO o] [n : MonoO q] : MonoO (oT2 o q):=⟨λs r9=>by obtain ⟨p, x, y, C1, C2, e, h, h1, h2, c⟩:=r9; exact ⟨p, x, y, C1, C2, e, s _ _ h, m.mono s h1, n.mono s h2, c⟩⟩
instance {α β : Type} {o : OE α} {q : OE β} [m : FlatO o] [n : FlatO q] : FlatO (oT2 o q):=⟨λs r9=>by obtain ⟨p, x, y, C1, C2, e, h, h1, h2, c⟩:=r9; exact ⟨p, x, y, C1, C2, e, s _ _ h rfl, m.flat s h1, n.flat s h2, c⟩⟩
instance {α β : Type} {o : OE α} {q : OE β} {r : Enc α} {t : Enc β} [m : FrzC o r] [n : FrzC q t] : FrzC (oT2 o q) (rP2 r t):=⟨λ⟨p, x, y, C1, C2, e, h, h1, h2, c⟩ s hc=>by
  subst c
  exact ⟨p, x, y, e, s _ _ h, m.frz h1 s λc hm=>hc c (by simp [hm]), n.frz h2 s λc hm=>hc c (by simp [hm])⟩⟩
instance {α : Type} {o : OE α} [m : MonoO o] : MonoO (VZ o):=⟨fun {K H H' v a C} s h=>by cases a with
  | none=>exact h
  | some a=>exact ⟨h.1, m.mono s h.2⟩⟩
instance {α : Type} {o : OE α} [m : FlatO o] : FlatO (VZ o):=⟨fun {K H H' v a C} s h=>by cases a with
  | none=>exact h
  | some a=>exact ⟨h.1, m.flat s h.2⟩⟩
instance {α : Type} {o : OE α} {r : Enc α} [m : FrzC o r] : FrzC (VZ o) (ZB r):=⟨fun {K H H' v a C} h s hc=>by cases a with
  | none=>exact h.1
  | some a=>exact ⟨h.1, m.frz h.2 s hc⟩⟩
structure SC where
  p : Hp -> Prop
  mono : ∀ h h', Xp h h' -> p h -> p h'
def SC.nil : SC:=⟨λ_=>True, λ_ _ _ _=>True.intro⟩
def SC.and (S T : SC) : SC:=⟨λh=>S.p h /\ T.p h, λ_ _ s q=>⟨S.mono _ _ s q.1, T.mono _ _ s q.2⟩⟩
def SC.one {α : Type} (K : Fgg) (r : Enc α) [m : MonoE r] (v : V) (a : α) : SC:=⟨λh=>r K h v a, λ_ _ s q=>m.mono s q⟩
def SC.oneO {α : Type} (K : Fgg) (o : OE α) [m : MonoO o] (v : V) (a : α) (C : List Xz) : SC:=⟨λh=>o K h v a C, λ_ _ s q=>m.mono s q⟩
abbrev SC.add {α : Type} (S : SC) (K : Fgg) (r : Enc α) [m : MonoE r] (v : V) (a : α) : SC:=S.and (SC.one K r v a)
abbrev SC.addO {α : Type} (S : SC) (K : Fgg) (o : OE α) [m : MonoO o] (v : V) (a : α) (C : List Xz) : SC:=S.and (SC.oneO K o v a C)
theorem SC.l {S T : SC} {h : Hp} (q : (S.and T).p h) : S.p h:=q.1
theorem SC.r {S T : SC} {h : Hp} (q : (S.and T).p h) : T.p h:=q.2
theorem SC.i {S T : SC} {h : Hp} (q : S.p h) (p : T.p h) : (S.and T).p h:=⟨q, p⟩
theorem SC.t {h : Hp} : SC.nil.p h:=True.intro
theorem SC.p.l {S T : SC} {h : Hp} (q : (S.and T).p h) : S.p h:=q.1
theorem SC.p.r {S T : SC} {h : Hp} (q : (S.and T).p h) : T.p h:=q.2
def PZ {β : Type} (Er : Exc -> Hp -> Prop) (F : β -> Hp -> Prop) (H : Hp) (m : Rs β) : Prop:=
  match m with
  | .bad=>False
  | .err x=>∀ H', Xp H H' -> Er x H'
  | .ok b=>F b H
section
variable (K : Fgg) (Er : Exc -> Hp -> Prop) (S : SC) (OO OO' : List (List Xz)) (σ : St)
def FB {α : Type} (r : Enc α) (Q : VK) (a : α) (H : Hp) : Prop:=∀ v H', Xp H H' -> r K H' v a -> Q v H'
def FO {α : Type} (o : OE α) (Q : VK) (a : α) (H : Hp) : Prop:=∀ v C H', Xp H H' -> W (C :: OO') H' -> Xp (hid H OO) (hid H' (C :: OO')) -> o K (hid H' (C :: OO')) v a C -> Q v H'
def FT (Q : Bool -> Hp -> Prop) (b : Bool) (H : Hp) : Prop:=∀ H', Xp H H' -> Q b H'
def EvB {α : Type} (te : TE) (r : Enc α) (m : Rs α) : Prop:=∀ H Q, W OO H -> S.p (hid H OO) -> PZ Er (FB K r Q) H m -> te σ H Q
def Ev {α : Type} (te : TE) (o : OE α) (m : Rs α) : Prop:=∀ H Q, W OO H -> S.p (hid H OO) -> PZ Er (FO K OO OO' o Q) H m -> te σ H Q
def EvT (tt : TT) (m : Rs Bool) : Prop:=∀ H Q, W OO H -> S.p (hid H OO) -> PZ Er (FT Q) H m -> tt σ H Q
end
section
variable {K : Fgg} {Er : Exc -> Hp -> Prop} {S : SC} {OO OO' OO2 : List (List Xz)} {σ : St} {α β γ : Type}
theorem FB.tr {r : Enc α} {Q : VK} : ∀ a H H', Xp H H' -> FB K r Q a H -> FB K r Q a H':=λa H H' s h v H2 s2 q=>h v H2 (s.trans s2) q
theorem FO.tr {o : OE α} {Q : VK} : ∀ a H H', Xp H H' -> FO K OO OO' o Q a H -> FO K OO OO' o Q a H':=λa H H' s h v C H2 s2 w m q=>h v C H2 (s.trans s2) w ((Xj s).trans m) q
theorem FT.tr {Q : Bool -> Hp -> Prop} : ∀ b H H', Xp H H' -> FT Q b H -> FT Q b H':=λa H H' s h H2 s2=>h H2 (s.trans s2)
theorem EvB.run {te : TE} {r : Enc α} {m : Rs α} (he : EvB K Er S OO σ te r m) {H : Hp} {Q : VK} (w : W OO H) (s : S.p (hid H OO)) {f : α -> Rs β} {F : β -> Hp -> Prop} (hF : ∀ b H H', Xp H H' -> F b H -> F b H') (P : PZ Er F H (m.bind f))
    (hk : ∀ a v H', Xp H H' -> W OO H' -> S.p (hid H' OO) -> r K H' v a -> PZ Er F H' (f a) -> Q v H') : te σ H Q:=by
  refine he H Q w s ?_
  cases m with
  | bad=>exact P
  | err x=>exact P
  | ok a=>
    intro v H' s' hr
    refine hk a v H' s' (w.keep s') (S.mono _ _ (Xj s') s) hr ?_
    have P' : PZ Er F H (f a):=P
    revert P'
    cases f a with
    | bad=>exact λz=>z
    | err x=>exact λz H2 s2=>z H2 (s'.trans s2)
    | ok b=>exact λz=>hF b H H' s' z
theorem Ev.run {te : TE} {o : OE α} {m : Rs α} (he : Ev K Er S OO OO' σ te o m) {H : Hp} {Q : VK} (w : W OO H) (s : S.p (hid H OO)) {f : α -> Rs β} {F : β -> Hp -> Prop} (hF : ∀ b H H', Xp H H' -> F b H -> F b H') (P : PZ Er F H (m.bind f))
    (hk : ∀ a v C H', Xp H H' -> W (C :: OO') H' -> Xp (hid H OO) (hid H' (C :: OO')) -> S.p (hid H' (C :: OO')) -> o K (hid H' (C :: OO')) v a C -> PZ Er F H' (f a) -> Q v H') : te σ H Q:=by
  refine he H Q w s ?_
  cases m with
  | bad=>exact P
  | err x=>exact P
  | ok a=>
    intro v C H' s' w' m' ho
    refine hk a v C H' s' w' m' (S.mono _ _ m' s) ho ?_
    have P' : PZ Er F H (f a):=P
    revert P'
    cases f a with
    | bad=>exact λz=>z
    | err x=>exact λz H2 s2=>z H2 (s'.trans s2)
    | ok b=>exact λz=>hF b H H' s' z
theorem EvT.run {tt : TT} {m : Rs Bool} (he : EvT Er S OO σ tt m) {H : Hp} {Q : Bool -> Hp -> Prop} (w : W OO H) (s : S.p (hid H OO)) {f : Bool -> Rs β} {F : β -> Hp -> Prop} (hF : ∀ b H H', Xp H H' -> F b H -> F b H') (P : PZ Er F H (m.bind f))
    (hk : ∀ b H', Xp H H' -> W OO H' -> S.p (hid H' OO) -> PZ Er F H' (f b) -> Q b H') : tt σ H Q:=by
  refine he H Q w s ?_
  cases m with
  | bad=>exact P
  | err x=>exact P
  | ok a=>
    intro H' s'
    refine hk a H' s' (w.keep s') (S.mono _ _ (Xj s') s) ?_
    have P' : PZ Er F H (f a):=P
    revert P'
    cases f a with
    | bad=>exact λz=>z
    | err x=>exact λz H2 s2=>z H2 (s'.trans s2)
    | ok b=>exact λz=>hF b H H' s' z
theorem Ev.toB {te : TE} {o : OE α} {r : Enc α} [z : FrzC o r] {m : Rs α} (he : Ev K Er S OO OO σ te o m) : EvB K Er S OO σ te r m:=λH Q w s P=>by
  refine he H Q w s ?_
  cases m with
  | bad=>exact P
  | err x=>exact P
  | ok a=>exact λv C H' s' w' m' ho=>P v H' s' (z.frz ho Xv w'.cell)
theorem Ev.frz {te : TE} {o : OE α} {r : Enc α} [z : FrzC o r] {m : Rs α} (he : Ev K Er S OO OO' σ te o m) : Ev K Er S OO OO' σ te (oF r) m:=λH Q w s P=>by
  refine he H Q w s ?_
  cases m with
  | bad=>exact P
  | err x=>exact P
  | ok a=>
    intro v C H' s' w' m' ho
    have hs : Xp (hid H' (C :: OO')) (hid H' ([] :: OO')):=Zg (Xp.refl _) λb hb=>by rw [DZ] at hb; rw [XU]; simp [hb]
    refine P v [] H' s' w'.tail.nil (m'.trans hs) ⟨rfl, z.frz ho hs λc hc=>Y9 (w'.cell c hc) ?_⟩
    rw [DZ]
    have:=w'.nd
    rw [XU] at this
    intro hb
    exact (List.nodup_append.mp this).2.2 c.1 (List.mem_map.mpr ⟨c, hc, rfl⟩) c.1 hb rfl
theorem EvB.flat {te : TE} {r : Enc α} [z : FlatE r] {m : Rs α} (he : EvB K Er S OO σ te r m) : Ev K Er S OO OO σ te (oF r) m:=λH Q w s P=>by
  refine he H Q w s ?_
  cases m with
  | bad=>exact P
  | err x=>exact P
  | ok a=>
    intro v H' s' hr
    have w':=w.keep s'
    exact P v [] H' s' w'.nil (by rw [YC]; exact Xj s') ⟨rfl, by rw [YC]; exact z.flat w'.i hr⟩
theorem Xc {r : Enc α} [z : MonoE r] {v : V} {a : α} (i : Nat) (hσ : σ[i]? = some (some v)) (h : ∀ x, S.p x -> r K x v a) : EvB K Er S OO σ (UX i) r (.ok a):=λH Q w s P=>
  ⟨v, hσ, P v H (Xp.refl _) (z.mono Xv (h _ s))⟩
theorem Je {o : OE α} {r : Enc α} [z : FrzC o r] {v : V} {a : α} {C : List Xz} (i k : Nat) (hσ : σ[i]? = some (some v)) (hk : OO[k]? = some C) (h : ∀ x, S.p x -> o K x v a C) : EvB K Er S OO σ (UX i) r (.ok a):=λH Q w s P=>
  ⟨v, hσ, P v H (Xp.refl _) (z.frz (h _ s) Xv λc hc=>w.tr c (List.mem_flatten.mpr ⟨C, List.mem_of_getElem? hk, hc⟩))⟩
theorem XW : ∀ {OO : List (List Xz)} {k : Nat} {C : List Xz}, OO[k]? = some C -> (C :: OO.set k []).flatten.Perm OO.flatten
  | [], _, _, h=>by simp at h
  | D :: OO, 0, C, h=>by simp at h; subst h; simp
  | D :: OO, k + 1, C, h=>by
    have:=XW (OO:=OO) (k:=k) (C:=C) (by simpa using h)
    simp only [List.set_cons_succ, List.flatten_cons] at this ⊢
    refine List.Perm.trans ?_ (this.append_left D)
    rw [← List.append_assoc, ← List.append_assoc]
    exact List.perm_append_comm.append_right _
theorem JJ {OO OO' : List (List Xz)} (h : OO'.flatten.Perm OO.flatten) (b : Addr) : b ∈ fl OO' ↔ b ∈ fl OO:=(h.map (·.1)).mem_iff
theorem XN {H : Hp} {OO OO' : List (List Xz)} (h : OO'.flatten.Perm OO.flatten) : hid H OO' = hid H OO:=by
  funext b; unfold hid
  by_cases hb : b ∈ fl OO
  . rw [if_pos hb, if_pos ((JJ h b).mpr hb)]
  . rw [if_neg hb, if_neg λz=>hb ((JJ h b).mp z)]
theorem YR {o : OE α} {v : V} {a : α} {C : List Xz} (i k : Nat) (hσ : σ[i]? = some (some v)) (hk : OO[k]? = some C) (h : ∀ x, S.p x -> o K x v a C) : Ev K Er S OO (OO.set k []) σ (UX i) o (.ok a):=λH Q w s P=>by
  have hp:=XW hk
  exact ⟨v, hσ, P v C H (Xp.refl _) (w.of hp) (by rw [XN hp]; exact Xp.refl _) (by rw [XN hp]; exact h _ s)⟩
theorem Xf (n : Int) : EvB K Er S OO σ (tC (.int n)) Xa (.ok n):=λH Q w s P=>P _ H (Xp.refl _) rfl
theorem JS (b : Bool) : EvB K Er S OO σ (tC (.bl b)) XR (.ok b):=λH Q w s P=>P _ H (Xp.refl _) rfl
theorem EW {o : OE α} : Ev K Er S OO OO σ (tC .non) (VZ o) (.ok none):=λH Q w s P=>P _ [] H (Xp.refl _) w.nil (by rw [YC]; exact Xp.refl _) ⟨rfl, rfl⟩
theorem Ve {ta tb : TE} {g : Int -> Int -> V} {r : Enc β} {f : Int -> Int -> β} {ma mb : Rs Int} (hg : ∀ K H i j, r K H (g i j) (f i j)) (ha : EvB K Er S OO σ ta Xa ma) (hb : EvB K Er S OO σ tb Xa mb) :
    EvB K Er S OO σ (tOp (rI0 g) ta tb) r (ma.bind λa=>mb.bind λb=>.ok (f a b)):=λH Q w s P=>
  ha.run w s FB.tr P λa x H1 s1 w1 q1 r1 P1=>hb.run w1 q1 FB.tr P1 λb y H2 s2 w2 q2 r2 P2=>⟨a, b, r1, r2, P2 _ H2 (Xp.refl _) (hg K H2 a b)⟩
theorem Ud {ta tb : TE} {Cc : Int -> Int -> Prop} {g : Int -> Int -> V} {r : Enc β} {f : Int -> Int -> Rs β} {ma mb : Rs Int} (hg : ∀ K H i j c, f i j = .ok c -> Cc i j /\ r K H (g i j) c) (he : ∀ i j x, f i j ≠ .err x)
    (ha : EvB K Er S OO σ ta Xa ma) (hb : EvB K Er S OO σ tb Xa mb) :
    EvB K Er S OO σ (tOp (rI Cc g) ta tb) r (ma.bind λa=>mb.bind λb=>f a b):=λH Q w s P=>
  ha.run w s FB.tr P λa x H1 s1 w1 q1 r1 P1=>hb.run w1 q1 FB.tr P1 λb y H2 s2 w2 q2 r2 P2=>by
    cases e : f a b with
    | bad=>rw [e] at P2; exact P2.elim
    | err x=>exact absurd e (he a b x)
    | ok c=>
      rw [e] at P2
      obtain ⟨h1, h2⟩:=hg K H2 a b c e
      exact ⟨a, b, r1, r2, h1, P2 _ H2 (Xp.refl _) h2⟩
def K9 (a b : Int) : Rs Int:=chk ((-(2 ^ 64) < a /\ a < 2 ^ 64) ∨ (-(2 ^ 64) < b /\ b < 2 ^ 64)) (.ok (a * b))
def Jj (a b : Int) : Rs Int:=chk (0 < b) (.ok (a % b))
def IM (a b : Int) : Rs Int:=chk (0 < b /\ b.natAbs.log2 < 9000) (.ok (a / b))
def L5 (a b : Int) : Rs Int:=chk (0 <= b /\ b <= 1000000 /\ a.natAbs < 2 ^ 64) (.ok (a ^ b.toNat))
theorem Zh {c : Prop} [Decidable c] {m : Rs α} {a : α} (h : chk c m = .ok a) : c /\ m = .ok a:=by
  unfold chk at h; split at h
  . exact ⟨by assumption, h⟩
  . cases h
theorem Qj {c : Prop} [Decidable c] {a : α} {x : Exc} : chk c (Rs.ok a) ≠ .err x:=by
  unfold chk; split <;> exact λz=>nomatch z
theorem Zx {ta tb : TE} {ma mb : Rs Int} (ha : EvB K Er S OO σ ta Xa ma) (hb : EvB K Er S OO σ tb Xa mb) : EvB K Er S OO σ (tOp (rI Mw λi j=>.int (i * j)) ta tb) Xa (ma.bind λa=>mb.bind λb=>K9 a b):=
  Ud (λK H i j c h=>by obtain ⟨h1, h2⟩:=Zh h; cases h2; exact ⟨h1, rfl⟩) (λi j x=>Qj) ha hb
theorem Yc {ta tb : TE} {ma mb : Rs Int} (ha : EvB K Er S OO σ ta Xa ma) (hb : EvB K Er S OO σ tb Xa mb) : EvB K Er S OO σ (tOp (rI (λ_ j=>0 < j) λi j=>.int (i % j)) ta tb) Xa (ma.bind λa=>mb.bind λb=>Jj a b):=
  Ud (λK H i j c h=>by obtain ⟨h1, h2⟩:=Zh h; cases h2; exact ⟨h1, rfl⟩) (λi j x=>Qj) ha hb
theorem Gw {ta tb : TE} {ma mb : Rs Int} (ha : EvB K Er S OO σ ta Xa ma) (hb : EvB K Er S OO σ tb Xa mb) : EvB K Er S OO σ (tOp (rI (λ_ j=>0 < j /\ j.natAbs.log2 < 9000) λi j=>.int (i / j)) ta tb) Xa (ma.bind λa=>mb.bind λb=>IM a b):=
  Ud (λK H i j c h=>by obtain ⟨h1, h2⟩:=Zh h; cases h2; exact ⟨h1, rfl⟩) (λi j x=>Qj) ha hb
theorem KW {ta tb : TE} {ma mb : Rs Int} (ha : EvB K Er S OO σ ta Xa ma) (hb : EvB K Er S OO σ tb Xa mb) : EvB K Er S OO σ (tOp (rI No λi j=>.int (i ^ j.toNat)) ta tb) Xa (ma.bind λa=>mb.bind λb=>L5 a b):=
  Ud (λK H i j c h=>by obtain ⟨h1, h2⟩:=Zh h; cases h2; exact ⟨h1, rfl⟩) (λi j x=>Qj) ha hb
theorem X4 {ta tb : TE} {ma mb : Rs Int} (ha : EvB K Er S OO σ ta Xa ma) (hb : EvB K Er S OO σ tb Xa mb) : EvB K Er S OO σ (tOp (rI0 λi j=>.int (i + j)) ta tb) Xa (ma.bind λa=>mb.bind λb=>.ok (a + b)):=Ve (λ_ _ _ _=>rfl) ha hb
theorem Ze {ta tb : TE} {ma mb : Rs Int} (ha : EvB K Er S OO σ ta Xa ma) (hb : EvB K Er S OO σ tb Xa mb) : EvB K Er S OO σ (tOp (rI0 λi j=>.int (i - j)) ta tb) Xa (ma.bind λa=>mb.bind λb=>.ok (a - b)):=Ve (λ_ _ _ _=>rfl) ha hb
theorem JL {ta tb : TE} {ma mb : Rs Int} (ha : EvB K Er S OO σ ta Xa ma) (hb : EvB K Er S OO σ tb Xa mb) : EvB K Er S OO σ (tOp (rI0 λi j=>.bl (decide (i < j))) ta tb) XR (ma.bind λa=>mb.bind λb=>.ok (decide (a < b))):=Ve (λ_ _ _ _=>rfl) ha hb
theorem UZ {ta tb : TE} {ma mb : Rs Int} (ha : EvB K Er S OO σ ta Xa ma) (hb : EvB K Er S OO σ tb Xa mb) : EvB K Er S OO σ (tOp (rI0 λi j=>.bl (decide (j < i))) ta tb) XR (ma.bind λa=>mb.bind λb=>.ok (decide (b < a))):=Ve (λ_ _ _ _=>rfl) ha hb
theorem ED {ta tb : TE} {ma mb : Rs Int} (ha : EvB K Er S OO σ ta Xa ma) (hb : EvB K Er S OO σ tb Xa mb) : EvB K Er S OO σ (tOp (rI0 λi j=>.bl (decide (j <= i))) ta tb) XR (ma.bind λa=>mb.bind λb=>.ok (decide (b <= a))):=Ve (λ_ _ _ _=>rfl) ha hb
theorem DB {ta : TE} {ma : Rs Int} (ha : EvB K Er S OO σ ta Xa ma) : EvB K Er S OO σ (tUn (rU λi=>.int (-i)) ta) Xa (ma.bind λa=>.ok (-a)):=λH Q w s P=>
  ha.run w s FB.tr P λa x H1 s1 w1 q1 r1 P1=>⟨a, r1, P1 _ H1 (Xp.refl _) rfl⟩
class Scal {α : Type} [DecidableEq α] (r : Enc α) : Prop where
  to : ∀ {K : Fgg} {H H' : Hp} {x y : V} {a b : α}, r K H x a -> r K H' y b -> M6 x y = true /\ decide (x = y) = decide (a = b)
instance : Scal Xa:=⟨fun {K H H' x y a b} h1 h2=>by cases (show x = .int a from h1); cases (show y = .int b from h2); exact ⟨rfl, by simp⟩⟩
instance : Scal XR:=⟨fun {K H H' x y a b} h1 h2=>by cases (show x = .bl a from h1); cases (show y = .bl b from h2); exact ⟨rfl, by simp⟩⟩
theorem YZ [DecidableEq α] {r : Enc α} [z : Scal r] [MonoE r] {ta tb : TE} {ma mb : Rs α} (ha : EvB K Er S OO σ ta r ma) (hb : EvB K Er S OO σ tb r mb) : EvB K Er S OO σ (tOp rEq ta tb) XR (ma.bind λa=>mb.bind λb=>.ok (decide (a = b))):=λH Q w s P=>
  ha.run w s FB.tr P λa x H1 s1 w1 q1 r1 P1=>hb.run w1 q1 FB.tr P1 λb y H2 s2 w2 q2 r2 P2=>by
    obtain ⟨h1, h2⟩:=z.to r1 r2
    exact ⟨h1, P2 _ H2 (Xp.refl _) (by rw [h2]; rfl)⟩
theorem VQ [DecidableEq α] {r : Enc α} [z : Scal r] [MonoE r] {ta tb : TE} {ma mb : Rs α} (ha : EvB K Er S OO σ ta r ma) (hb : EvB K Er S OO σ tb r mb) : EvB K Er S OO σ (tOp rNe ta tb) XR (ma.bind λa=>mb.bind λb=>.ok (!decide (a = b))):=λH Q w s P=>
  ha.run w s FB.tr P λa x H1 s1 w1 q1 r1 P1=>hb.run w1 q1 FB.tr P1 λb y H2 s2 w2 q2 r2 P2=>by
    obtain ⟨h1, h2⟩:=z.to r1 r2
    exact ⟨h1, P2 _ H2 (Xp.refl _) (by rw [h2]; rfl)⟩
theorem F6 [DecidableEq α] {r : Enc α} [z : MonoE r] {ta tb : TE} {ma mb : Rs α} (ha : EvB K Er S OO σ ta r ma) (hb : EvB K Er S OO σ tb r mb) : EvB K Er S OO σ (tOp (Nl K r) ta tb) XR (ma.bind λa=>mb.bind λb=>.ok (!decide (a = b))):=λH Q w s P=>
  ha.run w s FB.tr P λa x H1 s1 w1 q1 r1 P1=>hb.run w1 q1 FB.tr P1 λb y H2 s2 w2 q2 r2 P2=>⟨a, b, z.mono s2 r1, r2, P2 _ H2 (Xp.refl _) rfl⟩
theorem KY {te : TE} {m : Rs Bool} (h : EvB K Er S OO σ te XR m) : EvT Er S OO σ (tB te) m:=λH Q w s P=>h H _ w s (by
  cases m with
  | bad=>exact P
  | err x=>exact P
  | ok a=>exact λv H' s' r=>⟨a, r, P H' s'⟩)
theorem Xl {te : TE} {m : Rs Bool} (h : EvB K Er S OO σ te XR m) : EvT Er S OO σ (Mq te) m:=KY h
theorem Gj {t : TT} {m : Rs Bool} (h : EvT Er S OO σ t m) : EvT Er S OO σ (Nr t) (m.bind λb=>.ok (!b)):=λH Q w s P=>h.run w s FT.tr P λb H1 s1 w1 q1 P1=>P1 H1 (Xp.refl _)
def VI (a b : Rs Bool) : Rs Bool:=a.bind λx=>if x = true then b else .ok false
def orR (a b : Rs Bool) : Rs Bool:=a.bind λx=>if x = true then .ok true else b
theorem ZM {t u : TT} {m n : Rs Bool} (h : EvT Er S OO σ t m) (k : EvT Er S OO σ u n) : EvT Er S OO σ (Nh t u) (VI m n):=λH Q w s P=>h.run w s FT.tr P λb H1 s1 w1 q1 P1=>by
  cases b with
  | true=>rw [if_pos rfl] at P1 ⊢; exact k H1 Q w1 q1 P1
  | false=>exact P1 H1 (Xp.refl _)
theorem Dz {t u : TT} {m n : Rs Bool} (h : EvT Er S OO σ t m) (k : EvT Er S OO σ u n) : EvT Er S OO σ (tOr t u) (orR m n):=λH Q w s P=>h.run w s FT.tr P λb H1 s1 w1 q1 P1=>by
  cases b with
  | true=>exact P1 H1 (Xp.refl _)
  | false=>exact k H1 Q w1 q1 P1
theorem Eb {t : TE} {m : Rs Bool} (h : EvB K Er S OO σ t XR m) : EvB K Er S OO σ (LM t) XR (m.bind λb=>.ok (!b)):=λH Q w s P=>h.run w s FB.tr P λb x H1 s1 w1 q1 r1 P1=>⟨b, r1, P1 _ H1 (Xp.refl _) rfl⟩
theorem Qr {t u : TE} {m n : Rs Bool} (h : EvB K Er S OO σ t XR m) (k : EvB K Er S OO σ u XR n) : EvB K Er S OO σ (LI t u) XR (VI m n):=λH Q w s P=>h.run w s FB.tr P λb x H1 s1 w1 q1 r1 P1=>⟨b, r1, by
  cases b with
  | true=>rw [if_pos rfl] at P1 ⊢; exact k H1 Q w1 q1 P1
  | false=>exact P1 _ H1 (Xp.refl _) rfl⟩
theorem MR {c : TT} {ta tb : TE} {o : OE α} {mc : Rs Bool} {ma mb : Rs α} (hc : EvT Er S OO σ c mc) (ha : Ev K Er S OO OO' σ ta o ma) (hb : Ev K Er S OO OO' σ tb o mb) : Ev K Er S OO OO' σ (tIf c ta tb) o (mc.bind λb=>if b = true then ma else mb):=λH Q w s P=>
  hc.run w s FO.tr P λb H1 s1 w1 q1 P1=>by
    cases b with
    | true=>rw [if_pos rfl] at P1 ⊢; exact ha H1 Q w1 q1 P1
    | false=>exact hb H1 Q w1 q1 P1
end
section
variable (K : Fgg) (Er : Exc -> Hp -> Prop) (S : SC) (OO : List (List Xz)) (σ : St)
def FS {α : Type} (r : Enc α) (Q : VK) (a : α) (H : Hp) : Prop:=∀ v H', Xp H H' -> r K (hid H' OO) v a -> Q v H'
def EvS {α : Type} (te : TE) (r : Enc α) (m : Rs α) : Prop:=∀ H Q, W OO H -> S.p (hid H OO) -> PZ Er (FS K OO r Q) H m -> te σ H Q
def rE {α : Type} (r : Enc α) (H : Hp) (v : V) (as : List α) : Prop:=∃ p xs, v = .ref p /\ H p = some (.lst xs) /\ Paired (r K (hid H OO)) xs as
def FL {α : Type} (r : Enc α) (Q : VK) (as : List α) (H : Hp) : Prop:=∀ v H', Xp H H' -> rE K OO r H' v as -> Q v H'
def EvL {α : Type} (te : TE) (r : Enc α) (m : Rs (List α)) : Prop:=∀ H Q, W OO H -> S.p (hid H OO) -> PZ Er (FL K OO r Q) H m -> te σ H Q
end
section
variable {K : Fgg} {Er : Exc -> Hp -> Prop} {S : SC} {OO OO' OO2 : List (List Xz)} {σ : St} {α β γ : Type}
theorem FS.tr {r : Enc α} {Q : VK} : ∀ a H H', Xp H H' -> FS K OO r Q a H -> FS K OO r Q a H':=λa H H' s h v H2 s2 q=>h v H2 (s.trans s2) q
theorem FL.tr {r : Enc α} {Q : VK} : ∀ a H H', Xp H H' -> FL K OO r Q a H -> FL K OO r Q a H':=λa H H' s h v H2 s2 q=>h v H2 (s.trans s2) q
theorem PZ.run {F : β -> Hp -> Prop} {f : α -> Rs β} {H H' : Hp} {a : α} {m : Rs α} (hm : m = .ok a) (hF : ∀ b H H', Xp H H' -> F b H -> F b H') (s : Xp H H') (P : PZ Er F H (m.bind f)) : PZ Er F H' (f a):=by
  subst hm
  have P' : PZ Er F H (f a):=P
  revert P'
  cases f a with
  | bad=>exact λz=>z
  | err x=>exact λz H2 s2=>z H2 (s.trans s2)
  | ok b=>exact λz=>hF b H H' s z
theorem EvS.run {te : TE} {r : Enc α} {m : Rs α} (he : EvS K Er S OO σ te r m) {H : Hp} {Q : VK} (w : W OO H) (s : S.p (hid H OO)) {f : α -> Rs β} {F : β -> Hp -> Prop} (hF : ∀ b H H', Xp H H' -> F b H -> F b H') (P : PZ Er F H (m.bind f))
    (hk : ∀ a v H', Xp H H' -> W OO H' -> S.p (hid H' OO) -> r K (hid H' OO) v a -> PZ Er F H' (f a) -> Q v H') : te σ H Q:=by
  refine he H Q w s ?_
  cases e : m with
  | bad=>rw [e] at P; exact P
  | err x=>rw [e] at P; exact P
  | ok a=>exact λv H' s' hr=>hk a v H' s' (w.keep s') (S.mono _ _ (Xj s') s) hr (PZ.run e hF s' P)
theorem EvL.run {te : TE} {r : Enc α} {m : Rs (List α)} (he : EvL K Er S OO σ te r m) {H : Hp} {Q : VK} (w : W OO H) (s : S.p (hid H OO)) {f : List α -> Rs β} {F : β -> Hp -> Prop} (hF : ∀ b H H', Xp H H' -> F b H -> F b H') (P : PZ Er F H (m.bind f))
    (hk : ∀ a v H', Xp H H' -> W OO H' -> S.p (hid H' OO) -> rE K OO r H' v a -> PZ Er F H' (f a) -> Q v H') : te σ H Q:=by
  refine he H Q w s ?_
  cases e : m with
  | bad=>rw [e] at P; exact P
  | err x=>rw [e] at P; exact P
  | ok a=>exact λv H' s' hr=>hk a v H' s' (w.keep s') (S.mono _ _ (Xj s') s) hr (PZ.run e hF s' P)
theorem PZ.imp {F G : β -> Hp -> Prop} {H : Hp} {m : Rs β} (P : PZ Er F H m) (h : ∀ b, m = .ok b -> F b H -> G b H) : PZ Er G H m:=by
  cases m with
  | bad=>exact P
  | err x=>exact P
  | ok b=>exact h b rfl P
theorem EvS.toB {te : TE} {r : Enc α} [z : MonoE r] {m : Rs α} (he : EvS K Er S OO σ te r m) : EvB K Er S OO σ te r m:=λH Q w s P=>he H Q w s (P.imp λb _ h v H' s' q=>h v H' s' (z.mono Xv q))
theorem EvS.ev {te : TE} {r : Enc α} {m : Rs α} (he : EvS K Er S OO σ te r m) : Ev K Er S OO OO σ te (oF r) m:=λH Q w s P=>he H Q w s (P.imp λb _ h v H' s' q=>
  h v [] H' s' (w.keep s').nil (by rw [YC]; exact Xj s') ⟨rfl, by rw [YC]; exact q⟩)
theorem EvB.sh {te : TE} {r : Enc α} [z : FlatE r] {m : Rs α} (he : EvB K Er S OO σ te r m) : EvS K Er S OO σ te r m:=λH Q w s P=>he H Q w s (P.imp λb _ h v H' s' q=>h v H' s' (z.flat (w.keep s').i q))
theorem Ev.sh {te : TE} {o : OE α} {r : Enc α} [z : FrzC o r] {m : Rs α} (he : Ev K Er S OO OO σ te o m) : EvS K Er S OO σ te r m:=λH Q w s P=>he.frz H Q w s (P.imp λb _ h v C H' s' w' m' q=>by
  obtain ⟨rfl, q⟩:=q
  rw [YC] at q
  exact h v H' s' q)
theorem Xo {r : Enc α} {v : V} {a : α} (i : Nat) (hσ : σ[i]? = some (some v)) (h : ∀ x, S.p x -> r K x v a) : EvS K Er S OO σ (UX i) r (.ok a):=λH Q w s P=>⟨v, hσ, P v H (Xp.refl _) (h _ s)⟩
theorem EvS.ls {te : TE} {r : Enc α} {m : Rs (List α)} (he : EvS K Er S OO σ te (rV r) m) : EvL K Er S OO σ te r m:=λH Q w s P=>he H Q w s (P.imp λb _ h v H' s' r9=>by obtain ⟨p, xs, e, q, pr⟩:=r9; exact h v H' s' ⟨p, xs, e, Xv _ _ q, pr⟩)
theorem EvB.ls {te : TE} {r : Enc α} [z : FlatE r] {m : Rs (List α)} (he : EvB K Er S OO σ te (rV r) m) : EvL K Er S OO σ te r m:=λH Q w s P=>he H Q w s (P.imp λb _ h v H' s' r9=>by obtain ⟨p, xs, e, q, pr⟩:=r9; exact h v H' s' ⟨p, xs, e, q, Paired.imp2 (λ_ _ z'=>z.flat (w.keep s').i z') pr⟩)
theorem Ev.ls {te : TE} {r : Enc α} [z : MonoE r] {m : Rs (List α)} (he : Ev K Er S OO OO σ te (oL (oF r)) m) : EvL K Er S OO σ te r m:=he.sh.ls
def atR (as : List α) (i : Int) : Rs α:=match atI as i with
  | some a=>.ok a
  | none=>.bad
theorem Ku {as : List α} {i : Int} {a : α} (h : atR as i = .ok a) : atI as i = some a:=by
  unfold atR at h; split at h
  . cases h; assumption
  . cases h
theorem Kc {as : List α} {i : Int} {x : Exc} : atR as i ≠ .err x:=by unfold atR; split <;> exact λz=>nomatch z
theorem Qu {F : V -> α -> Prop} {xs : List V} {as : List α} {i : Int} {a : α} (p : Paired F xs as) (h : atI as i = some a) : ∃ x, atI xs i = some x /\ F x a:=by
  unfold atI at h ⊢
  rw [Paired.len p]
  cases e : ixN as.length i with
  | none=>rw [e] at h; cases h
  | some j=>
    rw [e] at h
    obtain ⟨x, h1, h2⟩:=Paired.getR p h
    exact ⟨x, h1, h2⟩
theorem PZ.okOf {F : β -> Hp -> Prop} {H : Hp} {m : Rs β} (he : ∀ x, m ≠ .err x) (P : PZ Er F H m) : ∃ b, m = .ok b /\ F b H:=by
  cases m with
  | bad=>exact P.elim
  | err x=>exact absurd rfl (he x)
  | ok b=>exact ⟨b, rfl, P⟩
theorem XJ {ta tb : TE} {r : Enc α} [z : MonoE r] {ma : Rs (List α)} {mb : Rs Int} (ha : EvB K Er S OO σ ta (rV r) ma) (hb : EvB K Er S OO σ tb Xa mb) : EvB K Er S OO σ (tOp (IP K) ta tb) r (ma.bind λas=>mb.bind λi=>atR as i):=λH Q w s P=>
  ha.run w s FB.tr P λa x H1 s1 w1 q1 ⟨p, xs, e, q, pr⟩ P1=>hb.run w1 q1 FB.tr P1 λb y H2 s2 w2 q2 r2 P2=>by
    obtain ⟨c, hc, P3⟩:=P2.okOf λx=>Kc
    obtain ⟨u, h1, h2⟩:=Qu pr (Ku hc)
    exact ⟨p, xs, b, u, e, r2, SqL.of (s2 _ _ q), h1, P3 u H2 (Xp.refl _) (z.mono s2 h2)⟩
theorem Ey {ta tb : TE} {r : Enc α} [z : MonoE r] {ma : Rs (List α)} {mb : Rs Int} (ha : EvL K Er S OO σ ta r ma) (hb : EvB K Er S OO σ tb Xa mb) : EvS K Er S OO σ (tOp (IP K) ta tb) r (ma.bind λas=>mb.bind λi=>atR as i):=λH Q w s P=>
  ha.run w s FS.tr P λa x H1 s1 w1 q1 ⟨p, xs, e, q, pr⟩ P1=>hb.run w1 q1 FS.tr P1 λb y H2 s2 w2 q2 r2 P2=>by
    obtain ⟨c, hc, P3⟩:=P2.okOf λx=>Kc
    obtain ⟨u, h1, h2⟩:=Qu pr (Ku hc)
    exact ⟨p, xs, b, u, e, r2, SqL.of (s2 _ _ q), h1, P3 u H2 (Xp.refl _) (z.mono (Xj s2) h2)⟩
theorem Gn {ta tb : TE} {r : Enc α} [z : MonoE r] {ma : Rs (List α)} {mb : Rs Int} (ha : EvB K Er S OO σ ta (rPL r) ma) (hb : EvB K Er S OO σ tb Xa mb) : EvB K Er S OO σ (tOp (Bn K) ta tb) r (ma.bind λas=>mb.bind λi=>atR as i):=λH Q w s P=>
  ha.run w s FB.tr P λa x H1 s1 w1 q1 ⟨p, xs, e, q, pr⟩ P1=>hb.run w1 q1 FB.tr P1 λb y H2 s2 w2 q2 r2 P2=>by
    obtain ⟨c, hc, P3⟩:=P2.okOf λx=>Kc
    obtain ⟨u, h1, h2⟩:=Qu pr (Ku hc)
    exact ⟨p, xs, b, u, e, r2, SqT.of (s2 _ _ q), h1, P3 u H2 (Xp.refl _) (z.mono s2 h2)⟩
theorem Gc {ta : TE} {r : Enc α} {q : Enc β} {m : Rs (α × β)} (ha : EvB K Er S OO σ ta (rP2 r q) m) : EvB K Er S OO σ (tOp (Bn K) ta (tC (.int 0))) r (m.bind λp=>.ok p.1):=λH Q w s P=>
  ha.run w s FB.tr P λa x H1 s1 w1 q1 r9 P1=>by obtain ⟨p, x, y, e, q, h1, h2⟩:=r9; exact ⟨p, _, 0, x, e, rfl, SqT.of q, rfl, P1 _ H1 (Xp.refl _) h1⟩
theorem Dd {ta : TE} {r : Enc α} {q : Enc β} {m : Rs (α × β)} (ha : EvB K Er S OO σ ta (rP2 r q) m) : EvB K Er S OO σ (tOp (Bn K) ta (tC (.int 1))) q (m.bind λp=>.ok p.2):=λH Q w s P=>
  ha.run w s FB.tr P λa x H1 s1 w1 q1 r9 P1=>by obtain ⟨p, x, y, e, q, h1, h2⟩:=r9; exact ⟨p, _, 1, y, e, rfl, SqT.of q, rfl, P1 _ H1 (Xp.refl _) h2⟩
theorem Yh {ta : TE} {r : Enc α} {m : Rs (List α)} (ha : EvB K Er S OO σ ta (rV r) m) : EvB K Er S OO σ (tCB (G0 K) (Xr ta Zc)) Xa (m.bind λas=>.ok (as.length : Int)):=λH Q w s P=>
  ha.run w s FB.tr P λa x H1 s1 w1 q1 r9 P1=>by obtain ⟨p, xs, e, q, pr⟩:=r9; exact ⟨p, xs, by rw [e], .inl (SqL.of q), P1 _ H1 (Xp.refl _) (by rw [Paired.len pr]; rfl)⟩
theorem Qt {ta : TE} {r : Enc α} {m : Rs (List α)} (ha : EvB K Er S OO σ ta (rPL r) m) : EvB K Er S OO σ (tCB (G0 K) (Xr ta Zc)) Xa (m.bind λas=>.ok (as.length : Int)):=λH Q w s P=>
  ha.run w s FB.tr P λa x H1 s1 w1 q1 r9 P1=>by obtain ⟨p, xs, e, q, pr⟩:=r9; exact ⟨p, xs, by rw [e], .inr (SqT.of q), P1 _ H1 (Xp.refl _) (by rw [Paired.len pr]; rfl)⟩
theorem Ep {r : Enc α} [z : MonoE r] {xs : List V} {as : List α} {H : Hp} {Q : VK} (w : W OO H) (pr : Paired (r K (hid H OO)) xs as) (P : FO K OO OO (oL (oF r)) Q as H) : ∀ p, H p = none -> Q (.ref p) (upd H p (.lst xs)):=λp hp=>by
  have hn:=UT (OO:=OO) hp (o:=.lst xs)
  refine P (.ref p) [(p, .lst xs)] _ (XE hp _) (w.new hp rfl) hn ?_
  refine ⟨p, xs, List.replicate as.length [], rfl, (P3.of (Paired.imp2 (λ_ _ h=>z.mono hn h) pr)).imp λ_ _ _ h=>h, by rw [Yj]⟩
theorem Paired.take' {F : α -> β -> Prop} : ∀ {l : List α} {m : List β} (n : Nat), Paired F l m -> Paired F (l.take n) (m.take n)
  | _, _, 0, _=>.nil
  | _, _, _ + 1, .nil=>.nil
  | _, _, n + 1, .cons r t=>.cons r (Paired.take' n t)
theorem Paired.drop' {F : α -> β -> Prop} : ∀ {l : List α} {m : List β} (n : Nat), Paired F l m -> Paired F (l.drop n) (m.drop n)
  | _, _, 0, h=>h
  | _, _, _ + 1, .nil=>.nil
  | _, _, n + 1, .cons _ t=>Paired.drop' n t
theorem Paired.rep' {F : α -> β -> Prop} {l : List α} {m : List β} (h : Paired F l m) : ∀ n : Nat, Paired F (List.replicate n l).flatten (List.replicate n m).flatten
  | 0=>.nil
  | n + 1=>by simp only [List.replicate_succ, List.flatten_cons]; exact Paired.app h (Paired.rep' h n)
def Ff (as : List α) (lo hi : Option Int) : List α:=(as.drop (HT.sIx as.length 0 lo)).take (HT.sIx as.length as.length hi - HT.sIx as.length 0 lo)
theorem V7 {F : V -> α -> Prop} {xs : List V} {as : List α} (p : Paired F xs as) (lo hi : Option Int) : Paired F (IJ xs lo hi) (Ff as lo hi):=by
  unfold IJ Ff; rw [Paired.len p]; exact Paired.take' _ (Paired.drop' _ p)
def FP (Q : Option Int -> Hp -> Prop) (a : Option Int) (H : Hp) : Prop:=∀ H', Xp H H' -> Q a H'
def EvP (Er : Exc -> Hp -> Prop) (S : SC) (OO : List (List Xz)) (σ : St) (t : TO) (m : Rs (Option Int)) : Prop:=∀ H Q, W OO H -> S.p (hid H OO) -> PZ Er (FP Q) H m -> t σ H Q
theorem EvP.run {t : TO} {m : Rs (Option Int)} (he : EvP Er S OO σ t m) {H : Hp} {Q : Option Int -> Hp -> Prop} (w : W OO H) (s : S.p (hid H OO)) {f : Option Int -> Rs β} {F : β -> Hp -> Prop} (hF : ∀ b H H', Xp H H' -> F b H -> F b H') (P : PZ Er F H (m.bind f))
    (hk : ∀ a H', Xp H H' -> W OO H' -> S.p (hid H' OO) -> PZ Er F H' (f a) -> Q a H') : t σ H Q:=by
  refine he H Q w s ?_
  cases e : m with
  | bad=>rw [e] at P; exact P
  | err x=>rw [e] at P; exact P
  | ok a=>exact λH' s'=>hk a H' s' (w.keep s') (S.mono _ _ (Xj s') s) (PZ.run e hF s' P)
theorem JH : EvP Er S OO σ Cb (.ok none):=λH Q w s P=>P H (Xp.refl _)
theorem JI {te : TE} {m : Rs Int} (h : EvB K Er S OO σ te Xa m) : EvP Er S OO σ (I9 te) (m.bind λi=>.ok (some i)):=λH Q w s P=>
  h.run w s (λ_ _ _ s h H2 s2=>h H2 (s.trans s2)) P λa v H1 s1 w1 q1 r1 P1=>⟨a, r1, P1 H1 (Xp.refl _)⟩
theorem UK {te : TE} {tl th : TO} {r : Enc α} [z : MonoE r] {m : Rs (List α)} {ml mh : Rs (Option Int)} (he : EvL K Er S OO σ te r m) (hl : EvP Er S OO σ tl ml) (hh : EvP Er S OO σ th mh) :
    Ev K Er S OO OO σ (tSl (MD K) te tl th) (oL (oF r)) (m.bind λas=>ml.bind λlo=>mh.bind λhi=>.ok (Ff as lo hi)):=λH Q w s P=>
  he.run w s FO.tr P λas x H1 s1 w1 q1 ⟨p, xs, e, q, pr⟩ P1=>hl.run w1 q1 FO.tr P1 λlo H2 s2 w2 q2 P2=>hh.run w2 q2 FO.tr P2 λhi H3 s3 w3 q3 P3'=>
    ⟨p, xs, e, SqL.of (s3 _ _ (s2 _ _ q)), Ep w3 (V7 (Paired.imp2 (λ_ _ h=>z.mono ((Xj s2).trans (Xj s3)) h) pr) lo hi) P3'⟩
theorem Ei {ta : TE} {r : Enc α} {m : Rs (List α)} (ha : EvB K Er S OO σ ta (rL r) m) : EvB K Er S OO σ (tCB (G0 K) (Xr ta Zc)) Xa (m.bind λas=>.ok (as.length : Int)):=λH Q w s P=>
  ha.run w s FB.tr P λa x H1 s1 w1 q1 r9 P1=>by obtain ⟨p, xs, e, q, pr⟩:=r9; exact ⟨p, xs, by rw [e], .inl q, P1 _ H1 (Xp.refl _) (by rw [Paired.len pr]; rfl)⟩
theorem Hb {ta tb : TE} {ma : Rs (List Int)} {mb : Rs Int} (ha : EvB K Er S OO σ ta (rL Xa) ma) (hb : EvB K Er S OO σ tb Xa mb) : EvB K Er S OO σ (tOp (IP K) ta tb) Xa (ma.bind λas=>mb.bind λi=>atR as i):=λH Q w s P=>
  ha.run w s FB.tr P λa x H1 s1 w1 q1 ⟨p, xs, e, q, pr⟩ P1=>hb.run w1 q1 FB.tr P1 λb y H2 s2 w2 q2 r2 P2=>by
    obtain ⟨c, hc, P3⟩:=P2.okOf λx=>Kc
    obtain ⟨u, h1, h2⟩:=Qu pr (Ku hc)
    exact ⟨p, xs, b, u, e, r2, s2.seq q, h1, P3 u H2 (Xp.refl _) h2⟩
theorem Cv {te : TE} {tl th : TO} {m : Rs (List Int)} {ml mh : Rs (Option Int)} (he : EvB K Er S OO σ te (rL Xa) m) (hl : EvP Er S OO σ tl ml) (hh : EvP Er S OO σ th mh) :
    Ev K Er S OO OO σ (tSl (MD K) te tl th) (oL (oF Xa)) (m.bind λas=>ml.bind λlo=>mh.bind λhi=>.ok (Ff as lo hi)):=λH Q w s P=>
  he.run w s FO.tr P λas x H1 s1 w1 q1 ⟨p, xs, e, q, pr⟩ P1=>hl.run w1 q1 FO.tr P1 λlo H2 s2 w2 q2 P2=>hh.run w2 q2 FO.tr P2 λhi H3 s3 w3 q3 P3'=>
    ⟨p, xs, e, s3.seq (s2.seq q), Ep w3 (V7 (Paired.imp2 (λ_ _ h=>h) pr) lo hi) P3'⟩
def ID (as bs : List α) : Rs (List α):=chk (as.length + bs.length <= sizeLine) (.ok (as ++ bs))
theorem Cq {ta tb : TE} {r : Enc α} [z : MonoE r] {ma mb : Rs (List α)} (ha : EvL K Er S OO σ ta r ma) (hb : EvL K Er S OO σ tb r mb) : Ev K Er S OO OO σ (tOp Nk ta tb) (oL (oF r)) (ma.bind λas=>mb.bind λbs=>ID as bs):=λH Q w s P=>
  ha.run w s FO.tr P λas x H1 s1 w1 q1 ⟨p, xs, e, q, pr⟩ P1=>hb.run w1 q1 FO.tr P1 λbs y H2 s2 w2 q2 ⟨p', ys, e', q', pr'⟩ P2=>by
    obtain ⟨c, hc, P3⟩:=P2.okOf λx=>Qj
    obtain ⟨h1, h2⟩:=Zh hc
    cases h2
    exact ⟨p, p', xs, ys, e, e', s2 _ _ q, q', by rw [Paired.len pr, Paired.len pr']; exact h1, Ep w2 (Paired.app (Paired.imp2 (λ_ _ h=>z.mono (Xj s2) h) pr) pr') P3⟩
def MY (as : List α) (n : Int) : Rs (List α):=chk (-(2 ^ 63) <= n /\ n < 2 ^ 63 /\ as.length * n.toNat <= sizeLine) (.ok (List.replicate n.toNat as).flatten)
theorem Lc {ta tb : TE} {r : Enc α} [z : MonoE r] {ma : Rs (List α)} {mb : Rs Int} (ha : EvL K Er S OO σ ta r ma) (hb : EvB K Er S OO σ tb Xa mb) : Ev K Er S OO OO σ (tOp Nu ta tb) (oL (oF r)) (ma.bind λas=>mb.bind λn=>MY as n):=λH Q w s P=>
  ha.run w s FO.tr P λas x H1 s1 w1 q1 ⟨p, xs, e, q, pr⟩ P1=>hb.run w1 q1 FO.tr P1 λn y H2 s2 w2 q2 r2 P2=>by
    obtain ⟨c, hc, P3⟩:=P2.okOf λx=>Qj
    obtain ⟨⟨h0, h1, h3⟩, h2⟩:=Zh hc
    cases h2
    exact ⟨p, n, xs, e, r2, s2 _ _ q, h0, h1, by rw [Paired.len pr]; exact h3, Ep w2 (Paired.rep' (Paired.imp2 (λ_ _ h=>z.mono (Xj s2) h) pr) _) P3⟩
theorem Vf {ta : TE} {r : Enc α} [z : MonoE r] {ma : Rs (List α)} (ha : EvL K Er S OO σ ta r ma) : Ev K Er S OO OO σ (tCB (Ga K) (Xr ta Zc)) (oL (oF r)) (ma.bind λas=>.ok as):=λH Q w s P=>
  ha.run w s FO.tr P λas x H1 s1 w1 q1 r9 P1=>by obtain ⟨p, xs, e, q, pr⟩:=r9; exact ⟨p, xs, by rw [e], .inl (SqL.of q), Ep w1 pr P1⟩
def Qk (lo hi : Int) : List Int:=(List.range (hi - lo).toNat).map λ(i : Nat)=>lo + (i : Int)
theorem U0 {ta : TE} {ma : Rs Int} (ha : EvB K Er S OO σ ta Xa ma) : Ev K Er S OO OO σ (G1 (Xr ta Zc)) (oL (oF Xa)) (ma.bind λn=>chk (0 <= n /\ n <= 1000) (.ok (Qk 0 n))):=λH Q w s P=>
  ha.run w s FO.tr P λn x H1 s1 w1 q1 r1 P1=>by
    obtain ⟨c, hc, P3⟩:=P1.okOf λx=>Qj
    obtain ⟨⟨h0, h1⟩, h2⟩:=Zh hc
    cases h2
    refine ⟨n, by rw [show x = .int n from r1], h0, h1, Ep w1 ?_ P3⟩
    unfold Qk
    rw [Int.sub_zero]
    have : ∀ l : List Nat, Paired (Xa K (hid H1 OO)) (l.map λ(i : Nat)=>V.int (i : Int)) (l.map λ(i : Nat)=>(0 : Int) + (i : Int)):=λl=>by
      induction l with
      | nil=>exact .nil
      | cons a l ih=>exact .cons (by show V.int (a : Int) = V.int (0 + (a : Int)); rw [Int.zero_add]) ih
    exact this _
theorem JU {o : OE α} : Ev K Er S OO OO σ (BC Zc) (oL o) (.ok []):=λH Q w s P=>⟨Nat.zero_le _, λp hp=>P (.ref p) [(p, .lst [])] _ (XE hp _) (w.new hp rfl) (UT hp) ⟨p, [], [], rfl, .nil, rfl⟩⟩
def FA {α : Type} (K : Fgg) (OO : List (List Xz)) (r : Enc α) (Q : List V -> Hp -> Prop) (as : List α) (H : Hp) : Prop:=∀ vs H', Xp H H' -> Paired (r K (hid H' OO)) vs as -> Q vs H'
def EvA {α : Type} (K : Fgg) (Er : Exc -> Hp -> Prop) (S : SC) (OO : List (List Xz)) (σ : St) (t : TA) (r : Enc α) (m : Rs (List α)) : Prop:=∀ H Q, W OO H -> S.p (hid H OO) -> PZ Er (FA K OO r Q) H m -> t σ H Q
theorem Yn {r : Enc α} : EvA K Er S OO σ Zc r (.ok []):=λH Q w s P=>P [] H (Xp.refl _) .nil
theorem Xn {te : TE} {t : TA} {r : Enc α} [z : MonoE r] {m : Rs α} {n : Rs (List α)} (he : EvS K Er S OO σ te r m) (ht : EvA K Er S OO σ t r n) : EvA K Er S OO σ (Xr te t) r (m.bind λa=>n.bind λas=>.ok (a :: as)):=λH Q w s P=>
  he.run w s (λb H H' s h vs H2 s2 p=>h vs H2 (s.trans s2) p) P λa x H1 s1 w1 q1 r1 P1=>by
    refine ht H1 _ w1 q1 ?_
    cases e : n with
    | bad=>rw [e] at P1; exact P1
    | err x=>rw [e] at P1; exact P1
    | ok as=>rw [e] at P1; exact λvs H2 s2 p=>P1 (x :: vs) H2 s2 (.cons (z.mono (Xj s2) r1) p)
theorem ZO {t : TA} {r : Enc α} [z : MonoE r] {m : Rs (List α)} (h : EvA K Er S OO σ t r m) : Ev K Er S OO OO σ (BC t) (oL (oF r)) (m.bind λas=>chk (as.length <= sizeLine) (.ok as)):=λH Q w s P=>by
  refine h H _ w s ?_
  cases e : m with
  | bad=>rw [e] at P; exact P
  | err x=>rw [e] at P; exact P
  | ok as=>
    rw [e] at P
    intro vs H1 s1 p
    obtain ⟨c, hc, P3⟩:=PZ.okOf (λx=>Qj) (show PZ Er _ H (chk (as.length <= sizeLine) (.ok as)) from P)
    obtain ⟨h1, h2⟩:=Zh hc
    cases h2
    exact ⟨by rw [Paired.len p]; exact h1, Ep (w.keep s1) p (FO.tr _ _ _ s1 P3)⟩
theorem QX {t : TA} {r : Enc α} [z : MonoE r] {m : Rs (List α)} (h : EvA K Er S OO σ t r m) : EvS K Er S OO σ (IF t) (rPL r) (m.bind λas=>chk (as.length <= sizeLine) (.ok as)):=λH Q w s P=>by
  refine h H _ w s ?_
  cases e : m with
  | bad=>rw [e] at P; exact P
  | err x=>rw [e] at P; exact P
  | ok as=>
    rw [e] at P
    intro vs H1 s1 p
    obtain ⟨c, hc, P3⟩:=PZ.okOf (λx=>Qj) (show PZ Er _ H (chk (as.length <= sizeLine) (.ok as)) from P)
    obtain ⟨h1, h2⟩:=Zh hc
    cases h2
    have w1:=w.keep s1
    refine ⟨by rw [Paired.len p]; exact h1, λa ha=>P3 _ _ (s1.trans (XE ha _)) ⟨a, vs, rfl, Qv w1 ha, Paired.imp2 (λ_ _ q=>z.mono (Xj (XE ha _)) q) p⟩⟩
theorem JB {ta tb : TE} {r : Enc α} {q : Enc β} [z : MonoE r] [y : MonoE q] {ma : Rs α} {mb : Rs β} (ha : EvS K Er S OO σ ta r ma) (hb : EvS K Er S OO σ tb q mb) : EvS K Er S OO σ (IF (Xr ta (Xr tb Zc))) (rP2 r q) (ma.bind λa=>mb.bind λb=>.ok (a, b)):=λH Q w s P=>
  ha.run w s FS.tr P λa x H1 s1 w1 q1 r1 P1=>hb.run w1 q1 FS.tr P1 λb y' H2 s2 w2 q2 r2 P2=>
    ⟨by show 2 <= sizeLine; decide, λp hp=>P2 _ _ (XE hp _) ⟨p, x, y', rfl, Qv w2 hp, z.mono ((Xj s2).trans (Xj (XE hp _))) r1, y.mono (Xj (XE hp _)) r2⟩⟩
theorem JF {ta tb tc : TE} {r : Enc α} {q : Enc β} {t : Enc γ} [z : MonoE r] [y : MonoE q] [x : MonoE t] {ma : Rs α} {mb : Rs β} {mc : Rs γ} (ha : EvS K Er S OO σ ta r ma) (hb : EvS K Er S OO σ tb q mb) (hc : EvS K Er S OO σ tc t mc) :
    EvS K Er S OO σ (IF (Xr ta (Xr tb (Xr tc Zc)))) (rP3 r q t) (ma.bind λa=>mb.bind λb=>mc.bind λc=>.ok (a, b, c)):=λH Q w s P=>
  ha.run w s FS.tr P λa x' H1 s1 w1 q1 r1 P1=>hb.run w1 q1 FS.tr P1 λb y' H2 s2 w2 q2 r2 P2=>hc.run w2 q2 FS.tr P2 λc z' H3 s3 w3 q3 r3 P3=>
    ⟨by show 3 <= sizeLine; decide, λp hp=>P3 _ _ (XE hp _) ⟨p, x', y', z', rfl, Qv w3 hp, z.mono (((Xj s2).trans (Xj s3)).trans (Xj (XE hp _))) r1, y.mono ((Xj s3).trans (Xj (XE hp _))) r2, x.mono (Xj (XE hp _)) r3⟩⟩
end
section
variable {K : Fgg} {Er : Exc -> Hp -> Prop} {S : SC} {OO OO' OO2 : List (List Xz)} {σ : St} {α β γ ρ ι : Type} {α1 α2 α3 α4 α5 α6 : Type}
def noE (m : Rs α) : Rs α:=match m with
  | .ok a=>.ok a
  | _=>.bad
theorem VW {m : Rs α} {a : α} (h : noE m = .ok a) : m = .ok a:=by
  cases m with
  | ok b=>exact h
  | bad=>cases h
  | err x=>cases h
theorem V9 {m : Rs α} {x : Exc} : noE m ≠ .err x:=by cases m <;> exact λz=>nomatch z
def FF (K : Fgg) (o : OE α) (Q : VK) (a : α) (H : Hp) : Prop:=∀ v C H', W [C] H' -> Xp H (hid H' [C]) -> o K (hid H' [C]) v a C -> Q v H'
def sp1 (r1 : Enc α1) (o : OE ρ) (f : α1 -> Rs ρ) (K : Fgg) : Sp:=λvs H Q _=>∃ v1 a1 b, vs = [v1] /\ r1 K H v1 a1 /\ f a1 = .ok b /\ FF K o Q b H
def sp2 (r1 : Enc α1) (r2 : Enc α2) (o : OE ρ) (f : α1 -> α2 -> Rs ρ) (K : Fgg) : Sp:=λvs H Q _=>∃ v1 v2 a1 a2 b, vs = [v1, v2] /\ r1 K H v1 a1 /\ r2 K H v2 a2 /\ f a1 a2 = .ok b /\ FF K o Q b H
def sp3 (r1 : Enc α1) (r2 : Enc α2) (r3 : Enc α3) (o : OE ρ) (f : α1 -> α2 -> α3 -> Rs ρ) (K : Fgg) : Sp:=λvs H Q _=>∃ v1 v2 v3 a1 a2 a3 b, vs = [v1, v2, v3] /\ r1 K H v1 a1 /\ r2 K H v2 a2 /\ r3 K H v3 a3 /\ f a1 a2 a3 = .ok b /\ FF K o Q b H
def sp5 (r1 : Enc α1) (r2 : Enc α2) (r3 : Enc α3) (r4 : Enc α4) (r5 : Enc α5) (o : OE ρ) (f : α1 -> α2 -> α3 -> α4 -> α5 -> Rs ρ) (K : Fgg) : Sp:=λvs H Q _=>∃ v1 v2 v3 v4 v5 a1 a2 a3 a4 a5 b, vs = [v1, v2, v3, v4, v5] /\ r1 K H v1 a1 /\ r2 K H v2 a2 /\ r3 K H v3 a3 /\ r4 K H v4 a4 /\ r5 K H v5 a5 /\ f a1 a2 a3 a4 a5 = .ok b /\ FF K o Q b H
theorem MJ {C : List Xz} {H H' : Hp} (w : W OO H) (w' : W [C] H') (m' : Xp H (hid H' [C])) : W (C :: OO) H' /\ Xp (hid H OO) (hid H' (C :: OO)) /\ VH (hid H' [C]) (hid H' (C :: OO)):=by
  have s : Xp H H':=m'.trans Xv
  have f1 : fl [C] = C.map (·.1):=by simp [fl]
  have hd : ∀ b, b ∈ fl OO -> b ∉ C.map (·.1):=λb hb hc=>by
    obtain ⟨u, hu⟩:=Ft hb
    exact (X6 (m' _ _ (w.tr _ hu))).2 (by rw [f1]; exact hc)
  have w2 : W (C :: OO) H':=by
    refine ⟨λc hc=>?_, ?_, λc hc=>?_⟩
    . rw [List.flatten_cons, List.mem_append] at hc
      rcases hc with hc | hc
      . exact w'.tr c (by simp [hc])
      . exact s _ _ (w.tr c hc)
    . rw [XU]
      refine List.nodup_append.mpr ⟨by rw [← f1]; exact w'.nd, w.nd, λa ha b hb e=>?_⟩
      subst e; exact hd a hb ha
    . rw [List.flatten_cons, List.mem_append] at hc
      rcases hc with hc | hc
      . exact w'.mu c (by simp [hc])
      . exact w.mu c hc
  refine ⟨w2, λb u q=>?_, λb u q i=>?_⟩
  . obtain ⟨q1, q2⟩ := X6 q
    obtain ⟨q3, q4⟩:=X6 (m' _ _ q1)
    refine Y9 q3 ?_
    rw [XU, List.mem_append]
    exact λz=>z.elim (λz=>q4 (by rw [f1]; exact z)) q2
  . exact w2.i b u (X6 q).1 i
theorem Ja {o : OE α} [z : FlatO o] {Q : VK} {b : α} {H : Hp} (w : W OO H) (P : FO K OO OO o Q b H) : FF K o Q b H:=λv C H' w' m' ho=>by
  obtain ⟨w2, h2, h3⟩:=MJ w w' m'
  exact P v C H' (m'.trans Xv) w2 h2 (z.flat h3 ho)
theorem ZE {ta : TE} {r1 : Enc α1} {o : OE ρ} [FlatO o] {f : α1 -> Rs ρ} {ma : Rs α1} (ha : EvB K Er S OO σ ta r1 ma) : Ev K Er S OO OO σ (QM (sp1 r1 o f K) [] E0 (Xr ta Zc)) o (ma.bind λa=>noE (f a)):=λH Q w s P=>
  ha.run w s FO.tr P λa x H1 s1 w1 q1 r1 P1=>by
    obtain ⟨b, hb, P2⟩:=P1.okOf λx=>V9
    exact ⟨x, a, b, rfl, r1, VW hb, Ja w1 P2⟩
theorem Yg {ta tb : TE} {r1 : Enc α1} {r2 : Enc α2} [z1 : MonoE r1] {o : OE ρ} [FlatO o] {f : α1 -> α2 -> Rs ρ} {ma : Rs α1} {mb : Rs α2} (ha : EvB K Er S OO σ ta r1 ma) (hb : EvB K Er S OO σ tb r2 mb) :
    Ev K Er S OO OO σ (QM (sp2 r1 r2 o f K) [] E0 (Xr ta (Xr tb Zc))) o (ma.bind λa=>mb.bind λb=>noE (f a b)):=λH Q w s P=>
  ha.run w s FO.tr P λa x H1 s1 w1 q1 r1 P1=>hb.run w1 q1 FO.tr P1 λb y H2 s2 w2 q2 r2 P2=>by
    obtain ⟨c, hc, P3⟩:=P2.okOf λx=>V9
    exact ⟨x, y, a, b, c, rfl, z1.mono s2 r1, r2, VW hc, Ja w2 P3⟩
theorem Z3 {ta tb tc : TE} {r1 : Enc α1} {r2 : Enc α2} {r3 : Enc α3} [z1 : MonoE r1] [z2 : MonoE r2] {o : OE ρ} [FlatO o] {f : α1 -> α2 -> α3 -> Rs ρ} {ma : Rs α1} {mb : Rs α2} {mc : Rs α3} (ha : EvB K Er S OO σ ta r1 ma) (hb : EvB K Er S OO σ tb r2 mb) (hc : EvB K Er S OO σ tc r3 mc) :
    Ev K Er S OO OO σ (QM (sp3 r1 r2 r3 o f K) [] E0 (Xr ta (Xr tb (Xr tc Zc)))) o (ma.bind λa=>mb.bind λb=>mc.bind λc=>noE (f a b c)):=λH Q w s P=>
  ha.run w s FO.tr P λa x H1 s1 w1 q1 r1 P1=>hb.run w1 q1 FO.tr P1 λb y H2 s2 w2 q2 r2 P2=>hc.run w2 q2 FO.tr P2 λc z H3 s3 w3 q3 r3 P3=>by
    obtain ⟨d, hd, P4⟩:=P3.okOf λx=>V9
    exact ⟨x, y, z, a, b, c, d, rfl, z1.mono (s2.trans s3) r1, z2.mono s3 r2, r3, VW hd, Ja w3 P4⟩
theorem Jv {ta tb tc td te : TE} {r1 : Enc α1} {r2 : Enc α2} {r3 : Enc α3} {r4 : Enc α4} {r5 : Enc α5} [z1 : MonoE r1] [z2 : MonoE r2] [z3 : MonoE r3] [z4 : MonoE r4] {o : OE ρ} [FlatO o] {f : α1 -> α2 -> α3 -> α4 -> α5 -> Rs ρ} {ma : Rs α1} {mb : Rs α2} {mc : Rs α3} {md : Rs α4} {me : Rs α5} (ha : EvB K Er S OO σ ta r1 ma) (hb : EvB K Er S OO σ tb r2 mb) (hc : EvB K Er S OO σ tc r3 mc) (hd : EvB K Er S OO σ td r4 md) (he : EvB K Er S OO σ te r5 me) :
    Ev K Er S OO OO σ (QM (sp5 r1 r2 r3 r4 r5 o f K) [] E0 (Xr ta (Xr tb (Xr tc (Xr td (Xr te Zc)))))) o (ma.bind λa=>mb.bind λb=>mc.bind λc=>md.bind λd=>me.bind λe=>noE (f a b c d e)):=λH Q w s P=>
  ha.run w s FO.tr P λa x H1 s1 w1 q1 r1 P1=>hb.run w1 q1 FO.tr P1 λb y H2 s2 w2 q2 r2 P2=>hc.run w2 q2 FO.tr P2 λc z H3 s3 w3 q3 r3 P3=>hd.run w3 q3 FO.tr P3 λd u H4 s4 w4 q4 r4 P4=>he.run w4 q4 FO.tr P4 λe t H5 s5 w5 q5 r5 P5=>by
    obtain ⟨g, hg, P6⟩:=P5.okOf λx=>V9
    exact ⟨x, y, z, u, t, a, b, c, d, e, g, rfl, z1.mono (s2.trans (s3.trans (s4.trans s5))) r1, z2.mono (s3.trans (s4.trans s5)) r2, z3.mono (s4.trans s5) r3, z4.mono s5 r4, r5, VW hg, Ja w5 P6⟩
structure Jn (γ ι : Type) where
  oo : ι -> List (List Xz)
  ss : ι -> St
  sc : γ -> ι -> SC
inductive Ctl (ρ γ : Type) where
  | ret (r : ρ) | nx (g : γ)
def FTd (K : Fgg) (o : OE ρ) (D : Ends) (r : ρ) (h : Hp) : Prop:=∀ v C OO' H', W (C :: OO') H' -> Xp h (hid H' (C :: OO')) -> o K (hid H' (C :: OO')) v r C -> D.rt v H'
def FNd (J : Jn γ ι) (D : Ends) (g : γ) (h : Hp) : Prop:=∀ x H', W (J.oo x) H' -> Xp h (hid H' (J.oo x)) -> (J.sc g x).p (hid H' (J.oo x)) -> D.nx (J.ss x) H'
def FCd (K : Fgg) (o : OE ρ) (J : Jn γ ι) (D : Ends) (c : Ctl ρ γ) (h : Hp) : Prop:=match c with
  | .ret r=>FTd K o D r h
  | .nx g=>FNd J D g h
class FdOk (Fd : Ends -> β -> Hp -> Prop) : Prop where
  tr : ∀ D b h h', Xp h h' -> Fd D b h -> Fd D b h'
instance {o : OE ρ} : FdOk (FTd K o):=⟨λD b h h' s q v C O H' w m x=>q v C O H' w (s.trans m) x⟩
instance {J : Jn γ ι} : FdOk (FNd J):=⟨λD b h h' s q x H' w m y=>q x H' w (s.trans m) y⟩
instance {o : OE ρ} {J : Jn γ ι} : FdOk (FCd K o J):=⟨λD b h h' s q=>by
  cases b with
  | ret r=>exact λv C O H' w m x=>q v C O H' w (s.trans m) x
  | nx g=>exact λx H' w m y=>q x H' w (s.trans m) y⟩
theorem PZ.tr {F : β -> Hp -> Prop} (hF : ∀ b H H', Xp H H' -> F b H -> F b H') {H H' : Hp} {m : Rs β} (s : Xp H H') (P : PZ Er F H m) : PZ Er F H' m:=by
  cases m with
  | bad=>exact P
  | err x=>exact λH2 s2=>P H2 (s.trans s2)
  | ok b=>exact hF b H H' s P
def Sv (Er : Exc -> Hp -> Prop) (S : SC) (OO : List (List Xz)) (σ : St) (t : TS) (Fd : Ends -> β -> Hp -> Prop) (m : Rs β) : Prop:=∀ H D, W OO H -> S.p (hid H OO) -> PZ Er (Fd D) (hid H OO) m -> t D σ H
variable {Fd : Ends -> β -> Hp -> Prop} [fd : FdOk Fd] {u : TS}
theorem Ev.st {te : TE} {o : OE α} {m : Rs α} (he : Ev K Er S OO OO' σ te o m) {H : Hp} {D : Ends} {Q : VK} (w : W OO H) (s : S.p (hid H OO)) {f : α -> Rs β} (P : PZ Er (Fd D) (hid H OO) (m.bind f))
    (hk : ∀ a v C H', W (C :: OO') H' -> S.p (hid H' (C :: OO')) -> o K (hid H' (C :: OO')) v a C -> PZ Er (Fd D) (hid H' (C :: OO')) (f a) -> Q v H') : te σ H Q:=by
  refine he H Q w s ?_
  cases m with
  | bad=>exact P
  | err x=>exact λH' s'=>P H' (Xv.trans s')
  | ok a=>exact λv C H' s' w' m' ho=>hk a v C H' w' (S.mono _ _ m' s) ho (PZ.tr (fd.tr D) m' P)
theorem EvB.st {te : TE} {r : Enc α} {m : Rs α} (he : EvB K Er S OO σ te r m) {H : Hp} {D : Ends} {Q : VK} (w : W OO H) (s : S.p (hid H OO)) {f : α -> Rs β} (P : PZ Er (Fd D) (hid H OO) (m.bind f))
    (hk : ∀ a v H', Xp H H' -> W OO H' -> S.p (hid H' OO) -> r K H' v a -> PZ Er (Fd D) (hid H' OO) (f a) -> Q v H') : te σ H Q:=by
  refine he H Q w s ?_
  cases m with
  | bad=>exact P
  | err x=>exact λH' s'=>P H' (Xv.trans s')
  | ok a=>exact λv H' s' hr=>hk a v H' s' (w.keep s') (S.mono _ _ (Xj s') s) hr (PZ.tr (fd.tr D) (Xj s') P)
theorem EvS.st {te : TE} {r : Enc α} {m : Rs α} (he : EvS K Er S OO σ te r m) {H : Hp} {D : Ends} {Q : VK} (w : W OO H) (s : S.p (hid H OO)) {f : α -> Rs β} (P : PZ Er (Fd D) (hid H OO) (m.bind f))
    (hk : ∀ a v H', Xp H H' -> W OO H' -> S.p (hid H' OO) -> r K (hid H' OO) v a -> PZ Er (Fd D) (hid H' OO) (f a) -> Q v H') : te σ H Q:=by
  refine he H Q w s ?_
  cases m with
  | bad=>exact P
  | err x=>exact λH' s'=>P H' (Xv.trans s')
  | ok a=>exact λv H' s' hr=>hk a v H' s' (w.keep s') (S.mono _ _ (Xj s') s) hr (PZ.tr (fd.tr D) (Xj s') P)
theorem EvT.st {tt : TT} {m : Rs Bool} (he : EvT Er S OO σ tt m) {H : Hp} {D : Ends} {Q : Bool -> Hp -> Prop} (w : W OO H) (s : S.p (hid H OO)) {f : Bool -> Rs β} (P : PZ Er (Fd D) (hid H OO) (m.bind f))
    (hk : ∀ b H', W OO H' -> S.p (hid H' OO) -> PZ Er (Fd D) (hid H' OO) (f b) -> Q b H') : tt σ H Q:=by
  refine he H Q w s ?_
  cases m with
  | bad=>exact P
  | err x=>exact λH' s'=>P H' (Xv.trans s')
  | ok a=>exact λH' s'=>hk a H' (w.keep s') (S.mono _ _ (Xj s') s) (PZ.tr (fd.tr D) (Xj s') P)
theorem set_set {OO : List (List Xz)} {k : Nat} {C : List Xz} : (OO.set k C).set k [] = OO.set k []:=by simp
theorem NJ {C : List Xz} {H : Hp} {k : Nat} (w : W (C :: OO) H) (hk : k < OO.length) : W (OO.set k C) H /\ Xp (hid H (C :: OO)) (hid H (OO.set k C)):=by
  have h1:=XW (OO:=OO) (k:=k) (C:=OO[k]) (by simp [hk])
  have h2:=XW (OO:=OO.set k C) (k:=k) (C:=C) (by simp [hk])
  rw [set_set] at h2
  have h3 : (OO.set k C).flatten.Perm (C ++ (OO.set k []).flatten):=by simpa using h2.symm
  have h4 : (C :: OO).flatten.Perm (C ++ (OO[k] ++ (OO.set k []).flatten)):=by
    rw [List.flatten_cons]; exact (by simpa using h1.symm : OO.flatten.Perm (OO[k] ++ (OO.set k []).flatten)).append_left C
  have h5 : (C ++ (OO.set k []).flatten).Sublist (C ++ (OO[k] ++ (OO.set k []).flatten)):=List.Sublist.append (List.Sublist.refl _) (List.sublist_append_right _ _)
  have w1 : W [C ++ (OO[k] ++ (OO.set k []).flatten)] H:=w.of (by simpa using h4.symm)
  have w2 : W [C ++ (OO.set k []).flatten] H:=w1.sub (by simpa using h5)
  refine ⟨w2.of (by simpa using h3), Zg (Xp.refl _) λb hb=>?_⟩
  obtain ⟨o, ho⟩:=Ft hb
  exact V6 (h4.mem_iff.mpr (h5.mem (h3.mem_iff.mp ho)))
theorem Yu {te : TE} {o : OE α} [MonoO o] {m : Rs α} {f : α -> Rs β} (i k : Nat) (he : Ev K Er S OO OO' σ te o m) (hk : k < OO'.length) (hr : ∀ a v C, Sv Er (S.addO K o v a C) (OO'.set k C) (σ.set i (some v)) u Fd (f a)) : Sv Er S OO σ (Jb (EL te (QP i)) u) Fd (m.bind f):=λH D w s P=>
  he.st w s P λa v C H' w' s' ho P'=>by
    obtain ⟨w2, h2⟩:=NJ w' hk
    exact hr a v C H' D w2 ⟨S.mono _ _ h2 s', MonoO.mono h2 ho⟩ (PZ.tr (fd.tr D) h2 P')
theorem X1 {te : TE} {r : Enc α} [MonoE r] {m : Rs α} {f : α -> Rs β} (i : Nat) (he : EvS K Er S OO σ te r m) (hr : ∀ a v, Sv Er (S.add K r v a) OO (σ.set i (some v)) u Fd (f a)) : Sv Er S OO σ (Jb (EL te (QP i)) u) Fd (m.bind f):=λH D w s P=>
  he.st w s P λa v H' s1 w' s' ho P'=>hr a v H' D w' ⟨s', ho⟩ P'
theorem Xx {te : TE} {o : OE ρ} {m : Rs ρ} (he : Ev K Er S OO OO' σ te o m) : Sv Er S OO σ (Jb (MS te) u) (FTd K o) m:=λH D w s P=>
  he H _ w s (by
    cases m with
    | bad=>exact P
    | err x=>exact λH' s'=>P H' (Xv.trans s')
    | ok a=>exact λv C H' s' w' m' ho=>P v C OO' H' w' m' ho)
theorem Hj {J : Jn γ ι} {t : TS} {o : OE ρ} {m : Rs ρ} (h : Sv Er S OO σ t (FTd K o) m) : Sv Er S OO σ t (FCd K o J) (m.bind λr=>.ok (.ret r)):=λH D w s P=>h H D w s (by
  cases m with
  | bad=>exact P
  | err x=>exact P
  | ok a=>exact P)
theorem ZW {J : Jn γ ι} {t : TS} {o : OE ρ} {m : Rs γ} (h : Sv Er S OO σ t (FNd J) m) : Sv Er S OO σ t (FCd K o J) (m.bind λr=>.ok (.nx r)):=λH D w s P=>h H D w s (by
  cases m with
  | bad=>exact P
  | err x=>exact P
  | ok a=>exact P)
theorem XA {J : Jn γ ι} (x : ι) (g : γ) (h1 : OO = J.oo x) (h2 : σ = J.ss x) (h3 : ∀ h, S.p h -> (J.sc g x).p h) : Sv Er S OO σ FC (FNd J) (.ok g):=λH D w s P=>by
  subst h1 h2
  exact P x H w (Xp.refl _) (h3 _ s)
theorem Qd {o : OE ρ} {c : TT} {t1 : TS} {mc : Rs Bool} {m1 m2 : Rs ρ} (hc : EvT Er S OO σ c mc) (h1 : Sv Er S OO σ t1 (FTd K o) m1) (h2 : Sv Er S OO σ u (FTd K o) m2) : Sv Er S OO σ (Jb (Mg c t1 FC) u) (FTd K o) (mc.bind λb=>if b = true then m1 else m2):=λH D w s P=>
  hc.st (Fd:=FTd K o) w s P λb H' w' s' P'=>by
    cases b with
    | true=>rw [if_pos rfl] at P' ⊢; exact h1 H' _ w' s' P'
    | false=>exact h2 H' D w' s' P'
theorem QQ {o : OE ρ} {J : Jn γ ι} {c : TT} {t1 : TS} {mc : Rs Bool} {m1 : Rs ρ} {m2 : Rs (Ctl ρ γ)} (hc : EvT Er S OO σ c mc) (h1 : Sv Er S OO σ t1 (FTd K o) m1) (h2 : Sv Er S OO σ u (FCd K o J) m2) : Sv Er S OO σ (Jb (Mg c t1 FC) u) (FCd K o J) (mc.bind λb=>if b = true then m1.bind (λr=>.ok (.ret r)) else m2):=λH D w s P=>
  hc.st (Fd:=FCd K o J) w s P λb H' w' s' P'=>by
    cases b with
    | true=>
      rw [if_pos rfl] at P' ⊢
      refine h1 H' _ w' s' ?_
      cases m1 with
      | bad=>exact P'
      | err x=>exact P'
      | ok a=>exact P'
    | false=>exact h2 H' D w' s' P'
theorem ZU {c : TT} {t1 t2 : TS} {mc : Rs Bool} {m1 m2 : Rs β} (hc : EvT Er S OO σ c mc) (h1 : Sv Er S OO σ t1 Fd m1) (h2 : Sv Er S OO σ t2 Fd m2) : Sv Er S OO σ (Mg c t1 t2) Fd (mc.bind λb=>if b = true then m1 else m2):=λH D w s P=>
  hc.st w s P λb H' w' s' P'=>by
    cases b with
    | true=>rw [if_pos rfl] at P' ⊢; exact h1 H' _ w' s' P'
    | false=>exact h2 H' D w' s' P'
theorem Zz {J : Jn γ ι} {t : TS} {m : Rs γ} {f : γ -> Rs β} (hb : Sv Er S OO σ t (FNd J) m) (hr : ∀ g x, Sv Er (J.sc g x) (J.oo x) (J.ss x) u Fd (f g)) : Sv Er S OO σ (Jb t u) Fd (m.bind f):=λH D w s P=>
  hb H _ w s (by
    cases m with
    | bad=>exact P
    | err x=>exact P
    | ok g=>exact λx H' w' m' q=>hr g x H' D w' q (PZ.tr (fd.tr D) m' P))
def Z4 (f : γ -> Rs ρ) : Ctl ρ γ -> Rs ρ
  | .ret r=>.ok r
  | .nx g=>f g
def Zm {δ : Type} (f : γ -> Rs (Ctl ρ δ)) : Ctl ρ γ -> Rs (Ctl ρ δ)
  | .ret r=>.ok (.ret r)
  | .nx g=>f g
theorem Fb {δ κ : Type} {o : OE ρ} {J : Jn γ ι} {J2 : Jn δ κ} {t : TS} {m : Rs (Ctl ρ γ)} {f : γ -> Rs (Ctl ρ δ)} (hb : Sv Er S OO σ t (FCd K o J) m) (hr : ∀ g x, Sv Er (J.sc g x) (J.oo x) (J.ss x) u (FCd K o J2) (f g)) : Sv Er S OO σ (Jb t u) (FCd K o J2) (m.bind (Zm f)):=λH D w s P=>
  hb H _ w s (by
    cases m with
    | bad=>exact P
    | err x=>exact P
    | ok g=>
      cases g with
      | ret r=>exact P
      | nx g=>exact λx H' w' m' q=>hr g x H' D w' q (PZ.tr (FdOk.tr D) m' P))
theorem Lw {t : TS} {o : OE α} {r : Enc α} [z : FrzC o r] [MonoE r] {v : V} {a : α} {C : List Xz} {m : Rs β} (k : Nat) (hk : OO[k]? = some C) (h : ∀ x, S.p x -> o K x v a C) (hr : Sv Er (S.add K r v a) (OO.set k []) σ t Fd m) : Sv Er S OO σ t Fd m:=λH D w s P=>by
  have hp:=XW hk
  have w1 : W (C :: OO.set k []) H:=w.of hp
  have hs : Xp (hid H OO) (hid H (OO.set k [])):=by
    rw [← XN hp]
    exact Zg (Xp.refl _) λb hb=>by rw [XU]; simp [hb]
  refine hr H D w1.tail ⟨S.mono _ _ hs s, z.frz (h _ s) hs λc hc=>Y9 (w1.cell c hc) ?_⟩ (PZ.tr (fd.tr D) hs P)
  have:=w1.nd
  rw [XU] at this
  exact λhb=>(List.nodup_append.mp this).2.2 c.1 (List.mem_map.mpr ⟨c, hc, rfl⟩) c.1 hb rfl
theorem Nz {C D C' : List Xz} {H : Hp} {k : Nat} {p : Addr} {o : HO} (w : W (D :: OO) H) (hk : OO[k]? = some C) (hp : p ∈ C.map (·.1)) (hC : (C'.map (·.1)).Perm ((C ++ D).map (·.1))) (ht : ∀ c ∈ C', upd H p o c.1 = some c.2) (hm : ∀ c ∈ C', IH c.2 = true) :
    W (OO.set k C') (upd H p o) /\ hid (upd H p o) (OO.set k C') = hid H (D :: OO):=by
  have hlt : k < OO.length:=by
    rcases Nat.lt_or_ge k OO.length with h | h
    . exact h
    . rw [List.getElem?_eq_none h] at hk; cases hk
  have h1:=XW hk
  have h2:=XW (OO:=OO.set k C') (k:=k) (C:=C') (by simp [hlt])
  rw [set_set] at h2
  have h3 : (OO.set k C').flatten.Perm (C' ++ (OO.set k []).flatten):=by simpa using h2.symm
  have h4 : (D :: OO).flatten.Perm (D ++ (C ++ (OO.set k []).flatten)):=by
    rw [List.flatten_cons]; exact (by simpa using h1.symm : OO.flatten.Perm (C ++ (OO.set k []).flatten)).append_left D
  have hfl : (fl (OO.set k C')).Perm (fl (D :: OO)):=by
    unfold fl
    refine (h3.map _).trans (List.Perm.trans ?_ (h4.map _).symm)
    simp only [List.map_append]
    refine (hC.append_right _).trans ?_
    simp only [List.map_append]
    rw [← List.append_assoc]
    exact List.perm_append_comm.append_right _
  have nd:=w.nd
  refine ⟨⟨λc hc=>?_, hfl.nodup_iff.mpr nd, λc hc=>?_⟩, ?_⟩
  . rcases List.mem_append.mp (h3.mem_iff.mp hc) with hc | hc
    . exact ht c hc
    . have hne : c.1 ≠ p:=λe=>by
        have nd2 : ((D ++ (C ++ (OO.set k []).flatten)).map (·.1)).Nodup:=(h4.map _).nodup_iff.mp nd
        simp only [List.map_append] at nd2
        have nd3:=(List.nodup_append.mp nd2).2.1
        exact (List.nodup_append.mp nd3).2.2 p hp c.1 (List.mem_map.mpr ⟨c, hc, rfl⟩) e.symm
      rw [XI hne]
      exact w.tr c (h4.mem_iff.mpr (by simp [hc]))
  . rcases List.mem_append.mp (h3.mem_iff.mp hc) with hc | hc
    . exact hm c hc
    . exact w.mu c (h4.mem_iff.mpr (by simp [hc]))
  . funext b
    unfold hid
    by_cases hb : b ∈ fl (D :: OO)
    . rw [if_pos hb, if_pos (hfl.mem_iff.mpr hb)]
    . rw [if_neg hb, if_neg λz => hb (hfl.mem_iff.mp z)]
      refine XI λe=>hb ?_
      rw [e]
      obtain ⟨c, hc, rfl⟩:=List.mem_map.mp hp
      exact V6 (h4.mem_iff.mpr (by simp [hc]))
theorem ZR {Cs : List (List Xz)} {D : List Xz} : (Cs ++ [D]).flatten = Cs.flatten ++ D:=by simp
theorem Vq {ta : TE} {o : OE α} [MonoO o] {m : Rs α} {f : List α -> Rs β} {v : V} {as : List α} {C : List Xz} (i k : Nat) (hσ : σ[i]? = some (some v)) (hk : OO[k]? = some C) (hk' : OO'[k]? = some C) (h : ∀ x, S.p x -> oL o K x v as C) (he : Ev K Er S OO OO' σ ta o m)
    (hr : ∀ a C', Sv Er (S.addO K (oL o) v (as ++ [a]) C') (OO'.set k C') σ u Fd (f (as ++ [a]))) : Sv Er S OO σ (Jb (Fv (tBM K "list" Gv (UX i) (Xr ta Zc))) u) Fd (m.bind λa=>chk (as.length < sizeLine) (f (as ++ [a]))):=λH D w s P=>by
  obtain ⟨p, xs, Cs, e, q, c⟩:=h _ s
  subst c
  have hH : H p = some (.lst xs):=w.tr (p, .lst xs) (List.mem_flatten.mpr ⟨_, List.mem_of_getElem? hk, Zq⟩)
  refine ⟨v, hσ, by rw [e]; exact .inl ⟨rfl, _, SqL.of hH⟩, he.st w s P λa y D' H' w' s' ho P'=>?_⟩
  obtain ⟨p', xs', Cs', e2, q2, c2⟩:=h _ s'
  rw [e] at e2; cases e2
  have c3 : (p, HO.lst xs) = (p, HO.lst xs') /\ Cs.flatten = Cs'.flatten:=by
    injection c2 with h1 h2
    exact ⟨h1, h2⟩
  obtain ⟨c3, c4⟩:=c3
  cases c3
  have hH' : H' p = some (.lst xs):=w'.tr (p, .lst xs) (by rw [List.flatten_cons]; exact List.mem_append_right _ (List.mem_flatten.mpr ⟨_, List.mem_of_getElem? hk', Zq⟩))
  cases hlt : decide (as.length < sizeLine) with
  | false=>rw [chk, if_neg (by simpa using hlt)] at P'; exact P'.elim
  | true=>
    have hlt' : as.length < sizeLine:=by simpa using hlt
    rw [XG hlt'] at P'
    have wnd:=w'.nd
    have hcell : ∀ c ∈ (p, HO.lst (xs ++ [y])) :: (Cs' ++ [D']).flatten, upd H' p (.lst (xs ++ [y])) c.1 = some c.2:=λc hc=>by
      rcases List.mem_cons.mp hc with rfl | hc
      . exact Yp
      . have hp1 := XW hk'
        have w3 : W [D' ++ (((p, HO.lst xs) :: Cs.flatten) ++ (OO'.set k []).flatten)] H':=w'.of (by
          simp only [List.flatten_cons, List.flatten_nil, List.append_nil]
          exact (by simpa using hp1 : (((p, HO.lst xs) :: Cs.flatten) ++ (OO'.set k []).flatten).Perm OO'.flatten).append_left D')
        have hin : c ∈ D' ++ (((p, HO.lst xs) :: Cs.flatten) ++ (OO'.set k []).flatten):=by
          rw [ZR, List.mem_append] at hc
          rcases hc with hc | hc
          . rw [← c4] at hc; simp [hc]
          . simp [hc]
        have hne : c.1 ≠ p:=λee=>by
          have nd3:=w3.nd
          rw [ZR, List.mem_append, ← c4] at hc
          simp only [fl, List.flatten_cons, List.flatten_nil, List.append_nil, List.map_append, List.cons_append, List.map_cons] at nd3
          rw [List.nodup_append] at nd3
          obtain ⟨_, n2, n3⟩:=nd3
          rcases hc with hc | hc
          . exact (List.nodup_cons.mp n2).1 (List.mem_append_left _ (List.mem_map.mpr ⟨c, hc, ee⟩))
          . exact n3 c.1 (List.mem_map.mpr ⟨c, hc, rfl⟩) p Zq ee
        rw [XI hne]
        exact w3.tr c (by simpa using hin)
    obtain ⟨w4, h4⟩:=Nz (C':=(p, .lst (xs ++ [y])) :: (Cs' ++ [D']).flatten) w' hk' Zq (by simp [ZR, c4]) hcell (λc hc=>by
      rcases List.mem_cons.mp hc with rfl | hc
      . rfl
      . rw [ZR, List.mem_append, ← c4] at hc
        rcases hc with hc | hc
        . exact w'.mu c (by rw [List.flatten_cons]; exact List.mem_append_right _ (List.mem_flatten.mpr ⟨_, List.mem_of_getElem? hk', ZP _ hc⟩))
        . exact w'.mu c (by rw [List.flatten_cons]; exact List.mem_append_left _ hc))
    refine ⟨p, xs, y, e, rfl, hH', by rw [(P3.len q).1]; exact hlt', ?_⟩
    refine hr a _ _ D w4 ?_ (by rw [h4]; exact P')
    rw [h4]
    exact ⟨s', ⟨p, xs ++ [y], Cs' ++ [D'], e, q2.snoc ho, rfl⟩⟩
end
section
variable {K : Fgg} {Er : Exc -> Hp -> Prop} {S : SC} {OO OO' OO2 : List (List Xz)} {σ : St} {α β γ ρ ι δ ε : Type}
variable {Fd : Ends -> β -> Hp -> Prop} [fd : FdOk Fd] {u : TS}
def forN : List α -> γ -> (γ -> α -> Rs γ) -> Rs γ
  | [], g, _=>.ok g
  | a :: as, g, f=>(f g a).bind λg'=>forN as g' f
def forC : List α -> γ -> (γ -> α -> Rs (Ctl ρ γ)) -> Rs (Ctl ρ γ)
  | [], g, _=>.ok (.nx g)
  | a :: as, g, f=>(f g a).bind λc=>match c with
    | .ret r=>.ok (.ret r)
    | .nx g'=>forC as g' f
theorem XQ {m : Rs α} {f : α -> Rs β} {g : β -> Rs γ} : (m.bind f).bind g = m.bind λa=>(f a).bind g:=by cases m <;> rfl
structure Tgt (K : Fgg) (OO : List (List Xz)) (g : TG) (r : Enc α) (κ : Type) where
  set : κ -> St -> St
  sc : α -> κ -> SC -> SC
  ok : ∀ {H : Hp} {v : V} {a : α} {σ : St} {S : SC} {Q : St -> Hp -> Prop}, r K (hid H OO) v a -> S.p (hid H OO) -> (∀ x, (sc a x S).p (hid H OO) -> Q (set x σ) H) -> g v σ H Q
def tg1 {r : Enc α} [MonoE r] (i : Nat) : Tgt K OO (QP i) r V where
  set:=λv σ=>σ.set i (some v)
  sc:=λa v S=>S.add K r v a
  ok:=fun {H v a σ S Q} hr hs hq=>hq v ⟨hs, hr⟩
def tg2 {r : Enc α} {q : Enc β} [MonoE r] [MonoE q] (i j : Nat) : Tgt K OO (MN K 2 (Ba (QP i) (Ba (QP j) Na))) (rP2 r q) (V × V) where
  set:=λv σ=>(σ.set i (some v.1)).set j (some v.2)
  sc:=λa v S=>(S.add K r v.1 a.1).add K q v.2 a.2
  ok:=fun {H v a σ S Q} r9 hs hq=>by obtain ⟨p, x, y, e, h, h1, h2⟩:=r9; exact ⟨p, _, e, SqT.of (Xv _ _ h), rfl, x, [y], rfl, y, [], rfl, rfl, hq (x, y) ⟨⟨hs, h1⟩, h2⟩⟩
structure Walk (K : Fgg) (Er : Exc -> Hp -> Prop) (S : SC) (OO : List (List Xz)) (σ : St) (wi : TI) (r : Enc α) (m : Rs (List α)) : Prop where
  ok : ∀ {H : Hp} {R : It -> Hp -> Prop}, W OO H -> S.p (hid H OO) -> PZ Er (λas H=>∀ J H', Xp H H' ->
      (∀ (i : Nat) a, as[i]? = some a -> ∀ OO2 H2, W OO2 H2 -> Xp (hid H' OO) (hid H2 OO2) -> J.go i H2 /\ ∀ x H3, J.yld i H2 x H3 -> Xp H2 H3 /\ r K (hid H3 OO2) x a) ->
      (∀ OO2 H2, W OO2 H2 -> Xp (hid H' OO) (hid H2 OO2) -> J.stop as.length H2) -> R J H') H m -> wi σ H R
theorem X8 {te : TE} {r : Enc α} [z : MonoE r] {m : Rs (List α)} (he : EvS K Er S OO σ te (rV r) m) : Walk K Er S OO σ (F1 K te) r m:=⟨fun {H R} w s P=>by
  refine he H _ w s (P.imp λas _ h v H' s' ⟨p, xs, e, hp, pr⟩=>⟨p, e, ⟨xs, SqL.of (Xv _ _ hp)⟩, h _ H' s' ?_ ?_⟩)
  . intro i a ha OO2 H2 w2 m2
    obtain ⟨x, hx, rx⟩:=Paired.getR pr ha
    have hq : SqL K H2 p xs:=SqL.of (Xv _ _ (m2 _ _ hp))
    refine ⟨⟨xs, x, hq, hx⟩, λy H3 r9=>?_⟩
    obtain ⟨e3, hy⟩:=r9
    subst e3
    refine ⟨Xp.refl _, ?_⟩
    have:=hy xs hq
    rw [hx] at this
    cases this
    exact z.mono m2 rx
  . intro OO2 H2 w2 m2
    exact ⟨xs, SqL.of (Xv _ _ (m2 _ _ hp)), by rw [Paired.len pr]; exact Nat.le_refl _⟩⟩
theorem BM {te : TE} {r : Enc α} [z : MonoE r] {m : Rs (List α)} (he : EvS K Er S OO σ te (rPL r) m) : Walk K Er S OO σ (MO K te) r m:=⟨fun {H R} w s P=>by
  refine he H _ w s (P.imp λas _ h v H' s' ⟨p, xs, e, hp, pr⟩=>⟨p, e, ⟨xs, SqT.of (Xv _ _ hp)⟩, h _ H' s' ?_ ?_⟩)
  . intro i a ha OO2 H2 w2 m2
    obtain ⟨x, hx, rx⟩:=Paired.getR pr ha
    have hq : SqT K H2 p xs:=SqT.of (Xv _ _ (m2 _ _ hp))
    refine ⟨⟨xs, x, hq, hx⟩, λy H3 r9=>?_⟩
    obtain ⟨e3, hy⟩:=r9
    subst e3
    refine ⟨Xp.refl _, ?_⟩
    have:=hy xs hq
    rw [hx] at this
    cases this
    exact z.mono m2 rx
  . intro OO2 H2 w2 m2
    exact ⟨xs, SqT.of (Xv _ _ (m2 _ _ hp)), by rw [Paired.len pr]; exact Nat.le_refl _⟩⟩
def UD (as : List α) : List (Int × α):=(List.range as.length).map (λ(i : Nat)=>(i : Int)) |>.zip as
theorem DI {as : List α} {i : Nat} {p : Int × α} (h : (UD as)[i]? = some p) : p.1 = (i : Int) /\ as[i]? = some p.2:=by
  unfold UD at h
  rw [List.getElem?_zip_eq_some] at h
  obtain ⟨h1, h2⟩:=h
  rw [List.getElem?_map] at h1
  have hlt : i < as.length:=by
    rcases Nat.lt_or_ge i as.length with q | q
    . exact q
    . rw [List.getElem?_eq_none q] at h2; cases h2
  rw [List.getElem?_range hlt] at h1
  exact ⟨(Option.some.inj h1).symm, h2⟩
theorem Dh {as : List α} : (UD as).length = as.length:=by simp [UD]
theorem QU {te : TE} {r : Enc α} [z : MonoE r] {m : Rs (List α)} (he : EvS K Er S OO σ te (rV r) m) : Walk K Er S OO σ (IQ K te) (rP2 Xa r) (m.bind λas=>.ok (UD as)):=⟨fun {H R} w s P=>by
  refine he H _ w s ?_
  cases em : m with
  | bad=>rw [em] at P; exact P
  | err x=>rw [em] at P; exact P
  | ok as=>
    rw [em] at P
    intro v H' s' ⟨p, xs, e, hp, pr⟩
    refine ⟨p, e, ⟨xs, SqL.of (Xv _ _ hp)⟩, P _ H' s' ?_ ?_⟩
    . intro i a ha OO2 H2 w2 m2
      obtain ⟨ha1, ha2⟩:=DI ha
      obtain ⟨x, hx, rx⟩:=Paired.getR pr ha2
      have hq : SqL K H2 p xs:=SqL.of (Xv _ _ (m2 _ _ hp))
      refine ⟨⟨xs, x, hq, hx⟩, λy H3 h3=>?_⟩
      obtain ⟨b, x', rfl, hb, rfl, hy⟩:=h3
      have:=hy xs hq
      rw [hx] at this
      cases this
      refine ⟨XE hb _, ⟨b, .int i, x, rfl, Qv w2 hb, by show V.int _ = V.int _; rw [ha1], z.mono (m2.trans (Xj (XE hb _))) rx⟩⟩
    . intro OO2 H2 w2 m2
      exact ⟨xs, SqL.of (Xv _ _ (m2 _ _ hp)), by rw [Dh, Paired.len pr]; exact Nat.le_refl _⟩⟩
theorem Fy {lo hi : Int} {i : Nat} {a : Int} (h : (Qk lo hi)[i]? = some a) : a = lo + i /\ i < (hi - lo).toNat:=by
  unfold Qk at h
  rw [List.getElem?_map] at h
  rcases Nat.lt_or_ge i (hi - lo).toNat with q | q
  . rw [List.getElem?_range q] at h; exact ⟨(Option.some.inj h).symm, q⟩
  . rw [List.getElem?_eq_none (by simpa using q)] at h; cases h
theorem FW {lo hi : Int} : (Qk lo hi).length = (hi - lo).toNat:=by simp [Qk]
def Uy (lo hi : Int) : Rs (List Int):=chk (-(2 ^ 62) <= lo /\ lo < 2 ^ 62 /\ -(2 ^ 62) <= hi /\ hi < 2 ^ 62) (.ok (Qk lo hi))
theorem XH {te : TE} {m : Rs Int} (he : EvB K Er S OO σ te Xa m) : Walk K Er S OO σ (Lv (Xr te Zc)) Xa (m.bind λn=>Uy 0 n):=⟨fun {H R} w s P=>
  he.run w s (λas H H' s' h J H2 s2=>h J H2 (s'.trans s2)) P λn v H1 s1 w1 q1 r1 P1=>by
    obtain ⟨c, hc, P2⟩:=P1.okOf λx=>Qj
    obtain ⟨⟨_, _, h1, h2⟩, h3⟩:=Zh hc
    cases h3
    refine ⟨n, by rw [show v = .int n from r1], h1, h2, P2 _ H1 (Xp.refl _) (λi a ha OO2 H2 w2 m2=>?_) λOO2 H2 w2 m2=>?_⟩
    . obtain ⟨e1, e2⟩ := Fy ha
      rw [Int.sub_zero] at e2
      refine ⟨e2, λx H3 r9=>?_⟩
      obtain ⟨e3, e4⟩:=r9
      subst e3
      exact ⟨Xp.refl _, by rw [e4, e1]; rfl⟩
    . show n.toNat <= _
      rw [FW, Int.sub_zero]; exact Nat.le_refl _⟩
theorem Qg {wi : TI} {g : TG} {tb : TS} {r : Enc α} {κ : Type} {m : Rs (List α)} {body : γ -> α -> Rs γ} {f : γ -> Rs β} (J : Jn γ ι) (T : ∀ OO, Tgt K OO g r κ) (x0 : ι) (g0 : γ) (he : Walk K Er S OO σ wi r m) (h1 : OO = J.oo x0) (h2 : σ = J.ss x0) (h3 : ∀ h, S.p h -> (J.sc g0 x0).p h)
    (hb : ∀ g x a v, Sv Er ((T (J.oo x)).sc a v (J.sc g x)) (J.oo x) ((T (J.oo x)).set v (J.ss x)) tb (FNd J) (body g a))
    (hr : ∀ g x, Sv Er (J.sc g x) (J.oo x) (J.ss x) u Fd (f g)) : Sv Er S OO σ (Jb (Mr wi g tb) u) Fd (m.bind λas=>(forN as g0 body).bind f):=λH D w s P=>by
  refine he.ok w s ?_
  cases em : m with
  | bad=>rw [em] at P; exact P
  | err x=>rw [em] at P; exact λH' s'=>P H' (Xv.trans s')
  | ok as=>
    rw [em] at P
    have P : PZ Er (Fd D) (hid H OO) ((forN as g0 body).bind f):=P
    intro It H' s' hgo hstop
    refine ⟨λi mm σ' H2=>mm = as.length - i /\ i <= as.length /\ ∃ x gg, σ' = J.ss x /\ W (J.oo x) H2 /\ Xp (hid H' OO) (hid H2 (J.oo x)) /\ (J.sc gg x).p (hid H2 (J.oo x)) /\ PZ Er (Fd D) (hid H2 (J.oo x)) ((forN (as.drop i) gg body).bind f), ⟨as.length, rfl, Nat.zero_le _, x0, g0, h2, ?_, ?_, ?_, ?_⟩, ?_⟩
    . rw [← h1]; exact w.keep s'
    . rw [← h1]; exact Xp.refl _
    . rw [← h1]; exact h3 _ (S.mono _ _ (Xj s') s)
    . rw [← h1, List.drop_zero]; exact PZ.tr (fd.tr D) (Xj s') P
    . rintro i mm σ' H2 ⟨rfl, hi, x, gg, rfl, w2, m2, sc2, P2⟩
      by_cases hlt : i < as.length
      . right
        have ha : as[i]? = some as[i]:=by simp [hlt]
        obtain ⟨h4, h5⟩:=hgo i _ ha (J.oo x) H2 w2 m2
        refine ⟨h4, λσ3 H3=>∃ x gg, σ3 = J.ss x /\ W (J.oo x) H3 /\ Xp (hid H' OO) (hid H3 (J.oo x)) /\ (J.sc gg x).p (hid H3 (J.oo x)) /\ PZ Er (Fd D) (hid H3 (J.oo x)) ((forN (as.drop (i + 1)) gg body).bind f), λσ3 H3 q=>⟨as.length - (i + 1), Nat.sub_lt_sub_left hlt (Nat.lt_succ_self i), rfl, hlt, q⟩, λy H3 hy=>?_⟩
        obtain ⟨s3, r3⟩:=h5 y H3 hy
        have w3:=w2.keep s3
        have m3:=Xj (OO:=J.oo x) s3
        refine (T (J.oo x)).ok r3 ((J.sc gg x).mono _ _ m3 sc2) λv hv=>hb gg x as[i] v H3 _ w3 hv ?_
        rw [List.drop_eq_getElem_cons hlt] at P2
        have P3 : PZ Er (Fd D) (hid H2 (J.oo x)) ((body gg as[i]).bind λg'=>(forN (as.drop (i + 1)) g' body).bind f):=by rw [← XQ]; exact P2
        cases eb : body gg as[i] with
        | bad=>rw [eb] at P3; exact P3
        | err x=>rw [eb] at P3; exact λH4 s4=>P3 H4 (m3.trans s4)
        | ok g'=>
          rw [eb] at P3
          exact λx' H4 w4 m4 sc4=>⟨x', g', rfl, w4, m2.trans (m3.trans m4), sc4, PZ.tr (fd.tr D) (m3.trans m4) P3⟩
      . left
        have e : i = as.length:=Nat.le_antisymm hi (Nat.not_lt.mp hlt)
        subst e
        refine ⟨hstop (J.oo x) H2 w2 m2, hr gg x H2 D w2 sc2 ?_⟩
        rw [List.drop_length] at P2
        exact P2
theorem Jd {o : OE ρ} {wi : TI} {g : TG} {tb : TS} {r : Enc α} {κ : Type} {m : Rs (List α)} {body : γ -> α -> Rs (Ctl ρ γ)} {f : γ -> Rs ρ} (J : Jn γ ι) (T : ∀ OO, Tgt K OO g r κ) (x0 : ι) (g0 : γ) (he : Walk K Er S OO σ wi r m) (h1 : OO = J.oo x0) (h2 : σ = J.ss x0) (h3 : ∀ h, S.p h -> (J.sc g0 x0).p h)
    (hb : ∀ g x a v, Sv Er ((T (J.oo x)).sc a v (J.sc g x)) (J.oo x) ((T (J.oo x)).set v (J.ss x)) tb (FCd K o J) (body g a))
    (hr : ∀ g x, Sv Er (J.sc g x) (J.oo x) (J.ss x) u (FTd K o) (f g)) : Sv Er S OO σ (Jb (Mr wi g tb) u) (FTd K o) (m.bind λas=>(forC as g0 body).bind (Z4 f)):=λH D w s P=>by
  refine he.ok w s ?_
  cases em : m with
  | bad=>rw [em] at P; exact P
  | err x=>rw [em] at P; exact λH' s'=>P H' (Xv.trans s')
  | ok as=>
    rw [em] at P
    have P : PZ Er (FTd K o D) (hid H OO) ((forC as g0 body).bind (Z4 f)):=P
    intro It H' s' hgo hstop
    refine ⟨λi mm σ' H2=>mm = as.length - i /\ i <= as.length /\ ∃ x gg, σ' = J.ss x /\ W (J.oo x) H2 /\ Xp (hid H' OO) (hid H2 (J.oo x)) /\ (J.sc gg x).p (hid H2 (J.oo x)) /\ PZ Er (FTd K o D) (hid H2 (J.oo x)) ((forC (as.drop i) gg body).bind (Z4 f)), ⟨as.length, rfl, Nat.zero_le _, x0, g0, h2, ?_, ?_, ?_, ?_⟩, ?_⟩
    . rw [← h1]; exact w.keep s'
    . rw [← h1]; exact Xp.refl _
    . rw [← h1]; exact h3 _ (S.mono _ _ (Xj s') s)
    . rw [← h1, List.drop_zero]; exact PZ.tr (FdOk.tr D) (Xj s') P
    . rintro i mm σ' H2 ⟨rfl, hi, x, gg, rfl, w2, m2, sc2, P2⟩
      by_cases hlt : i < as.length
      . right
        have ha : as[i]? = some as[i]:=by simp [hlt]
        obtain ⟨h4, h5⟩:=hgo i _ ha (J.oo x) H2 w2 m2
        refine ⟨h4, λσ3 H3=>∃ x gg, σ3 = J.ss x /\ W (J.oo x) H3 /\ Xp (hid H' OO) (hid H3 (J.oo x)) /\ (J.sc gg x).p (hid H3 (J.oo x)) /\ PZ Er (FTd K o D) (hid H3 (J.oo x)) ((forC (as.drop (i + 1)) gg body).bind (Z4 f)), λσ3 H3 q=>⟨as.length - (i + 1), Nat.sub_lt_sub_left hlt (Nat.lt_succ_self i), rfl, hlt, q⟩, λy H3 hy=>?_⟩
        obtain ⟨s3, r3⟩:=h5 y H3 hy
        have w3:=w2.keep s3
        have m3:=Xj (OO:=J.oo x) s3
        refine (T (J.oo x)).ok r3 ((J.sc gg x).mono _ _ m3 sc2) λv hv=>hb gg x as[i] v H3 _ w3 hv ?_
        rw [List.drop_eq_getElem_cons hlt] at P2
        have P3 : PZ Er (FTd K o D) (hid H2 (J.oo x)) ((body gg as[i]).bind λc=>(match c with
          | .ret r=>Rs.ok (Ctl.ret r)
          | .nx g'=>forC (as.drop (i + 1)) g' body).bind (Z4 f)):=by rw [← XQ]; exact P2
        cases eb : body gg as[i] with
        | bad=>rw [eb] at P3; exact P3
        | err x=>rw [eb] at P3; exact λH4 s4=>P3 H4 (m3.trans s4)
        | ok c=>
          rw [eb] at P3
          cases c with
          | ret r=>exact FdOk.tr (Fd:=FTd K o) D r _ _ m3 P3
          | nx g'=>exact λx' H4 w4 m4 sc4=>⟨x', g', rfl, w4, m2.trans (m3.trans m4), sc4, PZ.tr (FdOk.tr D) (m3.trans m4) P3⟩
      . left
        have e : i = as.length:=Nat.le_antisymm hi (Nat.not_lt.mp hlt)
        subst e
        refine ⟨hstop (J.oo x) H2 w2 m2, hr gg x H2 D w2 sc2 ?_⟩
        rw [List.drop_length] at P2
        exact P2
theorem UE {κ2 : Type} {o : OE ρ} {J2 : Jn δ κ2} {wi : TI} {g : TG} {tb : TS} {r : Enc α} {κ : Type} {m : Rs (List α)} {body : γ -> α -> Rs (Ctl ρ γ)} {f : γ -> Rs (Ctl ρ δ)} (J : Jn γ ι) (T : ∀ OO, Tgt K OO g r κ) (x0 : ι) (g0 : γ) (he : Walk K Er S OO σ wi r m) (h1 : OO = J.oo x0) (h2 : σ = J.ss x0) (h3 : ∀ h, S.p h -> (J.sc g0 x0).p h)
    (hb : ∀ g x a v, Sv Er ((T (J.oo x)).sc a v (J.sc g x)) (J.oo x) ((T (J.oo x)).set v (J.ss x)) tb (FCd K o J) (body g a))
    (hr : ∀ g x, Sv Er (J.sc g x) (J.oo x) (J.ss x) u (FCd K o J2) (f g)) : Sv Er S OO σ (Jb (Mr wi g tb) u) (FCd K o J2) (m.bind λas=>(forC as g0 body).bind (Zm f)):=λH D w s P=>by
  refine he.ok w s ?_
  cases em : m with
  | bad=>rw [em] at P; exact P
  | err x=>rw [em] at P; exact λH' s'=>P H' (Xv.trans s')
  | ok as=>
    rw [em] at P
    have P : PZ Er (FCd K o J2 D) (hid H OO) ((forC as g0 body).bind (Zm f)):=P
    intro It H' s' hgo hstop
    refine ⟨λi mm σ' H2=>mm = as.length - i /\ i <= as.length /\ ∃ x gg, σ' = J.ss x /\ W (J.oo x) H2 /\ Xp (hid H' OO) (hid H2 (J.oo x)) /\ (J.sc gg x).p (hid H2 (J.oo x)) /\ PZ Er (FCd K o J2 D) (hid H2 (J.oo x)) ((forC (as.drop i) gg body).bind (Zm f)), ⟨as.length, rfl, Nat.zero_le _, x0, g0, h2, ?_, ?_, ?_, ?_⟩, ?_⟩
    . rw [← h1]; exact w.keep s'
    . rw [← h1]; exact Xp.refl _
    . rw [← h1]; exact h3 _ (S.mono _ _ (Xj s') s)
    . rw [← h1, List.drop_zero]; exact PZ.tr (FdOk.tr D) (Xj s') P
    . rintro i mm σ' H2 ⟨rfl, hi, x, gg, rfl, w2, m2, sc2, P2⟩
      by_cases hlt : i < as.length
      . right
        have ha : as[i]? = some as[i]:=by simp [hlt]
        obtain ⟨h4, h5⟩:=hgo i _ ha (J.oo x) H2 w2 m2
        refine ⟨h4, λσ3 H3=>∃ x gg, σ3 = J.ss x /\ W (J.oo x) H3 /\ Xp (hid H' OO) (hid H3 (J.oo x)) /\ (J.sc gg x).p (hid H3 (J.oo x)) /\ PZ Er (FCd K o J2 D) (hid H3 (J.oo x)) ((forC (as.drop (i + 1)) gg body).bind (Zm f)), λσ3 H3 q=>⟨as.length - (i + 1), Nat.sub_lt_sub_left hlt (Nat.lt_succ_self i), rfl, hlt, q⟩, λy H3 hy=>?_⟩
        obtain ⟨s3, r3⟩:=h5 y H3 hy
        have w3:=w2.keep s3
        have m3:=Xj (OO:=J.oo x) s3
        refine (T (J.oo x)).ok r3 ((J.sc gg x).mono _ _ m3 sc2) λv hv=>hb gg x as[i] v H3 _ w3 hv ?_
        rw [List.drop_eq_getElem_cons hlt] at P2
        have P3 : PZ Er (FCd K o J2 D) (hid H2 (J.oo x)) ((body gg as[i]).bind λc=>(match c with
          | .ret r=>Rs.ok (Ctl.ret r)
          | .nx g'=>forC (as.drop (i + 1)) g' body).bind (Zm f)):=by rw [← XQ]; exact P2
        cases eb : body gg as[i] with
        | bad=>rw [eb] at P3; exact P3
        | err x=>rw [eb] at P3; exact λH4 s4=>P3 H4 (m3.trans s4)
        | ok c=>
          rw [eb] at P3
          cases c with
          | ret r=>exact FdOk.tr (Fd:=FTd K o) D r _ _ m3 P3
          | nx g'=>exact λx' H4 w4 m4 sc4=>⟨x', g', rfl, w4, m2.trans (m3.trans m4), sc4, PZ.tr (FdOk.tr D) (m3.trans m4) P3⟩
      . left
        have e : i = as.length:=Nat.le_antisymm hi (Nat.not_lt.mp hlt)
        subst e
        refine ⟨hstop (J.oo x) H2 w2 m2, hr gg x H2 D w2 sc2 ?_⟩
        rw [List.drop_length] at P2
        exact P2
def Jh : Nat -> γ -> (γ -> Rs Bool) -> (γ -> Rs γ) -> Rs γ
  | 0, _, _, _=>.bad
  | n + 1, g, c, f=>(c g).bind λb=>if b = true then (f g).bind λg'=>Jh n g' c f else .ok g
theorem GL {c : TT} {tb : TS} {mc : γ -> Rs Bool} {body : γ -> Rs γ} {f : γ -> Rs β} (J : Jn γ ι) (n : Nat) (x0 : ι) (g0 : γ) (h1 : OO = J.oo x0) (h2 : σ = J.ss x0) (h3 : ∀ h, S.p h -> (J.sc g0 x0).p h)
    (hc : ∀ g x, EvT Er (J.sc g x) (J.oo x) (J.ss x) c (mc g)) (hb : ∀ g x, Sv Er (J.sc g x) (J.oo x) (J.ss x) tb (FNd J) (body g))
    (hr : ∀ g x, Sv Er (J.sc g x) (J.oo x) (J.ss x) u Fd (f g)) : Sv Er S OO σ (Jb (Cp c tb) u) Fd ((Jh n g0 mc body).bind f):=λH D w s P=>by
  refine ⟨λmm σ' H2=>∃ x gg, σ' = J.ss x /\ W (J.oo x) H2 /\ (J.sc gg x).p (hid H2 (J.oo x)) /\ PZ Er (Fd D) (hid H2 (J.oo x)) ((Jh mm gg mc body).bind f), ⟨n, x0, g0, h2, by rw [← h1]; exact w, by rw [← h1]; exact h3 _ s, by rw [← h1]; exact P⟩, ?_⟩
  rintro mm σ' H2 ⟨x, gg, rfl, w2, sc2, P2⟩
  cases mm with
  | zero=>exact P2.elim
  | succ mm=>
    have P3 : PZ Er (Fd D) (hid H2 (J.oo x)) ((mc gg).bind λb=>(if b = true then (body gg).bind λg'=>Jh mm g' mc body else .ok gg).bind f):=by rw [← XQ]; exact P2
    refine (hc gg x).st w2 sc2 P3 λb H3 w3 sc3 P4=>?_
    cases b with
    | false=>exact hr gg x H3 D w3 sc3 P4
    | true=>
      rw [if_pos rfl] at P4 ⊢
      refine ⟨λσ3 H4=>∃ x gg, σ3 = J.ss x /\ W (J.oo x) H4 /\ (J.sc gg x).p (hid H4 (J.oo x)) /\ PZ Er (Fd D) (hid H4 (J.oo x)) ((Jh mm gg mc body).bind f), λσ3 H4 q=>⟨mm, Nat.lt_succ_self _, q⟩, hb gg x H3 _ w3 sc3 ?_⟩
      rw [XQ] at P4
      cases eb : body gg with
      | bad=>rw [eb] at P4; exact P4
      | err x=>rw [eb] at P4; exact P4
      | ok g'=>
        rw [eb] at P4
        exact λx' H5 w5 m5 sc5=>⟨x', g', rfl, w5, sc5, PZ.tr (fd.tr D) m5 P4⟩
def FY (as : List α) (f : α -> Rs β) : Rs (List β):=match as with
  | []=>.ok []
  | a :: as=>(f a).bind λb=>(FY as f).bind λbs=>.ok (b :: bs)
def V0 (as : List α) (f : α -> Rs β) : Rs (List β):=chk (as.length <= sizeLine) (FY as f)
def VE (as : List α) (c : α -> Rs Bool) (f : α -> Rs β) : Rs (List β):=match as with
  | []=>.ok []
  | a :: as=>(c a).bind λb=>if b = true then (f a).bind λb=>(VE as c f).bind λbs=>.ok (b :: bs) else VE as c f
def Bl (as : List α) (c : α -> Rs Bool) (f : α -> Rs β) : Rs (List β):=chk (as.length <= sizeLine) (VE as c f)
theorem PZ.chk {F : β -> Hp -> Prop} {H : Hp} {c : Prop} [Decidable c] {m : Rs β} (P : PZ Er F H (chk c m)) : c /\ PZ Er F H m:=by
  unfold L2.chk at P; split at P
  . exact ⟨by assumption, P⟩
  . exact P.elim
theorem HE {o : OE α} [z : MonoO o] {xs : List V} {as : List α} {Cs : List (List Xz)} {H H0 : Hp} {Q : VK} (w : W (Cs.flatten :: OO) H) (m0 : Xp (hid H0 OO) (hid H (Cs.flatten :: OO))) (s0 : Xp H0 H) (pr : P3 (o K (hid H (Cs.flatten :: OO))) xs as Cs) (P : FO K OO OO (oL o) Q as H0) : ∀ p, H p = none -> Q (.ref p) (upd H p (.lst xs)):=λp hp=>by
  have hn:=UT (OO:=Cs.flatten :: OO) hp (o:=.lst xs)
  have wn:=w.new hp (o:=.lst xs) rfl
  have pe : (((p, HO.lst xs) :: Cs.flatten) :: OO).flatten.Perm ([(p, HO.lst xs)] :: Cs.flatten :: OO).flatten:=by simp
  refine P (.ref p) ((p, .lst xs) :: Cs.flatten) _ (s0.trans (XE hp _)) (wn.of pe) ?_ ?_
  . rw [XN pe]; exact m0.trans hn
  . rw [XN pe]
    exact ⟨p, xs, Cs, rfl, pr.imp λ_ _ _ h=>z.mono hn h, rfl⟩
theorem Y6 {o : OE β} [z : MonoO o] {wi : TI} {g : TG} {te : TE} {r : Enc α} {κ : Type} {m : Rs (List α)} {f : α -> Rs β} {n : Nat} {caps : List (Nat × Str)} (T : ∀ OO, Tgt K OO g r κ) (he : Walk K Er S OO σ wi r m)
    (hb : ∀ C a v, Ev K Er ((T (C :: OO)).sc a v S) (C :: OO) (C :: OO) ((T (C :: OO)).set v (YI n caps σ)) te o (f a)) : Ev K Er S OO OO σ (KC n caps wi g UC te) (oL o) (m.bind λas=>V0 as f):=λH Q w s P=>by
  refine he.ok w s ?_
  cases em : m with
  | bad=>rw [em] at P; exact P
  | err x=>rw [em] at P; exact P
  | ok as=>
    rw [em] at P
    obtain ⟨hsz, P⟩:=PZ.chk (show PZ Er _ H (chk (as.length <= sizeLine) (FY as f)) from P)
    intro It H' s' hgo hstop
    -- what is left: the Zk of the items, then all
    refine ⟨λi mm ys H2=>mm = as.length - i /\ i <= as.length /\ ∃ bs Cs, Xp H H2 /\ W (Cs.flatten :: OO) H2 /\ Xp (hid H' OO) (hid H2 (Cs.flatten :: OO)) /\ P3 (o K (hid H2 (Cs.flatten :: OO))) ys bs Cs /\ bs.length = i /\ PZ Er (FO K OO OO (oL o) Q) H ((FY (as.drop i) f).bind λZk=>.ok (bs ++ Zk)),
      ⟨as.length, rfl, Nat.zero_le _, [], [], s', (w.keep s').nil, by show Xp _ (hid H' ([] :: OO)); rw [YC]; exact Xp.refl _, .nil, rfl, ?_⟩, ?_⟩
    . rw [List.drop_zero]
      revert P
      cases FY as f <;> exact λz=>z
    . rintro i mm ys H2 ⟨rfl, hi, bs, Cs, s2, w2, m2, pr, hlen, P2⟩
      refine ⟨by rw [pr.len.1, hlen]; lia, ?_⟩
      by_cases hlt : i < as.length
      . right
        have ha : as[i]? = some as[i]:=by simp [hlt]
        obtain ⟨h4, h5⟩:=hgo i _ ha (Cs.flatten :: OO) H2 w2 m2
        refine ⟨h4, λys' H3=>∃ bs Cs, Xp H H3 /\ W (Cs.flatten :: OO) H3 /\ Xp (hid H' OO) (hid H3 (Cs.flatten :: OO)) /\ P3 (o K (hid H3 (Cs.flatten :: OO))) ys' bs Cs /\ bs.length = i + 1 /\ PZ Er (FO K OO OO (oL o) Q) H ((FY (as.drop (i + 1)) f).bind λZk=>.ok (bs ++ Zk)), λys' H3 q=>⟨as.length - (i + 1), Nat.sub_lt_sub_left hlt (Nat.lt_succ_self i), rfl, hlt, q⟩, λy H3 hy=>?_⟩
        obtain ⟨s3, r3⟩:=h5 y H3 hy
        have w3:=w2.keep s3
        have m3:=Xj (OO:=Cs.flatten :: OO) s3
        have sS : S.p (hid H3 (Cs.flatten :: OO)):=S.mono _ _ ((Xj s').trans (m2.trans m3)) s
        refine (T (Cs.flatten :: OO)).ok r3 sS λv hv=>?_
        show UC _ _ _
        refine Lo ?_
        rw [List.drop_eq_getElem_cons hlt] at P2
        have P3' : PZ Er (FO K OO OO (oL o) Q) H ((f as[i]).bind λb=>(FY (as.drop (i + 1)) f).bind λZk=>.ok (bs ++ b :: Zk)):=by
          have : ((f as[i]).bind λb=>(FY (as.drop (i + 1)) f).bind λZk=>Rs.ok (bs ++ b :: Zk)) = (FY (as[i] :: as.drop (i + 1)) f).bind λZk=>.ok (bs ++ Zk):=by
            show _ = ((f as[i]).bind λb=>(FY (as.drop (i + 1)) f).bind λbs=>Rs.ok (b :: bs)).bind _
            rw [XQ]; congr 1; funext b; rw [XQ]; rfl
          rw [this]; exact P2
        refine hb Cs.flatten as[i] v H3 _ w3 hv ?_
        cases eb : f as[i] with
        | bad=>rw [eb] at P3'; exact P3'
        | err x=>rw [eb] at P3'; exact λH4 s4=>P3' H4 (s2.trans (s3.trans s4))
        | ok b=>
          rw [eb] at P3'
          intro v' C' H4 s4 w4 m4 ho
          have pe : ((Cs ++ [C']).flatten :: OO).flatten.Perm (C' :: Cs.flatten :: OO).flatten:=by
            simp only [ZR, List.flatten_cons]
            rw [List.append_assoc, ← List.append_assoc, ← List.append_assoc]
            exact List.perm_append_comm.append_right _
          refine ⟨bs ++ [b], Cs ++ [C'], s2.trans (s3.trans s4), w4.of pe, ?_, ?_, by simp [hlen], ?_⟩
          . rw [XN pe]; exact m2.trans (m3.trans m4)
          . rw [XN pe]; exact P3.snoc (pr.imp λ_ _ _ h=>z.mono (m3.trans m4) h) ho
          . have P4 : PZ Er (FO K OO OO (oL o) Q) H ((FY (as.drop (i + 1)) f).bind λZk => .ok (bs ++ b :: Zk)) := P3'
            simpa using P4
      . left
        have e : i = as.length:=Nat.le_antisymm hi (Nat.not_lt.mp hlt)
        subst e
        refine ⟨hstop (Cs.flatten :: OO) H2 w2 m2, ?_⟩
        rw [List.drop_length] at P2
        have P3' : FO K OO OO (oL o) Q (bs ++ []) H:=P2
        rw [List.append_nil] at P3'
        exact HE (H0:=H) w2 ((Xj s').trans m2) s2 pr P3'
theorem UI {o : OE β} [z : MonoO o] {wi : TI} {g : TG} {tt : TT} {te : TE} {r : Enc α} {κ : Type} {m : Rs (List α)} {c : α -> Rs Bool} {f : α -> Rs β} {n : Nat} {caps : List (Nat × Str)} (T : ∀ OO, Tgt K OO g r κ) (he : Walk K Er S OO σ wi r m)
    (hc : ∀ C a v, EvT Er ((T (C :: OO)).sc a v S) (C :: OO) ((T (C :: OO)).set v (YI n caps σ)) tt (c a))
    (hb : ∀ C a v, Ev K Er ((T (C :: OO)).sc a v S) (C :: OO) (C :: OO) ((T (C :: OO)).set v (YI n caps σ)) te o (f a)) : Ev K Er S OO OO σ (KC n caps wi g tt te) (oL o) (m.bind λas=>Bl as c f):=λH Q w s P=>by
  refine he.ok w s ?_
  cases em : m with
  | bad=>rw [em] at P; exact P
  | err x=>rw [em] at P; exact P
  | ok as=>
    rw [em] at P
    obtain ⟨hsz, P⟩:=PZ.chk (show PZ Er _ H (chk (as.length <= sizeLine) (VE as c f)) from P)
    intro It H' s' hgo hstop
    refine ⟨λi mm ys H2=>mm = as.length - i /\ i <= as.length /\ ∃ bs Cs, Xp H H2 /\ W (Cs.flatten :: OO) H2 /\ Xp (hid H' OO) (hid H2 (Cs.flatten :: OO)) /\ P3 (o K (hid H2 (Cs.flatten :: OO))) ys bs Cs /\ bs.length <= i /\ PZ Er (FO K OO OO (oL o) Q) H ((VE (as.drop i) c f).bind λZk=>.ok (bs ++ Zk)),
      ⟨as.length, rfl, Nat.zero_le _, [], [], s', (w.keep s').nil, by show Xp _ (hid H' ([] :: OO)); rw [YC]; exact Xp.refl _, .nil, Nat.zero_le _, ?_⟩, ?_⟩
    . rw [List.drop_zero]
      revert P
      cases VE as c f <;> exact λz=>z
    . rintro i mm ys H2 ⟨rfl, hi, bs, Cs, s2, w2, m2, pr, hlen, P2⟩
      refine ⟨by rw [pr.len.1]; lia, ?_⟩
      by_cases hlt : i < as.length
      . right
        have ha : as[i]? = some as[i]:=by simp [hlt]
        obtain ⟨h4, h5⟩:=hgo i _ ha (Cs.flatten :: OO) H2 w2 m2
        refine ⟨h4, λys' H3=>∃ bs Cs, Xp H H3 /\ W (Cs.flatten :: OO) H3 /\ Xp (hid H' OO) (hid H3 (Cs.flatten :: OO)) /\ P3 (o K (hid H3 (Cs.flatten :: OO))) ys' bs Cs /\ bs.length <= i + 1 /\ PZ Er (FO K OO OO (oL o) Q) H ((VE (as.drop (i + 1)) c f).bind λZk=>.ok (bs ++ Zk)), λys' H3 q=>⟨as.length - (i + 1), Nat.sub_lt_sub_left hlt (Nat.lt_succ_self i), rfl, hlt, q⟩, λy H3 hy=>?_⟩
        obtain ⟨s3, r3⟩:=h5 y H3 hy
        have w3:=w2.keep s3
        have m3:=Xj (OO:=Cs.flatten :: OO) s3
        have sS : S.p (hid H3 (Cs.flatten :: OO)):=S.mono _ _ ((Xj s').trans (m2.trans m3)) s
        refine (T (Cs.flatten :: OO)).ok r3 sS λv hv=>?_
        rw [List.drop_eq_getElem_cons hlt] at P2
        have P3' : PZ Er (FO K OO OO (oL o) Q) H ((c as[i]).bind λb=>(if b = true then (f as[i]).bind λb=>(VE (as.drop (i + 1)) c f).bind λbs=>.ok (b :: bs) else VE (as.drop (i + 1)) c f).bind λZk=>.ok (bs ++ Zk)):=by
          rw [← XQ]; exact P2
        refine hc Cs.flatten as[i] v H3 _ w3 hv ?_
        cases ec : c as[i] with
        | bad=>rw [ec] at P3'; exact P3'
        | err x=>rw [ec] at P3'; exact λH4 s4=>P3' H4 (s2.trans (s3.trans s4))
        | ok b=>
          rw [ec] at P3'
          intro H4 s4
          have w4:=w3.keep s4
          have m4:=Xj (OO:=Cs.flatten :: OO) s4
          cases b with
          | false=>exact ⟨bs, Cs, s2.trans (s3.trans s4), w4, m2.trans (m3.trans m4), pr.imp λ_ _ _ h=>z.mono (m3.trans m4) h, Nat.le_succ_of_le hlen, P3'⟩
          | true=>
            rw [if_pos rfl]
            have P4 : PZ Er (FO K OO OO (oL o) Q) H ((f as[i]).bind λb=>(VE (as.drop (i + 1)) c f).bind λZk=>.ok (bs ++ b :: Zk)):=by
              have : ((f as[i]).bind λb=>(VE (as.drop (i + 1)) c f).bind λZk=>Rs.ok (bs ++ b :: Zk)) = ((f as[i]).bind λb=>(VE (as.drop (i + 1)) c f).bind λbs=>Rs.ok (b :: bs)).bind λZk=>.ok (bs ++ Zk):=by
                rw [XQ]; congr 1; funext b; rw [XQ]; rfl
              rw [this]; exact P3'
            refine hb Cs.flatten as[i] v H4 _ w4 (((T (Cs.flatten :: OO)).sc as[i] v S).mono _ _ m4 hv) ?_
            cases eb : f as[i] with
            | bad=>rw [eb] at P4; exact P4
            | err x=>rw [eb] at P4; exact λH5 s5=>P4 H5 (s2.trans (s3.trans (s4.trans s5)))
            | ok b=>
              rw [eb] at P4
              intro v' C' H5 s5 w5 m5 ho
              have pe : ((Cs ++ [C']).flatten :: OO).flatten.Perm (C' :: Cs.flatten :: OO).flatten:=by
                simp only [ZR, List.flatten_cons]
                rw [List.append_assoc, ← List.append_assoc, ← List.append_assoc]
                exact List.perm_append_comm.append_right _
              refine ⟨bs ++ [b], Cs ++ [C'], s2.trans (s3.trans (s4.trans s5)), w5.of pe, ?_, ?_, by simpa using hlen, ?_⟩
              . rw [XN pe]; exact m2.trans (m3.trans (m4.trans m5))
              . rw [XN pe]; exact P3.snoc (pr.imp λ_ _ _ h=>z.mono (m3.trans (m4.trans m5)) h) ho
              . have P5 : PZ Er (FO K OO OO (oL o) Q) H ((VE (as.drop (i + 1)) c f).bind λZk => .ok (bs ++ b :: Zk)) := P4
                simpa using P5
      . left
        have e : i = as.length:=Nat.le_antisymm hi (Nat.not_lt.mp hlt)
        subst e
        refine ⟨hstop (Cs.flatten :: OO) H2 w2 m2, ?_⟩
        rw [List.drop_length] at P2
        have P3' : FO K OO OO (oL o) Q (bs ++ []) H:=P2
        rw [List.append_nil] at P3'
        exact HE (H0:=H) w2 ((Xj s').trans m2) s2 pr P3'
def KO (as : List α) (i : Int) (a : α) : Rs (List α):=match ixN as.length i with
  | some j=>.ok (as.set j a)
  | none=>.bad
end
section
variable {K : Fgg} {Er : Exc -> Hp -> Prop} {S : SC} {OO OO' OO2 : List (List Xz)} {σ : St} {α β γ ρ ι δ ε : Type}
variable {Fd : Ends -> β -> Hp -> Prop} [fd : FdOk Fd] {u : TS}
theorem LP {C D C' : List Xz} {H : Hp} {k : Nat} {p : Addr} {o : HO} (w : W (D :: OO) H) (hk : OO[k]? = some C) (hp : p ∈ C.map (·.1)) (hp' : p ∈ C'.map (·.1)) (hnd : (C'.map (·.1)).Nodup) (hin : ∀ b ∈ C'.map (·.1), b ∈ (C ++ D).map (·.1)) (ht : ∀ c ∈ C', upd H p o c.1 = some c.2) (hm : ∀ c ∈ C', IH c.2 = true) :
    W (OO.set k C') (upd H p o) /\ Xp (hid H (D :: OO)) (hid (upd H p o) (OO.set k C')):=by
  have hlt : k < OO.length:=by
    rcases Nat.lt_or_ge k OO.length with h | h
    . exact h
    . rw [List.getElem?_eq_none h] at hk; cases hk
  have h1:=XW hk
  have h2:=XW (OO:=OO.set k C') (k:=k) (C:=C') (by simp [hlt])
  rw [set_set] at h2
  have h3 : (OO.set k C').flatten.Perm (C' ++ (OO.set k []).flatten):=by simpa using h2.symm
  have h4 : (D :: OO).flatten.Perm ((C ++ D) ++ (OO.set k []).flatten):=by
    rw [List.flatten_cons]
    refine ((by simpa using h1.symm : OO.flatten.Perm (C ++ (OO.set k []).flatten)).append_left D).trans ?_
    rw [← List.append_assoc]
    exact List.perm_append_comm.append_right _
  have nd2 : (((C ++ D) ++ (OO.set k []).flatten).map (·.1)).Nodup:=(h4.map _).nodup_iff.mp w.nd
  rw [List.map_append] at nd2
  obtain ⟨n1, n2, n3⟩:=List.nodup_append.mp nd2
  refine ⟨⟨λc hc=>?_, ?_, λc hc=>?_⟩, λb v q=>?_⟩
  . rcases List.mem_append.mp (h3.mem_iff.mp hc) with hc | hc
    . exact ht c hc
    . have hne : c.1 ≠ p := λe => n3 p (hin p hp') c.1 (List.mem_map.mpr ⟨c, hc, rfl⟩) e.symm
      rw [XI hne]
      exact w.tr c (h4.mem_iff.mpr (by simp [hc]))
  . refine ((h3.map _).nodup_iff).mpr ?_
    rw [List.map_append]
    exact List.nodup_append.mpr ⟨hnd, n2, λa ha b hb=>n3 a (hin a ha) b hb⟩
  . rcases List.mem_append.mp (h3.mem_iff.mp hc) with hc | hc
    . exact hm c hc
    . exact w.mu c (h4.mem_iff.mpr (by simp [hc]))
  . obtain ⟨q1, q2⟩ := X6 q
    have hbp : b ≠ p:=λe=>q2 (by
      rw [e]
      obtain ⟨c, hc, rfl⟩:=List.mem_map.mp hp
      exact V6 (h4.mem_iff.mpr (by simp [hc])))
    refine Y9 (by rw [XI hbp]; exact q1) λz=>q2 ?_
    obtain ⟨o', ho'⟩:=Ft z
    rcases List.mem_append.mp (h3.mem_iff.mp ho') with hc | hc
    . obtain ⟨c, hc2, e⟩ := List.mem_map.mp (hin b (List.mem_map.mpr ⟨_, hc, rfl⟩))
      rw [← e]
      exact V6 (h4.mem_iff.mpr (List.mem_append_left _ hc2))
    . exact V6 (c:=(b, o')) (h4.mem_iff.mpr (by simp [hc]))
theorem Mv {D : List Xz} {Cs Cs' : List (List Xz)} {H : Hp} {k : Nat} {p : Addr} {xs xs' : List V} (w : W (D :: OO) H) (hk : OO[k]? = some ((p, .lst xs) :: Cs.flatten)) (hin : ∀ c ∈ Cs'.flatten, c ∈ Cs.flatten ++ D) (hnd : (Cs'.flatten.map (·.1)).Nodup) :
    W (OO.set k ((p, .lst xs') :: Cs'.flatten)) (upd H p (.lst xs')) /\ Xp (hid H (D :: OO)) (hid (upd H p (.lst xs')) (OO.set k ((p, .lst xs') :: Cs'.flatten))):=by
  have h1:=XW hk
  have w3 : W [((p, HO.lst xs) :: (Cs.flatten ++ D)) ++ (OO.set k []).flatten] H:=w.of (by
    simp only [List.flatten_cons, List.flatten_nil, List.append_nil]
    refine List.Perm.trans ?_ ((by simpa using h1 : (((p, HO.lst xs) :: Cs.flatten) ++ (OO.set k []).flatten).Perm OO.flatten).append_left D)
    rw [← List.append_assoc]
    refine List.Perm.append_right _ ?_
    exact (List.perm_append_comm (l₁:=(p, HO.lst xs) :: Cs.flatten) (l₂:=D)))
  have nd:=w3.nd
  simp only [fl, List.flatten_cons, List.flatten_nil, List.append_nil, List.map_append, List.cons_append, List.map_cons] at nd
  have hne : ∀ c ∈ Cs'.flatten, c.1 ≠ p:=λc hc e=>by
    refine (List.nodup_cons.mp nd).1 ?_
    rw [← e]
    refine List.mem_append_left _ ?_
    rw [← List.map_append]
    exact List.mem_map.mpr ⟨c, hin c hc, rfl⟩
  refine LP w hk Zq Zq ?_ ?_ ?_ ?_
  . rw [List.map_cons, List.nodup_cons]
    refine ⟨λz=>?_, hnd⟩
    obtain ⟨c, hc, e⟩:=List.mem_map.mp z
    exact hne c hc e
  . intro b hb
    rcases List.mem_cons.mp hb with rfl | hb
    . exact Zq
    . obtain ⟨c, hc, rfl⟩ := List.mem_map.mp hb
      rw [List.cons_append, List.map_cons]
      exact ZP _ (List.mem_map.mpr ⟨c, hin c hc, rfl⟩)
  . intro c hc
    rcases List.mem_cons.mp hc with rfl | hc
    . exact Yp
    . rw [XI (hne c hc)]
      exact w3.tr c (by
        rw [List.flatten_cons, List.flatten_nil, List.append_nil]
        exact List.mem_append_left _ (ZP _ (hin c hc)))
  . intro c hc
    rcases List.mem_cons.mp hc with rfl | hc
    . rfl
    . exact w3.mu c (by
        rw [List.flatten_cons, List.flatten_nil, List.append_nil]
        exact List.mem_append_left _ (ZP _ (hin c hc)))
theorem Gf {o : OE α} {h : Hp} {p : Addr} {xs : List V} {as : List α} {R : List Xz} (q : oL o K h (.ref p) as ((p, .lst xs) :: R)) : ∃ Cs, P3 (o K h) xs as Cs /\ R = Cs.flatten:=by
  obtain ⟨p', xs', Cs, e, q, c⟩:=q
  injection c with c1 c2
  injection c1 with c3 c4
  injection c4 with c5
  subst c5
  exact ⟨Cs, q, c2⟩
theorem Ib {as : List α} {i : Int} {a : α} {bs : List α} (h : KO as i a = .ok bs) : ∃ j, ixN as.length i = some j /\ bs = as.set j a:=by
  unfold KO at h; split at h
  . cases h; exact ⟨_, by assumption, rfl⟩
  . cases h
theorem Ia {as : List α} {i : Int} {a : α} {x : Exc} : KO as i a ≠ .err x:=by unfold KO; split <;> exact λz=>nomatch z
theorem Eh {Cs : List (List Xz)} {j : Nat} {D : List Xz} (hj : j < Cs.length) : ((Cs.set j D).flatten ++ Cs[j]).Perm (Cs.flatten ++ D):=by
  have h1:=XW (OO:=Cs) (k:=j) (C:=Cs[j]) (by simp [hj])
  have h2:=XW (OO:=Cs.set j D) (k:=j) (C:=D) (by simp [hj])
  rw [set_set] at h2
  have h3 : (Cs.set j D).flatten.Perm (D ++ (Cs.set j []).flatten):=by simpa using h2.symm
  have h4 : Cs.flatten.Perm (Cs[j] ++ (Cs.set j []).flatten):=by simpa using h1.symm
  refine (h3.append_right _).trans (List.Perm.trans ?_ (h4.append_right _).symm)
  refine List.perm_append_comm.trans ((List.perm_append_comm.append_left _).trans ?_)
  rw [List.append_assoc]
theorem QJ {D : List Xz} {Cs : List (List Xz)} {H : Hp} {k : Nat} {p : Addr} {xs : List V} (w : W (D :: OO) H) (hk : OO[k]? = some ((p, .lst xs) :: Cs.flatten)) : ((Cs.flatten ++ D).map (·.1)).Nodup:=by
  have h1:=XW hk
  have w3 : W [((p, HO.lst xs) :: (Cs.flatten ++ D)) ++ (OO.set k []).flatten] H:=w.of (by
    simp only [List.flatten_cons, List.flatten_nil, List.append_nil]
    refine List.Perm.trans ?_ ((by simpa using h1 : (((p, HO.lst xs) :: Cs.flatten) ++ (OO.set k []).flatten).Perm OO.flatten).append_left D)
    rw [← List.append_assoc]
    refine List.Perm.append_right _ ?_
    exact (List.perm_append_comm (l₁:=(p, HO.lst xs) :: Cs.flatten) (l₂:=D)))
  have nd:=w3.nd
  simp only [fl, List.flatten_cons, List.flatten_nil, List.append_nil, List.cons_append, List.map_cons] at nd
  have n2:=(List.nodup_cons.mp nd).2
  rw [List.map_append] at n2
  exact (List.nodup_append.mp n2).1
theorem Ez {ta : TE} {o : OE α} [MonoO o] {m : Rs (List α)} {f : List α -> Rs β} {v : V} {as : List α} {C : List Xz} (i k : Nat) (hσ : σ[i]? = some (some v)) (hk : OO[k]? = some C) (hk' : OO'[k]? = some C) (h : ∀ x, S.p x -> oL o K x v as C) (he : Ev K Er S OO OO' σ ta (oL o) m)
    (hr : ∀ bs C', Sv Er (S.addO K (oL o) v (as ++ bs) C') (OO'.set k C') σ u Fd (f (as ++ bs))) : Sv Er S OO σ (Jb (Fv (tBM K "list" CG (UX i) (Xr ta Zc))) u) Fd (m.bind λbs=>chk (as.length + bs.length <= sizeLine) (f (as ++ bs))):=λH D w s P=>by
  obtain ⟨p, xs, Cs, e, q, c⟩:=h _ s
  subst c
  have hH : H p = some (.lst xs):=w.tr (p, .lst xs) (List.mem_flatten.mpr ⟨_, List.mem_of_getElem? hk, Zq⟩)
  refine ⟨v, hσ, by rw [e]; exact .inl ⟨rfl, _, SqL.of hH⟩, he.st w s P λbs y D' H' w' s' ho P'=>?_⟩
  obtain ⟨hsz, P'⟩:=PZ.chk P'
  subst e
  obtain ⟨Cs2, q2, c2⟩:=Gf (h _ s')
  obtain ⟨p', zs, Ds, e3, q3, c3⟩:=ho
  subst c3
  have hH' : H' p = some (.lst xs):=w'.tr (p, .lst xs) (by rw [List.flatten_cons]; exact List.mem_append_right _ (List.mem_flatten.mpr ⟨_, List.mem_of_getElem? hk', Zq⟩))
  have hH2 : H' p' = some (.lst zs):=w'.tr (p', .lst zs) (by rw [List.flatten_cons]; exact List.mem_append_left _ Zq)
  have cn:=QJ w' hk'
  obtain ⟨w3, m3⟩:=Mv (xs':=xs ++ zs) (Cs':=Cs2 ++ Ds) w' hk' (λc hc=>by
      rw [List.flatten_append, List.mem_append] at hc
      rcases hc with hc | hc
      . rw [c2]; exact List.mem_append_left _ hc
      . exact List.mem_append_right _ (ZP _ hc)) (by
      rw [List.flatten_append, ← c2]
      refine List.Nodup.sublist (List.Sublist.map _ ?_) cn
      exact List.Sublist.append (List.Sublist.refl _) (List.sublist_cons_self _ _))
  refine ⟨p, p', xs, zs, rfl, by rw [e3], hH', hH2, by rw [q2.len.1, q3.len.1]; exact hsz, ?_⟩
  exact hr bs _ _ D w3 ⟨S.mono _ _ m3 s', ⟨p, _, _, rfl, P3.imp (λ_ _ _ z=>MonoO.mono m3 z) (q2.app q3), rfl⟩⟩ (PZ.tr (fd.tr D) m3 P')
def BP (as : List α) (i : Int) : Rs (α × List α):=chk (-(2 ^ 63) <= i /\ i < 2 ^ 63) (match seqIndex? i as.length with
  | none=>.bad
  | some k=>match as[k]? with
    | none=>.bad
    | some a=>.ok (a, as.eraseIdx k))
theorem HU {as : List α} {i : Int} {p : α × List α} (h : BP as i = .ok p) : (-(2 ^ 63) <= i /\ i < 2 ^ 63) /\ ∃ k, seqIndex? i as.length = some k /\ as[k]? = some p.1 /\ p.2 = as.eraseIdx k:=by
  obtain ⟨h1, h2⟩:=Zh h
  refine ⟨h1, ?_⟩
  split at h2
  . cases h2
  . split at h2
    . cases h2
    . cases h2; exact ⟨_, by assumption, by assumption, rfl⟩
theorem Iw {as : List α} {i : Int} {x : Exc} : BP as i ≠ .err x:=by
  unfold BP chk; split
  . split
    . exact λz=>nomatch z
    . split <;> exact λz=>nomatch z
  . exact λz=>nomatch z
theorem Paired.erase' {F : α -> γ -> Prop} : ∀ {l : List α} {m : List γ} (n : Nat), Paired F l m -> Paired F (l.eraseIdx n) (m.eraseIdx n)
  | _, _, _, .nil=>.nil
  | _, _, 0, .cons _ t=>t
  | _, _, n + 1, .cons r t=>.cons r (Paired.erase' n t)
theorem Ht {te ti : TE} {r : Enc α} [MonoE r] {mi : Rs Int} {f : α × List α -> Rs β} {v : V} {as : List α} {C : List Xz} {D : Ends} {H : Hp} {Q : VK} (i k : Nat) (hσ : σ[i]? = some (some v)) (hk : OO[k]? = some C) (h : ∀ x, S.p x -> oL (oF r) K x v as C) (hi : EvB K Er S OO σ ti Xa mi)
    (w : W OO H) (s : S.p (hid H OO)) (P : PZ Er (Fd D) (hid H OO) (mi.bind λj=>(BP as j).bind f))
    (hr : ∀ a bs y C' H', W (OO.set k C') H' -> ((S.add K r y a).addO K (oL (oF r)) v bs C').p (hid H' (OO.set k C')) -> PZ Er (Fd D) (hid H' (OO.set k C')) (f (a, bs)) -> Q y H') : tBM K "list" DN (UX i) (Xr ti Zc) σ H Q:=by
  obtain ⟨p, xs, Cs, e, q, c⟩:=h _ s
  subst c
  have hH : H p = some (.lst xs):=w.tr (p, .lst xs) (List.mem_flatten.mpr ⟨_, List.mem_of_getElem? hk, Zq⟩)
  refine ⟨v, hσ, by rw [e]; exact .inl ⟨rfl, _, SqL.of hH⟩, hi.st w s P λj z H' s1 w' s' ho P'=>?_⟩
  subst e
  obtain ⟨Cs2, q2, c2⟩:=Gf (h _ s')
  obtain ⟨pr, hfl⟩:=P3.flat q2
  cases es : BP as j with
  | bad=>rw [es] at P'; exact P'.elim
  | err x=>exact absurd es Iw
  | ok pp=>
    rw [es] at P'
    obtain ⟨a, bs⟩:=pp
    obtain ⟨h1, kk, h2, h3, h4⟩:=HU es
    obtain ⟨y, hy, ry⟩:=Paired.getR pr h3
    have w0 : W ([] :: OO) H':=w'.nil
    have hk0 : OO[k]? = some ((p, .lst xs) :: ([] : List (List Xz)).flatten):=by rw [hk, c2, hfl]; rfl
    obtain ⟨w3, m3⟩:=Mv (D:=[]) (Cs:=[]) (xs':=xs.eraseIdx kk) (Cs':=List.replicate bs.length []) w0 hk0 (λc hc=>by rw [Yj] at hc; cases hc) (by rw [Yj]; exact List.nodup_nil)
    rw [YC] at m3
    refine ⟨p, xs, j, kk, y, rfl, by rw [show z = .int j from ho], s1 _ _ hH, h1.1, h1.2, by rw [Paired.len pr]; exact h2, hy, ?_⟩
    have pr2 : Paired (r K (hid H' OO)) (xs.eraseIdx kk) bs:=by rw [show bs = as.eraseIdx kk from h4]; exact Paired.erase' kk pr
    exact hr a bs y _ _ w3 ⟨⟨S.mono _ _ m3 s', MonoE.mono m3 ry⟩, ⟨p, _, _, rfl, (P3.of (Paired.imp2 (λ_ _ z=>MonoE.mono m3 z) pr2)).imp λ_ _ _ z=>z, rfl⟩⟩ (PZ.tr (fd.tr D) m3 P')
theorem B1 {ti : TE} {r : Enc α} [MonoE r] {mi : Rs Int} {f : List α -> List α -> Rs β} {v v2 : V} {as zs : List α} {C C2 : List Xz} (i k i2 k2 : Nat) (hne : k2 ≠ k) (hσ : σ[i]? = some (some v)) (hk : OO[k]? = some C) (h : ∀ x, S.p x -> oL (oF r) K x v as C)
    (hσ2 : σ[i2]? = some (some v2)) (hk2 : OO[k2]? = some C2) (h2 : ∀ x, S.p x -> oL (oF r) K x v2 zs C2) (hi : EvB K Er S OO σ ti Xa mi)
    (hr : ∀ a bs C' C2', Sv Er ((S.addO K (oL (oF r)) v bs C').addO K (oL (oF r)) v2 (zs ++ [a]) C2') ((OO.set k C').set k2 C2') σ u Fd (f bs (zs ++ [a]))) :
    Sv Er S OO σ (Jb (Fv (tBM K "list" Gv (UX i2) (Xr (tBM K "list" DN (UX i) (Xr ti Zc)) Zc))) u) Fd (mi.bind λj=>(BP as j).bind λp=>chk (zs.length < sizeLine) (f p.2 (zs ++ [p.1]))):=λH D w s P=>by
  obtain ⟨p2, xs2, Cs2, e2, q2, c2⟩:=h2 _ s
  subst c2
  have hH2 : H p2 = some (.lst xs2):=w.tr (p2, .lst xs2) (List.mem_flatten.mpr ⟨_, List.mem_of_getElem? hk2, Zq⟩)
  refine ⟨v2, hσ2, by rw [e2]; exact .inl ⟨rfl, _, SqL.of hH2⟩, Ht (te:=ti) i k hσ hk h hi w s P λa bs y C' H' w' s' P'=>?_⟩
  obtain ⟨hsz, P'⟩:=PZ.chk P'
  subst e2
  obtain ⟨Cs3, q3, c3⟩:=Gf (h2 _ s'.1.1)
  obtain ⟨pr, hfl⟩:=P3.flat q3
  have hkk : (OO.set k C')[k2]? = some ((p2, HO.lst xs2) :: ([] : List (List Xz)).flatten):=by
    rw [List.getElem?_set_ne (λe=>hne e.symm), hk2, c3, hfl]; rfl
  have hH3 : H' p2 = some (.lst xs2):=w'.tr (p2, .lst xs2) (List.mem_flatten.mpr ⟨_, List.mem_of_getElem? hkk, Zq⟩)
  obtain ⟨w3, m3⟩:=Mv (D:=[]) (Cs:=[]) (xs':=xs2 ++ [y]) (Cs':=List.replicate (zs ++ [a]).length []) w'.nil hkk (λc hc=>by rw [Yj] at hc; cases hc) (by rw [Yj]; exact List.nodup_nil)
  rw [YC] at m3
  refine ⟨p2, xs2, y, rfl, rfl, hH3, by rw [Paired.len pr]; exact hsz, ?_⟩
  refine hr a bs C' _ _ D w3 ⟨⟨S.mono _ _ m3 s'.1.1, (SC.oneO K (oL (oF r)) v bs C').mono _ _ m3 s'.2⟩, ⟨p2, _, _, rfl, (P3.of (Paired.app (Paired.imp2 (λ_ _ z=>MonoE.mono m3 z) pr) (.cons (MonoE.mono m3 (show r K _ y a from s'.1.2)) .nil))).imp λ_ _ _ z=>z, rfl⟩⟩ (PZ.tr (fd.tr D) m3 P')
theorem ES {ta tb : TE} {r : Enc α} {q : Enc γ} [z : MonoE r] [MonoE q] {ma : Rs α} {mb : Rs γ} {f : α -> γ -> Rs β} (i j : Nat) (ha : EvS K Er S OO σ ta r ma) (hb : EvS K Er S OO σ tb q mb)
    (hr : ∀ a b v w, Sv Er ((S.add K r v a).add K q w b) OO ((σ.set i (some v)).set j (some w)) u Fd (f a b)) : Sv Er S OO σ (Jb (Nw i j (Xr ta (Xr tb Zc))) u) Fd (ma.bind λa=>mb.bind λb=>f a b):=λH D w s P=>
  ha.st w s P λa x H1 s1 w1 q1 r1 P1=>hb.st w1 q1 P1 λb y H2 s2 w2 q2 r2 P2=>⟨x, y, rfl, hr a b x y H2 D w2 ⟨⟨q2, z.mono (Xj s2) r1⟩, r2⟩ P2⟩
theorem Md {te : TE} {r : Enc α} {q : Enc γ} [MonoE r] [MonoE q] {m : Rs (α × γ)} {f : α × γ -> Rs β} (i j : Nat) (he : EvS K Er S OO σ te (rP2 r q) m)
    (hr : ∀ a v w, Sv Er ((S.add K r v a.1).add K q w a.2) OO ((σ.set i (some v)).set j (some w)) u Fd (f a)) : Sv Er S OO σ (Jb (EL te (MN K 2 (Ba (QP i) (Ba (QP j) Na)))) u) Fd (m.bind f):=λH D w s P=>
  he.st w s P λa v H1 s1 w1 q1 r9 P1=>by obtain ⟨p, x, y, e, h, h1, h2⟩:=r9; exact ⟨p, _, e, SqT.of (Xv _ _ h), rfl, x, [y], rfl, y, [], rfl, rfl, hr a x y H1 D w1 ⟨⟨q1, h1⟩, h2⟩ P1⟩
theorem HG {ta tb : TE} {ma mb : Rs Int} (ha : EvB K Er S OO σ ta Xa ma) (hb : EvB K Er S OO σ tb Xa mb) : EvB K Er S OO σ (tCB (λxs H Q=>∃ i j : Int, xs = [.int i, .int j] /\ Q (.int (if j > i then j else i)) H) (Xr ta (Xr tb Zc))) Xa (ma.bind λa=>mb.bind λb=>.ok (max a b)):=λH Q w s P=>
  ha.run w s FB.tr P λa x H1 s1 w1 q1 r1 P1=>hb.run w1 q1 FB.tr P1 λb y H2 s2 w2 q2 r2 P2=>⟨a, b, by rw [show x = .int a from r1, show y = .int b from r2], P2 _ H2 (Xp.refl _) (by show V.int _ = V.int _; congr 1; lia)⟩
theorem Qi : ∀ {xs : List V} {bs : List Bool} {H : Hp}, Paired (XR K H) xs bs -> xs = bs.map V.bl
  | _, _, _, .nil=>rfl
  | _, _, _, .cons r t=>by rw [show _ = V.bl _ from r, Qi t]; rfl
theorem Gx {ta : TE} {ma : Rs (List Bool)} (ha : EvB K Er S OO σ ta (rV XR) ma) : EvB K Er S OO σ (tCB (Ny K) (Xr ta Zc)) XR (ma.bind λa=>.ok (a.all id)):=λH Q w s P=>
  ha.run w s FB.tr P λa x H1 s1 w1 q1 r9 P1=>by obtain ⟨p, xs, e, q, pr⟩:=r9; exact ⟨p, a, by rw [e], by rw [← Qi pr]; exact SqL.of q, P1 _ H1 (Xp.refl _) rfl⟩
theorem Be {ta : TE} {ma : Rs Int} (ha : EvB K Er S OO σ ta Xa ma) : EvB K Er S OO σ (tCB (λxs H Q=>∃ i : Int, xs = [.int i] /\ Q (.int (if i < 0 then -i else i)) H) (Xr ta Zc)) Xa (ma.bind λa=>.ok (a.natAbs : Int)):=λH Q w s P=>
  ha.run w s FB.tr P λa x H1 s1 w1 q1 r1 P1=>⟨a, by rw [show x = .int a from r1], P1 _ H1 (Xp.refl _) (by show V.int _ = V.int _; congr 1; lia)⟩
end
section
variable {K : Fgg} {Er : Exc -> Hp -> Prop} {S : SC} {OO OO' OO1 OO2 : List (List Xz)} {σ : St} {α β γ ρ ι δ ε : Type}
variable {Fd : Ends -> β -> Hp -> Prop} [fd : FdOk Fd] {u : TS}
theorem HB (n : Nat) (H : Hp) : W (List.replicate n []) H:=⟨λc hc=>(by rw [Yj] at hc; cases hc), (by unfold fl; rw [Yj]; exact List.nodup_nil), λc hc=>(by rw [Yj] at hc; cases hc)⟩
theorem FD (n : Nat) (H : Hp) : hid H (List.replicate n []) = H:=by funext b; unfold hid fl; rw [Yj]; simp
theorem ER {o : OE ρ} [z : MonoO o] {Q : VK} {b : ρ} {H : Hp} (q : FF K o Q b H) : ∀ v C OO' H', W (C :: OO') H' -> Xp H (hid H' (C :: OO')) -> o K (hid H' (C :: OO')) v b C -> Q v H':=λv C OO' H' w m ho=>by
  have hs : Xp (hid H' (C :: OO')) (hid H' [C]):=Zg (Xp.refl _) λb hb=>by
    rw [XU]
    refine List.mem_append_left _ ?_
    simpa [fl] using hb
  exact q v C H' (w.sub (by simp)) (m.trans hs) (z.mono hs ho)
theorem Y3 {o : OE ρ} [MonoO o] {t : TS} {m : Rs ρ} {Q : VK} {b : ρ} {H : Hp} {D : Ends} (n : Nat) (h : Sv (λ_ _=>False) S (List.replicate n []) σ t (FTd K o) m) (hs : S.p H) (hm : m = .ok b) (q : FF K o Q b H) (hD : D.rt = Q) : t D σ H:=by
  refine h H D (HB n H) (by rw [FD]; exact hs) ?_
  subst hm
  rw [FD]
  intro v C OO' H' w mm ho
  rw [hD]
  exact ER q v C OO' H' w mm ho
def oU : OE Unit:=λ_ _ v _ C=>v = .non /\ C = []
instance : MonoO oU:=⟨λ_ h=>h⟩
instance : FlatO oU:=⟨λ_ h=>h⟩
def rU0 : Enc Unit:=λ_ _ v _=>v = .non
instance : FlatE rU0:=⟨λ_ h=>h⟩
instance : FrzC oU rU0:=⟨λh _ _=>h.1⟩
theorem Ha {t : TS} {m : Rs β} (k : Nat) (hr : Sv Er S (OO.set k []) σ t Fd m) : Sv Er S OO σ t Fd m:=λH D w s P=>by
  cases hk : OO[k]? with
  | none=>
    rw [List.set_eq_of_length_le (List.getElem?_eq_none_iff.mp hk)] at hr
    exact hr H D w s P
  | some C=>
    have hp:=XW hk
    have w1 : W (C :: OO.set k []) H:=w.of hp
    have hs : Xp (hid H OO) (hid H (OO.set k [])):=by
      rw [← XN hp]
      exact Zg (Xp.refl _) λb hb=>by rw [XU]; simp [hb]
    exact hr H D w1.tail (S.mono _ _ hs s) (PZ.tr (fd.tr D) hs P)
theorem ZJ {te : TE} {r : Enc α} {m : Rs α} {f : Rs β} (he : EvB K Er S OO σ te r m) (hr : Sv Er S OO σ u Fd f) : Sv Er S OO σ (Jb (Fv te) u) Fd (m.bind λ_=>f):=λH D w s P=>
  he.st w s P λa v H' s1 w' s' ho P'=>hr H' D w' s' P'
def FAO {α : Type} (K : Fgg) (OO OO' : List (List Xz)) (o : OE α) (Q : List V -> Hp -> Prop) (as : List α) (H : Hp) : Prop:=∀ vs Cs H', Xp H H' -> W (Cs.flatten :: OO') H' -> Xp (hid H OO) (hid H' (Cs.flatten :: OO')) -> P3 (o K (hid H' (Cs.flatten :: OO'))) vs as Cs -> Q vs H'
def ME {α : Type} (K : Fgg) (Er : Exc -> Hp -> Prop) (S : SC) (OO OO' : List (List Xz)) (σ : St) (t : TA) (o : OE α) (m : Rs (List α)) : Prop:=∀ H Q, W OO H -> S.p (hid H OO) -> PZ Er (FAO K OO OO' o Q) H m -> t σ H Q
theorem Z2 {o : OE α} : ME K Er S OO OO σ Zc o (.ok []):=λH Q w s P=>P [] [] H (Xp.refl _) w.nil (by show Xp _ (hid H ([] :: OO)); rw [YC]; exact Xp.refl _) .nil
theorem XY {te : TE} {t : TA} {o : OE α} [z : MonoO o] {m : Rs α} {n : Rs (List α)} (he : Ev K Er S OO OO1 σ te o m) (ht : ∀ C, ME K Er S (C :: OO1) (C :: OO2) σ t o n) : ME K Er S OO OO2 σ (Xr te t) o (m.bind λa=>n.bind λas=>.ok (a :: as)):=λH Q w s P=>by
  refine he H _ w s ?_
  cases em : m with
  | bad=>rw [em] at P; exact P
  | err x=>rw [em] at P; exact P
  | ok a=>
    rw [em] at P
    intro v C H1 s1 w1 m1 ho
    refine ht C H1 _ w1 (S.mono _ _ m1 s) ?_
    have P1 : PZ Er (FAO K OO OO2 o Q) H (n.bind λas=>.ok (a :: as)):=P
    cases en : n with
    | bad=>rw [en] at P1; exact P1
    | err x=>rw [en] at P1; exact λH2 s2=>P1 H2 (s1.trans s2)
    | ok as=>
      rw [en] at P1
      have P1 : FAO K OO OO2 o Q (a :: as) H:=P1
      intro vs Cs H2 s2 w2 m2 pr
      have pe : ((C :: Cs).flatten :: OO2).flatten.Perm (Cs.flatten :: C :: OO2).flatten:=by
        simp only [List.flatten_cons]
        rw [← List.append_assoc]
        exact List.perm_append_comm.append_right _
      refine P1 (v :: vs) (C :: Cs) H2 (s1.trans s2) (w2.of pe) ?_ ?_
      . rw [XN pe]; exact m1.trans m2
      . rw [XN pe]; exact .cons (z.mono m2 ho) pr
theorem QK {t : TA} {o : OE α} [z : MonoO o] {m : Rs (List α)} (h : ME K Er S OO OO σ t o m) : Ev K Er S OO OO σ (BC t) (oL o) (m.bind λas=>chk (as.length <= sizeLine) (.ok as)):=λH Q w s P=>by
  refine h H _ w s ?_
  cases e : m with
  | bad=>rw [e] at P; exact P
  | err x=>rw [e] at P; exact P
  | ok as=>
    rw [e] at P
    obtain ⟨hsz, P⟩:=PZ.chk (show PZ Er _ H (chk (as.length <= sizeLine) (.ok as)) from P)
    intro vs Cs H1 s1 w1 m1 p
    exact ⟨by rw [p.len.1]; exact hsz, HE w1 m1 s1 p P⟩
class InE {α : Type} [DecidableEq α] (r : Enc α) : Prop where
  fl : ∀ {K : Fgg} {H : Hp} {x : V} {a : α}, r K H x a -> Ju x = true
  eq : ∀ {K : Fgg} {H H' : Hp} {x y : V} {a b : α}, r K H x a -> r K H' y b -> eqV x y = decide (a = b)
instance : InE Xa:=⟨fun {K H x a} h=>by cases (show x = .int a from h); rfl, fun {K H H' x y a b} h h'=>by
  cases (show x = .int a from h); cases (show y = .int b from h'); show (a == b) = _; rw [BJ]⟩
theorem Qh [DecidableEq α] {r : Enc α} [z : InE r] {H H' : Hp} {x : V} {a : α} (hx : r K H x a) : ∀ {xs : List V} {as : List α}, Paired (r K H') xs as -> xs.all Ju = true /\ inV x xs = decide (a ∈ as)
  | _, _, .nil=>⟨rfl, by simp [inV]⟩
  | _, _, .cons h t=>by
    obtain ⟨h1, h2⟩:=Qh hx t
    refine ⟨by rw [List.all_cons, h1, z.fl h]; rfl, ?_⟩
    unfold inV at h2 ⊢
    rw [List.any_cons, h2, z.eq h hx, Bool.eq_iff_iff, Bool.or_eq_true, decide_eq_true_eq, decide_eq_true_eq, decide_eq_true_eq, List.mem_cons]
    exact or_congr ⟨Eq.symm, Eq.symm⟩ Iff.rfl
theorem Ls [DecidableEq α] {ta tb : TE} {r : Enc α} [z : InE r] {ma : Rs α} {mb : Rs (List α)} (ha : EvB K Er S OO σ ta r ma) (hb : EvB K Er S OO σ tb (rV r) mb) : EvB K Er S OO σ (tOp (rIn K false) ta tb) XR (ma.bind λa=>mb.bind λas=>.ok (decide (a ∈ as))):=λH Q w s P=>
  ha.run w s FB.tr P λa x H1 s1 w1 q1 r1 P1=>hb.run w1 q1 FB.tr P1 λb y H2 s2 w2 q2 ⟨p, xs, e, q, pr⟩ P2=>by
    obtain ⟨h1, h2⟩:=Qh r1 pr
    exact ⟨p, xs, e, .inl (SqL.of q), z.fl r1, h1, P2 _ H2 (Xp.refl _) (by rw [h2]; rfl)⟩
theorem Iy [DecidableEq α] {ta tb : TE} {r : Enc α} [z : InE r] {ma : Rs α} {mb : Rs (List α)} (ha : EvB K Er S OO σ ta r ma) (hb : EvB K Er S OO σ tb (rV r) mb) : EvB K Er S OO σ (tOp (rIn K true) ta tb) XR (ma.bind λa=>mb.bind λas=>.ok (!decide (a ∈ as))):=λH Q w s P=>
  ha.run w s FB.tr P λa x H1 s1 w1 q1 r1 P1=>hb.run w1 q1 FB.tr P1 λb y H2 s2 w2 q2 ⟨p, xs, e, q, pr⟩ P2=>by
    obtain ⟨h1, h2⟩:=Qh r1 pr
    exact ⟨p, xs, e, .inl (SqL.of q), z.fl r1, h1, P2 _ H2 (Xp.refl _) (by rw [h2]; rfl)⟩
theorem En [DecidableEq α] {ta tb : TE} {r : Enc α} [z : InE r] {ma : Rs α} {mb : Rs (List α)} (ha : EvB K Er S OO σ ta r ma) (hb : EvB K Er S OO σ tb (rPL r) mb) : EvB K Er S OO σ (tOp (rIn K true) ta tb) XR (ma.bind λa=>mb.bind λas=>.ok (!decide (a ∈ as))):=λH Q w s P=>
  ha.run w s FB.tr P λa x H1 s1 w1 q1 r1 P1=>hb.run w1 q1 FB.tr P1 λb y H2 s2 w2 q2 ⟨p, xs, e, q, pr⟩ P2=>by
    obtain ⟨h1, h2⟩:=Qh r1 pr
    exact ⟨p, xs, e, .inr (SqT.of q), z.fl r1, h1, P2 _ H2 (Xp.refl _) (by rw [h2]; rfl)⟩
def IL [DecidableEq α] (as : List α) (a : α) : Rs Int:=match as.findIdx? (λb=>decide (b = a)) with
  | some j=>.ok (j : Int)
  | none=>.bad
theorem Fm [DecidableEq α] {r : Enc α} [z : InE r] {H H' : Hp} {x : V} {a : α} (hx : r K H x a) {xs : List V} {as : List α} (p : Paired (r K H') xs as) {j : Nat} (hj : as.findIdx? (λb=>decide (b = a)) = some j) :
    (∃ y, xs[j]? = some y /\ eqV y x = true) /\ ∀ (m : Nat) y, m < j -> xs[m]? = some y -> eqV y x = false:=by
  rw [List.findIdx?_eq_some_iff_getElem] at hj
  obtain ⟨h1, h2, h3⟩:=hj
  constructor
  . obtain ⟨y, hy, ry⟩ := Paired.getR p (i := j) (b := as[j]) (by simp [h1])
    exact ⟨y, hy, by rw [z.eq ry hx]; exact h2⟩
  . intro m y hm hy
    obtain ⟨b, hb, rb⟩:=Paired.getL p hy
    have hml : m < as.length:=by lia
    have e : b = as[m]:=by rw [List.getElem?_eq_getElem hml] at hb; exact (Option.some.inj hb).symm
    rw [z.eq rb hx, e]
    have:=h3 m hm
    simpa using this
theorem IC [DecidableEq α] {as : List α} {a : α} {x : Exc} : IL as a ≠ .err x:=by unfold IL; split <;> exact λz=>nomatch z
theorem Hd [DecidableEq α] {as : List α} {a : α} {n : Int} (h : IL as a = .ok n) : ∃ j : Nat, as.findIdx? (λb=>decide (b = a)) = some j /\ n = j:=by
  unfold IL at h; split at h
  . cases h; exact ⟨_, by assumption, rfl⟩
  . cases h
theorem Vv {ta tb : TE} {r : Enc α} {m : Rs (Option α)} (ha : EvB K Er S OO σ ta (ZB r) m) : EvB K Er S OO σ (tOp (λx y H Q=>y = .non /\ Q (.bl (decide (x = .non))) H) ta (tC .non)) XR (m.bind λa=>.ok a.isNone):=λH Q w s P=>
  ha.run w s FB.tr P λa x H1 s1 w1 q1 r1 P1=>⟨rfl, P1 _ H1 (Xp.refl _) (by
    cases a with
    | none=>rw [show x = .non from r1]; rfl
    | some a=>show V.bl _ = V.bl _; rw [decide_eq_false r1.1]; rfl)⟩
theorem Jx {ta tb : TE} {r : Enc α} {m : Rs (Option α)} (ha : EvB K Er S OO σ ta (ZB r) m) : EvB K Er S OO σ (tOp (λx y H Q=>y = .non /\ Q (.bl (!decide (x = .non))) H) ta (tC .non)) XR (m.bind λa=>.ok a.isSome):=λH Q w s P=>
  ha.run w s FB.tr P λa x H1 s1 w1 q1 r1 P1=>⟨rfl, P1 _ H1 (Xp.refl _) (by
    cases a with
    | none=>rw [show x = .non from r1]; rfl
    | some a=>show V.bl _ = V.bl _; rw [decide_eq_false r1.1]; rfl)⟩
theorem Ko {ta tb tc : TE} {p q : Int -> Int -> Bool} {ma mb mc : Rs Int} (ha : EvB K Er S OO σ ta Xa ma) (hb : EvB K Er S OO σ tb Xa mb) (hc : EvB K Er S OO σ tc Xa mc) :
    EvB K Er S OO σ (E3 (rI0 λi j=>.bl (p i j)) (rI0 λi j=>.bl (q i j)) ta tb tc) XR (ma.bind λa=>mb.bind λb=>if p a b = true then mc.bind λc=>.ok (q b c) else .ok false):=λH Q w s P=>
  ha.run w s FB.tr P λa x H1 s1 w1 q1 r1 P1=>hb.run w1 q1 FB.tr P1 λb y H2 s2 w2 q2 r2 P2=>⟨a, b, r1, r2, p a b, rfl, by
    cases h : p a b with
    | false=>rw [h] at P2; exact P2 _ H2 (Xp.refl _) rfl
    | true=>
      rw [h, if_pos rfl] at P2
      rw [if_pos rfl]
      exact hc.run w2 q2 FB.tr P2 λc z H3 s3 w3 q3 r3 P3=>⟨b, c, r2, r3, P3 _ H3 (Xp.refl _) rfl⟩⟩
theorem Cr {α : Type} [DecidableEq α] {r r' : Enc α} {d : Nat} (E : EqOk r d) (h : ∀ {K : Fgg} {H : Hp} {v : V} {a : α}, r' K H v a -> r K H v a) (m : MonoE r') : EqOk r' d where
  uniq:=λI h1 h2=>E.uniq I (h h1) (h h2)
  eq:=λI rx ry h1 h2 hu=>E.eq I rx ry (h h1) (h h2) hu
  rc:=λI rx ry h1 h2 hu=>E.rc I rx ry (h h1) (h h2) hu
  ne:=λI rx ry h1 h2 hu=>E.ne I rx ry (h h1) (h h2) hu
  keep:=λs q=>m.mono s q
theorem Mb {α : Type} [DecidableEq α] {r : Enc α} {d : Nat} [m : MonoE r] (E : EqOk r d) : EqOk (rV r) (d + 1):=Cr (F4 E) (λr9=>by obtain ⟨a, xs, e, q, p⟩:=r9; exact ⟨a, xs, e, SqL.of q, p⟩) inferInstance
theorem Nb {α : Type} [DecidableEq α] {r : Enc α} {d : Nat} [m : MonoE r] (E : EqOk r d) : EqOk (rPL r) (d + 1):=Cr (IB E) (λr9=>by obtain ⟨a, xs, e, q, p⟩:=r9; exact ⟨a, xs, e, SqT.of q, p⟩) inferInstance
end
section
variable {K : Fgg} {Er : Exc -> Hp -> Prop} {S : SC} {OO OO' OO1 OO2 : List (List Xz)} {σ : St} {α β γ ρ ι δ ε : Type}
variable {Fd : Ends -> β -> Hp -> Prop} [fd : FdOk Fd] {u : TS}
theorem Do {te : TE} {o : OE α} {m : Rs α} (hn : ∀ {K h v a C}, o K h v a C -> v ≠ .non) (he : Ev K Er S OO OO' σ te o m) : Ev K Er S OO OO' σ te (VZ o) (m.bind λa=>.ok (some a)):=λH Q w s P=>by
  refine he H Q w s ?_
  cases m with
  | bad=>exact P
  | err x=>exact P
  | ok a=>exact λv C H' s' w' m' ho=>P v C H' s' w' m' ⟨hn ho, ho⟩
theorem Q8 {ta tb : TE} {o : OE α} {q : OE β} [z : MonoO o] [y : MonoO q] {ma : Rs α} {mb : Rs β} (ha : Ev K Er S OO OO1 σ ta o ma) (hb : ∀ C, Ev K Er S (C :: OO1) (C :: OO2) σ tb q mb) : Ev K Er S OO OO2 σ (IF (Xr ta (Xr tb Zc))) (oT2 o q) (ma.bind λa=>mb.bind λb=>.ok (a, b)):=λH Q w s P=>by
  refine ha H _ w s ?_
  cases em : ma with
  | bad=>rw [em] at P; exact P
  | err x=>rw [em] at P; exact P
  | ok a=>
    rw [em] at P
    intro v C H1 s1 w1 m1 ho
    refine hb C H1 _ w1 (S.mono _ _ m1 s) ?_
    have P1 : PZ Er (FO K OO OO2 (oT2 o q) Q) H (mb.bind λb=>.ok (a, b)):=P
    cases en : mb with
    | bad=>rw [en] at P1; exact P1
    | err x=>rw [en] at P1; exact λH2 s2=>P1 H2 (s1.trans s2)
    | ok b=>
      rw [en] at P1
      have P1 : FO K OO OO2 (oT2 o q) Q (a, b) H:=P1
      intro v2 C2 H2 s2 w2 m2 ho2
      refine ⟨by show 2 <= sizeLine; decide, λp hp=>?_⟩
      have pe : ((C ++ C2) :: OO2).flatten.Perm (C2 :: C :: OO2).flatten:=by
        simp only [List.flatten_cons]
        rw [← List.append_assoc]
        exact List.perm_append_comm.append_right _
      have s3 : Xp H2 (upd H2 p (.tup [v, v2])):=XE hp _
      have w3:=(w2.keep s3).of pe
      have m3 : Xp (hid H2 (C2 :: C :: OO2)) (hid (upd H2 p (.tup [v, v2])) ((C ++ C2) :: OO2)):=by rw [XN pe]; exact Xj s3
      refine P1 (.ref p) (C ++ C2) _ (s1.trans (s2.trans s3)) w3 (m1.trans (m2.trans m3)) ⟨p, v, v2, C, C2, rfl, ?_, z.mono (m2.trans m3) ho, y.mono m3 ho2, rfl⟩
      rw [XN pe]
      exact Qv w2 hp
theorem Ka : ∀ {l : List Xz} {a b : Xz}, (l.map (·.1)).Nodup -> a ∈ l -> b ∈ l -> a.1 = b.1 -> a = b
  | [], _, _, _, h, _, _=>by cases h
  | c :: l, a, b, n, ha, hb, e=>by
    rw [List.map_cons, List.nodup_cons] at n
    cases ha with
    | head=>cases hb with
      | head=>rfl
      | tail _ hb=>exact absurd (List.mem_map.mpr ⟨b, hb, e.symm⟩) n.1
    | tail _ ha=>cases hb with
      | head=>exact absurd (List.mem_map.mpr ⟨a, ha, e⟩) n.1
      | tail _ hb=>exact Ka n.2 ha hb e
theorem GX {Cs : List (List Xz)} {k : Nat} {C : List Xz} (h : Cs[k]? = some C) : ∀ c ∈ C, c ∈ Cs.flatten:=λc hc=>List.mem_flatten.mpr ⟨C, List.mem_of_getElem? h, hc⟩
theorem LS {as : List α} {i : Int} {a : α} (h : atR as i = .ok a) : ∃ k, ixN as.length i = some k /\ as[k]? = some a:=by
  have:=Ku h
  unfold atI at this
  cases e : ixN as.length i with
  | none=>rw [e] at this; cases this
  | some k=>rw [e] at this; exact ⟨k, rfl, this⟩
theorem HK {r : Enc α} [z : MonoE r] {v : V} {as : List (List α)} {row row' : List α} {H : Hp} {p q : Addr} {xs ys ys' : List V} {Cs : List (List Xz)} {k kk : Nat} (w : W OO H) (hk : OO[k]? = some ((p, .lst xs) :: Cs.flatten)) (hP : P3 (oL (oF r) K (hid H OO)) xs as Cs) (hrow : as[kk]? = some row)
    (hx : xs[kk]? = some (.ref q)) (hq : H q = some (.lst ys)) (hcs : Cs[kk]? = some [(q, .lst ys)]) (pr : Paired (r K (hid H OO)) ys' row') :
    ∃ C', W (OO.set k C') (upd H q (.lst ys')) /\ Xp (hid H OO) (hid (upd H q (.lst ys')) (OO.set k C')) /\ oL (oL (oF r)) K (hid (upd H q (.lst ys')) (OO.set k C')) (.ref p) (as.set kk row') C':=by
  have hkl : kk < Cs.length:=by
    rcases Nat.lt_or_ge kk Cs.length with h | h
    . exact h
    . rw [List.getElem?_eq_none h] at hcs; cases hcs
  have hin : ∀ c ∈ (p, HO.lst xs) :: Cs.flatten, c ∈ OO.flatten:=λc hc=>List.mem_flatten.mpr ⟨_, List.mem_of_getElem? hk, hc⟩
  have w0 : W ([] :: OO) H:=w.nil
  have cn0:=QJ w0 hk
  rw [List.append_nil] at cn0
  have e0 : Cs[kk] = [(q, .lst ys)]:=by
    rw [List.getElem?_eq_getElem hkl] at hcs; exact Option.some.inj hcs
  have hp:=Eh (Cs:=Cs) (j:=kk) (D:=[(q, HO.lst ys')]) hkl
  rw [e0] at hp
  have hpm : ((Cs.set kk [(q, HO.lst ys')]).flatten.map (·.1)).Perm (Cs.flatten.map (·.1)):=by
    have:=hp.map (·.1)
    simp only [List.map_append, List.map_cons, List.map_nil] at this
    exact (List.perm_append_right_iff _).mp this
  have hpne : p ∉ Cs.flatten.map (·.1):=by
    have h1:=XW hk
    have:=(w.of (OO':=((p, HO.lst xs) :: Cs.flatten) :: OO.set k []) h1).nd
    rw [XU, List.map_cons, List.cons_append, List.nodup_cons] at this
    exact λz=>this.1 (List.mem_append_left _ z)
  have hqC : q ∈ Cs.flatten.map (·.1):=List.mem_map.mpr ⟨(q, .lst ys), GX hcs _ (by simp), rfl⟩
  have hpq : p ≠ q:=λe=>hpne (e ▸ hqC)
  have hcells : ∀ c ∈ (p, HO.lst xs) :: (Cs.set kk [(q, HO.lst ys')]).flatten, upd H q (.lst ys') c.1 = some c.2 /\ IH c.2 = true:=λc hc=>by
    rcases List.mem_cons.mp hc with rfl | hc
    . rw [XI hpq]; exact ⟨w.tr _ (hin _ Zq), rfl⟩
    . obtain ⟨D, hD, hcD⟩ := List.mem_flatten.mp hc
      rcases List.mem_or_eq_of_mem_set hD with hD | hD
      . by_cases hcq : c.1 = q
        . -- a cell at q in another place: then it is this one
          have hc2 : c ∈ (Cs.set kk [(q, HO.lst ys')]).flatten:=hc
          have n1 : ((Cs.set kk [(q, HO.lst ys')]).flatten.map (·.1)).Nodup:=hpm.nodup_iff.mpr cn0
          have hm : (q, HO.lst ys') ∈ (Cs.set kk [(q, HO.lst ys')]).flatten:=List.mem_flatten.mpr ⟨[(q, .lst ys')], List.mem_set (by simpa using hkl) _, by simp⟩
          have e1 : c = (q, HO.lst ys'):=by
            have:=Ka n1 hc2 hm hcq
            exact this
          rw [e1]; exact ⟨Yp, rfl⟩
        . rw [XI hcq]
          have : c ∈ OO.flatten:=hin c (ZP _ (List.mem_flatten.mpr ⟨D, hD, hcD⟩))
          exact ⟨w.tr c this, w.mu c this⟩
      . rw [hD] at hcD
        have e1 : c = (q, HO.lst ys'):=by simpa using hcD
        rw [e1]; exact ⟨Yp, rfl⟩
  have hq' : q ∈ (Cs.set kk [(q, HO.lst ys')]).flatten.map (·.1):=hpm.mem_iff.mpr hqC
  obtain ⟨w2, m2⟩:=LP (C':=(p, .lst xs) :: (Cs.set kk [(q, HO.lst ys')]).flatten) (p:=q) (o:=.lst ys') w0 hk (ZP _ hqC) (ZP _ hq') (by
      rw [List.map_cons, List.nodup_cons]
      exact ⟨λz=>hpne (hpm.mem_iff.mp z), hpm.nodup_iff.mpr cn0⟩) (λb hb=>by
      rw [List.append_nil]
      rcases List.mem_cons.mp hb with rfl | hb
      . exact Zq
      . exact ZP _ (hpm.mem_iff.mp hb)) (λc hc=>(hcells c hc).1) λc hc=>(hcells c hc).2
  rw [YC] at m2
  have e3 : xs.set kk (.ref q) = xs:=by
    apply List.ext_getElem?
    intro n
    by_cases hn : n = kk
    . subst hn
      rw [hx, List.getElem?_set_self (by
        rcases Nat.lt_or_ge n xs.length with h | h
        . exact h
        . rw [List.getElem?_eq_none h] at hx; cases hx)]
    . rw [List.getElem?_set_ne (λe=>hn e.symm)]
  refine ⟨_, w2, m2, ⟨p, xs, Cs.set kk [(q, HO.lst ys')], rfl, ?_, rfl⟩⟩
  have:=P3.set (F:=oL (oF r) K (hid (upd H q (.lst ys')) (OO.set k ((p, .lst xs) :: (Cs.set kk [(q, HO.lst ys')]).flatten)))) (a:=V.ref q) (b:=row') (c:=[(q, HO.lst ys')])
    ⟨q, ys', List.replicate row'.length [], rfl, (P3.of (Paired.imp2 (λ_ _ h=>z.mono m2 h) pr)).imp λ_ _ _ h=>h, by rw [Yj]⟩ kk (P3.imp (λ_ _ _ h=>MonoO.mono m2 h) hP)
  rw [e3] at this
  exact this
theorem Hs {r : Enc α} {h : Hp} {as : List (List α)} {xs : List V} {Cs : List (List Xz)} {kk : Nat} {row : List α} (q : P3 (oL (oF r) K h) xs as Cs) (hrow : as[kk]? = some row) : ∃ q0 ys, xs[kk]? = some (.ref q0) /\ Cs[kk]? = some [(q0, .lst ys)] /\ Paired (r K h) ys row:=by
  obtain ⟨x, c, h1, h2, p, ys, Ds, e, h3, h4⟩:=q.get hrow
  obtain ⟨h5, h6⟩:=P3.flat h3
  rw [h6] at h4
  exact ⟨p, ys, by rw [h1, e], by rw [h2, h4], h5⟩
theorem VV {F : V -> α -> Prop} {y : V} {a : α} (r : F y a) : ∀ {l : List V} {m : List α} (i : Nat), Paired F l m -> Paired F (l.set i y) (m.set i a)
  | _, _, _, .nil=>.nil
  | _, _, 0, .cons _ t=>.cons r t
  | _, _, i + 1, .cons q t=>.cons q (VV r i t)
theorem DM {ta ti tj : TE} {r : Enc α} [z : MonoE r] {m : Rs α} {mi mj : Rs Int} {f : List (List α) -> Rs β} {v : V} {as : List (List α)} {C : List Xz} (i k : Nat) (hσ : σ[i]? = some (some v)) (hk : OO[k]? = some C) (h : ∀ x, S.p x -> oL (oL (oF r)) K x v as C) (he : EvS K Er S OO σ ta r m)
    (hi : EvB K Er S OO σ ti Xa mi) (hj : EvB K Er S OO σ tj Xa mj)
    (hr : ∀ bs C', Sv Er (S.addO K (oL (oL (oF r))) v bs C') (OO.set k C') σ u Fd (f bs)) :
    Sv Er S OO σ (Jb (EL ta (Nt (tOp (IP K) (UX i) ti) tj Lx)) u) Fd (m.bind λa=>mi.bind λx=>(atR as x).bind λrow=>mj.bind λy=>(KO row y a).bind λrow'=>(KO as x row').bind f):=λH D w s P=>
  he.st w s P λa va H1 s1 w1 q1 r1 P1=>⟨v, hσ, hi.st w1 q1 P1 λx vx H2 s2 w2 q2 r2 P2=>by
    cases ea : atR as x with
    | bad=>rw [ea] at P2; exact P2.elim
    | err ex=>exact absurd ea Kc
    | ok row=>
      rw [ea] at P2
      obtain ⟨kk, hkk, hrow⟩:=LS ea
      obtain ⟨p, xs, Cs, e, q, c⟩:=h _ q2
      subst c e
      obtain ⟨q0, ys, g1, g2, g3⟩:=Hs q hrow
      have hin : ∀ c ∈ (p, HO.lst xs) :: Cs.flatten, c ∈ OO.flatten:=λc hc=>List.mem_flatten.mpr ⟨_, List.mem_of_getElem? hk, hc⟩
      have hH : H2 p = some (.lst xs):=w2.tr (p, .lst xs) (hin _ Zq)
      have hq0 : H2 q0 = some (.lst ys):=w2.tr (q0, .lst ys) (hin _ (ZP _ (GX g2 _ (by simp))))
      refine ⟨p, xs, x, .ref q0, rfl, r2, SqL.of hH, by unfold atI; rw [q.len.1, hkk]; exact g1, hj.st w2 q2 (f:=λy=>(KO row y a).bind λrow'=>(KO as x row').bind f) P2 λy vy H3 s3 w3 q3 r3 P3'=>?_⟩
      cases eb : KO row y a with
      | bad=>rw [eb] at P3'; exact P3'.elim
      | err ex=>exact absurd eb Ia
      | ok row'=>
        rw [eb] at P3'
        obtain ⟨jj, hjj, rfl⟩:=Ib eb
        have P4 : PZ Er (Fd D) (hid H3 OO) (f (as.set kk (row.set jj a))):=by
          have e5 : KO as x (row.set jj a) = .ok (as.set kk (row.set jj a)):=by unfold KO; rw [hkk]
          have : PZ Er (Fd D) (hid H3 OO) ((KO as x (row.set jj a)).bind f):=P3'
          rw [e5] at this
          exact this
        have m3:=Xj (OO:=OO) s3
        obtain ⟨C', w4, m4, o4⟩:=HK (ys':=ys.set jj va) (row':=row.set jj a) (v:=.ref p) w3 hk (P3.imp (λ_ _ _ h=>MonoO.mono m3 h) q) hrow g1 (s3 _ _ hq0) g2 (VV (z.mono ((Xj s2).trans m3) r1) jj (Paired.imp2 (λ_ _ h=>z.mono m3 h) g3))
        exact ⟨q0, ys, y, jj, rfl, r3, s3 _ _ hq0, by rw [Paired.len g3]; exact hjj, hr _ C' _ D w4 ⟨S.mono _ _ m4 q3, o4⟩ (PZ.tr (fd.tr D) m4 P4)⟩⟩
theorem M2 {H H' : Hp} {C D : List Xz} {k : Nat} (w : W OO H) (hk : OO[k]? = some C) (s : Xp H H') (w' : W (D :: OO.set k []) H') (m : Xp (hid H (OO.set k [])) (hid H' (D :: OO.set k []))) :
    W (D :: OO) H' /\ Xp (hid H OO) (hid H' (D :: OO)) /\ VH (hid H' (D :: OO.set k [])) (hid H' (D :: OO)):=by
  have hp:=XW hk
  have wk : W (C :: OO.set k []) H:=w.of hp
  have hC : ∀ c ∈ C, hid H (OO.set k []) c.1 = some c.2:=λc hc=>Y9 (wk.cell c hc) (by
    have:=wk.nd
    rw [XU] at this
    exact λhb=>(List.nodup_append.mp this).2.2 c.1 (List.mem_map.mpr ⟨c, hc, rfl⟩) c.1 hb rfl)
  have hC' : ∀ c ∈ C, H' c.1 = some c.2 /\ c.1 ∉ fl (D :: OO.set k []):=λc hc=>X6 (m _ _ (hC c hc))
  have w2 : W (C :: D :: OO.set k []) H':=by
    refine ⟨λc hc=>?_, ?_, λc hc=>?_⟩
    . rw [List.flatten_cons, List.mem_append] at hc
      exact hc.elim (λhc=>(hC' c hc).1) λhc=>w'.tr c hc
    . rw [XU]
      refine List.nodup_append.mpr ⟨?_, w'.nd, λa ha b hb e=>?_⟩
      . have := wk.nd
        rw [XU] at this
        exact (List.nodup_append.mp this).1
      . obtain ⟨c, hc, rfl⟩ := List.mem_map.mp ha
        subst e
        exact (hC' c hc).2 hb
    . rw [List.flatten_cons, List.mem_append] at hc
      exact hc.elim (λhc=>wk.mu c (by simp [hc])) λhc=>w'.mu c hc
  have pe : (D :: OO).flatten.Perm (C :: D :: OO.set k []).flatten:=by
    simp only [List.flatten_cons]
    refine List.Perm.trans (List.Perm.append_left D (by simpa using hp.symm : OO.flatten.Perm (C ++ (OO.set k []).flatten))) ?_
    rw [← List.append_assoc, ← List.append_assoc]
    exact List.perm_append_comm.append_right _
  have w3:=w2.of pe
  refine ⟨w3, λb u q=>?_, λb u q i=>w3.i b u (X6 q).1 i⟩
  obtain ⟨q1, q2⟩:=X6 q
  have q3 : hid H (OO.set k []) b = some u:=Y9 q1 λz=>q2 ((JJ hp b).mp (by rw [XU]; simp [z]))
  obtain ⟨q4, q5⟩:=X6 (m _ _ q3)
  refine Y9 q4 λz=>?_
  have z2:=(JJ pe b).mp z
  rw [XU, List.mem_append] at z2
  rcases z2 with z2 | z2
  . exact q2 ((JJ hp b).mp (by rw [XU]; exact List.mem_append_left _ z2))
  . exact q5 z2
theorem MP {r1 : Enc γ} {o1 : OE γ} [z : FrzC o1 r1] [MonoE r1] {H : Hp} {v : V} {a : γ} {C : List Xz} {k : Nat} (w : W OO H) (hk : OO[k]? = some C) (s : S.p (hid H OO)) (h : ∀ x, S.p x -> o1 K x v a C) :
    W (OO.set k []) H /\ (S.add K r1 v a).p (hid H (OO.set k [])):=by
  have hp:=XW hk
  have wk : W (C :: OO.set k []) H:=w.of hp
  have hs : Xp (hid H OO) (hid H (OO.set k [])):=by
    rw [← XN hp]
    exact Zg (Xp.refl _) λb hb=>by rw [XU]; simp [hb]
  refine ⟨wk.tail, S.mono _ _ hs s, z.frz (h _ s) hs λc hc=>Y9 (wk.cell c hc) ?_⟩
  have:=wk.nd
  rw [XU] at this
  exact λhb=>(List.nodup_append.mp this).2.2 c.1 (List.mem_map.mpr ⟨c, hc, rfl⟩) c.1 hb rfl
theorem Hf {te : TE} {o : OE α} [y : FlatO o] {r1 : Enc γ} {o1 : OE γ} [FrzC o1 r1] [MonoE r1] {m : Rs α} {v : V} {a : γ} {C : List Xz} (k : Nat) (hk : OO[k]? = some C) (h : ∀ x, S.p x -> o1 K x v a C) (he : Ev K Er (S.add K r1 v a) (OO.set k []) (OO.set k []) σ te o m) : Ev K Er S OO OO σ te o m:=λH Q w s P=>by
  obtain ⟨w1, s1⟩:=MP (r1:=r1) w hk s h
  refine he H Q w1 s1 (P.imp λb _ hb v' D H' s' w' m' ho=>?_)
  obtain ⟨w3, m3, i3⟩:=M2 w hk s' w' m'
  exact hb v' D H' s' w3 m3 (y.flat i3 ho)
end
section
variable {K : Fgg} {Er : Exc -> Hp -> Prop} {S : SC} {OO OO' OO1 OO2 : List (List Xz)} {σ : St} {α β γ ρ ι δ ε : Type}
variable {Fd : Ends -> β -> Hp -> Prop} [fd : FdOk Fd] {u : TS}
def LC : Option α -> Rs α
  | some a=>.ok a
  | none=>.bad
theorem GZ {te : TE} {r : Enc α} {m : Rs (Option α)} (he : EvB K Er S OO σ te (ZB r) m) : EvB K Er S OO σ te r (m.bind LC):=λH Q w s P=>by
  refine he H Q w s ?_
  cases m with
  | bad=>exact P
  | err x=>exact P
  | ok a=>
    cases a with
    | none=>exact P.elim
    | some a=>exact λv H' s' hr=>P v H' s' hr.2
theorem HR {r : Enc α} {q : Enc γ} {K : Fgg} {h : Hp} {v : V} {a : α × γ} {C : List Xz} (q : oF (rP2 r q) K h v a C) : v ≠ .non:=by
  obtain ⟨_, p, x, y, e, _⟩:=q
  rw [e]; exact λz=>nomatch z
theorem Nj {o : OE α} {K : Fgg} {h : Hp} {v : V} {a : List α} {C : List Xz} (q : oL o K h v a C) : v ≠ .non:=by
  obtain ⟨p, x, Cs, e, _⟩:=q
  rw [e]; exact λz=>nomatch z
end
section
variable {K : Fgg} {Er : Exc -> Hp -> Prop} {S : SC} {OO OO' OO1 OO2 : List (List Xz)} {σ : St} {α β γ ρ ι δ ε : Type}
variable {α1 α2 α3 α4 α5 : Type}
def rP4 (r1 : Enc α1) (r2 : Enc α2) (r3 : Enc α3) (r4 : Enc α4) : Enc (α1 × α2 × α3 × α4):=λK H v p=>∃ a x1 x2 x3 x4, v = .ref a /\ H a = some (.tup [x1, x2, x3, x4]) /\ r1 K H x1 p.1 /\ r2 K H x2 p.2.1 /\ r3 K H x3 p.2.2.1 /\ r4 K H x4 p.2.2.2
instance {r1 : Enc α1} {r2 : Enc α2} {r3 : Enc α3} {r4 : Enc α4} [m1 : MonoE r1] [m2 : MonoE r2] [m3 : MonoE r3] [m4 : MonoE r4] : MonoE (rP4 r1 r2 r3 r4):=⟨λs r9=>by obtain ⟨a, x1, x2, x3, x4, e, h, p1, p2, p3, p4⟩:=r9; exact ⟨a, x1, x2, x3, x4, e, s _ _ h, m1.mono s p1, m2.mono s p2, m3.mono s p3, m4.mono s p4⟩⟩
instance {r1 : Enc α1} {r2 : Enc α2} {r3 : Enc α3} {r4 : Enc α4} [m1 : FlatE r1] [m2 : FlatE r2] [m3 : FlatE r3] [m4 : FlatE r4] : FlatE (rP4 r1 r2 r3 r4):=⟨λs r9=>by obtain ⟨a, x1, x2, x3, x4, e, h, p1, p2, p3, p4⟩:=r9; exact ⟨a, x1, x2, x3, x4, e, s _ _ h rfl, m1.flat s p1, m2.flat s p2, m3.flat s p3, m4.flat s p4⟩⟩
theorem GQ {t1 : TE} {t2 : TE} {t3 : TE} {t4 : TE} {r1 : Enc α1} {r2 : Enc α2} {r3 : Enc α3} {r4 : Enc α4} [z1 : MonoE r1] [z2 : MonoE r2] [z3 : MonoE r3] [z4 : MonoE r4] {m1 : Rs α1} {m2 : Rs α2} {m3 : Rs α3} {m4 : Rs α4} (h1 : EvS K Er S OO σ t1 r1 m1) (h2 : EvS K Er S OO σ t2 r2 m2) (h3 : EvS K Er S OO σ t3 r3 m3) (h4 : EvS K Er S OO σ t4 r4 m4) : EvS K Er S OO σ (IF (Xr t1 (Xr t2 (Xr t3 (Xr t4 Zc))))) (rP4 r1 r2 r3 r4) (m1.bind λa1=>m2.bind λa2=>m3.bind λa3=>m4.bind λa4=>.ok (a1, a2, a3, a4)):=λH Q w s P=>
  h1.run w s FS.tr P λa1 y1 H1 s1 w1 u1 q1 P1=>h2.run w1 u1 FS.tr P1 λa2 y2 H2 s2 w2 u2 q2 P2=>h3.run w2 u2 FS.tr P2 λa3 y3 H3 s3 w3 u3 q3 P3=>h4.run w3 u3 FS.tr P3 λa4 y4 H4 s4 w4 u4 q4 P4=>⟨by show 4 <= sizeLine; decide, λp hp=>P4 _ _ (XE hp _) ⟨p, y1, y2, y3, y4, rfl, Qv w4 hp, z1.mono ((Xj s2).trans ((Xj s3).trans ((Xj s4).trans (Xj (XE hp _))))) q1, z2.mono ((Xj s3).trans ((Xj s4).trans (Xj (XE hp _)))) q2, z3.mono ((Xj s4).trans (Xj (XE hp _))) q3, z4.mono (Xj (XE hp _)) q4⟩⟩
theorem Cy {ta : TE} {r1 : Enc α1} {r2 : Enc α2} {r3 : Enc α3} {m : Rs (α1 × α2 × α3)} (ha : EvB K Er S OO σ ta (rP3 r1 r2 r3) m) : EvB K Er S OO σ (tOp (Bn K) ta (tC (.int 0))) r1 (m.bind λp=>.ok p.1):=λH Q w s P=>
  ha.run w s FB.tr P λa x H1 s1 w1 q1 r9 P1=>by obtain ⟨p, x1, x2, x3, e, q, h1, h2, h3⟩:=r9; exact ⟨p, _, 0, x1, e, rfl, SqT.of q, rfl, P1 _ H1 (Xp.refl _) h1⟩
theorem Il {ta : TE} {r1 : Enc α1} {r2 : Enc α2} {r3 : Enc α3} {m : Rs (α1 × α2 × α3)} (ha : EvB K Er S OO σ ta (rP3 r1 r2 r3) m) : EvB K Er S OO σ (tOp (Bn K) ta (tC (.int 1))) r2 (m.bind λp=>.ok p.2.1):=λH Q w s P=>
  ha.run w s FB.tr P λa x H1 s1 w1 q1 r9 P1=>by obtain ⟨p, x1, x2, x3, e, q, h1, h2, h3⟩:=r9; exact ⟨p, _, 1, x2, e, rfl, SqT.of q, rfl, P1 _ H1 (Xp.refl _) h2⟩
theorem HI {ta : TE} {r1 : Enc α1} {r2 : Enc α2} {r3 : Enc α3} {m : Rs (α1 × α2 × α3)} (ha : EvB K Er S OO σ ta (rP3 r1 r2 r3) m) : EvB K Er S OO σ (tOp (Bn K) ta (tC (.int 2))) r3 (m.bind λp=>.ok p.2.2):=λH Q w s P=>
  ha.run w s FB.tr P λa x H1 s1 w1 q1 r9 P1=>by obtain ⟨p, x1, x2, x3, e, q, h1, h2, h3⟩:=r9; exact ⟨p, _, 2, x3, e, rfl, SqT.of q, rfl, P1 _ H1 (Xp.refl _) h3⟩
variable {Fd : Ends -> β -> Hp -> Prop} [fd : FdOk Fd] {u : TS}
end
theorem Zd.ex {P : Program} {w : World} {H : Hp} {h : Heap} {a : Addr} {o : HO} (x : Zd P w H h a o) : ∃ u, h.get? a = some u:=by
  cases o with
  | lst xs=>obtain ⟨_, _, _, _, e⟩:=x; exact ⟨_, e⟩
  | tup xs=>obtain ⟨_, _, _, p⟩:=x; obtain ⟨o, e, _⟩:=p; exact ⟨_, e⟩
  | dK kvs=>obtain ⟨_, _, _, _, o, _, _, e, _⟩:=x; exact ⟨_, e⟩
  | dT kvs=>obtain ⟨_, _, _, _, o, _, _, e, _⟩:=x; exact ⟨_, e⟩
  | set S n=>obtain ⟨o, _, _, _, e, _⟩:=x; exact ⟨_, e⟩
  | ins C dx fs=>obtain ⟨_, _, _, e, _⟩:=x; exact ⟨_, e⟩
  | own y=>exact x
  | xd fs=>obtain ⟨_, ⟨_, _, _, e, _⟩, _⟩:=x; exact ⟨_, e⟩
  | rng lo hi=>obtain ⟨_, _, _, e⟩:=x; exact ⟨_, e⟩
  | frz ob u=>exact ⟨_, x.1⟩
  | tbl ps=>exact ⟨_, x⟩
  | met f y=>exact ⟨_, x⟩
  | ext φ=>exact x.2.1
theorem HOk.un0 {P : Program} {w : World} {H : Hp} {h : Heap} {a : Addr} (x : HOk P w H h) (e : h.get? a = none) : H a = none:=by
  cases q : H a with
  | none=>rfl
  | some u=>obtain ⟨v, hv⟩:=(x a u q).ex; rw [e] at hv; cases hv
structure Fl (h0 h : Heap) (H : Hp) (a T : Addr) (cls : Value) : Prop where
  na : h0.get? a = none
  nT : h0.get? T = none
  fa : H a = none
  fT : H T = none
  ne : T ≠ a
  obj : ∃ oe vs oT ts a0, h.get? a = some oe /\ oe.cls = cls /\ vs[0]? = some a0 /\ oe.data = .fields vs /\ vs[1]? = some (.ref T) /\ h.get? T = some oT /\ oT.data = .fields ts /\ ts[3]? = some Value.none
def EO (h : Heap) (fs : List Addr) (a T : Addr) : Heap:=Bo h (λb=>if b ∈ fs ∨ b = a ∨ b = T then some (.own 0) else none)
theorem JG {h : Heap} {fs : List Addr} {a T b : Addr} {o : Obj} (e : h.get? b = some o) (n1 : b ∉ fs) (n2 : b ≠ a) (n3 : b ≠ T) : (EO h fs a T).get? b = some o:=
  GT e (if_neg λz=>z.elim n1 λz=>z.elim n2 n3)
theorem KR {h : Heap} {fs : List Addr} {a T b : Addr} {o : Obj} (e : (EO h fs a T).get? b = some o) : h.get? b = some o /\ b ∉ fs /\ b ≠ a /\ b ≠ T:=by
  obtain ⟨h1, h2⟩:=Bh e
  have h3 : ¬ (b ∈ fs ∨ b = a ∨ b = T):=λz=>by
    have:=(if_pos z).symm.trans h2
    cases this
  exact ⟨h1, λq=>h3 (.inl q), λq=>h3 (.inr (.inl q)), λq=>h3 (.inr (.inr q))⟩
theorem QS {h : Heap} {fs : List Addr} {a T b : Addr} (n : b ∈ fs ∨ b = a ∨ b = T) : (EO h fs a T).get? b = none:=by
  cases q : (EO h fs a T).get? b with
  | none=>rfl
  | some o=>
    obtain ⟨_, h1, h2, h3⟩:=KR q
    exact (n.elim h1 λz=>z.elim h2 h3).elim
theorem Gu {h base B : Heap} : ∀ {l : List Env}, h.FunFrames base l -> (∀ b ∈ frs l, B.get? b = none) -> h.FunFrames B l
  | [], _, _=>trivial
  | env :: r, ⟨hk, ⟨L, o, hf, hn, ho, hd⟩, hr⟩, n=>
    ⟨hk, ⟨L, o, hf, n L (by unfold frs; rw [List.filterMap_cons, hf]; exact Zq), ho, hd⟩, Gu hr λb hb=>n b (by unfold frs; rw [List.filterMap_cons, hf]; exact ZP _ hb)⟩
section
variable {P : Program} {w : World} {h0 h h' base : Heap} {H : Hp} {a T : Addr} {cls a0 : Value} {l : List Env}
theorem Fl.fly (x : Fl h0 h H a T cls) (hl : h.FunFrames base l) : ∃ a0, Heap.FlyingW (EO h (frs l) a T) l a cls a0 h:=by
  obtain ⟨oe, vs, oT, ts, a0, ha, hc, h0', hd, h1, hT, hdT, h3⟩:=x.obj
  exact ⟨a0, λb o e=>(KR e).1, QS (.inr (.inl rfl)), Gu hl λb hb=>QS (.inl hb), oe, vs, T, oT, ts, ha, ⟨hc, h0'⟩, hd, h1, QS (.inr (.inr rfl)), x.ne, hT, hdT, h3⟩
theorem Un.traced (hl : h.FunFrames base l) (keep : ∀ b o, b ∉ frs l -> b ≠ a -> b ≠ T -> h.get? b = some o -> h'.get? b = some o) (up : h.UpToSlots h') : Un (frs l) [a, T] H H h h' where
  keep:=λb o e _ hb hx=>keep b o hb (λz=>hx (by simp [z])) (λz=>hx (by simp [z])) e
  slot:=λb o e _ hb _=>by
    obtain ⟨_, o2, ho2, hd2⟩:=hl.mem hb
    rw [e] at ho2; cases ho2
    exact up b o e hd2
  free:=λb o e n _=>n
  there:=λb o e hx=>by
    by_cases hb : b ∈ frs l
    . obtain ⟨_, o2, ho2, hd2⟩ := hl.mem hb
      obtain ⟨sl, q⟩:=up b o2 ho2 hd2
      exact ⟨_, q⟩
    . exact ⟨o, keep b o hb (λz=>hx (by simp [z])) (λz=>hx (by simp [z])) e⟩
  tups:=λ_ _ q=>q
  frzs:=λ_ _ _ q=>q
  tbls:=λ_ ps q=>⟨#[], by simpa using q⟩
theorem HOk.traced (hok : HOk P w H h) (hfn : ∀ b ∈ frs l, H b = none) (fa : H a = none) (fT : H T = none) (keep : ∀ b o, b ∉ frs l -> b ≠ a -> b ≠ T -> h.get? b = some o -> h'.get? b = some o) : HOk P w H h':=λb o e=>by
  refine (hok b o e).stay (λc u hc q=>?_) (λ_ q=>q) λ_ _ q=>q
  have hn : H c ≠ none:=by
    rcases hc with z | z
    . rw [z, e]; exact λy=>nomatch y
    . rw [z]; exact λy=>nomatch y
  exact keep c u (λz=>hn (hfn c z)) (λz=>hn (z ▸ fa)) (λz=>hn (z ▸ fT)) q
theorem Fl.after (x : Fl h0 h H a T cls) (hl : h.FunFrames base l) (hfn : ∀ b ∈ frs l, H b = none) (hok : HOk P w H h) (th : ∀ b o, h0.get? b = some o -> ∃ o', h.get? b = some o')
    (st : (EO h (frs l) a T).StaysIn h') (tr : h'.TracedW (EO h (frs l) a T) a cls a0) (up : h.UpToSlots h') : ∃ T', Fl h0 h' H a T' cls /\ HOk P w H h' /\ Un (frs l) [a, T] H H h h':=by
  obtain ⟨oe, vs, T', oT, ts, ha, ⟨hc, h0'⟩, hd, h1, hnT, hne, hT, hdT, h3⟩:=tr
  have key : T' = T ∨ h.get? T' = none:=by
    cases q : h.get? T' with
    | none=>exact .inr rfl
    | some o=>
      by_cases hf : T' ∈ frs l
      . obtain ⟨_, o2, ho2, hd2⟩ := hl.mem hf
        obtain ⟨sl, e2⟩:=up T' o2 ho2 hd2
        rw [hT] at e2; cases e2
        exact absurd hdT (hd2 ts)
      . by_cases hz : T' = T
        . exact .inl hz
        . rw [JG q hf hne hz] at hnT; cases hnT
  have keep : ∀ b o, b ∉ frs l -> b ≠ a -> b ≠ T -> h.get? b = some o -> h'.get? b = some o:=λb o n1 n2 n3 e=>st b o (JG e n1 n2 n3)
  refine ⟨T', ⟨x.na, ?_, x.fa, ?_, hne, oe, vs, oT, ts, a0, ha, hc, h0', hd, h1, hT, hdT, h3⟩, hok.traced hfn x.fa x.fT keep, Un.traced hl keep up⟩
  . rcases key with e | e
    . rw [e]; exact x.nT
    . cases q : h0.get? T' with
      | none=>rfl
      | some o=>obtain ⟨o', e'⟩:=th _ _ q; rw [e] at e'; cases e'
  . rcases key with e | e
    . rw [e]; exact x.fT
    . exact hok.un0 e
end
section
variable {fs fs2 ex ex2 : List Addr} {H0 H H' : Hp} {h0 h h' : Heap}
theorem Un.past (u : Un fs ex H0 H h0 h) (v : Un fs2 ex2 H H' h h') (n : ∀ b, b ∈ ex2 -> h0.get? b = none) (f : ∀ b, b ∈ fs2 -> b ∈ fs ∨ h0.get? b = none) : Un fs ex H0 H' h0 h' where
  keep:=λb o e m hb hx=>v.keep b o (u.keep b o e m hb hx) (u.free b o e m hx) (λz=>(f b z).elim hb λy=>by rw [e] at y; cases y) λz=>by rw [n b z] at e; cases e
  slot:=λb o e m hb hx=>by
    obtain ⟨sl, q⟩:=u.slot b o e m hb hx
    obtain ⟨sl2, q2⟩:=v.any q (u.free b o e m hx) (λz=>by rw [n b z] at e; cases e)
    exact ⟨sl2, q2⟩
  free:=λb o e m hx=>by
    obtain ⟨o', q⟩:=u.there b o e hx
    exact v.free b o' q (u.free b o e m hx) (λz=>by rw [n b z] at e; cases e)
  there:=λb o e hx=>by
    obtain ⟨o', q⟩:=u.there b o e hx
    exact v.there b o' q (λz=>by rw [n b z] at e; cases e)
  tups:=λb xs q=>v.tups b xs (u.tups b xs q)
  frzs:=λb o x q=>v.frzs b o x (u.frzs b o x q)
  tbls:=λb ps q=>by
    obtain ⟨m1, e1⟩:=u.tbls b ps q
    obtain ⟨m2, e2⟩:=v.tbls b _ e1
    exact ⟨m1 ++ m2, by rw [e2, Array.append_assoc]⟩
end
theorem Inv.past {X : Cx} {pins : List (Addr × Obj)} {σ : St} {H H' : Hp} {s : Shared} {h' : Heap} {ch : List Addr} (I : Inv X pins σ H s) (u : Un (frs X.stack) ch H H' s.heap h') (hok : HOk X.prog X.w H' h')
    (hch : ∀ b ∈ ch, X.s₀.heap.get? b = none /\ b ≠ X.env.locals /\ (∀ x c, X.env.cells.lookup x = some c -> c ≠ b) /\ ∀ p ∈ X.pn ++ pins, p.1 ≠ b) : Inv X pins σ H' { s with heap:=h' }:=by
  have nL : X.s₀.heap.get? X.env.locals = none:=Heap.get?_none_of_le I.ok.above
  obtain ⟨m, ⟨o, es, ep, ho, hd, hr⟩, hl⟩:=id I.loc
  have lch : X.env.locals ∉ ch:=λz=>(hch _ z).2.1 rfl
  obtain ⟨sl, hL⟩:=u.any ho I.free lch
  have cl : ∀ x c v, X.env.cells.lookup x = some c -> s.heap.IsCell c v -> h'.IsCell c v:=λx c v e ⟨oc, e1, e2⟩=>by
    obtain ⟨sl, q⟩:=u.any e1 (I.freeC x c e) λz=>(hch c z).2.2.1 x c e rfl
    exact ⟨_, q, e2⟩
  refine ⟨I.ok, I.os, I.bare, I.base.past u (λb hb=>(hch b hb).1) λb hb=>?_, ⟨m, ⟨_, es, ep, hL, hd, hr⟩, λi x v e1 e2 e3=>?_⟩, λx c e=>?_, u.free _ o ho I.free lch, λx c e=>?_, λp hp=>?_, hok, I.len⟩
  . rcases List.mem_cons.mp (I.stkSub b hb) with z | z
    . exact .inr (z ▸ nL)
    . exact .inl z
  . obtain ⟨u', r, q⟩ := hl i x v e1 e2 e3
    refine ⟨u', r, ?_⟩
    rcases q with q | ⟨k, c, e, z⟩
    . exact .inl q
    . exact .inr ⟨k, c, e, cl x c _ e z⟩
  . obtain ⟨v, z⟩ := I.cell x c e
    exact ⟨v, cl x c v e z⟩
  . obtain ⟨v, oc, e1, _⟩ := I.cell x c e
    exact u.free c oc e1 (I.freeC x c e) λz=>(hch c z).2.2.1 x c e rfl
  . obtain ⟨e, n, ne, nf, d⟩ := I.pin p hp
    have nch : p.1 ∉ ch:=λz=>(hch p.1 z).2.2.2 p hp rfl
    exact ⟨u.keep p.1 p.2 e n (λz=>(List.mem_cons.mp (I.stkSub _ z)).elim ne nf) nch, u.free p.1 p.2 e n nch, ne, nf, d⟩
def CXE (P : Program) (w : World) : CXT:=λouter H s E e s'=>∃ a T C H', e = .ref a /\ Fl s.heap s'.heap H' a T (.ref C) /\ s'.os = s.os /\ AllBare s'.gens /\ Un (frs outer) [] H H' s.heap s'.heap /\ HOk P w H' s'.heap /\ E (.ref C) none H'
theorem Ec {P : Program} {w : World} {X : Cx} : Vy (CXE P w) X E0:=λ_ _ _ _ _ _ _ r9=>by obtain ⟨_, _, _, _, _, _, _, _, _, _, q⟩:=r9; exact q.elim
section
variable {P : Program} {w : World} {K : Fgg} {mg : Str -> Option Value} {base : Heap} {N : List Str} {qual : Str} {scope : Scope} {f : Addr} {cd : Value} {A : Around} {outer : List Env} {s0 : Shared} {H0 : Hp} {E : XK}
theorem Vm : Vy (CXE P w) (Fs (CXE P w) P w K mg base N qual scope f cd A outer s0 H0 E) E:=by
  intro pins σ H s e s' I ⟨a, T, C, H', he, x, os, bare, un, hok, q⟩
  subst he
  have I2:=I.call' os un hok bare (λb z=>nomatch z)
  have th : ∀ b o, s0.heap.get? b = some o -> ∃ o', s.heap.get? b = some o':=λb o e=>I.base.there b o e (λz=>nomatch z)
  have nn : ∀ b, s.heap.get? b = none -> s0.heap.get? b = none:=λb n=>by
    cases q : s0.heap.get? b with
    | none=>rfl
    | some o=>obtain ⟨o', e⟩:=th b o q; rw [n] at e; cases e
  have x0 : Fl s0.heap s'.heap H' a T (.ref C):=⟨nn _ x.na, nn _ x.nT, x.fa, x.fT, x.ne, x.obj⟩
  obtain ⟨a0, fl⟩:=x0.fly I2.stack
  refine wpAny_leaves_onW I.ok.frames rfl fl λh' fl' up=>?_
  obtain ⟨T', y1, y2, y3⟩:=x0.after I2.stack I2.stkFree hok (λb o e=>I2.base.there b o e (λz=>nomatch z)) fl'.1 fl'.2.2.2 up
  refine ⟨a, T', C, H', rfl, y1, I2.os, bare, I2.base.past y3 (λb hb=>?_) λb hb=>?_, y2, q⟩
  . rcases List.mem_cons.mp hb with z | z
    . rw [z]; exact x0.na
    . rw [List.mem_singleton.mp z]; exact x0.nT
  . rcases List.mem_cons.mp (I2.stkSub b hb) with z | z
    . exact .inr (z ▸ Heap.get?_none_of_le I.ok.above)
    . exact .inl z
def EM (X : Cx) (E : XK) : Prop:=∀ (pins : List (Addr × Obj)) (σ : St) (H : Hp) (s : Shared) (C e : Addr) (vs : List Value) (h' : Heap), Inv X pins σ H s -> Heap.MadeExcOf s.heap h' e (.ref C) vs -> E (.ref C) none H -> X.xe (.ref e) { s with heap:=h' }
theorem Mf : EM (Fs (CXE P w) P w K mg base N qual scope f cd A outer s0 H0 E) E:=by
  intro pins σ H s C e vs h' I hx q
  have nn : ∀ b, s.heap.get? b = none -> s0.heap.get? b = none:=λb n=>by
    cases q : s0.heap.get? b with
    | none=>rfl
    | some o=>obtain ⟨o', e⟩:=I.base.there b o q (λz=>nomatch z); rw [n] at e; cases e
  refine wpAny_leaves_madeW (base:=EO s.heap (frs (Fs (CXE P w) P w K mg base N qual scope f cd A outer s0 H0 E).stack) e e) (h:=s.heap) I.ok.frames rfl (λb o z=>(KR z).1) (Gu I.stack λb hb=>QS (.inl hb)) hx λh2 t fl _ _ up=>?_
  obtain ⟨st, _, _, oe, us, T, oT, ts, ha, ⟨hc, h0'⟩, hd, h1, hnT, hne, hT, hdT, h3⟩:=fl
  have up2 : s.heap.UpToSlots h2:=λb o z n=>up b o (hx.keeps b o z) n
  have hT0 : s.heap.get? T = none:=by
    cases q : s.heap.get? T with
    | none=>rfl
    | some o=>
      by_cases hf : T ∈ frs (Fs (CXE P w) P w K mg base N qual scope f cd A outer s0 H0 E).stack
      . obtain ⟨_, o2, ho2, hd2⟩ := I.stack.mem hf
        obtain ⟨sl, e2⟩:=up2 T o2 ho2 hd2
        rw [hT] at e2; cases e2
        exact absurd hdT (hd2 ts)
      . rw [JG q hf hne hne] at hnT; cases hnT
  have keep : ∀ b o, b ∉ frs (Fs (CXE P w) P w K mg base N qual scope f cd A outer s0 H0 E).stack -> b ≠ e -> b ≠ T -> s.heap.get? b = some o -> h2.get? b = some o:=λb o n1 n2 _ z=>st b o (JG z n1 n2 n2)
  have fe:=I.hok.un0 hx.new
  have fT:=I.hok.un0 hT0
  refine ⟨e, T, C, H, rfl, ⟨nn _ hx.new, nn _ hT0, fe, fT, hne, oe, us, oT, ts, _, ha, hc, h0', hd, h1, hT, hdT, h3⟩, I.os, I.bare, I.base.past (Un.traced I.stack keep up2) (λb hb=>?_) λb hb=>?_, I.hok.traced I.stkFree fe fT keep, q⟩
  . rcases List.mem_cons.mp hb with z | z
    . rw [z]; exact nn _ hx.new
    . rw [List.mem_singleton.mp z]; exact nn _ hT0
  . rcases List.mem_cons.mp (I.stkSub b hb) with z | z
    . exact .inr (z ▸ Heap.get?_none_of_le I.ok.above)
    . exact .inl z
end
structure FnX (P : Program) (w : World) (K : Fgg) (mg : Str -> Option Value) (base : Heap) (k : Nat) (x : Str) (ps : List Str) (sp : Sp) : Prop where
  ex : ∃ f fd, FnOk P w K mg base (CXE P w) k f fd ps sp /\ Kf K fd ps [] /\ PySem.W.keepIn K (.ref f) = true /\ mg x = some (.ref f)
section
variable {X : Cx} {k j : Nat} {x : Str} {ps : List Str} {sp : Sp} {e : Expr} {es : List Expr} {t : TA} {p pos : Pos} {E : XK}
theorem Zl (G : FnX X.prog X.w X.K X.mg X.base k x ps sp) (hr : Room j X.A) (hj : k <= j) (hx : Vy (CXE X.prog X.w) X E) (ha : PA X (e :: es) t) (hg : Gl X x:=by rfl) (hdb : (x == ("__debug__" : Str)) = false:=by decide)
    (he : starEach (e :: es) X.env = (false, eval e X.env) :: starEach es X.env:=by rfl) (hpl : (backTo pos (starEach es X.env)).any (·.1) = false:=by rfl) :
    PE X (.Call (.Name x p) (e :: es) [] pos) (QM sp [] E t):=by
  obtain ⟨f, fd, F, b, kp, m⟩:=G.ex
  exact Co F (hr.mono hj) hg m kp b .nil hx ha hdb he hpl
end
theorem Jl {P : Program} {w : World} {K : Fgg} {mg : Str -> Option Value} {base : Heap} {x : Str} {st : Stmt} {N ps : List Str} {k : Nat} {sp : Sp} (D : Def K mg x st ps) (S : FnScope N ps (Xi st)) (len : ∀ vs H Q E, sp vs H Q E -> vs.length = ps.length)
    (hbody : ∀ (f : Addr) (cdv : Value) (A : Around) (outer : List Env) (s : Shared) (H : Hp) (vs : List V) (Q : VK) (E : XK), Room k (A.deeper (envOfC x (Xi st) s.heap.objs.size f cdv)) -> sp vs H Q E ->
      ∃ t, PSs (Fs (CXE P w) P w K mg base N x (Xi st) f cdv A outer s H E) (Yr st) t /\ t { nx:=λ_ H'=>Q .non H', rt:=Q } (VM N vs) H) : FnX P w K mg base (k + 1) x ps sp:=by
  obtain ⟨f, fd, F, b, m⟩:=D
  obtain ⟨oc, od, kV, doc, pm, an, cdv, ct, osl, rfl, lk, hcd⟩:=F.ex
  exact ⟨f, _, IX lk hcd S len λA outer s H vs Q E hr hsp=>hbody f cdv A outer s H vs Q E hr hsp, b, F.kp, m⟩
theorem Ir {K : Fgg} {h : Heap} {C : Addr} {bmB : List Value} {newId : String} (X : K.In h) (q : PySem.W.excIn K C bmB newId = true) :
    ∃ bm N nm q bs hdct sn sub ab col dd k0 k1 k2 k3 k5 mN, h.get? C = some (excClassObj nm q C N bs bm hdct sn sub ab col dd k0 k1 k2 k3 k5 newId) /\ h.Ns N mN /\ mN "__init__" = none /\ OwnTail h bmB bm:=by
  unfold PySem.W.excIn at q
  split at q
  . rename_i dd cd sl ho
    split at q
    . rename_i C' bm k0 k1 k2 k3 n k5 hm hs
      simp only [Bool.and_eq_true, beq_iff_eq, Bool.not_eq_true'] at q
      obtain ⟨⟨⟨⟨⟨q1, q2⟩, q3⟩, q4⟩, q5⟩, q6⟩:=q
      subst q1 q2
      obtain ⟨nm, bs, mro, ns, qn, hd, sn, sub, ab, col, del⟩:=cd
      have e1 : mro = _:=hm
      have e2 : del = false:=q3
      subst e1 e2
      obtain ⟨l⟩:=sl
      have e3 : l = _:=hs
      subst e3
      exact ⟨bm, ns, nm, qn, bs, hd, sn, sub, ab, col, dd, k0, k1, k2, k3, k5, _, X _ _ ho, .of_isNs (PySem.W.isNs_of_in X q5), PySem.W.nsMap_none_of_in X q5 q6, PySem.W.tail_of_in X q4⟩
    . cases q
  . cases q
abbrev vEr : List Value:=[.type "ValueError", .type "Exception", .type "BaseException", .type "object"]
def E8 (C : Addr) (E : XK) (t : TA) : TS:=λ_ σ H=>t σ H λvs H1=>vs.length <= 9 /\ E (.ref C) none H1
section
variable {X : Cx} {E : XK} {C : Addr} {x : Str} {e : Expr} {es : List Expr} {t : TA} {np cpos pos : Pos}
theorem B5 (hR : EM X E) (hc : X.calm = true) (hq : PySem.W.excIn X.K C vEr "ValueError.__new__" = true) (hg : Gl X x) (hm : X.mg x = some (.ref C)) (ha : PA X (e :: es) t) (hdb : (x == ("__debug__" : Str)) = false:=by decide)
    (he : starEach (e :: es) X.env = (false, eval e X.env) :: starEach es X.env:=by rfl) (hpl : (backTo cpos (starEach es X.env)).any (·.1) = false:=by rfl) :
    PS X (.Raise (some (.Call (.Name x np) (e :: es) [] cpos)) none pos) (E8 C E t):=by
  intro pins s σ H D I h
  obtain ⟨bm, N, nm, q, bs, hdct, sn, sub, ab, col, dd, k0, k1, k2, k3, k5, mN, hC, hN, hni, T⟩:=Ir I.ok.mod.kin hq
  refine wpAny_Raise_call_subU (C:=C) (nm:=nm) (q:=q) (N:=N) (bs:=bs) (bm:=bm) (hdct:=hdct) (sn:=sn) (sub:=sub) (ab:=ab) (col:=col) (dd:=dd) (k0:=k0) (k1:=k1) (k2:=k2) (k3:=k3) (k5:=k5) (bmB:=vEr)
    PySem.F.excBase_ValueError rfl PySem.F.excBase_ValueError (mN:=mN) (T.hasType rfl) (I.ok.hd hc) (by rw [he]; show (false || (backTo cpos (starEach es X.env)).any (·.1)) = false; rw [hpl]; rfl) hni (Uz I hg hm ⟨rfl, ?_⟩ hdb)
  have h2:=ha cpos pins s σ H _ I h
  rw [he] at h2 ⊢
  refine Calls.evalArgs_plain (wpAny_mono h2 (λus s2 ⟨vs, H1, I1, r, hl, hE⟩=>⟨rfl, ?_, I1.bk _ _ hC, hN.keeps I1.bk, T.keeps I1.bk, λh' a hx=>hR pins σ H1 s2 C a us h' I1 hx hE⟩) λ_ _ y=>y)
  have : us.length <= 9:=by rw [← r.length]; exact hl
  exact Nat.le_trans this (by decide)
end
abbrev TJ:=St -> Hp -> (Hp -> Prop) -> Prop
def PJ (X : Cx) (es : List Expr) (n : Nat) (t : TJ) : Prop:=
  ∀ (pins : List (Addr × Obj)) (s : Shared) (σ : St) (H : Hp) (Q : Hp -> Prop) (out : Str), Inv X pins σ H s -> out.length <= n -> t σ H Q ->
    wpAny (model X.prog X.w) X.A (joinParts out (evalEach es X.env)) (λu s'=>∃ x tk H', u = Value.str x tk /\ Inv X pins σ H' s' /\ Q H') X.xe s
def tJn : TJ:=λ_ H Q=>Q H
def tJs (te : TE) (t : TJ) : TJ:=λσ H Q=>te σ H λv H1=>∃ x : Str, v = .str x /\ x.length <= 1000 /\ t σ H1 Q
def tJi (te : TE) (t : TJ) : TJ:=λσ H Q=>te σ H λv H1=>∃ i : Int, v = .int i /\ i.natAbs.log2 < 1920 /\ t σ H1 Q
def tF (t : TJ) : TE:=λσ H Q=>t σ H λH1=>∀ x, Q (.str x) H1
section
variable {X : Cx} {e : Expr} {es : List Expr} {te : TE} {t : TJ} {n : Nat} {pos p : Pos}
theorem Lf (h : n <= sizeLine:=by exact Nat.le_of_ble_eq_true rfl) : PJ X [] n tJn:=λpins s σ H Q out I hl q=>
  joinParts_nil ⟨_, _, H, rfl, I.tok _, q⟩ (Nat.le_trans hl h)
theorem Lu (he : PE X e te) (hr : PJ X es (n + 1000) t) (hz : n + 1000 <= sizeLine:=by exact Nat.le_of_ble_eq_true rfl) : PJ X (e :: es) n (tJs te t):=λpins s σ H Q out I hl q=>by
  refine joinParts_cons (wpAny_mono (he pins s σ H _ I q) (λu s1 r9=>?_) λ_ _ z=>z)
  obtain ⟨v, H1, I1, r, x, hv, hx, q1⟩:=r9
  subst hv
  obtain ⟨tk, hu⟩ : ∃ tk, u = Value.str x tk:=r
  subst hu
  have hle : (out ++ x).length <= n + 1000:=by rw [strLen_append]; lia
  exact ⟨Nat.le_trans hle hz, hr pins s1 σ H1 Q _ I1 hle q1⟩
theorem EV (he : PE X e te) (hr : PJ X es (n + 2000) t) (hz : n + 2000 <= sizeLine:=by exact Nat.le_of_ble_eq_true rfl) : PJ X (.FormattedValue e (-1) none p :: es) n (tJi te t):=λpins s σ H Q out I hl q=>by
  refine joinParts_cons (FormattedValue_plain (wpAny_mono (he pins s σ H _ I q) (λu s1 r9=>?_) λ_ _ z=>z))
  obtain ⟨v, H1, I1, r, i, hv, hx, q1⟩:=r9
  subst hv
  obtain ⟨tk, hu⟩ : ∃ tk, u = Value.int i tk:=r
  subst hu
  refine formatField_int_small hx ?_
  have h1 : (Str.ofString (toString i)).length <= 1921:=by
    have:=int_text_length_le (k:=1920) (by decide) hx
    rw [PySem.ofString_length]
    exact this
  have hle : (out ++ (toString i : Str)).length <= n + 2000:=by
    rw [strLen_append]
    show out.length + (Str.ofString (toString i)).length <= _
    lia
  exact ⟨Nat.le_trans hle hz, hr pins _ σ H1 Q _ (I1.tok _) hle q1⟩
theorem NI {e₁ : Expr} (h : PJ X (e :: e₁ :: es) 0 t) : PE X (.JoinedStr (e :: e₁ :: es) pos) (tF t):=λpins s σ H Q I q=>
  JoinedStr_many (wpAny_mono (h pins s σ H _ Str.empty I (Nat.le_refl _) q) (λu s' r9=>by obtain ⟨x, tk, H', hu, I', q'⟩:=r9; exact ⟨.str x, H', I', ⟨tk, hu⟩, q' x⟩) λ_ _ z=>z)
end
abbrev Cx.alt (X : Cx) (pn : List (Addr × Obj)) (xe : Value -> Shared -> Prop) : Cx:={ X with pn:=pn, xe:=xe }
abbrev Cx.held (X : Cx) (a : Addr) (pn : List (Addr × Obj)) : Cx:={ X with A:=X.A.mark (some (.ref a)), calm:=false, pn:=pn, xe:=λ_ _=>False }
def blank (n : Nat) : St:=List.replicate n none
def Nf (K : Fgg) (n : Nat) (cc : Value) (i : Nat) (tb : XK -> TS) (ts : Addr -> Addr -> TS) : TS:=λD σ H=>
  tb (λc _ H'=>PySem.W.exmOne K c cc = some true /\ ∀ a C, c = .ref C -> H' a = none -> ts a C { nx:=λ_=>D.nx (blank n), rt:=D.rt, bk:=λ_=>D.bk (blank n), ct:=λ_=>D.ct (blank n) } ((blank n).set i (some (.ref a))) H') D σ H
theorem Cx.Ok.alt {X : Cx} (ok : X.Ok) (pn : List (Addr × Obj)) (xe : Value -> Shared -> Prop) : (X.alt pn xe).Ok:=
  ⟨ok.mod, ok.kind, ok.glob, ok.blt, ok.above, ok.inj, ok.has, ok.cab, ok.hd, ok.frames, ok.stk, ok.exf, ok.bs, ok.bsz, ok.noex, ok.exfs, ok.funs, ok.frf⟩
theorem Cx.Ok.held {X : Cx} (ok : X.Ok) (a : Addr) (pn : List (Addr × Obj)) : (X.held a pn).Ok:=
  ⟨ok.mod, ok.kind, ok.glob, ok.blt, ok.above, ok.inj, ok.has, ok.cab, (λz=>nomatch z), ok.frames, ok.stk, ok.exf, ok.bs, ok.bsz, ok.noex, ok.exfs, ok.funs, ok.frf⟩
section
variable {X : Cx} {pins : List (Addr × Obj)} {σ : St} {H : Hp} {s : Shared} {h' : Heap}
theorem GI {n i : Nat} {v : V} (h : (blank n)[i]? = some (some v)) : False:=by
  unfold blank at h
  rw [List.getElem?_replicate] at h
  split at h <;> cases h
theorem KK {n : Nat} : (blank n).length = n:=by simp [blank]
theorem Inv.blank (I : Inv X pins σ H s) : Inv X pins (blank X.N.length) H s:=I.weak (by rw [KK, I.len]) λi v h=>(GI h).elim
theorem Inv.forget {m' : Str -> Option Value} {t' : Nat} (I : Inv X pins σ H s) (hn : h'.Ns X.env.locals m') (sb : Heap.SameBut X.env.locals s.heap h') : Inv X pins (L2.blank X.N.length) H { s with heap:=h', toks:=t' }:=by
  have v : Un [] [X.env.locals] H H s.heap h':=⟨λb o e n _ hx=>(sb.2 b λz=>hx (by simp [z])).trans e, (λb o e n hb _=>nomatch hb), λb o e n _=>n, λb o e hx=>⟨o, (sb.2 b λz=>hx (by simp [z])).trans e⟩, λ_ _ q=>q, λ_ _ _ q=>q, λ_ ps q=>⟨#[], by simpa using q⟩⟩
  refine ⟨I.ok, I.os, I.bare, I.base.past v (λb hb=>?_) (λb hb=>nomatch hb), ⟨m', hn, λi x v _ e2=>(GI e2).elim⟩, λx c e=>?_, I.free, I.freeC, λp hp=>?_, λb o e=>?_, KK⟩
  . rw [List.mem_singleton.mp hb]; exact Heap.get?_none_of_le I.ok.above
  . obtain ⟨v, o, e1, e2⟩ := I.cell x c e
    exact ⟨v, o, (sb.2 c (I.cne x c e)).trans e1, e2⟩
  . obtain ⟨e, n, ne, nf, d⟩ := I.pin p hp
    exact ⟨(sb.2 p.1 ne).trans e, n, ne, nf, d⟩
  . refine (I.hok b o e).stay (λc u hc q => (sb.2 c λz => ?_).trans q) (λ_ q => q) λ_ _ q => q
    have hf:=I.free
    rw [← z] at hf
    rcases hc with y | y
    . rw [y, e] at hf; cases hf
    . rw [y] at hf; cases hf
end
section
variable {X : Cx} {body suite : List Stmt} {b₀ : Stmt} {cn n : Str} {Ch : Addr} {i : Nat} {tb : XK -> TS} {ts : Addr -> Addr -> TS} {np hpos pos : Pos}
theorem LG (hst : X.stack = X.env :: X.outer) (hex : X.ex = []) (hfr : X.env.frame = some X.env.locals) (hg : Gl X cn) (hm : X.mg cn = some (.ref Ch)) (hN : X.N.Nodup) (hi : X.N[i]? = some n) (hlo : X.env.kindOf n = some .local) (hlo2 : X.env.scope.names.lookup n = some .local)
    (hb : ∀ pn xe E, Vy (CXE X.prog X.w) (X.alt pn xe) E -> PSs (X.alt pn xe) body (tb E))
    (hs : ∀ pn a o C, (a, o) ∈ pn -> o.cls = .ref C -> PSs (X.held a pn) (b₀ :: suite) (ts a C))
    (hdb : (cn == ("__debug__" : Str)) = false:=by decide) :
    PS X (.Try body [.ExceptHandler (some (.Name cn np)) (some n) (b₀ :: suite) hpos] [] [] pos) (Nf X.K X.N.length (.ref Ch) i tb ts):=by
  intro pins s σ H D I h
  refine wpAny_Try_except ?_
  have I0 : ∀ xe, Inv (X.alt (X.pn ++ pins) xe) [] σ H s:=λxe=>⟨I.ok.alt _ _, I.os, I.bare, I.base, I.loc, I.cell, I.free, I.freeC, λp hp=>I.pin p (by simpa using hp), I.hok, I.len⟩
  have back : ∀ {xe pins1 σ' H' s'}, Inv (X.alt (X.pn ++ pins) xe) pins1 σ' H' s' -> Inv X pins σ' H' s':=fun {xe pins1 σ' H' s'} J=>⟨I.ok, J.os, J.bare, J.base, J.loc, J.cell, J.free, J.freeC, λp hp=>J.pin p (List.mem_append_left _ hp), J.hok, J.len⟩
  refine wpAny_mono (hb (X.pn ++ pins) _ _ ?pp [] s σ H D (I0 _) h) (λf s1 hq=>?fin) λe s1 hq=>hq
  case fin=>
    cases f with
    | next=>obtain ⟨σ', H', J, q⟩:=hq; exact wpAny_execs_nil ⟨σ', H', back J, q⟩
    | brk=>obtain ⟨σ', H', J, q⟩:=hq; exact ⟨σ', H', back J, q⟩
    | cont=>obtain ⟨σ', H', J, q⟩:=hq; exact ⟨σ', H', back J, q⟩
    | ret u=>obtain ⟨v, σ', H', J, r, q⟩:=hq; exact ⟨v, σ', H', back J, r, q⟩
  case pp=>
    intro pins1 σ1 H1 s1 e s' I1 ⟨a, T, C, H', he, x, os, bare, un, hok, hexm, hts⟩
    subst he
    have I2:=I1.call' os un hok bare (λb z=>nomatch z)
    have J : Inv X pins (blank X.N.length) H' s':=(back I2).blank
    have q1 : ∀ b, s1.heap.get? b = none -> X.s₀.heap.get? b = none /\ b ≠ X.env.locals /\ (∀ y c, X.env.cells.lookup y = some c -> c ≠ b) /\ ∀ p ∈ X.pn ++ pins, p.1 ≠ b:=λb nb=>by
      refine ⟨?_, λz=>?_, λy c hy z=>?_, λp hp z=>?_⟩
      . cases q : X.s₀.heap.get? b with
        | none=>rfl
        | some o=>obtain ⟨o', e⟩:=I1.base.there b o q (by show b ∉ X.ex; rw [hex]; simp); rw [nb] at e; cases e
      . obtain ⟨m, ⟨o, es, ep, ho, _⟩, _⟩ := I1.loc
        have ho' : s1.heap.get? X.env.locals = some o:=ho
        rw [← z, nb] at ho'; cases ho'
      . obtain ⟨v, o, ho, _⟩ := I1.cell y c hy
        rw [z, nb] at ho; cases ho
      . obtain ⟨e, _⟩ := I1.pin p (List.mem_append_left _ hp)
        rw [z, nb] at e; cases e
    have hl : s'.heap.FunFrames X.base (X.env :: X.outer):=hst ▸ J.stack
    have hfn : ∀ b ∈ frs (X.env :: X.outer), H' b = none:=hst ▸ J.stkFree
    have hA : X.A.frames = some (X.env :: X.outer):=hst ▸ I.ok.frames
    obtain ⟨a0, fl⟩:=x.fly hl
    refine wpAny_looks_onW hA hfr fl λh2 hd2 up2=>?_
    refine wpAny_landsW hd2 λh3 fl3 up3=>?_
    obtain ⟨T3, x3, hok3, un3⟩:=x.after hl hfn hok (λb o e=>un.there b o e (λz=>nomatch z)) fl3.1 fl3.2.2.2 (up2.trans up3)
    have ch : ∀ {U : Addr}, s1.heap.get? U = none -> ∀ b ∈ [a, U], X.s₀.heap.get? b = none /\ b ≠ X.env.locals /\ (∀ y c, X.env.cells.lookup y = some c -> c ≠ b) /\ ∀ p ∈ X.pn ++ pins, p.1 ≠ b:=fun {U} nU b hb=>by
      rcases List.mem_cons.mp hb with z | z
      . rw [z]; exact q1 a x.na
      . rw [List.mem_singleton.mp z]; exact q1 U nU
    have J3 : Inv X pins (blank X.N.length) H' { s' with heap:=h3 }:=J.past (by rw [hst]; exact un3) hok3 (ch x.nT)
    have hh : ∀ {pn : List (Addr × Obj)} {s4 : Shared}, Inv X pins (blank X.N.length) H' s4 -> (∀ p ∈ pn, p ∈ X.pn ++ pins ∨ (p.1 = a /\ s4.heap.get? a = some p.2 /\ ∀ v, p.2.data ≠ .cell v)) -> Inv (X.held a pn) [] (blank X.N.length) H' s4:=fun {pn s4} J4 hp4=>by
      refine ⟨I.ok.held _ _, J4.os, J4.bare, J4.base, J4.loc, J4.cell, J4.free, J4.freeC, λp hp=>?_, J4.hok, J4.len⟩
      rcases hp4 p (by simpa using hp) with z | ⟨z1, z2, z3⟩
      . exact J4.pin p z
      . refine ⟨by rw [z1]; exact z2, by rw [z1]; exact x.fa, by rw [z1]; exact (q1 a x.na).2.1, ?_, z3⟩
        rw [z1]
        intro y
        obtain ⟨_, o2, ho2, _⟩:=I.ok.funs.mem y
        rw [(q1 a x.na).1] at ho2
        cases ho2
    have hl3 : h3.FunFrames X.base (X.env :: X.outer):=hst ▸ J3.stack
    obtain ⟨oe, vs, oT, tts, a1, ha3, hc3, _⟩:=id x3.obj
    have J3h:=hh (pn:=X.pn ++ pins) J3 λp hp=>.inl hp
    refine wpAny_handleBy_cons (codeAny_handlers_test (Uz J3h hg hm ?_ hdb)) (by intro q; cases q)
    have LT : PySem.W.Looks (model X.prog X.w) h3 (typeOf (.ref a)) (.ref C):=hc3 ▸ (PySem.W.Looks.ld ha3).andThen .now
    refine PySem.W.exm_one J3.kIn LT hexm _ _ _ _ (λ_ _ e=>e) ?_
    refine codeAny_handlers_suite_as ?_
    obtain ⟨a2, fl4⟩:=x3.fly hl3
    refine lands_againW fl4 λh5 fl5 up5=>?_
    obtain ⟨T5, x5, hok5, un5⟩:=x3.after hl3 hfn hok3 (λb o e=>by
      obtain ⟨o', e'⟩:=un.there b o e (λz=>nomatch z)
      by_cases z : b ∈ [a, T]
      . rcases List.mem_cons.mp z with z | z
        . rw [z, x.na] at e; cases e
        . rw [List.mem_singleton.mp z, x.nT] at e; cases e
      . exact un3.there b o' e' z) fl5.1 fl5.2.2.2 up5
    have J5 : Inv X pins (blank X.N.length) H' { s' with heap:=h5 }:=J3.past (by rw [hst]; exact un5) hok5 (ch x3.nT)
    obtain ⟨oe5, vs5, oT5, ts5, a5, ha5, hc5, _, hd5, _⟩:=id x5.obj
    have J5h:=hh (pn:=(a, oe5) :: (X.pn ++ pins)) J5 λp hp=>by
      rcases List.mem_cons.mp hp with z | z
      . rw [z]; exact .inr ⟨rfl, ha5, λv q=>by rw [hd5] at q; cases q⟩
      . exact .inl z
    refine QY (X:=X.held a ((a, oe5) :: (X.pn ++ pins))) (v:=.ref a) J5h hN hi (.inl hlo2) rfl (λs6 J6=>?_) (.inr hlo2)
    refine wpAny_mono (hs _ a oe5 C Zq hc5 [] s6 _ H' _ J6 (hts a C rfl x.fa)) (λf s7 hq=>?_) λ_ _ z=>z.elim
    have fin : ∀ {σ7 H7} {Q : Unit -> Shared -> Prop}, Inv (X.held a ((a, oe5) :: (X.pn ++ pins))) [] σ7 H7 s7 -> (∀ s8, Inv X pins (blank X.N.length) H7 s8 -> Q () s8) -> wpAny (model X.prog X.w) X.A (do bindName X.env n .none; unbindBehindTheSuite X.env n hpos) Q X.xe s7:=fun {σ7 H7 Q} J7 q=>by
      obtain ⟨m, hn, _⟩:=id J7.loc
      refine wpAny_nameGoes hlo hn (by rw [I.ok.kind]; rfl) λh8 m8 hn8 sb8=>q _ ?_
      have J8:=J7.forget (t':=s7.toks + 1) hn8 sb8
      exact ⟨I.ok, J8.os, J8.bare, J8.base, J8.loc, J8.cell, J8.free, J8.freeC, λp hp=>J8.pin p (by simpa using .inr (by simpa using hp)), J8.hok, J8.len⟩
    cases f with
    | next=>obtain ⟨σ7, H7, J7, q⟩:=hq; exact fin J7 λs8 J8=>⟨_, H7, J8, q⟩
    | brk=>obtain ⟨σ7, H7, J7, q⟩:=hq; exact fin J7 λs8 J8=>⟨_, H7, J8, q⟩
    | cont=>obtain ⟨σ7, H7, J7, q⟩:=hq; exact fin J7 λs8 J8=>⟨_, H7, J8, q⟩
    | ret u=>obtain ⟨v, σ7, H7, J7, r, q⟩:=hq; exact fin J7 λs8 J8=>⟨v, _, H7, J8, r, q⟩
end
section
variable {K : Fgg} {Er : Exc -> Hp -> Prop} {S : SC} {OO OO' OO2 : List (List Xz)} {σ : St} {α β γ ρ ι : Type} {α1 α2 α3 α4 α5 α6 : Type} {mg : Str -> Option Value} {E : XK}
def ErE (mg : Str -> Option Value) (E : XK) : Exc -> Hp -> Prop:=λx H=>∀ C, mg x.cls = some (.ref C) -> E (.ref C) none H
structure PX {β : Type} (Er : Exc -> Hp -> Prop) (F : β -> Hp -> Prop) (H : Hp) (m : Rs β) : Prop where
  z : PZ Er F H m
def IG (mg : Str -> Option Value) (r1 : Enc α1) (o : OE ρ) (f : α1 -> Rs ρ) (K : Fgg) : Sp:=λvs H Q E=>∃ v1 a1, vs = [v1] /\ r1 K H v1 a1 /\ PX (ErE mg E) (FF K o Q) H (f a1)
def KP (mg : Str -> Option Value) (r1 : Enc α1) (r2 : Enc α2) (o : OE ρ) (f : α1 -> α2 -> Rs ρ) (K : Fgg) : Sp:=λvs H Q E=>∃ v1 v2 a1 a2, vs = [v1, v2] /\ r1 K H v1 a1 /\ r2 K H v2 a2 /\ PX (ErE mg E) (FF K o Q) H (f a1 a2)
def MK (mg : Str -> Option Value) (r1 : Enc α1) (r2 : Enc α2) (r3 : Enc α3) (o : OE ρ) (f : α1 -> α2 -> α3 -> Rs ρ) (K : Fgg) : Sp:=λvs H Q E=>∃ v1 v2 v3 a1 a2 a3, vs = [v1, v2, v3] /\ r1 K H v1 a1 /\ r2 K H v2 a2 /\ r3 K H v3 a3 /\ PX (ErE mg E) (FF K o Q) H (f a1 a2 a3)
theorem GH {o : OE ρ} [FlatO o] {Q : VK} {H : Hp} {m : Rs ρ} (w : W OO H) (P : PZ Er (FO K OO OO o Q) H m) : PZ Er (FF K o Q) H m:=by
  cases m with
  | bad=>exact P
  | err x=>exact P
  | ok b=>exact Ja w P
theorem EZ {o : OE ρ} [FlatO o] {Q : VK} {H : Hp} {m : Rs ρ} (w : W OO H) (P : PZ Er (FO K OO OO o Q) H (noE m)) : PZ (ErE mg E0) (FF K o Q) H m:=by
  cases m with
  | bad=>exact P
  | err x=>exact P.elim
  | ok b=>exact Ja w P
theorem JR {ta : TE} {r1 : Enc α1} {o : OE ρ} [FlatO o] {f : α1 -> Rs ρ} {ma : Rs α1} (ha : EvB K (ErE mg E) S OO σ ta r1 ma) : Ev K (ErE mg E) S OO OO σ (QM (IG mg r1 o f K) [] E (Xr ta Zc)) o (ma.bind λa=>f a):=λH Q w s P=>
  ha.run w s FO.tr P λa x H1 s1 w1 q1 r1 P1=>⟨x, a, rfl, r1, ⟨GH w1 P1⟩⟩
theorem Zv {ta tb : TE} {r1 : Enc α1} {r2 : Enc α2} [z1 : MonoE r1] {o : OE ρ} [FlatO o] {f : α1 -> α2 -> Rs ρ} {ma : Rs α1} {mb : Rs α2} (ha : EvB K (ErE mg E) S OO σ ta r1 ma) (hb : EvB K (ErE mg E) S OO σ tb r2 mb) :
    Ev K (ErE mg E) S OO OO σ (QM (KP mg r1 r2 o f K) [] E (Xr ta (Xr tb Zc))) o (ma.bind λa=>mb.bind λb=>f a b):=λH Q w s P=>
  ha.run w s FO.tr P λa x H1 s1 w1 q1 r1 P1=>hb.run w1 q1 FO.tr P1 λb y H2 s2 w2 q2 r2 P2=>⟨x, y, a, b, rfl, z1.mono s2 r1, r2, ⟨GH w2 P2⟩⟩
theorem Dq {ta tb tc : TE} {r1 : Enc α1} {r2 : Enc α2} {r3 : Enc α3} [z1 : MonoE r1] [z2 : MonoE r2] {o : OE ρ} [FlatO o] {f : α1 -> α2 -> α3 -> Rs ρ} {ma : Rs α1} {mb : Rs α2} {mc : Rs α3} (ha : EvB K (ErE mg E) S OO σ ta r1 ma) (hb : EvB K (ErE mg E) S OO σ tb r2 mb) (hc : EvB K (ErE mg E) S OO σ tc r3 mc) :
    Ev K (ErE mg E) S OO OO σ (QM (MK mg r1 r2 r3 o f K) [] E (Xr ta (Xr tb (Xr tc Zc)))) o (ma.bind λa=>mb.bind λb=>mc.bind λc=>f a b c):=λH Q w s P=>
  ha.run w s FO.tr P λa x H1 s1 w1 q1 r1 P1=>hb.run w1 q1 FO.tr P1 λb y H2 s2 w2 q2 r2 P2=>hc.run w2 q2 FO.tr P2 λc z H3 s3 w3 q3 r3 P3=>⟨x, y, z, a, b, c, rfl, z1.mono (s2.trans s3) r1, z2.mono s3 r2, r3, ⟨GH w3 P3⟩⟩
theorem JX {ta tb : TE} {r1 : Enc α1} {r2 : Enc α2} [z1 : MonoE r1] {o : OE ρ} [FlatO o] {f : α1 -> α2 -> Rs ρ} {ma : Rs α1} {mb : Rs α2} (ha : EvB K Er S OO σ ta r1 ma) (hb : EvB K Er S OO σ tb r2 mb) :
    Ev K Er S OO OO σ (QM (KP mg r1 r2 o f K) [] E0 (Xr ta (Xr tb Zc))) o (ma.bind λa=>mb.bind λb=>noE (f a b)):=λH Q w s P=>
  ha.run w s FO.tr P λa x H1 s1 w1 q1 r1 P1=>hb.run w1 q1 FO.tr P1 λb y H2 s2 w2 q2 r2 P2=>⟨x, y, a, b, rfl, z1.mono s2 r1, r2, ⟨EZ w2 P2⟩⟩
theorem V1 {o : OE ρ} [MonoO o] {t : TS} {m : Rs ρ} {Q : VK} {H : Hp} {D : Ends} (n : Nat) (h : Sv (ErE mg E) S (List.replicate n []) σ t (FTd K o) m) (hs : S.p H) (PP : PX (ErE mg E) (FF K o Q) H m) (hD : D.rt = Q) : t D σ H:=by
  have P:=PP.z
  refine h H D (HB n H) (by rw [FD]; exact hs) ?_
  rw [FD]
  cases m with
  | bad=>exact P
  | err x=>exact P
  | ok b=>
    intro v C OO' H' w mm ho
    rw [hD]
    exact ER P v C OO' H' w mm ho
theorem EG {J : Jn Unit ι} {t : TS} {m : Rs Unit} {Q : VK} {H : Hp} {D : Ends} (n : Nat) (h : Sv (ErE mg E) S (List.replicate n []) σ t (FNd J) m) (hs : S.p H) (PP : PX (ErE mg E) (FF K oU Q) H m) (hD : ∀ σ H, D.nx σ H = Q .non H) : t D σ H:=by
  have P:=PP.z
  refine h H D (HB n H) (by rw [FD]; exact hs) ?_
  rw [FD]
  cases m with
  | bad=>exact P
  | err x=>exact P
  | ok b=>
    intro x H' w mm ho
    rw [hD]
    have hs : Xp (hid H' (J.oo x)) (hid H' [[]]):=Zg (Xp.refl _) λb hb=>by simp [fl] at hb
    exact P .non [] H' ⟨λc hc=>by simp at hc, by simp [fl], λc hc=>by simp at hc⟩ (mm.trans hs) ⟨rfl, rfl⟩
def FJ (Q : Hp -> Prop) (_ : Unit) (H : Hp) : Prop:=∀ H', Xp H H' -> Q H'
theorem FJ.tr {Q : Hp -> Prop} : ∀ (b : Unit) (H H' : Hp), Xp H H' -> FJ Q b H -> FJ Q b H':=λ_ _ _ s h H2 s2=>h H2 (s.trans s2)
def EvJ (Er : Exc -> Hp -> Prop) (S : SC) (OO : List (List Xz)) (σ : St) (t : TJ) (m : Rs Unit) : Prop:=∀ H Q, W OO H -> S.p (hid H OO) -> PZ Er (FJ Q) H m -> t σ H Q
theorem HM : EvJ Er S OO σ tJn (.ok ()):=λH Q _ _ P=>P H (Xp.refl _)
theorem Hr {x : Str} {t : TJ} {m : Rs Unit} (h : EvJ Er S OO σ t m) (hx : x.length <= 1000:=by first | decide | decide +kernel) : EvJ Er S OO σ (tJs (tC (.str x)) t) m:=λH Q w s P=>⟨x, rfl, hx, h H Q w s P⟩
theorem F3 {te : TE} {t : TJ} {ma : Rs Int} {m : Rs Unit} (ha : EvB K Er S OO σ te Xa ma) (h : EvJ Er S OO σ t m) : EvJ Er S OO σ (tJi te t) (ma.bind λi=>chk (i.natAbs.log2 < 1920) m):=λH Q w s P=>
  ha.run w s FJ.tr P λi v H' s1 w1 q1 r1 P1=>by
    by_cases hc : i.natAbs.log2 < 1920
    . rw [XG hc] at P1
      exact ⟨i, r1, hc, h H' Q w1 q1 P1⟩
    . unfold chk at P1
      rw [if_neg hc] at P1
      exact P1.elim
def EvX (Er : Exc -> Hp -> Prop) (S : SC) (OO : List (List Xz)) (σ : St) (t : TE) (m : Rs Unit) : Prop:=∀ H (Q : VK), W OO H -> S.p (hid H OO) -> PZ Er (FJ λH=>∀ v, Q v H) H m -> t σ H Q
theorem Nc {t : TJ} {m : Rs Unit} (h : EvJ Er S OO σ t m) : EvX Er S OO σ (tF t) m:=λH Q w s P=>h H _ w s (by
  cases m with
  | bad=>exact P
  | err x=>exact P
  | ok b=>exact λH' s' x=>P H' s' _)
variable {Fd : Ends -> β -> Hp -> Prop} [fd : FdOk Fd] {u : TS}
theorem BK {te : TE} {m : Rs Unit} {C : Addr} {n : Str} (hm : mg n = some (.ref C)) (h : EvX (ErE mg E) S OO σ te m) : Sv (ErE mg E) S OO σ (Jb (E8 C E (Xr te Zc)) u) Fd (m.bind λ_=>.err ⟨n, .non⟩):=λH D w s P=>
  h H _ w s (by
    cases m with
    | bad=>exact P
    | err x=>exact λH' s'=>P H' (Xv.trans s')
    | ok b=>exact λH' s' v=>⟨Nat.le_of_ble_eq_true rfl, P H' (Xv.trans s') C hm⟩)
def QD (n d : Str) : Bool:=n == d || d == ("PlaitError" : Str)
def erA (K : Fgg) (C : Addr) : Bool:=PySem.W.findIn K (.ref C) "__getattribute__" == some (some (.builtin "BaseException.__getattribute__")) && PySem.W.findIn K (.ref C) "__getattr__" == some none && PySem.W.findIn K (.ref C) "__class__" == some (some (.builtin "object.__class__")) &&
  PySem.W.specialIn K (.builtin "object.__class__") "__get__" == some (some (.builtin "getset_descriptor.__get__")) && PySem.W.takesIn K (.builtin "object.__class__") == some true && PySem.W.mroIn K C (.type "object") == some true && (PySem.W.clsIn K C).isSome && PySem.W.mroIn K C (.type "BaseException") == some true
def JM (n : Str) : Bool:=!(n == ("NotADrawing" : Str)) && !(n == ("NoChain" : Str))
def Hv (K : Fgg) (cs : List (Str × Addr)) : Bool:=cs.all λp=>(!(JM p.1) || PySem.W.excIn K p.2 vEr "ValueError.__new__") && erA K p.2 && PySem.W.kitOne K (.ref p.2) (.type "ValueError") == some true &&
  cs.all λq=>PySem.W.kitOne K (.ref p.2) (.ref q.2) == some (QD p.1 q.1) && PySem.W.exmOne K (.ref p.2) (.ref q.2) == some (QD p.1 q.1)
structure Ecs (ns : List Str) (K : Fgg) (mg : Str -> Option Value) : Prop where
  adr : ∀ n ∈ ns, ∃ C, mg n = some (.ref C) /\ (JM n = true -> PySem.W.excIn K C vEr "ValueError.__new__" = true)
  att : ∀ n ∈ ns, ∀ C, mg n = some (.ref C) -> erA K C = true
  val : ∀ n ∈ ns, ∀ C, mg n = some (.ref C) -> PySem.W.kitOne K (.ref C) (.type "ValueError") = some true
  kit : ∀ n ∈ ns, ∀ d ∈ ns, ∀ C D, mg n = some (.ref C) -> mg d = some (.ref D) -> PySem.W.kitOne K (.ref C) (.ref D) = some (QD n d)
  exm : ∀ n ∈ ns, ∀ d ∈ ns, ∀ C D, mg n = some (.ref C) -> mg d = some (.ref D) -> PySem.W.exmOne K (.ref C) (.ref D) = some (QD n d)
theorem Ln {cs : List (Str × Addr)} (h : Hv K cs = true) (hn : ∀ p ∈ cs, mg p.1 = some (.ref p.2)) : Ecs (cs.map (·.1)) K mg:=by
  have key : ∀ n ∈ cs.map (·.1), ∀ C, mg n = some (.ref C) -> (n, C) ∈ cs:=λn hm C hC=>by
    obtain ⟨⟨n', C'⟩, hp, rfl⟩:=List.mem_map.mp hm
    have:=hn _ hp
    rw [hC] at this
    cases this
    exact hp
  have hp : ∀ p ∈ cs, _:=List.all_eq_true.mp h
  simp only [Bool.and_eq_true, List.all_eq_true, beq_iff_eq, Bool.or_eq_true] at hp
  refine ⟨λn hm=>?_, λn hm C hC=>(hp _ (key n hm C hC)).1.1.2, λn hm C hC=>(hp _ (key n hm C hC)).1.2, λn hm d hd C D hC hD=>((hp _ (key n hm C hC)).2 _ (key d hd D hD)).1, λn hm d hd C D hC hD=>((hp _ (key n hm C hC)).2 _ (key d hd D hD)).2⟩
  obtain ⟨⟨n', C'⟩, hq, rfl⟩:=List.mem_map.mp hm
  exact ⟨C', hn _ hq, λe=>(hp _ hq).1.1.1.resolve_left (by rw [e]; exact Bool.false_ne_true)⟩
def cau (ns : List Str) (n d : Str) : Bool:=decide (n ∈ ns) && QD n d
def Rs.tryC (m : Rs α) (f : α -> Rs β) (g : Exc -> Rs β) : Rs β:=match m with
  | .bad=>.bad
  | .err x=>g x
  | .ok a=>f a
theorem Hx {c : Prop} [Decidable c] {m : Rs β} {F : β -> Hp -> Prop} {H : Hp} (P : PZ Er F H (chk c m)) : c /\ PZ Er F H m:=by
  by_cases hc : c
  . rw [XG hc] at P; exact ⟨hc, P⟩
  . unfold chk at P
    rw [if_neg hc] at P
    exact P.elim
section
variable {te : XK -> TE} {m : Rs α} {ts : Addr -> Addr -> TS} {N i : Nat} {Ch : Addr} {o : OE ρ} {g : Exc -> Rs ρ} {ns : List Str} {d : Str}
theorem E9 {x : Exc} {H : Hp} {D D' : Ends} (hD : D'.rt = D.rt) (Y : Ecs ns K mg) (hd : d ∈ ns) (hm : mg d = some (.ref Ch)) (hs : ∀ x, x.cls ∈ ns -> ∀ C a, mg x.cls = some (.ref C) -> Sv Er S OO ((blank N).set i (some (.ref a))) (ts a C) (FTd K o) (g x)) (w : W OO H) (s : S.p (hid H OO))
    (P : PZ Er (FTd K o D) (hid H OO) (chk (cau ns x.cls d = true) (g x))) : ∀ H', Xp H H' -> ∀ C, mg x.cls = some (.ref C) -> PySem.W.exmOne K (.ref C) (.ref Ch) = some true /\ ∀ a C', Value.ref C = .ref C' -> H' a = none -> ts a C' D' ((blank N).set i (some (.ref a))) H':=λH' s' C hC=>by
  obtain ⟨hc, P2⟩:=Hx P
  unfold cau at hc
  rw [Bool.and_eq_true, decide_eq_true_eq] at hc
  refine ⟨by rw [Y.exm _ hc.1 d hd C Ch hC hm, hc.2], λa C' hC' _=>hs x hc.1 C' a (hC'.symm ▸ hC) H' D' (w.keep s') (S.mono _ _ (Xj s') s) ?_⟩
  have P3:=PZ.tr (FdOk.tr (Fd:=FTd K o) D) (Xj s') P2
  unfold FTd at P3 ⊢
  rw [hD]
  exact P3
theorem Hl {r : Enc α} {f : Rs ρ} (Y : Ecs ns K mg) (hd : d ∈ ns) (hm : mg d = some (.ref Ch)) (he : ∀ E, EvB K (ErE mg E) S OO σ (te E) r m) (hr : Sv Er S OO σ u (FTd K o) f)
    (hs : ∀ x, x.cls ∈ ns -> ∀ C a, mg x.cls = some (.ref C) -> Sv Er S OO ((blank N).set i (some (.ref a))) (ts a C) (FTd K o) (g x)) :
    Sv Er S OO σ (Jb (Nf K N (.ref Ch) i (λE=>Jb (Fv (te E)) FC) ts) u) (FTd K o) (m.tryC (λ_=>f) (λx=>chk (cau ns x.cls d = true) (g x))):=λH D w s P=>
  he _ H _ w s (by
    cases m with
    | bad=>exact P
    | err x=>exact E9 rfl Y hd hm hs w s P
    | ok a=>exact λv H' s' _=>hr H' D (w.keep s') (S.mono _ _ (Xj s') s) (PZ.tr (FdOk.tr (Fd:=FTd K o) D) (Xj s') P))
end
def vOf : V -> Value
  | .ref a=>.ref a
  | .ty n=>.type n
  | _=>.none
def MI (K : Fgg) (c : Value) (a : Addr) (xs : List V) (H : Hp) (Q : VK) : Prop:=∃ d b C, c = .ref C /\ erA K C = true /\ xs = [.ref a, d] /\ ((∃ D, d = .ref D) ∨ ∃ n, d = .ty n) /\ PySem.W.kitOne K c (vOf d) = some b /\ Q (.bl b) H
theorem Ce {a C D : Addr} {b : Bool} (i : Nat) (hσ : σ[i]? = some (some (.ref a))) (hA : erA K C = true) (hk : PySem.W.kitOne K (.ref C) (.ref D) = some b) : EvB K Er S OO σ (tCB (MI K (.ref C) a) (Xr (UX i) (Xr (tC (.ref D)) Zc))) XR (.ok b):=λH Q w s P=>
  ⟨_, hσ, _, b, C, rfl, hA, rfl, .inl ⟨D, rfl⟩, hk, P _ H (Xp.refl _) rfl⟩
theorem Ik {a C : Addr} {n : String} {b : Bool} (i : Nat) (hσ : σ[i]? = some (some (.ref a))) (hA : erA K C = true) (hk : PySem.W.kitOne K (.ref C) (.type n) = some b) : EvB K Er S OO σ (tCB (MI K (.ref C) a) (Xr (UX i) (Xr (tC (.ty n)) Zc))) XR (.ok b):=λH Q w s P=>
  ⟨_, hσ, _, b, C, rfl, hA, rfl, .inr ⟨n, rfl⟩, hk, P _ H (Xp.refl _) rfl⟩
theorem LO {o : OE ρ} {c : TT} {t1 : TS} {mc : Rs Bool} {m1 : Rs ρ} {m2 : Rs β} (hc : EvT Er S OO σ c mc) (h1 : Sv Er S OO σ t1 (FTd K o) m1) (h2 : Sv Er S OO σ u Fd m2) : Sv Er S OO σ (Jb (Mg c t1 FC) u) Fd (mc.bind λb=>if b = true then m1.bind (λ_=>.bad) else m2):=λH D w s P=>
  hc.st (Fd:=Fd) w s P λb H' w' s' P'=>by
    cases b with
    | true=>
      rw [if_pos rfl] at P' ⊢
      refine h1 H' _ w' s' ?_
      cases m1 with
      | bad=>exact P'
      | err x=>exact P'
      | ok a=>exact P'.elim
    | false=>exact h2 H' D w' s' P'
end
end L2
namespace L2
open PySem PySem.Spec PyProof.Rows PySem.W PySem.Builtin PySem.Builtin.ObjectAttr PySem.Builtin.Getset_descriptor
section
variable {prog : Program} {w : World} {A : Around} {E : Value -> Shared -> Prop} {K : Frag} {x D : Addr} {s : Shared}
theorem BS {M : Model} {h : Heap} (X : K.In h) (cl : findIn K (.ref D) "__class__" = some (some (.builtin "object.__class__"))) (sg : specialIn K (.builtin "object.__class__") "__get__" = some (some (.builtin "getset_descriptor.__get__"))) (tk : takesIn K (.builtin "object.__class__") = some true) :
    Looks M h (Builtin.ObjectAttr.find (.ref x) (.ref D) "__class__") (.bind (.builtin "getset_descriptor.__get__") (.builtin "object.__class__")):=by
  have L3:=looks_takesIn (M:=M) X tk
  exact (looks_findIn (M:=M) X cl).andThen ((looks_specialIn X sg).andThen ((show Looks M h (Builtin.ObjectAttr.dataDescriptor? (some (.builtin "object.__class__")) (some (.builtin "getset_descriptor.__get__"))) (some (.builtin "getset_descriptor.__get__", .builtin "object.__class__")) from L3.andThen .now).andThen (Looks.tag .now)))
theorem HX {R : Result -> Shared -> Prop} {tp : Value} (X : K.In s.heap) (L0 : Looks (model prog w) s.heap (typeOf (.ref x)) (.ref D)) (hm : mroIn K D (.type "object") = some true)
    (h : R (.ok (.ret (.ref D))) s) : codeAny (model prog w) A (.call (.builtin "getset_descriptor.__get__") ⟨[.builtin "object.__class__", .ref x, tp], []⟩) R s:=by
  obtain ⟨hh, g, dr, t, os⟩:=s
  have L1:=looks_mroIn (M:=model prog w) X hm
  refine codeAny_call_builtin KF.slot_gs.plain KF.entry_gs (KF.slot_gs.check _ _ _ _ _ _ _ _ KF.type_class (KF.args_gs _ _ _) ?_)
  unfold Builtin.«getset_descriptor.__get__» descrGet
  rw [dga_obj]
  refine wpAny_bind (wpAny_pure ?_)
  unfold descrGetter descrCheckInstance descrNameAndClass isInstance
  simp only [KF.owner_class]
  repeat lk
  refine ⟨Code.quiet_builtin _ (by decide +kernel), codeAny_builtin KF.entry_class ?_⟩
  unfold Builtin.«object.__class__» shownTypeOf
  repeat lk
  exact h
theorem F7 {Q : Option Value -> Shared -> Prop} (X : K.In s.heap) (hx : ∃ o, s.heap.get? x = some o /\ o.cls = .ref D) (hA : erA K D = true) (h : Q (some (.ref D)) { s with toks:=s.toks + 1 }) : wpAny (model prog w) A (getAttr? (.ref x) "__class__") Q E s:=by
  obtain ⟨hh, g, d, t, os⟩:=s
  obtain ⟨o, ho, hc⟩:=hx
  unfold erA at hA
  simp only [Bool.and_eq_true, beq_iff_eq] at hA
  obtain ⟨⟨⟨⟨⟨⟨⟨ga, gh⟩, cl⟩, sg⟩, tk⟩, mo⟩, ci⟩, mb⟩:=hA
  have L0 : Looks (model prog w) hh (typeOf (.ref x)) (.ref D):=hc ▸ (Looks.ld ho).andThen .now
  have L1:=looks_findIn (M:=model prog w) X ga
  have L2:=looks_findIn (M:=model prog w) X gh
  have LB:=looks_mroIn (M:=model prog w) X mb
  have LF:=BS (M:=model prog w) (x:=x) X cl sg tk
  have f3:=PySem.F.attr_ValueError.ga.bind (.ref x)
  have hx2 : (Value.builtin "BaseException.__getattribute__" == Value.builtin "object.__getattribute__") = false:=by decide +kernel
  unfold getAttr? getAttrBy? getAttrBy
  refine wpAny_bind (wpAny_mkText (wpAny_bind (wpAny_attempt (wpAny_holding (wpAny_bind (L0.at (wpAny_bind (L1.at ?_))))))))
  dsimp only
  rw [hx2, Bool.and_false, if_neg Bool.false_ne_true]
  unfold getAttrByItsOwn hookBefore callGetattribute boundAndCalled
  refine wpAny_bind (L2.at ?_)
  refine wpAny_bind (wpAny_attempt (wpAny_holding ?_))
  rw [Bool.false_and, if_neg Bool.false_ne_true, f3]
  refine wpAny_bind (wpAny_pure ?_)
  refine wpAny_call (codeAny_call_builtin PySem.F.attr_ValueError.ga.plain PySem.F.entry_bexc_ga ?_)
  have hk : builtinKind "BaseException.__getattribute__" = some .slot:=by decide +kernel
  have hsplit : splitId "BaseException.__getattribute__" = some ("BaseException", "__getattribute__"):=by decide +kernel
  have ha:=PySem.F.args_bexc_ga (.ref x) (Value.str (Str.ofString "__class__") t)
  simp only [checkBuiltinCall, hk, hsplit]
  unfold isInstance
  refine wpAny_bind (wpAny_bind (L0.at ?_))
  refine LB.at ?_
  rw [if_neg (by decide)]
  have fin : ∀ s1 : Shared, s1 = ⟨hh, g, d, t + 1, os⟩ -> wpAny (model prog w) A.in1 («object.__getattribute__» { pos:=[Value.ref x] ++ [Value.str (Str.ofString "__class__") t] }) (λfin s'=>match fin with | .done (.ret v)=>v = .ref D /\ s' = s1 | _=>False) (λ_ _=>False) s1:=by
    intro s1 hs1
    subst hs1
    unfold «object.__getattribute__» bindTo
    repeat (any_goals (first | with_reducible refine wpAny_call (HX X L0 mo ?_) | lk))
    exact ⟨rfl, rfl⟩
  unfold argsOk at ha
  have sg2 : ∀ sig, Manifest.signature? "BaseException.__getattribute__" = some sig -> Bind.checkArgs "BaseException.__getattribute__" sig { pos:=[Value.ref x, Value.str (Str.ofString "__class__") t] } = pure ():=λsig e=>by
    rw [e] at ha
    exact ha
  have Zk : ∀ {P : Unit -> Shared -> Prop} {E' : Value -> Shared -> Prop} {s1 : Shared}, P () s1 -> wpAny (model prog w) A.in1 (match Manifest.signature? "BaseException.__getattribute__" with | some sig=>Bind.checkArgs "BaseException.__getattribute__" sig { pos:=[Value.ref x] ++ [Value.str (Str.ofString "__class__") t] } | _=>pure ()) P E' s1:=fun {P E' s1} p=>by
    split
    . rename_i sig e
      rw [show [Value.ref x] ++ [Value.str (Str.ofString "__class__") t] = [Value.ref x, Value.str (Str.ofString "__class__") t] from rfl, sg2 sig e]
      exact wpAny_pure p
    . exact wpAny_pure p
  refine Zk ?_
  refine wpAny_mono (fin _ rfl) (λfi s' z=>?_) λ_ _ z=>z.elim
  rcases fi with (_ | _ | _ | v) | _
  all_goals first | exact z.elim | skip
  obtain ⟨rfl, rfl⟩:=z
  exact handed_on rfl (wpAny_pure h)
theorem BX (hA : erA K D = true) : KitX K (.ref x) (.ref D) (λh=>∃ o, h.get? x = some o /\ o.cls = .ref D) where
  ty:=λ_ _ _ ⟨o, ho, hc⟩=>hc ▸ (Looks.ld ho).andThen .now
  it:=λ_ _ X _=>by
    unfold erA at hA
    simp only [Bool.and_eq_true] at hA
    have z0:=hA.1.2
    unfold clsIn at z0
    split at z0
    . rename_i ho
      intro A' Q' E' s' k q
      unfold isType loadHead
      exact wpAny_bind (wpAny_loadPart (k _ _ (X _ _ ho)) (wpAny_pure q))
    . cases z0
  ne:=λh tp dd its n sl X htp=>by
    unfold erA at hA
    simp only [Bool.and_eq_true] at hA
    have z0:=hA.1.2
    refine Bool.eq_false_iff.mpr λq=>?_
    have e : D = tp:=Value.ref.inj (beq_iff_eq.mp q)
    subst e
    unfold clsIn at z0
    split at z0
    . rename_i ho
      cases (X _ _ ho).symm.trans htp
    . cases z0
  ca:=λX I k=>F7 X I hA k
end
theorem EF {X : Cx} {x : Str} {v : V} {pos : Pos} (h : ∃ u, X.mg x = some u /\ X7 v u) (hg : Gl X x) (hd : (x == ("__debug__" : Str)) = false:=by decide) : PE X (.Name x pos) (tC v):=by
  obtain ⟨u, hm, r⟩:=h
  exact K2 hg hm r hd
theorem PS.nox {X : Cx} {st : Stmt} {t : TS} (h : PS X.nox st t) : PS X st t:=λpins s σ H D I hw=>
  wpAny_mono (h pins s σ H D (I.wish _) hw) (λ_ _ q=>q.unwish) λ_ _ z=>False.elim z
theorem UR {X : Cx} {a C : Addr} {o : Obj} {pn : List (Addr × Obj)} (hpn : X.pn = pn) (hp : (a, o) ∈ pn) (hc : o.cls = .ref C) {K : Frag} (hK : X.K = K) : Qf X (.builtin "isinstance") (MI K (.ref C) a):=by
  subst hpn hK
  intro pins s σ H xs us Q I r ⟨d, b, C', hC', hA, hxs, hd, hk, q⟩
  cases hC'
  subst hxs
  obtain ⟨e, _⟩:=I.pin (a, o) (List.mem_append_left _ hp)
  cases r with
  | cons r1 r2=>
    cases r2 with
    | cons r3 r4=>
      cases r4
      rename_i u1 u2
      obtain rfl : u1 = Value.ref a:=r1
      have e2 : u2 = vOf d:=by
        rcases hd with ⟨D, rfl⟩ | ⟨n, rfl⟩
        . exact r3
        . exact r3
      subst e2
      exact kia_one (BX hA) I.kIn ⟨o, e, hc⟩ hk (λz=>nomatch z) λtk=>⟨.bl b, H, I.tok tk, rfl, q⟩
section
variable {K : Fgg} {C D : Addr} {b : Bool}
theorem DJ (h1 : PySem.W.findIn K (.ref C) "__getattribute__" = some (some (.builtin "BaseException.__getattribute__"))) (h2 : PySem.W.findIn K (.ref C) "__getattr__" = some none) (h3 : PySem.W.findIn K (.ref C) "__class__" = some (some (.builtin "object.__class__")))
    (h6 : PySem.W.mroIn K C (.type "object") = some true) (h7 : PySem.W.isClsIn K C = true) (h8 : PySem.W.mroIn K C (.type "BaseException") = some true) (h4 : PySem.W.specialIn K (.builtin "object.__class__") "__get__" = some (some (.builtin "getset_descriptor.__get__"))) (h5 : PySem.W.takesIn K (.builtin "object.__class__") = some true) : erA K C = true:=by
  unfold erA
  unfold PySem.W.isClsIn at h7
  rw [h1, h2, h3, h4, h5, h6, h7, h8]
  rfl
theorem Gh (h : PySem.W.subIn K (.ref C) (.type "ValueError") = some true) : PySem.W.kitOne K (.ref C) (.type "ValueError") = some true:=by
  have e : PySem.W.kitOne K (.ref C) (.type "ValueError") = PySem.W.subIn K (.ref C) (.type "ValueError"):=rfl
  rw [e, h]
theorem UJ (s : PySem.W.subIn K (.ref C) (.ref C) = some true) (h : PySem.W.subIn K (.ref C) (.ref D) = some b) (h7 : PySem.W.isClsIn K D = true) (ht : PySem.W.typeIn K (.ref D) = some (.type "type")) (hb : PySem.W.subIn K (.ref D) (.type "BaseException") = some true) :
    PySem.W.kitOne K (.ref C) (.ref D) = some b /\ PySem.W.exmOne K (.ref C) (.ref D) = some b:=by
  have e : PySem.W.kitCls K (.ref C) (.ref D) = some b:=by
    unfold PySem.W.kitCls
    unfold PySem.W.isClsIn at h7
    dsimp only
    rw [h7, ht, h]
    rfl
  constructor
  . unfold PySem.W.kitOne
    rw [e]
    split
    . rename_i q
      have q:=eq_of_beq q
      rw [← q, s] at h
      exact h
    . rfl
  . unfold PySem.W.exmOne
    rw [hb, e]
    rfl
end
end L2
namespace L2
open PySem PySem.Spec PyProof.Rows
theorem P3.dropLast {α β γ : Type} {F : α -> β -> γ -> Prop} : ∀ {l m n}, P3 F l m n -> P3 F l.dropLast m.dropLast n.dropLast
  | _, _, _, .nil=>.nil
  | _, _, _, .cons _ .nil=>.nil
  | _, _, _, .cons r (.cons q t)=>.cons r (P3.dropLast (.cons q t))
theorem QW {α : Type} (l : List (List α)) : l.dropLast.flatten.Sublist l.flatten:=by
  have e : l.flatten = l.dropLast.flatten ++ (l.drop (l.length - 1)).flatten:=by rw [List.dropLast_eq_take, ← List.flatten_append, List.take_append_drop]
  rw [e]
  exact List.sublist_append_left _ _
section
variable {α β : Type} {K : Fgg} {Er : Exc -> Hp -> Prop} {S : SC} {OO : List (List Xz)} {σ : St} {Fd : Ends -> β -> Hp -> Prop} [fd : FdOk Fd] {u : TS}
end
section
variable {α β γ δ ε : Type}
structure Crs (r : Enc α) (q : Enc β) (d : Nat) : Prop where
  no : ∀ {X : Cx} {pins : List (Addr × Obj)} {σ : St} {H : Hp} {s : Shared} {x : V} {a : α} {b : β}, Inv X pins σ H s -> r X.K H x a -> q X.K H x b -> False
  lr : ∀ {X : Cx} {pins : List (Addr × Obj)} {σ : St} {H : Hp} {s : Shared} {x y : V} {v u : Value} {a : α} {b : β} {A : Around}, Inv X pins σ H s -> X7 x v -> X7 y u -> r X.K H x a -> q X.K H y b -> A.units + d < cLine -> SeqAt.EqAt A s v u false /\ SeqAt.RcAt A s v u false /\ SeqAt.RcNeAt A s v u true
  rl : ∀ {X : Cx} {pins : List (Addr × Obj)} {σ : St} {H : Hp} {s : Shared} {x y : V} {v u : Value} {a : α} {b : β} {A : Around}, Inv X pins σ H s -> X7 x v -> X7 y u -> q X.K H x b -> r X.K H y a -> A.units + d < cLine -> SeqAt.EqAt A s v u false /\ SeqAt.RcAt A s v u false /\ SeqAt.RcNeAt A s v u true
theorem Crs.up {r : Enc α} {q : Enc β} {d e : Nat} (c : Crs r q d) (h : d <= e) : Crs r q e:=⟨c.no, λI rx ry h1 h2 hu=>c.lr I rx ry h1 h2 (by lia), λI rx ry h1 h2 hu=>c.rl I rx ry h1 h2 (by lia)⟩
theorem LJ {x y z : V} {its : List Value} (h : X5 [x, y, z] its) : ∃ u1 u2 u3, its = [u1, u2, u3] /\ X7 x u1 /\ X7 y u2 /\ X7 z u3:=by
  cases h with
  | cons a t=>
    obtain ⟨u, v, rfl, b, c⟩:=X5.two t
    exact ⟨_, u, v, rfl, a, b, c⟩
theorem MZ [DecidableEq α] [DecidableEq β] [DecidableEq γ] {r : Enc α} {q : Enc β} {t : Enc γ} {d : Nat} [m : MonoE r] [n : MonoE q] [k : MonoE t] (E : EqOk r d) (F : EqOk q d) (G : EqOk t d) : EqOk (rP3 r q t) (d + 1):=by
  have un : ∀ {X : Cx} {pins : List (Addr × Obj)} {σ : St} {H : Hp} {s : Shared} {x : V} {a b : α × β × γ}, Inv X pins σ H s -> rP3 r q t X.K H x a -> rP3 r q t X.K H x b -> a = b:=by
    rintro X pins σ H s x ⟨a1, a2, a3⟩ ⟨b1, b2, b3⟩ I ⟨a, x1, x2, x3, rfl, q1, p1, p2, p3⟩ ⟨b, y1, y2, y3, e, q2, p4, p5, p6⟩
    cases e
    cases I.tuple_inj (SqT.of q1) (SqT.of q2)
    rw [show a1 = b1 from E.uniq I p1 p4, show a2 = b2 from F.uniq I p2 p5, show a3 = b3 from G.uniq I p3 p6]
  have both : ∀ {X : Cx} {pins : List (Addr × Obj)} {σ : St} {H : Hp} {s : Shared} {x y : V} {v u : Value} {a b : α × β × γ} {A : Around}, Inv X pins σ H s -> X7 x v -> X7 y u -> rP3 r q t X.K H x a -> rP3 r q t X.K H y b -> A.units + (d + 1) < cLine -> SeqAt.RcAt A s v u (decide (a = b)) /\ SeqAt.RcNeAt A s v u (!decide (a = b)):=by
    rintro X pins σ H s x y v u ⟨a1, a2, a3⟩ ⟨b1, b2, b3⟩ A I rx ry ⟨a, x1, x2, x3, rfl, q1, p1, p2, p3⟩ ⟨b, y1, y2, y3, rfl, q2, p4, p5, p6⟩ hu
    cases rx; cases ry
    obtain ⟨i1, z1, l1, _⟩:=I.tuple (SqT.of q1)
    obtain ⟨i2, z2, l2, _⟩:=I.tuple (SqT.of q2)
    obtain ⟨u1, u2, u3, rfl, e1, e2, e3⟩:=LJ z1
    obtain ⟨w1, w2, w3, rfl, g1, g2, g3⟩:=LJ z2
    have it : ∀ j (h1 : j < [u1, u2, u3].toArray.size) (h2 : j < [w1, w2, w3].toArray.size), SeqAt.EqAt A.in1 s [u1, u2, u3].toArray[j] [w1, w2, w3].toArray[j] ((λj=>if j = 0 then decide (a1 = b1) else if j = 1 then decide (a2 = b2) else decide (a3 = b3)) j):=by
      intro j h1 h2
      have hj : j = 0 ∨ j = 1 ∨ j = 2:=by
        have h1' : j < 3:=h1
        lia
      rcases hj with rfl | rfl | rfl
      . exact E.eq (A:=A.in1) I e1 g1 p1 p4 (by rw [YV]; lia)
      . exact F.eq (A:=A.in1) I e2 g2 p2 p5 (by rw [YV]; lia)
      . exact G.eq (A:=A.in1) I e3 g3 p3 p6 (by rw [YV]; lia)
    have R:=SeqAt.RcAt.tuples (A:=A) l1 l2 (by lia) it
    have N:=SeqAt.RcNeAt.tuples (A:=A) l1 l2 (by lia) it
    have ed : decide ((a1, a2, a3) = (b1, b2, b3)) = (decide (a1 = b1) && (decide (a2 = b2) && decide (a3 = b3))):=by rw [Bool.eq_iff_iff]; simp
    rw [ed]
    exact ⟨by simpa [List.range_succ, Bool.and_assoc] using R, by simpa [List.range_succ, Bool.and_assoc, Bool.not_and] using N⟩
  refine ⟨un, ?_, λI rx ry h1 h2 hu=>(both I rx ry h1 h2 hu).1, λI rx ry h1 h2 hu=>(both I rx ry h1 h2 hu).2, λs q=>MonoE.mono s q⟩
  intro X pins σ H s x y v u as bs A I rx ry h1 h2 hu
  have R:=(both (A:=A) I rx ry h1 h2 hu).1
  obtain ⟨a, x1, x2, x3, rfl, q1, _⟩:=id h1
  obtain ⟨b, y1, y2, y3, rfl, q2, _⟩:=id h2
  cases rx; cases ry
  by_cases e : a = b
  . subst e
    rw [decide_eq_true (un I h1 h2)]
    exact SeqAt.EqAt.same _
  . exact SeqAt.EqAt.of_refs e R
end
section
variable {K : Fgg} {Er : Exc -> Hp -> Prop} {S : SC} {OO OO' OO1 OO2 : List (List Xz)} {σ : St} {α β γ ρ ι δ ε ζ : Type}
variable {Fd : Ends -> β -> Hp -> Prop} [fd : FdOk Fd] {u : TS}
def getL : α ⊕ γ -> Rs α
  | .inl a=>.ok a
  | .inr _=>.bad
def getR : α ⊕ γ -> Rs γ
  | .inl _=>.bad
  | .inr b=>.ok b
end
end L2
namespace L2
theorem IY {α : Type} {us : List α} (h : us.length = 1) : ∃ a, us = [a]:=List.length_eq_one_iff.mp h
theorem Lq {α : Type} {us : List α} (h : us.length = 2) : ∃ a0 a1, us = [a0, a1]:=by
  cases us with
  | nil=>cases h
  | cons a0 t=>
    obtain ⟨a1, rfl⟩:=IY (Nat.succ.inj h)
    exact ⟨a0, a1, rfl⟩
theorem Ma {α : Type} {us : List α} (h : us.length = 3) : ∃ a0 a1 a2, us = [a0, a1, a2]:=by
  cases us with
  | nil=>cases h
  | cons a0 t=>
    obtain ⟨a1, a2, rfl⟩:=Lq (Nat.succ.inj h)
    exact ⟨a0, a1, a2, rfl⟩
theorem M9 {α : Type} {us : List α} (h : us.length = 4) : ∃ a0 a1 a2 a3, us = [a0, a1, a2, a3]:=by
  cases us with
  | nil=>cases h
  | cons a0 t=>
    obtain ⟨a1, a2, a3, rfl⟩:=Ma (Nat.succ.inj h)
    exact ⟨a0, a1, a2, a3, rfl⟩
theorem MV {α : Type} {us : List α} (h : us.length = 5) : ∃ a0 a1 a2 a3 a4, us = [a0, a1, a2, a3, a4]:=by
  cases us with
  | nil=>cases h
  | cons a0 t=>
    obtain ⟨a1, a2, a3, a4, rfl⟩:=M9 (Nat.succ.inj h)
    exact ⟨a0, a1, a2, a3, a4, rfl⟩
end L2
namespace L2
open PySem PySem.Spec PyProof.Rows
section
variable {prog : Program} {w : World} {A : Around} {E : Value -> Shared -> Prop}
end
section
variable {X : Cx} {pos : Pos}
end
section
variable {K : Fgg} {Er : Exc -> Hp -> Prop} {S : SC} {OO OO' OO1 OO2 : List (List Xz)} {σ : St} {α β γ ρ ι δ ε ζ : Type}
variable {Fd : Ends -> β -> Hp -> Prop} [fd : FdOk Fd] {u : TS}
theorem Bq {te : TE} {m : Rs (Option (Int × Int))} (he : Ev K Er S OO OO' σ te (oF (ZB (rP2 Xa Xa))) m) : Ev K Er S OO OO' σ te (oF (ZB (rPL Xa))) (m.bind λa=>.ok (a.map λp=>[p.1, p.2])):=λH Q w s P=>by
  refine he H Q w s ?_
  cases m with
  | bad=>exact P
  | err x=>exact P
  | ok a=>
    refine λv C H' s' w' m' ho=>P v C H' s' w' m' ⟨ho.1, ?_⟩
    cases a with
    | none=>exact ho.2
    | some a=>
      obtain ⟨_, hn, p, x, y, e, h, h1, h2⟩:=ho
      exact ⟨hn, p, _, e, h, .cons h1 (.cons h2 .nil)⟩
theorem GW {te : TE} {m : Rs (Option (Int × Int × Int × Int))} (he : Ev K Er S OO OO' σ te (oF (ZB (rP4 Xa Xa Xa Xa))) m) : Ev K Er S OO OO' σ te (oF (ZB (rPL Xa))) (m.bind λa=>.ok (a.map λp=>[p.1, p.2.1, p.2.2.1, p.2.2.2])):=λH Q w s P=>by
  refine he H Q w s ?_
  cases m with
  | bad=>exact P
  | err x=>exact P
  | ok a=>
    refine λv C H' s' w' m' ho=>P v C H' s' w' m' ⟨ho.1, ?_⟩
    cases a with
    | none=>exact ho.2
    | some a=>
      obtain ⟨_, hn, p, x, y, x3, x4, e, h, h1, h2, h3, h4⟩:=ho
      exact ⟨hn, p, _, e, h, .cons h1 (.cons h2 (.cons h3 (.cons h4 .nil)))⟩
theorem Vi {r : Enc α} : Ev K Er S OO OO σ (tC .non) (oF (ZB r)) (.ok none):=λH Q w s P=>P _ [] H (Xp.refl _) w.nil (by rw [YC]; exact Xp.refl _) ⟨rfl, rfl⟩
theorem Q6 {te : TE} {r : Enc α} {m : Rs α} (hn : ∀ {K h v a C}, oF r K h v a C -> v ≠ .non) (he : Ev K Er S OO OO' σ te (oF r) m) : Ev K Er S OO OO' σ te (oF (ZB r)) (m.bind λa=>.ok (some a)):=λH Q w s P=>by
  refine he H Q w s ?_
  cases m with
  | bad=>exact P
  | err x=>exact P
  | ok a=>exact λv C H' s' w' m' ho=>P v C H' s' w' m' ⟨ho.1, hn ho, ho.2⟩
theorem LL {r1 : Enc α} {r2 : Enc β} {r3 : Enc γ} {r4 : Enc δ} {K : Fgg} {h : Hp} {v : V} {a : α × β × γ × δ} {C : List Xz} (q : oF (rP4 r1 r2 r3 r4) K h v a C) : v ≠ .non:=by
  obtain ⟨_, p, x1, x2, x3, x4, e, _⟩:=q
  rw [e]
  exact λz=>nomatch z
end
section
variable {X : Cx}
end
section
variable {K : Fgg} {Er : Exc -> Hp -> Prop} {S : SC} {OO OO' OO1 OO2 : List (List Xz)} {σ : St} {α β γ ρ ι δ ε ζ : Type}
variable {Fd : Ends -> β -> Hp -> Prop} [fd : FdOk Fd] {u : TS}
end
set_option maxRecDepth 100000
section
variable {prog : Program} {w : World} {A : Around} {E : Value -> Shared -> Prop} {s : Shared}
theorem Gd : typeLookup (.type "list") "keys" = pure none:=by rw [typeLookup_type, builtinLookup_eq_fast]; kernel_rfl
theorem B7 {a : Addr} {o : Obj} {xs : Array Value} {k : Nat} {R : Option Value -> Shared -> Prop} (hx : s.heap.get? a = some o) (hc : o.cls = .type "list") (hdat : o.data = .seq xs k) (hd : o.dict = none) (hA : A.handled = none)
    (h : ∀ g tk, (∀ b u, s.heap.get? b = some u -> g.get? b = some u) -> R none { s with heap:=g, toks:=tk }) : wpAny (model prog w) A (getAttr? (.ref a) "keys") R E s:=by
  obtain ⟨c, dct, dat, sl⟩:=o
  simp only at hc hdat hd
  subst hc hdat hd
  obtain ⟨hp, g, d, tk, os⟩:=s
  have hT : ∀ tk', (⟨hp, g, d, tk', os⟩ : Shared).TypeIs (.ref a) "list":=λ_=>⟨_, hx, rfl⟩
  have f1:=sub_AttributeError
  have f3:=F.slot_list_getattribute.lookup
  have f4:=F.slot_list_getattribute.bind (.ref a)
  have f5:=am_list_getattr_none
  unfold getAttr? getAttrBy? getAttrBy
  repeat (any_goals (first
    | assumption
    | exact hT _
    | ((with_reducible show wpAny _ _ (call (Value.builtin "list.__getattribute__") _ _) _ _ _)
       refine call_meets F.slot_list_getattribute (hT _) am_entry_list_getattribute (F.args_list_getattribute_2 _ _) (meets_getattribute_miss_list a xs k sl "keys" _ Gd (by decide +kernel)) ⟨hx, hA, λh' tk' e hx'=>?_⟩)
    | wp_step))
  obtain ⟨t', u', he⟩:=hx'.there
  show wpAny _ _ (getattributeRaised _ _ _ _ _ _ _) _ _ _
  unfold getattributeRaised
  repeat (any_goals (first | wp_step | assumption))
  exact h _ _ hx'.keeps
theorem Z7 : plainId "dict.update.loop" = true:=by decide +kernel
theorem Vr : entryFor table "dict.update.loop" = some Builtin.«dict.update.loop»:=entryFor_of_fast (by kernel_rfl)
end
section
variable {prog : Program} {w : World} {A : Around} {R : Result -> Shared -> Prop} {K : Type} [DecidableEq K] {knd : KeyKind prog w K}
def BO (acc kv : List (K × Value)) : List (K × Value):=kv.foldl (λa p=>stored a p.1 p.2) acc
end
section
variable {X : Cx}
def Lm (acc kvs : List (Key × V)) : List (Key × V):=kvs.foldl (λa p=>UW a p.1 p.2) acc
theorem KV.all {kvs : List (Key × V)} {vs : List (Key × Value)} (t : KV kvs vs) : ∀ {acc : List (Key × V)} {acc' : List (Key × Value)}, KV acc acc' -> KV (Lm acc kvs) (BO acc' vs):=by
  induction t with
  | nil=>intro acc acc' h; exact h
  | @cons p q kvs vs r _ ih=>
    intro acc acc' h
    have h2:=h.put p.1 r.2
    have e : stored acc' p.1 q.2 = stored acc' q.1 q.2:=by rw [r.1]
    rw [e] at h2
    exact ih h2
theorem Ej : ∀ {ns : List Int} {vs : List Value}, X5 (ns.map V.int) vs -> IntsAre vs ns:=fun {ns}=>by
  induction ns with
  | nil=>intro vs h; cases h; exact .nil
  | cons n ns ih=>
    intro vs h
    cases h with
    | cons r t=>
      obtain ⟨k, rfl⟩:=r
      exact .cons n k (ih t)
end
section
variable {X : Cx} {pins : List (Addr × Obj)} {σ : St} {H : Hp} {s : Shared} {d : Addr} {o : Obj} {kvs : List (Key × V)}
theorem KV.key {kvs : List (Key × V)} {vs : List (Key × Value)} (h : KV kvs vs) : ∀ {i : Nat} (h1 : i < kvs.length) (h2 : i < vs.length), (kvs[i]).1 = (vs[i]).1:=by
  induction h with
  | nil=>intro i h1; exact absurd h1 (Nat.not_lt_zero _)
  | cons r _ ih=>
    intro i h1 h2
    cases i with
    | zero=>exact r.1
    | succ i=>exact ih (Nat.lt_of_succ_lt_succ h1) (Nat.lt_of_succ_lt_succ h2)
end
section
variable {X : Cx}
end
section
variable {K : Fgg} {Er : Exc -> Hp -> Prop} {S : SC} {OO OO' OO2 : List (List Xz)} {σ : St} {α β γ ρ ι δ ε : Type}
variable {Fd : Ends -> β -> Hp -> Prop} [fd : FdOk Fd] {u : TS}
theorem US {H : Hp} {xs : List V} {ns : List Int} (h : Paired (Xa K H) xs ns) : xs = ns.map V.int:=by
  induction h with
  | nil=>rfl
  | cons r _ ih=>rw [List.map_cons, ih, show _ = V.int _ from r]
theorem B0 {ta : TE} {r : Enc α} [z : FlatE r] {ma : Rs (List α)} (ha : EvB K Er S OO σ ta (rPL r) ma) : Ev K Er S OO OO σ (tCB (Ga K) (Xr ta Zc)) (oL (oF r)) (ma.bind λas=>.ok as):=λH Q w s P=>
  ha.run w s FO.tr P λas x H1 s1 w1 q1 r9 P1=>by obtain ⟨p, xs, e, q, pr⟩:=r9; exact ⟨p, xs, by rw [e], .inr (SqT.of q), Ep w1 (Paired.imp2 (λ_ _ h=>z.flat w1.i h) pr) P1⟩
end
section
variable {prog : Program} {w : World} {A : Around}
end
section
variable {X : Cx}
end
section
variable {K : Fgg} {Er : Exc -> Hp -> Prop} {S : SC} {OO OO' OO1 OO2 : List (List Xz)} {σ : St} {α β γ ρ ι δ ε : Type}
variable {Fd : Ends -> β -> Hp -> Prop} [fd : FdOk Fd] {u : TS}
end
theorem HA {prog : Program} {w : World} {A : Around} {E : Value -> Shared -> Prop} {s : Shared} {l b : Addr} {o1 o2 : Obj} {Q : Value -> Shared -> Prop} (h1 : s.heap.get? l = some o1) (c1 : o1.cls = .type "list") (h2 : s.heap.get? b = some o2) (c2 : o2.cls = .type "list") (hu : A.units < cLine)
    (h : wpAny (model prog w) A (call (.builtin "list.__lt__") [.ref l, .ref b]) (λv s'=>(∃ k, v = .bool k) /\ Q v s') E s) : wpAny (model prog w) A (compareOp .Lt (.ref l) (.ref b)) Q E s:=by
  have t1 : s.TypeIs (.ref l) "list":=⟨_, h1, c1⟩
  have t2 : s.TypeIs (.ref b) "list":=⟨_, h2, c2⟩
  show wpAny _ _ (richCompare .Lt (.ref l) (.ref b)) _ _ _
  unfold richCompare
  refine wpAny_holding ?_
  refine wpAny_bind (wpAny_cRoomFor hu ?_)
  have hone : oneThing? .Lt (.ref l) (.ref b) = none:=rfl
  rw [hone]
  dsimp only
  refine wpAny_bind (wpAny_typeOf t1 ?_)
  refine wpAny_bind (wpAny_typeOf t2 ?_)
  rw [if_neg (by decide)]
  refine wpAny_bind (wpAny_pure ?_)
  rw [if_neg (by decide)]
  unfold tryCompare
  refine wpAny_bind (wpAny_bind (wpAny_callSpecialIfBound?_slot t1 F.slot_list_lt (thn h λv s' ⟨⟨k, e⟩, q⟩=>?_)))
  subst e
  exact wpAny_pure (wpAny_pure q)
theorem Vb : entryFor table "list.__eq__.loop" = some Builtin.«list.__eq__.loop»:=entryFor_of_fast (by kernel_rfl)
theorem Z9 : plainId "list.__eq__.loop" = true:=by decide +kernel
theorem int_at {ns : List Int} {xs : Array Value} (hx : X5 (ns.map V.int) xs.toList) (i : Nat) : (ns[i]? = none /\ xs[i]? = none) ∨ ∃ a t, ns[i]? = some a /\ xs[i]? = some (.int a t):=by
  have hl : ns.length = xs.size:=by have:=hx.length; simpa using this
  rcases Nat.lt_or_ge i ns.length with h | h
  . obtain ⟨u, hu, ru⟩ := hx.get (i := i) (x := .int ns[i]) (by simp [h])
    obtain ⟨t, rfl⟩:=ru
    exact .inr ⟨ns[i], t, by simp [h], by simpa using hu⟩
  . exact .inl ⟨List.getElem?_eq_none h, by simp; lia⟩
section
variable {X : Cx}
end
section
variable {K : Fgg} {Er : Exc -> Hp -> Prop} {S : SC} {OO OO' OO1 OO2 : List (List Xz)} {σ : St} {α β γ ρ ι δ ε : Type}
def Lr [DecidableEq α] (as : List α) (a : α) (k : Int) : Rs Int:=chk (0 <= k) ((IL (as.drop k.toNat) a).bind λj=>.ok (k + j))
theorem FV [DecidableEq α] {ta tb tc : TE} {r : Enc α} [z : InE r] [y : MonoE r] {ma : Rs (List α)} {mb : Rs α} {mc : Rs Int} (ha : EvB K Er S OO σ ta (rV r) ma) (hb : EvB K Er S OO σ tb r mb) (hc : EvB K Er S OO σ tc Xa mc) : EvB K Er S OO σ (tBM K "list" (Db K) ta (Xr tb (Xr tc Zc))) Xa (ma.bind λas=>mb.bind λa=>mc.bind λk=>Lr as a k):=λH Q w s P=>
  ha.run w s FB.tr P λas x H1 s1 w1 q1 ⟨p, xs, e, q, pr⟩ P1=>⟨by rw [e]; exact .inl ⟨rfl, _, SqL.of q⟩, hb.run w1 q1 FB.tr P1 λb v H2 s2 w2 q2 r2 P2=>hc.run w2 q2 FB.tr P2 λk vk H3 s3 w3 q3 r3 P3=>by
    obtain ⟨hk0, P4⟩:=PZ.chk P3
    have pr2:=Paired.imp2 (G:=r K H3) (λ_ _ h=>y.mono (s2.trans s3) h) pr
    have r2':=y.mono s3 r2
    cases hi : IL (as.drop k.toNat) b with
    | bad=>rw [hi] at P4; exact P4.elim
    | err x=>exact absurd hi IC
    | ok c=>
      rw [hi] at P4
      obtain ⟨j, hj, rfl⟩:=Hd hi
      obtain ⟨h1, h2⟩:=Fm r2' (Paired.drop' k.toNat pr2) hj
      obtain ⟨zz, hz1, hz2⟩:=h1
      rw [List.getElem?_drop] at hz1
      refine ⟨p, xs, v, k.toNat, k.toNat + j, k, e, by rw [show vk = .int k from r3], by lia, SqL.of ((s2.trans s3) _ _ q), z.fl r2', (Qh r2' pr2).1, Nat.le_add_right _ _, ⟨zz, hz1, hz2⟩, λm z hm1 hm2 hz=>?_, ?_⟩
      . refine h2 (m - k.toNat) z (by lia) ?_
        rw [List.getElem?_drop, show k.toNat + (m - k.toNat) = m by lia]
        exact hz
      . have := P4 (.int (k + (j : Int))) H3 (Xp.refl _) rfl
        rw [show ((k.toNat + j : Nat) : Int) = k + (j : Int) by lia]
        exact this⟩
end
section
variable {K : Fgg} {Er : Exc -> Hp -> Prop} {S : SC} {OO OO' OO1 OO2 : List (List Xz)} {σ : St} {α β γ ρ ι δ ε : Type}
def EQ (K : Fgg) : List V -> Hp -> VK -> Prop:=λxs H Q=>∃ p ys, xs = [.ref p] /\ ((SqL K H p ys /\ ∀ l, H l = none -> Q (.ref l) (upd H l (.tup ys))) ∨ (SqT K H p ys /\ Q (.ref p) H))
theorem VF {X : Cx} (K : Fgg) (h : X.K = K) : Qf X (.type "tuple") (EQ K):=by subst h; exact Uj
theorem FU {ta : TE} {r : Enc α} [z : MonoE r] {ma : Rs (List α)} (ha : EvB K Er S OO σ ta (rV r) ma) : EvB K Er S OO σ (tCB (EQ K) (Xr ta Zc)) (rPL r) (ma.bind λa=>.ok a):=λH Q w s P=>
  ha.run w s FB.tr P λa x H1 s1 w1 q1 r9 P1=>by obtain ⟨p, xs, e, q, pr⟩:=r9; exact ⟨p, xs, by rw [e], .inl ⟨SqL.of q, λl hl=>P1 (.ref l) _ (XE hl _) ⟨l, xs, rfl, Yp, Paired.imp2 (λ_ _ h=>z.mono (XE hl _) h) pr⟩⟩⟩
def tk (k : List Int) : List Key:=k.map Sum.inl
theorem CM {a b : List Int} (h : tk a = tk b) : a = b:=(List.map_inj_right (λ_ _ h=>Sum.inl.inj h)).mp h
theorem Mi (k : List Int) : (tk k).map kV = k.map V.int:=by unfold tk; rw [List.map_map]; rfl
def DX {α : Type} (r : Enc α) (K : Fgg) (H : Hp) (kv : List Key × V) (kx : List Int × α) : Prop:=kv.1 = tk kx.1 /\ r K H kv.2 kx.2
def rDT {α : Type} (r : Enc α) : Enc (List (List Int × α)):=λK H v d=>∃ p kvs, v = .ref p /\ H p = some (.dT kvs) /\ Paired (DX r K H) kvs d
def oDT {α : Type} (r : Enc α) : OE (List (List Int × α)):=λK h v d C=>∃ p kvs, v = .ref p /\ Paired (DX r K h) kvs d /\ C = [(p, .dT kvs)]
instance {r : Enc α} [m : MonoE r] : MonoE (rDT r):=⟨λs r9=>by obtain ⟨p, kvs, e, q, pr⟩:=r9; exact ⟨p, kvs, e, s _ _ q, Paired.imp2 (λ_ _ z=>⟨z.1, m.mono s z.2⟩) pr⟩⟩
instance {r : Enc α} [m : MonoE r] : MonoO (oDT r):=⟨λs r9=>by obtain ⟨p, kvs, e, pr, c⟩:=r9; exact ⟨p, kvs, e, Paired.imp2 (λ_ _ z=>⟨z.1, m.mono s z.2⟩) pr, c⟩⟩
instance {r : Enc α} [m : FlatE r] : FlatO (oDT r):=⟨λs r9=>by obtain ⟨p, kvs, e, pr, c⟩:=r9; exact ⟨p, kvs, e, Paired.imp2 (λ_ _ z=>⟨z.1, m.flat s z.2⟩) pr, c⟩⟩
instance {r : Enc α} [m : MonoE r] : FrzC (oDT r) (rDT r):=⟨λr9 s hc=>by obtain ⟨p, kvs, e, pr, c⟩:=r9; exact ⟨p, kvs, e, hc (p, .dT kvs) (by rw [c]; simp), Paired.imp2 (λ_ _ z=>⟨z.1, m.mono s z.2⟩) pr⟩⟩
def Uq (d : List (List Int × α)) (k : List Int) : Option α:=(d.find? λkv=>decide (kv.1 = k)).map (·.2)
def BU (d : List (List Int × α)) (k : List Int) (v : α) : List (List Int × α):=if (d.any λkv=>decide (kv.1 = k)) = true then d.map (λkv=>if kv.1 = k then (kv.1, v) else kv) else d ++ [(k, v)]
theorem Go {r : Enc α} {H : Hp} {k : List Int} {kvs : List (List Key × V)} {d : List (List Int × α)} (h : Paired (DX r K H) kvs d) : (G7 kvs (tk k)).isSome = (Uq d k).isSome:=by
  induction h with
  | nil=>rfl
  | @cons kv kx _ d h t ih=>
    by_cases e : kx.1 = k
    . rw [JE (show kv.1 = tk k by rw [h.1, e]), show Uq (kx :: d) k = some kx.2 by simp [Uq, List.find?_cons, e]]
      rfl
    . rw [Jw (show ¬ kv.1 = tk k from λz => e (CM (h.1.symm.trans z))), show Uq (kx :: d) k = Uq d k by simp [Uq, List.find?_cons, e]]
      exact ih
theorem KS {r : Enc α} {H : Hp} {k : List Int} {kvs : List (List Key × V)} {d : List (List Int × α)} (h : Paired (DX r K H) kvs d) : (kvs.any λkv=>decide (kv.1 = tk k)) = d.any λkx=>decide (kx.1 = k):=by
  induction h with
  | nil=>rfl
  | @cons kv kx _ _ h t ih=>
    rw [List.any_cons, List.any_cons, ih, h.1]
    congr 1
    rw [Bool.eq_iff_iff, decide_eq_true_eq, decide_eq_true_eq]
    exact ⟨CM, λz=>by rw [z]⟩
theorem Gy {r : Enc α} {H : Hp} {k : List Int} {v : V} {a : α} (hv : r K H v a) {kvs : List (List Key × V)} {d : List (List Int × α)} (h : Paired (DX r K H) kvs d) : Paired (DX r K H) (UW kvs (tk k) v) (BU d k a):=by
  unfold UW BU
  rw [KS h]
  by_cases e : (d.any λkx=>decide (kx.1 = k)) = true
  . rw [if_pos e, if_pos e]
    clear e
    induction h with
    | nil=>exact .nil
    | @cons kv kx l m h t ih=>
      refine .cons ?_ ih
      show DX r K H (if kv.1 = tk k then (kv.1, v) else kv) (if kx.1 = k then (kx.1, a) else kx)
      by_cases e : kx.1 = k
      . rw [if_pos (show kv.1 = tk k by rw [h.1, e]), if_pos e]; exact ⟨h.1, hv⟩
      . rw [if_neg (show ¬ kv.1 = tk k from λz=>e (CM (h.1.symm.trans z))), if_neg e]; exact h
  . rw [if_neg e, if_neg e]
    exact Paired.app h (.cons ⟨rfl, hv⟩ .nil)
theorem BT {td ty : TE} {r : Enc α} {md : Rs (List (List Int × α))} {mk : Rs (List Int)} (hk : EvB K Er S OO σ ty (rPL Xa) mk) (hd : EvB K Er S OO σ td (rDT r) md) : EvB K Er S OO σ (Nn ty td) XR (mk.bind λk=>md.bind λd=>.ok (Uq d k).isSome):=λH Q w s P=>
  hk.run w s FB.tr P λk y H1 s1 w1 q1 r9 P1=>by obtain ⟨b, xs, eb, hb, pk⟩:=r9; exact hd.run w1 q1 FB.tr P1 λd x H2 s2 w2 q2 r9 P2=>by obtain ⟨p, kvs, e, q, pr⟩:=r9; exact ⟨p, G7 kvs (tk k), e, .inr ⟨kvs, tk k, b, .inl q, eb, by rw [Mi, ← US pk]; exact s2 _ _ hb, rfl⟩, P2 _ H2 (Xp.refl _) (by rw [Go (k:=k) pr]; rfl)⟩
variable {Fd : Ends -> β -> Hp -> Prop} [fd : FdOk Fd] {u : TS}
end
section
variable {X : Cx} {α : Type} [DecidableEq α] {r : Enc α} {d : Nat}
end
section
variable {K : Fgg} {Er : Exc -> Hp -> Prop} {S : SC} {OO OO' OO1 OO2 : List (List Xz)} {σ : St} {α β γ ρ ι δ ε : Type}
end
section
variable {X : Cx} {pins : List (Addr × Obj)} {σ : St} {H : Hp} {s : Shared} {h' : Heap}
theorem Inv.turns {t' : Nat} {ch : List Addr} (I : Inv X pins σ H s) (k : ∀ b o, b ∉ ch -> s.heap.get? b = some o -> h'.get? b = some o) (hf : ∀ b ∈ ch, Gk X pins H b) : Inv X pins σ H { s with heap:=h', toks:=t' }:=by
  have nit : ∀ b o, H b = some o -> b ∉ ch:=λb o e z=>by rw [(hf b z).1] at e; cases e
  refine I.step (g':=s.gens) (d':=s.drawn) (ch:=ch) (λb hb=>?_) (λb o _ _ hc e _=>k b o hc e) (λb o _ _ hc e _=>⟨o.slots, k b o hc e⟩)
    (λb o _ e n=>n) (λb o hc e=>⟨o, k b o hc e⟩) (λb xs e=>e) (λb o xs e=>e) (λb ps e=>⟨#[], by rw [e]; simp⟩) (λm hm=>?_) (λb v e=>?_) I.bare
  . obtain ⟨f0, f1, f2, f3, f4, f5⟩ := hf b hb
    exact ⟨f3, f1, f4, f5⟩
  . obtain ⟨o, es, ep, ho, r⟩ := hm
    exact ⟨o, es, ep, k _ o (λz=>(hf _ z).2.1 rfl) ho, r⟩
  . refine (I.hok b v e).stay (λc o hc q => k c o ?_ q) (λc q => q) λc xs q => q
    rcases hc with z | z
    . rw [z]; exact nit b v e
    . exact nit c _ z
end
section
variable {X : Cx} {elts : List Expr} {k : Nat} {pos0 : Pos}
end
section
variable {K : Fgg} {Er : Exc -> Hp -> Prop} {S : SC} {OO OO' OO1 OO2 : List (List Xz)} {σ : St} {α β γ ρ ι δ ε : Type}
end
section
variable {X : Cx}
end
section
variable {K : Fgg} {Er : Exc -> Hp -> Prop} {S : SC} {OO OO' OO1 OO2 : List (List Xz)} {σ : St} {α β γ ρ ι δ ε : Type}
variable {Fd : Ends -> β -> Hp -> Prop} [fd : FdOk Fd] {u : TS}
end
section
variable {K : Fgg} {Er : Exc -> Hp -> Prop} {S : SC} {OO OO' OO1 OO2 : List (List Xz)} {σ : St} {α β γ ρ ι δ ε : Type} {u : TS}
def QG : Nat -> γ -> (γ -> Rs Bool) -> (γ -> Rs (Ctl ρ γ)) -> Rs (Ctl ρ γ)
  | 0, _, _, _=>.bad
  | n + 1, g, c, f=>(c g).bind λb=>if b = true then (f g).bind λr=>match r with
    | .ret r=>.ok (.ret r)
    | .nx g'=>QG n g' c f else .ok (.nx g)
theorem CV {o : OE ρ} {c : TT} {tb : TS} {mc : γ -> Rs Bool} {body : γ -> Rs (Ctl ρ γ)} {f : γ -> Rs ρ} (J : Jn γ ι) (n : Nat) (x0 : ι) (g0 : γ) (h1 : OO = J.oo x0) (h2 : σ = J.ss x0) (h3 : ∀ h, S.p h -> (J.sc g0 x0).p h)
    (hc : ∀ g x, EvT Er (J.sc g x) (J.oo x) (J.ss x) c (mc g)) (hb : ∀ g x, Sv Er (J.sc g x) (J.oo x) (J.ss x) tb (FCd K o J) (body g))
    (hr : ∀ g x, Sv Er (J.sc g x) (J.oo x) (J.ss x) u (FTd K o) (f g)) : Sv Er S OO σ (Jb (Cp c tb) u) (FTd K o) ((QG n g0 mc body).bind (Z4 f)):=λH D w s P=>by
  refine ⟨λmm σ' H2=>∃ x gg, σ' = J.ss x /\ W (J.oo x) H2 /\ (J.sc gg x).p (hid H2 (J.oo x)) /\ PZ Er (FTd K o D) (hid H2 (J.oo x)) ((QG mm gg mc body).bind (Z4 f)), ⟨n, x0, g0, h2, by rw [← h1]; exact w, by rw [← h1]; exact h3 _ s, by rw [← h1]; exact P⟩, ?_⟩
  rintro mm σ' H2 ⟨x, gg, rfl, w2, sc2, P2⟩
  cases mm with
  | zero=>exact P2.elim
  | succ mm=>
    have P3 : PZ Er (FTd K o D) (hid H2 (J.oo x)) ((mc gg).bind λb=>(if b = true then (body gg).bind λr=>match r with
      | .ret r=>.ok (.ret r)
      | .nx g'=>QG mm g' mc body else .ok (.nx gg)).bind (Z4 f)):=by rw [← XQ]; exact P2
    refine (hc gg x).st w2 sc2 P3 λb H3 w3 sc3 P4=>?_
    cases b with
    | false=>exact hr gg x H3 D w3 sc3 P4
    | true=>
      rw [if_pos rfl] at P4 ⊢
      refine ⟨λσ3 H4=>∃ x gg, σ3 = J.ss x /\ W (J.oo x) H4 /\ (J.sc gg x).p (hid H4 (J.oo x)) /\ PZ Er (FTd K o D) (hid H4 (J.oo x)) ((QG mm gg mc body).bind (Z4 f)), λσ3 H4 q=>⟨mm, Nat.lt_succ_self _, q⟩, hb gg x H3 _ w3 sc3 ?_⟩
      rw [XQ] at P4
      cases eb : body gg with
      | bad=>rw [eb] at P4; exact P4
      | err x=>rw [eb] at P4; exact P4
      | ok c=>
        rw [eb] at P4
        cases c with
        | ret r=>exact P4
        | nx g'=>exact λx' H5 w5 m5 sc5=>⟨x', g', rfl, w5, sc5, PZ.tr (FdOk.tr D) m5 P4⟩
end
section
variable {X : Cx}
end
section
variable {K : Fgg} {Er : Exc -> Hp -> Prop} {S : SC} {OO : List (List Xz)} {σ : St}
end
section
variable {X : Cx} {pins : List (Addr × Obj)} {σ : St} {H : Hp} {s : Shared} {d : Addr} {o : Obj} {kvs : List (Key × V)}
end
section
variable {X : Cx}
end
section
variable {K : Fgg} {Er : Exc -> Hp -> Prop} {S : SC} {OO OO' OO1 OO2 OO3 : List (List Xz)} {σ : St} {α β γ ρ ι δ ε ζ : Type}
variable {Fd : Ends -> β -> Hp -> Prop} [fd : FdOk Fd] {u : TS}
def oT3 (o : OE α) (q : OE β) (t : OE γ) : OE (α × β × γ):=λK h v a C=>∃ p x y z C1 C2 C3, v = .ref p /\ h p = some (.tup [x, y, z]) /\ o K h x a.1 C1 /\ q K h y a.2.1 C2 /\ t K h z a.2.2 C3 /\ C = C1 ++ (C2 ++ C3)
instance {o : OE α} {q : OE β} {t : OE γ} [m : MonoO o] [n : MonoO q] [k : MonoO t] : MonoO (oT3 o q t):=⟨λs r9=>by obtain ⟨p, x, y, z, C1, C2, C3, e, h, h1, h2, h3, c⟩:=r9; exact ⟨p, x, y, z, C1, C2, C3, e, s _ _ h, m.mono s h1, n.mono s h2, k.mono s h3, c⟩⟩
instance {o : OE α} {q : OE β} {t : OE γ} [m : FlatO o] [n : FlatO q] [k : FlatO t] : FlatO (oT3 o q t):=⟨λs r9=>by obtain ⟨p, x, y, z, C1, C2, C3, e, h, h1, h2, h3, c⟩:=r9; exact ⟨p, x, y, z, C1, C2, C3, e, s _ _ h rfl, m.flat s h1, n.flat s h2, k.flat s h3, c⟩⟩
instance {o : OE α} {q : OE β} {t : OE γ} {ro : Enc α} {rq : Enc β} {rt : Enc γ} [m : FrzC o ro] [n : FrzC q rq] [k : FrzC t rt] : FrzC (oT3 o q t) (rP3 ro rq rt):=⟨λ⟨p, x, y, z, C1, C2, C3, e, h, h1, h2, h3, c⟩ s hc=>by
  subst c
  exact ⟨p, x, y, z, e, s _ _ h, m.frz h1 s λc hm=>hc c (by simp [hm]), n.frz h2 s λc hm=>hc c (by simp [hm]), k.frz h3 s λc hm=>hc c (by simp [hm])⟩⟩
end
section
variable {K : Fgg} {Er : Exc -> Hp -> Prop} {S : SC} {OO OO' OO1 OO2 : List (List Xz)} {σ : St} {α β γ ρ ι δ ε ζ : Type}
variable {Fd : Ends -> β -> Hp -> Prop} [fd : FdOk Fd] {u : TS}
end
section
variable {K : Fgg} {Er : Exc -> Hp -> Prop} {S : SC} {OO OO' OO1 OO2 : List (List Xz)} {σ : St} {α β γ ρ ι δ ε ζ : Type}
variable {Fd : Ends -> β -> Hp -> Prop} [fd : FdOk Fd] {u : TS}
end
section
variable {K : Fgg} {Er : Exc -> Hp -> Prop} {S : SC} {OO OO' OO1 OO2 : List (List Xz)} {σ : St} {α β γ ρ ι δ ε ζ α1 α3 α4 : Type}
variable {Fd : Ends -> β -> Hp -> Prop} [fd : FdOk Fd] {u : TS}
end
end L2
namespace L2
open PySem
def Inc (xs : Array Nat) : Prop:=xs.toList.Pairwise (· < ·)
theorem Inc.lt {xs : Array Nat} (h : Inc xs) {i j v u : Nat} (hij : i < j) (hi : xs[i]? = some v) (hj : xs[j]? = some u) : v < u:=by
  rw [← Array.getElem?_toList] at hi hj
  obtain ⟨a, rfl⟩:=List.getElem?_eq_some_iff.mp hi
  obtain ⟨b, rfl⟩:=List.getElem?_eq_some_iff.mp hj
  exact List.pairwise_iff_getElem.mp h i j a b hij
theorem Inc.le {xs : Array Nat} (h : Inc xs) {i j v u : Nat} (hij : i <= j) (hi : xs[i]? = some v) (hj : xs[j]? = some u) : v <= u:=by
  rcases Nat.lt_or_eq_of_le hij with z | z
  . exact Nat.le_of_lt (h.lt z hi hj)
  . subst z; rw [hi] at hj; cases hj; exact Nat.le_refl _
theorem Um {xs : Array Nat} (hx : Inc xs) (j : Nat) : ∀ (fuel lo hi : Nat), hi - lo <= fuel -> lo <= hi -> hi <= xs.size -> (∀ i v, i < lo -> xs[i]? = some v -> v < j) -> (∀ i v, hi <= i -> xs[i]? = some v -> j <= v) ->
    SetTable.below.go xs j fuel lo hi <= hi /\ (∀ i v, i < SetTable.below.go xs j fuel lo hi -> xs[i]? = some v -> v < j) /\ (∀ i v, SetTable.below.go xs j fuel lo hi <= i -> xs[i]? = some v -> j <= v)
  | 0, lo, hi, h, h1, h2, a, b=>by
    have e : lo = hi:=by lia
    subst e
    exact ⟨Nat.le_refl _, a, b⟩
  | fuel + 1, lo, hi, h, h1, h2, a, b=>by
    unfold SetTable.below.go
    by_cases hlt : lo < hi
    . have hm : (lo + hi) / 2 < xs.size := by lia
      have hg : xs[(lo + hi) / 2]? = some (xs.getD ((lo + hi) / 2) j):=by simp [hm]
      simp only [if_pos hlt]
      by_cases hc : xs.getD ((lo + hi) / 2) j < j
      . rw [if_pos hc]
        exact Um hx j fuel _ hi (by lia) (by lia) h2 (λi v hi' e=>Nat.lt_of_le_of_lt (hx.le (by lia) e hg) hc) b
      . rw [if_neg hc]
        obtain ⟨p, q, r⟩:=Um hx j fuel lo ((lo + hi) / 2) (by lia) (by lia) (by lia) a (λi v hi' e=>Nat.le_trans (Nat.le_of_not_lt hc) (hx.le hi' hg e))
        exact ⟨by lia, q, r⟩
    . simp only [if_neg hlt]
      have e : lo = hi:=by lia
      subst e
      exact ⟨Nat.le_refl _, a, b⟩
theorem FN {xs : Array Nat} (hx : Inc xs) (j : Nat) : SetTable.below xs j <= xs.size /\ (∀ i v, i < SetTable.below xs j -> xs[i]? = some v -> v < j) /\ (∀ i v, SetTable.below xs j <= i -> xs[i]? = some v -> j <= v):=
  Um hx j xs.size 0 xs.size (by lia) (Nat.zero_le _) (Nat.le_refl _) (λi v h=>absurd h (Nat.not_lt_zero _)) λi v h e=>by
    rw [Array.getElem?_eq_none h] at e; cases e
theorem Fo {xs : Array Nat} (hx : Inc xs) {j : Nat} (hn : xs[SetTable.below xs j]? ≠ some j) : Inc (SetTable.insertAt xs (SetTable.below xs j) j):=by
  obtain ⟨a, b, c⟩:=FN hx j
  generalize SetTable.below xs j = p at *
  unfold Inc
  rw [SetTable.toList_insertAt, List.pairwise_append, List.pairwise_cons]
  have hd : ∀ u ∈ xs.toList.drop p, j < u:=λu hu=>by
    obtain ⟨k, e⟩:=List.getElem?_of_mem hu
    rw [List.getElem?_drop, Array.getElem?_toList] at e
    have h1:=c (p + k) u (Nat.le_add_right _ _) e
    rcases Nat.lt_or_eq_of_le h1 with z | z
    . exact z
    . subst z
      rcases Nat.eq_zero_or_pos k with z | z
      . subst z; exact absurd e hn
      . have hs : p < xs.size:=by
          have:=(Array.getElem?_eq_some_iff.mp e).1
          lia
        have g : xs[p]? = some xs[p]:=by simp [hs]
        have h2:=c p _ (Nat.le_refl _) g
        have h3:=hx.lt (show p < p + k by lia) g e
        lia
  have ht : ∀ u ∈ xs.toList.take p, u < j:=λu hu=>by
    obtain ⟨k, e⟩:=List.getElem?_of_mem hu
    rw [List.getElem?_take] at e
    split at e
    . rename_i hk
      rw [Array.getElem?_toList] at e
      exact b k u hk e
    . cases e
  refine ⟨List.Pairwise.sublist (List.take_sublist _ _) hx, ⟨hd, List.Pairwise.sublist (List.drop_sublist _ _) hx⟩, λu hu y hy=>?_⟩
  rcases List.mem_cons.mp hy with z | z
  . rw [z]; exact ht u hu
  . exact Nat.lt_trans (ht u hu) (hd y z)
structure TOk (t : SetTable) (led : Bool) : Prop where
  inc : Inc t.place
  dum : t.dummies = #[]
  led : t.led = led
theorem TOk.fresh (f m : Nat) (led : Bool) : TOk (.fresh f m led) led:=⟨List.Pairwise.nil, rfl, rfl⟩
theorem TOk.standIn {t : SetTable} {led : Bool} (h : TOk t led) (n : Nat) : TOk (t.standIn n) led:=⟨by unfold Inc SetTable.standIn; simpa using List.pairwise_lt_range, rfl, h.led⟩
theorem Kv {t : SetTable} (hd : t.dummies = #[]) (j : Nat) : (t.slot j = .empty -> t.place[SetTable.below t.place j]? ≠ some j) /\ t.slot j ≠ .dummy:=by
  unfold SetTable.slot
  have hh : SetTable.has t.dummies j = false:=by rw [hd]; simp [SetTable.has]
  simp only [hh]
  by_cases h : t.place[SetTable.below t.place j]? = some j
  . simp [h]
  . simp [h]
theorem Vt {t : SetTable} (hd : t.dummies = #[]) {f : Nat -> Int} {h : Int} {j : Nat} {d : Option Nat} : ∀ (fuel : Nat) (p : SetTable.Probe), p.dummy = none -> SetTable.probe.go t f h fuel p = some (.empty j d) -> d = none /\ t.slot j = .empty
  | 0, p, _, e=>by cases e
  | fuel + 1, p, hp, e=>by
    unfold SetTable.probe.go at e
    have adv : (t.advance p).dummy = none:=by unfold SetTable.advance; split <;> exact hp
    cases hs : t.slot p.j with
    | empty=>rw [hs] at e; cases e; exact ⟨hp, hs⟩
    | dummy=>exact absurd hs (Kv hd _).2
    | live i=>
      rw [hs] at e
      dsimp only at e
      split at e
      . cases e
      . exact Vt hd fuel _ adv e
theorem CT {t : SetTable} {led : Bool} (h : TOk t led) (es : Array (Int × Value)) (k : Int) (x : Value) : TOk (layNew t es k x).2.1 led:=by
  unfold layNew
  cases hf : t.freeSlot k with
  | none=>exact h.standIn _
  | some q=>
    obtain ⟨sl, wd⟩:=q
    dsimp only
    have hk : TOk (t.put sl).1 led:=by
      unfold SetTable.freeSlot at hf
      cases hp : t.probe (λ_=>k + 1) k (t.probeStart k) with
      | none=>rw [hp] at hf; cases hf
      | some m=>
        rw [hp] at hf
        cases m with
        | candidate=>cases hf
        | empty j d=>
          obtain ⟨rfl, hs⟩:=Vt h.dum _ _ rfl hp
          cases hf
          have hh : SetTable.has t.dummies j = false:=by rw [h.dum]; simp [SetTable.has]
          refine ⟨Fo h.inc ((Kv h.dum j).1 hs), ?_, h.led⟩
          show (if SetTable.has t.dummies j then _ else t.dummies) = #[]
          rw [hh]; exact h.dum
    unfold SetTable.orStandIn
    split
    . exact hk
    . exact hk.standIn _
theorem Gg {t : SetTable} {led : Bool} (h : TOk t led) (es : Array (Int × Value)) (k : Nat) : TOk (relayAll t es k).2.1 led:=by
  unfold relayAll
  cases hr : t.relaid (es.map (·.1)) k with
  | none=>exact h.standIn _
  | some q=>
    obtain ⟨t', ord⟩:=q
    dsimp only
    split
    . unfold SetTable.relaid SetTable.laid at hr
      cases ho : SetTable.layClean (SetTable.sizeAbove k - 1) (es.map (·.1)) with
      | none=>rw [ho] at hr; cases hr
      | some ow=>
        rw [ho] at hr
        cases hr
        refine ⟨?_, rfl, h.led⟩
        unfold Inc
        show List.Pairwise (· < ·) (List.map (·.1) ((List.range _).filterMap λj=>(ow.getD j none).map (j, ·)))
        rw [List.map_filterMap]
        have e : (λj=>Option.map (λx : Nat × Nat=>x.1) ((ow.getD j none).map (j, ·))) = λj=>if (ow.getD j none).isSome then some j else none:=by
          funext j
          cases ow.getD j none <;> rfl
        rw [e]
        refine List.Pairwise.filterMap _ (λa a' hlt b hb b' hb'=>?_) List.pairwise_lt_range
        split at hb
        . split at hb'
          . cases hb; cases hb'; exact hlt
          . cases hb'
        . cases hb
    . exact h.standIn _
end L2
namespace L2
open PySem PySem.Spec PyProof.Rows
theorem BI {vs : List Value} {ms : List Int} (h : IntsAre vs ms) (k : Int) : (∃ v ∈ vs, Value.isInt k v = true) ↔ k ∈ ms:=by
  induction h with
  | nil=>simp
  | cons n t _ ih=>
    rw [List.mem_cons, ← ih]
    constructor
    . rintro ⟨v, hv, e⟩
      rcases List.mem_cons.mp hv with z | z
      . subst z; obtain ⟨t', e'⟩:=Value.isInt_shape e; cases e'; exact .inl rfl
      . exact .inr ⟨v, z, e⟩
    . rintro (z | ⟨v, hv, e⟩)
      . subst z; exact ⟨_, .head _, beq_self_eq_true _⟩
      . exact ⟨v, .tail _ hv, e⟩
theorem Kw {vs vs' : List Value} (p : vs'.Perm vs) : ∀ {ms : List Int}, IntsAre vs ms -> ∃ ms', IntsAre vs' ms' /\ ms'.Perm ms:=by
  induction p with
  | nil=>intro ms h; exact ⟨ms, h, .refl _⟩
  | cons x _ ih=>
    intro ms h
    cases h with
    | cons n t h=>obtain ⟨m, a, b⟩:=ih h; exact ⟨n :: m, .cons n t a, b.cons _⟩
  | swap x y l=>
    intro ms h
    cases h with
    | cons n t h=>cases h with
      | cons m u h=>exact ⟨_, .cons m u (.cons n t h), .swap ..⟩
  | trans _ _ ih1 ih2=>
    intro ms h
    obtain ⟨m, a, b⟩:=ih2 h
    obtain ⟨m', a', b'⟩:=ih1 a
    exact ⟨m', a', b'.trans b⟩
theorem CH {vs : List Value} {ms : List Int} (h : IntsAre vs ms) (k : Int) (t : Tok) : IntsAre (vs ++ [.int k t]) (ms ++ [k]):=by
  induction h with
  | nil=>exact .cons k t .nil
  | cons n u _ ih=>exact .cons n u ih
def dd (l : List Int) : List Int:=l.foldl step_dedup []
structure SCore (prog : Program) (w : World) (es : Array (Int × Value)) (t : SetTable) (ns : List Int) : Prop where
  el : ElemsOf (intKind prog w) es.toList
  pm : ∃ ms, IntsAre (es.toList.map (·.2)) ms /\ ms.Perm ns
  sz : es.size < scanBound
  fit : t.fits es.size = true
  tok : TOk t (!w.params.followText "set-order")
def UN (prog : Program) (w : World) (h : Heap) (a : Addr) (ns : List Int) : Prop:=
  ∃ o es ep t, h.get? a = some o /\ o.ExactSet /\ o.data = .set es ep t /\ SCore prog w es t ns
section
variable {prog : Program} {w : World} {A : Around} {E : Value -> Shared -> Prop} {s : Shared} {a : Addr} {ns : List Int}
theorem SCore.len {es : Array (Int × Value)} {t : SetTable} (c : SCore prog w es t ns) : es.size = ns.length:=by
  obtain ⟨ms, a, b⟩:=c.pm
  rw [← b.length_eq, ← IntsAre.length a, List.length_map, Array.length_toList]
theorem SCore.mem {es : Array (Int × Value)} {t : SetTable} (c : SCore prog w es t ns) (k : Int) : (∃ e ∈ es.toList, Value.isInt k e.2 = true) ↔ k ∈ ns:=by
  obtain ⟨ms, a, b⟩:=c.pm
  rw [← b.mem_iff, ← BI a k]
  constructor
  . rintro ⟨e, h, z⟩; exact ⟨e.2, List.mem_map_of_mem h, z⟩
  . rintro ⟨v, h, z⟩
    obtain ⟨e, h1, rfl⟩:=List.mem_map.mp h
    exact ⟨e, h1, z⟩
theorem SCore.perm {es es' : Array (Int × Value)} {t t' : SetTable} (c : SCore prog w es t ns) (p : es'.toList.Perm es.toList) (f : t'.fits es'.size = true) (k : TOk t' (!w.params.followText "set-order")) : SCore prog w es' t' ns:=by
  obtain ⟨ms, a, b⟩:=c.pm
  obtain ⟨m, a', b'⟩:=Kw (p.map (·.2)) a
  have e : es'.size = es.size:=by rw [← Array.length_toList, p.length_eq, Array.length_toList]
  exact ⟨c.el.perm p, ⟨m, a', b'.trans b⟩, by rw [e]; exact c.sz, f, k⟩
theorem UN.put {h : Heap} {o : Obj} {es es' : Array (Int × Value)} {ep : Nat} {t t' : SetTable} (ho : h.get? a = some o) (hx : o.ExactSet) (hd : o.data = .set es ep t) :
    (h.update a (Obj.putSet es' t')).get? a = some { o with data:=.set es' (ep + 1) t' } /\ (SCore prog w es' t' ns -> UN prog w (h.update a (Obj.putSet es' t')) a ns):=by
  have g:=Heap.get?_update_self (Obj.putSet es' t') ho (by rw [putSet_of es' t' hd]; rfl)
  rw [putSet_of es' t' hd] at g
  exact ⟨g, λc=>⟨_, _, _, _, g, hx, rfl, c⟩⟩
theorem HJ {k : Int} {tk : Tok} {Q : Bool -> Shared -> Prop} (hS : UN prog w s.heap a ns) (hr : ns.length + 1 < scanBound)
    (h : ∀ b h', Heap.SameBut a s.heap h' -> UN prog w h' a (step_dedup ns k) -> Q b { s with heap:=h' }) : wpAny (model prog w) A (setAddHashed a (.int k tk) ((intKind prog w).hash k)) Q E s:=by
  obtain ⟨o, es, ep, t, ho, hx, hd, c⟩:=id hS
  have hk : (intKind prog w).is k (.int k tk) = true:=intKind_is _ _ _ _
  unfold setAddHashed setAddHashedIn
  refine wpAny_holding (wpAny_bind (wpAny_setState_of ho hd c.fit ?_))
  dsimp only
  rw [byScan_of (knd:=intKind prog w) rfl c.sz c.el]
  simp only [↓reduceIte]
  unfold setAddByScan
  refine wpAny_bind (wpAny_bind (wpAny_rule (wpAny_bind (wpAny_setScan_of hk ho hd c.fit c.el ?_))))
  cases hf : List.findIdx? (λe=>(intKind prog w).is k e.2) es.toList with
  | some j=>
    obtain ⟨hj, hp, _⟩:=List.findIdx?_eq_some_iff_getElem.mp hf
    have hm : k ∈ ns:=(c.mem k).mp ⟨_, List.getElem_mem hj, hp⟩
    have e : step_dedup ns k = ns:=if_pos (List.any_eq_true.mpr ⟨k, hm, by simp⟩)
    exact wpAny_pure (wpAny_pure (h _ s.heap (Heap.SameBut.refl a s.heap) (by rw [e]; exact hS)))
  | none=>
    have hm : k ∉ ns:=λhm=>by
      obtain ⟨e, he, hp⟩:=(c.mem k).mpr hm
      have:=List.findIdx?_eq_none_iff.mp hf e he
      rw [show (intKind prog w).is k e.2 = true from hp] at this
      cases this
    have e : step_dedup ns k = ns ++ [k]:=if_neg (λz=>by
      obtain ⟨x, hx, ex⟩:=List.any_eq_true.mp z
      rw [beq_iff_eq] at ex; subst ex; exact hm hx)
    rw [e] at h
    dsimp only
    have hg : ∀ (b : Bool) {s₁ : Shared} {Q' : Unit -> Shared -> Prop}, Q' () s₁ -> wpAny (model prog w) A (match b with | true=>rule "set.scan.the-table-gave-way" | false=>pure ()) Q' E s₁:=
      λb s₁ Q' q=>by cases b <;> first | exact wpAny_pure q | exact wpAny_rule q
    have hp:=layNew_perm t es ((intKind prog w).hash k) (.int k tk)
    have hfit:=layNew_fits t es ((intKind prog w).hash k) (.int k tk)
    have ht:=CT c.tok es ((intKind prog w).hash k) (.int k tk)
    generalize layNew t es ((intKind prog w).hash k) (.int k tk) = L at hp hfit ht ⊢
    obtain ⟨es1, t1, wd, gv⟩:=L
    dsimp only at hp hfit ht ⊢
    have hsz : es1.size = es.size + 1:=by rw [← Array.length_toList, hp.length_eq]; simp
    have c1 : SCore prog w es1 t1 (ns ++ [k]):=by
      obtain ⟨ms, i1, i2⟩:=c.pm
      rw [Array.toList_push] at hp
      have hp2:=hp.map (·.2)
      rw [List.map_append] at hp2
      obtain ⟨m, j1, j2⟩:=Kw hp2 (CH i1 k tk)
      exact ⟨(c.el.push hk rfl).perm hp, ⟨m, j1, j2.trans (i2.append_right _)⟩, by rw [hsz, c.len]; exact hr, hfit, ht⟩
    refine wpAny_bind (hg gv ?_)
    have tail : ∀ {Q1 : Option Bool -> Shared -> Prop}, (∀ h', Heap.SameBut a s.heap h' -> UN prog w h' a (ns ++ [k]) -> Q1 (some true) { s with heap:=h' }) -> wpAny (model prog w) A (do
        storeSet a es1 t1
        if (!wd && t1.tooFull) = true then do
            (match (relayAll t1 es1 (SetTable.grown es1.size)).2.2 with | true=>rule "set.scan.the-table-gave-way" | false=>pure ())
            storeSet a (relayAll t1 es1 (SetTable.grown es1.size)).1 (relayAll t1 es1 (SetTable.grown es1.size)).2.1
            pure (some true)
          else pure (some true)) Q1 E s:=fun {Q1} q=>by
      obtain ⟨g1, s1⟩:=UN.put (prog:=prog) (w:=w) (ns:=ns ++ [k]) (es':=es1) (t':=t1) ho hx hd
      refine wpAny_bind (wpAny_storeSet_of ho hd ?_ (fits_of_scanBound c1.sz))
      split
      . refine wpAny_bind (hg _ ?_)
        have p2:=relayAll_perm t1 es1 (SetTable.grown es1.size)
        have f2:=relayAll_fits t1 es1 (SetTable.grown es1.size)
        have k2:=Gg ht es1 (SetTable.grown es1.size)
        generalize relayAll t1 es1 (SetTable.grown es1.size) = Z at p2 f2 k2 ⊢
        obtain ⟨es2, t2, gv2⟩:=Z
        have c2:=c1.perm p2 f2 k2
        refine wpAny_bind (wpAny_storeSet_of g1 rfl ?_ (fits_of_scanBound c2.sz))
        exact wpAny_pure (q _ ((Heap.SameBut.update s.heap a _).trans (Heap.SameBut.update _ a _)) ((UN.put g1 hx rfl).2 c2))
      . exact wpAny_pure (q _ (Heap.SameBut.update s.heap a _) (s1 c1))
    have fin : ∀ h', Heap.SameBut a s.heap h' -> UN prog w h' a (ns ++ [k]) -> Q true { s with heap:=h' }:=λh' sb z=>h true h' sb z
    split
    . refine wpAny_bind ?_
      rw [hashByValue_scannable 8 (x:=.int k tk) rfl]
      refine wpAny_pure ?_
      exact tail λh' sb z=>wpAny_pure (fin h' sb z)
    . refine wpAny_bind (wpAny_pure ?_)
      exact tail λh' sb z=>wpAny_pure (fin h' sb z)
end
section
variable {prog : Program} {w : World} {A : Around} {E : Value -> Shared -> Prop} {s : Shared}
theorem UN.at {h h' : Heap} {a : Addr} {ns : List Int} (x : UN prog w h a ns) (k : ∀ o, h.get? a = some o -> h'.get? a = some o) : UN prog w h' a ns:=
  let ⟨o, es, ep, t, ho, r⟩:=x; ⟨o, es, ep, t, k o ho, r⟩
theorem Hy (l : List Int) (k : Int) : dd (l ++ [k]) = step_dedup (dd l) k:=by unfold dd; rw [List.foldl_append]; rfl
theorem Kd (l : List Int) : (dd l).length <= l.length:=by
  suffices h : ∀ (l a : List Int), (l.foldl step_dedup a).length <= a.length + l.length by unfold dd; simpa using h l []
  intro l
  induction l with
  | nil=>intro a; exact Nat.le_refl _
  | cons x l ih=>
    intro a
    refine Nat.le_trans (ih _) ?_
    rw [step_length, List.length_cons]
    split <;> lia
theorem BL (v : Value) {Q : Value -> Shared -> Prop}
    (h : Q (.ref s.heap.objs.size) { s with heap:=s.heap.push { cls:=.type "set", dict:=none, data:=.set #[] 0 (.fresh 0 0 (!w.params.followText "set-order")) } }) :
    codeAny (model prog w) A (.call (.builtin "set.__new__") ⟨[.type "set", v], []⟩) (wants Q E) s:=by
  refine codeAny_of_tree ?_
  show wpAny _ A.in1 (do checkBuiltinCall "set.__new__" ⟨[.type "set", v], []⟩; again (.builtin "set.__new__" ⟨[.type "set", v], []⟩)) _ _ s
  refine wpAny_bind (wpAny_of_eq (F.newCall_set_1 v) (wpAny_pure ⟨plainId_quiet F.plain_set_new _, codeAny_builtin F.entry_set_new ?_⟩))
  rw [Around.under_plainId F.plain_set_new _]
  unfold Builtin.«set.__new__» Builtin.Frozenset.newClass
  have hsub:=sub_set_self
  obtain ⟨hp, g, d, tk, os⟩:=s
  dsimp only
  wp_walk
  refine wpAny_askSetting (wpAny_pure ?_)
  dsimp only
  simp only [newObj]
  refine wpAny_bind (wpAny_alloc (wpAny_pure ?_))
  exact wpAny_pure h
end
section
variable {M : Model} {A : Around} {E : Value -> Shared -> Prop} {s : Shared}
end
section
variable {prog : Program} {w : World} {A : Around} {E : Value -> Shared -> Prop} {s : Shared} {a : Addr} {o : Obj} {es : Array (Int × Value)} {ep : Nat} {t : SetTable}
end
section
variable {prog : Program} {w : World} {A : Around} {E : Value -> Shared -> Prop} {s : Shared} {a I tp : Addr} {o : Obj} {es : Array (Int × Value)} {ep : Nat} {t : SetTable} {L : List (Int × Value)}
inductive SMode (w : World) (a : Addr) (es : Array (Int × Value)) (ep : Nat) (t : SetTable) (tp : Addr) (L : List (Int × Value)) (h : Heap) (i : Nat) : Value -> Prop
  | text (sl : Nat) (hT : w.params.followText "set-order" = true) (hL : L = (pickOrder (w.params.setOrder a ep) es).toList) : SMode w a es ep t tp L h i (.int sl 0)
  | plain (sl : Nat) (hT : w.params.followText "set-order" = false) (hp : (!t.plain && decide (es.size > 1)) = false) (hL : L = es.toList) (hb : SetTable.below t.place sl = i) : SMode w a es ep t tp L h i (.int sl 0)
  | drawn (ps : List Nat) (hg : h.get? tp = some { cls:=.type "tuple", data:=.seq (ps.map λi=>Value.int (i : Nat) 0).toArray }) (hn : ps.length = L.length) (hL : ∀ (i : Nat) pl, ps[i]? = some pl -> L[i]? = es[pl]?) : SMode w a es ep t tp L h i (.ref tp)
theorem SMode.at {h h' : Heap} {i : Nat} {v : Value} (m : SMode w a es ep t tp L h i v) (k : ∀ o, h.get? tp = some o -> h'.get? tp = some o) : SMode w a es ep t tp L h' i v:=by
  cases m with
  | text sl hT hL=>exact .text sl hT hL
  | plain sl hT hp hL hb=>exact .plain sl hT hp hL hb
  | drawn ps hg hn hL=>exact .drawn ps (k _ hg) hn hL
end
section
variable {prog : Program} {w : World} {A : Around} {E : Value -> Shared -> Prop} {s : Shared} {a I tp : Addr} {o : Obj} {es : Array (Int × Value)} {ep : Nat} {t : SetTable} {L : List (Int × Value)} {ns : List Int}
end
section
variable {X : Cx}
def Mx (P : Program) (w : World) (p : Addr) (ns : List Int) : HO:=.ext λh=>UN P w h p ns
end
section
variable {K : Fgg} {Er : Exc -> Hp -> Prop} {S : SC} {OO : List (List Xz)} {σ : St}
variable {u : TS} {α γ ρ ι : Type}
variable {β : Type} {Fd : Ends -> β -> Hp -> Prop} [fd : FdOk Fd]
end
section
variable {α β γ : Type}
end
section
variable {K : Fgg} {Er : Exc -> Hp -> Prop} {S : SC} {OO : List (List Xz)} {σ : St} {α1 α2 α3 α4 ρ : Type} {mg : Str -> Option Value} {E : XK}
end
section
variable {X : Cx} {tg : Expr}
def Eo (K : Fgg) : R2:=λx y H Q=>∃ a b xs ys, x = .ref a /\ y = .ref b /\ SqT K H a xs /\ SqT K H b ys /\ ys ≠ [] /\ xs.length + ys.length <= sizeLine /\
  (xs = [] -> Q (.ref b) H) /\ (xs ≠ [] -> ∀ p, H p = none -> Q (.ref p) (upd H p (.tup (xs ++ ys))))
theorem Bx (K : Fgg) (hK : X.K = K) : OpR X (binaryOp .Add) (Eo K):=by
  subst hK
  intro pins s σ H x y v u Q I rx ry h
  obtain ⟨a, b, xs, ys, e1, e2, ha, hb, hy, hz, q1, q2⟩:=h
  by_cases hx : xs = []
  . subst e1 e2
    cases rx
    cases ry
    obtain ⟨its, r1, p1, _⟩:=I.tuple ha
    obtain ⟨its2, r2, p2, _⟩:=I.tuple hb
    obtain ⟨⟨cls, dd, data, sl⟩, ho, hc, n, hd⟩:=id p1
    obtain ⟨⟨cls2, dd2, data2, sl2⟩, ho2, hc2, n2, hd2⟩:=id p2
    simp only at hc hd hc2 hd2
    subst hc hd hc2 hd2
    have e0 : its = []:=r1.nil_iff.mpr hx
    exact concat_meets ⟨_, ho, rfl⟩ ⟨_, ho2, rfl⟩ noFill_tuple_add seq_tuple_add PySem.F.slot_tuple_add PySem.F.entry_tuple_add (PySem.F.args_tuple_add_2 _ _)
      (tuple_addW0 a b its.toArray its2.toArray n n2 dd dd2 sl sl2 (by simp [e0])) ⟨ho, ho2, ⟨.ref b, H, I, rfl, q1 hx⟩⟩
  . exact Hc pins s σ H x y v u Q I rx ry ⟨a, b, xs, ys, e1, e2, ha, hb, hx, hz, λz=>absurd z hy, λ_=>q2 hx⟩
def M5 (lo : Int) (n : Nat) : It:=⟨λi _=>i < n, λi H x H'=>H' = H /\ x = .int (lo - i), λi _=>n <= i⟩
theorem DS {P : Program} {w : World} {K : Fgg} {tg : Expr} (it : Addr) (lo : Int) (n : Nat) : Turn P w K tg (M5 lo n) [it] it (λi h=>IsRangeIter h it (lo + (i : Nat) * -1) ((n : Int) - (i : Nat)) (-1)) where
  mem:=by simp
  obj:=λi h st b hb=>by
    have e : b = it:=by simpa using hb
    subst e
    exact ⟨_, st, λv z=>by
      have z' : Data.fields _ = Data.cell v:=z
      cases z'⟩
  keep:=λi h h' st k=>k it (by simp) _ st
  item:=by
    intro X hP hw hK hc i pins s σ H E I hf st hg
    subst hP hw hK
    obtain ⟨f0, f1, f2, f3, f4, f5⟩:=hf it (by simp)
    have W:=Walks.range (prog:=X.prog) (w:=X.w) (I.ok.hd hc) it lo (-1) n
    refine W.item i s _ _ hg st λv h' tk hv st' kk=>?_
    obtain ⟨t, rfl⟩:=hv
    have I1 : Inv X pins σ H { s with heap:=h', toks:=tk }:=I.turned (λb o hb e=>kk b o (by simpa using hb) e) f0 f1 f3 f4 f5
    refine ⟨_, rfl, BD (s:={ s with heap:=h', toks:=tk }) (n:="range_iterator") st' rfl rfl (by decide) ⟨.int (lo - i), H, I1, ⟨t, ?_⟩, ⟨rfl, rfl⟩, st', λb hb=>(hf b hb).1⟩⟩
    rw [show lo + (i : Int) * -1 = lo - i by lia]
  done:=by
    intro X hP hw hK hc i pins s σ H E I hf st hg
    subst hP hw hK
    obtain ⟨f0, f1, f2, f3, f4, f5⟩:=hf it (by simp)
    exact wpAny_pyNext_range_end (I.ok.hd hc) st (by have : n <= i:=hg; lia) λh' eb=>⟨rfl, I.turned (t':=s.toks) (λb o hb e=>eb b o hb e) f0 f1 f3 f4 f5⟩
  self:=λ_ _ _ _ _ st h=>wpAny_pyIter_rangeiter st h
theorem QH (a b : Int) : Builtin.Range.rangeSize a b (-1) = if b < a then a - b else 0:=by
  unfold Builtin.Range.rangeSize
  simp only [show ¬ (-1 : Int) > 0 by decide, if_false, Int.neg_neg, Int.ediv_one]
  split <;> lia
theorem Fx {a b : Int} (ha : -(2 ^ 62) <= a) (ha' : a < 2 ^ 62) (hb : -(2 ^ 62) <= b) (hb' : b < 2 ^ 62) : Builtin.Range.small a b (-1) = true:=by
  unfold Builtin.Range.small
  rw [QH]
  simp only [Builtin.Range.rangeFitsLong, Bool.and_eq_true, Bool.or_eq_true, decide_eq_true_eq, beq_iff_eq, show ¬ (-1 : Int) > 0 by decide, if_false]
  split <;> lia
def Le (ta : TA) : TI:=λσ H R=>ta σ H λvs H1=>∃ i j : Int, vs = [.int i, .int j, .int (-1)] /\ (-(2 ^ 62) <= i /\ i < 2 ^ 62 /\ -(2 ^ 62) <= j /\ j < 2 ^ 62) /\ R (M5 i (i - j).toNat) H1
theorem Ip {pins : List (Addr × Obj)} {σ : St} {H : Hp} {s : Shared} {R : It -> Hp -> Prop} {E : Value -> Shared -> Prop} {lo hi : Int} {t u v : Tok} {tk : Nat} (I : Inv X pins σ H s) (h1 : -(2 ^ 62) <= lo) (h2 : lo < 2 ^ 62) (h3 : -(2 ^ 62) <= hi) (h4 : hi < 2 ^ 62)
    (q : R (M5 lo (lo - hi).toNat) H) : wpAny (model X.prog X.w) X.A (pyIter (.ref s.heap.objs.size)) (PIE X pins σ tg R) E { s with heap:=s.heap.push { cls:=.type "range", data:=.fields #[.int lo t, .int hi u, .int (-1) v] }, toks:=tk }:=by
  refine wpAny_pyIter_range (IsRange.new ..) (Fx h1 h2 h3 h4) ?_
  have I1 : Inv X pins σ H { s with heap:=s.heap.push { cls:=.type "range", data:=.fields #[.int lo t, .int hi u, .int (-1) v] }, toks:=tk }:=I.kept λb o e=>Qp _ e
  refine ⟨(s.heap.push { cls:=.type "range", data:=.fields #[.int lo t, .int hi u, .int (-1) v] }).objs.size, [(s.heap.push { cls:=.type "range", data:=.fields #[.int lo t, .int hi u, .int (-1) v] }).objs.size], _, _, H, rfl,
    I1.kept (t':=tk) λb o e=>Qp _ e, DS _ lo (lo - hi).toNat, ?_, λb hb=>?_, q⟩
  . have e1 : lo + ((0 : Nat) : Int) * -1 = lo := by simp
    have e2 : (((lo - hi).toNat : Nat) : Int) - ((0 : Nat) : Int) = Builtin.Range.rangeSize lo hi (-1):=by rw [QH]; split <;> lia
    show IsRangeIter _ _ (lo + ((0 : Nat) : Int) * -1) ((((lo - hi).toNat : Nat) : Int) - ((0 : Nat) : Int)) (-1)
    rw [e1, e2]
    exact Heap.get?_push_size _ rfl
  . have e : b = (s.heap.push { cls := .type "range", data := .fields #[.int lo t, .int hi u, .int (-1) v] }).objs.size := by simpa using hb
    subst e
    exact I1.fpOk (Nat.le_refl _) (I1.hok.fresh (Nat.le_refl _))
theorem CD {a b c : Expr} {ta : TA} {p pos : Pos} (hg : Gl X "range") (hm : X.mg "range" = none) (ha : PA X [a, b, c] ta) (hs : starEach [a, b, c] X.env = [(false, eval a X.env), (false, eval b X.env), (false, eval c X.env)]:=by rfl) (hs2 : starEach [b, c] X.env = [(false, eval b X.env), (false, eval c X.env)]:=by rfl) :
    PI X tg (.Call (.Name "range" p) [a, b, c] [] pos) (Le ta):=by
  intro pins s σ H R I h
  refine Call_ (Jm I hg hm boot_range (PyProof.Rows.callWith_type1 (thn (ha pos pins s σ H _ I h) λus s1 r9=>?_) (by rw [hs, hs2]) (by rw [hs2]; rfl)))
  obtain ⟨vs, H1, I1, r1, q1⟩:=r9
  obtain ⟨i, j, e, ⟨q1, q2, q3, q4⟩, q⟩:=q1
  subst e
  cases r1 with
  | cons r rr=>
    cases rr with
    | cons r' rr=>
      cases rr with
      | cons r'' rr=>
        cases rr
        obtain ⟨t, rfl⟩:=r
        obtain ⟨t', rfl⟩:=r'
        obtain ⟨t'', rfl⟩:=r''
        exact call_range_3 (by decide) (Ip I1 q1 q2 q3 q4 q) (.inl (PyProof.noPylong_of_log2 (by decide +kernel)))
end
section
variable {K : Fgg} {Er : Exc -> Hp -> Prop} {S : SC} {OO OO' : List (List Xz)} {σ : St} {α β γ : Type}
theorem BG {ta tb : TE} {r : Enc α} [z : MonoE r] {ma mb : Rs (List α)} (ha : EvB K Er S OO σ ta (rPL r) ma) (hb : EvB K Er S OO σ tb (rPL r) mb) : EvB K Er S OO σ (tOp (Eo K) ta tb) (rPL r) (ma.bind λas=>mb.bind λbs=>chk (0 < bs.length /\ as.length + bs.length <= sizeLine) (.ok (as ++ bs))):=λH Q w s P=>
  ha.run w s FB.tr P λas x H1 s1 w1 q1 ⟨p, xs, e, q, pr⟩ P1=>hb.run w1 q1 FB.tr P1 λbs y H2 s2 w2 q2 ⟨p', ys, e', q', pr'⟩ P2=>by
    obtain ⟨⟨h1, h2⟩, P3⟩:=PZ.chk P2
    have hl:=Paired.len pr
    have hl':=Paired.len pr'
    have pr2 : Paired (r K H2) xs as:=Paired.imp2 (λ_ _ h=>z.mono s2 h) pr
    refine ⟨p, p', xs, ys, e, e', SqT.of (s2 _ _ q), SqT.of q', λz=>by rw [z] at hl'; simp at hl'; lia, by rw [hl, hl']; exact h2, λhz=>?_, λ_ a ha=>P3 _ _ (XE ha _) ⟨a, _, rfl, Yp, Paired.imp2 (λ_ _ h=>z.mono (XE ha _) h) (Paired.app pr2 pr')⟩⟩
    subst hz
    have ha : as = []:=List.length_eq_zero_iff.mp (by rw [← hl]; rfl)
    subst ha
    exact P3 _ H2 (Xp.refl _) ⟨p', ys, rfl, q', pr'⟩
def VP (lo hi : Int) : List Int:=(List.range (lo - hi).toNat).map λ(i : Nat)=>lo - (i : Int)
theorem FQ {lo hi : Int} {i : Nat} {a : Int} (h : (VP lo hi)[i]? = some a) : a = lo - i /\ i < (lo - hi).toNat:=by
  unfold VP at h
  rw [List.getElem?_map] at h
  rcases Nat.lt_or_ge i (lo - hi).toNat with q | q
  . rw [List.getElem?_range q] at h; exact ⟨(Option.some.inj h).symm, q⟩
  . rw [List.getElem?_eq_none (by simpa using q)] at h; cases h
theorem FM {lo hi : Int} : (VP lo hi).length = (lo - hi).toNat:=by simp [VP]
def MB (lo hi st : Int) : Rs (List Int):=chk (st = -1 /\ -(2 ^ 62) <= lo /\ lo < 2 ^ 62 /\ -(2 ^ 62) <= hi /\ hi < 2 ^ 62) (.ok (VP lo hi))
theorem Ge {ta tb tc : TE} {ma mb mc : Rs Int} (ha : EvB K Er S OO σ ta Xa ma) (hb : EvB K Er S OO σ tb Xa mb) (hc : EvB K Er S OO σ tc Xa mc) : Walk K Er S OO σ (Le (Xr ta (Xr tb (Xr tc Zc)))) Xa (ma.bind λlo=>mb.bind λn=>mc.bind λst=>MB lo n st):=⟨fun {H R} w s P=>
  ha.run w s (λas H H' s' h J H2 s2=>h J H2 (s'.trans s2)) P λlo v H1 s1 w1 q1 r1 P1=>hb.run w1 q1 (λas H H' s' h J H2 s2=>h J H2 (s'.trans s2)) P1 λn v2 H2 s2 w2 q2 r2 P2=>hc.run w2 q2 (λas H H' s' h J H2 s2=>h J H2 (s'.trans s2)) P2 λst v3 H3 s3 w3 q3 r3 P3'=>by
    obtain ⟨c, hc, P3⟩:=P3'.okOf λx=>Qj
    obtain ⟨⟨h0, h1⟩, h3⟩:=Zh hc
    cases h3
    subst h0
    refine ⟨lo, n, by rw [show v = .int lo from r1, show v2 = .int n from r2, show v3 = .int (-1) from r3], h1, P3 _ H3 (Xp.refl _) (λi a ha OO2 H4 w4 m4=>?_) λOO2 H4 w4 m4=>?_⟩
    . obtain ⟨e1, e2⟩ := FQ ha
      refine ⟨e2, λx H5 r9=>?_⟩
      obtain ⟨e3, e4⟩:=r9
      subst e3
      exact ⟨Xp.refl _, by rw [e4, e1]; rfl⟩
    . show (lo - n).toNat <= _
      rw [FM]; exact Nat.le_refl _⟩
theorem Iz {te : TE} {o1 : OE α} {o2 : OE γ} [z : MonoO o1] {m : Rs (α × γ)} (he : Ev K Er S OO OO' σ te (oT2 o1 o2) m) : Ev K Er S OO OO' σ (tOp (Bn K) te (tC (.int 0))) o1 (m.bind λp=>.ok p.1):=λH Q w s P=>by
  refine he H _ w s ?_
  cases m with
  | bad=>exact P
  | err x=>exact P
  | ok a=>
    intro v C H1 s1 w1 m1 ⟨p, x', y, C1, C2, e, q, h1, h2, c⟩
    subst c
    have hs : Xp (hid H1 ((C1 ++ C2) :: OO')) (hid H1 (C1 :: OO')):=Zg (Xp.refl _) λb hb=>by
      rw [XU] at hb ⊢
      rw [List.map_append, List.append_assoc]
      rcases List.mem_append.mp hb with z | z
      . exact List.mem_append_left _ z
      . exact List.mem_append_right _ (List.mem_append_right _ z)
    have P2 : FO K OO OO' o1 Q a.1 H:=P
    refine ⟨p, _, 0, x', e, rfl, SqT.of (Xv _ _ q), rfl, P2 x' C1 H1 s1 (w1.sub ?_) (m1.trans hs) (z.mono hs h1)⟩
    simp only [List.flatten_cons, List.append_assoc]
    exact List.Sublist.append_left (List.sublist_append_right _ _) _
theorem P3.reverse {δ : Type} {F : α -> γ -> δ -> Prop} : ∀ {l m n}, P3 F l m n -> P3 F l.reverse m.reverse n.reverse:=λp=>by
  induction p with
  | nil=>exact .nil
  | cons r _ ih=>rw [List.reverse_cons, List.reverse_cons, List.reverse_cons]; exact ih.snoc r
variable {u : TS} {Fd : Ends -> β -> Hp -> Prop} [fd : FdOk Fd]
def CZ (as : List α) : Rs (α × List α):=match as.getLast? with
  | some a=>.ok (a, as.dropLast)
  | none=>.bad
theorem HP {r : Enc α} [MonoE r] {f : α × List α -> Rs β} {v : V} {as : List α} {C : List Xz} (x i k : Nat) (hσ : σ[i]? = some (some v)) (hk : OO[k]? = some C) (h : ∀ x, S.p x -> oL (oF r) K x v as C)
    (hr : ∀ a bs y C', Sv Er ((S.add K r y a).addO K (oL (oF r)) v bs C') (OO.set k C') (σ.set x (some y)) u Fd (f (a, bs))) : Sv Er S OO σ (Jb (EL (Nq K "list" Nx (UX i)) (QP x)) u) Fd ((CZ as).bind f):=λH D w s P=>by
  obtain ⟨p, xs, Cs, e, q, c⟩:=h _ s
  subst c e
  unfold CZ at P
  cases ha : as.getLast? with
  | none=>rw [ha] at P; exact P.elim
  | some a=>
    rw [ha] at P
    have hH : H p = some (.lst xs):=w.tr (p, .lst xs) (List.mem_flatten.mpr ⟨_, List.mem_of_getElem? hk, Zq⟩)
    have nd:=QJ w.nil hk
    rw [List.append_nil] at nd
    obtain ⟨w3, m3⟩:=Mv (D:=[]) (xs':=xs.dropLast) (Cs':=Cs.dropLast) w.nil hk (λc hc=>List.mem_append_left _ ((QW Cs).subset hc)) (nd.sublist ((QW Cs).map _))
    rw [YC] at m3
    rw [List.getLast?_eq_getElem?, ← q.len.1] at ha
    obtain ⟨y, c, hy, _, _, ry⟩:=P3.get q ha
    refine ⟨.ref p, hσ, .inl ⟨rfl, _, SqL.of hH⟩, p, xs, y, rfl, rfl, hH, hy, ?_⟩
    exact hr a as.dropLast y _ _ D w3 ⟨⟨S.mono _ _ m3 s, MonoE.mono m3 ry⟩, ⟨p, _, _, rfl, P3.imp (λ_ _ _ z=>MonoO.mono m3 z) q.dropLast, rfl⟩⟩ (PZ.tr (fd.tr D) m3 P)
end
section
variable {K : Fgg} {Er : Exc -> Hp -> Prop} {S : SC} {OO : List (List Xz)} {σ : St} {α β γ ι : Type} {u : TS} {Fd : Ends -> β -> Hp -> Prop} [fd : FdOk Fd]
def Jn.wR (J : Jn γ ι) (k : Nat) (R : List Xz) : Jn γ ι:={ oo:=λx=>(J.oo x).set k R, ss:=J.ss, sc:=J.sc }
theorem EI {k : Nat} {C : List Xz} (hk : OO[k]? = some []) : (OO.set k C).flatten.Perm (C :: OO).flatten:=by
  have hlt : k < OO.length:=(List.getElem?_eq_some_iff.mp hk).1
  have h1 : (OO.set k C)[k]? = some C:=by simp [hlt]
  have h2:=XW h1
  rw [List.set_set] at h2
  have h3 : OO.set k [] = OO:=by
    refine List.ext_getElem? λi=>?_
    by_cases e : k = i
    . subst e; rw [hk]; simp [hlt]
    . simp [e]
  rw [h3] at h2
  exact h2.symm
theorem Hm {te : TE} {tb : TS} {o : OE α} [z : MonoO o] {m : Rs (List α)} {body : γ -> α -> Rs γ} {f : γ -> Rs β} (J : Jn γ ι) (kx kr ix : Nat) (x0 : ι) (g0 : γ) (he : Ev K Er S OO OO σ te (oL o) m) (h1 : OO = J.oo x0) (h2 : σ = J.ss x0) (h3 : ∀ h, S.p h -> (J.sc g0 x0).p h)
    (hkx : ∀ x, (J.oo x)[kx]? = some []) (hkr : ∀ x, (J.oo x)[kr]? = some []) (hne : kr ≠ kx)
    (hb : ∀ R g x a v C, Sv Er ((J.sc g x).addO K o v a C) (((J.oo x).set kr R).set kx C) ((J.ss x).set ix (some v)) tb (FNd (J.wR kr R)) (body g a))
    (hr : ∀ g x, Sv Er (J.sc g x) (J.oo x) (J.ss x) u Fd (f g)) : Sv Er S OO σ (Jb (Mr (F1 K te) (QP ix) tb) u) Fd (m.bind λas=>(forN as g0 body).bind f):=λH D w s P=>by
  refine he H _ w s ?_
  cases em : m with
  | bad=>rw [em] at P; exact P
  | err x=>rw [em] at P; exact λH' s'=>P H' (Xv.trans s')
  | ok as=>
    rw [em] at P
    have P : PZ Er (Fd D) (hid H OO) ((forN as g0 body).bind f):=P
    intro v C H' s' w' m' ⟨p, xs, Cs, e, q, c⟩
    subst c e
    have hp':=w'.cell (p, .lst xs) Zq
    have hlen:=q.len
    let R : Nat -> List Xz:=λi=>(p, HO.lst xs) :: (Cs.drop i).flatten
    have e0 : R 0 = (p, HO.lst xs) :: Cs.flatten:=by show _ :: (Cs.drop 0).flatten = _; rw [List.drop_zero]
    have pm0 : ∀ x i, ((J.oo x).set kr (R i)).flatten.Perm (R i :: J.oo x).flatten:=λx i=>EI (hkr x)
    have hin : ∀ {x i H2}, W ((J.oo x).set kr (R i)) H2 -> SqL K H2 p xs:=fun {x i H2} w2=>SqL.of ((w2.of (pm0 x i).symm).cell (p, .lst xs) Zq)
    refine ⟨p, rfl, ⟨xs, SqL.of hp'⟩, λi mm σ' H2=>mm = as.length - i /\ i <= as.length /\ ∃ x gg, σ' = J.ss x /\ W ((J.oo x).set kr (R i)) H2 /\ Xp (hid H' (((p, HO.lst xs) :: Cs.flatten) :: OO)) (hid H2 ((J.oo x).set kr (R i))) /\ (J.sc gg x).p (hid H2 ((J.oo x).set kr (R i))) /\ PZ Er (Fd D) (hid H2 ((J.oo x).set kr (R i))) ((forN (as.drop i) gg body).bind f), ⟨as.length, rfl, Nat.zero_le _, x0, g0, h2, ?_⟩, ?_⟩
    . have pm : ((J.oo x0).set kr (R 0)).flatten.Perm (((p, HO.lst xs) :: Cs.flatten) :: OO).flatten := by rw [h1, ← e0]; exact pm0 x0 0
      rw [XN pm, List.drop_zero]
      exact ⟨w'.of pm, Xp.refl _, h3 _ (S.mono _ _ m' s), PZ.tr (fd.tr D) m' P⟩
    . rintro i mm σ' H2 ⟨rfl, hi, x, gg, rfl, w2, m2, sc2, P2⟩
      by_cases hlt : i < as.length
      . right
        have ha : as[i]? = some as[i]:=by simp [hlt]
        obtain ⟨y0, c0, hy0, hc0, ho0⟩:=P3.get q ha
        have hq:=hin w2
        refine ⟨⟨xs, y0, hq, hy0⟩, λσ3 H3=>∃ x gg, σ3 = J.ss x /\ W ((J.oo x).set kr (R (i + 1))) H3 /\ Xp (hid H' (((p, HO.lst xs) :: Cs.flatten) :: OO)) (hid H3 ((J.oo x).set kr (R (i + 1)))) /\ (J.sc gg x).p (hid H3 ((J.oo x).set kr (R (i + 1)))) /\ PZ Er (Fd D) (hid H3 ((J.oo x).set kr (R (i + 1)))) ((forN (as.drop (i + 1)) gg body).bind f), λσ3 H3 q=>⟨as.length - (i + 1), Nat.sub_lt_sub_left hlt (Nat.lt_succ_self i), rfl, hlt, q⟩, λy H3 r9=>?_⟩
        obtain ⟨e3, hy⟩:=r9
        subst e3
        have hyy:=hy xs hq
        rw [hy0] at hyy
        cases hyy
        have hkx2 : ((J.oo x).set kr (R (i + 1)))[kx]? = some []:=by rw [List.getElem?_set_ne hne]; exact hkx x
        have hcl : i < Cs.length:=(List.getElem?_eq_some_iff.mp hc0).1
        have hc1 : Cs[i] = c0:=(List.getElem?_eq_some_iff.mp hc0).2
        have pm : (((J.oo x).set kr (R (i + 1))).set kx c0).flatten.Perm ((J.oo x).set kr (R i)).flatten:=by
          refine (EI hkx2).trans (List.Perm.trans ?_ (pm0 x i).symm)
          rw [List.flatten_cons]
          refine ((pm0 x (i + 1)).append_left c0).trans ?_
          show (c0 ++ (((p, HO.lst xs) :: (Cs.drop (i + 1)).flatten) :: J.oo x).flatten).Perm (((p, HO.lst xs) :: (Cs.drop i).flatten) :: J.oo x).flatten
          rw [List.drop_eq_getElem_cons hcl, hc1]
          simp only [List.flatten_cons, List.cons_append, List.append_assoc]
          exact List.perm_middle
        have w3:=w2.of pm
        have eh:=XN (H:=H3) pm
        refine hb (R (i + 1)) gg x as[i] y0 c0 H3 _ w3 ⟨by rw [eh]; exact sc2, by rw [eh]; exact z.mono m2 ho0⟩ ?_
        rw [eh]
        rw [List.drop_eq_getElem_cons hlt] at P2
        have P3 : PZ Er (Fd D) (hid H3 ((J.oo x).set kr (R i))) ((body gg as[i]).bind λg'=>(forN (as.drop (i + 1)) g' body).bind f):=by rw [← XQ]; exact P2
        cases eb : body gg as[i] with
        | bad=>rw [eb] at P3; exact P3
        | err x=>rw [eb] at P3; exact P3
        | ok g'=>
          rw [eb] at P3
          exact λx' H4 w4 m4 sc4=>⟨x', g', rfl, w4, m2.trans m4, sc4, PZ.tr (fd.tr D) m4 P3⟩
      . left
        have e : i = as.length:=Nat.le_antisymm hi (Nat.not_lt.mp hlt)
        subst e
        have hs : Xp (hid H2 ((J.oo x).set kr (R as.length))) (hid H2 (J.oo x)):=by
          rw [XN (pm0 x as.length)]
          exact Zg (Xp.refl _) λb hb=>by rw [XU]; exact List.mem_append_right _ hb
        refine ⟨⟨xs, hin w2, by rw [hlen.1]; exact Nat.le_refl _⟩, hr gg x H2 D ((w2.of (pm0 x as.length).symm).tail) ((J.sc gg x).mono _ _ hs sc2) ?_⟩
        rw [List.drop_length] at P2
        exact PZ.tr (fd.tr D) hs P2
end
section
variable {K : Fgg} {Er : Exc -> Hp -> Prop} {S : SC} {OO : List (List Xz)} {σ : St} {α β : Type}
end
def ltG {α : Type} [DecidableEq α] (lt : α -> α -> Bool) : List α -> List α -> Bool
  | _, []=>false
  | [], _ :: _=>true
  | a :: as, b :: bs=>if a = b then ltG lt as bs else lt a b
def NF (A : Around) (s : Shared) (v u : Value) (b : Bool) : Prop:=
  ∀ (prog : Program) (w : World) (E : Value -> Shared -> Prop) (Q : Value -> Shared -> Prop), Q (.bool b) s -> wpAny (model prog w) A (richCompare .Lt v u) Q E s
structure LtOk {α : Type} (r : Enc α) (lt : α -> α -> Bool) (d : Nat) : Prop where
  at' : ∀ {X : Cx} {pins : List (Addr × Obj)} {σ : St} {H : Hp} {s : Shared} {x y : V} {v u : Value} {a b : α} {A : Around}, Inv X pins σ H s -> X7 x v -> X7 y u -> r X.K H x a -> r X.K H y b -> A.units + d < cLine -> NF A s v u (lt a b)
def ltI (a b : Int) : Bool:=decide (a < b)
theorem lt_int : LtOk Xa ltI 0:=⟨fun {X pins σ H s x y v u a b A} I rx ry h1 h2 _ prog w E Q q=>by
  have e1 : x = V.int a:=h1
  have e2 : y = V.int b:=h2
  subst e1 e2
  obtain ⟨t, rfl⟩:=rx
  obtain ⟨t', rfl⟩:=ry
  exact CmpOf.ints_lt (P:=λj v=>∃ t, v = .int (if j = 0 then a else b) t) (λj=>if j = 0 then a else b) (λ_ _ h=>h) 0 1 _ _ _ _ _ ⟨t, rfl⟩ ⟨t', rfl⟩ q⟩
section
variable {α : Type} [DecidableEq α] {r : Enc α} {lt : α -> α -> Bool} {d : Nat}
theorem Us {as : List α} : ltG lt as [] = false:=by cases as <;> rfl
theorem ND (E : EqOk r d) (L : LtOk r lt d) {X : Cx} {pins : List (Addr × Obj)} {σ : St} {H : Hp} {s : Shared} (I : Inv X pins σ H s) {prog : Program} {w : World} {A : Around} {R : Result -> Shared -> Prop} {l b : Addr} {i1 i2 : List Value} {n m : Nat} {o1 o2 : Obj} (d1 : o1.data = .seq i1.toArray n) (d2 : o2.data = .seq i2.toArray m)
    {xs ys : List V} {as bs : List α} (v1 : X5 xs i1) (v2 : X5 ys i2) (p1 : Paired (r X.K H) xs as) (p2 : Paired (r X.K H) ys bs) (g1 : s.heap.get? l = some o1) (g2 : s.heap.get? b = some o2) (hu : A.units + (d + 1) < cLine) :
    ∀ (k i : Nat), as.length - i = k -> i <= as.length -> i <= bs.length -> R (.ok (.ret (.bool (ltG lt (as.drop i) (bs.drop i))))) s ->
    codeAny (model prog w) A (.builtin "list.__eq__.loop" ⟨[.ref l, .ref b, rawInt i, rawInt 0], []⟩) R s:=by
  have n1 : as.length = i1.length:=by rw [← Paired.len p1]; exact v1.length
  have n2 : bs.length = i2.length:=by rw [← Paired.len p2]; exact v2.length
  intro k
  induction k with
  | zero=>
    intro i hk hi1 hi2 q
    refine codeAny_builtin Vb ?_
    rw [Around.under_plainId Z9 _]
    show wpAny _ A.in1 (Builtin.List.listItems (.ref l) >>= _) _ _ s
    refine wpAny_bind (wpAny_listItems g1 d1 (wpAny_bind (wpAny_listItems g2 d2 ?_)))
    rw [show ((i : Nat) : Int).toNat = i from rfl, show i1.toArray[i]? = none by simp; lia]
    refine wpAny_bind (wpAny_listItems g1 d1 (wpAny_bind (wpAny_listItems g2 d2 (wpAny_pure ?_))))
    have e : ltG lt (as.drop i) (bs.drop i) = decide (i1.toArray.size < i2.toArray.size):=by
      rw [List.drop_eq_nil_of_le (show as.length <= i by lia)]
      cases hd : bs.drop i with
      | nil=>
        have:=congrArg List.length hd
        simp at this
        rw [Us, decide_eq_false (by simp; lia)]
      | cons x t=>
        have:=congrArg List.length hd
        simp at this
        exact (decide_eq_true (show i1.toArray.size < i2.toArray.size by simp; lia)).symm
    rw [e] at q
    exact q
  | succ k ih=>
    intro i hk hi1 hi2 q
    have lt1 : i < as.length:=by lia
    refine codeAny_builtin Vb ?_
    rw [Around.under_plainId Z9 _]
    show wpAny _ A.in1 (Builtin.List.listItems (.ref l) >>= _) _ _ s
    refine wpAny_bind (wpAny_listItems g1 d1 (wpAny_bind (wpAny_listItems g2 d2 ?_)))
    rw [show ((i : Nat) : Int).toNat = i from rfl]
    have f1 : i1.toArray[i]? = some i1[i]:=by simp
    obtain ⟨x, ex, rx⟩:=Paired.getR (i:=i) (b:=i1[i]) v1 (by simp)
    obtain ⟨a, ea, ra⟩:=Paired.getL p1 ex
    have dx : as.drop i = a :: as.drop (i + 1):=by rw [List.drop_eq_getElem_cons lt1, ← (List.getElem?_eq_some_iff.mp ea).2]
    rw [f1]
    by_cases lt2 : i < bs.length
    . have f2 : i2.toArray[i]? = some i2[i] := by simp
      obtain ⟨y, ey, ry⟩:=Paired.getR (i:=i) (b:=i2[i]) v2 (by simp)
      obtain ⟨c, ec, rc⟩:=Paired.getL p2 ey
      have dy : bs.drop i = c :: bs.drop (i + 1):=by rw [List.drop_eq_getElem_cons lt2, ← (List.getElem?_eq_some_iff.mp ec).2]
      rw [dx, dy, ltG] at q
      rw [f2]
      show wpAny _ _ (eqBool i1[i] i2[i] >>= _) _ _ _
      refine wpAny_bind (E.eq (A:=A.in1) I rx ry ra rc (by rw [YV]; lia) _ _ _ _ ?_)
      by_cases hac : a = c
      . rw [if_pos hac] at q
        rw [if_pos (by simpa using hac)]
        exact wpAny_pure ⟨plainId_quiet Z9 _, ih (i + 1) (by lia) (by lia) (by lia) q⟩
      . rw [if_neg hac] at q
        rw [if_neg (by simpa using hac)]
        refine wpAny_bind (wpAny_listItems g1 d1 (wpAny_bind (wpAny_listItems g2 d2 ?_)))
        rw [f1, f2]
        show wpAny _ _ (richCompare .Lt i1[i] i2[i] >>= _) _ _ _
        exact wpAny_bind (L.at' (A:=A.in1) I rx ry ra rc (by rw [YV]; lia) _ _ _ _ (wpAny_pure q))
    . rw [show i2.toArray[i]? = none by simp; lia]
      refine wpAny_bind (wpAny_listItems g1 d1 (wpAny_bind (wpAny_listItems g2 d2 (wpAny_pure ?_))))
      rw [List.drop_eq_nil_of_le (show bs.length <= i by lia), Us, ← decide_eq_false (show ¬ i1.toArray.size < i2.toArray.size by simp; lia)] at q
      exact q
theorem CS (E : EqOk r d) (L : LtOk r lt d) {X : Cx} {pins : List (Addr × Obj)} {σ : St} {H : Hp} {s : Shared} (I : Inv X pins σ H s) {prog : Program} {w : World} {A : Around} {Er : Value -> Shared -> Prop} {x y : V} {v u : Value} {as bs : List α} (rx : X7 x v) (ry : X7 y u) (h1 : rL r X.K H x as) (h2 : rL r X.K H y bs) (hu : A.units + (d + 1) < cLine) {Q : Value -> Shared -> Prop} (q : Q (.bool (ltG lt as bs)) s) :
    ∃ l b o1 o2, v = .ref l /\ u = .ref b /\ s.heap.get? l = some o1 /\ o1.cls = .type "list" /\ s.heap.get? b = some o2 /\ o2.cls = .type "list" /\ wpAny (model prog w) A (call (.builtin "list.__lt__") [.ref l, .ref b]) Q Er s:=by
  obtain ⟨l, xs, rfl, q1, p1⟩:=h1
  obtain ⟨b, ys, rfl, q2, p2⟩:=h2
  cases rx
  cases ry
  obtain ⟨i1, v1, ⟨o1, n1, g1, c1, _, d1⟩, _⟩:=I.list q1
  obtain ⟨i2, v2, ⟨o2, n2, g2, c2, _, d2⟩, _⟩:=I.list q2
  have me : Meets (Builtin.«list.__lt__» ⟨[.ref l, .ref b], []⟩) λA' R s'=>s' = s /\ A'.units + (d + 1) < cLine /\ R (.ok (.ret (.bool (ltG lt as bs)))) s':=by
    rintro prog w A' R s' ⟨rfl, hu', q'⟩
    show wpAny _ _ (slotArgs "__lt__" 1 ⟨[.ref l, .ref b], []⟩ >>= _) _ _ _
    refine wpAny_bind (wpAny_pure (wpAny_bind (wpAny_isInstance ⟨_, g2, c2⟩ (by first | rfl | kernel_rfl) ?_)))
    rw [if_neg (by decide)]
    show wpAny _ _ (if (CmpOp.Lt == CmpOp.Eq || CmpOp.Lt == CmpOp.NotEq) = true then _ else _) _ _ _
    rw [if_neg (by decide)]
    exact wpAny_pure ⟨plainId_quiet Z9 _, ND E L I d1 d2 v1 v2 p1 p2 g1 g2 hu' as.length 0 rfl (Nat.zero_le _) (Nat.zero_le _) (by simpa using q')⟩
  exact ⟨l, b, o1, o2, rfl, rfl, g1, c1, g2, c2, call_meets F.slot_list_lt ⟨_, g1, c1⟩ F.entry_list_lt (F.args_list_lt_2 _ _) me ⟨rfl, hu, q⟩⟩
theorem Ed (E : EqOk r d) (L : LtOk r lt d) : LtOk (rL r) (ltG lt) (d + 1):=⟨fun {X pins σ H s x y v u as bs A} I rx ry h1 h2 hu prog w Er Q q=>by
  obtain ⟨l, b, o1, o2, rfl, rfl, g1, c1, g2, c2, h⟩:=CS E L I (prog:=prog) (w:=w) (A:=A) (Er:=Er) rx ry h1 h2 hu (Q:=λv s'=>(∃ k, v = .bool k) /\ Q v s') ⟨⟨_, rfl⟩, q⟩
  exact HA g1 c1 g2 c2 (by lia) h⟩
theorem LtOk.imp {q : Enc α} (L : LtOk r lt d) (h : ∀ {K : Fgg} {H : Hp} {v : V} {a : α}, q K H v a -> r K H v a) : LtOk q lt d:=⟨λI rx ry h1 h2 hu=>L.at' I rx ry (h h1) (h h2) hu⟩
theorem LY {q : Enc α} {K : Fgg} {H : Hp} {v : V} {as : List α} (h : rV q K H v as) : rL q K H v as:=by
  obtain ⟨a, xs, e, q, p⟩:=h
  exact ⟨a, xs, e, SqL.of q, p⟩
end
section
variable {α : Type}
def kp (kf : Value -> α) (d : α) (xs : Array Keyed) (i : Nat) : α:=(xs[i]?.map λp=>kf p.1).getD d
theorem B9 {kf : Value -> α} {d : α} {xs ys : Array Keyed} {i j : Nat} (h : xs[i]? = ys[j]?) : kp kf d xs i = kp kf d ys j:=by unfold kp; rw [h]
structure Ord (lt : α -> α -> Bool) : Prop where
  irr : ∀ a, lt a a = false
  tr : ∀ {a b c}, lt a b = true -> lt b c = true -> lt a c = true
structure Asks (prog : Program) (w : World) (A : Around) (E : Value -> Shared -> Prop) (s : Shared) (lt : α -> α -> Bool) (kf : Value -> α) (d : α) (a0 : Array Keyed) : Prop extends Ord lt where
  ask : ∀ {st : SortSt} {i j : Nat} {Q : Option Bool -> SortSt -> Prop}, SBase a0 st -> i < a0.size -> j < a0.size -> Q (some (lt (kp kf d (arrOf st) i) (kp kf d (arrOf st) j))) st -> wpS (model prog w) A E s (ltAt' i j) Q st
  two : ∀ {st : SortSt} {i j : Nat}, SBase a0 st -> i < a0.size -> j < a0.size -> i ≠ j -> lt (kp kf d (arrOf st) i) (kp kf d (arrOf st) j) = true ∨ lt (kp kf d (arrOf st) j) (kp kf d (arrOf st) i) = true
variable {prog : Program} {w : World} {A : Around} {E : Value -> Shared -> Prop} {s : Shared} {lt : α -> α -> Bool} {kf : Value -> α} {d : α} {a0 : Array Keyed}
def Ris (lt : α -> α -> Bool) (k : Nat -> α) (n : Nat) : Prop:=∀ i j, i < j -> j < n -> lt (k i) (k j) = true
def Fal (lt : α -> α -> Bool) (k : Nat -> α) (n : Nat) : Prop:=∀ i j, i < j -> j < n -> lt (k j) (k i) = true
theorem Ris.more (O : Ord lt) {k : Nat -> α} {n : Nat} (h : Ris lt k n) (q : 0 < n -> lt (k (n - 1)) (k n) = true) : Ris lt k (n + 1):=λi j hij hj=>by
  rcases Nat.lt_or_ge j n with z | z
  . exact h i j hij z
  . have e : j = n := by lia
    subst e
    rcases Nat.lt_or_ge i (j - 1) with y | y
    . exact O.tr (h i (j - 1) y (by lia)) (q (by lia))
    . rw [show i = j - 1 by lia]; exact q (by lia)
theorem Fal.more (O : Ord lt) {k : Nat -> α} {n : Nat} (h : Fal lt k n) (q : 0 < n -> lt (k n) (k (n - 1)) = true) : Fal lt k (n + 1):=λi j hij hj=>by
  rcases Nat.lt_or_ge j n with z | z
  . exact h i j hij z
  . have e : j = n := by lia
    subst e
    rcases Nat.lt_or_ge i (j - 1) with y | y
    . exact O.tr (q (by lia)) (h i (j - 1) y (by lia))
    . rw [show i = j - 1 by lia]; exact q (by lia)
theorem Asks.other (L : Asks prog w A E s lt kf d a0) {st : SortSt} {i j : Nat} (B : SBase a0 st) (hi : i < a0.size) (hj : j < a0.size) (n : i ≠ j) (h : lt (kp kf d (arrOf st) i) (kp kf d (arrOf st) j) = false) : lt (kp kf d (arrOf st) j) (kp kf d (arrOf st) i) = true:=(L.two B hi hj n).resolve_left (by rw [h]; decide)
theorem EA (L : Asks prog w A E s lt kf d a0) {st : SortSt} {a m : Nat} {Q : AscSt -> SortSt -> Prop} (B : SBase a0 st) (hm : m <= a0.size) (h1 : 1 <= a) (ham : a <= m) (R : Ris lt (kp kf d (arrOf st)) a)
    (q : ∀ n, a <= n -> n <= m -> Ris lt (kp kf d (arrOf st)) n -> (n ≠ m -> lt (kp kf d (arrOf st) n) (kp kf d (arrOf st) (n - 1)) = true) -> Q (none, n) st) : wpS (model prog w) A E s (ascLoop a m) Q st:=by
  unfold ascLoop
  refine wpS_forRange (I:=λx c t=>t = st /\ c = (none, x) /\ Ris lt (kp kf d (arrOf st)) x) ?_ ?_ ⟨rfl, rfl, R⟩
  . intro x c t hx hxm hI
    obtain ⟨rfl, rfl, R'⟩:=hI
    refine wpS_bind (L.ask B (by lia) (by lia) ?_)
    cases e : lt (kp kf d (arrOf t) x) (kp kf d (arrOf t) (x - 1)) with
    | true=>exact wpS_pure (q x hx (by lia) R' λ_=>e)
    | false=>exact wpS_pure ⟨rfl, rfl, R'.more L.toOrd λ_=>L.other B (by lia) (by lia) (by lia) e⟩
  . intro c t hI
    obtain ⟨rfl, rfl, R'⟩:=hI
    have e : max a m = m:=by lia
    rw [e] at R' ⊢
    exact q m ham (Nat.le_refl _) R' λz=>absurd rfl z
theorem BB (L : Asks prog w A E s lt kf d a0) {st : SortSt} {a m : Nat} {Q : DescSt -> SortSt -> Prop} (B : SBase a0 st) (hm : m <= a0.size) (h1 : 1 <= a) (ham : a <= m) (R : Fal lt (kp kf d (arrOf st)) a)
    (q : ∀ n, a <= n -> n <= m -> Fal lt (kp kf d (arrOf st)) n -> Q (none, n, 0) st) : wpS (model prog w) A E s (descLoop a m) Q st:=by
  unfold descLoop
  refine wpS_forRange (I:=λx c t=>t = st /\ c = (none, x, 0) /\ Fal lt (kp kf d (arrOf st)) x) ?_ ?_ ⟨rfl, rfl, R⟩
  . intro x c t hx hxm hI
    obtain ⟨rfl, rfl, R'⟩:=hI
    show wpS _ _ _ _ (ltAt' x (x - 1) >>= _) _ _
    refine wpS_bind (L.ask B (by lia) (by lia) ?_)
    cases e : lt (kp kf d (arrOf t) x) (kp kf d (arrOf t) (x - 1)) with
    | true=>exact wpS_pure ⟨rfl, rfl, R'.more L.toOrd λ_=>e⟩
    | false=>
      show wpS _ _ _ _ (ltAt' (x - 1) x >>= _) _ _
      refine wpS_bind (L.ask B (by lia) (by lia) ?_)
      rw [L.other B (by lia) (by lia) (by lia) e]
      exact wpS_pure (q x hx (by lia) R')
  . intro c t hI
    obtain ⟨rfl, rfl, R'⟩:=hI
    have e : max a m = m:=by lia
    rw [e] at R' ⊢
    exact q m ham (Nat.le_refl _) R'
theorem DV {xs : Array Keyed} {n i : Nat} (hn : n <= xs.size) (hi : i < n) : kp kf d (mirror xs 0 n ((n - 0) / 2)) i = kp kf d xs (n - 1 - i):=by
  have e:=getElem?_mirror_all (i:=0) hn i
  rw [if_pos ⟨Nat.zero_le _, hi⟩, Nat.zero_add] at e
  exact B9 e
theorem La (L : Asks prog w A E s lt kf d a0) {st : SortSt} {m : Nat} {Q : Option Nat -> SortSt -> Prop} (B : SBase a0 st) (hm : m <= a0.size) (h1 : 1 <= m)
    (q : ∀ n t, SBase a0 t -> n <= m -> Ris lt (kp kf d (arrOf t)) n -> Q (some n) t) : wpS (model prog w) A E s (countRun' 0 m) Q st:=by
  rw [countRun0_eq]
  refine wpS_bind (EA L B hm (Nat.le_refl 1) h1 (λi j hij hj=>by lia) λn hn hnm R z=>?_)
  show wpS _ _ _ _ (if (n == m) = true then _ else _) _ _
  by_cases e : n = m
  . subst e
    rw [if_pos (beq_self_eq_true n)]
    exact wpS_pure (q n st B (Nat.le_refl _) R)
  . rw [if_neg (by rw [beq_eq_false_iff_ne.mpr e]; decide)]
    have z:=z e
    by_cases g : n > 1
    . show wpS _ _ _ _ (if n > 1 then _ else _) _ _
      rw [if_pos g]
      show wpS _ _ _ _ (ltAt' 0 (n - 1) >>= _) _ _
      refine wpS_bind (L.ask B (by lia) (by lia) ?_)
      rw [show lt (kp kf d (arrOf st) 0) (kp kf d (arrOf st) (n - 1)) = true from R 0 (n - 1) (by lia) (by lia)]
      exact wpS_pure (q n st B hnm R)
    . have e1 : n = 1 := by lia
      subst e1
      show wpS _ _ _ _ (descPart 1 m) _ _
      unfold descPart
      refine wpS_bind (wpS_lift (wpAny_rule ⟨rfl, ?_⟩))
      have F2 : Fal lt (kp kf d (arrOf st)) 2:=Fal.more L.toOrd (n:=1) (λi j hij hj=>by lia) λ_=>z
      refine wpS_bind (BB L B hm (by lia) (by lia) F2 λn hn2 hnm2 F=>?_)
      show wpS _ _ _ _ (tail3 n m) _ _
      unfold tail3
      refine wpS_bind (wpS_reverse ?_)
      have B2 : SBase a0 (setArr st (mirror (arrOf st) 0 n ((n - 0) / 2))):=B.setArr (mirror_perm _ _ _ _)
      have hsz : n <= (arrOf st).size:=by rw [B.size]; lia
      refine wpS_bind (EA L B2 hm (by lia) hnm2 (λi j hij hj=>?_) λk _ hk R2 _=>wpS_pure (q k _ B2 hk R2))
      show lt (kp kf d (mirror (arrOf st) 0 n ((n - 0) / 2)) i) (kp kf d (mirror (arrOf st) 0 n ((n - 0) / 2)) j) = true
      rw [DV hsz (by lia), DV hsz hj]
      exact F (n - 1 - j) (n - 1 - i) (by lia) (by lia)
theorem IZ (O : Ord lt) {xs : Array Keyed} {k l : Nat} (hk : k < xs.size) (hl : l <= k) (R : Ris lt (kp kf d xs) k) (lo : ∀ i, i < l -> lt (kp kf d xs i) (kp kf d xs k) = true) (hi : ∀ i, l <= i -> i < k -> lt (kp kf d xs k) (kp kf d xs i) = true) : Ris lt (kp kf d (bubble xs k (k - l))) (k + 1):=by
  have g : ∀ p, kp kf d (bubble xs k (k - l)) p = if p = l then kp kf d xs k else if l < p /\ p <= k then kp kf d xs (p - 1) else kp kf d xs p:=λp=>by
    have e:=getElem?_bubble hk (k - l) (by lia) p
    rw [show k - (k - l) = l by lia] at e
    by_cases h1 : p = l
    . rw [if_pos h1] at e ⊢; exact B9 e
    . rw [if_neg h1] at e ⊢
      by_cases h2 : l < p /\ p <= k
      . rw [if_pos h2] at e ⊢; exact B9 e
      . rw [if_neg h2] at e ⊢; exact B9 e
  intro i j hij hj
  rw [g, g]
  rcases Nat.lt_trichotomy i l with hi' | hi' | hi'
  . rw [if_neg (by lia), if_neg (by lia)]
    rcases Nat.lt_trichotomy j l with hj' | hj' | hj'
    . rw [if_neg (by lia), if_neg (by lia)]; exact R i j hij (by lia)
    . rw [if_pos hj']; exact lo i hi'
    . rw [if_neg (by lia), if_pos (by lia)]; exact R i (j - 1) (by lia) (by lia)
  . rw [if_pos hi', if_neg (by lia), if_pos (by lia)]; exact hi (j - 1) (by lia) (by lia)
  . rw [if_neg (by lia), if_pos (by lia), if_neg (by lia), if_pos (by lia)]; exact R (i - 1) (j - 1) (by lia) (by lia)
theorem LR (L : Asks prog w A E s lt kf d a0) {st : SortSt} {n ok : Nat} {Q : Bool -> SortSt -> Prop} (B : SBase a0 st) (hn : n <= a0.size) (hok : ok <= n) (R : Ris lt (kp kf d (arrOf st)) ok)
    (q : ∀ t, SBase a0 t -> Ris lt (kp kf d (arrOf t)) n -> Q true t) : wpS (model prog w) A E s (binarySort' 0 n ok) Q st:=by
  rw [binarySort'_eq]
  simp only [Nat.zero_add]
  refine wpS_bind (wpS_mono (wpS_forRange (I:=λk c t=>c = (none, ()) /\ SBase a0 t /\ Ris lt (kp kf d (arrOf t)) (if k <= n then k else n)) (Q:=λc t=>c = (none, ()) /\ SBase a0 t /\ Ris lt (kp kf d (arrOf t)) n) ?_ ?_ ?_) ?_)
  . intro k c t hk hkn hI
    obtain ⟨rfl, Bt, Rt⟩:=hI
    rw [if_pos (Nat.le_of_lt hkn)] at Rt
    refine wpS_bind (wpS_mono (wpS_forRange (I:=λx c u=>u = t /\ ∃ l r, c = (none, l, r) /\ l <= r /\ r <= k /\ r + x <= k + l /\ (∀ i, i < l -> lt (kp kf d (arrOf t) i) (kp kf d (arrOf t) k) = true) /\ (∀ i, r <= i -> i < k -> lt (kp kf d (arrOf t) k) (kp kf d (arrOf t) i) = true))
      (Q:=λc u=>u = t /\ ∃ l, c = (none, l, l) /\ l <= k /\ (∀ i, i < l -> lt (kp kf d (arrOf t) i) (kp kf d (arrOf t) k) = true) /\ (∀ i, l <= i -> i < k -> lt (kp kf d (arrOf t) k) (kp kf d (arrOf t) i) = true)) ?_ ?_ ?_) ?_)
    . intro x c u _ hx hI
      obtain ⟨rfl, l, r, rfl, hlr, hrk, hm, lo, hi⟩:=hI
      by_cases hge : l ≥ r
      . have e : r = l := by lia
        subst e
        show wpS _ _ _ _ (if r ≥ r then _ else _) _ _
        rw [if_pos (Nat.le_refl _)]
        exact wpS_pure ⟨rfl, r, rfl, hrk, lo, hi⟩
      . show wpS _ _ _ _ (if l ≥ r then _ else _) _ _
        rw [if_neg hge]
        show wpS _ _ _ _ (ltAt' k ((l + r) / 2) >>= _) _ _
        refine wpS_bind (L.ask Bt (by lia) (by lia) ?_)
        cases e : lt (kp kf d (arrOf u) k) (kp kf d (arrOf u) ((l + r) / 2)) with
        | true=>
          refine wpS_pure ⟨rfl, l, (l + r) / 2, rfl, by lia, by lia, by lia, lo, λi h1 h2=>?_⟩
          rcases Nat.eq_or_lt_of_le h1 with y | y
          . rw [← y]; exact e
          . exact L.tr e (Rt _ _ y h2)
        | false=>
          have e':=L.other Bt (by lia) (by lia) (by lia) e
          refine wpS_pure ⟨rfl, (l + r) / 2 + 1, r, rfl, by lia, by lia, by lia, λi h1=>?_, hi⟩
          rcases Nat.eq_or_lt_of_le (Nat.le_of_lt_succ h1) with y | y
          . rw [y]; exact e'
          . exact L.tr (Rt _ _ y (by lia)) e'
    . intro c u hI
      obtain ⟨rfl, l, r, rfl, hlr, hrk, hm, lo, hi⟩:=hI
      have e : r = l:=by lia
      subst e
      exact ⟨rfl, r, rfl, hrk, lo, hi⟩
    . exact ⟨rfl, 0, k, rfl, by lia, by lia, by lia, λi hi=>by lia, λi h1 h2=>by lia⟩
    . intro c u hI
      obtain ⟨rfl, l, rfl, hlk, lo, hi⟩:=hI
      show wpS _ _ _ _ (moveDown' k l >>= _) _ _
      rw [moveDown'_eq]
      refine wpS_bind (wpS_modify (wpS_pure ⟨rfl, Bt.setArr (bubble_perm _ _ _), ?_⟩))
      rw [if_pos (show k + 1 <= n from hkn)]
      exact IZ L.toOrd (by rw [Bt.size]; lia) hlk Rt lo hi
  . intro c t hI
    obtain ⟨hc, Bt, Rt⟩:=hI
    refine ⟨hc, Bt, ?_⟩
    have e : (if max (max ok 1) n <= n then max (max ok 1) n else n) = n:=by split <;> lia
    rwa [e] at Rt
  . refine ⟨rfl, B, λi j hij hj => ?_⟩
    refine R i j hij ?_
    split at hj <;> lia
  . intro c t hI
    obtain ⟨rfl, Bt, Rt⟩:=hI
    exact wpS_pure (q t Bt Rt)
theorem HV (L : Asks prog w A E s lt kf d a0) {st : SortSt} {Q : Unit -> SortSt -> Prop} (B : SBase a0 st) (h2 : 2 <= a0.size) (h64 : a0.size < 64)
    (q : ∀ t, (arrOf t).Perm a0 -> failedOf t = none -> Ris lt (kp kf d (arrOf t)) a0.size -> Q () t) : wpS (model prog w) A E s sortRuns' Q st:=by
  rw [sortRuns'_eq]
  refine wpS_bind (wpS_get ?_)
  have hmr : minRun' a0.size a0.size 0 = a0.size:=by
    cases e : a0.size with
    | zero=>lia
    | succ f=>rw [minRun'_succ, if_pos (by lia)]
  have hs:=B.size
  show wpS _ _ _ _ (forIn [0:(arrOf st).size] _ _ >>= _) _ _
  rw [hs, hmr]
  let Dn : SortSt -> Prop:=λt=>(arrOf t).Perm a0 /\ failedOf t = none /\ pendingOf t = #[(0, a0.size, 0)] /\ Ris lt (kp kf d (arrOf t)) a0.size
  have fin : ∀ t, SBase a0 t -> Ris lt (kp kf d (arrOf t)) a0.size -> Dn (setPending t ((pendingOf t).push (0, a0.size, 0))):=λt Bt Rt=>⟨Bt.perm, Bt.failed, by show (pendingOf t).push _ = _; rw [Bt.pend]; rfl, Rt⟩
  refine wpS_bind (wpS_mono (wpS_forRange (I:=λx c t=>if x = 0 then c = (none, 0) /\ SBase a0 t else c = (none, a0.size) /\ Dn t) (Q:=λc t=>c = (none, a0.size) /\ Dn t) ?_ ?_ ?_) ?_)
  . intro x c t _ hx hI
    by_cases hx0 : x = 0
    . rw [if_pos hx0] at hI
      obtain ⟨rfl, Bt⟩:=hI
      show wpS _ _ _ _ (if 0 ≥ a0.size then _ else _) _ _
      rw [if_neg (by lia)]
      refine wpS_bind (La L Bt (by lia) (by lia) λm u Bu hm Ru=>?_)
      have hb : ∀ v, SBase a0 v -> (pendingOf v).back? = none:=λv Bv=>by rw [Bv.pend]; rfl
      by_cases hlt : m < a0.size
      . show wpS _ _ _ _ (if m < a0.size then _ else _) _ _
        rw [if_pos hlt]
        refine wpS_bind (wpS_lift (wpAny_rule ⟨rfl, ?_⟩))
        rw [Nat.sub_zero, Nat.min_self]
        refine wpS_bind (LR L Bu (Nat.le_refl _) hm Ru λv Bv Rv=>?_)
        show wpS _ _ _ _ (get >>= _) _ _
        refine wpS_bind (wpS_get ?_)
        rw [hb v Bv]
        refine wpS_bind (wpS_modify (wpS_pure ?_))
        show if x + 1 = 0 then _ else _
        rw [if_neg (by lia)]
        exact ⟨by rw [Nat.zero_add], fin v Bv Rv⟩
      . have e : m = a0.size := by lia
        subst e
        show wpS _ _ _ _ (if a0.size < a0.size then _ else _) _ _
        rw [if_neg hlt]
        refine wpS_bind (wpS_get ?_)
        rw [hb u Bu]
        refine wpS_bind (wpS_modify (wpS_pure ?_))
        show if x + 1 = 0 then _ else _
        rw [if_neg (by lia)]
        exact ⟨by rw [Nat.zero_add], fin u Bu Ru⟩
    . rw [if_neg hx0] at hI
      obtain ⟨rfl, D⟩:=hI
      show wpS _ _ _ _ (if a0.size ≥ a0.size then _ else _) _ _
      rw [if_pos (Nat.le_refl _)]
      exact wpS_pure ⟨rfl, D⟩
  . intro c t hI
    rw [if_neg (by lia)] at hI
    exact hI
  . rw [if_pos rfl]; exact ⟨rfl, B⟩
  . intro c t hI
    obtain ⟨rfl, D1, D2, D3, D4⟩:=hI
    refine wpS_bind (wpS_mono (wpS_forRange (I:=λ_ c u=>u = t /\ c = (none, ())) (Q:=λc u=>u = t /\ c = (none, ())) ?_ (λ_ _ h=>h) ⟨rfl, rfl⟩) ?_)
    . intro x c u _ _ hI
      obtain ⟨rfl, rfl⟩:=hI
      refine wpS_bind (wpS_get ?_)
      rw [if_pos (by rw [D3]; exact Nat.le_refl 1)]
      exact wpS_pure ⟨rfl, rfl⟩
    . intro c u hI
      obtain ⟨rfl, rfl⟩:=hI
      exact wpS_pure (q _ D1 D2 D4)
end
section
variable {α β γ : Type}
theorem Ke {f : α -> β} {l' k : List β} (h : l'.Perm k) : ∀ {l : List α}, k = l.map f -> ∃ m : List α, m.Perm l /\ m.map f = l':=by
  induction h with
  | nil=>intro l e; cases l with
    | nil=>exact ⟨[], .nil, rfl⟩
    | cons a l=>cases e
  | cons x _ ih=>intro l e; cases l with
    | nil=>cases e
    | cons a l=>
      injection e with e1 e2
      obtain ⟨m, hm, em⟩:=ih e2
      exact ⟨a :: m, hm.cons a, by rw [List.map_cons, em, e1]⟩
  | swap x y t=>intro l e; cases l with
    | nil=>cases e
    | cons a l=>cases l with
      | nil=>cases e
      | cons b l=>
        injection e with e1 e2
        injection e2 with e2 e3
        exact ⟨b :: a :: l, .swap .., by rw [List.map_cons, List.map_cons, e1, e2, e3]⟩
  | trans _ _ ih1 ih2=>
    intro l e
    obtain ⟨m2, h2, e2⟩:=ih2 e
    obtain ⟨m1, h1, e1⟩:=ih1 e2.symm
    exact ⟨m1, h1.trans h2, e1⟩
structure OrdT (lt : α -> α -> Bool) : Prop extends Ord lt where
  tot : ∀ {a b}, a ≠ b -> lt a b = true ∨ lt b a = true
theorem Ef : OrdT ltI:=⟨⟨λa=>by simp [ltI], λh1 h2=>by simp only [ltI, decide_eq_true_eq] at *; lia⟩, λh=>by simp only [ltI, decide_eq_true_eq]; lia⟩
section
variable [DecidableEq α] {lt : α -> α -> Bool}
theorem EH (O : OrdT lt) : ∀ {a b c : List α}, ltG lt a b = true -> ltG lt b c = true -> ltG lt a c = true
  | _, [], _, h, _=>by rw [Us] at h; cases h
  | _, _ :: _, [], _, h=>by rw [Us] at h; cases h
  | [], _ :: _, _ :: _, _, _=>rfl
  | a :: as, b :: bs, c :: cs, h1, h2=>by
    rw [ltG] at h1 h2 ⊢
    by_cases e1 : a = b
    . rw [if_pos e1] at h1
      by_cases e2 : b = c
      . rw [if_pos e2] at h2
        rw [if_pos (e1.trans e2)]
        exact EH O h1 h2
      . rw [if_neg e2] at h2
        rw [if_neg (by rw [e1]; exact e2), e1]; exact h2
    . rw [if_neg e1] at h1
      by_cases e2 : b = c
      . rw [if_neg (by rw [← e2]; exact e1), ← e2]; exact h1
      . rw [if_neg e2] at h2
        have h3:=O.tr h1 h2
        rw [if_neg (λe=>by rw [e, O.irr] at h3; cases h3)]
        exact h3
theorem Dx : ∀ (a : List α), ltG lt a a = false
  | []=>rfl
  | a :: as=>by rw [ltG, if_pos rfl]; exact Dx as
theorem Dt (O : OrdT lt) : ∀ {a b : List α}, a ≠ b -> ltG lt a b = true ∨ ltG lt b a = true
  | [], [], h=>absurd rfl h
  | [], _ :: _, _=>.inl rfl
  | _ :: _, [], _=>.inr rfl
  | a :: as, b :: bs, h=>by
    rw [ltG, ltG]
    by_cases e : a = b
    . subst e
      rw [if_pos rfl, if_pos rfl]
      exact Dt O λz=>h (by rw [z])
    . rw [if_neg e, if_neg (Ne.symm e)]; exact O.tot e
theorem Kx (O : OrdT lt) : OrdT (ltG lt):=⟨⟨Dx, EH O⟩, Dt O⟩
end
def IE (lt : α -> α -> Bool) (a : α) : List α -> List α
  | []=>[a]
  | b :: l=>if lt a b = true then a :: b :: l else b :: IE lt a l
def UM (lt : α -> α -> Bool) (l : List α) : List α:=l.foldr (IE lt) []
theorem Vh (lt : α -> α -> Bool) (a : α) : ∀ l, (IE lt a l).Perm (a :: l)
  | []=>.refl _
  | b :: l=>by
    rw [IE]
    split
    . exact .refl _
    . exact ((Vh lt a l).cons b).trans (.swap ..)
theorem Qs (lt : α -> α -> Bool) : ∀ l : List α, (UM lt l).Perm l
  | []=>.refl _
  | a :: l=>(Vh lt a _).trans ((Qs lt l).cons a)
theorem KM {lt : α -> α -> Bool} (O : OrdT lt) {a : α} : ∀ {l : List α}, (∀ b ∈ l, a ≠ b) -> l.Pairwise (λx y=>lt x y = true) -> (IE lt a l).Pairwise λx y=>lt x y = true
  | [], _, _=>List.pairwise_singleton ..
  | b :: l, hn, h=>by
    rw [List.pairwise_cons] at h
    rw [IE]
    split
    . rename_i hab
      refine List.pairwise_cons.mpr ⟨λc hc=>?_, List.pairwise_cons.mpr h⟩
      rcases List.mem_cons.mp hc with z | z
      . rw [z]; exact hab
      . exact O.tr hab (h.1 c z)
    . rename_i hab
      refine List.pairwise_cons.mpr ⟨λc hc=>?_, KM O (λc hc=>hn c (ZP _ hc)) h.2⟩
      rcases List.mem_cons.mp ((Vh lt a l).mem_iff.mp hc) with z | z
      . rw [z]; exact (O.tot (hn b Zq)).resolve_left hab
      . exact h.1 c z
theorem VX {lt : α -> α -> Bool} (O : OrdT lt) : ∀ {l : List α}, l.Nodup -> (UM lt l).Pairwise λx y=>lt x y = true
  | [], _=>.nil
  | a :: l, h=>by
    rw [List.nodup_cons] at h
    exact KM O (λb hb e=>h.1 ((Qs lt l).mem_iff.mp (e ▸ hb))) (VX O h.2)
theorem Br {lt : α -> α -> Bool} (O : OrdT lt) {a b : List α} (hn : b.Nodup) (h : a.Perm b) (r : a.Pairwise λx y=>lt x y = true) : a = UM lt b:=
  List.Perm.eq_of_pairwise (le:=λx y=>lt x y = true) (λx y _ _ h1 h2=>by have:=O.tr h1 h2; rw [O.irr] at this; cases this) r (VX O hn) (h.trans (Qs lt b).symm)
end
section
variable {prog : Program} {w : World} {A : Around} {E : Value -> Shared -> Prop} {s : Shared} {α : Type}
theorem Vs {β : Type} {f : Value -> Sem β} {c : β} : ∀ {vs : List Value} {Q : List β -> Shared -> Prop}, (∀ v ∈ vs, ∀ Q : β -> Shared -> Prop, Q c s -> wpAny (model prog w) A (f v) Q E s) -> Q (vs.map λ_=>c) s -> wpAny (model prog w) A (vs.mapM f) Q E s
  | [], Q, _, q=>by rw [List.mapM_nil]; exact wpAny_pure q
  | v :: vs, Q, h, q=>by
    rw [List.mapM_cons]
    refine wpAny_bind (h v Zq _ (wpAny_bind (Vs (λu hu=>h u (ZP _ hu)) (wpAny_pure q))))
theorem Fi {vs : List Value} {Q : SortKind -> Shared -> Prop} (hT : ∀ v ∈ vs, s.TypeIs v "list") (hne : vs ≠ []) (q : Q oneType' s) : wpAny (model prog w) A (keyKind' vs.toArray) Q E s:=by
  obtain ⟨v0, vr, rfl⟩:=List.exists_cons_of_ne_nil hne
  rw [keyKind'_eq, List.mapM_toArray]
  refine wpAny_bind (wpAny_map (Vs (c:=(none : Option Value)) (λv hv Q q=>?_) ?_))
  . show wpAny _ _ (typeOf v >>= λt => if (t != .type "tuple") = true then pure none else _) _ _ _
    refine wpAny_bind (wpAny_typeOf (hT v hv) ?_)
    rw [if_pos (by decide)]
    exact wpAny_pure q
  . rw [if_neg (by simp), if_neg (by simp), oneTypeOnly'_eq, List.mapM_toArray]
    refine wpAny_bind (wpAny_bind (wpAny_map (Vs (c:=Value.type "list") (λv hv Q q=>wpAny_typeOf (hT v hv) q) ?_)))
    rw [show ((List.map (λ_=>Value.type "list") (v0 :: vr)).toArray)[0]? = some (Value.type "list") by simp]
    have hall : ((List.map (λ_=>Value.type "list") (v0 :: vr)).toArray.all λx=>x == Value.type "list") = true:=by
      simp only [List.all_toArray, List.all_map, List.all_eq_true]
      intro _ _
      rfl
    simp only [hall, if_true]
    exact wpAny_pure (wpAny_pure q)
def mid (h : Heap) (a : Addr) (vs : List Value) : Heap:=((h.update a (Obj.mapSeq λ_=>#[])).push (seqObj "tuple" vs.toArray 0)).push (seqObj "list" #[] 0)
theorem Io {h : Heap} {a b : Addr} {vs : List Value} {o : Obj} (hne : b ≠ a) (hb : h.get? b = some o) : (mid h a vs).get? b = some o:=by
  have hlt:=Heap.lt_size hb
  unfold mid
  rw [Heap.get?_push_ne _ _ _ (by rw [size_push', Heap.size_update]; exact Nat.ne_of_lt (Nat.lt_succ_of_lt hlt)), Heap.get?_push_ne _ _ _ (by rw [Heap.size_update]; exact Nat.ne_of_lt hlt), Heap.get?_update_ne _ _ _ _ hne]
  exact hb
theorem Ii {lt : α -> α -> Bool} {kf : Value -> α} {d : α} {a : Addr} {vs : List Value} {n : Nat} {Q : Fin -> Shared -> Prop} (ho : s.heap.get? a = some (seqObj "list" vs.toArray n)) (h64 : vs.length < 64)
    (hT : ∀ v ∈ vs, ({ s with heap:=mid s.heap a vs } : Shared).TypeIs v "list") (L : Asks prog w A E { s with heap:=mid s.heap a vs } lt kf d (pairsOf vs))
    (q : ∀ out : Array Keyed, out.Perm (pairsOf vs) -> Ris lt (kp kf d out) vs.length -> Q (.done (.ret .none)) { s with heap:=sortedHeap s.heap a vs (out.map (·.2)) }) :
    wpAny (model prog w) A (Builtin.«list.sort» ⟨[.ref a], []⟩) Q E s:=by
  rw [list_sort_plain]
  have hlt:=Heap.lt_size ho
  obtain ⟨e1, ho1⟩ : ∃ e, (s.heap.update a (Obj.mapSeq λ_=>#[])).get? a = some (seqObj "list" #[] e):=⟨_, get?_update_seq ho λ_=>#[]⟩
  have ho2 : (mid s.heap a vs).get? a = some (seqObj "list" #[] e1):=by
    unfold mid
    rw [Heap.get?_push_ne _ _ _ (by rw [size_push', Heap.size_update]; exact Nat.ne_of_lt (Nat.lt_succ_of_lt hlt)), Heap.get?_push_ne _ _ _ (by rw [Heap.size_update]; exact Nat.ne_of_lt hlt)]
    exact ho1
  refine wpAny_bind (listItems_at ho rfl (wpAny_bind (listUpdate_at ho rfl (wpAny_bind (seqEpoch_at ho1 rfl (wpAny_bind (wpAny_newTuple (wpAny_bind (wpAny_newList (wpAny_holding ?_))))))))))
  show wpAny (model prog w) A _ Q E { s with heap:=mid s.heap a vs }
  have tail : ∀ (st : SortSt), (arrOf st).Perm (pairsOf vs) -> failedOf st = none -> Ris lt (kp kf d (arrOf st)) vs.length -> wpAny (model prog w) A (do
      let touched:=(← seqEpoch a) != e1
      Builtin.List.listUpdate (.ref a) λ_=>(arrOf st).map (·.2)
      if let some e:=failedOf st then rule "list.sort.comparison-raised"; throw e
      if touched then rule "list.sort.modified"; raiseError "ValueError" "list modified during sort"
      ret .none) Q E { s with heap:=mid s.heap a vs }:=λst hp hf hr=>by
    refine wpAny_bind (seqEpoch_at ho2 rfl (wpAny_bind (listUpdate_at ho2 rfl ?_ (hsz2:=?_))))
    . rw [hf]
      simp only [bne_self_eq_false, Bool.false_eq_true, if_false]
      exact wpAny_pure (q (arrOf st) hp hr)
    . have := hp.size_eq
      rw [pairsOf_size] at this
      rw [Array.size_map, this, sizeLine_eq]; lia
  have hsz : vs.toArray.size = vs.length:=List.size_toArray
  by_cases h2 : vs.toArray.size < 2
  . rw [if_pos h2, if_pos h2]
    refine wpAny_bind (wpAny_pure ?_)
    show wpAny _ _ ((pure () : StateT SortSt Sem Unit).run (SortSt.mk' general' (vs.toArray.zip vs.toArray) #[] 7 none) >>= _) _ _ _
    rw [StateT.run_pure]
    exact wpAny_bind (wpAny_pure (tail (SortSt.mk' general' (vs.toArray.zip vs.toArray) #[] 7 none) (Array.Perm.refl _) rfl λi j hij hj=>by lia))
  . rw [if_neg h2, if_neg h2]
    refine wpAny_bind (Fi hT (λe=>h2 (by rw [e]; decide)) ?_)
    refine wpAny_bind (wpAny_mono (HV L (st:=SortSt.mk' oneType' (vs.toArray.zip vs.toArray) #[] 7 none) (Q:=λ_ st=>(arrOf st).Perm (pairsOf vs) /\ failedOf st = none /\ Ris lt (kp kf d (arrOf st)) vs.length) ⟨Array.Perm.refl _, rfl, rfl, rfl⟩ (by rw [pairsOf_size]; lia) (by rw [pairsOf_size]; exact h64) λt a1 a2 a3=>⟨a1, a2, by rw [pairsOf_size] at a3; exact a3⟩) ?_ λ_ _ e=>e)
    intro p s' hh
    obtain ⟨⟨⟩, st⟩:=p
    obtain ⟨rfl, hp, hf, hr⟩:=hh
    exact tail st hp hf hr
end
section
variable {X : Cx} {β : Type} [DecidableEq β] {r : Enc β} {lt : β -> β -> Bool} {d : Nat}
def Et (K : Fgg) (r : Enc β) (lt : β -> β -> Bool) : List V -> Hp -> VK -> Prop:=λxs H Q=>∃ l ys as, xs = [.ref l] /\ SqL K H l ys /\ Paired (rL r K H) ys as /\ as.Nodup /\ as.length < 64 /\
  ∀ p zs, H p = none -> (zs.zip (UM (ltG lt) as)).Perm (ys.zip as) -> zs.length = as.length -> Q (.ref p) (upd H p (.lst zs))
open Classical in
noncomputable def kfo (T : List (Value × V × List β)) (v : Value) : List β:=if h : ∃ t, t ∈ T /\ t.1 = v then (Classical.choose h).2.2 else []
theorem CB {T : List (Value × V × List β)} (hu : ∀ t u, t ∈ T -> u ∈ T -> t.1 = u.1 -> t.2.2 = u.2.2) {t : Value × V × List β} (ht : t ∈ T) : kfo T t.1 = t.2.2:=by
  have h : ∃ u, u ∈ T /\ u.1 = t.1:=⟨t, ht, rfl⟩
  unfold kfo
  rw [dif_pos h]
  exact hu _ _ (Classical.choose_spec h).1 ht (Classical.choose_spec h).2
theorem IT {F : Value -> V -> List β -> Prop} : ∀ {its : List Value} {ys : List V} {as : List (List β)} {G : V -> List β -> Prop}, Paired X7 ys its -> Paired G ys as -> (∀ v y a, X7 y v -> G y a -> F v y a) -> ∃ T : List (Value × V × List β), T.map (·.1) = its /\ T.map (λt=>(t.2.1, t.2.2)) = ys.zip as /\ T.map (·.2.2) = as /\ ∀ t ∈ T, F t.1 t.2.1 t.2.2
  | _, _, _, _, .nil, .nil, _=>⟨[], rfl, rfl, rfl, λt h=>nomatch h⟩
  | _, _, _, _, .cons r1 p1, .cons r2 p2, h=>by
    obtain ⟨T, e1, e2, e3, hT⟩:=IT p1 p2 h
    exact ⟨(_, _, _) :: T, by rw [List.map_cons, e1], by rw [List.map_cons, e2]; rfl, by rw [List.map_cons, e3], λt ht=>(List.mem_cons.mp ht).elim (λz=>z ▸ h _ _ _ r1 r2) (hT t)⟩
theorem Vz (E : EqOk r d) (L : LtOk r lt d) (O : OrdT lt) (K : Fgg) (hK : X.K = K) (hu : X.A.units + (d + 3) < cLine) : Qf X (.builtin "sorted") (Et K r lt):=by
  subst hK
  intro pins s σ H xs us Q I rr h
  obtain ⟨l, ys, as, rfl, hq, hp, hnd, h64, q⟩:=h
  obtain ⟨u, rfl, ru⟩:=VL rr
  cases ru
  obtain ⟨its, rv, pl, hz⟩:=I.list hq
  obtain ⟨T, e1, e2, e3, hT⟩:=IT (F:=λv y a=>X7 y v /\ rL r X.K H y a) rv hp λv y a h1 h2=>⟨h1, h2⟩
  have hlen : its.length = as.length:=by rw [← e1, ← e3, List.length_map, List.length_map]
  have huq : ∀ t u, t ∈ T -> u ∈ T -> t.1 = u.1 -> t.2.2 = u.2.2:=λt u ht hu' e=>by
    obtain ⟨r1, l1⟩:=hT t ht
    obtain ⟨r2, l2⟩:=hT u hu'
    obtain ⟨b1, z1, w1, m1⟩:=id l1
    obtain ⟨b2, z2, w2, m2⟩:=id l2
    rw [w1] at r1 l1
    rw [w2] at r2 l2
    have r1' : t.1 = .ref b1:=r1
    have r2' : u.1 = .ref b2:=r2
    rw [r1', r2'] at e
    cases e
    exact (F4 E).uniq I l1 l2
  refine Calls.call_function_entry kind_sorted plain_sorted entry_sorted (args_sorted1 _) ?_
  unfold Builtin.«sorted»
  refine wpAny_bind (m:=checkCount "sorted" 1 1 _) (wpAny_pure (wpAny_bind (collect_list pl.isList (wpAny_bind (wpAny_newList ?_)) (by rw [hlen, sizeLine_eq]; lia))))
  let g0:=((s.heap.push (seqObj "list" #[] 0)).update s.heap.objs.size (Obj.mapSeq (· ++ its.toArray))).push (seqObj "list" its.toArray 0)
  have hsz : ((s.heap.push (seqObj "list" #[] 0)).update s.heap.objs.size (Obj.mapSeq (· ++ its.toArray))).objs.size = s.heap.objs.size + 1:=by rw [Heap.size_update, size_push']
  have hoL : g0.get? (s.heap.objs.size + 1) = some (seqObj "list" its.toArray 0):=by
    show (Heap.push _ _).get? _ = _
    rw [← hsz]; exact Heap.get?_push_size _ rfl
  have hold : ∀ b o, s.heap.get? b = some o -> g0.get? b = some o:=λb o hb=>by
    have hlt:=Heap.lt_size hb
    show (Heap.push _ _).get? _ = _
    rw [Heap.get?_push_ne _ _ _ (by rw [hsz]; exact Nat.ne_of_lt (Nat.lt_succ_of_lt hlt)), Heap.get?_update_ne _ _ _ _ (Nat.ne_of_lt hlt), Heap.get?_push_ne _ _ _ (Nat.ne_of_lt hlt)]
    exact hb
  show wpAny _ _ _ _ _ { s with heap:=g0 }
  rw [hsz]
  have hne : ∀ {b o}, s.heap.get? b = some o -> b ≠ s.heap.objs.size + 1:=λhb=>Nat.ne_of_lt (Nat.lt_succ_of_lt (Heap.lt_size hb))
  have I2 : Inv X pins σ H { s with heap:=mid g0 (s.heap.objs.size + 1) its, toks:=s.toks }:=I.kept λb o hb=>Io (hne hb) (hold b o hb)
  have hitm : ∀ v, v ∈ its -> ∃ t, t ∈ T /\ t.1 = v:=λv hv=>by rw [← e1] at hv; exact List.mem_map.mp hv
  have htyp : ∀ v ∈ its, ({ s with heap:=mid g0 (s.heap.objs.size + 1) its } : Shared).TypeIs v "list":=λv hv=>by
    obtain ⟨t, ht, rfl⟩:=hitm v hv
    obtain ⟨r1, a, zs, w1, m1, _⟩:=hT t ht
    rw [w1] at r1
    have r1' : t.1 = .ref a:=r1
    obtain ⟨its', _, ⟨o, n, g1, c1, _, _⟩, _⟩:=I2.list m1
    rw [r1']
    exact ⟨o, g1, c1⟩
  have key : ∀ {st : SortSt} {i : Nat}, SBase (pairsOf its) st -> i < (pairsOf its).size -> ∃ t p, t ∈ T /\ (arrOf st)[i]? = some (t.1, p) /\ kp (kfo T) [] (arrOf st) i = t.2.2:=fun {st i} B hi=>by
    have hi' : i < (arrOf st).size:=by rw [B.size]; exact hi
    have hm : (arrOf st)[i] ∈ (pairsOf its).toList:=(Array.perm_iff_toList_perm.mp B.perm).mem_iff.mp (by simp)
    rw [pairsOf_toList] at hm
    obtain ⟨t, ht, e⟩:=hitm _ (mem_zip_self hm).2
    have eg : (arrOf st)[i]? = some (arrOf st)[i]:=getElem?_pos _ i hi'
    refine ⟨t, (arrOf st)[i].2, ht, by rw [eg, e], ?_⟩
    unfold kp
    rw [eg, Option.map_some, Option.getD_some, ← e]
    exact CB huq ht
  have keys : ∀ {st : SortSt}, SBase (pairsOf its) st -> ((arrOf st).toList.map λp=>kfo T p.1).Perm as:=fun {st} B=>by
    have h1 : (arrOf st).toList.Perm (its.zip its):=by rw [← pairsOf_toList]; exact Array.perm_iff_toList_perm.mp B.perm
    have h2:=h1.map λp=>kfo T p.1
    have h3 : (its.zip its).map (λp=>kfo T p.1) = as:=by
      have : (its.zip its).map (λp=>kfo T p.1) = ((its.zip its).map Prod.fst).map (kfo T):=by rw [List.map_map]; rfl
      rw [this, List.map_fst_zip (Nat.le_refl _), ← e1, ← e3, List.map_map]
      exact List.map_congr_left λt ht=>CB huq ht
    rwa [h3] at h2
  have kat : ∀ {st : SortSt} {i : Nat} (hi : i < (arrOf st).size), kp (kfo T) [] (arrOf st) i = ((arrOf st).toList.map λp=>kfo T p.1)[i]'(by simpa using hi):=fun {st i} hi=>by
    unfold kp
    rw [getElem?_pos (arrOf st) i hi]
    simp
  have OL:=Kx O
  have LK : ∀ (A : Around) (Er : Value -> Shared -> Prop), A.units + (d + 1) < cLine -> Asks X.prog X.w A Er { s with heap:=mid g0 (s.heap.objs.size + 1) its } (ltG lt) (kfo T) [] (pairsOf its):=λA Er hA=>{
    irr:=OL.irr
    tr:=OL.tr
    ask:=fun {st i j Q} B hi hj qq=>by
      obtain ⟨t, p, ht, et, kt⟩:=key B hi
      obtain ⟨t', p', ht', et', kt'⟩:=key B hj
      rw [kt, kt'] at qq
      rw [ltAt'_eq]
      refine wpS_bind (wpS_get ?_)
      show wpS _ _ _ _ (elem' (arrOf st) i >>= λx=>elem' (arrOf st) j >>= λy=>lt' x y) Q st
      rw [elem'_eq, elem'_eq, et, et']
      refine wpS_bind (wpS_pure (wpS_bind (wpS_pure ?_)))
      rw [lt'_eq]
      refine wpS_bind (wpS_get ?_)
      rw [B.kind, keyLt'_oneType]
      refine wpS_bind (wpS_lift (wpAny_attempt ?_))
      rw [oneLt'_eq]
      simp only [if_true]
      obtain ⟨r1, l1⟩:=hT t ht
      obtain ⟨r2, l2⟩:=hT t' ht'
      obtain ⟨b1, b2, o1, o2, v1, v2, g1, c1, g2, c2, hcall⟩:=CS E L I2 (prog:=X.prog) (w:=X.w) (A:=A) (Er:=λe s'=>s' = ({ s with heap:=mid g0 (s.heap.objs.size + 1) its } : Shared) /\ wpS (model X.prog X.w) A Er { s with heap:=mid g0 (s.heap.objs.size + 1) its } _ Q st) r1 r2 l1 l2 hA (Q:=λv s'=>v = .bool (ltG lt t.2.2 t'.2.2) /\ s' = _) ⟨rfl, rfl⟩
      rw [v1, v2]
      refine wpAny_bind (wpAny_cRoomFor (by lia) (wpAny_bind (wpAny_callSpecialIfBound?_slot ⟨_, g1, c1⟩ F.slot_list_lt (thn hcall λv s' ⟨ev, es⟩=>?_))))
      subst ev es
      exact wpAny_truthy_bool ⟨rfl, wpS_pure qq⟩
    two:=fun {st i j} B hi hj hne=>by
      have hi' : i < (arrOf st).size:=by rw [B.size]; exact hi
      have hj' : j < (arrOf st).size:=by rw [B.size]; exact hj
      rw [kat hi', kat hj']
      refine OL.tot λe=>hne ?_
      have hN:=(keys B).nodup_iff.mpr hnd
      have hP:=List.pairwise_iff_getElem.mp hN
      rcases Nat.lt_trichotomy i j with z | z | z
      . exact absurd e (hP i j (by simpa using hi') (by simpa using hj') z)
      . exact z
      . exact absurd e.symm (hP j i (by simpa using hj') (by simpa using hi') z) }
  refine wpAny_bind (wpAny_holding (wpAny_call_entry slot_list_sort ⟨_, hoL, rfl⟩ entry_list_sort (Ii hoL (by lia) htyp (LK _ _ (by rw [YV, YV]; lia)) λout hp hr=>⟨_, rfl, wpAny_pure ⟨_, rfl, ?_⟩⟩) (args_list_sort _)))
  have hpl : out.toList.Perm (its.zip its):=by rw [← pairsOf_toList]; exact Array.perm_iff_toList_perm.mp hp
  have hself : ∀ p ∈ out.toList, p.1 = p.2:=λp hp'=>(mem_zip_self (hpl.mem_iff.mp hp')).1
  have hfst : out.toList.map (·.1) = (out.map (·.2)).toList:=by
    rw [Array.toList_map]; exact List.map_congr_left λp hp'=>hself p hp'
  have hperm : ((out.map (·.2)).toList).Perm its:=by
    have:=hpl.map Prod.fst
    rw [List.map_fst_zip (Nat.le_refl _)] at this
    rw [← hfst]; exact this
  obtain ⟨T', hT', eT'⟩:=Ke hperm (l:=T) (f:=(·.1)) e1.symm
  have hk2 : T'.map (·.2.2) = out.toList.map λp=>kfo T p.1:=by
    have h1 : T'.map (·.2.2) = (T'.map (·.1)).map (kfo T):=by
      rw [List.map_map]; exact List.map_congr_left λt ht=>(CB huq (hT'.mem_iff.mp ht)).symm
    rw [h1, eT', ← hfst, List.map_map]; rfl
  have hol : out.size = its.length:=by have:=hp.size_eq; rwa [pairsOf_size] at this
  have hsort : T'.map (·.2.2) = UM (ltG lt) as:=by
    refine Br OL hnd (by rw [← e3]; exact hT'.map _) ?_
    rw [hk2, List.pairwise_iff_getElem]
    intro i j hi hj hij
    have hi' : i < out.size:=by simpa using hi
    have hj' : j < out.size:=by simpa using hj
    have:=hr i j hij (by lia)
    unfold kp at this
    rw [getElem?_pos out i hi', getElem?_pos out j hj'] at this
    simpa using this
  have vv : ∀ {U : List (Value × V × List β)}, (∀ t ∈ U, X7 t.2.1 t.1) -> X5 (U.map (·.2.1)) (U.map (·.1)):=fun {U}=>by
    induction U with
    | nil=>intro _; exact .nil
    | cons t U ih=>intro h; exact .cons (h t Zq) (ih λu hu'=>h u (ZP _ hu'))
  obtain ⟨e, he⟩:=sortedAll_at s.heap its (out.map (·.2))
  have hfr : H (s.heap.objs.size + 1) = none:=I.hok.fresh (Nat.le_succ _)
  have hvv : X5 (T'.map (·.2.1)) (out.map (·.2)).toList:=by rw [← eT']; exact vv λt ht=>(hT t (hT'.mem_iff.mp ht)).1
  have hzl : (T'.map (·.2.1)).length = as.length:=by rw [List.length_map, hT'.length_eq, ← e3, List.length_map]
  refine ⟨.ref (s.heap.objs.size + 1), _, I.laid (t':=s.toks) (λb o e=>sortedAll_old e) (Nat.le_succ _) (show Zd X.prog X.w _ _ _ (.lst (T'.map (·.2.1))) from ⟨?_, (Array.map (λp : Keyed=>p.2) out).toList, e, hvv, he⟩), rfl, q _ _ hfr ?_ hzl⟩
  . rw [hzl, sizeLine_eq]; lia
  . rw [← hsort, ← e2]
    have : (T'.map (·.2.1)).zip (T'.map (·.2.2)) = T'.map λt=>(t.2.1, t.2.2):=by
      rw [List.zip_map']
    rw [this]
    exact hT'.map _
end
section
variable {X : Cx} {α : Type}
end
section
variable {K : Fgg} {Er : Exc -> Hp -> Prop} {S : SC} {OO OO' : List (List Xz)} {σ : St} {α β γ δ : Type}
theorem P3.tri {F : α -> β -> γ -> Prop} : ∀ {l m n}, P3 F l m n -> ∃ T : List (α × β × γ), T.map (·.1) = l /\ T.map (·.2.1) = m /\ T.map (·.2.2) = n /\ ∀ t ∈ T, F t.1 t.2.1 t.2.2:=λp=>by
  induction p with
  | nil=>exact ⟨[], rfl, rfl, rfl, λt h=>nomatch h⟩
  | cons r _ ih=>
    obtain ⟨T, e1, e2, e3, h⟩:=ih
    exact ⟨(_, _, _) :: T, by rw [List.map_cons, e1], by rw [List.map_cons, e2], by rw [List.map_cons, e3], λt ht=>(List.mem_cons.mp ht).elim (λz=>z ▸ r) (h t)⟩
theorem P3.oft {F : α -> β -> γ -> Prop} : ∀ {T : List (α × β × γ)}, (∀ t ∈ T, F t.1 t.2.1 t.2.2) -> P3 F (T.map (·.1)) (T.map (·.2.1)) (T.map (·.2.2)):=fun {T}=>by
  induction T with
  | nil=>intro _; exact .nil
  | cons t T ih=>intro h; exact .cons (h t Zq) (ih λu hu=>h u (ZP _ hu))
theorem HH {a a' : List α} {b b' : List β} (h : a.zip b = a'.zip b') (h1 : a.length = b.length) (h2 : a'.length = b'.length) : a = a' /\ b = b':=by
  have e1:=congrArg (List.map Prod.fst) h
  have e2:=congrArg (List.map Prod.snd) h
  rw [List.map_fst_zip (by lia), List.map_fst_zip (by lia)] at e1
  rw [List.map_snd_zip (by lia), List.map_snd_zip (by lia)] at e2
  exact ⟨e1, e2⟩
theorem P3.perm {F : α -> β -> γ -> Prop} {l zs : List α} {m bs : List β} {n : List γ} (p : P3 F l m n) (h : (zs.zip bs).Perm (l.zip m)) (hl : zs.length = bs.length) : ∃ n', P3 F zs bs n' /\ n'.Perm n:=by
  obtain ⟨T, e1, e2, e3, hT⟩:=p.tri
  have ez : T.map (λt=>(t.1, t.2.1)) = l.zip m:=by rw [← e1, ← e2, List.zip_map']
  obtain ⟨T', hp, e⟩:=Ke h ez.symm
  have : (T'.map (·.1)).zip (T'.map (·.2.1)) = zs.zip bs:=by rw [List.zip_map']; exact e
  obtain ⟨f1, f2⟩:=HH this (by simp) hl
  refine ⟨T'.map (·.2.2), ?_, by rw [← e3]; exact hp.map _⟩
  rw [← f1, ← f2]
  exact P3.oft λt ht=>hT t (hp.mem_iff.mp ht)
theorem BN [DecidableEq β] {r : Enc β} {lt : β -> β -> Bool} {o : OE (List β)} [z : MonoO o] [zf : FrzC o (rV r)] {te : TE} {m : Rs (List (List β))} (he : Ev K Er S OO OO' σ te (oL o) m) :
    Ev K Er S OO OO' σ (tCB (Et K r lt) (Xr te Zc)) (oL o) (m.bind λas=>chk (as.length < 64 /\ as.Nodup) (.ok (UM (ltG lt) as))):=λH Q w s P=>by
  refine he H _ w s ?_
  cases m with
  | bad=>exact P
  | err x=>exact P
  | ok as=>
    intro v C H1 s1 w1 m1 ⟨p, xs, Cs, e, q, c⟩
    subst c
    obtain ⟨⟨h64, hnd⟩, P⟩:=PZ.chk (show PZ Er (FO K OO OO' (oL o) Q) H (chk (as.length < 64 /\ as.Nodup) (.ok (UM (ltG lt) as))) from P)
    have hH : H1 p = some (.lst xs):=w1.cell (p, .lst xs) Zq
    refine ⟨p, xs, as, by rw [e], SqL.of hH, ?_, hnd, h64, λp2 zs hp2 hpm hlen=>?_⟩
    . refine q.pair λa b c hc ho=>LY (zf.frz ho Xv λx hx=>w1.cell x (ZP _ (List.mem_flatten.mpr ⟨c, hc, hx⟩)))
    . have hsl : (UM (ltG lt) as).length = as.length := (Qs _ as).length_eq
      obtain ⟨Cs', q', hCs⟩:=q.perm hpm (by rw [hsl]; exact hlen)
      have w2 : W (Cs'.flatten :: OO') H1:=w1.sub (OO':=Cs.flatten :: OO') (by simp) |>.of (by simp only [List.flatten_cons]; exact hCs.flatten.append_right _)
      have w3:=w2.new hp2 (o:=.lst zs) rfl
      have w4 : W (((p2, .lst zs) :: Cs'.flatten) :: OO') (upd H1 p2 (.lst zs)):=w3.of (by simp)
      have mm : Xp (hid H1 (((p, HO.lst xs) :: Cs.flatten) :: OO')) (hid (upd H1 p2 (.lst zs)) (((p2, HO.lst zs) :: Cs'.flatten) :: OO')):=λb ob hb=>by
        obtain ⟨b1, b2⟩:=X6 hb
        have hne : b ≠ p2:=XL b1 hp2
        refine Y9 (by rw [XI hne]; exact b1) λhz=>b2 ?_
        rw [XU, List.map_cons] at hz ⊢
        rcases List.mem_cons.mp hz with y | y
        . exact absurd y hne
        . refine ZP _ ?_
          rcases List.mem_append.mp y with y | y
          . exact List.mem_append_left _ ((hCs.flatten.map _).mem_iff.mp y)
          . exact List.mem_append_right _ y
      exact P (.ref p2) _ _ (s1.trans (XE hp2 _)) w4 (m1.trans mm) ⟨p2, zs, Cs', rfl, q'.imp λ_ _ _ h=>z.mono mm h, rfl⟩
theorem Hz {o : OE α} {r : Enc α} [z : MonoO o] [zf : FrzC o r] [zr : MonoE r] {tt : TT} {c : α -> Rs Bool} {v : V} {as : List α} {C : List Xz} {n : Nat} {caps : List (Nat × Str)} (i k : Nat) (hn : 0 < n) (hσ : σ[i]? = some (some v)) (hk : OO[k]? = some C) (h : ∀ x, S.p x -> oL o K x v as C)
    (hc : ∀ (D : List Xz) a u, EvT Er (S.add K r u a) (D :: OO.set k []) ((YI n caps σ).set 0 (some u)) tt (c a)) :
    Ev K Er S OO (OO.set k []) σ (KC n caps (F1 K (UX i)) (QP 0) tt (UX 0)) (oL o) ((Rs.ok as).bind λas=>Bl as c λa=>.ok a):=λH Q w s P=>by
  obtain ⟨p, xs, Cs, e, q, cc⟩:=h _ s
  subst cc e
  obtain ⟨hsz, P⟩:=PZ.chk (show PZ Er (FO K OO (OO.set k []) (oL o) Q) H (chk (as.length <= sizeLine) (VE as c λa=>.ok a)) from P)
  have pm:=XW hk
  have hH : H p = some (.lst xs):=w.tr (p, .lst xs) (List.mem_flatten.mpr ⟨_, List.mem_of_getElem? hk, Zq⟩)
  have hxl:=q.len.1
  have w1 : W (((p, .lst xs) :: Cs.flatten) :: OO.set k []) H:=w.of pm
  have nd1:=w1.nd
  rw [XU] at nd1
  have hm0 : ∀ {H2}, Xp H H2 -> Xp (hid H OO) (hid H2 ([] :: OO.set k [])):=fun {H2} s2=>by
    rw [YC, ← XN pm]
    exact Zg s2 λb hb=>by rw [XU]; exact List.mem_append_right _ hb
  refine ⟨.ref p, hσ, p, rfl, ⟨xs, SqL.of hH⟩, ?_⟩
  refine Bd (xs:=xs) (λi ys H2=>∃ bs Ds, Xp H H2 /\ P3 (o K (hid H OO)) ys bs Ds /\ Ds.flatten.Sublist (Cs.take i).flatten /\ bs.length <= i /\ i <= as.length /\ PZ Er (FO K OO (OO.set k []) (oL o) Q) H ((VE (as.drop i) c λa=>.ok a).bind λZk=>.ok (bs ++ Zk))) ?_ ?_ ?_ ?_
  . refine ⟨[], [], Xp.refl _, .nil, by simp, Nat.le_refl _, Nat.zero_le _, ?_⟩
    rw [List.drop_zero]
    revert P
    cases VE as c (λa=>Rs.ok a) <;> exact λz=>z
  . rintro i ys H2 hi ⟨bs, Ds, s2, q2, _, hb, hi2, _⟩
    exact ⟨SqL.of (s2 _ _ hH), by rw [q2.len.1]; lia⟩
  . rintro i x ys H2 hx ⟨bs, Ds, s2, q2, sb, hb, hi2, P2⟩
    have hlt : i < as.length:=by rw [← hxl]; exact (List.getElem?_eq_some_iff.mp hx).1
    obtain ⟨x', c0, hx', hc0, ho⟩:=P3.get q (show as[i]? = some as[i] by simp [hlt])
    rw [hx] at hx'
    cases hx'
    have hcl:=(List.getElem?_eq_some_iff.mp hc0)
    have hin : ∀ y ∈ c0, y ∈ Cs.flatten:=λy hy=>List.mem_flatten.mpr ⟨c0, List.mem_of_getElem? hc0, hy⟩
    have rx : r K (hid H2 ([] :: OO.set k [])) x as[i]:=zf.frz ho (hm0 s2) λy hy=>by
      have hy1:=w1.cell y (ZP _ (hin y hy))
      rw [YC]
      refine Y9 (s2 _ _ hy1) λhz=>?_
      exact (List.nodup_append.mp nd1).2.2 y.1 (List.mem_map.mpr ⟨y, ZP _ (hin y hy), rfl⟩) y.1 hz rfl
    rw [List.drop_eq_getElem_cons hlt] at P2
    have P3' : PZ Er (FO K OO (OO.set k []) (oL o) Q) H ((c as[i]).bind λb=>(if b = true then (Rs.ok as[i]).bind λb=>(VE (as.drop (i + 1)) c λa=>.ok a).bind λbs=>.ok (b :: bs) else VE (as.drop (i + 1)) c λa=>.ok a).bind λZk=>.ok (bs ++ Zk)):=by
      rw [← XQ]; exact P2
    refine hc [] as[i] x H2 _ ((w1.tail.keep s2).nil) ⟨S.mono _ _ (hm0 s2) s, rx⟩ ?_
    cases ec : c as[i] with
    | bad=>rw [ec] at P3'; exact P3'
    | err ex=>rw [ec] at P3'; exact λH4 s4=>P3' H4 (s2.trans s4)
    | ok b=>
      rw [ec] at P3'
      intro H4 s4
      have tk : (Cs.take (i + 1)).flatten = (Cs.take i).flatten ++ c0:=by
        rw [List.take_succ_eq_append_getElem hcl.1, List.flatten_append, hcl.2]; simp
      cases b with
      | false=>
        refine ⟨bs, Ds, s2.trans s4, q2, sb.trans ?_, Nat.le_succ_of_le hb, hlt, P3'⟩
        rw [tk]; exact List.sublist_append_left _ _
      | true=>
        rw [if_pos rfl]
        refine ⟨x, ?_, bs ++ [as[i]], Ds ++ [c0], s2.trans s4, q2.snoc ho, ?_, by simp; lia, hlt, ?_⟩
        . unfold YI
          rw [List.getElem?_set_self (by simp; lia)]
        . rw [tk, List.flatten_append]
          exact sb.append (by simp)
        . have : ((VE (as.drop (i + 1)) c λa=>Rs.ok a).bind λZk=>Rs.ok ((bs ++ [as[i]]) ++ Zk)) = ((Rs.ok as[i]).bind λb=>(VE (as.drop (i + 1)) c λa=>.ok a).bind λbs=>.ok (b :: bs)).bind λZk=>.ok (bs ++ Zk):=by
            rw [XQ, Rs.ok_bind, XQ]; congr 1; funext Zk; rw [Rs.ok_bind, List.append_assoc]; rfl
          rw [this]; exact P3'
  . rintro ys H2 p2 ⟨bs, Ds, s2, q2, sb, hb, hi2, P2⟩ hp2
    rw [hxl, List.drop_length] at P2
    have P2 : FO K OO (OO.set k []) (oL o) Q bs H:=by
      have e : ((VE ([] : List α) c λa=>Rs.ok a).bind λZk=>Rs.ok (bs ++ Zk)) = .ok bs:=by show Rs.ok (bs ++ []) = _; rw [List.append_nil]
      rw [e] at P2; exact P2
    have sb2 : Ds.flatten.Sublist Cs.flatten:=sb.trans (by
      rw [List.take_of_length_le (by rw [hxl, ← q.len.2]; exact Nat.le_refl _)]
      exact List.Sublist.refl _)
    have w2 : W (Ds.flatten :: OO.set k []) H2:=(w1.keep s2).sub (by
      simp only [List.flatten_cons, List.cons_append]
      exact (sb2.append_right _).trans (List.sublist_cons_self ..))
    have w3:=w2.new hp2 (o:=.lst ys) rfl
    have w4 : W (((p2, .lst ys) :: Ds.flatten) :: OO.set k []) (upd H2 p2 (.lst ys)):=w3.of (by simp)
    have mm : Xp (hid H OO) (hid (upd H2 p2 (.lst ys)) (((p2, HO.lst ys) :: Ds.flatten) :: OO.set k [])):=λb ob hb=>by
      rw [← XN pm] at hb
      obtain ⟨b1, b2⟩:=X6 hb
      have b3:=s2 _ _ b1
      have hne : b ≠ p2:=XL b3 hp2
      refine Y9 (by rw [XI hne]; exact b3) λhz=>b2 ?_
      rw [XU, List.map_cons] at hz ⊢
      rcases List.mem_cons.mp hz with y | y
      . exact absurd y hne
      . refine ZP _ ?_
        rcases List.mem_append.mp y with y | y
        . exact List.mem_append_left _ ((sb2.map _).mem y)
        . exact List.mem_append_right _ y
    exact P2 (.ref p2) _ _ (s2.trans (XE hp2 _)) w4 mm ⟨p2, ys, Ds, rfl, q2.imp λ_ _ _ hh=>z.mono mm hh, rfl⟩
end
section
variable {K : Fgg} {Er : Exc -> Hp -> Prop} {S : SC} {OO OO' : List (List Xz)} {σ : St} {α β : Type} {u : TS} {Fd : Ends -> β -> Hp -> Prop} [fd : FdOk Fd]
theorem Lz : LtOk (rV Xa) (ltG ltI) 1:=LtOk.imp (Ed eq_int lt_int) LY
end
section
variable {K : Fgg} {Er : Exc -> Hp -> Prop} {S : SC} {OO OO' : List (List Xz)} {σ : St} {α1 α2 β ρ : Type} {u : TS}
def Mz (K : Fgg) (o : OE ρ) (Cf : List Xz) (Q : VK) (b : ρ) (h : Hp) : Prop:=∀ v C H', W [C ++ Cf] H' -> Xp h (hid H' [C ++ Cf]) -> o K (hid H' [C ++ Cf]) v b C -> Q v H'
def M3 (K : Fgg) (o : OE ρ) (k : Nat) (Cf : List Xz) (D : Ends) (b : ρ) (h : Hp) : Prop:=∀ v C OO' H', OO'[k]? = some Cf -> W (C :: OO') H' -> Xp h (hid H' (C :: OO')) -> o K (hid H' (C :: OO')) v b C -> D.rt v H'
instance {o : OE ρ} {k : Nat} {Cf : List Xz} : FdOk (M3 K o k Cf):=⟨λD b h h' s q v C O H' e w m x=>q v C O H' e w (s.trans m) x⟩
def ML (r1 : Enc α1) (o : OE ρ) (f : α1 -> Rs ρ) (K : Fgg) : Sp:=λvs H Q _=>∃ v1 a1 b, vs = [v1] /\ ∃ Cf, W [Cf] H /\ r1 K (hid H [Cf]) v1 a1 /\ f a1 = .ok b /\ Mz K o Cf Q b (hid H [Cf])
def MM (r1 : Enc α1) (r2 : Enc α2) (o : OE ρ) (f : α1 -> α2 -> Rs ρ) (K : Fgg) : Sp:=λvs H Q _=>∃ v1 v2 a1 a2 b, vs = [v1, v2] /\ ∃ Cf, W [Cf] H /\ r1 K (hid H [Cf]) v1 a1 /\ r2 K (hid H [Cf]) v2 a2 /\ f a1 a2 = .ok b /\ Mz K o Cf Q b (hid H [Cf])
theorem GJ {te : TE} {o : OE ρ} {m : Rs ρ} {Cf : List Xz} (k : Nat) (hk : OO'[k]? = some Cf) (he : Ev K Er S OO OO' σ te o m) : Sv Er S OO σ (Jb (MS te) u) (M3 K o k Cf) m:=λH D w s P=>
  he H _ w s (by
    cases m with
    | bad=>exact P
    | err x=>exact λH' s'=>P H' (Xv.trans s')
    | ok a=>exact λv C H' s' w' m' ho=>P v C OO' H' hk w' m' ho)
theorem ET {o : OE ρ} [zo : MonoO o] {t : TS} {m : Rs ρ} {Q : VK} {b : ρ} {H : Hp} {D : Ends} {Cf : List Xz} (n : Nat) (h : Sv (λ_ _=>False) S (List.replicate n [] ++ [Cf]) σ t (M3 K o n Cf) m) (w : W [Cf] H) (hs : S.p (hid H [Cf])) (hm : m = .ok b) (qf : Mz K o Cf Q b (hid H [Cf])) (hD : D.rt = Q) : t D σ H:=by
  have pe : (List.replicate n ([] : List Xz) ++ [Cf]).flatten.Perm [Cf].flatten:=by
    rw [List.flatten_append, Yj, List.nil_append]
  refine h H D (w.of pe) (by rw [XN pe]; exact hs) ?_
  subst hm
  rw [XN pe]
  intro v C OO' H' hk w' m' ho
  rw [hD]
  have hp:=XW hk
  have wk : W (C :: Cf :: OO'.set n []) H':=w'.of (by rw [List.flatten_cons, List.flatten_cons (l:=C)]; exact hp.append_left C)
  have eh : hid H' (C :: OO') = hid H' (C :: Cf :: OO'.set n []):=(XN (by rw [List.flatten_cons, List.flatten_cons (l:=C)]; exact hp.append_left C)).symm
  have hsub : Xp (hid H' (C :: OO')) (hid H' [C ++ Cf]):=by
    rw [eh]
    exact Zg (Xp.refl _) λb hb=>by
      rw [XU, XU, ← List.append_assoc]
      refine List.mem_append_left _ ?_
      simpa [fl] using hb
  exact qf v C H' (wk.sub (by simp)) (m'.trans hsub) (zo.mono hsub ho)
theorem L6 {o : OE ρ} {Q : VK} {b : ρ} {H : Hp} (w : W OO H) (P : FO K OO OO o Q b H) : Mz K o OO.flatten Q b (hid H OO):=λv C H' w' m' ho=>by
  have e1 : ([C ++ OO.flatten] : List (List Xz)).flatten = (C :: OO).flatten:=by simp
  have e2 : hid H' [C ++ OO.flatten] = hid H' (C :: OO):=by unfold hid fl; rw [e1]
  rw [e2] at m' ho
  have w2 : W (C :: OO) H':=w'.of (by rw [e1])
  refine P v C H' (λx ob hx=>?_) w2 m' ho
  by_cases hb : x ∈ fl OO
  . obtain ⟨oo, hoo⟩ := Ft hb
    have h1:=w.tr _ hoo
    rw [hx] at h1
    cases h1
    exact w2.tail.tr _ hoo
  . exact (X6 (m' _ _ (Y9 hx hb))).1
theorem F9 {H : Hp} : hid H [OO.flatten] = hid H OO:=by unfold hid fl; rw [show ([OO.flatten] : List (List Xz)).flatten = OO.flatten by simp]
theorem W.one {H : Hp} (w : W OO H) : W [OO.flatten] H:=w.of (by simp)
theorem D0 {ta : TE} {r1 : Enc α1} [MonoE r1] {o : OE ρ} {f : α1 -> Rs ρ} {ma : Rs α1} (ha : EvS K Er S OO σ ta r1 ma) : Ev K Er S OO OO σ (QM (ML r1 o f K) [] E0 (Xr ta Zc)) o (ma.bind λa=>noE (f a)):=λH Q w s P=>
  ha.run w s FO.tr P λa x H1 s1 w1 q1 r1 P1=>by
    obtain ⟨b, hb, P2⟩:=P1.okOf λx=>V9
    exact ⟨x, a, b, rfl, OO.flatten, w1.one, by rw [F9]; exact r1, VW hb, by rw [F9]; exact L6 w1 P2⟩
theorem CC {ta tb : TE} {r1 : Enc α1} {r2 : Enc α2} [z1 : MonoE r1] [MonoE r2] {o : OE ρ} {f : α1 -> α2 -> Rs ρ} {ma : Rs α1} {mb : Rs α2} (ha : EvS K Er S OO σ ta r1 ma) (hb : EvS K Er S OO σ tb r2 mb) :
    Ev K Er S OO OO σ (QM (MM r1 r2 o f K) [] E0 (Xr ta (Xr tb Zc))) o (ma.bind λa=>mb.bind λb=>noE (f a b)):=λH Q w s P=>
  ha.run w s FO.tr P λa x H1 s1 w1 q1 r1 P1=>hb.run w1 q1 FO.tr P1 λb y H2 s2 w2 q2 r2 P2=>by
    obtain ⟨c, hc, P3⟩:=P2.okOf λx=>V9
    exact ⟨x, y, a, b, c, rfl, OO.flatten, w2.one, by rw [F9]; exact z1.mono (Xj s2) r1, by rw [F9]; exact r2, VW hc, by rw [F9]; exact L6 w2 P3⟩
end
section
variable {K : Fgg} {Er : Exc -> Hp -> Prop} {S : SC} {OO OO' : List (List Xz)} {σ : St} {α α2 β γ ρ : Type}
variable {Fd : Ends -> β -> Hp -> Prop} [fd : FdOk Fd] {u : TS}
end
section
variable {prog : Program} {w : World} {A : Around} {E : Value -> Shared -> Prop} {s : Shared}
theorem Ek {R : Result -> Shared -> Prop} {I l S : Addr} {items : List Value} {ns : List Int} (hh : A.in1.handled = none) (hi : IntsAre items ns) (hb : ns.length + 1 < scanBound) (h1 : S ≠ I) (h2 : S ≠ l) (h3 : l ≠ I) :
    ∀ (k i : Nat) (s : Shared), items.length - i = k -> i <= items.length -> s.heap.IsTupleIter I l i -> s.heap.IsTuple l items.toArray -> UN prog w s.heap S (dd (ns.take i)) ->
      (∀ h' tk, UN prog w h' S (dd ns) -> (∀ b o, b ≠ S -> b ≠ I -> s.heap.get? b = some o -> h'.get? b = some o) -> R (.ok (.ret .none)) { s with heap:=h', toks:=tk }) ->
      codeAny (model prog w) A (.builtin "set.update.loop" ⟨[.ref S, .ref I], []⟩) R s:=by
  have hln:=IntsAre.length hi
  intro k
  induction k with
  | zero=>
    intro i s hk hle hit hl hS hR
    have e : i = items.length:=by lia
    subst e
    refine codeAny_builtin PyProof.Rows.F.entry_set_update_loop ?_
    rw [Around.under_plainId PyProof.Rows.F.plain_set_update_loop _]
    show wpAny _ A.in1 (pyNext (.ref I) >>= _) _ _ s
    refine wpAny_bind (wpAny_pyNext_tuple_end hh hit hl (by simp) λh' ext=>?_)
    show wpAny _ A.in1 (ret Value.none) _ _ _
    rw [List.take_of_length_le (by lia)] at hS
    exact wpAny_pure (hR h' _ (hS.at λo ho=>ext S o h1 ho) λb o _ hbI e=>ext b o hbI e)
  | succ k ih=>
    intro i s hk hle hit hl hS hR
    have hlt : i < items.length:=by lia
    obtain ⟨tk, ev⟩:=IntsAre.int_at hi i items[i] (List.getElem?_eq_getElem hlt)
    have hi2 : i < ns.length:=by lia
    have eg : ns.getD i 0 = ns[i]:=by simp [hi2]
    rw [eg] at ev
    refine codeAny_builtin PyProof.Rows.F.entry_set_update_loop ?_
    rw [Around.under_plainId PyProof.Rows.F.plain_set_update_loop _]
    show wpAny _ A.in1 (pyNext (.ref I) >>= _) _ _ s
    refine wpAny_bind (wpAny_pyNext_tuple_item hit hl (x:=items[i]) (by simp [hlt]) λh' hit' sb=>?_)
    rw [ev]
    show wpAny _ A.in1 (holding [Value.int ns[i] tk] (setAdd S (.int ns[i] tk)) >>= _) _ _ _
    refine wpAny_bind (wpAny_holding ?_)
    unfold setAdd
    refine wpAny_holding (wpAny_bind ((intKind prog w).pyHash (k:=ns[i]) (intKind_is _ _ _ _) ?_))
    have hS' : UN prog w h' S (dd (ns.take i)):=hS.at λo ho=>(sb.2 S h1).trans ho
    refine HJ (s:={ s with heap:=h', toks:=s.toks + 1 }) hS' (by have:=Kd (ns.take i); rw [List.length_take] at this; lia) λb h2' sb2 hS2=>?_
    rw [← Hy, ← List.take_succ_eq_append_getElem hi2] at hS2
    refine wpAny_pure ⟨plainId_quiet PyProof.Rows.F.plain_set_update_loop _, ih (i + 1) _ (by lia) hlt (hit'.at λo ho=>(sb2.2 I (Ne.symm h1)).trans ho) (hl.at λo ho=>(sb2.2 l (Ne.symm h2)).trans ((sb.2 l h3).trans ho)) hS2 λh3' tk' hS3 keep=>?_⟩
    exact hR h3' tk' hS3 λb o hbS hbI e=>keep b o hbS hbI ((sb2.2 b hbS).trans ((sb.2 b hbI).trans e))
set_option maxHeartbeats 3200000 in
theorem CJ {l : Addr} {items : List Value} {ns : List Int} {Q : Value -> Shared -> Prop} (hh : A.handled = none) (hl : s.heap.IsTuple l items.toArray) (hi : IntsAre items ns) (hb : ns.length + 1 < scanBound)
    (h : ∀ h' tk, UN prog w h' s.heap.objs.size (dd ns) -> (∀ b o, s.heap.get? b = some o -> h'.get? b = some o) -> Q (.ref s.heap.objs.size) { s with heap:=h', toks:=tk }) :
    wpAny (model prog w) A (call (.type "set") [.ref l]) Q E s:=by
  obtain ⟨c, tl, hmro⟩:=F.called_set.mro
  have hmade:=F.called_set.made
  have hsub:=F.called_set.sub
  refine wpAny_call (codeAny_of_tree ?_)
  show wpAny _ _ (callAny (.type "set") _) _ _ _
  refine wpAny_pure ⟨Code.quiet_builtin _ (by decide +kernel), codeAny_builtin F.entry_type_call ?_⟩
  rw [Around.under_plain (weight_type_call_type "set" [.ref l] []) rfl]
  have h1:=F.called_set.notType
  have h2:=F.called_set.canCreate
  have hct:=F.typeCall_set_1 (.ref l)
  repeat (any_goals (first | assumption | wp_step))
  generalize hob : ({ cls:=.type "set", dict:=none, data:=.set #[] 0 (.fresh 0 0 (!w.params.followText "set-order")) } : Obj) = ob
  refine codeAny_mono (BL (.ref l) (E:=E) (Q:=λobj s₁=>obj = .ref s.heap.objs.size /\ s₁ = { s with heap:=s.heap.push ob }) ⟨rfl, by rw [hob]⟩) λr s₁ hr=>?_
  cases r with
  | error e=>exact hr
  | ok fl=>
    cases fl with
    | ret obj=>
      obtain ⟨rfl, rfl⟩:=hr
      have hS : (s.heap.push ob).get? s.heap.objs.size = some ob:=Heap.get?_push_size _ (by rw [← hob]; rfl)
      have hT : Shared.TypeIs { s with heap:=s.heap.push ob } (.ref s.heap.objs.size) "set":=⟨_, hS, by rw [← hob]⟩
      have hli:=F.called_set.init.lookup
      have hbi:=F.called_set.init.bind (.ref s.heap.objs.size)
      repeat (any_goals (first | assumption | wp_step))
      refine codeAny_mono (codeAny_call_builtin (R:=wants (λr s₂=>r = .none /\ ∃ h' tk, s₂ = { s with heap:=h', toks:=tk } /\ UN prog w h' s.heap.objs.size (dd ns) /\ (∀ b o, s.heap.get? b = some o -> h'.get? b = some o)) E) F.called_set.init.plain F.entry_set_init (check_set_init_1 hT ?_)) λr₂ s₂ hr₂=>?_
      . have hS0 : UN prog w (s.heap.push ob) s.heap.objs.size [] := ⟨_, #[], 0, _, hS, by rw [← hob]; exact ⟨rfl, rfl, rfl⟩, by rw [← hob], ⟨λe he => by simp at he, ⟨[], .nil, .refl _⟩, by decide, by rfl, .fresh ..⟩⟩
        obtain ⟨ol, hol, hcl, nl, hdl⟩:=hl
        obtain ⟨ocls, odict, odata, oslots⟩:=ol
        simp only at hcl hdl
        subst hcl; subst hdl
        have hol' : (s.heap.push ob).get? l = some { cls:=.type "tuple", dict:=odict, data:=.seq items.toArray nl, slots:=oslots }:=Qp _ hol
        have hsls:=F.sub_tuple_set
        have hslf:=F.sub_tuple_frozenset
        have hne : (Value.type "tuple" == Value.type "dict") = false:=by decide
        have hl1 : (s.heap.push ob).IsTuple l items.toArray:=⟨_, hol', rfl, nl, rfl⟩
        subst hob
        unfold Builtin.«set.__init__» noKeywords Builtin.Frozenset.updateFrom
        generalize hPI : pyIter = PI
        wp_walk
        subst hPI
        refine wpAny_pyIter_tuple hl1 ?_
        refine wpAny_bind (wpAny_runValue ?_)
        have hlS : l < s.heap.objs.size:=Heap.lt_size hol
        generalize hob : ({ cls:=.type "set", dict:=none, data:=.set #[] 0 (.fresh 0 0 (!w.params.followText "set-order")) } : Obj) = ob at *
        have hI : (s.heap.push ob).objs.size = s.heap.objs.size + 1:=Heap.size_push ..
        refine Ek (ns:=ns) (l:=l) (by simp [hh]) hi hb (by rw [hI]; exact Nat.ne_of_lt (Nat.lt_succ_self _)) (Nat.ne_of_gt hlS) (by rw [hI]; exact Nat.ne_of_lt (Nat.lt_succ_of_lt hlS)) (items.length - 0) 0 _ rfl (Nat.zero_le _)
          ⟨_, Heap.get?_push_size _ rfl, rfl, rfl⟩ (hl1.push _) (hS0.at λo ho=>Qp _ ho) λh' tk hS' keep=>?_
        show wpAny _ _ _ _ _ _
        refine wpAny_pure ?_
        show wpAny _ _ (ret Value.none) _ _ _
        exact wpAny_pure ⟨rfl, h', tk, rfl, hS', λb o e=>keep b o (Nat.ne_of_lt (Heap.lt_size e)) (by rw [hI]; exact Nat.ne_of_lt (Nat.lt_succ_of_lt (Heap.lt_size e))) (Qp _ (Qp _ e))⟩
      . cases r₂ with
        | error e=>exact hr₂
        | ok fl₂=>
          cases fl₂ with
          | ret r=>
            obtain ⟨rfl, h', tk, rfl, hS', hk'⟩:=hr₂
            repeat (any_goals (first | assumption | wp_step))
            exact h _ _ hS' hk'
          | _=>exact hr₂.elim
    | _=>exact hr.elim
end
section
variable {X : Cx}
def Da (K : Fgg) (P : Program) (w : World) : List V -> Hp -> VK -> Prop:=λxs H Q=>∃ l ns, xs = [.ref l] /\ SqT K H l (ns.map V.int) /\ ns.length < 64 /\ ∀ p, H p = none -> Q (.ref p) (upd H p (Mx P w p (dd ns)))
theorem KN (K : Fgg) (hK : X.K = K) (hc : X.calm = true) : Qf X (.type "set") (Da K X.prog X.w):=by
  subst hK
  intro pins s σ H xs us Q I r h
  obtain ⟨l, ns, rfl, hq, h64, q⟩:=h
  obtain ⟨u, rfl, ru⟩:=VL r
  cases ru
  obtain ⟨its, rv, pl, hz⟩:=I.tuple hq
  refine CJ (I.ok.hd hc) pl (Ej rv) (by have : scanBound = 4096:=rfl; lia) λh' tk hS old=>?_
  have hfr : H s.heap.objs.size = none:=I.hok.fresh (Nat.le_refl _)
  refine ⟨.ref s.heap.objs.size, _, I.laid (t':=tk) old (Nat.le_refl _) (show Zd X.prog X.w _ _ _ (Mx X.prog X.w s.heap.objs.size (dd ns)) from ⟨hS, ?_, λh1 h2 x k=>x.at k⟩), rfl, q _ hfr⟩
  obtain ⟨o, _, _, _, ho, _⟩:=hS
  exact ⟨o, ho⟩
def Lj (P : Program) (w : World) : List V -> Hp -> VK -> Prop:=λxs H Q=>∃ l ns, xs = [.ref l] /\ H l = some (Mx P w l ns) /\ ns.length < 64 /\ Q (.int ns.length) H
theorem Uw : Qf X (.builtin "len") (Lj X.prog X.w):=by
  intro pins s σ H xs us Q I r h
  obtain ⟨l, ns, rfl, he, h64, q⟩:=h
  obtain ⟨u, rfl, ru⟩:=VL r
  cases ru
  have hS : UN X.prog X.w s.heap l ns:=(show Zd X.prog X.w H s.heap l (Mx X.prog X.w l ns) from I.hok l _ he).1
  obtain ⟨o, es, ep, t, ho, hex, hd, c⟩:=hS
  have hl:=c.len
  exact call_len_set ho hex hd c.fit (by lia) ⟨.int ns.length, H, I.tok _, ⟨_, by rw [hl]⟩, q⟩
def IR (K : Fgg) : List V -> Hp -> VK -> Prop:=λxs H Q=>∃ (a : Addr) (bs : List Bool), xs = [.ref a] /\ SqL K H a (bs.map V.bl) /\ Q (.bl (bs.any id)) H
theorem LV (bs : List Bool) : ((List.range bs.length).any λi=>(bs[i]?).getD true) = bs.any id:=by
  rw [Bool.eq_iff_iff, List.any_eq_true, List.any_eq_true]
  constructor
  . rintro ⟨i, hi, h⟩
    have hi':=List.mem_range.mp hi
    exact ⟨bs[i], List.getElem_mem hi', by simpa [List.getElem?_eq_getElem hi'] using h⟩
  . rintro ⟨b, hb, h⟩
    obtain ⟨i, hi, rfl⟩:=List.getElem_of_mem hb
    exact ⟨i, List.mem_range.mpr hi, by simpa [List.getElem?_eq_getElem hi] using h⟩
theorem DT (hc : X.calm = true) : Qf X (.builtin "any") (IR X.K):=by
  intro pins s σ H xs us Q I r h
  obtain ⟨a, bs, rfl, hq, q⟩:=h
  obtain ⟨u, rfl, ru⟩:=VL r
  cases ru
  obtain ⟨its, rv, pl, hz⟩:=I.list hq
  have hlen : bs.length = its.length:=by have:=rv.length; rwa [List.length_map] at this
  have hlt : a < s.heap.objs.size:=by obtain ⟨o, n, ho, _⟩:=pl; exact Heap.lt_size ho
  refine call_any_walk (wpAny_pyIter_list pl.isList ?_)
  refine ⟨s.heap.objs.size, [s.heap.objs.size, a], [s.heap.objs.size], its.toArray.size, _, _, λi=>(bs[i]?).getD true, rfl, Walks.list (A:=X.A.in1) (I.ok.hd hc) _ a (Nat.ne_of_lt hlt) its.toArray,
    ⟨⟨_, Heap.get?_push_size _ rfl, rfl, rfl⟩, pl.isList.at λo e=>Qp _ e⟩, λi v s' Q' E' hP hQ=>?_, λh' tk hk=>?_⟩
  . have hv' : its[i]? = some v := by simpa using hP
    obtain ⟨x, ex, rx⟩:=GB rv hv'
    rw [List.getElem?_map] at ex
    cases e : bs[i]? with
    | none=>rw [e] at ex; cases ex
    | some z=>
      rw [e] at ex
      have ex' : V.bl z = x:=Option.some.inj ex
      subst ex'
      cases rx
      simp only [e, Option.getD_some] at hQ
      exact wpAny_truthy_bool hQ
  . have e : ((List.range its.toArray.size).any λi=>(bs[i]?).getD true) = bs.any id:=by
      rw [List.size_toArray, ← hlen]; exact LV bs
    rw [e]
    have I2 : Inv X pins σ H { s with heap:=h', toks:=tk }:=I.kept (t':=tk) λb o e=>hk b o (λhm=>by
      rw [List.mem_singleton.mp hm] at e
      exact absurd (Heap.lt_size e) (Nat.lt_irrefl _)) (Qp _ e)
    exact ⟨.bl (bs.any id), H, I2, rfl, q⟩
end
section
variable {K : Fgg} {Er : Exc -> Hp -> Prop} {S : SC} {OO OO' : List (List Xz)} {σ : St} {α β γ : Type}
theorem GC {P : Program} {w0 : World} {ta : TE} {ma : Rs (List Int)} (ha : EvB K Er S OO σ ta (rPL Xa) ma) : EvB K Er S OO σ (tCB (Lj P w0) (Xr (tCB (Da K P w0) (Xr ta Zc)) Zc)) Xa (ma.bind λas=>chk (as.length < 64) (.ok ((dd as).length : Int))):=λH Q w s Pz=>
  ha.run w s FB.tr Pz λas x H1 s1 w1 q1 ⟨p, xs, e, q, pr⟩ P1=>by
    obtain ⟨hl, P2⟩:=PZ.chk P1
    have P3 : FB K Xa Q ((dd as).length : Int) H1:=P2
    refine ⟨p, as, by rw [e], SqT.of (by rw [← US pr]; exact q), hl, λS hS=>?_⟩
    exact ⟨S, dd as, rfl, Yp, Nat.lt_of_le_of_lt (Kd as) hl, P3 _ _ (XE hS _) rfl⟩
theorem HY {ta : TE} {ma : Rs (List Bool)} (ha : EvB K Er S OO σ ta (rV XR) ma) : EvB K Er S OO σ (tCB (IR K) (Xr ta Zc)) XR (ma.bind λa=>.ok (a.any id)):=λH Q w s P=>
  ha.run w s FB.tr P λa x H1 s1 w1 q1 r9 P1=>by obtain ⟨p, xs, e, q, pr⟩:=r9; exact ⟨p, a, by rw [e], by rw [← Qi pr]; exact SqL.of q, P1 _ H1 (Xp.refl _) rfl⟩
theorem Iq {te : TE} {o1 : OE α} {o2 : OE γ} [z : MonoO o2] {m : Rs (α × γ)} (he : Ev K Er S OO OO' σ te (oT2 o1 o2) m) : Ev K Er S OO OO' σ (tOp (Bn K) te (tC (.int 1))) o2 (m.bind λp=>.ok p.2):=λH Q w s P=>by
  refine he H _ w s ?_
  cases m with
  | bad=>exact P
  | err x=>exact P
  | ok a=>
    intro v C H1 s1 w1 m1 ⟨p, x', y, C1, C2, e, q, h1, h2, c⟩
    subst c
    have hs : Xp (hid H1 ((C1 ++ C2) :: OO')) (hid H1 (C2 :: OO')):=Zg (Xp.refl _) λb hb=>by
      rw [XU] at hb ⊢
      rw [List.map_append, List.append_assoc]
      exact List.mem_append_right _ hb
    have P2 : FO K OO OO' o2 Q a.2 H:=P
    refine ⟨p, _, 1, y, e, rfl, SqT.of (Xv _ _ q), rfl, P2 y C2 H1 s1 (w1.sub ?_) (m1.trans hs) (z.mono hs h2)⟩
    simp only [List.flatten_cons, List.append_assoc]
    exact List.sublist_append_right _ _
end
section
variable {X : Cx} {α : Type} {r : Enc α} {lt : α -> α -> Bool} {d : Nat}
end
section
variable {K : Fgg} {Er : Exc -> Hp -> Prop} {S : SC} {OO OO' : List (List Xz)} {σ : St} {α : Type}
end
section
variable {X : Cx} {pins : List (Addr × Obj)} {σ : St} {H : Hp} {s0 : Shared}
def ZI (acc kvs : List (List Key × V)) : List (List Key × V):=kvs.foldl (λa p=>UW a p.1 p.2) acc
theorem Kt (kvs : List (List Key × V)) (k : List Key) (v : V) : (UW kvs k v).length <= kvs.length + 1:=by
  unfold UW
  split <;> simp
theorem JQ : ∀ (kvs acc : List (List Key × V)), (ZI acc kvs).length <= acc.length + kvs.length
  | [], acc=>by simp [ZI]
  | p :: kvs, acc=>by
    have h1:=JQ kvs (UW acc p.1 p.2)
    have h2:=Kt acc p.1 p.2
    show (ZI (UW acc p.1 p.2) kvs).length <= _
    rw [List.length_cons]
    lia
def Du (X : Cx) (g : Heap) (d : Addr) (xs : List (List Key × Addr × Value)) : Prop:=∃ o es ep, g.get? d = some o /\ o.ExactDict /\ o.data = .dict es ep /\ es.toList = xs.map (entryOfKey (tupleKind (YX X.prog X.w))) /\ (xs.map (·.1)).Nodup
theorem Du.h {g : Heap} {tk : Nat} {d : Addr} {acc : List (List Key × V)} {xs : List (List Key × Addr × Value)} (D : Du X g d xs) (I : Inv X pins σ H { s0 with heap:=g, toks:=tk }) (r : KT H acc xs) : g.DictOfH (tupleKind (YX X.prog X.w)) d xs:=by
  obtain ⟨o, es, ep, h1, h2, h3, h4, h5⟩:=D
  refine ⟨o, es, ep, h1, h2, h3, h4, λx hx=>?_, h5⟩
  have all : ∀ {l : List (List Key × V)} {m : List (List Key × Addr × Value)}, KT H l m -> ∀ x ∈ m, (tupleKind (YX X.prog X.w)).is g x.1 x.2.1:=by
    intro l m q
    induction q with
    | nil=>intro x hx; exact nomatch hx
    | @cons p q ps qs hq t ih=>
      intro x hx
      rcases List.mem_cons.mp hx with e | hx
      . subst e
        exact GG I.hok (by rw [← hq.1]; exact hq.2.1)
      . exact ih x hx
  exact all r x hx
theorem Du.of {g : Heap} {d : Addr} {xs : List (List Key × Addr × Value)} (D : g.DictOfH (tupleKind (YX X.prog X.w)) d xs) : Du X g d xs:=by
  obtain ⟨o, es, ep, h1, h2, h3, h4, _, h5⟩:=D
  exact ⟨o, es, ep, h1, h2, h3, h4, h5⟩
theorem Du.at {g g' : Heap} {d : Addr} {xs : List (List Key × Addr × Value)} (D : Du X g d xs) (k : ∀ o, g.get? d = some o -> g'.get? d = some o) : Du X g' d xs:=by
  obtain ⟨o, es, ep, h1, r⟩:=D
  exact ⟨o, es, ep, k o h1, r⟩
def MX (K : Fgg) (H : Hp) (ps : List V) (kvs : List (List Key × V)) : Prop:=Paired (λp (kv : List Key × V)=>∃ t b, p = .ref t /\ SqT K H t [.ref b, kv.2] /\ H b = some (.tup (kv.1.map kV))) ps kvs
theorem Mk (I0 : Inv X pins σ H s0) {A : Around} {R : Result -> Shared -> Prop} (hh : A.in1.handled = none) (hu : A.units + 1 < cLine) {d I l : Addr} (hdI : d ≠ I) (hI0 : s0.heap.objs.size <= I) (hd0 : s0.heap.objs.size <= d) {its : List Value} {ps : List V} {kvs : List (List Key × V)} (rv : X5 ps its) (pr : MX X.K H ps kvs) (hl0 : s0.heap.IsList l its.toArray) :
    ∀ (k i : Nat) (g : Heap) (tk : Nat) (acc : List (List Key × V)) (xs : List (List Key × Addr × Value)), its.length - i = k -> i <= its.length -> g.IsListIter I l i -> (∀ b o, s0.heap.get? b = some o -> g.get? b = some o) -> KT H acc xs -> Du X g d xs -> acc.length + its.length <= sizeLine + i ->
    (∀ g tk xs, KT H (ZI acc (kvs.drop i)) xs -> Du X g d xs -> (∀ b o, s0.heap.get? b = some o -> g.get? b = some o) -> R (.ok (.ret .none)) { s0 with heap:=g, toks:=tk }) ->
    codeAny (model X.prog X.w) A (.builtin "dict.update.loop" ⟨[.ref d, .ref I, rawInt i, .none], []⟩) R { s0 with heap:=g, toks:=tk }:=by
  have hlen : kvs.length = its.length:=by rw [← Paired.len pr]; exact rv.length
  intro k
  induction k with
  | zero=>
    intro i g tk acc xs hk hi it kp r D hz q
    refine codeAny_builtin Vr ?_
    rw [Around.under_plainId Z7 _]
    show wpAny _ A.in1 (pyNext (.ref I) >>= _) _ _ _
    refine wpAny_bind (wpAny_pyNext_list_end (s:={ s0 with heap:=g, toks:=tk }) hh it (hl0.at λo e=>kp _ _ e) (by simp; lia) λg2 hx=>?_)
    show wpAny _ _ (Builtin.Dict.addKeywords d [] >>= λ_=>ret Value.none) _ _ _
    rw [List.drop_eq_nil_of_le (by lia)] at q
    exact wpAny_bind (wpAny_pure (wpAny_pure (q g2 tk xs r (D.at λo e=>hx d o hdI e) λb o e=>hx b o (Nat.ne_of_lt (Nat.lt_of_lt_of_le (Heap.lt_size e) hI0)) (kp b o e))))
  | succ k ih=>
    intro i g tk acc xs hk hi it kp r D hz q
    have lt : i < its.length:=by lia
    refine codeAny_builtin Vr ?_
    rw [Around.under_plainId Z7 _]
    show wpAny _ A.in1 (pyNext (.ref I) >>= _) _ _ _
    refine wpAny_bind (wpAny_pyNext_list_item (s:={ s0 with heap:=g, toks:=tk }) it (hl0.at λo e=>kp _ _ e) (x:=its[i]) (by simp [lt]) λg2 it' hx=>?_)
    have lt2 : i < kvs.length:=by lia
    have kp2 : ∀ b o, s0.heap.get? b = some o -> g2.get? b = some o:=λb o e=>hx.extBut b o (Nat.ne_of_lt (Nat.lt_of_lt_of_le (Heap.lt_size e) hI0)) (kp b o e)
    have I2 : Inv X pins σ H { s0 with heap:=g2, toks:=tk }:=I0.kept kp2
    obtain ⟨x, ex, rx⟩:=Paired.getR (i:=i) (b:=its[i]) rv (by simp [lt])
    obtain ⟨kv, ek, t, b, rfl, ht, hb⟩:=Paired.getL pr ex
    have ekv : kvs[i] = kv:=(List.getElem?_eq_some_iff.mp ek).2
    have et : its[i] = .ref t:=rx
    obtain ⟨i2, v2, tp, _⟩:=I2.tuple ht
    obtain ⟨key, val, rfl, e1, e2⟩:=X5.two v2
    have e1' : key = .ref b:=e1
    subst e1'
    obtain ⟨o, ho, hc, n, hdt⟩:=id tp
    rw [et]
    show wpAny _ _ (holding [Value.ref t] _ >>= λ_=>again (.builtin "dict.update.loop" ⟨[.ref d, .ref I, rawInt ((i : Int) + 1), .none], []⟩)) _ _ _
    refine wpAny_bind (wpAny_holding ?_)
    refine wpAny_bind (wpAny_tryCatch ?_)
    unfold Builtin.Dict.pairItems
    refine wpAny_bind (wpAny_typeOf (s:={ s0 with heap:=g2, toks:=tk }) ⟨o, ho, hc⟩ ?_)
    rw [if_pos (by decide)]
    refine wpAny_bind (wpAny_seqItems (s:={ s0 with heap:=g2, toks:=tk }) ho hdt (wpAny_pure ?_))
    show wpAny _ _ (holding [Value.ref b, val] (dictSet d (.ref b) val)) _ _ _
    have D2 : Du X g2 d xs:=D.at λo e=>hx.extBut d o hdI e
    have hxl : xs.length = acc.length:=(Paired.length r).symm
    refine wpAny_holding (wpAny_dictSet_heap (s:={ s0 with heap:=g2, toks:=tk }) (tupleKind_room_in1 hu) (GG I2.hok hb) (D2.h I2 r) (λg3 hd3 hx3=>?_) (by lia))
    refine wpAny_pure ⟨plainId_quiet Z7 _, ?_⟩
    have kp3 : ∀ b o, s0.heap.get? b = some o -> g3.get? b = some o:=λb o e=>(hx3.2 b (Nat.ne_of_lt (Nat.lt_of_lt_of_le (Heap.lt_size e) hd0))).trans (kp2 b o e)
    refine ih (i + 1) g3 _ (UW acc kv.1 kv.2) _ (by lia) (by lia) (it'.extBut hx3.extBut (λe=>hdI e.symm)) kp3 (r.put kv.1 hb e2) (Du.of hd3) ?_ ?_
    . have := Kt acc kv.1 kv.2
      lia
    . rw [List.drop_eq_getElem_cons lt2, ekv] at q
      exact q
def Ew (K : Fgg) : List V -> Hp -> VK -> Prop:=λxs H Q=>∃ l ps kvs, xs = [.ref l] /\ SqL K H l ps /\ MX K H ps kvs /\ ∀ d, H d = none -> Q (.ref d) (upd H d (.dT (ZI [] kvs)))
theorem FE (K : Fgg) (hK : X.K = K) (hc : X.calm = true) (hu : X.A.units + 4 < cLine) : Qf X (.type "dict") (Ew K):=by
  subst hK
  intro pins s σ H xs us Q I rr h
  obtain ⟨l, ps, kvs, rfl, hq, hp, q⟩:=h
  obtain ⟨u, rfl, ru⟩:=VL rr
  cases ru
  obtain ⟨its, rv, ⟨o, n, ho, hcl, hdn, hdat⟩, hz⟩:=I.list hq
  have hlen : kvs.length = its.length:=by rw [← Paired.len hp]; exact rv.length
  have hpl:=rv.length
  refine callType_codes (Q₁:=λobj s₁=>obj = .ref s.heap.objs.size /\ s₁ = { s with heap:=s.heap.push { cls:=.type "dict", data:=.dict #[] } }) F.kt_called_dict (F.kt_typeCall_dict_1 _) F.entry_dict_init (kt_code_dict_new _ ⟨rfl, rfl⟩) ?_
  rintro obj s₁ ⟨rfl, rfl⟩
  have hT : Shared.TypeIs { s with heap:=s.heap.push { cls:=.type "dict", data:=.dict #[] } } (.ref s.heap.objs.size) "dict":=⟨_, Heap.get?_push_size _ rfl, rfl⟩
  have hx1 : (s.heap.push { cls:=.type "dict", data:=.dict #[] }).get? l = some o:=Qp _ ho
  refine ⟨hT, F.args_dict_init_2 _ _, ?_⟩
  unfold Builtin.«dict.__init__»
  refine wpAny_bind ?_
  unfold Builtin.Dict.selfAndRest
  refine wpAny_bind (wpAny_notOrdered_dict hT ?_)
  show wpAny _ _ (pure (s.heap.objs.size, [Value.ref l])) _ _ _
  refine wpAny_pure ?_
  show wpAny _ _ (Builtin.Dict.updateFrom "dict.__init__" s.heap.objs.size (.ref l) [] .none) _ _ _
  unfold Builtin.Dict.updateFrom
  refine wpAny_bind (wpAny_typeOf ⟨o, hx1, hcl⟩ ?_)
  rw [if_pos (by decide)]
  have hh : X.A.handled = none:=I.ok.hd hc
  refine wpAny_bind (B7 hx1 hcl hdat hdn hh λg tk kp=>?_)
  rw [if_pos (show (none : Option Value).isNone = true from rfl)]
  refine wpAny_bind (wpAny_rule ?_)
  have hlg : g.IsList l its.toArray:=⟨o, kp _ _ hx1, hcl, n, hdat⟩
  have hd0 : g.get? s.heap.objs.size = some { cls:=.type "dict", data:=.dict #[] }:=kp _ _ (Heap.get?_push_size _ rfl)
  have hdlt : s.heap.objs.size < g.objs.size:=Heap.lt_size hd0
  have hll : s.heap.IsList l its.toArray:=⟨o, ho, hcl, n, hdat⟩
  refine wpAny_bind (wpAny_pyIter_list (s:={ s with heap:=g, toks:=tk }) hlg ?_)
  refine wpAny_pure ⟨plainId_quiet Z7 _, ?_⟩
  refine Mk I (show X.A.in1.in1.handled = none from hh) (by rw [YV]; lia) (d:=s.heap.objs.size) (I:=g.objs.size) (l:=l) (Nat.ne_of_lt hdlt) (Nat.le_of_lt hdlt) (Nat.le_refl _) rv hp hll its.length 0 _ tk [] [] rfl (Nat.zero_le _) ⟨_, Heap.get?_push_size _ rfl, rfl, rfl⟩ (λb u e=>Qp _ (kp _ _ (Qp _ e))) .nil ?_ (by simp; lia) ?_
  . exact ⟨_, #[], _, Qp _ hd0, ⟨rfl, rfl, rfl⟩, rfl, rfl, List.nodup_nil⟩
  . intro g2 tk2 xs2 r2 D2 kp2
    obtain ⟨o2, es, ep, h1, h2, h3, h4, h5⟩:=D2
    have hfr : H s.heap.objs.size = none:=I.hok.fresh (Nat.le_refl _)
    rw [List.drop_zero] at r2
    have hkl:=JQ kvs []
    refine ⟨rfl, .ref s.heap.objs.size, _, I.laid (t':=tk2) kp2 (Nat.le_refl _) (show Zd X.prog X.w _ g2 _ (.dT (ZI [] kvs)) from ⟨?_, beq_eq_false_iff_ne.mpr (Ne.symm (Nat.ne_of_lt I.big)), xs2, r2.keeps λb ys hb=>?_, o2, es, ep, h1, h2, h3, h4, h5⟩), rfl, q _ hfr⟩
    . simp at hkl; lia
    . rw [XI (XL hb hfr)]; exact hb
end
section
variable {K : Fgg} {Er : Exc -> Hp -> Prop} {S : SC} {OO OO' : List (List Xz)} {σ : St} {α β γ : Type}
def V4 (acc ps : List (List Int × α)) : List (List Int × α):=ps.foldl (λa p=>BU a p.1 p.2) acc
theorem Fu {r : Enc α} {h H : Hp} (s : Xp h H) {xs : List V} {ps : List (List Int × α)} (p : Paired (rP2 (rPL Xa) r K h) xs ps) : ∃ kvs, MX K H xs kvs /\ Paired (DX r K h) kvs ps:=by
  induction p with
  | nil=>exact ⟨[], .nil, .nil⟩
  | @cons v kx xs ps hr t ih=>
    obtain ⟨kvs, h1, h2⟩:=ih
    obtain ⟨a, x, y, rfl, ha, ⟨b, zs, rfl, hb, pz⟩, ry⟩:=hr
    refine ⟨(tk kx.1, y) :: kvs, .cons ⟨a, b, rfl, SqT.of (s _ _ ha), ?_⟩ h1, .cons ⟨rfl, ry⟩ h2⟩
    rw [Mi, ← US pz]
    exact s _ _ hb
theorem UB {r : Enc α} {h : Hp} {kvs : List (List Key × V)} {ps : List (List Int × α)} (p : Paired (DX r K h) kvs ps) : ∀ {acc : List (List Key × V)} {d : List (List Int × α)}, Paired (DX r K h) acc d -> Paired (DX r K h) (ZI acc kvs) (V4 d ps):=by
  induction p with
  | nil=>intro acc d h; exact h
  | @cons kv kx kvs ps hr t ih=>
    intro acc d h
    show Paired _ (ZI (UW acc kv.1 kv.2) kvs) (V4 (BU d kx.1 kx.2) ps)
    rw [hr.1]
    exact ih (Gy hr.2 h)
theorem BE {ta : TE} {r : Enc α} [z : MonoE r] {ma : Rs (List (List Int × α))} (ha : EvL K Er S OO σ ta (rP2 (rPL Xa) r) ma) : Ev K Er S OO OO σ (tCB (Ew K) (Xr ta Zc)) (oDT r) (ma.bind λps=>.ok (V4 [] ps)):=λH Q w s P=>
  ha.run w s FO.tr P λps x H1 s1 w1 q1 ⟨p, xs, e, q, pr⟩ P1=>by
    obtain ⟨kvs, h1, h2⟩:=Fu (Xv (H:=H1) (OO:=OO)) pr
    refine ⟨p, xs, kvs, by rw [e], SqL.of q, h1, λd hd=>?_⟩
    have hn:=UT (OO:=OO) hd (o:=.dT (ZI [] kvs))
    exact P1 (.ref d) [(d, .dT (ZI [] kvs))] _ (XE hd _) (w1.new hd rfl) hn ⟨d, _, rfl, Paired.imp2 (λ_ _ h=>⟨h.1, z.mono hn h.2⟩) (UB h2 .nil), rfl⟩
end
section
variable {K : Fgg} {Er : Exc -> Hp -> Prop} {S : SC} {OO : List (List Xz)} {σ : St} {α1 α2 α3 α4 α5 ρ : Type} {mg : Str -> Option Value} {E : XK}
def IW (mg : Str -> Option Value) (r1 : Enc α1) (r2 : Enc α2) (r3 : Enc α3) (r4 : Enc α4) (r5 : Enc α5) (o : OE ρ) (f : α1 -> α2 -> α3 -> α4 -> α5 -> Rs ρ) (K : Fgg) : Sp:=λvs H Q E=>∃ v1 v2 v3 v4 v5 a1 a2 a3 a4 a5, vs = [v1, v2, v3, v4, v5] /\ r1 K H v1 a1 /\ r2 K H v2 a2 /\ r3 K H v3 a3 /\ r4 K H v4 a4 /\ r5 K H v5 a5 /\ PX (ErE mg E) (FF K o Q) H (f a1 a2 a3 a4 a5)
theorem Dy {ta tb tc td te : TE} {r1 : Enc α1} {r2 : Enc α2} {r3 : Enc α3} {r4 : Enc α4} {r5 : Enc α5} [z1 : MonoE r1] [z2 : MonoE r2] [z3 : MonoE r3] [z4 : MonoE r4] {o : OE ρ} [FlatO o] {f : α1 -> α2 -> α3 -> α4 -> α5 -> Rs ρ} {ma : Rs α1} {mb : Rs α2} {mc : Rs α3} {md : Rs α4} {me : Rs α5} (ha : EvB K (ErE mg E) S OO σ ta r1 ma) (hb : EvB K (ErE mg E) S OO σ tb r2 mb) (hc : EvB K (ErE mg E) S OO σ tc r3 mc) (hd : EvB K (ErE mg E) S OO σ td r4 md) (he : EvB K (ErE mg E) S OO σ te r5 me) :
    Ev K (ErE mg E) S OO OO σ (QM (IW mg r1 r2 r3 r4 r5 o f K) [] E (Xr ta (Xr tb (Xr tc (Xr td (Xr te Zc)))))) o (ma.bind λa=>mb.bind λb=>mc.bind λc=>md.bind λd=>me.bind λe=>f a b c d e):=λH Q w s P=>
  ha.run w s FO.tr P λa x H1 s1 w1 q1 r1 P1=>hb.run w1 q1 FO.tr P1 λb y H2 s2 w2 q2 r2 P2=>hc.run w2 q2 FO.tr P2 λc z H3 s3 w3 q3 r3 P3=>hd.run w3 q3 FO.tr P3 λd u H4 s4 w4 q4 r4 P4=>he.run w4 q4 FO.tr P4 λe t H5 s5 w5 q5 r5 P5=>⟨x, y, z, u, t, a, b, c, d, e, rfl, z1.mono (s2.trans (s3.trans (s4.trans s5))) r1, z2.mono (s3.trans (s4.trans s5)) r2, z3.mono (s4.trans s5) r3, z4.mono s5 r4, r5, ⟨GH w5 P5⟩⟩
theorem F8 {ta tb tc td te : TE} {r1 : Enc α1} {r2 : Enc α2} {r3 : Enc α3} {r4 : Enc α4} {r5 : Enc α5} [z1 : MonoE r1] [z2 : MonoE r2] [z3 : MonoE r3] [z4 : MonoE r4] {o : OE ρ} [FlatO o] {f : α1 -> α2 -> α3 -> α4 -> α5 -> Rs ρ} {ma : Rs α1} {mb : Rs α2} {mc : Rs α3} {md : Rs α4} {me : Rs α5} (ha : EvB K Er S OO σ ta r1 ma) (hb : EvB K Er S OO σ tb r2 mb) (hc : EvB K Er S OO σ tc r3 mc) (hd : EvB K Er S OO σ td r4 md) (he : EvB K Er S OO σ te r5 me) :
    Ev K Er S OO OO σ (QM (IW mg r1 r2 r3 r4 r5 o f K) [] E0 (Xr ta (Xr tb (Xr tc (Xr td (Xr te Zc)))))) o (ma.bind λa=>mb.bind λb=>mc.bind λc=>md.bind λd=>me.bind λe=>noE (f a b c d e)):=λH Q w s P=>
  ha.run w s FO.tr P λa x H1 s1 w1 q1 r1 P1=>hb.run w1 q1 FO.tr P1 λb y H2 s2 w2 q2 r2 P2=>hc.run w2 q2 FO.tr P2 λc z H3 s3 w3 q3 r3 P3=>hd.run w3 q3 FO.tr P3 λd u H4 s4 w4 q4 r4 P4=>he.run w4 q4 FO.tr P4 λe t H5 s5 w5 q5 r5 P5=>⟨x, y, z, u, t, a, b, c, d, e, rfl, z1.mono (s2.trans (s3.trans (s4.trans s5))) r1, z2.mono (s3.trans (s4.trans s5)) r2, z3.mono (s4.trans s5) r3, z4.mono s5 r4, r5, ⟨EZ w5 P5⟩⟩
end
end L2
namespace My
open PySem L2
noncomputable abbrev Xy : List Str:=["PlaitError", "TooBig", "NoUnit"]
noncomputable def XM (a_0 : Int) (a_1 : Int) : Rs Unit:=(Rs.bind (Rs.bind (Rs.ok a_1) λx5=>(Rs.bind (Rs.ok a_0) λx6=>(Rs.ok (decide (x6 < x5))))) λx7=>(if x7 = true then (Rs.bind ((Rs.bind (Rs.bind (Rs.ok a_1) λx9=>(chk (x9.natAbs.log2 < 1920) (Rs.bind (Rs.ok a_0) λx8=>(chk (x8.natAbs.log2 < 1920) (Rs.ok ()))))) λ_=>(Rs.err ⟨"TooBig", Pay.non⟩)) : Rs Unit) λ_=>Rs.bad) else (Rs.ok ())))
noncomputable def Yw (a_0 : (List Int)) (a_1 : Int) : Rs Bool:=(Rs.bind (Rs.bind (Rs.ok a_0) λx5=>(V0 x5 (λa3=>(Rs.bind (Rs.ok (0 : Int)) λx6=>(Rs.bind (Rs.ok a3) λx7=>(if (decide (x6 <= x7)) = true then (Rs.bind (Rs.ok a_1) λx8=>(Rs.ok (decide (x7 < x8)))) else Rs.ok false)))))) λx9=>(Rs.ok (x9.all id)))
noncomputable def X2 (a_0 : (List (List Int))) (a_1 : Int) : Rs (List (List Int)):=(Rs.bind (Rs.ok []) λa1=>(Rs.bind (Rs.ok a_0) λx37=>(Rs.bind (forN x37 (a1) (λg6 a8=>(Rs.bind (Rs.bind (Rs.ok a_1) λx10=>(Uy 0 x10)) λx34=>(Rs.bind (forN x34 (g6) (λg13 a15=>(Rs.bind (Rs.bind (Rs.bind (Rs.ok a15) λx17=>(Rs.bind (Rs.ok a8) λx18=>(Rs.ok (!(decide (x17 ∈ x18)))))) λx19=>(if x19 = true then (Rs.bind (Rs.bind (Rs.ok a8) λx22=>(Rs.bind (Rs.bind (Rs.bind (Rs.ok a15) λx25=>(Rs.bind (Rs.ok []) λx26=>(Rs.ok (x25 :: x26)))) λx24=>(chk (x24.length <= sizeLine) (Rs.ok x24))) λx23=>(ID x22 x23))) λa27=>(chk (g13.length < sizeLine) ((λa29=>(Rs.ok (a29))) (g13 ++ [a27])))) else (Rs.ok (g13)))) λg31=>(Rs.ok (g31))))) λg32=>(Rs.ok (g32)))))) λg35=>(Rs.ok g35))))
noncomputable def Ys (a_0 : Int) : Rs (List (List Int)):=(Rs.bind (Rs.bind (Rs.bind (Rs.ok []) λx5=>(Rs.bind (Rs.ok []) λx6=>(Rs.ok (x5 :: x6)))) λx4=>(chk (x4.length <= sizeLine) (Rs.ok x4))) λa1=>(Rs.bind (Rs.bind (Rs.ok a_0) λx7=>(Uy 0 x7)) λx22=>(Rs.bind (forN x22 (a1) (λg10 a12=>(Rs.bind (Rs.bind (Rs.ok g10) λx18=>(Rs.bind (Rs.ok a_0) λx19=>(noE (X2 x18 x19)))) λa14=>(Rs.ok (a14))))) λg20=>(Rs.ok g20))))
noncomputable def YU (a_0 : (List (List Int))) : Rs (Option (Int × Int)):=(Rs.bind (Rs.bind (Rs.ok a_0) λx1=>(Rs.ok (UD x1))) λx20=>(Rs.bind (forC x20 () (λg4 a6=>(Rs.bind (Rs.bind (Rs.bind (Rs.ok a6.2) λx8=>(Rs.bind (Rs.ok a6.1) λx9=>(atR x8 x9))) λx10=>(Rs.bind (Rs.ok a6.1) λx11=>(Rs.ok (!(decide (x10 = x11)))))) λx12=>(if x12 = true then (Rs.bind (Rs.bind (Rs.bind (Rs.ok (1 : Int)) λx13=>(Rs.bind (Rs.ok a6.1) λx14=>(Rs.ok (x13, x14)))) λx15=>(Rs.ok (some x15))) λx17=>(Rs.ok (Ctl.ret x17))) else (Rs.bind (Rs.ok ()) λx16=>(Rs.ok (Ctl.nx x16))))))) (Z4 λg18=>(Rs.ok none))))
noncomputable def ZG (a_0 : (List Int)) : Rs (Option (Int × Int)):=(Rs.bind (Rs.bind (Rs.ok a_0) λx1=>(Rs.ok (UD x1))) λx29=>(Rs.bind (forC x29 () (λg4 a6=>(Rs.bind (Rs.bind (Rs.ok a6.2) λx14=>(Rs.bind (Rs.bind (Rs.ok a_0) λx11=>(Rs.bind (Rs.bind (Rs.bind (Rs.ok a6.1) λx8=>(Rs.bind (Rs.ok (1 : Int)) λx9=>(Rs.ok (x8 + x9)))) λx10=>(Rs.ok (some x10))) λx12=>(Rs.bind (Rs.ok none) λx13=>(Rs.ok (Ff x11 x12 x13))))) λx15=>(Rs.ok (decide (x14 ∈ x15))))) λx16=>(if x16 = true then (Rs.bind (Rs.bind (Rs.bind (Rs.ok a6.1) λx22=>(Rs.bind (Rs.bind (Rs.ok a_0) λx19=>(Rs.bind (Rs.ok a6.2) λx20=>(Rs.bind (Rs.bind (Rs.ok a6.1) λx17=>(Rs.bind (Rs.ok (1 : Int)) λx18=>(Rs.ok (x17 + x18)))) λx21=>(Lr x19 x20 x21)))) λx23=>(Rs.ok (x22, x23)))) λx24=>(Rs.ok (some x24))) λx26=>(Rs.ok (Ctl.ret x26))) else (Rs.bind (Rs.ok ()) λx25=>(Rs.ok (Ctl.nx x25))))))) (Z4 λg27=>(Rs.ok none))))
noncomputable def YQ (a_0 : (List (List Int))) : Rs (Option (Int × Int × Int × Int)):=(Rs.bind (Rs.bind (Rs.bind (Rs.ok a_0) λx1=>(Rs.ok (x1.length : Int))) λx2=>(Uy 0 x2)) λx32=>(Rs.bind (forC x32 () (λg5 a7=>(Rs.bind (Rs.bind (Rs.bind (Rs.ok a_0) λx15=>(V0 x15 (λa13=>(Rs.bind (Rs.ok a13) λx16=>(Rs.bind (Rs.ok a7) λx17=>(atR x16 x17)))))) λx18=>(noE (ZG x18))) λa9=>(Rs.bind (Rs.bind (Rs.ok a9) λx19=>(Rs.ok x19.isSome)) λx20=>(if x20 = true then (Rs.bind (Rs.bind (Rs.bind (Rs.ok (2 : Int)) λx23=>(Rs.bind (Rs.ok a7) λx24=>(Rs.bind (Rs.bind (Rs.bind (Rs.ok a9) LC) λx21=>(Rs.ok x21.1)) λx25=>(Rs.bind (Rs.bind (Rs.bind (Rs.ok a9) LC) λx22=>(Rs.ok x22.2)) λx26=>(Rs.ok (x23, x24, x25, x26)))))) λx27=>(Rs.ok (some x27))) λx29=>(Rs.ok (Ctl.ret x29))) else (Rs.bind (Rs.ok ()) λx28=>(Rs.ok (Ctl.nx x28)))))))) (Z4 λg30=>(Rs.ok none))))
noncomputable def YA (a_0 : (List (List Int))) : Rs (Option (Int × Int × Int × Int)):=(Rs.bind (Rs.bind (Rs.ok a_0) λx1=>(Rs.ok (UD x1))) λx57=>(Rs.bind (forC x57 () (λg4 a6=>(Rs.bind (Rs.bind (Rs.ok a6.2) λx8=>(Rs.ok (UD x8))) λx54=>(Rs.bind (forC x54 () (λg11 a13=>(Rs.bind (Rs.bind (Rs.bind (Rs.ok a_0) λx15=>(Rs.ok (x15.length : Int))) λx16=>(Uy 0 x16)) λx50=>(Rs.bind (forC x50 () (λg19 a21=>(Rs.bind (Rs.bind (Rs.bind (Rs.bind (Rs.ok a_0) λx23=>(Rs.bind (Rs.ok a13.2) λx24=>(atR x23 x24))) λx25=>(Rs.bind (Rs.ok a21) λx26=>(atR x25 x26))) λx37=>(Rs.bind (Rs.bind (Rs.bind (Rs.ok a_0) λx29=>(Rs.bind (Rs.bind (Rs.ok a6.2) λx27=>(Rs.bind (Rs.ok a21) λx28=>(atR x27 x28))) λx30=>(atR x29 x30))) λx35=>(Rs.bind (Rs.bind (Rs.bind (Rs.ok a_0) λx31=>(Rs.bind (Rs.ok a13.1) λx32=>(atR x31 x32))) λx33=>(Rs.bind (Rs.ok a21) λx34=>(atR x33 x34))) λx36=>(atR x35 x36))) λx38=>(Rs.ok (!(decide (x37 = x38)))))) λx39=>(if x39 = true then (Rs.bind (Rs.bind (Rs.bind (Rs.ok (3 : Int)) λx40=>(Rs.bind (Rs.ok a6.1) λx41=>(Rs.bind (Rs.ok a13.1) λx42=>(Rs.bind (Rs.ok a21) λx43=>(Rs.ok (x40, x41, x42, x43)))))) λx44=>(Rs.ok (some x44))) λx46=>(Rs.ok (Ctl.ret x46))) else (Rs.bind (Rs.ok ()) λx45=>(Rs.ok (Ctl.nx x45))))))) (Zm λg47=>(Rs.bind (Rs.ok ()) λx49=>(Rs.ok (Ctl.nx x49)))))))) (Zm λg51=>(Rs.bind (Rs.ok ()) λx53=>(Rs.ok (Ctl.nx x53)))))))) (Z4 λg55=>(Rs.ok none))))
noncomputable def JA (a_0 : (List (List Int))) : Rs (Option (List Int)):=(Rs.bind (Rs.bind (Rs.bind (Rs.ok a_0) λx4=>(noE (YU x4))) λx5=>(Rs.ok (x5.map λp=>[p.1, p.2]))) λa1=>(Rs.bind (Rs.bind (Rs.bind (Rs.ok a1) λx6=>(Rs.ok x6.isNone)) λx7=>(if x7 = true then (Rs.bind (Rs.bind (Rs.bind (Rs.ok a_0) λx13=>(noE (YQ x13))) λx14=>(Rs.ok (x14.map λp=>[p.1, p.2.1, p.2.2.1, p.2.2.2]))) λa10=>(Rs.ok (a10))) else (Rs.ok (a1)))) λg16=>(Rs.bind (Rs.bind (Rs.bind (Rs.ok g16) λx17=>(Rs.ok x17.isNone)) λx18=>(if x18 = true then (Rs.bind (Rs.bind (Rs.bind (Rs.ok a_0) λx24=>(noE (YA x24))) λx25=>(Rs.ok (x25.map λp=>[p.1, p.2.1, p.2.2.1, p.2.2.2]))) λa21=>(Rs.ok (a21))) else (Rs.ok (g16)))) λg27=>(Rs.ok g27))))
noncomputable def Yo (a_0 : (List (List Int))) : Rs (List (List Int)):=(Rs.bind (Rs.bind (Rs.bind (Rs.ok a_0) λx1=>(Rs.ok (x1.length : Int))) λx2=>(Uy 0 x2)) λx6=>(V0 x6 (λa4=>(Rs.bind (Rs.ok a_0) λx10=>(V0 x10 (λa8=>(Rs.bind (Rs.ok a8) λx11=>(Rs.bind (Rs.ok a4) λx12=>(atR x11 x12)))))))))
noncomputable def Yf (a_0 : (List (List (List Int)))) (a_1 : (List (List Int))) : Rs (List (List (List Int))):=(Rs.bind (Rs.ok []) λa1=>(Rs.bind (Rs.ok a_0) λx24=>(Rs.bind (forN x24 (a1) (λg6 a8=>(Rs.bind (Rs.bind (Rs.ok a_1) λx13=>(V0 x13 (λa11=>(Rs.bind (Rs.ok a8) λx14=>(Rs.bind (Rs.bind (Rs.bind (Rs.ok a11) λx17=>(Rs.bind (Rs.ok []) λx18=>(Rs.ok (x17 :: x18)))) λx16=>(chk (x16.length <= sizeLine) (Rs.ok x16))) λx15=>(ID x14 x15)))))) λa19=>(chk (g6.length + a19.length <= sizeLine) ((λa21=>(Rs.ok (a21))) (g6 ++ a19)))))) λg22=>(Rs.ok g22))))
noncomputable def Zn (a_0 : Int) : Rs (List (List (List Int))):=(Rs.bind (Rs.bind (Rs.ok a_0) λx4=>(noE (Ys x4))) λa1=>(Rs.bind (Rs.bind (Rs.bind (Rs.ok []) λx9=>(Rs.bind (Rs.ok []) λx10=>(Rs.ok (x9 :: x10)))) λx8=>(chk (x8.length <= sizeLine) (Rs.ok x8))) λa5=>(Rs.bind (Rs.bind (Rs.ok a_0) λx11=>(Uy 0 x11)) λx34=>(Rs.bind (forN x34 (a5) (λg14 a16=>(Rs.bind (Rs.bind (Rs.ok g14) λx30=>(Rs.bind (Rs.bind (Rs.ok a1) λx25=>(Bl x25 (λa23=>(Rs.bind (Rs.bind (Rs.ok a23) λx26=>(Rs.bind (Rs.ok a16) λx27=>(atR x26 x27))) λx28=>(Rs.bind (Rs.ok a16) λx29=>(Rs.ok (decide (x28 = x29)))))) (λa23=>(Rs.ok a23)))) λx31=>(noE (Yf x30 x31)))) λa18=>(Rs.ok (a18))))) λg32=>(Rs.ok g32)))))
noncomputable def YN (a_0 : Int) : Rs (List (List (List Int))):=(Rs.bind (Rs.bind (Rs.ok (4 : Int)) λx1=>(Rs.bind (Rs.ok a_0) λx2=>(XM x1 x2))) λx3=>(Rs.bind (Rs.bind (Rs.bind (Rs.ok a_0) λx8=>(noE (Zn x8))) λx12=>(V0 x12 (λa10=>(Rs.bind (Rs.ok a10) λx14=>(noE (Yo x14)))))) λa4=>(Rs.bind (Rs.bind (Rs.ok a4) λx19=>(Bl x19 (λa17=>(Rs.bind (Rs.bind (Rs.ok a17) λx21=>(noE (JA x21))) λx22=>(Rs.ok x22.isNone))) (λa17=>(Rs.ok a17)))) λx15=>(chk (x15.length < 64 /\ x15.Nodup) (Rs.ok (UM (ltG (ltG ltI)) x15))))))
noncomputable def XT (a_0 : (List (List Int))) (a_1 : (List (List Int))) : Rs Unit:=(Rs.bind (Rs.bind (Rs.ok (6 : Int)) λx9=>(Rs.bind (Rs.bind (Rs.bind (Rs.ok a_0) λx5=>(Rs.ok (x5.length : Int))) λx7=>(Rs.bind (Rs.bind (Rs.ok a_1) λx6=>(Rs.ok (x6.length : Int))) λx8=>(Rs.ok (max x7 x8)))) λx10=>(XM x9 x10))) λx11=>(Rs.ok ()))
noncomputable def Xq (a_0 : (List (List Int))) (a_1 : (List (List Int))) (a_2 : (List Int)) (a_3 : Int) (a_4 : Int) : Rs Bool:=(Rs.bind (Rs.bind (Rs.bind (Rs.ok a_0) λx3=>(Rs.bind (Rs.ok a_3) λx4=>(atR x3 x4))) λx5=>(Rs.bind (Rs.ok a_4) λx6=>(atR x5 x6))) λa1=>(VI (Rs.bind (Rs.ok a1) λx8=>(Rs.bind (Rs.bind (Rs.ok a_2) λx7=>(Rs.ok (x7.length : Int))) λx9=>(Rs.ok (decide (x8 < x9))))) (Rs.bind (Rs.bind (Rs.bind (Rs.ok a_1) λx12=>(Rs.bind (Rs.bind (Rs.ok a_2) λx10=>(Rs.bind (Rs.ok a_3) λx11=>(atR x10 x11))) λx13=>(atR x12 x13))) λx16=>(Rs.bind (Rs.bind (Rs.ok a_2) λx14=>(Rs.bind (Rs.ok a_4) λx15=>(atR x14 x15))) λx17=>(atR x16 x17))) λx20=>(Rs.bind (Rs.bind (Rs.ok a_2) λx18=>(Rs.bind (Rs.ok a1) λx19=>(atR x18 x19))) λx21=>(Rs.ok (!(decide (x20 = x21))))))))
noncomputable def Yk (a_0 : (List (List Int))) (a_1 : (List (List Int))) (a_2 : (List Int)) : Rs (Option (Int × Int)):=(Rs.bind (Rs.bind (Rs.bind (Rs.ok a_2) λx1=>(Rs.ok (x1.length : Int))) λx2=>(Uy 0 x2)) λx35=>(Rs.bind (forC x35 () (λg5 a7=>(Rs.bind (Rs.bind (Rs.bind (Rs.ok a_2) λx9=>(Rs.ok (x9.length : Int))) λx10=>(Uy 0 x10)) λx32=>(Rs.bind (forC x32 () (λg13 a15=>(Rs.bind (Rs.bind (Rs.ok a_0) λx18=>(Rs.bind (Rs.ok a_1) λx19=>(Rs.bind (Rs.ok a_2) λx20=>(Rs.bind (Rs.ok a7) λx21=>(Rs.bind (Rs.ok a15) λx22=>(noE (Xq x18 x19 x20 x21 x22))))))) λx23=>(if x23 = true then (Rs.bind (Rs.bind (Rs.bind (Rs.ok a7) λx24=>(Rs.bind (Rs.ok a15) λx25=>(Rs.ok (x24, x25)))) λx26=>(Rs.ok (some x26))) λx28=>(Rs.ok (Ctl.ret x28))) else (Rs.bind (Rs.ok ()) λx27=>(Rs.ok (Ctl.nx x27))))))) (Zm λg29=>(Rs.bind (Rs.ok ()) λx31=>(Rs.ok (Ctl.nx x31)))))))) (Z4 λg33=>(Rs.ok none))))
noncomputable def Yd (a_0 : (List Int)) (a_1 : Int) : Rs (List (List Int)):=(Rs.bind (Rs.bind (Rs.bind (Rs.ok a_1) λx1=>(Rs.bind (Rs.ok (1 : Int)) λx2=>(Rs.ok (x1 - x2)))) λx5=>(Rs.bind (Rs.bind (Rs.ok (1 : Int)) λx3=>(Rs.ok (-x3))) λx6=>(Rs.bind (Rs.bind (Rs.ok (1 : Int)) λx4=>(Rs.ok (-x4))) λx7=>(MB x5 x6 x7)))) λx11=>(Bl x11 (λa9=>(Rs.bind (Rs.ok a9) λx17=>(Rs.bind (Rs.ok a_0) λx18=>(Rs.ok (!(decide (x17 ∈ x18))))))) (λa9=>(Rs.bind (Rs.ok a_0) λx15=>(Rs.bind (Rs.bind (Rs.bind (Rs.ok a9) λx12=>(Rs.bind (Rs.ok []) λx13=>(Rs.ok (x12 :: x13)))) λx14=>(chk (x14.length <= sizeLine) (Rs.ok x14))) λx16=>(chk (0 < x16.length /\ x15.length + x16.length <= sizeLine) (Rs.ok (x15 ++ x16))))))))
noncomputable def YK (a_0 : (List (List Int))) (a_1 : (List (List Int))) : Rs ((Option (List Int)) × (List ((List Int) × Int × Int))):=(Rs.bind (Rs.ok []) λa1=>(Rs.bind (Rs.bind (Rs.bind (Rs.bind (Rs.ok a_0) λx7=>(Rs.ok (x7.length : Int))) λx9=>(Rs.bind (Rs.bind (Rs.ok a_1) λx8=>(Rs.ok (x8.length : Int))) λx10=>(Rs.ok (decide (x9 = x10))))) λx15=>(if x15 = true then (Rs.bind (Rs.bind (Rs.bind (Rs.ok []) λx12=>(chk (x12.length <= sizeLine) (Rs.ok x12))) λx13=>(Rs.bind (Rs.ok []) λx14=>(Rs.ok (x13 :: x14)))) λx11=>(chk (x11.length <= sizeLine) (Rs.ok x11))) else (Rs.ok []))) λa4=>(Rs.bind (QG (a_0.length + 100000) (a4, a1) (λg18=>(Rs.bind (Rs.bind (Rs.ok g18.1) λx20=>(Rs.ok (x20.length : Int))) λx21=>(Rs.bind (Rs.ok (0 : Int)) λx22=>(Rs.ok (decide (x22 < x21)))))) (λg18=>(Rs.bind (CZ g18.1) (λp27=>(λa23 a24=>(Rs.bind (Rs.bind (Rs.ok a_0) λx31=>(Rs.bind (Rs.ok a_1) λx32=>(Rs.bind (Rs.ok a23) λx33=>(noE (Yk x31 x32 x33))))) λa28=>(Rs.bind (Rs.bind (Rs.bind (Rs.ok a28) λx34=>(Rs.ok x34.isSome)) λx35=>(if x35 = true then (Rs.bind (Rs.bind (Rs.ok a23) λx40=>(Rs.bind (Rs.bind (Rs.bind (Rs.ok a28) LC) λx38=>(Rs.ok x38.1)) λx41=>(Rs.bind (Rs.bind (Rs.bind (Rs.ok a28) LC) λx39=>(Rs.ok x39.2)) λx42=>(Rs.ok (x40, x41, x42))))) λa43=>(chk (g18.2.length < sizeLine) ((λa45=>(Rs.bind (Rs.ok (a45, a24)) λx46=>(Rs.ok (Ctl.nx x46)))) (g18.2 ++ [a43])))) else (Rs.bind (Rs.bind (Rs.bind (Rs.bind (Rs.ok a23) λx47=>(Rs.ok (x47.length : Int))) λx49=>(Rs.bind (Rs.bind (Rs.ok a_0) λx48=>(Rs.ok (x48.length : Int))) λx50=>(Rs.ok (decide (x49 = x50))))) λx51=>(if x51 = true then (Rs.bind (Rs.bind (Rs.bind (Rs.bind (Rs.ok a23) λx54=>(Rs.ok x54)) λx55=>(Rs.ok (some x55))) λx56=>(Rs.bind (Rs.ok g18.2) λx57=>(Rs.ok (x56, x57)))) λx58=>(Rs.ok (Ctl.ret x58))) else (Rs.bind (Rs.bind (Rs.ok a23) λx61=>(Rs.bind (Rs.bind (Rs.ok a_1) λx60=>(Rs.ok (x60.length : Int))) λx62=>(noE (Yd x61 x62)))) λa63=>(chk (a24.length + a63.length <= sizeLine) ((λa65=>(Rs.bind (Rs.ok (a65)) λx66=>(Rs.ok (Ctl.nx x66)))) (a24 ++ a63)))))) (Zm λg68=>(Rs.bind (Rs.ok (g18.2, g68)) λx69=>(Rs.ok (Ctl.nx x69))))))) (Zm λg71=>(Rs.bind (Rs.ok (g71.2, g71.1)) λx72=>(Rs.ok (Ctl.nx x72))))))) p27.1 p27.2)))) (Z4 λg73=>(Rs.bind (Rs.ok none) λx75=>(Rs.bind (Rs.ok g73.2) λx76=>(Rs.ok (x75, x76))))))))
noncomputable def Qb (a_0 : (List (List Int))) (a_1 : (List (List Int))) : Rs (Option (List Int)):=(Rs.bind (Rs.bind (Rs.ok a_0) λx1=>(Rs.bind (Rs.ok a_1) λx2=>(XT x1 x2))) λx3=>(Rs.bind (Rs.bind (Rs.ok a_0) λx5=>(Rs.bind (Rs.ok a_1) λx6=>(noE (YK x5 x6)))) λx7=>(Rs.ok x7.1)))
noncomputable def Y8 (a_0 : (List (List Int))) (a_1 : (List (List Int))) : Rs (Option (List ((List Int) × Int × Int))):=(Rs.bind (Rs.bind (Rs.ok a_0) λx1=>(Rs.bind (Rs.ok a_1) λx2=>(XT x1 x2))) λx3=>(Rs.bind (Rs.bind (Rs.ok a_0) λx8=>(Rs.bind (Rs.ok a_1) λx9=>(noE (YK x8 x9)))) λa4=>(Rs.bind (Rs.bind (Rs.bind (Rs.ok a4) λx10=>(Rs.ok x10.1)) λx11=>(Rs.ok x11.isSome)) λx12=>(if x12 = true then (Rs.ok none) else (Rs.bind (Rs.bind (Rs.ok a4) λx13=>(Rs.ok x13.2)) λx14=>(Rs.ok (some x14)))))))
noncomputable def Z0 (a_0 : Int) : Rs (List (List (List Int))):=(Rs.bind (Rs.ok []) λa1=>(Rs.bind (Rs.bind (Rs.ok a_0) λx4=>(YN x4)) λx31=>(Rs.bind (forN x31 (a1) (λg7 a9=>(Rs.bind (Rs.bind (Rs.bind (Rs.bind (Rs.ok g7) λx16=>(V0 x16 (λa14=>(Rs.bind (Rs.bind (Rs.ok a14) λx17=>(Rs.bind (Rs.ok a9) λx18=>(noE (Qb x17 x18)))) λx19=>(Rs.ok x19.isNone))))) λx20=>(Rs.ok (x20.all id))) λx21=>(if x21 = true then (Rs.bind (Rs.ok a9) λa24=>(chk (g7.length < sizeLine) ((λa26=>(Rs.ok (a26))) (g7 ++ [a24])))) else (Rs.ok (g7)))) λg28=>(Rs.ok (g28))))) λg29=>(Rs.ok g29))))
noncomputable def XV (a_0 : (List Int)) (a_1 : (List ((List Int) × Bool))) : Rs Bool:=(Rs.bind (Rs.bind (Rs.bind (Rs.bind (Rs.bind (Rs.ok a_0) λx2=>(Rs.ok (x2.length : Int))) λx3=>(Rs.bind (Rs.ok (1 : Int)) λx4=>(Rs.ok (x3 + x4)))) λx5=>(Uy 0 x5)) λx9=>(V0 x9 (λa7=>(Rs.bind (Rs.bind (Rs.bind (Rs.ok a_0) λx11=>(Rs.bind (Rs.ok none) λx12=>(Rs.bind (Rs.bind (Rs.ok a7) λx10=>(Rs.ok (some x10))) λx13=>(Rs.ok (Ff x11 x12 x13))))) λx14=>(Rs.ok x14)) λx15=>(Rs.bind (Rs.ok a_1) λx16=>(Rs.ok (Uq x16 x15).isSome)))))) λx17=>(Rs.ok (x17.any id)))
noncomputable def Y2 (a_0 : (List Int)) (a_1 : Int) : Rs Bool:=(Rs.bind (Rs.ok (0 : Int)) λx2=>(Rs.bind (Rs.ok a_1) λx3=>(if (decide (x2 <= x3)) = true then (Rs.bind (Rs.bind (Rs.ok a_0) λx1=>(Rs.ok (x1.length : Int))) λx4=>(Rs.ok (decide (x3 < x4)))) else Rs.ok false)))
noncomputable def ZZ (a_0 : (List (List Int))) (a_1 : (List (List Int))) (a_2 : ((List Int) × Int × Int)) : Rs Bool:=(Rs.bind (Rs.bind (Rs.ok a_2) λx3=>(Rs.ok x3.1)) λa1=>(Rs.bind (Rs.bind (Rs.ok a_2) λx6=>(Rs.ok x6.2.1)) λa4=>(Rs.bind (Rs.bind (Rs.ok a_2) λx9=>(Rs.ok x9.2.2)) λa7=>(Rs.bind (orR (Rs.bind (Rs.bind (Rs.ok a1) λx10=>(chk (x10.length < 64) (Rs.ok ((dd x10).length : Int)))) λx12=>(Rs.bind (Rs.bind (Rs.ok a1) λx11=>(Rs.ok (x11.length : Int))) λx13=>(Rs.ok (!(decide (x12 = x13)))))) (Rs.bind (Rs.bind (Rs.ok a1) λx16=>(Rs.bind (Rs.bind (Rs.ok a_1) λx15=>(Rs.ok (x15.length : Int))) λx17=>(noE (Yw x16 x17)))) λx18=>(Rs.ok (!x18)))) λx19=>(if x19 = true then (Rs.ok false) else (VI (Rs.bind (Rs.ok a1) λx21=>(Rs.bind (Rs.ok a4) λx22=>(noE (Y2 x21 x22)))) (VI (Rs.bind (Rs.ok a1) λx24=>(Rs.bind (Rs.ok a7) λx25=>(noE (Y2 x24 x25)))) (Rs.bind (Rs.ok a_0) λx27=>(Rs.bind (Rs.ok a_1) λx28=>(Rs.bind (Rs.ok a1) λx29=>(Rs.bind (Rs.ok a4) λx30=>(Rs.bind (Rs.ok a7) λx31=>(noE (Xq x27 x28 x29 x30 x31))))))))))))))
noncomputable def Qn (a_0 : (List (List Int))) (a_1 : (List (List Int))) (a_2 : (List ((List Int) × Int × Int))) : Rs Bool:=(Rs.bind (Rs.bind (Rs.ok a_0) λx1=>(Rs.bind (Rs.ok a_1) λx2=>(XT x1 x2))) λx3=>(Rs.bind (Rs.bind (Rs.bind (Rs.ok a_0) λx4=>(Rs.ok (x4.length : Int))) λx6=>(Rs.bind (Rs.bind (Rs.ok a_1) λx5=>(Rs.ok (x5.length : Int))) λx7=>(Rs.ok (!(decide (x6 = x7)))))) λx8=>(if x8 = true then (Rs.ok true) else (Rs.bind (Rs.bind (Rs.bind (Rs.ok a_2) λx15=>(Bl x15 (λa13=>(Rs.bind (Rs.ok a_0) λx20=>(Rs.bind (Rs.ok a_1) λx21=>(Rs.bind (Rs.ok a13) λx22=>(noE (ZZ x20 x21 x22)))))) (λa13=>(Rs.bind (Rs.bind (Rs.ok a13) λx16=>(Rs.ok x16.1)) λx17=>(Rs.bind (Rs.ok true) λx18=>(Rs.ok (x17, x18))))))) λx11=>(Rs.ok (V4 [] x11))) λa9=>(Rs.bind (Rs.bind (Rs.bind (Rs.bind (Rs.ok a_0) λx25=>(Rs.ok (x25.length : Int))) λx26=>(noE (Ys x26))) λx30=>(V0 x30 (λa28=>(Rs.bind (Rs.ok a28) λx32=>(Rs.bind (Rs.ok a9) λx33=>(noE (XV x32 x33))))))) λx34=>(Rs.ok (x34.all id)))))))
noncomputable def JO (a_0 : (List Int)) (a_1 : Int) : Rs Int:=(Rs.bind (Rs.bind (Rs.ok a_1) λx2=>(Rs.bind (Rs.bind (Rs.ok a_0) λx1=>(Rs.ok (x1.length : Int))) λx3=>(Rs.ok (decide (x2 < x3))))) λx4=>(if x4 = true then (Rs.bind (Rs.ok a_0) λx5=>(Rs.bind (Rs.ok a_1) λx6=>(atR x5 x6))) else (Rs.bind (Rs.ok (5 : Int)) λa7=>(Rs.bind (Rs.bind (Rs.ok a_0) λx10=>(Rs.bind (Rs.ok none) λx11=>(Rs.bind (Rs.bind (Rs.ok (63 : Int)) λx9=>(Rs.ok (some x9))) λx12=>(Rs.ok (Ff x10 x11 x12))))) λx39=>(Rs.bind (forN x39 (a7) (λg15 a17=>(Rs.bind (Rs.bind (Rs.bind (Rs.bind (Rs.bind (Rs.ok g15) λx21=>(Rs.bind (Rs.ok (48271 : Int)) λx22=>(K9 x21 x22))) λx25=>(Rs.bind (Rs.bind (Rs.ok a17) λx23=>(Rs.bind (Rs.ok (1000003 : Int)) λx24=>(Jj x23 x24))) λx26=>(Rs.ok (x25 + x26)))) λx27=>(Rs.bind (Rs.ok (1 : Int)) λx28=>(Rs.ok (x27 + x28)))) λx29=>(Rs.bind (Rs.ok (2147483647 : Int)) λx30=>(Jj x29 x30))) λa19=>(Rs.ok (a19))))) λg31=>(Rs.bind (Rs.bind (Rs.ok g31) λx35=>(Rs.bind (Rs.bind (Rs.ok (7919 : Int)) λx33=>(Rs.bind (Rs.ok a_1) λx34=>(K9 x33 x34))) λx36=>(Rs.ok (x35 + x36)))) λx37=>(Rs.bind (Rs.ok (1000003 : Int)) λx38=>(Jj x37 x38))))))))
noncomputable def Gp (a_0 : Int) (a_1 : Int) : Rs Int:=(Rs.bind (Rs.bind (Rs.bind (Rs.bind (Rs.bind (Rs.bind (Rs.ok a_0) λx3=>(Rs.bind (Rs.ok (2147483629 : Int)) λx4=>(Jj x3 x4))) λx7=>(Rs.bind (Rs.bind (Rs.ok (1013 : Int)) λx5=>(Rs.bind (Rs.ok a_1) λx6=>(K9 x5 x6))) λx8=>(Rs.ok (x7 + x8)))) λx9=>(Rs.bind (Rs.ok (7919 : Int)) λx10=>(Rs.ok (x9 + x10)))) λx11=>(Rs.bind (Rs.ok (3 : Int)) λx12=>(L5 x11 x12))) λx13=>(Rs.bind (Rs.ok (2147483647 : Int)) λx14=>(Jj x13 x14))) λa1=>(Rs.bind (Rs.bind (Rs.bind (Rs.bind (Rs.bind (Rs.ok a1) λx17=>(Rs.bind (Rs.ok (40699 : Int)) λx18=>(K9 x17 x18))) λx23=>(Rs.bind (Rs.bind (Rs.bind (Rs.ok (3793 : Int)) λx19=>(Rs.bind (Rs.ok a_1) λx20=>(K9 x19 x20))) λx21=>(Rs.bind (Rs.ok a_1) λx22=>(K9 x21 x22))) λx24=>(Rs.ok (x23 + x24)))) λx25=>(Rs.bind (Rs.ok (11 : Int)) λx26=>(Rs.ok (x25 + x26)))) λx27=>(Rs.bind (Rs.ok (2147483399 : Int)) λx28=>(Jj x27 x28))) λa15=>(Rs.bind (Rs.ok a15) λx29=>(Rs.bind (Rs.ok (101 : Int)) λx30=>(IM x29 x30)))))
noncomputable def Kg (a_0 : (List Int)) (a_1 : Int) (a_2 : (List Int)) : Rs (List Int):=(Rs.bind (Rs.bind (Rs.ok a_0) λx4=>(Rs.bind (Rs.ok a_1) λx5=>(noE (JO x4 x5)))) λa1=>(Rs.bind (Rs.ok a1) λa6=>(Rs.bind (Rs.ok []) λa8=>(Rs.bind (Rs.bind (Rs.bind (Rs.ok a_2) λx11=>(Rs.ok (x11.length : Int))) λx12=>(Uy 0 x12)) λx81=>(Rs.bind (forN x81 (a8, a6) (λg15 a17=>(Rs.bind (Rs.bind (Rs.bind (Rs.ok a1) λx21=>(Rs.bind (Rs.bind (Rs.ok (10 : Int)) λx19=>(Rs.bind (Rs.ok (18 : Int)) λx20=>(L5 x19 x20))) λx22=>(Rs.ok (decide (x21 < x22))))) λx23=>(if x23 = true then (Rs.bind (Rs.bind (Rs.bind (Rs.ok a1) λx27=>(Rs.bind (Rs.ok a17) λx28=>(noE (Gp x27 x28)))) λx31=>(Rs.bind (Rs.bind (Rs.ok a_2) λx29=>(Rs.bind (Rs.ok a17) λx30=>(atR x29 x30))) λx32=>(Jj x31 x32))) λa33=>(chk (g15.1.length < sizeLine) ((λa35=>(Rs.ok (a35, g15.2))) (g15.1 ++ [a33])))) else (Rs.bind (Rs.bind (Rs.bind (Rs.ok g15.2) λx36=>(Rs.bind (Rs.ok (0 : Int)) λx37=>(Rs.ok (decide (x37 < x36))))) λx38=>(if x38 = true then (Rs.bind (Rs.bind (Rs.ok g15.2) λx43=>(Rs.bind (Rs.bind (Rs.ok a_2) λx41=>(Rs.bind (Rs.ok a17) λx42=>(atR x41 x42))) λx44=>(Jj x43 x44))) λa45=>(chk (g15.1.length < sizeLine) ((λa47=>(Rs.bind (Rs.bind (Rs.ok g15.2) λx52=>(Rs.bind (Rs.bind (Rs.ok a_2) λx50=>(Rs.bind (Rs.ok a17) λx51=>(atR x50 x51))) λx53=>(IM x52 x53))) λa48=>(Rs.ok (a48, a47)))) (g15.1 ++ [a45])))) else (Rs.bind (Rs.bind (Rs.ok a_0) λx63=>(Rs.bind (Rs.bind (Rs.bind (Rs.bind (Rs.ok a_1) λx57=>(Rs.bind (Rs.ok (1 : Int)) λx58=>(Rs.ok (x57 + x58)))) λx59=>(Rs.bind (Rs.ok a17) λx60=>(Rs.ok (x59 + x60)))) λx61=>(Rs.bind (Rs.ok (63 : Int)) λx62=>(Jj x61 x62))) λx64=>(noE (JO x63 x64)))) λa54=>(Rs.bind (Rs.bind (Rs.bind (Rs.ok a54) λx66=>(Rs.bind (Rs.ok a17) λx67=>(noE (Gp x66 x67)))) λx70=>(Rs.bind (Rs.bind (Rs.ok a_2) λx68=>(Rs.bind (Rs.ok a17) λx69=>(atR x68 x69))) λx71=>(Jj x70 x71))) λa72=>(chk (g15.1.length < sizeLine) ((λa74=>(Rs.ok (g15.2, a74))) (g15.1 ++ [a72]))))))) λg76=>(Rs.ok (g76.2, g76.1))))) λg78=>(Rs.ok (g78.1, g78.2))))) λg79=>(Rs.ok g79.1))))))
noncomputable def Zr (a_0 : Int) (a_1 : Int) (a_2 : Int) (a_3 : Int) (a_4 : Int) : Rs Int:=(Rs.bind (Rs.bind (Rs.ok a_1) λx3=>(Rs.bind (Rs.ok (2 : Int)) λx4=>(IM x3 x4))) λa1=>(Rs.bind (Rs.bind (Rs.ok a_0) λx5=>(Rs.bind (Rs.ok (1 : Int)) λx6=>(Rs.ok (decide (x5 = x6))))) λx7=>(if x7 = true then (Rs.bind (Rs.bind (Rs.bind (Rs.ok (2 : Int)) λx8=>(Rs.bind (Rs.ok a_4) λx9=>(K9 x8 x9))) λx10=>(Rs.bind (Rs.ok a_3) λx11=>(Rs.ok (x10 - x11)))) λx12=>(Rs.bind (Rs.ok a_1) λx13=>(Jj x12 x13))) else (Rs.bind (Rs.bind (Rs.ok a_0) λx14=>(Rs.bind (Rs.ok (2 : Int)) λx15=>(Rs.ok (decide (x14 = x15))))) λx16=>(if x16 = true then (Rs.bind (Rs.bind (Rs.bind (Rs.ok a_2) λx17=>(Rs.bind (Rs.ok a_3) λx18=>(K9 x17 x18))) λx23=>(Rs.bind (Rs.bind (Rs.bind (Rs.ok (1 : Int)) λx19=>(Rs.bind (Rs.ok a_2) λx20=>(Rs.ok (x19 - x20)))) λx21=>(Rs.bind (Rs.ok a_4) λx22=>(K9 x21 x22))) λx24=>(Rs.ok (x23 + x24)))) λx25=>(Rs.bind (Rs.ok a_1) λx26=>(Jj x25 x26))) else (Rs.bind (VI (Rs.bind (Rs.ok a_0) λx27=>(Rs.bind (Rs.ok (3 : Int)) λx28=>(Rs.ok (decide (x27 = x28))))) (VI (Rs.bind (Rs.ok a_1) λx29=>(Rs.bind (Rs.ok (2 : Int)) λx30=>(Rs.ok (decide (x30 < x29))))) (VI (Rs.bind (Rs.ok a_3) λx31=>(Rs.bind (Rs.ok (2 : Int)) λx32=>(Rs.ok (decide (x31 < x32))))) (Rs.bind (Rs.ok a_4) λx35=>(Rs.bind (Rs.bind (Rs.ok a_1) λx33=>(Rs.bind (Rs.ok (1 : Int)) λx34=>(Rs.ok (x33 - x34)))) λx36=>(Rs.ok (decide (x35 = x36)))))))) λx37=>(if x37 = true then (Rs.bind (Rs.ok (1 : Int)) λx38=>(Rs.bind (Rs.ok a_3) λx39=>(Rs.ok (x38 - x39)))) else (Rs.bind (VI (Rs.bind (Rs.ok a_0) λx40=>(Rs.bind (Rs.ok (6 : Int)) λx41=>(Rs.ok (decide (x40 = x41))))) (VI (Rs.bind (Rs.ok a_3) λx44=>(Rs.bind (Rs.bind (Rs.ok a_1) λx42=>(Rs.bind (Rs.ok (1 : Int)) λx43=>(Rs.ok (x42 - x43)))) λx45=>(Rs.ok (decide (x44 < x45))))) (Rs.bind (Rs.ok a_4) λx48=>(Rs.bind (Rs.bind (Rs.ok a_1) λx46=>(Rs.bind (Rs.ok (1 : Int)) λx47=>(Rs.ok (x46 - x47)))) λx49=>(Rs.ok (decide (x48 = x49))))))) λx50=>(if x50 = true then (Rs.bind (Rs.bind (Rs.ok a_3) λx51=>(Rs.bind (Rs.ok (1 : Int)) λx52=>(Rs.ok (x51 + x52)))) λx55=>(Rs.bind (Rs.bind (Rs.ok a_1) λx53=>(Rs.bind (Rs.ok (1 : Int)) λx54=>(Rs.ok (x53 - x54)))) λx56=>(Jj x55 x56))) else (Rs.bind (VI (Rs.bind (Rs.ok a_0) λx57=>(Rs.bind (Rs.ok (4 : Int)) λx58=>(Rs.ok (decide (x57 = x58))))) (VI (Rs.bind (Rs.ok a_3) λx59=>(Rs.bind (Rs.ok a1) λx60=>(Rs.ok (decide (x59 < x60))))) (Rs.bind (Rs.ok a_4) λx61=>(Rs.bind (Rs.ok a1) λx62=>(Rs.ok (decide (x61 < x62))))))) λx63=>(if x63 = true then (Rs.bind (Rs.bind (Rs.bind (Rs.ok (2 : Int)) λx64=>(Rs.bind (Rs.ok a_4) λx65=>(K9 x64 x65))) λx66=>(Rs.bind (Rs.ok a_3) λx67=>(Rs.ok (x66 - x67)))) λx68=>(Rs.bind (Rs.ok a1) λx69=>(Jj x68 x69))) else (Rs.bind (VI (Rs.bind (Rs.ok a_0) λx70=>(Rs.bind (Rs.ok (4 : Int)) λx71=>(Rs.ok (decide (x70 = x71))))) (VI (Rs.bind (Rs.ok a_3) λx72=>(Rs.bind (Rs.ok a1) λx73=>(Rs.ok (decide (x73 <= x72))))) (Rs.bind (Rs.ok a_4) λx74=>(Rs.bind (Rs.ok a1) λx75=>(Rs.ok (decide (x75 <= x74))))))) λx76=>(if x76 = true then (Rs.bind (Rs.ok a1) λx87=>(Rs.bind (Rs.bind (Rs.bind (Rs.bind (Rs.bind (Rs.ok (2 : Int)) λx77=>(Rs.bind (Rs.ok a_4) λx78=>(K9 x77 x78))) λx79=>(Rs.bind (Rs.ok a_3) λx80=>(Rs.ok (x79 - x80)))) λx81=>(Rs.bind (Rs.ok a1) λx82=>(Rs.ok (x81 - x82)))) λx85=>(Rs.bind (Rs.bind (Rs.ok a_1) λx83=>(Rs.bind (Rs.ok a1) λx84=>(Rs.ok (x83 - x84)))) λx86=>(Jj x85 x86))) λx88=>(Rs.ok (x87 + x88)))) else (Rs.ok a_3))))))))))))))
noncomputable def Qw (a_0 : Int) (a_1 : Int) : Rs Int:=(Rs.bind (Rs.bind (Rs.ok a_0) λx1=>(Rs.ok (x1.natAbs : Int))) λa3=>(Rs.bind (Rs.bind (Rs.ok a_1) λx2=>(Rs.ok (x2.natAbs : Int))) λa4=>(Rs.bind (Jh (a3.natAbs + a4.natAbs + 2) (a3, a4) (λg9=>(Rs.bind (Rs.ok g9.2) λx11=>(Rs.bind (Rs.ok (0 : Int)) λx12=>(Rs.ok (decide (x12 < x11)))))) (λg9=>(Rs.bind (Rs.ok g9.2) λa15=>(Rs.bind (Rs.bind (Rs.ok g9.1) λx13=>(Rs.bind (Rs.ok g9.2) λx14=>(Jj x13 x14))) λa16=>(Rs.ok (a15, a16)))))) λg19=>(Rs.ok g19.1))))
noncomputable def Jk (a_0 : Int) (a_1 : Int) (a_2 : Int) : Rs (List (List Int)):=(Rs.bind (VI (Rs.bind (Rs.ok a_0) λx1=>(Rs.bind (Rs.ok (5 : Int)) λx2=>(Rs.ok (decide (x1 = x2))))) (Rs.bind (Rs.ok a_1) λx3=>(Rs.bind (Rs.ok (4 : Int)) λx4=>(Rs.ok (decide (x3 = x4)))))) λx5=>(if x5 = true then (Rs.bind (Rs.bind (Rs.bind (Rs.bind (Rs.ok (0 : Int)) λx14=>(Rs.bind (Rs.bind (Rs.ok (3 : Int)) λx12=>(Rs.bind (Rs.bind (Rs.ok (1 : Int)) λx10=>(Rs.bind (Rs.bind (Rs.ok (2 : Int)) λx8=>(Rs.bind (Rs.ok []) λx9=>(Rs.ok (x8 :: x9)))) λx11=>(Rs.ok (x10 :: x11)))) λx13=>(Rs.ok (x12 :: x13)))) λx15=>(Rs.ok (x14 :: x15)))) λx7=>(chk (x7.length <= sizeLine) (Rs.ok x7))) λx49=>(Rs.bind (Rs.bind (Rs.bind (Rs.bind (Rs.ok (2 : Int)) λx23=>(Rs.bind (Rs.bind (Rs.ok (1 : Int)) λx21=>(Rs.bind (Rs.bind (Rs.ok (3 : Int)) λx19=>(Rs.bind (Rs.bind (Rs.ok (0 : Int)) λx17=>(Rs.bind (Rs.ok []) λx18=>(Rs.ok (x17 :: x18)))) λx20=>(Rs.ok (x19 :: x20)))) λx22=>(Rs.ok (x21 :: x22)))) λx24=>(Rs.ok (x23 :: x24)))) λx16=>(chk (x16.length <= sizeLine) (Rs.ok x16))) λx47=>(Rs.bind (Rs.bind (Rs.bind (Rs.bind (Rs.ok (3 : Int)) λx32=>(Rs.bind (Rs.bind (Rs.ok (0 : Int)) λx30=>(Rs.bind (Rs.bind (Rs.ok (2 : Int)) λx28=>(Rs.bind (Rs.bind (Rs.ok (1 : Int)) λx26=>(Rs.bind (Rs.ok []) λx27=>(Rs.ok (x26 :: x27)))) λx29=>(Rs.ok (x28 :: x29)))) λx31=>(Rs.ok (x30 :: x31)))) λx33=>(Rs.ok (x32 :: x33)))) λx25=>(chk (x25.length <= sizeLine) (Rs.ok x25))) λx45=>(Rs.bind (Rs.bind (Rs.bind (Rs.bind (Rs.ok (1 : Int)) λx41=>(Rs.bind (Rs.bind (Rs.ok (2 : Int)) λx39=>(Rs.bind (Rs.bind (Rs.ok (0 : Int)) λx37=>(Rs.bind (Rs.bind (Rs.ok (3 : Int)) λx35=>(Rs.bind (Rs.ok []) λx36=>(Rs.ok (x35 :: x36)))) λx38=>(Rs.ok (x37 :: x38)))) λx40=>(Rs.ok (x39 :: x40)))) λx42=>(Rs.ok (x41 :: x42)))) λx34=>(chk (x34.length <= sizeLine) (Rs.ok x34))) λx43=>(Rs.bind (Rs.ok []) λx44=>(Rs.ok (x43 :: x44)))) λx46=>(Rs.ok (x45 :: x46)))) λx48=>(Rs.ok (x47 :: x48)))) λx50=>(Rs.ok (x49 :: x50)))) λx6=>(chk (x6.length <= sizeLine) (Rs.ok x6))) else (Rs.bind (Jh (a_1.natAbs + 2) (a_2) (λg53=>(Rs.bind (Rs.bind (Rs.ok g53) λx56=>(Rs.bind (Rs.ok a_1) λx57=>(noE (Qw x56 x57)))) λx58=>(Rs.bind (Rs.ok (1 : Int)) λx59=>(Rs.ok (!(decide (x58 = x59))))))) (λg53=>(Rs.bind (Rs.bind (Rs.ok g53) λx62=>(Rs.bind (Rs.ok (1 : Int)) λx63=>(Rs.ok (x62 + x63)))) λa60=>(Rs.ok (a60))))) λg64=>(Rs.bind (Rs.ok []) λa66=>(Rs.bind (Rs.bind (Rs.ok a_1) λx69=>(Uy 0 x69)) λx92=>(Rs.bind (forN x92 (a66) (λg72 a74=>(Rs.bind (Rs.bind (Rs.bind (Rs.ok a_1) λx76=>(Uy 0 x76)) λx80=>(V0 x80 (λa78=>(Rs.bind (Rs.ok a_0) λx82=>(Rs.bind (Rs.ok a_1) λx83=>(Rs.bind (Rs.ok g64) λx84=>(Rs.bind (Rs.ok a74) λx85=>(Rs.bind (Rs.ok a78) λx86=>(noE (Zr x82 x83 x84 x85 x86)))))))))) λa87=>(chk (g72.length < sizeLine) ((λa89=>(Rs.ok (a89))) (g72 ++ [a87])))))) λg90=>(Rs.ok g90)))))))
noncomputable def ZT (a_0 : (List Int)) (a_1 : Int) : Rs (List Int):=(Rs.bind (Rs.bind (Rs.ok a_1) λx4=>(chk (0 <= x4 /\ x4 <= 1000) (Rs.ok (Qk 0 x4)))) λa1=>(Rs.bind (Rs.ok []) λa5=>(Rs.bind (Rs.bind (Rs.ok a_1) λx8=>(Uy 0 x8)) λx29=>(Rs.bind (forN x29 (a5, a1) (λg11 a13=>(Rs.bind (Rs.bind (Rs.bind (Rs.ok a_0) λx15=>(Rs.bind (Rs.ok a13) λx16=>(atR x15 x16))) λx18=>(Rs.bind (Rs.bind (Rs.ok g11.2) λx17=>(Rs.ok (x17.length : Int))) λx19=>(Jj x18 x19))) λx25=>(Rs.bind (BP g11.2 x25) λp26=>(chk (g11.1.length < sizeLine) ((λa21 a22=>(Rs.ok (a22, a21))) p26.2 (g11.1 ++ [p26.1]))))))) λg27=>(Rs.ok g27.1)))))
noncomputable def QA (a_0 : (List (List Int))) (a_1 : (List Int)) : Rs (List (List Int)):=(Rs.bind (Rs.bind (Rs.ok a_0) λx7=>(V0 x7 (λa5=>(Rs.bind (Rs.ok a5) λx8=>(Rs.ok x8))))) λa1=>(Rs.bind (Rs.bind (Rs.bind (Rs.ok a_0) λx9=>(Rs.ok (x9.length : Int))) λx10=>(Uy 0 x10)) λx47=>(Rs.bind (forN x47 (a1) (λg13 a15=>(Rs.bind (Rs.bind (Rs.bind (Rs.ok a_0) λx17=>(Rs.ok (x17.length : Int))) λx18=>(Uy 0 x18)) λx44=>(Rs.bind (forN x44 (g13) (λg21 a23=>(Rs.bind (Rs.bind (Rs.ok a_1) λx29=>(Rs.bind (Rs.bind (Rs.bind (Rs.ok a_0) λx25=>(Rs.bind (Rs.ok a15) λx26=>(atR x25 x26))) λx27=>(Rs.bind (Rs.ok a23) λx28=>(atR x27 x28))) λx30=>(atR x29 x30))) λx35=>(Rs.bind (Rs.bind (Rs.ok a_1) λx31=>(Rs.bind (Rs.ok a15) λx32=>(atR x31 x32))) λx36=>(Rs.bind (atR g21 x36) λx40=>(Rs.bind (Rs.bind (Rs.ok a_1) λx33=>(Rs.bind (Rs.ok a23) λx34=>(atR x33 x34))) λx37=>(Rs.bind (KO x40 x37 x35) λx41=>(Rs.bind (KO g21 x36 x41) λa38=>(Rs.ok (a38)))))))))) λg42=>(Rs.ok (g42)))))) λg45=>(Rs.ok g45))))
noncomputable def QN (a_0 : (List Int)) (a_1 : Int) (a_2 : Int) : Rs (List (List Int)):=(Rs.bind (Rs.bind (Rs.ok a_0) λx20=>(Rs.bind (Rs.ok a_1) λx21=>(Rs.bind (Rs.bind (Rs.bind (Rs.bind (Rs.ok (7 : Int)) λx13=>(Rs.bind (Rs.bind (Rs.ok (24 : Int)) λx11=>(Rs.bind (Rs.bind (Rs.ok (6 : Int)) λx9=>(Rs.bind (Rs.bind (Rs.ok (2 : Int)) λx7=>(Rs.bind (Rs.ok []) λx8=>(Rs.ok (x7 :: x8)))) λx10=>(Rs.ok (x9 :: x10)))) λx12=>(Rs.ok (x11 :: x12)))) λx14=>(Rs.ok (x13 :: x14)))) λx6=>(chk (x6.length <= sizeLine) (Rs.ok x6))) λx4=>(Rs.bind (Rs.bind (Rs.bind (Rs.bind (Rs.ok (24 : Int)) λx18=>(Rs.bind (Rs.ok []) λx19=>(Rs.ok (x18 :: x19)))) λx17=>(chk (x17.length <= sizeLine) (Rs.ok x17))) λx15=>(Rs.bind (Rs.ok (24 : Int)) λx16=>(MY x15 x16))) λx5=>(ID x4 x5))) λx22=>(noE (Kg x20 x21 x22))))) λa1=>(Rs.bind (Rs.bind (Rs.ok (1 : Int)) λx29=>(Rs.bind (Rs.bind (Rs.bind (Rs.ok a1) λx25=>(Rs.bind (Rs.ok (1 : Int)) λx26=>(atR x25 x26))) λx27=>(Rs.bind (Rs.ok a_2) λx28=>(Jj x27 x28))) λx30=>(Rs.ok (x29 + x30)))) λa23=>(Rs.bind (Rs.bind (Rs.bind (Rs.ok a1) λx35=>(Rs.bind (Rs.ok (0 : Int)) λx36=>(atR x35 x36))) λx41=>(Rs.bind (Rs.ok a23) λx42=>(Rs.bind (Rs.bind (Rs.ok (2 : Int)) λx39=>(Rs.bind (Rs.bind (Rs.ok a1) λx37=>(Rs.bind (Rs.ok (2 : Int)) λx38=>(atR x37 x38))) λx40=>(Rs.ok (x39 + x40)))) λx43=>(noE (Jk x41 x42 x43))))) λa31=>(Rs.bind (Rs.bind (Rs.bind (Rs.ok a1) λx44=>(Rs.bind (Rs.ok (3 : Int)) λx45=>(atR x44 x45))) λx46=>(Rs.bind (Rs.ok (0 : Int)) λx47=>(Rs.ok (decide (x46 = x47))))) λx48=>(if x48 = true then (Rs.ok a31) else (Rs.bind (Rs.ok a31) λx57=>(Rs.bind (Rs.bind (Rs.bind (Rs.ok a1) λx52=>(Rs.bind (Rs.bind (Rs.ok (4 : Int)) λx51=>(Rs.ok (some x51))) λx53=>(Rs.bind (Rs.ok none) λx54=>(Rs.ok (Ff x52 x53 x54))))) λx55=>(Rs.bind (Rs.ok a23) λx56=>(noE (ZT x55 x56)))) λx58=>(noE (QA x57 x58)))))))))
noncomputable def ZL (a_0 : Int) (a_1 : (List (List Int))) (a_2 : (List (List Int))) (a_3 : (List ((List Int) × Int × Int))) (a_4 : Int) : Rs Bool:=(Rs.bind (Rs.bind (Rs.bind (Rs.ok a_0) λx1=>(Rs.bind (Rs.ok (0 : Int)) λx2=>(Rs.ok (decide (x1 = x2))))) λx3=>(if x3 = true then (Rs.bind (Rs.bind (Rs.ok a_1) λx6=>(Rs.bind (Rs.ok a_2) λx7=>(Qb x6 x7))) λx8=>(Rs.ok ())) else (Rs.ok ()))) λg10=>(Rs.bind (Rs.bind (Rs.bind (Rs.ok a_0) λx11=>(Rs.bind (Rs.ok (1 : Int)) λx12=>(Rs.ok (decide (x11 = x12))))) λx13=>(if x13 = true then (Rs.bind (Rs.bind (Rs.ok a_1) λx16=>(Rs.bind (Rs.ok a_2) λx17=>(Y8 x16 x17))) λx18=>(Rs.ok ())) else (Rs.ok ()))) λg20=>(Rs.bind (Rs.bind (Rs.bind (Rs.ok a_0) λx21=>(Rs.bind (Rs.ok (2 : Int)) λx22=>(Rs.ok (decide (x21 = x22))))) λx23=>(if x23 = true then (Rs.bind (Rs.bind (Rs.ok a_1) λx26=>(Rs.bind (Rs.ok a_2) λx27=>(Rs.bind (Rs.ok a_3) λx28=>(Qn x26 x27 x28)))) λx29=>(Rs.ok ())) else (Rs.ok ()))) λg31=>(Rs.bind (Rs.bind (Rs.bind (Rs.ok a_0) λx32=>(Rs.bind (Rs.ok (3 : Int)) λx33=>(Rs.ok (decide (x32 = x33))))) λx34=>(if x34 = true then (Rs.bind (Rs.bind (Rs.ok a_4) λx37=>(YN x37)) λx38=>(Rs.ok ())) else (Rs.ok ()))) λg40=>(Rs.bind (Rs.bind (Rs.bind (Rs.ok a_0) λx41=>(Rs.bind (Rs.ok (4 : Int)) λx42=>(Rs.ok (decide (x41 = x42))))) λx43=>(if x43 = true then (Rs.bind (Rs.bind (Rs.ok a_4) λx46=>(Z0 x46)) λx47=>(Rs.ok ())) else (Rs.ok ()))) λg49=>(Rs.ok true))))))
noncomputable def ZQ (a_0 : Int) (a_1 : (List (List Int))) (a_2 : (List (List Int))) (a_3 : (List ((List Int) × Int × Int))) (a_4 : Int) : Rs Bool:=(Rs.tryC (Rs.bind (Rs.ok a_0) λx3=>(Rs.bind (Rs.ok a_1) λx4=>(Rs.bind (Rs.ok a_2) λx5=>(Rs.bind (Rs.ok a_3) λx6=>(Rs.bind (Rs.ok a_4) λx7=>(ZL x3 x4 x5 x6 x7)))))) (λ_=>(Rs.ok false)) (λx1=>(chk (cau Xy x1.cls "PlaitError" = true) (VI (Rs.ok (QD x1.cls "TooBig")) (VI (Rs.ok true) (Rs.bind (Rs.ok (QD x1.cls "NoUnit")) λx2=>(Rs.ok (!x2))))))))
noncomputable def K1 (a_0 : (List Int)) : Rs Bool:=(Rs.bind (Rs.bind (Rs.ok a_0) λx25=>(Rs.bind (Rs.ok (2 : Int)) λx26=>(Rs.bind (Rs.bind (Rs.bind (Rs.ok (36 : Int)) λx23=>(Rs.bind (Rs.bind (Rs.ok (3 : Int)) λx21=>(Rs.bind (Rs.bind (Rs.ok (6 : Int)) λx19=>(Rs.bind (Rs.bind (Rs.ok (6 : Int)) λx17=>(Rs.bind (Rs.bind (Rs.ok (18 : Int)) λx15=>(Rs.bind (Rs.bind (Rs.ok (5 : Int)) λx13=>(Rs.bind (Rs.bind (Rs.bind (Rs.ok (10 : Int)) λx5=>(Rs.bind (Rs.ok (59 : Int)) λx6=>(L5 x5 x6))) λx11=>(Rs.bind (Rs.bind (Rs.ok (2 : Int)) λx9=>(Rs.bind (Rs.bind (Rs.ok (7 : Int)) λx7=>(Rs.bind (Rs.ok []) λx8=>(Rs.ok (x7 :: x8)))) λx10=>(Rs.ok (x9 :: x10)))) λx12=>(Rs.ok (x11 :: x12)))) λx14=>(Rs.ok (x13 :: x14)))) λx16=>(Rs.ok (x15 :: x16)))) λx18=>(Rs.ok (x17 :: x18)))) λx20=>(Rs.ok (x19 :: x20)))) λx22=>(Rs.ok (x21 :: x22)))) λx24=>(Rs.ok (x23 :: x24)))) λx4=>(chk (x4.length <= sizeLine) (Rs.ok x4))) λx27=>(noE (Kg x25 x26 x27))))) λa1=>(Rs.bind (Rs.bind (Rs.ok a_0) λx31=>(Rs.bind (Rs.ok (0 : Int)) λx32=>(Rs.bind (Rs.ok (6 : Int)) λx33=>(noE (QN x31 x32 x33))))) λa28=>(Rs.bind (Rs.bind (Rs.bind (Rs.ok a1) λx37=>(Rs.bind (Rs.ok (8 : Int)) λx38=>(atR x37 x38))) λx47=>(Rs.bind (Rs.bind (Rs.ok (7 : Int)) λx41=>(Rs.bind (Rs.bind (Rs.ok a1) λx39=>(Rs.bind (Rs.ok (4 : Int)) λx40=>(atR x39 x40))) λx42=>(Rs.ok (x41 + x42)))) λx48=>(Rs.bind (Rs.bind (Rs.ok (1 : Int)) λx45=>(Rs.bind (Rs.bind (Rs.ok a1) λx43=>(Rs.bind (Rs.ok (2 : Int)) λx44=>(atR x43 x44))) λx46=>(Rs.ok (x45 + x46)))) λx49=>(noE (Jk x47 x48 x49))))) λa34=>(Rs.bind (Rs.bind (Rs.bind (Rs.bind (Rs.bind (Rs.ok (5 : Int)) λx55=>(Rs.bind (Rs.bind (Rs.ok a1) λx53=>(Rs.bind (Rs.ok (0 : Int)) λx54=>(atR x53 x54))) λx56=>(Rs.ok (x55 + x56)))) λx63=>(Rs.bind (Rs.bind (Rs.bind (Rs.ok (5 : Int)) λx59=>(Rs.bind (Rs.bind (Rs.ok a1) λx57=>(Rs.bind (Rs.ok (6 : Int)) λx58=>(atR x57 x58))) λx60=>(Rs.ok (x59 + x60)))) λx61=>(Rs.bind (Rs.ok []) λx62=>(Rs.ok (x61 :: x62)))) λx64=>(Rs.ok (x63 :: x64)))) λx52=>(chk (x52.length <= sizeLine) (Rs.ok x52))) λx67=>(Rs.bind (Rs.bind (Rs.ok a1) λx65=>(Rs.bind (Rs.ok (7 : Int)) λx66=>(atR x65 x66))) λx68=>(atR x67 x68))) λa50=>(Rs.bind (Rs.bind (Rs.bind (Rs.bind (Rs.ok a28) λx75=>(V0 x75 (λa73=>(Rs.bind (Rs.ok a73) λx76=>(Rs.ok x76))))) λx84=>(Rs.bind (Rs.bind (Rs.bind (Rs.ok a34) λx80=>(V0 x80 (λa78=>(Rs.bind (Rs.ok a78) λx81=>(Rs.ok x81))))) λx82=>(Rs.bind (Rs.ok []) λx83=>(Rs.ok (x82 :: x83)))) λx85=>(Rs.ok (x84 :: x85)))) λx71=>(chk (x71.length <= sizeLine) (Rs.ok x71))) λa69=>(Rs.bind (Rs.bind (Rs.bind (Rs.bind (Rs.ok []) λx127=>(Rs.bind (Rs.bind (Rs.bind (Rs.bind (Rs.bind (Rs.bind (Rs.bind (Rs.ok (0 : Int)) λx90=>(Rs.bind (Rs.ok []) λx91=>(Rs.ok (x90 :: x91)))) λx92=>(chk (x92.length <= sizeLine) (Rs.ok x92))) λx93=>(Rs.bind (Rs.ok (0 : Int)) λx94=>(Rs.bind (Rs.ok (0 : Int)) λx95=>(Rs.ok (x93, x94, x95))))) λx96=>(Rs.bind (Rs.ok []) λx97=>(Rs.ok (x96 :: x97)))) λx89=>(chk (x89.length <= sizeLine) (Rs.ok x89))) λx125=>(Rs.bind (Rs.bind (Rs.bind (Rs.bind (Rs.bind (Rs.bind (Rs.bind (Rs.bind (Rs.ok a1) λx99=>(Rs.bind (Rs.ok (2 : Int)) λx100=>(atR x99 x100))) λx105=>(Rs.bind (Rs.bind (Rs.bind (Rs.ok a1) λx101=>(Rs.bind (Rs.ok (3 : Int)) λx102=>(atR x101 x102))) λx103=>(Rs.bind (Rs.ok []) λx104=>(Rs.ok (x103 :: x104)))) λx106=>(Rs.ok (x105 :: x106)))) λx107=>(chk (x107.length <= sizeLine) (Rs.ok x107))) λx108=>(Rs.bind (Rs.ok (0 : Int)) λx109=>(Rs.bind (Rs.ok (1 : Int)) λx110=>(Rs.ok (x108, x109, x110))))) λx121=>(Rs.bind (Rs.bind (Rs.bind (Rs.bind (Rs.bind (Rs.ok (1 : Int)) λx113=>(Rs.bind (Rs.bind (Rs.ok (1 : Int)) λx111=>(Rs.bind (Rs.ok []) λx112=>(Rs.ok (x111 :: x112)))) λx114=>(Rs.ok (x113 :: x114)))) λx115=>(chk (x115.length <= sizeLine) (Rs.ok x115))) λx116=>(Rs.bind (Rs.ok (5 : Int)) λx117=>(Rs.bind (Rs.ok (5 : Int)) λx118=>(Rs.ok (x116, x117, x118))))) λx119=>(Rs.bind (Rs.ok []) λx120=>(Rs.ok (x119 :: x120)))) λx122=>(Rs.ok (x121 :: x122)))) λx98=>(chk (x98.length <= sizeLine) (Rs.ok x98))) λx123=>(Rs.bind (Rs.ok []) λx124=>(Rs.ok (x123 :: x124)))) λx126=>(Rs.ok (x125 :: x126)))) λx128=>(Rs.ok (x127 :: x128)))) λx88=>(chk (x88.length <= sizeLine) (Rs.ok x88))) λx131=>(Rs.bind (Rs.bind (Rs.ok a1) λx129=>(Rs.bind (Rs.ok (1 : Int)) λx130=>(atR x129 x130))) λx132=>(atR x131 x132))) λa86=>(Rs.bind (Rs.bind (Rs.bind (Rs.bind (Rs.ok a28) λx136=>(Rs.bind (Rs.ok a34) λx137=>(Rs.ok (x136, x137)))) λx146=>(Rs.bind (Rs.bind (Rs.bind (Rs.ok a34) λx138=>(Rs.bind (Rs.ok a28) λx139=>(Rs.ok (x138, x139)))) λx144=>(Rs.bind (Rs.bind (Rs.bind (Rs.ok a34) λx140=>(Rs.bind (Rs.ok a34) λx141=>(Rs.ok (x140, x141)))) λx142=>(Rs.bind (Rs.ok []) λx143=>(Rs.ok (x142 :: x143)))) λx145=>(Rs.ok (x144 :: x145)))) λx147=>(Rs.ok (x146 :: x147)))) λx135=>(chk (x135.length <= sizeLine) (Rs.ok x135))) λa133=>(Rs.bind (Rs.bind (Rs.ok (5 : Int)) λx148=>(Uy 0 x148)) λx211=>(Rs.bind (forC x211 () (λg151 a153=>(Rs.bind (Rs.bind (Rs.bind (Rs.ok a153) λx159=>(Rs.bind (Rs.bind (Rs.ok a1) λx157=>(Rs.bind (Rs.ok (5 : Int)) λx158=>(atR x157 x158))) λx160=>(Rs.ok (x159 + x160)))) λx161=>(Rs.bind (Rs.ok (5 : Int)) λx162=>(Jj x161 x162))) λa155=>(Rs.bind (Rs.bind (Rs.ok a133) λx167=>(Rs.bind (Rs.bind (Rs.bind (Rs.ok a1) λx163=>(Rs.bind (Rs.ok (3 : Int)) λx164=>(atR x163 x164))) λx165=>(Rs.bind (Rs.ok (3 : Int)) λx166=>(Jj x165 x166))) λx168=>(atR x167 x168))) λa169=>(Rs.bind (Rs.bind (Rs.ok a86) λx174=>(Rs.ok x174)) λa172=>(Rs.bind (orR (Rs.bind (Rs.bind (Rs.ok a155) λx176=>(Rs.bind (Rs.ok a169.1) λx177=>(Rs.bind (Rs.ok a169.2) λx178=>(Rs.bind (Rs.ok a172) λx179=>(Rs.bind (Rs.ok a50) λx180=>(noE (ZQ x176 x177 x178 x179 x180))))))) λx181=>(Rs.ok (!x181))) (Rs.bind (Rs.ok a172) λx182=>(Rs.bind (Rs.ok a86) λx183=>(Rs.ok (!(decide (x182 = x183))))))) λx184=>(if x184 = true then (Rs.bind (Rs.ok false) λx202=>(Rs.ok (Ctl.ret x202))) else (Rs.bind (orR (Rs.bind (Rs.bind (Rs.ok a155) λx186=>(Rs.bind (Rs.ok a28) λx187=>(Rs.bind (Rs.ok a28) λx188=>(Rs.bind (Rs.bind (Rs.ok a86) λx185=>(Rs.ok x185)) λx189=>(Rs.bind (Rs.ok (1 : Int)) λx190=>(noE (ZL x186 x187 x188 x189 x190))))))) λx191=>(Rs.ok (!x191))) (Rs.bind (Rs.bind (Rs.bind (Rs.ok a28) λx195=>(Rs.bind (Rs.bind (Rs.ok a34) λx193=>(Rs.bind (Rs.ok []) λx194=>(Rs.ok (x193 :: x194)))) λx196=>(Rs.ok (x195 :: x196)))) λx192=>(chk (x192.length <= sizeLine) (Rs.ok x192))) λx197=>(Rs.bind (Rs.ok a69) λx198=>(Rs.ok (!(decide (x197 = x198))))))) λx199=>(if x199 = true then (Rs.bind (Rs.ok false) λx201=>(Rs.ok (Ctl.ret x201))) else (Rs.bind (Rs.ok ()) λx200=>(Rs.ok (Ctl.nx x200)))))))))))) (Z4 λg203=>(VI (Rs.bind (Rs.bind (Rs.ok a28) λx205=>(Rs.bind (Rs.ok a28) λx206=>(noE (Qb x205 x206)))) λx207=>(Rs.ok x207.isSome)) (Rs.bind (Rs.bind (Rs.ok a28) λx208=>(Rs.bind (Rs.ok a28) λx209=>(noE (Y8 x208 x209)))) λx210=>(Rs.ok x210.isNone)))))))))))))
end My
namespace L2
open PySem
section
variable {α β γ ρ : Type}
theorem Rs.okb (a : α) (f : α -> Rs β) : (Rs.ok a).bind f = f a:=(Eq.refl (f a)).symm.symm
theorem Dk {f : α -> Rs β} {h : α -> β} : ∀ {as : List α}, (∀ a ∈ as, f a = .ok (h a)) -> FY as f = .ok (as.map h)
  | [], _=>rfl
  | a :: as, hf=>by
    show (f a).bind _ = _
    rw [hf a (by simp), Rs.ok_bind, Dk λb hb=>hf b (by simp [hb])]; rfl
theorem JV {f : α -> Rs β} {h : α -> β} {as : List α} (hl : as.length <= sizeLine) (hf : ∀ a ∈ as, f a = .ok (h a)) : V0 as f = .ok (as.map h):=by
  unfold V0; rw [XG hl]; exact Dk hf
theorem DA {c : α -> Rs Bool} {f : α -> Rs β} {p : α -> Bool} {h : α -> β} : ∀ {as : List α}, (∀ a ∈ as, c a = .ok (p a)) -> (∀ a ∈ as, p a = true -> f a = .ok (h a)) -> VE as c f = .ok ((as.filter p).map h)
  | [], _, _=>rfl
  | a :: as, hc, hf=>by
    show (c a).bind _ = _
    rw [hc a (by simp), Rs.ok_bind]
    have ih:=DA (as:=as) (λb hb=>hc b (by simp [hb])) λb hb=>hf b (by simp [hb])
    cases hp : p a with
    | false=>rw [if_neg (by simp), ih, List.filter_cons, hp]; rfl
    | true=>rw [if_pos rfl, hf a (by simp) hp, Rs.ok_bind, ih, List.filter_cons, hp]; rfl
theorem Hh {c : α -> Rs Bool} {f : α -> Rs β} {p : α -> Bool} {h : α -> β} {as : List α} (hl : as.length <= sizeLine) (hc : ∀ a ∈ as, c a = .ok (p a)) (hf : ∀ a ∈ as, p a = true -> f a = .ok (h a)) : Bl as c f = .ok ((as.filter p).map h):=by
  unfold Bl; rw [XG hl]; exact DA hc hf
theorem KI {f : γ -> α -> Rs γ} (P : Nat -> γ -> Prop) : ∀ (as : List α) (k : Nat) (g : γ), P k g -> (∀ i a g, as[i]? = some a -> P (k + i) g -> ∃ g', f g a = .ok g' /\ P (k + i + 1) g') -> ∃ g', forN as g f = .ok g' /\ P (k + as.length) g'
  | [], k, g, h0, _=>⟨g, rfl, h0⟩
  | a :: as, k, g, h0, hs=>by
    obtain ⟨g1, e1, p1⟩:=hs 0 a g rfl h0
    obtain ⟨g2, e2, p2⟩:=KI P as (k + 1) g1 p1 λi b g hb hp=>by
      obtain ⟨g', e', p'⟩:=hs (i + 1) b g (by simpa using hb) (by rw [show k + (i + 1) = k + 1 + i by lia]; exact hp)
      exact ⟨g', e', by rw [show k + 1 + i + 1 = k + (i + 1) + 1 by lia]; exact p'⟩
    refine ⟨g2, ?_, by rw [List.length_cons, show k + (as.length + 1) = k + 1 + as.length by lia]; exact p2⟩
    show (f g a).bind _ = _
    rw [e1, Rs.ok_bind]; exact e2
theorem G9 {f : γ -> α -> Rs γ} (P : Nat -> γ -> Prop) {as : List α} {g : γ} (h0 : P 0 g) (hs : ∀ i a g, as[i]? = some a -> P i g -> ∃ g', f g a = .ok g' /\ P (i + 1) g') : ∃ g', forN as g f = .ok g' /\ P as.length g':=by
  have:=KI P as 0 g h0 (by simpa using hs)
  simpa using this
theorem U3 {f : List β -> α -> Rs (List β)} {h : α -> β} : ∀ {as : List α} {g : List β}, g.length + as.length <= sizeLine -> (∀ g : List β, g.length < sizeLine -> ∀ a ∈ as, f g a = .ok (g ++ [h a])) -> forN as g f = .ok (g ++ as.map h)
  | [], g, _, _=>by simp [forN]
  | a :: as, g, hl, hf=>by
    show (f g a).bind _ = _
    rw [List.length_cons] at hl
    rw [hf g (by lia) a (by simp), Rs.ok_bind, U3 (by simp; lia) λg hg b hb=>hf g hg b (by simp [hb])]
    simp
theorem G5 {f : γ -> α -> Rs (Ctl ρ γ)} : ∀ {as : List α} {g : γ}, (∀ a ∈ as, f g a = .ok (.nx g)) -> forC as g f = .ok (.nx g)
  | [], _, _=>rfl
  | a :: as, g, hf=>by
    show (f g a).bind _ = _
    rw [hf a (by simp), Rs.ok_bind]
    exact G5 λb hb=>hf b (by simp [hb])
theorem Kz {f : γ -> α -> Rs (Ctl ρ γ)} (P : Nat -> γ -> Prop) : ∀ (as : List α) (k : Nat) (g : γ), P k g -> (∀ i a g, as[i]? = some a -> P (k + i) g -> ∃ g', f g a = .ok (.nx g') /\ P (k + i + 1) g') -> ∃ g', forC as g f = .ok (.nx g') /\ P (k + as.length) g'
  | [], k, g, h0, _=>⟨g, rfl, h0⟩
  | a :: as, k, g, h0, hs=>by
    obtain ⟨g1, e1, p1⟩:=hs 0 a g rfl h0
    obtain ⟨g2, e2, p2⟩:=Kz P as (k + 1) g1 p1 λi b g hb hp=>by
      obtain ⟨g', e', p'⟩:=hs (i + 1) b g (by simpa using hb) (by rw [show k + (i + 1) = k + 1 + i by lia]; exact hp)
      exact ⟨g', e', by rw [show k + 1 + i + 1 = k + (i + 1) + 1 by lia]; exact p'⟩
    refine ⟨g2, ?_, by rw [List.length_cons, show k + (as.length + 1) = k + 1 + as.length by lia]; exact p2⟩
    show (f g a).bind _ = _
    rw [e1, Rs.ok_bind]; exact e2
theorem B8 {f : γ -> α -> Rs (Ctl ρ γ)} (P : Nat -> γ -> Prop) {as : List α} {g : γ} (h0 : P 0 g) (hs : ∀ i a g, as[i]? = some a -> P i g -> ∃ g', f g a = .ok (.nx g') /\ P (i + 1) g') : ∃ g', forC as g f = .ok (.nx g') /\ P as.length g':=by
  have:=Kz P as 0 g h0 (by simpa using hs)
  simpa using this
theorem YH {a b : Int} (h : 0 < b) : Jj a b = .ok (a % b):=XG h
theorem UO {a b : Int} (h1 : -(2 ^ 64) < a) (h2 : a < 2 ^ 64) : K9 a b = .ok (a * b):=XG (.inl ⟨h1, h2⟩)
theorem J1 {a b : Int} (h1 : -(2 ^ 64) < b) (h2 : b < 2 ^ 64) : K9 a b = .ok (a * b):=XG (.inr ⟨h1, h2⟩)
theorem CA {a b : Int} (h : 0 < b) (h2 : b < 2 ^ 250) : IM a b = .ok (a / b):=XG ⟨h, by
  have h3 : b.natAbs < 2 ^ 250:=by lia
  rcases Nat.eq_zero_or_pos b.natAbs with h0 | h0
  . lia
  . have := (Nat.log2_lt (by lia)).mpr h3
    lia⟩
theorem Dv {a b : Int} (h0 : 0 <= b) (h1 : b <= 1000000) (h2 : -(2 ^ 64) < a) (h3 : a < 2 ^ 64) : L5 a b = .ok (a ^ b.toNat):=XG ⟨h0, h1, by lia⟩
theorem QF {as : List α} {i : Nat} {a : α} (h : as[i]? = some a) : atR as (i : Int) = .ok a:=by
  have hlt:=(List.getElem?_eq_some_iff.mp h).1
  unfold atR atI ixN
  rw [if_pos (by lia), if_pos (by lia)]
  simp [h]
theorem Mo {as : List α} {i : Int} {a : α} (h0 : 0 <= i) (h : as[i.toNat]? = some a) : atR as i = .ok a:=by
  have : i = (i.toNat : Int):=by lia
  rw [this]; exact QF h
theorem Q5 {n : Nat} (h : n < 2 ^ 62) : Uy 0 (n : Int) = .ok ((List.range n).map λ(i : Nat)=>(i : Int)):=by
  unfold Uy
  rw [XG (by lia)]
  unfold Qk
  congr 1
  rw [Int.sub_zero, Int.toNat_natCast]
  exact List.map_congr_left λi _=>by lia
theorem ZX {n i : Nat} {a : Int} (h : ((List.range n).map λ(i : Nat)=>(i : Int))[i]? = some a) : a = (i : Int) /\ i < n:=by
  have hlt:=(List.getElem?_eq_some_iff.mp h).1
  simp only [List.length_map, List.length_range] at hlt
  rw [List.getElem?_map, List.getElem?_range hlt] at h
  exact ⟨(Option.some.inj h).symm, hlt⟩
theorem Za {n : Nat} {a : Int} (h : a ∈ (List.range n).map λ(i : Nat)=>(i : Int)) : ∃ i : Nat, i < n /\ a = (i : Int):=by
  obtain ⟨i, hi, rfl⟩:=List.mem_map.mp h
  exact ⟨i, List.mem_range.mp hi, rfl⟩
theorem ZV {n : Nat} : ((List.range n).map λ(i : Nat)=>(i : Int)).length = n:=by simp
theorem Kj {a : Bool} {b : Rs Bool} {c : Bool} (h : a = true -> b = .ok c) : VI (.ok a) b = .ok (a && c):=by
  cases a with
  | false=>rfl
  | true=>
    show (if true = true then b else Rs.ok false) = _
    rw [if_pos rfl, h rfl]; rfl
theorem sz {n : Nat} (h : n <= 100000) : n <= sizeLine:=Nat.le_trans h (by decide)
theorem MG {n : Nat} (h : n <= 100000) : n < sizeLine:=Nat.lt_of_le_of_lt h (by decide)
noncomputable def Ok (m : Rs β) (R : β -> Prop) : Prop:=∃ r, m = .ok r /\ R r
theorem Ok.pure {R : β -> Prop} {a : β} (h : R a) : Ok (.ok a) R:=⟨a, rfl, h⟩
theorem Ok.bind {m : Rs α} {f : α -> Rs β} {R : α -> Prop} {T : β -> Prop} (h : Ok m R) (hf : ∀ a, R a -> Ok (f a) T) : Ok (m.bind f) T:=by
  obtain ⟨a, e, ha⟩:=h
  rw [e]; exact hf a ha
theorem Ok.imp {m : Rs α} {R T : α -> Prop} (h : Ok m R) (hf : ∀ a, R a -> T a) : Ok m T:=by
  obtain ⟨a, e, ha⟩:=h
  exact ⟨a, e, hf a ha⟩
theorem Ok.noE {m : Rs α} {R : α -> Prop} (h : Ok m R) : Ok (noE m) R:=by
  obtain ⟨a, e, ha⟩:=h
  rw [e]; exact ⟨a, rfl, ha⟩
theorem Ok.chk {c : Prop} [Decidable c] {m : Rs α} {R : α -> Prop} (hc : c) (h : Ok m R) : Ok (chk c m) R:=by rw [XG hc]; exact h
theorem Ok.ite {b : Bool} {m n : Rs α} {R : α -> Prop} (h1 : b = true -> Ok m R) (h2 : b = false -> Ok n R) : Ok (if b = true then m else n) R:=by
  cases b with
  | true=>rw [if_pos rfl]; exact h1 rfl
  | false=>rw [if_neg Bool.false_ne_true]; exact h2 rfl
theorem Ok.forN {f : γ -> α -> Rs γ} (P : Nat -> γ -> Prop) {as : List α} {g : γ} (h0 : P 0 g) (hs : ∀ i a g, as[i]? = some a -> P i g -> Ok (f g a) (P (i + 1))) : Ok (forN as g f) (P as.length):=G9 P h0 hs
theorem Ok.forC {f : γ -> α -> Rs (Ctl ρ γ)} (P : Nat -> γ -> Prop) {as : List α} {g : γ} (h0 : P 0 g) (hs : ∀ i a g, as[i]? = some a -> P i g -> ∃ g', f g a = .ok (.nx g') /\ P (i + 1) g') : Ok (forC as g f) (λc=>∃ g', c = .nx g' /\ P as.length g'):=by
  obtain ⟨g', e, h⟩:=B8 P h0 hs
  exact ⟨_, e, g', rfl, h⟩
theorem UG {f : γ -> Rs ρ} (g : γ) : Z4 f (.nx g) = f g:=(Eq.refl (f g)).symm.symm
theorem U9 {f : γ -> Rs ρ} (r : ρ) : Z4 f (.ret r) = .ok r:=(Eq.refl (Rs.ok r)).symm.symm
theorem CN {δ : Type} {f : γ -> Rs (Ctl ρ δ)} (g : γ) : Zm f (.nx g) = f g:=(Eq.refl (f g)).symm.symm
theorem FH {δ : Type} {f : γ -> Rs (Ctl ρ δ)} (r : ρ) : Zm f (.ret r) = .ok (.ret r):=(Eq.refl (Rs.ok (Ctl.ret r))).symm.symm
theorem Ym (a : α) : noE (Rs.ok a) = .ok a:=(Eq.refl (Rs.ok a)).symm.symm
theorem Ok.of {m : Rs α} {a : α} (h : m = .ok a) : Ok m (λb=>b = a):=⟨a, h, rfl⟩
theorem Ok.eq {m : Rs α} {a : α} (h : Ok m (λb=>b = a)) : m = .ok a:=by
  obtain ⟨b, e, rfl⟩:=h
  exact e
theorem EN {m : Rs α} {a : α} (h : m = .ok a) : noE m = .ok a:=by rw [h]; rfl
end
end L2
namespace My
noncomputable def QB (n : Nat) (f : Nat -> Nat -> Nat) (a : Nat) : List Int:=(List.range n).map λb=>(f a b : Int)
noncomputable def XD (n : Nat) (f : Nat -> Nat -> Nat) : List (List Int):=(List.range n).map (QB n f)
theorem ZF (n : Nat) (f : Nat -> Nat -> Nat) (a : Nat) : (QB n f a).length = n:=by simp [QB]
theorem XS (n : Nat) (f : Nat -> Nat -> Nat) : (XD n f).length = n:=by simp [XD]
theorem Vl {n : Nat} {f : Nat -> Nat -> Nat} {a b : Nat} (h : b < n) : (QB n f a)[b]? = some (f a b : Int):=by
  unfold QB; rw [List.getElem?_map, List.getElem?_range h]; rfl
theorem VB {n : Nat} {f : Nat -> Nat -> Nat} {a : Nat} (h : a < n) : (XD n f)[a]? = some (QB n f a):=by
  unfold XD; rw [List.getElem?_map, List.getElem?_range h]; rfl
theorem Vd {n : Nat} {f g : Nat -> Nat -> Nat} {a : Nat} (h : ∀ b, b < n -> f a b = g a b) : QB n f a = QB n g a:=by
  unfold QB
  exact List.map_congr_left λb hb=>by rw [h b (List.mem_range.mp hb)]
theorem Zy {n : Nat} {f g : Nat -> Nat -> Nat} (h : ∀ a b, a < n -> b < n -> f a b = g a b) : XD n f = XD n g:=by
  unfold XD
  exact List.map_congr_left λa ha=>Vd λb hb=>h a b (List.mem_range.mp ha) hb
theorem JP : ∀ (n : Nat) (p : Nat -> Nat), (∀ a, a < n -> p a < n) -> (∀ a b, a < n -> b < n -> p a = p b -> a = b) -> ∀ y, y < n -> ∃ x, x < n /\ p x = y
  | 0, _, _, _, y, hy=>absurd hy (Nat.not_lt_zero _)
  | n + 1, p, hl, hi, y, hy=>by
    by_cases hh : ∃ x, x < n + 1 /\ p x = y
    . exact hh
    . exfalso
      -- send n to y, and y's place away
      have hne : ∀ x, x < n + 1 -> p x ≠ y:=λx hx e=>hh ⟨x, hx, e⟩
      -- among the first n: p', which skips y
      let s : Nat -> Nat:=λv=>if v < y then v else v - 1
      have hs : ∀ a, a < n + 1 -> s (p a) < n:=λa ha=>by
        have h1:=hl a ha; have h2:=hne a ha
        show (if p a < y then p a else p a - 1) < n
        split <;> lia
      have hsi : ∀ a b, a < n + 1 -> b < n + 1 -> s (p a) = s (p b) -> a = b:=λa b ha hb e=>by
        have h1:=hne a ha; have h2:=hne b hb
        refine hi a b ha hb ?_
        have e' : (if p a < y then p a else p a - 1) = (if p b < y then p b else p b - 1):=e
        split at e' <;> split at e' <;> lia
      obtain ⟨x, hx, ex⟩:=JP n (λa=>s (p a)) (λa ha=>hs a (by lia)) (λa b ha hb e=>hsi a b (by lia) (by lia) e) (s (p n)) (hs n (by lia))
      have:=hsi x n (by lia) (by lia) ex
      lia
structure PermN (n : Nat) (p q : Nat -> Nat) : Prop where
  lt : ∀ a, a < n -> p a < n
  qlt : ∀ a, a < n -> q a < n
  pq : ∀ a, a < n -> p (q a) = a
  qp : ∀ a, a < n -> q (p a) = a
theorem HW {n : Nat} {p : Nat -> Nat} (hl : ∀ a, a < n -> p a < n) (hi : ∀ a b, a < n -> b < n -> p a = p b -> a = b) : ∃ q, PermN n p q:=by
  have ho:=JP n p hl hi
  refine ⟨λy=>if h : y < n then Classical.choose (ho y h) else 0, hl, λa ha=>?_, λa ha=>?_, λa ha=>?_⟩
  . simp only [dif_pos ha]; exact (Classical.choose_spec (ho a ha)).1
  . simp only [dif_pos ha]; exact (Classical.choose_spec (ho a ha)).2
  . simp only [dif_pos (hl a ha)]
    have:=Classical.choose_spec (ho (p a) (hl a ha))
    exact hi _ _ this.1 ha this.2
noncomputable def Gr (way n k a b : Int) : Int:=
  if way = 1 then (2 * b - a) % n else if way = 2 then (k * a + (1 - k) * b) % n else if way = 3 /\ n > 2 /\ a < 2 /\ b = n - 1 then 1 - a else
  if way = 6 /\ a < n - 1 /\ b = n - 1 then (a + 1) % (n - 1) else if way = 4 /\ a < n / 2 /\ b < n / 2 then (2 * b - a) % (n / 2) else
  if way = 4 /\ a ≥ n / 2 /\ b ≥ n / 2 then n / 2 + (2 * b - a - n / 2) % (n - n / 2) else a
noncomputable def Gi (way k : Int) (n a b : Nat) : Nat:=(Gr way n k a b).toNat
end My
namespace My
open PySem L2
theorem GS {n : Nat} {f : Nat -> Nat -> Nat} {a : Nat} (h : a < n) : atR (XD n f) (a : Int) = .ok (QB n f a):=QF (VB h)
theorem E4 {n : Nat} {f : Nat -> Nat -> Nat} {a b : Nat} (h : b < n) : atR (QB n f a) (b : Int) = .ok (f a b : Int):=QF (Vl h)
theorem Dp {α : Type} {as : List α} {i : Nat} {a : α} (h : i < as.length) : KO as (i : Int) a = .ok (as.set i a):=by
  unfold KO ixN
  rw [if_pos (by lia), if_pos (by lia)]
  simp
theorem Hq {n : Nat} {f : Nat -> Nat -> Nat} {a b v : Nat} : (QB n f a).set b (v : Int) = QB n (λx y=>if x = a /\ y = b then v else f x y) a:=by
  apply List.ext_getElem?
  intro j
  by_cases hj : j < n
  . rw [Vl hj]
    by_cases e : j = b
    . subst e; rw [List.getElem?_set_self (by rw [ZF]; exact hj)]; simp
    . rw [List.getElem?_set_ne (λz=>e z.symm), Vl hj]; simp [e]
  . rw [List.getElem?_eq_none (by rw [List.length_set, ZF]; lia), List.getElem?_eq_none (by rw [ZF]; lia)]
theorem IA {n : Nat} {f : Nat -> Nat -> Nat} {a b v : Nat} (ha : a < n) : (XD n f).set a ((QB n f a).set b (v : Int)) = XD n (λx y=>if x = a /\ y = b then v else f x y):=by
  apply List.ext_getElem?
  intro j
  by_cases hj : j < n
  . rw [VB hj]
    by_cases e : j = a
    . subst e; rw [List.getElem?_set_self (by rw [XS]; exact hj), Hq]
    . rw [List.getElem?_set_ne (λz => e z.symm), VB hj]
      congr 1
      exact Vd λy _=>by simp [e]
  . rw [List.getElem?_eq_none (by rw [List.length_set, XS]; lia), List.getElem?_eq_none (by rw [XS]; lia)]
noncomputable def KE (n : Nat) (sp : List Int) (p q : Nat -> Nat) : Prop:=PermN n p q /\ sp = (List.range n).map λi=>((p i : Nat) : Int)
theorem KE.get {n : Nat} {sp : List Int} {p q : Nat -> Nat} (h : KE n sp p q) {i : Nat} (hi : i < n) : atR sp (i : Int) = .ok ((p i : Nat) : Int):=QF (by rw [h.2, List.getElem?_map, List.getElem?_range hi]; rfl)
theorem Lk {as : List Int} {i : Nat} (h : i < as.length) (hl : as.length <= 100000) : BP as (i : Int) = .ok (as[i], as.eraseIdx i):=by
  unfold BP
  rw [XG (by lia)]
  have e : seqIndex? (i : Int) as.length = some i:=by
    unfold seqIndex?
    have h0 : ¬ ((i : Int) < 0):=by lia
    simp [h0, h]
  rw [e]
  simp [h]
theorem Bw {n : Nat} {sp : List Int} (h : sp.Perm ((List.range n).map λ(i : Nat)=>(i : Int))) : ∃ p q, KE n sp p q:=by
  have hl : sp.length = n:=by have:=h.length_eq; simpa using this
  have hlt : ∀ i, i < n -> ∃ k : Nat, k < n /\ sp[i]? = some (k : Int):=λi hi=>by
    have hm : sp[i]'(by lia) ∈ (List.range n).map λ(i : Nat)=>(i : Int):=h.mem_iff.mp (List.getElem_mem _)
    obtain ⟨k, hk, e⟩:=Za hm
    exact ⟨k, hk, by rw [List.getElem?_eq_getElem (by lia), e]⟩
  let p : Nat -> Nat:=λi=>(sp[i]?.getD 0).toNat
  have hp : ∀ i, i < n -> p i < n /\ sp[i]? = some (p i : Int):=λi hi=>by
    obtain ⟨k, hk, e⟩:=hlt i hi
    have : p i = k:=by simp [p, e]
    rw [this]; exact ⟨hk, e⟩
  have nd : sp.Nodup:=h.nodup_iff.mpr (by
    rw [List.nodup_iff_pairwise_ne, List.pairwise_map]
    exact List.nodup_range.imp fun {a b} h e=>h (by lia))
  obtain ⟨q, hq⟩:=HW (n:=n) (p:=p) (λa ha=>(hp a ha).1) λa b ha hb e=>by
    have h1:=(hp a ha).2
    have h2:=(hp b hb).2
    rw [← e] at h2
    exact (List.getElem?_inj (by lia) nd).mp (h1.trans h2.symm)
  refine ⟨p, q, hq, ?_⟩
  apply List.ext_getElem?
  intro i
  by_cases hi : i < n
  . rw [(hp i hi).2, List.getElem?_map, List.getElem?_range hi]; rfl
  . rw [List.getElem?_eq_none (by lia), List.getElem?_eq_none (by simp; lia)]
theorem V5 : ∀ {as : List Int} {i : Nat} (h : i < as.length), (as[i] :: as.eraseIdx i).Perm as
  | a :: as, 0, _=>by simp
  | a :: as, i + 1, h=>by
    have:=V5 (as:=as) (i:=i) (by simpa using h)
    simp only [List.getElem_cons_succ, List.eraseIdx_cons_succ]
    exact (List.Perm.swap _ _ _).trans (this.cons a)
theorem Ea {α : Type} (as : List α) {k : Nat} (h : k <= as.length) : Ff as (some (k : Int)) none = as.drop k:=by
  unfold Ff
  rw [HT.sIx_nat, HT.sIx_none, Nat.min_eq_left h, List.take_of_length_le (by rw [List.length_drop]; lia)]
theorem Cd (ns : List Int) {p : Int} (hp : 0 <= p) : ∃ c, JO ns p = .ok c:=by
  unfold JO
  simp only [Rs.okb]
  by_cases h : p < (ns.length : Int)
  . rw [decide_eq_true h, if_pos rfl]
    have hl : p.toNat < ns.length:=by lia
    exact ⟨ns[p.toNat], Mo hp (by simp [hl])⟩
  . rw [decide_eq_false h, if_neg Bool.false_ne_true]
    obtain ⟨g, e, _⟩:=G9 (as:=Ff ns none (some 63)) (g:=(5 : Int)) (f:=λg15 a17=>(Rs.bind (Rs.bind (Rs.bind (Rs.bind (K9 g15 48271) λx25=>(Rs.bind (Jj a17 1000003) λx26=>(Rs.ok (x25 + x26)))) λx27=>Rs.ok (x27 + 1)) λx29=>Jj x29 2147483647) λa19=>(Rs.ok (a19)))) (λ_ _=>True) True.intro λi a g _ _=>by
      rw [J1 (by decide) (by decide), Rs.ok_bind, YH (by decide), Rs.ok_bind, Rs.ok_bind, Rs.ok_bind, YH (by decide), Rs.ok_bind]
      exact ⟨_, rfl, True.intro⟩
    rw [e, Rs.ok_bind, UO (by decide) (by decide), Rs.ok_bind, Rs.ok_bind, YH (by decide)]
    exact ⟨_, rfl⟩
theorem EE (c : Int) {k : Int} (h0 : 0 <= k) (h1 : k <= 100000) : ∃ y, Gp c k = .ok y /\ 0 <= y:=by
  unfold Gp
  simp only [Rs.okb]
  have hm : 0 <= c % 2147483629 /\ c % 2147483629 < 2147483629:=⟨Int.emod_nonneg _ (by decide), Int.emod_lt_of_pos _ (by decide)⟩
  rw [YH (by decide), Rs.ok_bind, UO (by decide) (by decide), Rs.ok_bind, Rs.ok_bind, Rs.ok_bind, Dv (by decide) (by decide) (by lia) (by lia), Rs.ok_bind, YH (by decide), Rs.ok_bind]
  rw [J1 (by decide) (by decide), Rs.ok_bind, UO (by decide) (by decide), Rs.ok_bind, J1 (by lia) (by lia), Rs.ok_bind, Rs.ok_bind, Rs.ok_bind, YH (by decide), Rs.ok_bind, CA (by decide) (by decide)]
  exact ⟨_, rfl, Int.ediv_nonneg (Int.emod_nonneg _ (by decide)) (by decide)⟩
theorem EJ (ns : List Int) {p : Int} (hp : 0 <= p) (sizes : List Int) (hl : sizes.length <= 100000) (hs : ∀ x ∈ sizes, 0 < x /\ x < 2 ^ 250) :
    Ok (Kg ns p sizes) λr=>r.length = sizes.length /\ ∀ (i : Nat) x s, r[i]? = some x -> sizes[i]? = some s -> 0 <= x /\ x < s:=by
  obtain ⟨c, ec⟩:=Cd ns hp
  unfold Kg
  simp only [Rs.okb]
  rw [ec, show noE (Rs.ok c) = .ok c from rfl, Rs.ok_bind, Q5 (by lia), Rs.ok_bind, Dv (by decide) (by decide) (by decide) (by decide)]
  simp only [Rs.okb]
  have key : ∀ (i : Nat) (a : Int) (g : List Int × Int), ((List.range sizes.length).map λ(i : Nat)=>(i : Int))[i]? = some a -> (g.1.length = i /\ ∀ (j : Nat) x s, g.1[j]? = some x -> sizes[j]? = some s -> 0 <= x /\ x < s) -> ∀ y z : Int, ∀ s, sizes[i]? = some s -> 0 <= y /\ y < s -> ((g.1 ++ [y], z).1.length = i + 1 /\ ∀ (j : Nat) x s, (g.1 ++ [y], z).1[j]? = some x -> sizes[j]? = some s -> 0 <= x /\ x < s):=by
    intro i a g ha ⟨hg, hq⟩ y z s hs1 hy
    refine ⟨by simp [hg], λj x s' hx hs'=>?_⟩
    have hx : (g.1 ++ [y])[j]? = some x:=hx
    rcases Nat.lt_trichotomy j i with hj | hj | hj
    . rw [List.getElem?_append_left (by lia)] at hx; exact hq j x s' hx hs'
    . subst hj
      rw [List.getElem?_append_right (by lia), hg, Nat.sub_self] at hx
      have : y = x:=by simpa using hx
      rw [hs1] at hs'
      cases hs'
      rw [← this]; exact hy
    . rw [List.getElem?_eq_none (by simp; lia)] at hx; cases hx
  refine Ok.bind (Ok.forN (λi (g : List Int × Int)=>g.1.length = i /\ ∀ (j : Nat) x s, g.1[j]? = some x -> sizes[j]? = some s -> 0 <= x /\ x < s) ⟨rfl, λj x s h _=>by simp at h⟩ λi a g ha hg=>?_) (T:=λ(r : List Int)=>r.length = sizes.length /\ ∀ (i : Nat) x s, r[i]? = some x -> sizes[i]? = some s -> 0 <= x /\ x < s) λg ⟨hg, hq⟩=>?_
  . obtain ⟨rfl, hi⟩ := ZX ha
    have hsz : sizes[i]? = some sizes[i]:=by simp [hi]
    have hsp:=hs _ (List.getElem_mem hi)
    have hgl : g.1.length < sizeLine:=MG (by have:=hg.1; lia)
    by_cases hc : c < 10 ^ (18 : Int).toNat
    . rw [decide_eq_true hc, if_pos rfl]
      obtain ⟨y, ey, hy⟩:=EE c (k:=(i : Int)) (by lia) (by lia)
      rw [ey, show noE (Rs.ok y) = .ok y from rfl, Rs.ok_bind, QF hsz, Rs.ok_bind, YH hsp.1, Rs.ok_bind, XG hgl]
      exact ⟨_, rfl, key i _ g ha hg _ _ _ hsz ⟨Int.emod_nonneg _ (by lia), Int.emod_lt_of_pos _ hsp.1⟩⟩
    . rw [decide_eq_false hc, if_neg Bool.false_ne_true]
      by_cases hq : 0 < g.2
      . rw [decide_eq_true hq, if_pos rfl, QF hsz, Rs.ok_bind, YH hsp.1, Rs.ok_bind, XG hgl]
        simp only [Rs.okb]
        rw [CA hsp.1 hsp.2]
        exact ⟨_, rfl, key i _ g ha hg _ _ _ hsz ⟨Int.emod_nonneg _ (by lia), Int.emod_lt_of_pos _ hsp.1⟩⟩
      . rw [decide_eq_false hq, if_neg Bool.false_ne_true, YH (by decide), Rs.ok_bind]
        obtain ⟨c2, ec2⟩:=Cd ns (p:=(p + 1 + (i : Int)) % 63) (Int.emod_nonneg _ (by decide))
        obtain ⟨y, ey, hy⟩:=EE c2 (k:=(i : Int)) (by lia) (by lia)
        rw [ec2, show noE (Rs.ok c2) = .ok c2 from rfl, Rs.ok_bind, ey, show noE (Rs.ok y) = .ok y from rfl, Rs.ok_bind, QF hsz, Rs.ok_bind, YH hsp.1, Rs.ok_bind, XG hgl]
        exact ⟨_, rfl, key i _ g ha hg _ _ _ hsz ⟨Int.emod_nonneg _ (by lia), Int.emod_lt_of_pos _ hsp.1⟩⟩
  . rw [ZV] at hg
    exact ⟨g.1, rfl, hg, hq⟩
theorem ZS {α : Type} {r : List α} {k : Int} {n : Nat} (e : k = (n : Int)) (h : n < r.length) : atR r k = .ok r[n]:=by
  subst e; exact QF (by simp [h])
theorem Ub {γ : Type} {c : γ -> Rs Bool} {f : γ -> Rs γ} (P : γ -> Prop) (μ : γ -> Nat) (hs : ∀ g, P g -> ∃ b, c g = .ok b /\ (b = true -> Ok (f g) λg'=>P g' /\ μ g' < μ g)) : ∀ (n : Nat) (g : γ), P g -> μ g < n -> Ok (Jh n g c f) λg'=>P g' /\ c g' = .ok false
  | 0, _, _, h=>by lia
  | n + 1, g, hp, hm=>by
    obtain ⟨b, hb, h⟩:=hs g hp
    show Ok ((c g).bind _) _
    rw [hb, Rs.okb]
    cases b with
    | false=>rw [if_neg Bool.false_ne_true]; exact ⟨g, rfl, hp, hb⟩
    | true=>
      rw [if_pos rfl]
      exact Ok.bind (h rfl) λg' h'=>Ub P μ hs n g' h'.1 (by lia)
theorem Fw {r : List Int} {n : Nat} (hn : n <= 1000) (hr : n <= r.length) : Ok (ZT r (n : Int)) λsp=>∃ p q, KE n sp p q:=by
  unfold ZT
  simp only [Rs.okb]
  rw [XG (by lia)]
  simp only [Rs.okb]
  rw [Q5 (by lia)]
  simp only [Rs.okb]
  have e0 : Qk 0 (n : Int) = (List.range n).map λ(i : Nat)=>(i : Int):=by
    unfold Qk
    rw [Int.sub_zero, Int.toNat_natCast]
    exact List.map_congr_left λi _=>by lia
  refine Ok.bind (Ok.forN (λi (g : List Int × List Int)=>g.1.length = i /\ (g.1 ++ g.2).Perm ((List.range n).map λ(i : Nat)=>(i : Int))) ⟨rfl, by rw [e0]; exact List.Perm.refl _⟩ λi a g ha hg=>?_) λg hg=>?_
  . obtain ⟨rfl, hi⟩ := ZX ha
    obtain ⟨h1, h2⟩:=hg
    have hl:=h2.length_eq
    simp only [List.length_append, List.length_map, List.length_range] at hl
    have hri : r[i]? = some r[i]:=by simp [show i < r.length by lia]
    have hpos : (0 : Int) < (g.2.length : Int):=by lia
    have hm1:=Int.emod_nonneg r[i] (show (g.2.length : Int) ≠ 0 by lia)
    have hm2:=Int.emod_lt_of_pos r[i] hpos
    rw [QF hri, Rs.okb, YH hpos, Rs.okb]
    generalize hk : r[i] % (g.2.length : Int) = k at hm1 hm2
    obtain ⟨j, rfl⟩ : ∃ j : Nat, k = j:=⟨k.toNat, by lia⟩
    have hj : j < g.2.length:=by lia
    rw [Lk hj (by lia), Rs.okb, XG (MG (by lia))]
    refine ⟨_, rfl, by simp [h1], ?_⟩
    refine List.Perm.trans ?_ h2
    show ((g.1 ++ [g.2[j]]) ++ g.2.eraseIdx j).Perm (g.1 ++ g.2)
    rw [List.append_assoc]
    exact (V5 hj).append_left _
  . obtain ⟨h1, h2⟩ := hg
    rw [ZV] at h1
    have hl:=h2.length_eq
    simp only [List.length_append, List.length_map, List.length_range] at hl
    have : g.2 = []:=List.length_eq_zero_iff.mp (by lia)
    rw [this, List.append_nil] at h2
    exact ⟨_, rfl, Bw h2⟩
theorem Bb {n : Nat} {f : Nat -> Nat -> Nat} {sp : List Int} {p q : Nat -> Nat} (hn : n <= 1000) (hf : ∀ a b, a < n -> b < n -> f a b < n) (hp : KE n sp p q) : QA (XD n f) sp = .ok (XD n λx y=>p (f (q x) (q y))):=by
  have P:=hp.1
  unfold QA
  simp only [Rs.okb]
  rw [JV (h:=λa=>a) (sz (by rw [XS]; lia)) λa _=>rfl, Rs.okb]
  simp only [List.map_id', XS]
  rw [Q5 (by lia), Rs.okb]
  apply Ok.eq
  refine Ok.bind (Ok.forN (λi g=>g = XD n λx y=>if q x < i then p (f (q x) (q y)) else f x y) (Zy λx y _ _=>by simp) λi a g ha hg=>?_) λg hg=>⟨g, rfl, ?_⟩
  . obtain ⟨rfl, hi⟩ := ZX ha
    subst hg
    simp only [Rs.okb]
    refine Ok.bind (Ok.forN (λj g=>g = XD n λx y=>if q x < i ∨ (q x = i /\ q y < j) then p (f (q x) (q y)) else f x y) (Zy λx y _ _=>by simp) λj b g hb hg=>?_) λg hg=>⟨g, rfl, ?_⟩
    . obtain ⟨rfl, hj⟩ := ZX hb
      subst hg
      have hv:=hf i j hi hj
      rw [GS hi, Rs.okb, E4 hj, Rs.okb, hp.get hv, Rs.okb, hp.get hi, Rs.okb, GS (P.lt i hi), Rs.okb, hp.get hj, Rs.okb, Dp (by rw [ZF]; exact P.lt j hj), Rs.okb, Dp (by rw [XS]; exact P.lt i hi), Rs.okb]
      refine ⟨_, rfl, ?_⟩
      rw [IA (P.lt i hi)]
      refine Zy λx y hx hy=>?_
      by_cases e : x = p i /\ y = p j
      . rw [if_pos e, e.1, e.2, P.qp i hi, P.qp j hj, if_pos (by lia)]
      . rw [if_neg e]
        have : ¬ (q x = i /\ q y = j):=λ⟨e1, e2⟩=>e ⟨by rw [← e1, P.pq x hx], by rw [← e2, P.pq y hy]⟩
        by_cases c : q x < i ∨ (q x = i /\ q y < j)
        . rw [if_pos c, if_pos (by lia)]
        . rw [if_neg c, if_neg (by lia)]
    . subst hg
      rw [ZV]
      refine Zy λx y hx hy=>?_
      have:=P.qlt y hy
      by_cases c : q x < i + 1
      . rw [if_pos c, if_pos (by lia)]
      . rw [if_neg c, if_neg (by lia)]
  . subst hg
    rw [ZV]
    exact Zy λx y hx hy=>by rw [if_pos (P.qlt x hx)]
theorem Uh (a b : Bool) : VI (.ok a) (.ok b) = .ok (a && b):=Kj λ_=>rfl
theorem Fe {way k : Int} {n a b : Nat} (hn : 0 < n) (h1 : n <= 1000) (ha : a < n) (hb : b < n) : Zr way (n : Int) k (a : Int) (b : Int) = .ok (Gr way n k a b):=by
  unfold Zr Gr
  simp only [Rs.okb, Uh, Bool.and_eq_true, decide_eq_true_eq, gt_iff_lt, ge_iff_le]
  rw [CA (by decide) (by decide)]
  simp only [Rs.okb, Uh, Bool.and_eq_true, decide_eq_true_eq]
  rw [UO (a:=2) (by decide) (by decide), J1 (a:=k) (by lia) (by lia), J1 (a:=1 - k) (by lia) (by lia)]
  simp only [Rs.okb]
  by_cases c1 : way = 1
  . rw [if_pos c1, if_pos c1]; exact YH (by lia)
  rw [if_neg c1, if_neg c1]
  by_cases c2 : way = 2
  . rw [if_pos c2, if_pos c2]; exact YH (by lia)
  rw [if_neg c2, if_neg c2]
  by_cases c3 : way = 3 /\ 2 < (n : Int) /\ (a : Int) < 2 /\ (b : Int) = (n : Int) - 1
  . rw [if_pos c3, if_pos c3]
  rw [if_neg c3, if_neg c3]
  by_cases c4 : way = 6 /\ (a : Int) < (n : Int) - 1 /\ (b : Int) = (n : Int) - 1
  . rw [if_pos c4, if_pos c4]; exact YH (by lia)
  rw [if_neg c4, if_neg c4]
  by_cases c5 : way = 4 /\ (a : Int) < (n : Int) / 2 /\ (b : Int) < (n : Int) / 2
  . rw [if_pos c5, if_pos c5]; exact YH (by lia)
  rw [if_neg c5, if_neg c5]
  by_cases c6 : way = 4 /\ (n : Int) / 2 <= (a : Int) /\ (n : Int) / 2 <= (b : Int)
  . rw [if_pos c6, if_pos c6, YH (by lia), Rs.okb]
  rw [if_neg c6, if_neg c6]
theorem Cj {way k : Int} {n a b : Nat} (ha : a < n) (hb : b < n) : 0 <= Gr way n k a b /\ Gr way n k a b < (n : Int):=by
  unfold Gr
  have e : ∀ x y : Int, 0 < y -> 0 <= x % y /\ x % y < y:=λx y h=>⟨Int.emod_nonneg x (by lia), Int.emod_lt_of_pos x h⟩
  have e1:=e (2 * (b : Int) - a) n (by lia)
  have e2:=e (k * a + (1 - k) * b) n (by lia)
  split
  . exact e1
  split
  . exact e2
  split
  . lia
  split
  . rename_i h
    have:=e ((a : Int) + 1) ((n : Int) - 1) (by lia)
    lia
  split
  . rename_i h
    have:=e (2 * (b : Int) - a) ((n : Int) / 2) (by lia)
    lia
  split
  . rename_i h
    have:=e (2 * (b : Int) - a - (n : Int) / 2) ((n : Int) - (n : Int) / 2) (by lia)
    lia
  . lia
theorem Ki (x y : Int) : Qw x y = .ok (Int.gcd x y : Int):=by
  unfold Qw
  simp only [Rs.okb]
  apply Ok.eq
  refine Ok.bind (Ub (λg : Int × Int=>∃ u v : Nat, g = ((u : Int), (v : Int)) /\ Nat.gcd u v = Int.gcd x y) (λg=>g.2.toNat) (λg hg=>?_) _ ((x.natAbs : Int), (y.natAbs : Int)) ⟨x.natAbs, y.natAbs, rfl, rfl⟩ ?_) λg hg=>?_
  . obtain ⟨u, v, rfl, h⟩ := hg
    refine ⟨_, rfl, λc=>?_⟩
    have c' : (0 : Int) < (v : Int):=of_decide_eq_true c
    show Ok ((Jj (u : Int) (v : Int)).bind _) _
    rw [YH c', Rs.okb]
    refine ⟨_, rfl, ⟨v, u % v, by rw [Int.natCast_emod], ?_⟩, ?_⟩
    . rw [← h, Nat.gcd_comm u v, Nat.gcd_rec v u, Nat.gcd_comm]
    . show ((u : Int) % (v : Int)).toNat < ((v : Int)).toNat
      have:=Int.emod_lt_of_pos (u : Int) c'
      have:=Int.emod_nonneg (u : Int) (show (v : Int) ≠ 0 by lia)
      lia
  . show ((y.natAbs : Int)).toNat < _
    lia
  . obtain ⟨⟨u, v, rfl, h⟩, hc⟩ := hg
    have hc' : ¬ (0 : Int) < (v : Int):=by
      have:=Rs.ok.inj hc
      simpa using this
    have : v = 0:=by lia
    subst this
    rw [Nat.gcd_zero_right] at h
    exact ⟨_, rfl, by show (u : Int) = _; rw [h]⟩
theorem HQ {n : Nat} {t z : Int} (h : t = 1 + (n : Int) * z) : Int.gcd t n = 1:=by
  have h1 : ((Int.gcd t n : Nat) : Int) ∣ t:=Int.gcd_dvd_left ..
  have h2 : ((Int.gcd t n : Nat) : Int) ∣ (n : Int):=Int.gcd_dvd_right ..
  have h3 : ((Int.gcd t n : Nat) : Int) ∣ 1:=by
    have : (1 : Int) = t - (n : Int) * z:=by lia
    rw [this]
    exact Int.dvd_sub h1 (Int.dvd_trans h2 (Int.dvd_mul_right ..))
  have h4:=Int.eq_one_of_dvd_one (by lia) h3
  lia
theorem CO {way k : Int} {n : Nat} (hn : 0 < n) (h1 : n <= 1000) : Ok (Jk way (n : Int) k) λt=>∃ f, (∀ a b, a < n -> b < n -> f a b < n) /\ t = XD n f:=by
  unfold Jk
  simp only [Rs.okb, Uh, Bool.and_eq_true, decide_eq_true_eq]
  by_cases c5 : way = 5 /\ (n : Int) = 4
  . rw [if_pos c5]
    have hn : n = 4:=by lia
    subst hn
    exact ⟨[[0, 3, 1, 2], [2, 1, 3, 0], [3, 0, 2, 1], [1, 2, 0, 3]], rfl, λa b=>((([[0, 3, 1, 2], [2, 1, 3, 0], [3, 0, 2, 1], [1, 2, 0, 3]] : List (List Nat)).getD a []).getD b 0), λa b ha hb=>(show ∀ a, a < 4 -> ∀ b, b < 4 -> (([[0, 3, 1, 2], [2, 1, 3, 0], [3, 0, 2, 1], [1, 2, 0, 3]] : List (List Nat)).getD a []).getD b 0 < 4 by decide) a ha b hb, rfl⟩
  rw [if_neg c5]
  have ht:=Int.emod_add_mul_ediv (1 - k) (n : Int)
  have ht0:=Int.emod_nonneg (1 - k) (show (n : Int) ≠ 0 by lia)
  have ht1:=Int.emod_lt_of_pos (1 - k) (show (0 : Int) < (n : Int) by lia)
  generalize hq : (1 - k) % (n : Int) = m at ht ht0 ht1
  have hcop : Int.gcd (k + m) n = 1:=HQ (z:=-((1 - k) / (n : Int))) (by rw [Int.mul_neg]; lia)
  refine Ok.bind (Ub (λg : Int=>k <= g /\ g <= k + m) (λg=>(k + m - g).toNat) (λg hg=>?_) _ k ⟨Int.le_refl _, by lia⟩ ?_) λg hg=>?_
  . rw [Ki, Ym, Rs.okb]
    refine ⟨_, rfl, λc=>?_⟩
    have hne : g ≠ k + m:=λe=>by
      rw [e, hcop] at c
      exact absurd c (by decide)
    refine ⟨_, rfl, ⟨by lia, by lia⟩, ?_⟩
    show (k + m - (g + 1)).toNat < (k + m - g).toNat
    lia
  . show (k + m - k).toNat < _
    lia
  . obtain ⟨_, hc⟩ := hg
    rw [Ki, Ym, Rs.okb] at hc
    have hce : ∀ a b, a < n -> b < n -> ((Gi way g n a b : Nat) : Int) = Gr way n g a b:=λa b ha hb=>by
      have:=Cj (way:=way) (k:=g) ha hb
      unfold Gi
      lia
    refine ⟨XD n (Gi way g n), ?_, _, λa b ha hb=>?_, rfl⟩
    rotate_left
    . have := Cj (way := way) (k := g) ha hb
      unfold Gi
      lia
    rw [Q5 (by lia), Rs.okb]
    have hrow : ∀ a : Nat, a < n -> V0 ((List.range n).map λ(i : Nat)=>(i : Int)) (λb=>noE (Zr way (n : Int) g (a : Int) b)) = .ok (QB n (Gi way g n) a):=λa ha=>by
      rw [JV (h:=λx=>((Gi way g n a x.toNat : Nat) : Int)) (sz (by simp; lia)) λx hx=>?_]
      . rw [List.map_map]; rfl
      . obtain ⟨b, hb, rfl⟩ := Za hx
        rw [Fe hn h1 ha hb, Ym, Int.toNat_natCast, hce a b ha hb]
    rw [U3 (h:=λx=>QB n (Gi way g n) x.toNat) (sz (by simp; lia)) λl hl x hx=>?_]
    . rw [Rs.okb, List.nil_append, List.map_map]; rfl
    . obtain ⟨a, ha, rfl⟩ := Za hx
      rw [Rs.okb, hrow a ha, Rs.okb, XG hl, Int.toNat_natCast]
theorem BQ (ns : List Int) {p : Int} (hp : 0 <= p) {most : Nat} (h0 : 0 < most) (hm : most <= 24) : Ok (QN ns p (most : Int)) λt=>∃ n f, 0 < n /\ n <= most /\ (∀ a b, a < n -> b < n -> f a b < n) /\ t = XD n f:=by
  unfold QN
  simp only [Rs.okb]
  rw [XG (sz (by simp))]
  simp only [Rs.okb]
  rw [XG (sz (by simp))]
  simp only [Rs.okb]
  rw [show MY [(24 : Int)] 24 = .ok (List.replicate 24 24) from rfl]
  simp only [Rs.okb]
  rw [show ID [(7 : Int), 24, 6, 2] (List.replicate 24 24) = .ok ([(7 : Int), 24, 6, 2] ++ List.replicate 24 24) from XG (sz (by simp))]
  simp only [Rs.okb]
  refine Ok.bind (Ok.noE (EJ ns hp _ (by simp) λx hx=>?_)) λr hr=>?_
  . rw [List.mem_append] at hx
    rcases hx with h | h
    . simp only [List.mem_cons, List.not_mem_nil, or_false] at h
      rcases h with rfl | rfl | rfl | rfl <;> decide
    . rw [(List.mem_replicate.mp h).2]; decide
  obtain ⟨hl, hv⟩:=hr
  have hl' : r.length = 28:=by rw [hl]; simp
  clear hl hv
  rw [ZS (r:=r) (k:=0) (n:=0) rfl (by lia), ZS (r:=r) (k:=1) (n:=1) rfl (by lia), ZS (r:=r) (k:=2) (n:=2) rfl (by lia), ZS (r:=r) (k:=3) (n:=3) rfl (by lia)]
  simp only [Rs.okb, Uh]
  rw [YH (by lia)]
  simp only [Rs.okb]
  have a0:=Int.emod_nonneg r[1] (show (most : Int) ≠ 0 by lia)
  have a1:=Int.emod_lt_of_pos r[1] (show (0 : Int) < (most : Int) by lia)
  obtain ⟨s, es⟩ : ∃ s : Int, s = (1 : Int) + r[1] % (most : Int):=⟨_, rfl⟩
  rw [← es]
  have hs : 0 < s /\ s <= (most : Int):=by lia
  clear es
  obtain ⟨n, rfl⟩ : ∃ n : Nat, s = (n : Int):=⟨s.toNat, by lia⟩
  refine Ok.bind (Ok.noE (CO (by lia) (by lia))) λt ht=>?_
  obtain ⟨f, gd, rfl⟩:=ht
  refine Ok.ite (λ_=>⟨_, rfl, n, f, by lia, by lia, gd, rfl⟩) λ_=>?_
  rw [show Ff r (some 4) none = r.drop 4 from Ea r (k:=4) (by lia)]
  refine Ok.bind (Ok.noE (Fw (by lia) (by rw [List.length_drop]; lia))) λsp hsp=>?_
  obtain ⟨q, q', hq⟩:=hsp
  rw [Bb (by lia) gd hq, Ym]
  exact ⟨_, rfl, n, _, by lia, by lia, λa b ha hb=>hq.1.lt _ (gd _ _ (hq.1.qlt a ha) (hq.1.qlt b hb)), rfl⟩
section
variable {n : Nat}
theorem DO {α : Type} [DecidableEq α] : ∀ {l m : List α}, l.Nodup -> (∀ x ∈ l, x ∈ m) -> l.length <= m.length
  | [], m, _, _=>Nat.zero_le _
  | x :: l, m, h, hs=>by
    have hx:=hs x (.head _)
    have h2:=List.nodup_cons.mp h
    have:=DO (l:=l) (m:=m.erase x) h2.2 λy hy=>(List.mem_erase_of_ne λe=>h2.1 (by rw [← e]; exact hy)).mpr (hs y (.tail _ hy))
    rw [List.length_erase_of_mem hx] at this
    have:=List.length_pos_of_mem hx
    rw [List.length_cons]
    lia
end
theorem E5 (x : Int) : ∀ (l acc : List Int), x ∈ l.foldl PyProof.Rows.step_dedup acc ↔ x ∈ acc ∨ x ∈ l
  | [], acc=>by simp
  | y :: l, acc=>by
    rw [List.foldl_cons, E5 x l]
    unfold PyProof.Rows.step_dedup
    by_cases h : acc.any (· == y) = true
    . rw [if_pos h]
      obtain ⟨z, hz, e⟩:=List.any_eq_true.mp h
      rw [beq_iff_eq] at e
      subst e
      simp only [List.mem_cons]
      constructor
      . rintro (q | q)
        . exact .inl q
        . exact .inr (.inr q)
      . rintro (q | q | q)
        . exact .inl q
        . rw [q]; exact .inl hz
        . exact .inr q
    . rw [if_neg h]
      simp only [List.mem_append, List.mem_cons, List.not_mem_nil, or_false]
      constructor
      . rintro ((q | q) | q)
        . exact .inl q
        . exact .inr (.inl q)
        . exact .inr (.inr q)
      . rintro (q | q | q)
        . exact .inl (.inl q)
        . exact .inl (.inr q)
        . exact .inr q
theorem GO : ∀ (l acc : List Int), acc.Nodup -> (l.foldl PyProof.Rows.step_dedup acc).Nodup
  | [], acc, h=>h
  | y :: l, acc, h=>by
    rw [List.foldl_cons]
    refine GO l _ ?_
    unfold PyProof.Rows.step_dedup
    by_cases z : acc.any (· == y) = true
    . rw [if_pos z]; exact h
    . rw [if_neg z]
      refine List.nodup_append.mpr ⟨h, by simp, λu hu v hv e=>z (List.any_eq_true.mpr ⟨u, hu, ?_⟩)⟩
      rw [e, List.mem_singleton.mp hv]; exact beq_self_eq_true y
theorem EY {i : Int} (h0 : 0 <= i) (h : i < 2 ^ 1900) : i.natAbs.log2 < 1920:=by
  have h1 : i.natAbs < 2 ^ 1900:=by
    have : ((i.natAbs : Nat) : Int) < ((2 ^ 1900 : Nat) : Int):=by
      rw [Int.natAbs_of_nonneg h0]; exact_mod_cast h
    exact_mod_cast this
  by_cases hz : i.natAbs = 0
  . rw [hz]; decide
  . exact (Nat.log2_lt hz).mpr (Nat.lt_of_lt_of_le h1 (Nat.pow_le_pow_right (by decide) (by decide)))
theorem Cu {a b : Int} (h : b <= a) : XM a b = .ok ():=by
  unfold XM
  simp only [Rs.okb]
  rw [if_neg (show ¬ decide (a < b) = true by simpa using h)]
theorem VU {a b : Int} (h : a < b) (h0 : 0 <= a) (hb : b < 2 ^ 1900) : XM a b = .err ⟨"TooBig", Pay.non⟩:=by
  unfold XM
  simp only [Rs.okb]
  rw [if_pos (show decide (a < b) = true by simpa using h), XG (EY (by lia) hb), XG (EY h0 (Int.lt_trans h hb))]
  rfl
theorem V2 {k : Int} (h : k <= 1000) : k < 2 ^ 1900:=Int.lt_of_le_of_lt h (by decide +kernel)
noncomputable def okB (m : Rs Bool) : Bool:=match m with
  | .ok b=>b
  | _=>false
theorem L8 {m : Rs Bool} (h : okB m = true) : m = .ok true:=by
  cases m with
  | ok b=>unfold okB at h; simp at h; rw [h]
  | bad=>cases h
  | err x=>cases h
theorem IV {α ρ : Type} {g : Unit -> α -> Rs (Ctl ρ Unit)} {P : α -> Prop} {R : ρ -> Prop} {as : List α} : (∀ a ∈ as, (g () a = .ok (.nx ()) /\ P a) ∨ ∃ r, g () a = .ok (.ret r) /\ R r /\ ¬ P a) -> (forC as () g = .ok (.nx ()) /\ ∀ a ∈ as, P a) ∨ ∃ r, forC as () g = .ok (.ret r) /\ R r /\ ¬ ∀ a ∈ as, P a:=by
  induction as with
  | nil=>intro _; exact .inl ⟨rfl, λa h=>nomatch h⟩
  | cons a as ih=>
    intro h
    rcases h a Zq with ⟨e, p⟩ | ⟨r, e, hr, np⟩
    . rcases ih (λb hb => h b (ZP _ hb)) with ⟨e2, p2⟩ | ⟨r, e2, hr, np⟩
      . exact .inl ⟨by show (g () a).bind _ = _; rw [e, Rs.okb]; exact e2, λb hb=>(List.mem_cons.mp hb).elim (λz=>z ▸ p) (p2 b)⟩
      . exact .inr ⟨r, by show (g () a).bind _ = _; rw [e, Rs.okb]; exact e2, hr, λz=>np λb hb=>z b (ZP _ hb)⟩
    . exact .inr ⟨r, by show (g () a).bind _ = _; rw [e, Rs.okb], hr, λz=>np (z a Zq)⟩
noncomputable def In (n : Nat) (ks : List Int) : Prop:=∀ x ∈ ks, 0 <= x /\ x < (n : Int)
theorem Nv {n : Nat} {f : Nat -> Nat -> Nat} {a b : Int} (ha : 0 <= a /\ a < n) (hb : 0 <= b /\ b < n) : ((atR (XD n f) a).bind λr=>atR r b) = .ok (f a.toNat b.toNat : Int):=by
  obtain ⟨i, rfl⟩ : ∃ i : Nat, a = i:=⟨a.toNat, by lia⟩
  obtain ⟨j, rfl⟩ : ∃ j : Nat, b = j:=⟨b.toNat, by lia⟩
  rw [GS (by lia), Rs.okb, E4 (by lia)]
  rfl
section
variable {n : Nat} {f g : Nat -> Nat -> Nat}
noncomputable def im1 (im : List Int) (a : Nat) : Int:=im.getD a 0
theorem HD {im : List Int} {a : Nat} (h : a < im.length) : atR im (a : Int) = .ok (im1 im a):=QF (by unfold im1; simp [h])
theorem IU {im : List Int} (hi : In n im) {a : Nat} (h : a < im.length) : 0 <= im1 im a /\ im1 im a < (n : Int):=hi _ (by
  unfold im1
  rw [List.getD_eq_getElem?_getD, List.getElem?_eq_getElem h]
  exact List.getElem_mem h)
noncomputable def bad (f g : Nat -> Nat -> Nat) (im : List Int) (a b : Nat) : Bool:=decide ((f a b : Int) < (im.length : Int)) && !(decide ((g (im1 im a).toNat (im1 im b).toNat : Int) = im1 im (f a b)))
noncomputable def stB (f g : Nat -> Nat -> Nat) (im : List Int) : Bool:=(List.range im.length).all λa=>(List.range im.length).all λb=>!(bad f g im a b)
theorem Gm {im : List Int} : stB f g im = true ↔ ∀ a b, a < im.length -> b < im.length -> bad f g im a b = false:=by
  unfold stB
  rw [List.all_eq_true]
  constructor
  . intro h a b ha hb
    have:=List.all_eq_true.mp (h a (List.mem_range.mpr ha)) b (List.mem_range.mpr hb)
    simpa using this
  . intro h a ha
    rw [List.all_eq_true]
    intro b hb
    rw [h a b (List.mem_range.mp ha) (List.mem_range.mp hb)]
    rfl
theorem LD {im : List Int} (hi : In n im) (hl : im.length <= n) {a b : Nat} (ha : a < im.length) (hb : b < im.length) :
    ((Rs.bind (atR (XD n f) (a : Int)) λx=>atR x (b : Int)).bind λr=>VI (.ok (decide (r < (im.length : Int)))) (((Rs.bind (atR im (a : Int)) λx=>atR (XD n g) x).bind λx=>Rs.bind (atR im (b : Int)) λy=>atR x y).bind λx=>Rs.bind (atR im r) λy=>.ok (!(decide (x = y))))) = .ok (bad f g im a b):=by
  rw [Nv (n:=n) (f:=f) (by lia) (by lia), Rs.okb, Int.toNat_natCast, Int.toNat_natCast]
  unfold bad
  refine Kj λh=>?_
  have h : (f a b : Int) < (im.length : Int):=of_decide_eq_true h
  have h1:=IU hi ha
  have h2:=IU hi hb
  rw [HD ha, HD hb, Rs.okb]
  have h3:=Nv (n:=n) (f:=g) h1 h2
  obtain ⟨i, hi'⟩ : ∃ i : Nat, im1 im a = i:=⟨(im1 im a).toNat, by lia⟩
  rw [hi', GS (by lia), Rs.okb] at h3 ⊢
  simp only [Rs.okb] at h3 ⊢
  rw [h3, Rs.okb, HD (by lia), Rs.okb]
theorem KL {im : List Int} (hi : In n im) (hl : im.length <= n) {a b : Nat} (ha : a < im.length) (hb : b < im.length) : Xq (XD n f) (XD n g) im (a : Int) (b : Int) = .ok (bad f g im a b):=by
  unfold Xq
  simp only [Rs.okb]
  exact LD hi hl ha hb
theorem Dl {im : List Int} (hi : In n im) (hl : im.length <= n) (hn : n <= 1000) : ∃ o, Yk (XD n f) (XD n g) im = .ok o /\ o.isSome = !(stB f g im):=by
  unfold Yk
  simp only [Rs.okb]
  rw [Q5 (n:=im.length) (by lia)]
  simp only [Rs.okb]
  have inner : ∀ a ∈ (List.range im.length).map (λ(i : Nat)=>(i : Int)), ((forC ((List.range im.length).map λ(i : Nat)=>(i : Int)) () (λ(_ : Unit) (b : Int)=>(Rs.bind (noE (Xq (XD n f) (XD n g) im a b)) λx23=>(if x23 = true then (Rs.ok (Ctl.ret (some (a, b)))) else (Rs.ok (Ctl.nx ())))))).bind (Zm λ(_ : Unit)=>Rs.ok (Ctl.nx ())) = .ok (.nx ()) /\ ∀ b : Nat, b < im.length -> bad f g im a.toNat b = false) ∨ ∃ r : Option (Int × Int), ((forC ((List.range im.length).map λ(i : Nat)=>(i : Int)) () (λ(_ : Unit) (b : Int)=>(Rs.bind (noE (Xq (XD n f) (XD n g) im a b)) λx23=>(if x23 = true then (Rs.ok (Ctl.ret (some (a, b)))) else (Rs.ok (Ctl.nx ())))))).bind (Zm λ(_ : Unit)=>Rs.ok (Ctl.nx ()))) = .ok (.ret r) /\ r.isSome = true /\ ¬ ∀ b : Nat, b < im.length -> bad f g im a.toNat b = false:=λa ha=>by
    obtain ⟨i, hi', rfl⟩:=Za ha
    rcases IV (g:=λ(_ : Unit) (b : Int)=>(Rs.bind (noE (Xq (XD n f) (XD n g) im (i : Int) b)) λx23=>(if x23 = true then (Rs.ok (Ctl.ret (some ((i : Int), b)))) else (Rs.ok (Ctl.nx ()))))) (P:=λb : Int=>bad f g im i b.toNat = false) (R:=λr : Option (Int × Int)=>r.isSome = true) (as:=(List.range im.length).map λ(i : Nat)=>(i : Int)) (λb hb=>by
      obtain ⟨j, hj, rfl⟩:=Za hb
      show (Rs.bind (noE (Xq (XD n f) (XD n g) im (i : Int) (j : Int))) _ = _ /\ _) ∨ ∃ r, Rs.bind (noE (Xq (XD n f) (XD n g) im (i : Int) (j : Int))) _ = _ /\ _
      rw [KL hi hl hi' hj, Ym, Rs.okb, Int.toNat_natCast]
      cases q : bad f g im i j with
      | false=>exact .inl ⟨by rw [if_neg (by decide)], rfl⟩
      | true=>exact .inr ⟨_, by rw [if_pos rfl], rfl, by decide⟩) with ⟨e, p⟩ | ⟨r, e, hr, np⟩
    . refine .inl ⟨by rw [e, Rs.okb, CN], λb hb => ?_⟩
      have:=p (b : Int) (List.mem_map.mpr ⟨b, List.mem_range.mpr hb, rfl⟩)
      simpa using this
    . refine .inr ⟨r, by rw [e, Rs.okb, FH], hr, λz => np λb hb => ?_⟩
      obtain ⟨j, hj, rfl⟩:=Za hb
      simpa using z j hj
  rcases IV (g:=λ(_ : Unit) (a7 : Int)=>(Rs.bind (forC ((List.range im.length).map λ(i : Nat)=>(i : Int)) () (λ(_ : Unit) (a15 : Int)=>(Rs.bind (noE (Xq (XD n f) (XD n g) im a7 a15)) λx23=>(if x23 = true then (Rs.ok (Ctl.ret (some (a7, a15)))) else (Rs.ok (Ctl.nx ())))))) (Zm λ(_ : Unit)=>(Rs.ok (Ctl.nx ()))))) (P:=λa : Int=>∀ b : Nat, b < im.length -> bad f g im a.toNat b = false) (R:=λr : Option (Int × Int)=>r.isSome = true) inner with ⟨e, p⟩ | ⟨r, e, hr, np⟩
  . refine ⟨none, by rw [e, Rs.okb, UG], ?_⟩
    rw [Gm.mpr λa b ha hb=>by simpa using p (a : Int) (List.mem_map.mpr ⟨a, List.mem_range.mpr ha, rfl⟩) b hb]
    rfl
  . refine ⟨r, by rw [e, Rs.okb, U9], ?_⟩
    cases q : stB f g im with
    | false=>exact hr
    | true=>
      refine absurd (λa ha b hb=>?_) np
      obtain ⟨i, hi', rfl⟩:=Za ha
      simpa using Gm.mp q i b hi' hb
noncomputable def lon (n : Nat) (im : List Int) : List (List Int):=(((List.range n).map λ(i : Nat)=>(i : Int)).filter λc=>!(decide (c ∈ im))).map λc=>im ++ [c]
theorem FK {im : List Int} (hl : im.length <= 1000) (hn : n <= 1000) : Yd im (n : Int) = .ok (lon n im).reverse:=by
  unfold Yd
  simp only [Rs.okb]
  have e : MB ((n : Int) - 1) (-1) (-1) = .ok ((List.range n).map λ(i : Nat)=>(i : Int)).reverse:=by
    unfold MB
    rw [XG ⟨rfl, by lia, by lia, by decide, by decide⟩]
    congr 1
    unfold VP
    refine List.ext_getElem (by simp) λi h1 h2=>?_
    simp at h1 h2 ⊢
    lia
  rw [e, Rs.okb, Hh (p:=λc=>!(decide (c ∈ im))) (h:=λc=>im ++ [c]) (sz (by simp; lia)) (λ_ _=>rfl) λa _ _=>?_]
  . unfold lon
    rw [List.filter_reverse, List.map_reverse]
  . rw [XG (sz (by simp)), Rs.okb]
    exact XG ⟨by simp, sz (by simp; lia)⟩
theorem H9 {im w : List Int} (h : w ∈ lon n im) : ∃ c, w = im ++ [c] /\ c ∉ im /\ 0 <= c /\ c < (n : Int):=by
  obtain ⟨c, hc, rfl⟩:=List.mem_map.mp h
  obtain ⟨h1, h2⟩:=List.mem_filter.mp hc
  obtain ⟨i, hi, rfl⟩:=Za h1
  exact ⟨_, rfl, by simpa using h2, by lia, by lia⟩
theorem HZ (im : List Int) : (lon n im).length <= n:=by
  unfold lon
  rw [List.length_map]
  exact Nat.le_trans (List.length_filter_le ..) (by simp)
structure Im (n k : Nat) (im : List Int) : Prop where
  inn : In n im
  len : im.length = k
  nd : im.Nodup
theorem Im.lon {k : Nat} {im w : List Int} (h : Im n k im) (hw : w ∈ lon n im) : Im n (k + 1) w:=by
  obtain ⟨c, rfl, h1, h2, h3⟩:=H9 hw
  refine ⟨λx hx=>?_, by rw [List.length_append, h.len]; rfl, ?_⟩
  . rcases List.mem_append.mp hx with z | z
    . exact h.inn x z
    . rw [List.mem_singleton.mp z]; exact ⟨h2, h3⟩
  . rw [List.nodup_append]
    exact ⟨h.nd, by simp, λx hx y hy=>by rw [List.mem_singleton.mp hy]; exact λz=>h1 (z ▸ hx)⟩
noncomputable def lvs (n : Nat) (f g : Nat -> Nat -> Nat) : Nat -> List Int -> List (List Int)
  | 0, im=>if stB f g im = true then [im] else []
  | d + 1, im=>if stB f g im = true then (lon n im).flatMap (lvs n f g d) else []
theorem LH {d : Nat} {im : List Int} (h : stB f g im = false) : lvs n f g d im = []:=by
  cases d <;> (unfold lvs; rw [h]; rfl)
end
section
variable {n : Nat} {f g : Nat -> Nat -> Nat}
theorem CK {α : Type} (as : List α) (a : α) : CZ (as ++ [a]) = .ok (a, as):=by
  unfold CZ
  rw [List.getLast?_concat, List.dropLast_concat]
noncomputable def tN (n : Nat) : Nat -> Nat
  | 0=>1
  | d + 1=>1 + n * tN n d
noncomputable def mu (n : Nat) (W : List (List Int)) : Nat:=(W.map λw=>tN n (n - w.length)).sum
theorem E6 (d : Nat) : 0 < tN n d:=by cases d <;> (unfold tN; lia)
theorem EC (V W : List (List Int)) : mu n (V ++ W) = mu n V + mu n W:=by unfold mu; rw [List.map_append, List.sum_append]
theorem Mt (W : List (List Int)) : W.length <= mu n W:=by
  unfold mu
  induction W with
  | nil=>exact Nat.zero_le _
  | cons w W ih=>
    rw [List.map_cons, List.sum_cons, List.length_cons]
    have:=E6 (n:=n) (n - w.length)
    lia
theorem Iu {W : List (List Int)} {k : Nat} (h : ∀ w ∈ W, w.length = k) : mu n W = W.length * tN n (n - k):=by
  unfold mu
  induction W with
  | nil=>simp
  | cons w W ih=>
    rw [List.map_cons, List.sum_cons, List.length_cons, ih λv hv=>h v (ZP _ hv), h w Zq, Nat.succ_mul]
    lia
noncomputable def II (n : Nat) (f g : Nat -> Nat -> Nat) (W : List (List Int)) : Option (List Int):=(W.reverse.flatMap λw=>lvs n f g (n - w.length) w).head?
theorem Cm {γ ρ : Type} {c : γ -> Rs Bool} {F : γ -> Rs (Ctl ρ γ)} (P : γ -> Prop) (R : ρ -> Prop) (μ : γ -> Nat) (hs : ∀ g, P g -> ∃ b, c g = .ok b /\ (b = true -> (∃ g', F g = .ok (.nx g') /\ P g' /\ μ g' < μ g) ∨ ∃ x, F g = .ok (.ret x) /\ R x)) (k : Nat) : ∀ g : γ, P g -> μ g < k -> (∃ g', QG k g c F = .ok (.nx g') /\ P g' /\ c g' = .ok false) ∨ ∃ x, QG k g c F = .ok (.ret x) /\ R x:=by
  induction k with
  | zero=>intro g _ h; lia
  | succ k ih=>
    intro g hp h
    obtain ⟨b, eb, hb⟩:=hs g hp
    rw [QG, eb, Rs.okb]
    cases b with
    | false=>exact .inl ⟨g, rfl, hp, eb⟩
    | true=>
      rcases hb rfl with ⟨g', e, p', l⟩ | ⟨x, e, hx⟩
      . rw [if_pos rfl, e, Rs.okb]
        exact ih g' p' (by lia)
      . rw [if_pos rfl, e, Rs.okb]
        exact .inr ⟨x, rfl, hx⟩
theorem F0 {γ ρ : Type} {c : γ -> Rs Bool} {F : γ -> Rs (Ctl ρ γ)} {fn : γ -> Rs ρ} {T : ρ -> Prop} (P : γ -> Prop) (R : ρ -> Prop) (μ : γ -> Nat) (hs : ∀ g, P g -> ∃ b, c g = .ok b /\ (b = true -> (∃ g', F g = .ok (.nx g') /\ P g' /\ μ g' < μ g) ∨ ∃ x, F g = .ok (.ret x) /\ R x)) {k : Nat} {g : γ} (hp : P g) (hk : μ g < k)
    (h1 : ∀ g, P g -> c g = .ok false -> Ok (fn g) T) (h2 : ∀ x, R x -> T x) : Ok ((QG k g c F).bind (Z4 fn)) T:=by
  rcases Cm P R μ hs k g hp hk with ⟨s, e, p, hc⟩ | ⟨x, e, hx⟩
  . rw [e, Rs.okb, UG]; exact h1 s p hc
  . rw [e, Rs.okb, U9]; exact .pure (h2 x hx)
theorem G3 {d : Nat} {im : List Int} (h : stB f g im = true) : lvs n f g (d + 1) im = (lon n im).flatMap (lvs n f g d):=by
  show (if stB f g im = true then _ else _) = _
  rw [if_pos h]
theorem Fa {im : List Int} (h : stB f g im = true) : lvs n f g 0 im = [im]:=by
  show (if stB f g im = true then _ else _) = _
  rw [if_pos h]
theorem Vn (hn : n <= 6) : Ok (YK (XD n f) (XD n g)) λr=>r.1 = (lvs n f g n []).head?:=by
  unfold YK
  simp only [Rs.okb, XS]
  rw [if_pos (by simp), XG (sz (by simp)), Rs.okb]
  simp only [Rs.okb]
  rw [XG (sz (by simp)), Rs.okb]
  have hT : tN n n <= 55987:=by
    have : n = 0 ∨ n = 1 ∨ n = 2 ∨ n = 3 ∨ n = 4 ∨ n = 5 ∨ n = 6:=by lia
    rcases this with rfl | rfl | rfl | rfl | rfl | rfl | rfl <;> decide
  have h0 : II n f g [[]] = (lvs n f g n []).head?:=by
    unfold II
    show ([[]].flatMap _).head? = _
    rw [List.flatMap_cons, List.flatMap_nil, List.append_nil]
    rfl
  have hm0 : mu n [[]] = tN n n:=by unfold mu; simp
  refine F0 (λs : List (List Int) × List (List Int × Int × Int)=>(∀ w ∈ s.1, ∃ k, k <= n /\ Im n k w) /\ s.2.length + mu n s.1 <= 60000 /\ II n f g s.1 = (lvs n f g n []).head?) (λr : Option (List Int) × List (List Int × Int × Int)=>r.1 = (lvs n f g n []).head?) (λs=>mu n s.1) (λs hs=>?_) ⟨λw hw=>⟨0, Nat.zero_le _, by rw [List.mem_singleton.mp hw]; exact ⟨λx hx=>(nomatch hx), rfl, List.nodup_nil⟩⟩, by show 0 + mu n [[]] <= _; rw [hm0]; lia, h0⟩ (by show mu n [[]] < _; rw [hm0]; lia) (λs hs hc=>?_) λx hx=>hx
  . obtain ⟨h1, h2, h3⟩ := hs
    refine ⟨decide ((0 : Int) < (s.1.length : Int)), rfl, λhb=>?_⟩
    have hb : (0 : Int) < (s.1.length : Int):=of_decide_eq_true hb
    obtain ⟨W, im, e⟩ : ∃ W im, s.1 = W ++ [im]:=by
      rcases List.eq_nil_or_concat s.1 with z | ⟨W, im, z⟩
      . rw [z] at hb; simp at hb
      . exact ⟨W, im, by rw [z, List.concat_eq_append]⟩
    rw [e] at h1 h2 h3
    have hW : ∀ w ∈ W, ∃ k, k <= n /\ Im n k w:=λw hw=>h1 w (List.mem_append_left _ hw)
    obtain ⟨k, hk, hI⟩:=h1 im (by simp)
    have hlen:=hI.len
    have hmu : mu n (W ++ [im]) = mu n W + tN n (n - k):=by rw [EC]; unfold mu; simp [hlen]
    have hans : II n f g (W ++ [im]) = ((lvs n f g (n - k) im) ++ W.reverse.flatMap λw=>lvs n f g (n - w.length) w).head?:=by
      unfold II
      rw [List.reverse_append]
      show ((im :: W.reverse).flatMap _).head? = _
      rw [List.flatMap_cons, hlen]
    rw [hmu] at h2
    rw [hans] at h3
    have hWl:=Mt (n:=n) W
    obtain ⟨o, eo, ho⟩:=Dl (f:=f) (g:=g) hI.inn (by lia) (by lia)
    rw [e, CK, Rs.okb, hmu]
    simp only
    rw [eo, Ym, Rs.okb]
    have htp:=E6 (n:=n) (n - k)
    cases o with
    | some o=>
      have hst : stB f g im = false:=by
        cases q : stB f g im with
        | false=>rfl
        | true=>rw [q] at ho; cases ho
      left
      refine ⟨(W, s.2 ++ [(im, o.1, o.2)]), ?_, ⟨hW, by show (s.2 ++ [(im, o.1, o.2)]).length + mu n W <= _; rw [List.length_append, List.length_singleton]; lia, ?_⟩, by show mu n W < _; lia⟩
      . show Rs.bind (chk (s.2.length < sizeLine) _) _ = _
        rw [XG (MG (by lia))]
        rfl
      . rw [LH hst, List.nil_append] at h3
        exact h3
    | none=>
      have hst : stB f g im = true:=by
        cases q : stB f g im with
        | true=>rfl
        | false=>rw [q] at ho; cases ho
      rw [if_neg (by decide)]
      by_cases hfull : k = n
      . right
        rw [if_pos (decide_eq_true (by lia))]
        refine ⟨(some im, s.2), rfl, ?_⟩
        show some im = _
        rw [← h3, show n - k = 0 by lia, Fa hst]
        rfl
      . left
        rw [if_neg (by rw [decide_eq_true_eq]; lia), FK (by lia) (by lia), Ym]
        have hll:=HZ (n:=n) im
        have hsame : ∀ w ∈ (lon n im).reverse, w.length = k + 1:=λw hw=>(hI.lon (List.mem_reverse.mp hw)).len
        have hmu2 : mu n (W ++ (lon n im).reverse) < mu n W + tN n (n - k):=by
          rw [EC, Iu hsame, List.length_reverse]
          have h4 : tN n (n - k) = 1 + n * tN n (n - (k + 1)):=by
            rw [show n - k = (n - (k + 1)) + 1 by lia]; rfl
          have h5:=Nat.mul_le_mul_right (tN n (n - (k + 1))) hll
          lia
        refine ⟨(W ++ (lon n im).reverse, s.2), ?_, ⟨λw hw=>?_, by show s.2.length + mu n (W ++ (lon n im).reverse) <= _; lia, ?_⟩, hmu2⟩
        . show Rs.bind (Rs.bind (chk (W.length + (lon n im).reverse.length <= sizeLine) _) _) _ = _
          rw [XG (sz (by rw [List.length_reverse]; lia))]
          rfl
        . rcases List.mem_append.mp hw with z | z
          . exact hW w z
          . exact ⟨k + 1, by lia, hI.lon (List.mem_reverse.mp z)⟩
        . have h6 : n - k = (n - (k + 1)) + 1 := by lia
          have h7 : ∀ ws : List (List Int), (∀ w ∈ ws, w.length = k + 1) -> (ws.flatMap λw=>lvs n f g (n - w.length) w) = ws.flatMap (lvs n f g (n - (k + 1))):=λws=>by
            induction ws with
            | nil=>intro _; rfl
            | cons w ws ih=>intro hw; rw [List.flatMap_cons, List.flatMap_cons, ih λv hv=>hw v (ZP _ hv), hw w Zq]
          rw [h6, G3 hst] at h3
          rw [← h3]
          unfold II
          show ((W ++ (lon n im).reverse).reverse.flatMap _).head? = _
          rw [List.reverse_append, List.reverse_reverse, List.flatMap_append, h7 _ λw hw=>(hI.lon hw).len]
  . obtain ⟨_, _, h3⟩ := hs
    have hc : decide ((0 : Int) < (s.1.length : Int)) = false:=Rs.ok.inj hc
    have hc:=of_decide_eq_false hc
    have : s.1 = []:=List.length_eq_zero_iff.mp (by lia)
    rw [this] at h3
    exact ⟨_, rfl, h3⟩
end
section
variable {n m : Nat} {f g : Nat -> Nat -> Nat}
theorem Cg : ∀ {a b : List Int}, a.Nodup -> (∀ x ∈ a, x ∈ b) -> b.length <= a.length -> a.Perm b
  | [], b, _, _, h=>by rw [List.length_eq_zero_iff.mp (Nat.le_zero.mp h)]
  | x :: a, b, hn, hs, h=>by
    have hx:=hs x Zq
    have hp:=List.perm_cons_erase hx
    rw [List.nodup_cons] at hn
    have hl:=hp.length_eq
    rw [List.length_cons] at hl h
    refine List.Perm.trans (List.Perm.cons x (Cg hn.2 (λy hy=>?_) (by lia))) hp.symm
    have:=hp.mem_iff.mp (hs y (ZP _ hy))
    rcases List.mem_cons.mp this with z | z
    . exact absurd (z ▸ hy) hn.1
    . exact z
theorem CP {im : List Int} (h : (dd im).length = im.length) : im.Nodup:=by
  have h1 : (dd im).Nodup:=GO im [] List.nodup_nil
  have h2 : ∀ x ∈ dd im, x ∈ im:=λx hx=>by
    rcases (E5 x im []).mp hx with z | z
    . cases z
    . exact z
  exact (Cg h1 h2 (by lia)).nodup_iff.mp h1
noncomputable def idl (k : Nat) : List Int:=(List.range k).map λ(i : Nat)=>(i : Int)
theorem Dm (k : Nat) : (idl k).length = k:=by simp [idl]
theorem Bf {k a : Nat} (h : a < k) : im1 (idl k) a = (a : Int):=by
  unfold im1 idl
  rw [List.getD_eq_getElem?_getD, List.getElem?_map, List.getElem?_range h]; rfl
theorem E7 (k : Nat) : stB f f (idl k) = true:=by
  rw [Gm]
  intro a b ha hb
  rw [Dm] at ha hb
  unfold bad
  rw [Dm, Bf ha, Bf hb, Int.toNat_natCast, Int.toNat_natCast]
  by_cases c : ((f a b : Nat) : Int) < (k : Int)
  . rw [Bf (show f a b < k by lia)]; simp
  . rw [decide_eq_false c]; rfl
theorem Gq : ∀ (d k : Nat), k + d = n -> lvs n f f d (idl k) ≠ []
  | 0, k, _=>by rw [Fa (E7 k)]; exact List.cons_ne_nil _ _
  | d + 1, k, h=>by
    rw [G3 (E7 k)]
    intro e
    rw [List.flatMap_eq_nil_iff] at e
    have hm : idl (k + 1) ∈ lon n (idl k):=by
      unfold lon
      refine List.mem_map.mpr ⟨(k : Int), List.mem_filter.mpr ⟨List.mem_map.mpr ⟨k, List.mem_range.mpr (by lia), rfl⟩, ?_⟩, ?_⟩
      . rw [Bool.not_eq_true', decide_eq_false_iff_not]
        intro z
        obtain ⟨i, hi, e⟩:=List.mem_map.mp z
        have:=List.mem_range.mp hi
        lia
      . unfold idl; rw [List.range_succ, List.map_append]; rfl
    exact Gq d (k + 1) (by lia) (e _ hm)
theorem Dw (hn : n <= 6) (hm : m <= 6) : XT (XD n f) (XD m g) = .ok ():=by
  unfold XT
  simp only [Rs.okb, XS]
  rw [Cu (by lia)]; rfl
theorem Gz (h : 6 < n ∨ 6 < m) (hn : n <= 1000) (hm : m <= 1000) : XT (XD n f) (XD m g) = .err ⟨"TooBig", Pay.non⟩:=by
  unfold XT
  simp only [Rs.okb, XS]
  rw [VU (by lia) (by decide) (V2 (by lia))]; rfl
theorem KB (hn : n <= 6) : ∃ x, Qb (XD n f) (XD n f) = .ok (some x):=by
  unfold Qb
  simp only [Rs.okb]
  obtain ⟨r, er, hr⟩:=Vn (f:=f) (g:=f) hn
  rw [Dw hn hn, Rs.okb, er, Ym, Rs.okb, hr]
  have:=Gq (n:=n) (f:=f) n 0 (by lia)
  cases e : lvs n f f n (idl 0) with
  | nil=>exact absurd e this
  | cons x l=>
    have e : lvs n f f n [] = x :: l:=e
    rw [e]; exact ⟨x, rfl⟩
theorem VA (hn : n <= 6) : Y8 (XD n f) (XD n f) = .ok none:=by
  unfold Y8
  simp only [Rs.okb]
  obtain ⟨r, er, hr⟩:=Vn (f:=f) (g:=f) hn
  rw [Dw hn hn, Rs.okb, er, Ym, Rs.okb, hr]
  have:=Gq (n:=n) (f:=f) n 0 (by lia)
  cases e : lvs n f f n (idl 0) with
  | nil=>exact absurd e this
  | cons x l=>
    have e : lvs n f f n [] = x :: l:=e
    rw [e]; rfl
theorem Fh {im : List Int} (hl : im.length <= 1000) : Yw im (n : Int) = .ok (im.all λx=>decide (0 <= x) && decide (x < (n : Int))):=by
  unfold Yw
  simp only [Rs.okb]
  rw [JV (h:=λx=>decide (0 <= x) && decide (x < (n : Int))) (sz (by lia)) λa _=>?_]
  . rw [Rs.okb, List.all_map]; rfl
  . by_cases c : 0 <= a
    . rw [if_pos (decide_eq_true c), decide_eq_true c, Bool.true_and]
    . rw [if_neg (by rw [decide_eq_false c]; decide), decide_eq_false c, Bool.false_and]
theorem GE {im : List Int} {a : Int} : Y2 im a = .ok (decide (0 <= a) && decide (a < (im.length : Int))):=by
  unfold Y2
  simp only [Rs.okb]
  by_cases c : 0 <= a
  . rw [if_pos (decide_eq_true c), decide_eq_true c, Bool.true_and]
  . rw [if_neg (by rw [decide_eq_false c]; decide), decide_eq_false c, Bool.false_and]
theorem Cz {e : List Int × Int × Int} (hl : e.1.length < 64) (hn : n <= 24) : ∃ b, ZZ (XD n f) (XD n g) e = .ok b:=by
  unfold ZZ
  simp only [Rs.okb, XS]
  rw [XG hl, Rs.okb, Fh (by lia), Ym, Rs.okb]
  by_cases c1 : ((dd e.1).length : Int) = (e.1.length : Int)
  . rw [decide_eq_true c1]
    have c1' : (dd e.1).length = e.1.length:=by lia
    have hnd:=CP c1'
    by_cases c2 : (e.1.all λx=>decide (0 <= x) && decide (x < (n : Int))) = true
    . rw [c2, show orR (Rs.ok (!true)) (Rs.ok (!true)) = .ok false from rfl, Rs.okb, if_neg (by decide), GE, GE, Ym, Ym]
      have hin : In n e.1:=λx hx=>by
        have:=List.all_eq_true.mp c2 x hx
        rw [Bool.and_eq_true, decide_eq_true_eq, decide_eq_true_eq] at this
        exact this
      have hle : e.1.length <= n:=by
        have:=DO hnd (m:=(List.range n).map λ(i : Nat)=>(i : Int)) λx hx=>by
          obtain ⟨h1, h2⟩:=hin x hx
          exact List.mem_map.mpr ⟨x.toNat, List.mem_range.mpr (by lia), by lia⟩
        simpa using this
      by_cases c3 : 0 <= e.2.1 /\ e.2.1 < (e.1.length : Int)
      . by_cases c4 : 0 <= e.2.2 /\ e.2.2 < (e.1.length : Int)
        . obtain ⟨a, ha⟩ : ∃ a : Nat, e.2.1 = a := ⟨e.2.1.toNat, by lia⟩
          obtain ⟨b, hb⟩ : ∃ b : Nat, e.2.2 = b:=⟨e.2.2.toNat, by lia⟩
          have ha' : a < e.1.length:=by lia
          have hb' : b < e.1.length:=by lia
          rw [ha, hb, KL hin hle ha' hb', Ym]
          exact ⟨_, by rw [Kj λ_=>Kj λ_=>rfl]⟩
        . refine ⟨_, Kj (c := false) λ_ => ?_⟩
          have : (decide (0 <= e.2.2) && decide (e.2.2 < (e.1.length : Int))) = false:=by
            rw [Bool.and_eq_false_iff, decide_eq_false_iff_not, decide_eq_false_iff_not]; lia
          rw [this]; rfl
      . have : (decide (0 <= e.2.1) && decide (e.2.1 < (e.1.length : Int))) = false:=by
          rw [Bool.and_eq_false_iff, decide_eq_false_iff_not, decide_eq_false_iff_not]; lia
        rw [this]; exact ⟨false, rfl⟩
    . rw [Bool.not_eq_true] at c2
      rw [c2]; exact ⟨false, rfl⟩
  . rw [decide_eq_false c1]; exact ⟨false, rfl⟩
end
theorem FR {ls : List (List Int)} {n i : Nat} (hn : n <= 6) (hc : ls.length * n <= 60000) (hi : i <= 1000) (hl : ∀ o ∈ ls, o.length = i) : Ok (X2 ls (n : Int)) λl=>l.length <= ls.length * n /\ ∀ o ∈ l, o.length = i + 1:=by
  unfold X2
  simp only [Rs.okb]
  refine Ok.bind (Ok.forN (λk l=>l.length <= k * n /\ ∀ o ∈ l, o.length = i + 1) ⟨Nat.zero_le _, λo ho=>nomatch ho⟩ λk a g hk hg=>?_) λt ht=>⟨t, rfl, ht⟩
  have hk' : k < ls.length:=(List.getElem?_eq_some_iff.mp hk).1
  have ha : a.length = i:=hl a (List.mem_of_getElem? hk)
  have hkn : (k + 1) * n <= ls.length * n:=Nat.mul_le_mul_right n hk'
  rw [Nat.add_mul, Nat.one_mul] at hkn
  rw [Q5 (by lia), Rs.okb]
  refine Ok.bind (Ok.forN (λj l=>l.length <= k * n + j /\ ∀ o ∈ l, o.length = i + 1) ⟨hg.1, hg.2⟩ λj x g2 hj hg2=>?_) λt ht=>⟨t, rfl, by rw [ZV] at ht; rw [Nat.add_mul, Nat.one_mul]; exact ht.1, ht.2⟩
  obtain ⟨rfl, hjn⟩:=ZX hj
  refine Ok.bind (R:=λl=>l.length <= k * n + (j + 1) /\ ∀ o ∈ l, o.length = i + 1) (Ok.ite (λ_=>?_) λ_=>⟨g2, rfl, by lia, hg2.2⟩) λt ht=>⟨t, rfl, ht⟩
  rw [XG (sz (by simp)), Rs.okb, show ID a [(j : Int)] = .ok (a ++ [(j : Int)]) from XG (sz (by simp; lia)), Rs.okb, XG (MG (by lia))]
  refine ⟨_, rfl, by simp; lia, λo ho=>?_⟩
  rcases List.mem_append.mp ho with z | z
  . exact hg2.2 o z
  . rw [List.mem_singleton.mp z, List.length_append, ha]; rfl
theorem Ix {n : Nat} (h0 : 0 < n) (h6 : n <= 6) : ∃ l, Ys (n : Int) = .ok l /\ l.length <= 60000 /\ ∀ o ∈ l, o.length <= 1000:=by
  unfold Ys
  simp only [Rs.okb]
  rw [XG (sz (by simp)), Rs.okb, Q5 (by lia), Rs.okb]
  have hp : ∀ i, i <= n -> n ^ i <= 60000:=λi hi=>Nat.le_trans (Nat.pow_le_pow_right h0 hi) (by
    rcases (show n = 1 ∨ n = 2 ∨ n = 3 ∨ n = 4 ∨ n = 5 ∨ n = 6 by lia) with rfl | rfl | rfl | rfl | rfl | rfl <;> decide)
  obtain ⟨l, el, h1, h2⟩:=Ok.forN (f:=λg10 a12=>Rs.bind (noE (X2 g10 (n : Int))) λa14=>Rs.ok a14) (as:=(List.range n).map λ(i : Nat)=>(i : Int)) (g:=[[]]) (λi l=>l.length <= n ^ i /\ ∀ o ∈ l, o.length = i) ⟨Nat.le_refl 1, λo ho=>by rw [List.mem_singleton.mp ho]; rfl⟩ λi x g hi hg=>by
    obtain ⟨rfl, hin⟩:=ZX hi
    have hm : g.length * n <= n ^ (i + 1):=by rw [Nat.pow_succ]; exact Nat.mul_le_mul_right n hg.1
    refine Ok.bind (Ok.noE (FR h6 (Nat.le_trans hm (hp (i + 1) (by lia))) (by lia) hg.2)) λl hl=>⟨l, rfl, Nat.le_trans hl.1 hm, hl.2⟩
  rw [ZV] at h1 h2
  refine ⟨l, ?_, Nat.le_trans h1 (hp n (Nat.le_refl _)), λo ho=>by rw [h2 o ho]; lia⟩
  rw [el, Rs.okb]
theorem Dr {o : List Int} {d : List (List Int × Bool)} (h : o.length <= 1000) : ∃ b, XV o d = .ok b:=by
  unfold XV
  simp only [Rs.okb]
  rw [show (o.length : Int) + 1 = ((o.length + 1 : Nat) : Int) by lia, Q5 (by lia), Rs.okb, JV (h:=λa7=>(Uq d (Ff o none (some a7))).isSome) (sz (by simp; lia)) λ_ _=>rfl]
  exact ⟨_, rfl⟩
theorem CW {α β : Type} {F : α -> Rs β} {as : List α} (hl : as.length <= sizeLine) (h : ∀ a ∈ as, ∃ b, F a = .ok b) : ∃ bs, V0 as F = .ok bs:=by
  unfold V0
  rw [XG hl]
  clear hl
  induction as with
  | nil=>exact ⟨[], rfl⟩
  | cons a as ih=>
    obtain ⟨b, eb⟩:=h a Zq
    obtain ⟨bs, ebs⟩:=ih λx hx=>h x (ZP _ hx)
    exact ⟨b :: bs, by show (F a).bind _ = _; rw [eb, Rs.okb, ebs]; rfl⟩
theorem DL {α β : Type} {c : α -> Rs Bool} {F : α -> Rs β} {as : List α} (hl : as.length <= sizeLine) (hc : ∀ a ∈ as, ∃ b, c a = .ok b) (h : ∀ a ∈ as, ∃ b, F a = .ok b) : ∃ bs, Bl as c F = .ok bs:=by
  unfold Bl
  rw [XG hl]
  clear hl
  induction as with
  | nil=>exact ⟨[], rfl⟩
  | cons a as ih=>
    obtain ⟨b, eb⟩:=h a Zq
    obtain ⟨t, et⟩:=hc a Zq
    obtain ⟨bs, ebs⟩:=ih (λx hx=>hc x (ZP _ hx)) λx hx=>h x (ZP _ hx)
    cases t with
    | true=>exact ⟨b :: bs, by show (c a).bind _ = _; rw [et, Rs.okb, if_pos rfl, eb, Rs.okb, ebs]; rfl⟩
    | false=>exact ⟨bs, by show (c a).bind _ = _; rw [et, Rs.okb, if_neg (by decide)]; exact ebs⟩
section
variable {n m : Nat} {f g : Nat -> Nat -> Nat}
theorem BR {paper : List (List Int × Int × Int)} (h0 : 0 < n) (hn : n <= 6) (hp : paper.length <= 100) (hl : ∀ e ∈ paper, e.1.length < 64) : ∃ b, Qn (XD n f) (XD n g) paper = .ok b:=by
  unfold Qn
  simp only [Rs.okb, XS]
  rw [Dw hn hn, Rs.okb, if_neg (by decide)]
  obtain ⟨ps, eps⟩:=DL (as:=paper) (c:=λa13=>noE (ZZ (XD n f) (XD n g) a13)) (F:=λa13=>(Rs.ok (a13.1, true))) (sz (by lia)) (λe he=>by
    obtain ⟨b, eb⟩:=Cz (f:=f) (g:=g) (hl e he) (show n <= 24 by lia)
    exact ⟨b, EN eb⟩) λe he=>⟨_, rfl⟩
  rw [eps, Rs.okb, Rs.okb]
  obtain ⟨l, el, hl1, hl2⟩:=Ix h0 hn
  rw [el, Ym, Rs.okb]
  obtain ⟨bs, ebs⟩:=CW (as:=l) (F:=λa28=>noE (XV a28 (V4 [] ps))) (sz (by lia)) λo ho=>by
    obtain ⟨b, eb⟩:=Dr (d:=V4 [] ps) (hl2 o ho)
    exact ⟨b, EN eb⟩
  rw [ebs]
  exact ⟨_, rfl⟩
end
noncomputable def Nm : Bool:=match YN 1, Z0 1 with
  | .ok _, .ok _=>true
  | _, _=>false
theorem M4 : Nm = true:=by decide +kernel
theorem IS : (∃ a, YN 1 = .ok a) /\ ∃ b, Z0 1 = .ok b:=by
  have h:=M4
  unfold Nm at h
  cases e1 : YN 1 with
  | bad=>rw [e1] at h; cases h
  | err x=>rw [e1] at h; cases h
  | ok a=>cases e2 : Z0 1 with
    | bad=>rw [e1, e2] at h; cases h
    | err x=>rw [e1, e2] at h; cases h
    | ok b=>exact ⟨⟨a, rfl⟩, b, rfl⟩
theorem VY {s : Int} (h : 4 < s) (hb : s < 2 ^ 1900) : YN s = .err ⟨"TooBig", Pay.non⟩:=by
  unfold YN
  simp only [Rs.okb]
  rw [VU h (by decide) hb]; rfl
theorem Cl {s : Int} (h : 4 < s) (hb : s < 2 ^ 1900) : Z0 s = .err ⟨"TooBig", Pay.non⟩:=by
  unfold Z0
  simp only [Rs.okb]
  rw [VY h hb]; rfl
section
variable {n m : Nat} {f g : Nat -> Nat -> Nat} {paper : List (List Int × Int × Int)}
theorem By {d : Int} (h0 : 0 < n) (hn : n <= 6) (hp : paper.length <= 100) (hl : ∀ e ∈ paper, e.1.length < 64) : ZL d (XD n f) (XD n f) paper 1 = .ok true:=by
  unfold ZL
  simp only [Rs.okb]
  obtain ⟨x, ex⟩:=KB (f:=f) hn
  obtain ⟨b, eb⟩:=BR (f:=f) (g:=f) h0 hn hp hl
  obtain ⟨⟨t, et⟩, k, ek⟩:=IS
  rw [ex, VA hn, eb, et, ek]
  simp only [Rs.okb, ite_self]
theorem FX {d s : Int} (hd : 0 <= d /\ d < 5) (hb : 6 < n ∨ 6 < m) (hn : n <= 1000) (hm : m <= 1000) (h : 4 < s) (hs : s < 2 ^ 1900) : ZQ d (XD n f) (XD m g) paper s = .ok true:=by
  unfold ZQ
  have e : ZL d (XD n f) (XD m g) paper s = .err ⟨"TooBig", Pay.non⟩:=by
    unfold ZL
    simp only [Rs.okb]
    have e1 : Qb (XD n f) (XD m g) = .err ⟨"TooBig", Pay.non⟩:=by unfold Qb; simp only [Rs.okb]; rw [Gz hb hn hm]; rfl
    have e2 : Y8 (XD n f) (XD m g) = .err ⟨"TooBig", Pay.non⟩:=by unfold Y8; simp only [Rs.okb]; rw [Gz hb hn hm]; rfl
    have e3 : Qn (XD n f) (XD m g) paper = .err ⟨"TooBig", Pay.non⟩:=by unfold Qn; simp only [Rs.okb]; rw [Gz hb hn hm]; rfl
    rw [e1, e2, e3, VY h hs, Cl h hs]
    rcases (show d = 0 ∨ d = 1 ∨ d = 2 ∨ d = 3 ∨ d = 4 by lia) with rfl | rfl | rfl | rfl | rfl <;> rfl
  simp only [Rs.okb]
  rw [e]
  unfold Rs.tryC
  simp only []
  rw [XG (by decide +kernel)]
  exact L8 (by decide +kernel)
end
theorem BA (ns : List Int) (_ : ns.length <= 63) : K1 ns = .ok true:=by
  unfold K1
  simp only [Rs.okb]
  rw [Dv (by decide) (by decide) (by decide) (by decide)]
  simp only [Rs.okb]
  rw [XG (sz (by simp)), Rs.okb]
  obtain ⟨r, er, hl, hv⟩:=EJ ns (p:=2) (by decide) [36, 3, 6, 6, 18, 5, 10 ^ (59 : Int).toNat, 2, 7] (by decide) (by decide)
  have hl : r.length = 9:=hl
  rw [er, Ym, Rs.okb]
  have h0:=hv 0 r[0] 36 (by simp) rfl
  have h1:=hv 1 r[1] 3 (by simp) rfl
  have h2:=hv 2 r[2] 6 (by simp) rfl
  have h3:=hv 3 r[3] 6 (by simp) rfl
  have h4:=hv 4 r[4] 18 (by simp) rfl
  have h6:=hv 6 r[6] (10 ^ (59 : Int).toNat) (by simp) rfl
  have h7:=hv 7 r[7] 2 (by simp) rfl
  obtain ⟨t, et, n, f, hn0, hn6, gd, rfl⟩:=BQ ns (p:=0) (by decide) (most:=6) (by decide) (by decide)
  have et : QN ns 0 6 = .ok (XD n f):=et
  rw [et, Ym, Rs.okb]
  rw [ZS (r:=r) (k:=0) (n:=0) rfl (by lia), ZS (r:=r) (k:=1) (n:=1) rfl (by lia), ZS (r:=r) (k:=2) (n:=2) rfl (by lia), ZS (r:=r) (k:=3) (n:=3) rfl (by lia), ZS (r:=r) (k:=4) (n:=4) rfl (by lia), ZS (r:=r) (k:=5) (n:=5) rfl (by lia), ZS (r:=r) (k:=6) (n:=6) rfl (by lia), ZS (r:=r) (k:=7) (n:=7) rfl (by lia), ZS (r:=r) (k:=8) (n:=8) rfl (by lia)]
  simp only [Rs.okb]
  obtain ⟨m, hm7, hm24, em⟩ : ∃ m : Nat, 7 <= m /\ m <= 24 /\ (7 : Int) + r[4] = m:=⟨((7 : Int) + r[4]).toNat, by lia, by lia, by lia⟩
  rw [em]
  obtain ⟨t2, et2, g, gd2, rfl⟩:=CO (way:=r[8]) (k:=(1 : Int) + r[2]) (n:=m) (by lia) (by lia)
  rw [et2, Ym, Rs.okb]
  rw [XG (sz (by simp)), Rs.okb]
  have hcop : ∀ {k : Nat} {h : Nat -> Nat -> Nat}, k <= 1000 -> V0 (XD k h) (λa73=>Rs.ok a73) = .ok (XD k h):=fun {k h} hk=>by
    rw [JV (h:=λa=>a) (sz (by rw [XS]; lia)) λ_ _=>rfl, List.map_id']
  rw [hcop (by lia), hcop (by lia)]
  simp only [Rs.okb]
  have hsz : ∃ s : Int, 4 < s /\ s < 2 ^ 1900 /\ atR [(5 : Int) + r[0], (5 : Int) + r[6]] r[7] = .ok s:=by
    have hp : (10 : Int) ^ (59 : Int).toNat < 2 ^ 1899:=by decide +kernel
    have hp2 : (2 : Int) ^ 1899 + 100 < 2 ^ 1900:=by decide +kernel
    rcases (show r[7] = 0 ∨ r[7] = 1 by lia) with e | e
    . exact ⟨(5 : Int) + r[0], by lia, V2 (by lia), by rw [e]; rfl⟩
    . refine ⟨(5 : Int) + r[6], by lia, ?_, by rw [e]; rfl⟩
      generalize (2 : Int) ^ 1900 = A at *
      generalize (2 : Int) ^ 1899 = B at *
      generalize (10 : Int) ^ (59 : Int).toNat = C at *
      lia
  obtain ⟨s, hs4, hsb, es⟩:=hsz
  rw [es, Rs.okb]
  have c2 : ∀ {α : Type} (x y : α), (chk ((x :: y :: []).length <= sizeLine) (Rs.ok (x :: y :: []))) = .ok [x, y]:=λx y=>XG (sz (by simp))
  rw [c2, Rs.okb]
  have hpap : ∃ paper : List (List Int × Int × Int), paper.length <= 100 /\ (∀ e ∈ paper, e.1.length < 64) /\ atR [([] : List (List Int × Int × Int)), [([0], 0, 0)], [([r[2], r[3]], 0, 1), ([1, 1], 5, 5)]] r[1] = .ok paper:=by
    rcases (show r[1] = 0 ∨ r[1] = 1 ∨ r[1] = 2 by lia) with e | e | e
    . exact ⟨[], by simp, (λ_ he=>absurd he List.not_mem_nil), by rw [e]; rfl⟩
    . refine ⟨[([0], 0, 0)], by simp, λe he => ?_, by rw [e]; rfl⟩
      rw [List.mem_singleton.mp he]; decide
    . refine ⟨[([r[2], r[3]], 0, 1), ([1, 1], 5, 5)], by simp, λe he => ?_, by rw [e]; rfl⟩
      rcases List.mem_cons.mp he with z | z
      . rw [z]; simp
      . rw [List.mem_singleton.mp z]; decide
  obtain ⟨paper, hp1, hp2, ep⟩:=hpap
  have d1 : ∀ {α β : Type} (x : α) (m : Rs β), chk ([x].length <= sizeLine) m = m:=λx m=>XG (sz (by simp))
  have d2 : ∀ {α β : Type} (x y : α) (m : Rs β), chk ([x, y].length <= sizeLine) m = m:=λx y m=>XG (sz (by simp))
  have d3 : ∀ {α β : Type} (x y z : α) (m : Rs β), chk ([x, y, z].length <= sizeLine) m = m:=λx y z m=>XG (sz (by simp))
  simp only [d1, d2, d3, Rs.okb]
  rw [ep, Rs.okb, show (5 : Int) = ((5 : Nat) : Int) from rfl, Q5 (by decide), Rs.okb]
  have hpair : ∃ a b ha hb, ((6 : Nat) < a ∨ 6 < b) /\ a <= 1000 /\ b <= 1000 /\ ((Jj r[3] 3).bind λx168=>atR [(XD n f, XD m g), (XD m g, XD n f), (XD m g, XD m g)] x168) = .ok (XD a ha, XD b hb):=by
    rw [YH (by decide), Rs.okb]
    have q1:=Int.emod_nonneg r[3] (show (3 : Int) ≠ 0 by decide)
    have q2:=Int.emod_lt_of_pos r[3] (show (0 : Int) < 3 by decide)
    rcases (show r[3] % 3 = 0 ∨ r[3] % 3 = 1 ∨ r[3] % 3 = 2 by lia) with e | e | e
    . exact ⟨n, m, f, g, by lia, by lia, by lia, by rw [e]; rfl⟩
    . exact ⟨m, n, g, f, by lia, by lia, by lia, by rw [e]; rfl⟩
    . exact ⟨m, m, g, g, by lia, by lia, by lia, by rw [e]; rfl⟩
  obtain ⟨a, b, ha, hb, hab, ha1, hb1, epr⟩:=hpair
  rw [G5 λx hx=>?_]
  . rw [Rs.okb, UG]
    obtain ⟨y, ey⟩:=KB (f:=f) hn6
    rw [ey, VA hn6]; rfl
  . have q1 := Int.emod_nonneg (x + r[5]) (show ((5 : Nat) : Int) ≠ 0 by decide)
    have q2:=Int.emod_lt_of_pos (x + r[5]) (show (0 : Int) < ((5 : Nat) : Int) by decide)
    rw [YH (by decide), Rs.okb, epr]
    simp only [Rs.okb]
    rw [FX ⟨q1, q2⟩ hab ha1 hb1 hs4 hsb, By hn0 hn6 hp1 hp2]
    simp only [Ym, Rs.okb, decide_true]
    rfl
noncomputable def top (i : Nat) : Stmt:=PySem.Challenge.pw_plait_k47_too_big_everywhere.main.body.getD i (.Pass ⟨0, 0, 0, 0⟩)
noncomputable abbrev ZN : Stmt:=top 5
noncomputable abbrev Zo : Stmt:=top 6
noncomputable abbrev QI : Stmt:=top 7
noncomputable abbrev Zu : Stmt:=top 8
noncomputable abbrev Uo : Stmt:=top 10
noncomputable abbrev Zw : Stmt:=top 11
noncomputable abbrev YM : Stmt:=top 12
noncomputable abbrev Ql : Stmt:=top 13
noncomputable abbrev Y1 : Stmt:=top 14
noncomputable abbrev Q7 : Stmt:=top 17
noncomputable abbrev Zp : Stmt:=top 18
noncomputable abbrev Ye : Stmt:=top 19
noncomputable abbrev X9 : Stmt:=top 20
noncomputable abbrev Bg : Stmt:=top 23
noncomputable abbrev Uf : Stmt:=top 24
noncomputable abbrev Qq : Stmt:=top 25
noncomputable abbrev Jf : Stmt:=top 26
noncomputable abbrev YS : Stmt:=top 27
noncomputable abbrev ZK : Stmt:=top 28
noncomputable abbrev Y4 : Stmt:=top 29
noncomputable abbrev Ut : Stmt:=top 30
noncomputable abbrev JN : Stmt:=top 31
noncomputable abbrev Uc : Stmt:=top 32
noncomputable abbrev Jg : Stmt:=top 33
noncomputable abbrev Yx : Stmt:=top 34
noncomputable abbrev CQ : Stmt:=top 36
noncomputable abbrev HF : Stmt:=top 37
noncomputable abbrev He : Stmt:=top 38
noncomputable abbrev VD : Stmt:=top 39
noncomputable abbrev Ux : Stmt:=top 40
noncomputable abbrev GV : Stmt:=top 41
noncomputable abbrev Vw : Stmt:=top 42
noncomputable abbrev JC : Stmt:=top 43
noncomputable abbrev Gb : Stmt:=top 44
noncomputable abbrev K0 : Stmt:=top 45
noncomputable abbrev Vp : Stmt:=top 46
noncomputable abbrev Vg : Stmt:=top 47
theorem U7 {X : Cx} : PE X (.List [.List [.Constant (.int 0) 0 ⟨184, 17, 184, 18⟩, .Constant (.int 3) 0 ⟨184, 20, 184, 21⟩, .Constant (.int 1) 0 ⟨184, 23, 184, 24⟩, .Constant (.int 2) 0 ⟨184, 26, 184, 27⟩] ⟨184, 16, 184, 28⟩, .List [.Constant (.int 2) 0 ⟨184, 31, 184, 32⟩, .Constant (.int 1) 0 ⟨184, 34, 184, 35⟩, .Constant (.int 3) 0 ⟨184, 37, 184, 38⟩, .Constant (.int 0) 0 ⟨184, 40, 184, 41⟩] ⟨184, 30, 184, 42⟩, .List [.Constant (.int 3) 0 ⟨184, 45, 184, 46⟩, .Constant (.int 0) 0 ⟨184, 48, 184, 49⟩, .Constant (.int 2) 0 ⟨184, 51, 184, 52⟩, .Constant (.int 1) 0 ⟨184, 54, 184, 55⟩] ⟨184, 44, 184, 56⟩, .List [.Constant (.int 1) 0 ⟨184, 59, 184, 60⟩, .Constant (.int 2) 0 ⟨184, 62, 184, 63⟩, .Constant (.int 0) 0 ⟨184, 65, 184, 66⟩, .Constant (.int 3) 0 ⟨184, 68, 184, 69⟩] ⟨184, 58, 184, 70⟩] ⟨184, 15, 184, 71⟩) (BC (Xr (BC (Xr (tC (.int 0)) (Xr (tC (.int 3)) (Xr (tC (.int 1)) (Xr (tC (.int 2)) Zc))))) (Xr (BC (Xr (tC (.int 2)) (Xr (tC (.int 1)) (Xr (tC (.int 3)) (Xr (tC (.int 0)) Zc))))) (Xr (BC (Xr (tC (.int 3)) (Xr (tC (.int 0)) (Xr (tC (.int 2)) (Xr (tC (.int 1)) Zc))))) (Xr (BC (Xr (tC (.int 1)) (Xr (tC (.int 2)) (Xr (tC (.int 0)) (Xr (tC (.int 3)) Zc))))) Zc))))):=by
  refine X3 ?_
  refine UP ?_ ?_
  . exact X3 (Xb Xh (Xb Xh (Xb Xh (Xb Xh Xe))))
  refine UP ?_ ?_
  . exact X3 (Xb Xh (Xb Xh (Xb Xh (Xb Xh Xe))))
  refine UP ?_ ?_
  . exact X3 (Xb Xh (Xb Xh (Xb Xh (Xb Xh Xe))))
  refine UP ?_ ?_
  . exact X3 (Xb Xh (Xb Xh (Xb Xh (Xb Xh Xe))))
  exact Xe
noncomputable def BV : Scope:={ kind:=PySem.ScopeKind.function, names:=[ (PySem.Str.ofString ".0", PySem.NameKind.local), (PySem.Str.ofString "a", PySem.NameKind.cell), (PySem.Str.ofString "columns", PySem.NameKind.free)], isGenerator:=false, isCoroutine:=false, more:=[] : PySem.Scope }
structure Blt (mg : Str -> Option Value) : Prop where
  b_ValueError : mg "ValueError" = none
  b_abs : mg "abs" = none
  b_all : mg "all" = none
  b_any : mg "any" = none
  b_dict : mg "dict" = none
  b_enumerate : mg "enumerate" = none
  b_isinstance : mg "isinstance" = none
  b_len : mg "len" = none
  b_list : mg "list" = none
  b_max : mg "max" = none
  b_range : mg "range" = none
  b_set : mg "set" = none
  b_sorted : mg "sorted" = none
  b_tuple : mg "tuple" = none
  c_MOST_OF_ALL : ∃ u, mg "MOST_OF_ALL" = some u /\ X7 (.int 4) u
  c_MOST_TO_COMPARE : ∃ u, mg "MOST_TO_COMPARE" = some u /\ X7 (.int 6) u
section
variable {P : Program} {w : World} {K : Fgg} {mg : Str -> Option Value} {base : Heap}
theorem Vo : FnScope ["most", "size"] ["most", "size"] (Xi ZN):=⟨rfl, rfl, rfl, by decide +kernel, rfl, by decide +kernel, by decide +kernel⟩
theorem J9 (D : Def K mg "refuse_above" ZN ["most", "size"])  (Y : Ecs Xy K mg) (Z : Blt mg) : FnX P w K mg base 1 "refuse_above" ["most", "size"] (KP mg Xa Xa oU XM K):=by
  refine Jl D Vo (λvs H Q E h=>?_) (λf cdv A outer s H vs Q E hr h=>?_)
  . obtain ⟨v_0, v_1, a_0, a_1, rfl, _⟩:=h; rfl
  obtain ⟨v_0, v_1, a_0, a_1, rfl, h_0, h_1, hz⟩:=h
  obtain ⟨C_TooBig, h_TooBig, q_TooBig⟩:=Y.adr "TooBig" (.tail _ (.head _))
  replace q_TooBig:=q_TooBig (by decide)
  have hu:=hu8 hr
  have hu1:=Yl hr
  refine ⟨_, (Xd (YD (Xs Di (pv 1) (pv 0) (XC _))
      (Xd (B5 Mf rfl q_TooBig rfl h_TooBig (Xb (NI (EV (pv 1) (Lu Lh (EV (pv 0) Lf)))) Xe))
      Xg)
      Xg)
    Xg), ?_⟩
  refine EG (J:=({ oo:=λx3=>[], ss:=λx3=>[some v_0, some v_1], sc:=λg4 x3=>(SC.add (SC.add SC.nil K Xa v_0 a_0) K Xa v_1 a_1) } : Jn (Unit) (Unit))) (K:=K) (S:=(SC.add (SC.add SC.nil K Xa v_0 a_0) K Xa v_1 a_1)) (σ:=[some v_0, some v_1]) 0 ?_ (SC.i (SC.i SC.t h_0) h_1) hz (λ_ _=>rfl)
  unfold XM
  exact (LO (K:=K) (o:=oU) (Xl (K:=K) (UZ (Xc (r:=Xa) 1 rfl (λ_ s=>s.r)) (Xc (r:=Xa) 0 rfl (λ_ s=>s.l.r)))) (BK h_TooBig (Nc (F3 (K:=K) (Xc (r:=Xa) 1 rfl (λ_ s=>s.r)) (Hr (F3 (K:=K) (Xc (r:=Xa) 0 rfl (λ_ s=>s.l.r)) HM))))) (XA (J:=_) () () rfl rfl (λ_ s=>(SC.i (SC.i SC.t s.l.r) s.r))))
theorem VJ : FnScope ["numbers", "size"] ["numbers", "size"] (Xi Zo):=⟨rfl, rfl, rfl, by decide +kernel, rfl, by decide +kernel, by decide +kernel⟩
theorem VG (D : Def K mg "all_colours" Zo ["numbers", "size"])  (Y : Ecs Xy K mg) (Z : Blt mg) : Fn P w K mg base 1 "all_colours" ["numbers", "size"] (sp2 (rPL Xa) Xa (oF XR) Yw K):=by
  refine Y0 D VJ (λvs H Q E h=>?_) (λf cdv A outer s H vs Q E hr h=>?_)
  . obtain ⟨v_0, v_1, a_0, a_1, b, rfl, _⟩:=h; rfl
  obtain ⟨v_0, v_1, a_0, a_1, b, rfl, h_0, h_1, hm, q⟩:=h
  have hu:=hu8 hr
  have hu1:=Yl hr
  refine ⟨_, (Xd (Xw (Xt (JZ rfl) rfl Z.b_all PyProof.Rows.boot_all (Xb (Yz (sc:=(Xi Zo)) (N0:=["numbers", "size"]) (tns:=["number"]) (caps:=[(1, "size")]) rfl (Hn (K:=K) rfl (pv 0)) (Yt (by decide)) (λcl C s H ex E=>⟨Xu (i:=0) (show List.Nodup (["number", "size"] : List Str) by decide +kernel) rfl (Or.inl rfl), Y5, (GN Lb Ui Xh (pv 0) (pv 1))⟩)) Xe)))
    Xg), ?_⟩
  refine Y3 (S:=(SC.add (SC.add SC.nil K (rPL Xa) v_0 a_0) K Xa v_1 a_1)) (σ:=[some v_0, some v_1]) 0 ?_ (SC.i (SC.i SC.t h_0) h_1) hm q rfl
  unfold Yw
  exact (Xx (EvS.ev (EvB.sh (Gx (Ev.toB (Y6 (λ_=>tg1 0) (BM (Xo (r:=(rPL Xa)) 0 rfl (λ_ s=>s.l.r))) (λC2 a3 v4=>(EvS.ev (EvB.sh (Ko (Xf 0) (Xc (r:=Xa) 0 rfl (λ_ s=>s.r)) (Xc (r:=Xa) 1 rfl (λ_ s=>s.l.r))))))))))))
theorem YG : FnScope ["lists", "count", "longer", "ahead", "number"] ["lists", "count"] (Xi Zu):=⟨rfl, rfl, rfl, by decide +kernel, rfl, by decide +kernel, by decide +kernel⟩
theorem Jo (D : Def K mg "longer_by_one" Zu ["lists", "count"])  (Y : Ecs Xy K mg) (Z : Blt mg) : Fn P w K mg base 1 "longer_by_one" ["lists", "count"] (sp2 (rV (rV Xa)) Xa (oL (oL (oF Xa))) X2 K):=by
  refine Y0 D YG (λvs H Q E h=>?_) (λf cdv A outer s H vs Q E hr h=>?_)
  . obtain ⟨v_0, v_1, a_0, a_1, b, rfl, _⟩:=h; rfl
  obtain ⟨v_0, v_1, a_0, a_1, b, rfl, h_0, h_1, hm, q⟩:=h
  have hu:=hu8 hr
  have hu1:=Yl hr
  refine ⟨_, (Xd (XF (i:=2) YG.nd rfl (Or.inl rfl) (X3 Xe))
    (Xd (YF PassesOwn.never rfl (Yb (K:=K) rfl (pv 0)) (Xu (i:=3) YG.nd rfl (Or.inl rfl))
      (Xd (YF PassesOwn.never rfl (XZ rfl Z.b_range (Xb (pv 1) Xe)) (Xu (i:=4) YG.nd rfl (Or.inl rfl))
        (Xd (YD (Xs Ji (pv 4) (pv 3) rfl)
          (Xd (Ya (Jq PySem.F.plainAttrs_list PySem.F.slot_list_append PySem.F.type_list_append Zb (pv 2) (Xb (XB C5 (pv 3) (X3 (Xb (pv 4) Xe))) Xe)))
          Xg)
          Xg)
        Xg))
      Xg))
    (Xd (Xw (pv 2))
    Xg))), ?_⟩
  refine Y3 (S:=(SC.add (SC.add SC.nil K (rV (rV Xa)) v_0 a_0) K Xa v_1 a_1)) (σ:=[some v_0, some v_1, none, none, none]) 1 ?_ (SC.i (SC.i SC.t h_0) h_1) hm q rfl
  unfold X2
  exact (Yu (K:=K) (o:=(oL (oL (oF Xa)))) 2 0 (JU (o:=(oL (oF Xa)))) (Nat.le_of_ble_eq_true rfl) λa1 v2 C3=>(Qg (K:=K) (J:=({ oo:=λx4=>[x4.2.2.2], ss:=λx4=>[some v_0, some v_1, some x4.2.2.1, x4.1, x4.2.1], sc:=λg5 x4=>(SC.addO (SC.add (SC.add SC.nil K (rV (rV Xa)) v_0 a_0) K Xa v_1 a_1) K (oL (oL (oF Xa))) x4.2.2.1 g5 x4.2.2.2) } : Jn ((List (List Int))) (Option V × Option V × V × List Xz))) (λ_=>tg1 3) ((none), (none), v2, C3) (a1) (X8 (Xo (r:=(rV (rV Xa))) 0 rfl (λ_ s=>s.l.l.r))) rfl rfl (λ_ s=>(SC.i (SC.i (SC.i SC.t s.l.l.r) s.l.r) s.r)) (λg6 x7 a8 v9=>(Qg (K:=K) (J:=({ oo:=λx11=>[x11.2.2], ss:=λx11=>[some v_0, some v_1, some x11.2.1, some v9, x11.1], sc:=λg12 x11=>(SC.addO (SC.add (SC.add (SC.add SC.nil K (rV (rV Xa)) v_0 a_0) K Xa v_1 a_1) K (rV Xa) v9 a8) K (oL (oL (oF Xa))) x11.2.1 g12 x11.2.2) } : Jn ((List (List Int))) (Option V × V × List Xz))) (λ_=>tg1 4) ((x7.2.1), x7.2.2.1, x7.2.2.2) (g6) (XH (Xc (r:=Xa) 1 rfl (λ_ s=>s.l.l.r))) rfl rfl (λ_ s=>(SC.i (SC.i (SC.i (SC.i SC.t s.l.l.l.r) s.l.l.r) s.r) s.l.r)) (λg13 x14 a15 v16=>(Zz (J:=({ oo:=λx20=>[x20.2], ss:=λx20=>[some v_0, some v_1, some x20.1, some v9, some v16], sc:=λg21 x20=>(SC.addO (SC.add (SC.add (SC.add (SC.add SC.nil K (rV (rV Xa)) v_0 a_0) K Xa v_1 a_1) K (rV Xa) v9 a8) K Xa v16 a15) K (oL (oL (oF Xa))) x20.1 g21 x20.2) } : Jn ((List (List Int))) (V × List Xz))) (ZU (Fd:=FNd ({ oo:=λx20=>[x20.2], ss:=λx20=>[some v_0, some v_1, some x20.1, some v9, some v16], sc:=λg21 x20=>(SC.addO (SC.add (SC.add (SC.add (SC.add SC.nil K (rV (rV Xa)) v_0 a_0) K Xa v_1 a_1) K (rV Xa) v9 a8) K Xa v16 a15) K (oL (oL (oF Xa))) x20.1 g21 x20.2) } : Jn ((List (List Int))) (V × List Xz))) (Xl (K:=K) (Iy (Xc (r:=Xa) 4 rfl (λ_ s=>s.r)) (Xc (r:=(rV Xa)) 3 rfl (λ_ s=>s.l.l.r)))) (Vq (K:=K) (o:=(oL (oF Xa))) (f:=λa29=>(Rs.ok (a29))) 2 0 rfl rfl rfl (λ_ s=>s.l.r) (Cq (EvS.ls (Xo (r:=(rV Xa)) 3 rfl (λ_ s=>s.l.l.r))) (Ev.ls (ZO (Xn (Xo (r:=Xa) 4 rfl (λ_ s=>s.r)) Yn)))) λa27 C28=>(XA (J:=_) (x14.2.1, C28) ((g13 ++ [a27])) rfl rfl (λ_ s=>(SC.i (SC.i (SC.i (SC.i (SC.i SC.t s.l.l.l.l.l.r) s.l.l.l.l.r) s.l.l.l.r) s.l.r) s.r)))) (XA (J:=_) (x14.2.1, x14.2.2) (g13) rfl rfl (λ_ s=>(SC.i (SC.i (SC.i (SC.i (SC.i SC.t s.l.l.l.l.r) s.l.l.l.r) s.l.l.r) s.r) s.l.r)))) λg31 x30=>(XA (J:=_) ((some v16), x30.1, x30.2) (g31) rfl rfl (λ_ s=>(SC.i (SC.i (SC.i (SC.i SC.t s.l.l.l.l.r) s.l.l.l.r) s.l.l.r) s.r))))) λg32 x33=>(XA (J:=_) ((some v9), (x33.1), x33.2.1, x33.2.2) (g32) rfl rfl (λ_ s=>(SC.i (SC.i (SC.i SC.t s.l.l.l.r) s.l.l.r) s.r))))) λg35 x36=>(Xx (YR (o:=(oL (oL (oF Xa)))) 2 0 rfl rfl (λ_ s=>s.r)))))
theorem ZD : FnScope ["count", "told", "place"] ["count"] (Xi QI):=⟨rfl, rfl, rfl, by decide +kernel, rfl, by decide +kernel, by decide +kernel⟩
theorem U6 (D : Def K mg "each_once" QI ["count"]) (g_longer_by_one : Fn P w K mg base 1 "longer_by_one" ["lists", "count"] (sp2 (rV (rV Xa)) Xa (oL (oL (oF Xa))) X2 K)) (Y : Ecs Xy K mg) (Z : Blt mg) : Fn P w K mg base 2 "each_once" ["count"] (sp1 Xa (oL (oL (oF Xa))) Ys K):=by
  refine Y0 D ZD (λvs H Q E h=>?_) (λf cdv A outer s H vs Q E hr h=>?_)
  . obtain ⟨v_0, a_0, b, rfl, _⟩:=h; rfl
  obtain ⟨v_0, a_0, b, rfl, h_0, hm, q⟩:=h
  have hu:=hu8 hr
  have hu1:=Yl hr
  refine ⟨_, (Xd (XF (i:=1) ZD.nd rfl (Or.inl rfl) (X3 (Xb (X3 Xe) Xe Zs)))
    (Xd (YF PassesOwn.never rfl (XZ rfl Z.b_range (Xb (pv 0) Xe)) (Xu (i:=2) ZD.nd rfl (Or.inl rfl))
      (Xd (XF (i:=1) ZD.nd rfl (Or.inl rfl) (Yq g_longer_by_one hr (by decide) (Xb (pv 1) (Xb (pv 0) Xe))))
      Xg))
    (Xd (Xw (pv 1))
    Xg))), ?_⟩
  refine Y3 (S:=(SC.add SC.nil K Xa v_0 a_0)) (σ:=[some v_0, none, none]) 1 ?_ (SC.i SC.t h_0) hm q rfl
  unfold Ys
  exact (Yu (K:=K) (o:=(oL (oL (oF Xa)))) 1 0 (QK (XY (JU (o:=(oF Xa))) λ_=>Z2)) (Nat.le_of_ble_eq_true rfl) λa1 v2 C3=>(Qg (K:=K) (J:=({ oo:=λx8=>[x8.2.2], ss:=λx8=>[some v_0, some x8.2.1, x8.1], sc:=λg9 x8=>(SC.addO (SC.add SC.nil K Xa v_0 a_0) K (oL (oL (oF Xa))) x8.2.1 g9 x8.2.2) } : Jn ((List (List Int))) (Option V × V × List Xz))) (λ_=>tg1 2) ((none), v2, C3) (a1) (XH (Xc (r:=Xa) 0 rfl (λ_ s=>s.l.r))) rfl rfl (λ_ s=>(SC.i (SC.i SC.t s.l.r) s.r)) (λg10 x11 a12 v13=>(Yu (K:=K) (o:=(oL (oL (oF Xa)))) 1 0 (Yg (Je (o:=(oL (oL (oF Xa)))) 1 0 rfl rfl (λ_ s=>s.l.r)) (Xc (r:=Xa) 0 rfl (λ_ s=>s.l.l.r))) (Nat.le_of_ble_eq_true rfl) λa14 v15 C16=>(XA (J:=_) ((some v13), v15, C16) (a14) rfl rfl (λ_ s=>(SC.i (SC.i SC.t s.l.l.l.r) s.r))))) λg20 x21=>(Xx (YR (o:=(oL (oL (oF Xa)))) 1 0 rfl rfl (λ_ s=>s.r)))))
theorem Zi : FnScope ["table", "a", "row"] ["table"] (Xi Zw):=⟨rfl, rfl, rfl, by decide +kernel, rfl, by decide +kernel, by decide +kernel⟩
theorem Js (D : Def K mg "breach_of_one" Zw ["table"])  (Y : Ecs Xy K mg) (Z : Blt mg) : Fn P w K mg base 1 "breach_of_one" ["table"] (sp1 (rV (rV Xa)) (oF (ZB (rP2 Xa Xa))) YU K):=by
  refine Y0 D Zi (λvs H Q E h=>?_) (λf cdv A outer s H vs Q E hr h=>?_)
  . obtain ⟨v_0, a_0, b, rfl, _⟩:=h; rfl
  obtain ⟨v_0, a_0, b, rfl, h_0, hm, q⟩:=h
  have hu:=hu8 hr
  have hu1:=Yl hr
  refine ⟨_, (Xd (YF PassesOwn.never rfl (UF rfl Z.b_enumerate (pv 0)) (KA rfl (Y7 (Xu (i:=1) Zi.nd rfl (Or.inl rfl)) (Y7 (Xu (i:=2) Zi.nd rfl (Or.inl rfl)) JT)))
      (Xd (YD (Xs FG (XO (Xm K rfl) (pv 2) (pv 1) (λ_ _=>rfl)) (pv 1) (XC _))
        (Xd (Xw (YL (Xb Xh (Xb (pv 1) Xe))))
        Xg)
        Xg)
      Xg))
    (Xd (Xw Zj)
    Xg)), ?_⟩
  refine Y3 (S:=(SC.add SC.nil K (rV (rV Xa)) v_0 a_0)) (σ:=[some v_0, none, none]) 0 ?_ (SC.i SC.t h_0) hm q rfl
  unfold YU
  exact (Jd (K:=K) (J:=({ oo:=λx2=>[], ss:=λx2=>[some v_0, x2.1, x2.2], sc:=λg3 x2=>(SC.add SC.nil K (rV (rV Xa)) v_0 a_0) } : Jn (Unit) (Option V × Option V))) (λ_=>tg2 1 2) ((none), (none)) () (QU (Xo (r:=(rV (rV Xa))) 0 rfl (λ_ s=>s.r))) rfl rfl (λ_ s=>(SC.i SC.t s.r)) (λg4 x5 a6 v7=>(QQ (Xl (K:=K) (VQ (XJ (Xc (r:=(rV Xa)) 2 rfl (λ_ s=>s.r)) (Xc (r:=Xa) 1 rfl (λ_ s=>s.l.r))) (Xc (r:=Xa) 1 rfl (λ_ s=>s.l.r)))) (Xx (Q6 HR (EvS.ev (JB (EvB.sh (Xf 1)) (Xo (r:=Xa) 1 rfl (λ_ s=>s.l.r)))))) (ZW (XA (J:=_) ((some v7.1), (some v7.2)) () rfl rfl (λ_ s=>(SC.i SC.t s.l.l.r)))))) λg18 x19=>(Xx Vi))
theorem Z1 : FnScope ["column", "x", "colour"] ["column"] (Xi Ql):=⟨rfl, rfl, rfl, by decide +kernel, rfl, by decide +kernel, by decide +kernel⟩
theorem Uk (D : Def K mg "first_same" Ql ["column"])  (Y : Ecs Xy K mg) (Z : Blt mg) : Fn P w K mg base 1 "first_same" ["column"] (sp1 (rV Xa) (oF (ZB (rP2 Xa Xa))) ZG K):=by
  refine Y0 D Z1 (λvs H Q E h=>?_) (λf cdv A outer s H vs Q E hr h=>?_)
  . obtain ⟨v_0, a_0, b, rfl, _⟩:=h; rfl
  obtain ⟨v_0, a_0, b, rfl, h_0, hm, q⟩:=h
  have hu:=hu8 hr
  have hu1:=Yl hr
  refine ⟨_, (Xd (YF PassesOwn.never rfl (UF rfl Z.b_enumerate (pv 0)) (KA rfl (Y7 (Xu (i:=1) Z1.nd rfl (Or.inl rfl)) (Y7 (Xu (i:=2) Z1.nd rfl (Or.inl rfl)) JT)))
      (Xd (YD (Xs Dg (pv 2) (Jz (JD K rfl) (pv 0) (UH (XB Yv (pv 1) Xh)) Ue) rfl)
        (Xd (Xw (YL (Xb (pv 1) (Xb (Jq PySem.F.plainAttrs_list PySem.F.slot_list_index PySem.F.type_list_index Cn (pv 0) (Xb (pv 2) (Xb (XB Yv (pv 1) Xh) Xe))) Xe))))
        Xg)
        Xg)
      Xg))
    (Xd (Xw Zj)
    Xg)), ?_⟩
  refine Y3 (S:=(SC.add SC.nil K (rV Xa) v_0 a_0)) (σ:=[some v_0, none, none]) 0 ?_ (SC.i SC.t h_0) hm q rfl
  unfold ZG
  exact (Jd (K:=K) (J:=({ oo:=λx2=>[], ss:=λx2=>[some v_0, x2.1, x2.2], sc:=λg3 x2=>(SC.add SC.nil K (rV Xa) v_0 a_0) } : Jn (Unit) (Option V × Option V))) (λ_=>tg2 1 2) ((none), (none)) () (QU (Xo (r:=(rV Xa)) 0 rfl (λ_ s=>s.r))) rfl rfl (λ_ s=>(SC.i SC.t s.r)) (λg4 x5 a6 v7=>(QQ (Xl (K:=K) (Ls (Xc (r:=Xa) 2 rfl (λ_ s=>s.r)) (Ev.toB (UK (EvS.ls (Xo (r:=(rV Xa)) 0 rfl (λ_ s=>s.l.l.r))) (JI (K:=K) (X4 (Xc (r:=Xa) 1 rfl (λ_ s=>s.l.r)) (Xf 1))) JH)))) (Xx (Q6 HR (EvS.ev (JB (Xo (r:=Xa) 1 rfl (λ_ s=>s.l.r)) (EvB.sh (FV (Xc (r:=(rV Xa)) 0 rfl (λ_ s=>s.l.l.r)) (Xc (r:=Xa) 2 rfl (λ_ s=>s.r)) (X4 (Xc (r:=Xa) 1 rfl (λ_ s=>s.l.r)) (Xf 1)))))))) (ZW (XA (J:=_) ((some v7.1), (some v7.2)) () rfl rfl (λ_ s=>(SC.i SC.t s.l.l.r)))))) λg27 x28=>(Xx Vi))
theorem Zf : FnScope ["table", "b", "pair"] ["table"] (Xi YM):=⟨rfl, rfl, rfl, by decide +kernel, rfl, by decide +kernel, by decide +kernel⟩
theorem Jp (D : Def K mg "breach_of_two" YM ["table"]) (g_first_same : Fn P w K mg base 1 "first_same" ["column"] (sp1 (rV Xa) (oF (ZB (rP2 Xa Xa))) ZG K)) (Y : Ecs Xy K mg) (Z : Blt mg) : Fn P w K mg base 2 "breach_of_two" ["table"] (sp1 (rV (rV Xa)) (oF (ZB (rP4 Xa Xa Xa Xa))) YQ K):=by
  refine Y0 D Zf (λvs H Q E h=>?_) (λf cdv A outer s H vs Q E hr h=>?_)
  . obtain ⟨v_0, a_0, b, rfl, _⟩:=h; rfl
  obtain ⟨v_0, a_0, b, rfl, h_0, hm, q⟩:=h
  have hu:=hu8 hr
  have hu1:=Yl hr
  refine ⟨_, (Xd (YF PassesOwn.never rfl (XZ rfl Z.b_range (Xb (Xt (Xk K rfl) rfl Z.b_len PySem.boot_len (Xb (pv 0) Xe)) Xe)) (Xu (i:=1) Zf.nd rfl (Or.inr rfl))
      (Xd (XF (i:=2) Zf.nd rfl (Or.inl rfl) (Yq g_first_same hr (by decide) (Xb (Yz (sc:=(Xi YM)) (N0:=["table", "b", "pair"]) (tns:=["row"]) (caps:=[(1, "b")]) rfl (Yb (K:=K) rfl (pv 0)) (Yt (by decide)) (λcl C s H ex E=>⟨Xu (i:=0) (show List.Nodup (["row", "b"] : List Str) by decide +kernel) rfl (Or.inl rfl), Y5, (XO (Xm K rfl) (pv 0) (pv 1) (λ_ _=>rfl))⟩)) Xe)))
      (Xd (YD (Xs UU (pv 2) Zj (XC _))
        (Xd (Xw (YL (Xb Xh (Xb (pv 1) (Xb (XO (YT K rfl) (pv 2) Xh (λ_ _=>rfl)) (Xb (XO (YT K rfl) (pv 2) Xh (λ_ _=>rfl)) Xe))))))
        Xg)
        Xg)
      Xg)))
    (Xd (Xw Zj)
    Xg)), ?_⟩
  refine Y3 (S:=(SC.add SC.nil K (rV (rV Xa)) v_0 a_0)) (σ:=[some v_0, none, none]) 0 ?_ (SC.i SC.t h_0) hm q rfl
  unfold YQ
  exact (Jd (K:=K) (J:=({ oo:=λx3=>[], ss:=λx3=>[some v_0, x3.1, x3.2], sc:=λg4 x3=>(SC.add SC.nil K (rV (rV Xa)) v_0 a_0) } : Jn (Unit) (Option V × Option V))) (λ_=>tg1 1) ((none), (none)) () (XH (Yh (Xc (r:=(rV (rV Xa))) 0 rfl (λ_ s=>s.r)))) rfl rfl (λ_ s=>(SC.i SC.t s.r)) (λg5 x6 a7 v8=>(X1 (K:=K) (r:=(ZB (rP2 Xa Xa))) 2 (EvB.sh (Ev.toB (ZE (Ev.toB (Y6 (λ_=>tg1 0) (X8 (Xo (r:=(rV (rV Xa))) 0 rfl (λ_ s=>s.l.r))) (λC12 a13 v14=>(EvS.ev (EvB.sh (XJ (Xc (r:=(rV Xa)) 0 rfl (λ_ s=>s.r)) (Xc (r:=Xa) 1 rfl (λ_ s=>s.l.r))))))))))) λa9 v10=>(QQ (Xl (K:=K) (Jx (tb:=tC .non) (Xc (r:=(ZB (rP2 Xa Xa))) 2 rfl (λ_ s=>s.r)))) (Xx (Q6 LL (EvS.ev (GQ (EvB.sh (Xf 2)) (Xo (r:=Xa) 1 rfl (λ_ s=>s.l.r)) (EvB.sh (Gc (GZ (Xc (r:=(ZB (rP2 Xa Xa))) 2 rfl (λ_ s=>s.r))))) (EvB.sh (Dd (GZ (Xc (r:=(ZB (rP2 Xa Xa))) 2 rfl (λ_ s=>s.r))))))))) (ZW (XA (J:=_) ((some v8), (some v10)) () rfl rfl (λ_ s=>(SC.i SC.t s.l.l.r))))))) λg30 x31=>(Xx Vi))
theorem XX : FnScope ["table", "a", "row", "b", "colour", "c"] ["table"] (Xi Y1):=⟨rfl, rfl, rfl, by decide +kernel, rfl, by decide +kernel, by decide +kernel⟩
theorem Q2 (D : Def K mg "breach_of_three" Y1 ["table"])  (Y : Ecs Xy K mg) (Z : Blt mg) : Fn P w K mg base 1 "breach_of_three" ["table"] (sp1 (rV (rV Xa)) (oF (ZB (rP4 Xa Xa Xa Xa))) YA K):=by
  refine Y0 D XX (λvs H Q E h=>?_) (λf cdv A outer s H vs Q E hr h=>?_)
  . obtain ⟨v_0, a_0, b, rfl, _⟩:=h; rfl
  obtain ⟨v_0, a_0, b, rfl, h_0, hm, q⟩:=h
  have hu:=hu8 hr
  have hu1:=Yl hr
  refine ⟨_, (Xd (YF PassesOwn.never rfl (UF rfl Z.b_enumerate (pv 0)) (KA rfl (Y7 (Xu (i:=1) XX.nd rfl (Or.inl rfl)) (Y7 (Xu (i:=2) XX.nd rfl (Or.inl rfl)) JT)))
      (Xd (YF PassesOwn.never rfl (UF rfl Z.b_enumerate (pv 2)) (KA rfl (Y7 (Xu (i:=3) XX.nd rfl (Or.inl rfl)) (Y7 (Xu (i:=4) XX.nd rfl (Or.inl rfl)) JT)))
        (Xd (YF PassesOwn.never rfl (XZ rfl Z.b_range (Xb (Xt (Xk K rfl) rfl Z.b_len PySem.boot_len (Xb (pv 0) Xe)) Xe)) (Xu (i:=5) XX.nd rfl (Or.inl rfl))
          (Xd (YD (Xs FG (XO (Xm K rfl) (XO (Xm K rfl) (pv 0) (pv 4) (λ_ _=>rfl)) (pv 5) (λ_ _=>rfl)) (XO (Xm K rfl) (XO (Xm K rfl) (pv 0) (XO (Xm K rfl) (pv 2) (pv 5) (λ_ _=>rfl)) (λ_ _=>rfl)) (XO (Xm K rfl) (XO (Xm K rfl) (pv 0) (pv 3) (λ_ _=>rfl)) (pv 5) (λ_ _=>rfl)) (λ_ _=>rfl)) (XC _))
            (Xd (Xw (YL (Xb Xh (Xb (pv 1) (Xb (pv 3) (Xb (pv 5) Xe))))))
            Xg)
            Xg)
          Xg))
        Xg))
      Xg))
    (Xd (Xw Zj)
    Xg)), ?_⟩
  refine Y3 (S:=(SC.add SC.nil K (rV (rV Xa)) v_0 a_0)) (σ:=[some v_0, none, none, none, none, none]) 0 ?_ (SC.i SC.t h_0) hm q rfl
  unfold YA
  exact (Jd (K:=K) (J:=({ oo:=λx2=>[], ss:=λx2=>[some v_0, x2.1, x2.2.1, x2.2.2.1, x2.2.2.2.1, x2.2.2.2.2], sc:=λg3 x2=>(SC.add SC.nil K (rV (rV Xa)) v_0 a_0) } : Jn (Unit) (Option V × Option V × Option V × Option V × Option V))) (λ_=>tg2 1 2) ((none), (none), (none), (none), (none)) () (QU (Xo (r:=(rV (rV Xa))) 0 rfl (λ_ s=>s.r))) rfl rfl (λ_ s=>(SC.i SC.t s.r)) (λg4 x5 a6 v7=>(UE (K:=K) (J:=({ oo:=λx9=>[], ss:=λx9=>[some v_0, some v7.1, some v7.2, x9.1, x9.2.1, x9.2.2], sc:=λg10 x9=>(SC.add (SC.add (SC.add SC.nil K (rV (rV Xa)) v_0 a_0) K Xa v7.1 a6.1) K (rV Xa) v7.2 a6.2) } : Jn (Unit) (Option V × Option V × Option V))) (λ_=>tg2 3 4) ((x5.2.2.1), (x5.2.2.2.1), (x5.2.2.2.2)) () (QU (Xo (r:=(rV Xa)) 2 rfl (λ_ s=>s.r))) rfl rfl (λ_ s=>(SC.i (SC.i (SC.i SC.t s.l.l.r) s.l.r) s.r)) (λg11 x12 a13 v14=>(UE (K:=K) (J:=({ oo:=λx17=>[], ss:=λx17=>[some v_0, some v7.1, some v7.2, some v14.1, some v14.2, x17], sc:=λg18 x17=>(SC.add (SC.add (SC.add (SC.add (SC.add SC.nil K (rV (rV Xa)) v_0 a_0) K Xa v7.1 a6.1) K (rV Xa) v7.2 a6.2) K Xa v14.1 a13.1) K Xa v14.2 a13.2) } : Jn (Unit) (Option V))) (λ_=>tg1 5) ((x12.2.2)) () (XH (Yh (Xc (r:=(rV (rV Xa))) 0 rfl (λ_ s=>s.l.l.l.l.r)))) rfl rfl (λ_ s=>(SC.i (SC.i (SC.i (SC.i (SC.i SC.t s.l.l.l.l.r) s.l.l.l.r) s.l.l.r) s.l.r) s.r)) (λg19 x20 a21 v22=>(QQ (Xl (K:=K) (VQ (XJ (XJ (Xc (r:=(rV (rV Xa))) 0 rfl (λ_ s=>s.l.l.l.l.l.r)) (Xc (r:=Xa) 4 rfl (λ_ s=>s.l.r))) (Xc (r:=Xa) 5 rfl (λ_ s=>s.r))) (XJ (XJ (Xc (r:=(rV (rV Xa))) 0 rfl (λ_ s=>s.l.l.l.l.l.r)) (XJ (Xc (r:=(rV Xa)) 2 rfl (λ_ s=>s.l.l.l.r)) (Xc (r:=Xa) 5 rfl (λ_ s=>s.r)))) (XJ (XJ (Xc (r:=(rV (rV Xa))) 0 rfl (λ_ s=>s.l.l.l.l.l.r)) (Xc (r:=Xa) 3 rfl (λ_ s=>s.l.l.r))) (Xc (r:=Xa) 5 rfl (λ_ s=>s.r)))))) (Xx (Q6 LL (EvS.ev (GQ (EvB.sh (Xf 3)) (Xo (r:=Xa) 1 rfl (λ_ s=>s.l.l.l.l.r)) (Xo (r:=Xa) 3 rfl (λ_ s=>s.l.l.r)) (Xo (r:=Xa) 5 rfl (λ_ s=>s.r)))))) (ZW (XA (J:=_) ((some v22)) () rfl rfl (λ_ s=>(SC.i (SC.i (SC.i (SC.i (SC.i SC.t s.l.l.l.l.l.r) s.l.l.l.l.r) s.l.l.l.r) s.l.l.r) s.l.r)))))) λg47 x48=>(ZW (XA (J:=_) ((some v14.1), (some v14.2), (x48)) () rfl rfl (λ_ s=>(SC.i (SC.i (SC.i SC.t s.l.l.l.l.r) s.l.l.l.r) s.l.l.r)))))) λg51 x52=>(ZW (XA (J:=_) ((some v7.1), (some v7.2), (x52.1), (x52.2.1), (x52.2.2)) () rfl rfl (λ_ s=>(SC.i SC.t s.l.l.r)))))) λg55 x56=>(Xx Vi))
theorem Q0 : FnScope ["table", "wrong"] ["table"] (Xi Uo):=⟨rfl, rfl, rfl, by decide +kernel, rfl, by decide +kernel, by decide +kernel⟩
theorem C0 (D : Def K mg "broken" Uo ["table"]) (g_breach_of_one : Fn P w K mg base 1 "breach_of_one" ["table"] (sp1 (rV (rV Xa)) (oF (ZB (rP2 Xa Xa))) YU K)) (g_breach_of_two : Fn P w K mg base 2 "breach_of_two" ["table"] (sp1 (rV (rV Xa)) (oF (ZB (rP4 Xa Xa Xa Xa))) YQ K)) (g_breach_of_three : Fn P w K mg base 1 "breach_of_three" ["table"] (sp1 (rV (rV Xa)) (oF (ZB (rP4 Xa Xa Xa Xa))) YA K)) (Y : Ecs Xy K mg) (Z : Blt mg) : Fn P w K mg base 3 "broken" ["table"] (sp1 (rV (rV Xa)) (oF (ZB (rPL Xa))) JA K):=by
  refine Y0 D Q0 (λvs H Q E h=>?_) (λf cdv A outer s H vs Q E hr h=>?_)
  . obtain ⟨v_0, a_0, b, rfl, _⟩:=h; rfl
  obtain ⟨v_0, a_0, b, rfl, h_0, hm, q⟩:=h
  have hu:=hu8 hr
  have hu1:=Yl hr
  refine ⟨_, (Xd (XF (i:=1) Q0.nd rfl (Or.inl rfl) (Yq g_breach_of_one hr (by decide) (Xb (pv 0) Xe)))
    (Xd (YD (Xs U1 (pv 1) Zj (XC _))
      (Xd (XF (i:=1) Q0.nd rfl (Or.inl rfl) (Yq g_breach_of_two hr (by decide) (Xb (pv 0) Xe)))
      Xg)
      Xg)
    (Xd (YD (Xs U1 (pv 1) Zj (XC _))
      (Xd (XF (i:=1) Q0.nd rfl (Or.inl rfl) (Yq g_breach_of_three hr (by decide) (Xb (pv 0) Xe)))
      Xg)
      Xg)
    (Xd (Xw (pv 1))
    Xg)))), ?_⟩
  refine Y3 (S:=(SC.add SC.nil K (rV (rV Xa)) v_0 a_0)) (σ:=[some v_0, none]) 0 ?_ (SC.i SC.t h_0) hm q rfl
  unfold JA
  exact (X1 (K:=K) (r:=(ZB (rPL Xa))) 1 (Ev.sh (Bq (ZE (Xc (r:=(rV (rV Xa))) 0 rfl (λ_ s=>s.r))))) λa1 v2=>(Zz (J:=({ oo:=λx8=>[], ss:=λx8=>[some v_0, some x8], sc:=λg9 x8=>(SC.add (SC.add SC.nil K (rV (rV Xa)) v_0 a_0) K (ZB (rPL Xa)) x8 g9) } : Jn ((Option (List Int))) (V))) (ZU (Fd:=FNd ({ oo:=λx8=>[], ss:=λx8=>[some v_0, some x8], sc:=λg9 x8=>(SC.add (SC.add SC.nil K (rV (rV Xa)) v_0 a_0) K (ZB (rPL Xa)) x8 g9) } : Jn ((Option (List Int))) (V))) (Xl (K:=K) (Vv (tb:=tC .non) (Xc (r:=(ZB (rPL Xa))) 1 rfl (λ_ s=>s.r)))) (X1 (K:=K) (r:=(ZB (rPL Xa))) 1 (Ev.sh (GW (ZE (Xc (r:=(rV (rV Xa))) 0 rfl (λ_ s=>s.l.r))))) λa10 v11=>(XA (J:=_) (v11) (a10) rfl rfl (λ_ s=>(SC.i (SC.i SC.t s.l.l.r) s.r)))) (XA (J:=_) (v2) (a1) rfl rfl (λ_ s=>(SC.i (SC.i SC.t s.l.r) s.r)))) λg16 x15=>(Zz (J:=({ oo:=λx19=>[], ss:=λx19=>[some v_0, some x19], sc:=λg20 x19=>(SC.add (SC.add SC.nil K (rV (rV Xa)) v_0 a_0) K (ZB (rPL Xa)) x19 g20) } : Jn ((Option (List Int))) (V))) (ZU (Fd:=FNd ({ oo:=λx19=>[], ss:=λx19=>[some v_0, some x19], sc:=λg20 x19=>(SC.add (SC.add SC.nil K (rV (rV Xa)) v_0 a_0) K (ZB (rPL Xa)) x19 g20) } : Jn ((Option (List Int))) (V))) (Xl (K:=K) (Vv (tb:=tC .non) (Xc (r:=(ZB (rPL Xa))) 1 rfl (λ_ s=>s.r)))) (X1 (K:=K) (r:=(ZB (rPL Xa))) 1 (Ev.sh (GW (ZE (Xc (r:=(rV (rV Xa))) 0 rfl (λ_ s=>s.l.r))))) λa21 v22=>(XA (J:=_) (v22) (a21) rfl rfl (λ_ s=>(SC.i (SC.i SC.t s.l.l.r) s.r)))) (XA (J:=_) (x15) (g16) rfl rfl (λ_ s=>(SC.i (SC.i SC.t s.l.r) s.r)))) λg27 x26=>(Xx (EvS.ev (Xo (r:=(ZB (rPL Xa))) 1 rfl (λ_ s=>s.r)))))))
theorem QR : FnScope ["columns"] ["columns"] (Xi X9):=⟨rfl, rfl, rfl, by decide +kernel, rfl, by decide +kernel, by decide +kernel⟩
theorem QO (D : Def K mg "table_of_columns" X9 ["columns"])  (Y : Ecs Xy K mg) (Z : Blt mg) : Fn P w K mg base 1 "table_of_columns" ["columns"] (sp1 (rV (rV Xa)) (oL (oL (oF Xa))) Yo K):=by
  refine Y0 D QR (λvs H Q E h=>?_) (λf cdv A outer s H vs Q E hr h=>?_)
  . obtain ⟨v_0, a_0, b, rfl, _⟩:=h; rfl
  obtain ⟨v_0, a_0, b, rfl, h_0, hm, q⟩:=h
  have hu:=hu8 hr
  have hu1:=Yl hr
  refine ⟨_, (Xd (Xw (G4 (sc:=(Xi X9)) (N0:=["columns"]) (tns:=["a"]) (caps:=[(0, "columns")]) rfl (XZ rfl Z.b_range (Xb (Xt (Xk K rfl) rfl Z.b_len PySem.boot_len (Xb (pv 0) Xe)) Xe)) (Yt (by decide)) (λcl C s H ex E=>⟨Xu (i:=0) (show List.Nodup (["a", "columns"] : List Str) by decide +kernel) rfl (Or.inr rfl) (hf:=Or.inl rfl), Y5, (G4 (sc:=(M1 BV (Xi X9))) (N0:=["a", "columns"]) (tns:=["column"]) (caps:=[(0, "a")]) rfl (Yb (K:=K) rfl (pv 1)) (Yt (by decide)) (λcl C s H ex E=>⟨Xu (i:=0) (show List.Nodup (["column", "a"] : List Str) by decide +kernel) rfl (Or.inl rfl), Y5, (XO (Xm K rfl) (pv 0) (pv 1) (λ_ _=>rfl))⟩))⟩)))
    Xg), ?_⟩
  refine Y3 (S:=(SC.add SC.nil K (rV (rV Xa)) v_0 a_0)) (σ:=[some v_0]) 0 ?_ (SC.i SC.t h_0) hm q rfl
  unfold Yo
  exact (Xx (Y6 (λ_=>tg1 0) (XH (Yh (Xc (r:=(rV (rV Xa))) 0 rfl (λ_ s=>s.r)))) (λC3 a4 v5=>(Y6 (λ_=>tg1 0) (X8 (Xo (r:=(rV (rV Xa))) 1 rfl (λ_ s=>s.l.r))) (λC7 a8 v9=>(EvS.ev (EvB.sh (XJ (Xc (r:=(rV Xa)) 0 rfl (λ_ s=>s.r)) (Xc (r:=Xa) 1 rfl (λ_ s=>s.l.r))))))))))
theorem YB : FnScope ["choices", "columns", "longer", "ahead"] ["choices", "columns"] (Xi Ye):=⟨rfl, rfl, rfl, by decide +kernel, rfl, by decide +kernel, by decide +kernel⟩
theorem QC (D : Def K mg "longer_by_columns" Ye ["choices", "columns"])  (Y : Ecs Xy K mg) (Z : Blt mg) : Fn P w K mg base 1 "longer_by_columns" ["choices", "columns"] (MM (rV (rV (rV Xa))) (rV (rV Xa)) (oL (oL (oF (rV Xa)))) Yf K):=by
  refine Y0 D YB (λvs H Q E h=>?_) (λf cdv A outer s H vs Q E hr h=>?_)
  . obtain ⟨v_0, v_1, a_0, a_1, b, rfl, _⟩:=h; rfl
  obtain ⟨v_0, v_1, a_0, a_1, b, rfl, Cf, hw, h_0, h_1, hm, q⟩:=h
  have hu:=hu8 hr
  have hu1:=Yl hr
  refine ⟨_, (Xd (XF (i:=2) YB.nd rfl (Or.inl rfl) (X3 Xe))
    (Xd (YF PassesOwn.never rfl (Yb (K:=K) rfl (pv 0)) (Xu (i:=3) YB.nd rfl (Or.inr rfl))
      (Xd (Ya (Jq PySem.F.plainAttrs_list PySem.F.slot_list_extend PySem.F.type_list_extend KD (pv 2) (Xb (Yz (sc:=(Xi Ye)) (N0:=["choices", "columns", "longer", "ahead"]) (tns:=["column"]) (caps:=[(3, "ahead")]) rfl (Yb (K:=K) rfl (pv 1)) (Yt (by decide)) (λcl C s H ex E=>⟨Xu (i:=0) (show List.Nodup (["column", "ahead"] : List Str) by decide +kernel) rfl (Or.inl rfl), Y5, (XB C5 (pv 1) (X3 (Xb (pv 0) Xe)))⟩)) Xe)))
      Xg))
    (Xd (Xw (pv 2))
    Xg))), ?_⟩
  refine ET (S:=(SC.add (SC.add SC.nil K (rV (rV (rV Xa))) v_0 a_0) K (rV (rV Xa)) v_1 a_1)) (σ:=[some v_0, some v_1, none, none]) 1 ?_ hw (SC.i (SC.i SC.t h_0) h_1) hm q rfl
  unfold Yf
  exact (Yu (K:=K) (o:=(oL (oL (oF (rV Xa))))) 2 0 (JU (o:=(oL (oF (rV Xa))))) (Nat.le_of_ble_eq_true rfl) λa1 v2 C3=>(Qg (K:=K) (J:=({ oo:=λx4=>[x4.2.2, Cf], ss:=λx4=>[some v_0, some v_1, some x4.2.1, x4.1], sc:=λg5 x4=>(SC.addO (SC.add (SC.add SC.nil K (rV (rV (rV Xa))) v_0 a_0) K (rV (rV Xa)) v_1 a_1) K (oL (oL (oF (rV Xa)))) x4.2.1 g5 x4.2.2) } : Jn ((List (List (List Int)))) (Option V × V × List Xz))) (λ_=>tg1 3) ((none), v2, C3) (a1) (X8 (Xo (r:=(rV (rV (rV Xa)))) 0 rfl (λ_ s=>s.l.l.r))) rfl rfl (λ_ s=>(SC.i (SC.i (SC.i SC.t s.l.l.r) s.l.r) s.r)) (λg6 x7 a8 v9=>(Ez (K:=K) (o:=(oL (oF (rV Xa)))) (f:=λa21=>(Rs.ok (a21))) 2 0 rfl rfl rfl (λ_ s=>s.l.r) (Y6 (λ_=>tg1 0) (X8 (Xo (r:=(rV (rV Xa))) 1 rfl (λ_ s=>s.l.l.r))) (λC10 a11 v12=>(Cq (EvS.ls (Xo (r:=(rV (rV Xa))) 1 rfl (λ_ s=>s.l.r))) (Ev.ls (ZO (Xn (Xo (r:=(rV Xa)) 0 rfl (λ_ s=>s.r)) Yn)))))) λa19 C20=>(XA (J:=_) ((some v9), x7.2.1, C20) ((g6 ++ a19)) rfl rfl (λ_ s=>(SC.i (SC.i (SC.i SC.t s.l.l.l.l.r) s.l.l.l.r) s.r))))) λg22 x23=>(GJ (K:=K) 1 rfl (YR (o:=(oL (oL (oF (rV Xa))))) 2 0 rfl rfl (λ_ s=>s.r)))))
theorem YE : FnScope ["size", "lists", "told", "b"] ["size"] (Xi Zp):=⟨rfl, rfl, rfl, by decide +kernel, rfl, by decide +kernel, by decide +kernel⟩
theorem VN (D : Def K mg "all_columns" Zp ["size"]) (g_each_once : Fn P w K mg base 2 "each_once" ["count"] (sp1 Xa (oL (oL (oF Xa))) Ys K)) (g_longer_by_columns : Fn P w K mg base 1 "longer_by_columns" ["choices", "columns"] (MM (rV (rV (rV Xa))) (rV (rV Xa)) (oL (oL (oF (rV Xa)))) Yf K)) (Y : Ecs Xy K mg) (Z : Blt mg) : Fn P w K mg base 3 "all_columns" ["size"] (ML Xa (oL (oL (oF (rV Xa)))) Zn K):=by
  refine Y0 D YE (λvs H Q E h=>?_) (λf cdv A outer s H vs Q E hr h=>?_)
  . obtain ⟨v_0, a_0, b, rfl, _⟩:=h; rfl
  obtain ⟨v_0, a_0, b, rfl, Cf, hw, h_0, hm, q⟩:=h
  have hu:=hu8 hr
  have hu1:=Yl hr
  refine ⟨_, (Xd (XF (i:=1) YE.nd rfl (Or.inl rfl) (Yq g_each_once hr (by decide) (Xb (pv 0) Xe)))
    (Xd (XF (i:=2) YE.nd rfl (Or.inl rfl) (X3 (Xb (X3 Xe) Xe Zs)))
    (Xd (YF PassesOwn.never rfl (XZ rfl Z.b_range (Xb (pv 0) Xe)) (Xu (i:=3) YE.nd rfl (Or.inr rfl))
      (Xd (XF (i:=2) YE.nd rfl (Or.inl rfl) (Yq g_longer_by_columns hr (by decide) (Xb (pv 2) (Xb (Yz (sc:=(Xi Zp)) (N0:=["size", "lists", "told", "b"]) (tns:=["order"]) (caps:=[(3, "b")]) rfl (Yb (K:=K) rfl (pv 1)) (Yt (by decide)) (λcl C s H ex E=>⟨Xu (i:=0) (show List.Nodup (["order", "b"] : List Str) by decide +kernel) rfl (Or.inl rfl), (Up (Xs Z5 (XO (Xm K rfl) (pv 0) (pv 1) (λ_ _=>rfl)) (pv 1) (XC _))), (pv 0)⟩)) Xe))))
      Xg))
    (Xd (Xw (pv 2))
    Xg)))), ?_⟩
  refine ET (S:=(SC.add SC.nil K Xa v_0 a_0)) (σ:=[some v_0, none, none, none]) 1 ?_ hw (SC.i SC.t h_0) hm q rfl
  unfold Zn
  exact (X1 (K:=K) (r:=(rV (rV Xa))) 1 (Ev.sh (ZE (Xc (r:=Xa) 0 rfl (λ_ s=>s.r)))) λa1 v2=>(Yu (K:=K) (o:=(oL (oL (oF (rV Xa))))) 2 0 (QK (XY (JU (o:=(oF (rV Xa)))) λ_=>Z2)) (Nat.le_of_ble_eq_true rfl) λa5 v6 C7=>(Qg (K:=K) (J:=({ oo:=λx12=>[x12.2.2, Cf], ss:=λx12=>[some v_0, some v2, some x12.2.1, x12.1], sc:=λg13 x12=>(SC.addO (SC.add (SC.add SC.nil K Xa v_0 a_0) K (rV (rV Xa)) v2 a1) K (oL (oL (oF (rV Xa)))) x12.2.1 g13 x12.2.2) } : Jn ((List (List (List Int)))) (Option V × V × List Xz))) (λ_=>tg1 3) ((none), v6, C7) (a5) (XH (Xc (r:=Xa) 0 rfl (λ_ s=>s.l.l.r))) rfl rfl (λ_ s=>(SC.i (SC.i (SC.i SC.t s.l.l.r) s.l.r) s.r)) (λg14 x15 a16 v17=>(Lw (K:=K) (o:=(oL (oL (oF (rV Xa))))) 0 rfl (λ_ s=>s.l.r) (Yu (K:=K) (o:=(oL (oL (oF (rV Xa))))) 2 0 (CC (Xo (r:=(rV (rV (rV Xa)))) 2 rfl (λ_ s=>s.r)) (Ev.sh (UI (λ_=>tg1 0) (X8 (Xo (r:=(rV (rV Xa))) 1 rfl (λ_ s=>s.l.l.l.r))) (λC22 a23 v24=>(Xl (K:=K) (YZ (XJ (Xc (r:=(rV Xa)) 0 rfl (λ_ s=>s.r)) (Xc (r:=Xa) 1 rfl (λ_ s=>s.l.l.r))) (Xc (r:=Xa) 1 rfl (λ_ s=>s.l.l.r))))) (λC22 a23 v24=>(EvS.ev (Xo (r:=(rV Xa)) 0 rfl (λ_ s=>s.r))))))) (Nat.le_of_ble_eq_true rfl) λa18 v19 C20=>(XA (J:=_) ((some v17), v19, C20) (a18) rfl rfl (λ_ s=>(SC.i (SC.i (SC.i SC.t s.l.l.l.l.l.r) s.l.l.l.l.r) s.r)))))) λg32 x33=>(GJ (K:=K) 1 rfl (YR (o:=(oL (oL (oF (rV Xa))))) 2 0 rfl rfl (λ_ s=>s.r))))))
theorem U4 : FnScope ["size", "tried"] ["size"] (Xi Q7):=⟨rfl, rfl, rfl, by decide +kernel, rfl, by decide +kernel, by decide +kernel⟩
theorem DF (D : Def K mg "tables" Q7 ["size"]) (g_refuse_above : FnX P w K mg base 1 "refuse_above" ["most", "size"] (KP mg Xa Xa oU XM K)) (g_table_of_columns : Fn P w K mg base 1 "table_of_columns" ["columns"] (sp1 (rV (rV Xa)) (oL (oL (oF Xa))) Yo K)) (g_all_columns : Fn P w K mg base 3 "all_columns" ["size"] (ML Xa (oL (oL (oF (rV Xa)))) Zn K)) (g_broken : Fn P w K mg base 3 "broken" ["table"] (sp1 (rV (rV Xa)) (oF (ZB (rPL Xa))) JA K)) (Y : Ecs Xy K mg) (Z : Blt mg) : FnX P w K mg base 4 "tables" ["size"] (IG mg Xa (oL (oL (oL (oF Xa)))) YN K):=by
  refine Jl D U4 (λvs H Q E h=>?_) (λf cdv A outer s H vs Q E hr h=>?_)
  . obtain ⟨v_0, a_0, rfl, _⟩:=h; rfl
  obtain ⟨v_0, a_0, rfl, h_0, hz⟩:=h
  have hu:=hu8 hr
  have hu1:=Yl hr
  refine ⟨_, (Xd (Ya (Zl g_refuse_above hr (by decide) Vm (Xb (EF Z.c_MOST_OF_ALL rfl) (Xb (pv 0) Xe))))
    (Xd (PS.nox (CU 1 (Xi Q7) ["size", "tried"] ["columns"] [] rfl U4.nd rfl rfl (Yb (K:=K) rfl (Yq g_all_columns hr (by decide) (Xb (pv 0) Xe))) (Yt (by decide)) (λcl C s H ex E=>⟨Xu (i:=0) (show List.Nodup (["columns"] : List Str) by decide +kernel) rfl (Or.inl rfl), Y5, (Yq g_table_of_columns hr (by decide) (Xb (pv 0) Xe))⟩)))
    (Xd (PS.nox (Xw (Xt (Vz (Mb eq_int) Lz (Kx Ef) K rfl (BH (by decide) hu)) rfl Z.b_sorted PyProof.Rows.boot_sorted (Xb (Yz (sc:=(Xi Q7)) (N0:=["size", "tried"]) (tns:=["table"]) (caps:=[]) rfl (Yb (K:=K) rfl (pv 1)) (Yt (by decide)) (λcl C s H ex E=>⟨Xu (i:=0) (show List.Nodup (["table"] : List Str) by decide +kernel) rfl (Or.inl rfl), (Up (Xs U1 (Yq g_broken hr (by decide) (Xb (pv 0) Xe)) Zj (XC _))), (pv 0)⟩)) Xe))))
    Xg))), ?_⟩
  refine V1 (S:=(SC.add SC.nil K Xa v_0 a_0)) (σ:=[some v_0, none]) 1 ?_ (SC.i SC.t h_0) hz rfl
  unfold YN
  exact (ZJ (Ev.toB (Zv (Xf 4) (Xc (r:=Xa) 0 rfl (λ_ s=>s.r)))) (Yu (K:=K) (o:=(oL (oL (oL (oF Xa))))) 1 0 (Y6 (λ_=>tg1 0) (X8 (Ev.sh (D0 (Xo (r:=Xa) 0 rfl (λ_ s=>s.r))))) (λC9 a10 v11=>(ZE (Xc (r:=(rV (rV Xa))) 0 rfl (λ_ s=>s.r))))) (Nat.le_of_ble_eq_true rfl) λa4 v5 C6=>(Xx (BN (r:=rV Xa) (lt:=ltG ltI) (Hz (K:=K) (o:=(oL (oL (oF Xa)))) (r:=(rV (rV Xa))) 1 0 (by decide) rfl rfl (λ_ s=>s.r) (λC16 a17 v18=>(Xl (K:=K) (Vv (tb:=tC .non) (Ev.toB (ZE (Xc (r:=(rV (rV Xa))) 0 rfl (λ_ s=>s.r))))))))))))
theorem UV : FnScope ["one", "other"] ["one", "other"] (Xi Qq):=⟨rfl, rfl, rfl, by decide +kernel, rfl, by decide +kernel, by decide +kernel⟩
theorem Uv (D : Def K mg "refuse_big" Qq ["one", "other"]) (g_refuse_above : FnX P w K mg base 1 "refuse_above" ["most", "size"] (KP mg Xa Xa oU XM K)) (Y : Ecs Xy K mg) (Z : Blt mg) : FnX P w K mg base 2 "refuse_big" ["one", "other"] (KP mg (rV (rV Xa)) (rV (rV Xa)) oU XT K):=by
  refine Jl D UV (λvs H Q E h=>?_) (λf cdv A outer s H vs Q E hr h=>?_)
  . obtain ⟨v_0, v_1, a_0, a_1, rfl, _⟩:=h; rfl
  obtain ⟨v_0, v_1, a_0, a_1, rfl, h_0, h_1, hz⟩:=h
  have hu:=hu8 hr
  have hu1:=Yl hr
  refine ⟨_, (Xd (Ya (Zl g_refuse_above hr (by decide) Vm (Xb (EF Z.c_MOST_TO_COMPARE rfl) (Xb (Xt (Bi rfl) rfl Z.b_max PyProof.Rows.boot_max (Xb (Xt (Xk K rfl) rfl Z.b_len PySem.boot_len (Xb (pv 0) Xe)) (Xb (Xt (Xk K rfl) rfl Z.b_len PySem.boot_len (Xb (pv 1) Xe)) Xe))) Xe))))
    Xg), ?_⟩
  refine EG (J:=({ oo:=λx3=>[], ss:=λx3=>[some v_0, some v_1], sc:=λg4 x3=>(SC.add (SC.add SC.nil K (rV (rV Xa)) v_0 a_0) K (rV (rV Xa)) v_1 a_1) } : Jn (Unit) (Unit))) (K:=K) (S:=(SC.add (SC.add SC.nil K (rV (rV Xa)) v_0 a_0) K (rV (rV Xa)) v_1 a_1)) (σ:=[some v_0, some v_1]) 0 ?_ (SC.i (SC.i SC.t h_0) h_1) hz (λ_ _=>rfl)
  unfold XT
  exact (ZJ (Ev.toB (Zv (Xf 6) (HG (Yh (Xc (r:=(rV (rV Xa))) 0 rfl (λ_ s=>s.l.r))) (Yh (Xc (r:=(rV (rV Xa))) 1 rfl (λ_ s=>s.r)))))) (XA (J:=_) () () rfl rfl (λ_ s=>(SC.i (SC.i SC.t s.l.r) s.r))))
theorem ZC : FnScope ["one", "other", "images", "a", "b", "result"] ["one", "other", "images", "a", "b"] (Xi Y4):=⟨rfl, rfl, rfl, by decide +kernel, rfl, by decide +kernel, by decide +kernel⟩
theorem QV (D : Def K mg "equation_broken" Y4 ["one", "other", "images", "a", "b"])  (Y : Ecs Xy K mg) (Z : Blt mg) : Fn P w K mg base 1 "equation_broken" ["one", "other", "images", "a", "b"] (sp5 (rV (rV Xa)) (rV (rV Xa)) (rPL Xa) Xa Xa (oF XR) Xq K):=by
  refine Y0 D ZC (λvs H Q E h=>?_) (λf cdv A outer s H vs Q E hr h=>?_)
  . obtain ⟨v_0, v_1, v_2, v_3, v_4, a_0, a_1, a_2, a_3, a_4, b, rfl, _⟩:=h; rfl
  obtain ⟨v_0, v_1, v_2, v_3, v_4, a_0, a_1, a_2, a_3, a_4, b, rfl, h_0, h_1, h_2, h_3, h_4, hm, q⟩:=h
  have hu:=hu8 hr
  have hu1:=Yl hr
  refine ⟨_, (Xd (XF (i:=5) ZC.nd rfl (Or.inl rfl) (XO (Xm K rfl) (XO (Xm K rfl) (pv 0) (pv 3) (λ_ _=>rfl)) (pv 4) (λ_ _=>rfl)))
    (Xd (Xw (VS (JK Ui (pv 5) (Xt (Xk K rfl) rfl Z.b_len PySem.boot_len (Xb (pv 2) Xe)) (XC _)) (G6 (JK FG (XO (Xm K rfl) (XO (Xm K rfl) (pv 1) (XO (YT K rfl) (pv 2) (pv 3) (λ_ _=>rfl)) (λ_ _=>rfl)) (XO (YT K rfl) (pv 2) (pv 4) (λ_ _=>rfl)) (λ_ _=>rfl)) (XO (YT K rfl) (pv 2) (pv 5) (λ_ _=>rfl)) (XC _)))))
    Xg)), ?_⟩
  refine Y3 (S:=(SC.add (SC.add (SC.add (SC.add (SC.add SC.nil K (rV (rV Xa)) v_0 a_0) K (rV (rV Xa)) v_1 a_1) K (rPL Xa) v_2 a_2) K Xa v_3 a_3) K Xa v_4 a_4)) (σ:=[some v_0, some v_1, some v_2, some v_3, some v_4, none]) 0 ?_ (SC.i (SC.i (SC.i (SC.i (SC.i SC.t h_0) h_1) h_2) h_3) h_4) hm q rfl
  unfold Xq
  exact (X1 (K:=K) (r:=Xa) 5 (EvB.sh (XJ (XJ (Xc (r:=(rV (rV Xa))) 0 rfl (λ_ s=>s.l.l.l.l.r)) (Xc (r:=Xa) 3 rfl (λ_ s=>s.l.r))) (Xc (r:=Xa) 4 rfl (λ_ s=>s.r)))) λa1 v2=>(Xx (EvS.ev (EvB.sh (Qr (JL (Xc (r:=Xa) 5 rfl (λ_ s=>s.r)) (Qt (Xc (r:=(rPL Xa)) 2 rfl (λ_ s=>s.l.l.l.r)))) (VQ (XJ (XJ (Xc (r:=(rV (rV Xa))) 1 rfl (λ_ s=>s.l.l.l.l.r)) (Gn (Xc (r:=(rPL Xa)) 2 rfl (λ_ s=>s.l.l.l.r)) (Xc (r:=Xa) 3 rfl (λ_ s=>s.l.l.r)))) (Gn (Xc (r:=(rPL Xa)) 2 rfl (λ_ s=>s.l.l.l.r)) (Xc (r:=Xa) 4 rfl (λ_ s=>s.l.r)))) (Gn (Xc (r:=(rPL Xa)) 2 rfl (λ_ s=>s.l.l.l.r)) (Xc (r:=Xa) 5 rfl (λ_ s=>s.r)))))))))
theorem ZA : FnScope ["one", "other", "images", "a", "b"] ["one", "other", "images"] (Xi ZK):=⟨rfl, rfl, rfl, by decide +kernel, rfl, by decide +kernel, by decide +kernel⟩
theorem Vj (D : Def K mg "first_breach" ZK ["one", "other", "images"]) (g_equation_broken : Fn P w K mg base 1 "equation_broken" ["one", "other", "images", "a", "b"] (sp5 (rV (rV Xa)) (rV (rV Xa)) (rPL Xa) Xa Xa (oF XR) Xq K)) (Y : Ecs Xy K mg) (Z : Blt mg) : Fn P w K mg base 2 "first_breach" ["one", "other", "images"] (sp3 (rV (rV Xa)) (rV (rV Xa)) (rPL Xa) (oF (ZB (rP2 Xa Xa))) Yk K):=by
  refine Y0 D ZA (λvs H Q E h=>?_) (λf cdv A outer s H vs Q E hr h=>?_)
  . obtain ⟨v_0, v_1, v_2, a_0, a_1, a_2, b, rfl, _⟩:=h; rfl
  obtain ⟨v_0, v_1, v_2, a_0, a_1, a_2, b, rfl, h_0, h_1, h_2, hm, q⟩:=h
  have hu:=hu8 hr
  have hu1:=Yl hr
  refine ⟨_, (Xd (YF PassesOwn.never rfl (XZ rfl Z.b_range (Xb (Xt (Xk K rfl) rfl Z.b_len PySem.boot_len (Xb (pv 2) Xe)) Xe)) (Xu (i:=3) ZA.nd rfl (Or.inl rfl))
      (Xd (YF PassesOwn.never rfl (XZ rfl Z.b_range (Xb (Xt (Xk K rfl) rfl Z.b_len PySem.boot_len (Xb (pv 2) Xe)) Xe)) (Xu (i:=4) ZA.nd rfl (Or.inl rfl))
        (Xd (YD (V8 (Yq g_equation_broken hr (by decide) (Xb (pv 0) (Xb (pv 1) (Xb (pv 2) (Xb (pv 3) (Xb (pv 4) Xe)))))))
          (Xd (Xw (YL (Xb (pv 3) (Xb (pv 4) Xe))))
          Xg)
          Xg)
        Xg))
      Xg))
    (Xd (Xw Zj)
    Xg)), ?_⟩
  refine Y3 (S:=(SC.add (SC.add (SC.add SC.nil K (rV (rV Xa)) v_0 a_0) K (rV (rV Xa)) v_1 a_1) K (rPL Xa) v_2 a_2)) (σ:=[some v_0, some v_1, some v_2, none, none]) 0 ?_ (SC.i (SC.i (SC.i SC.t h_0) h_1) h_2) hm q rfl
  unfold Yk
  exact (Jd (K:=K) (J:=({ oo:=λx3=>[], ss:=λx3=>[some v_0, some v_1, some v_2, x3.1, x3.2], sc:=λg4 x3=>(SC.add (SC.add (SC.add SC.nil K (rV (rV Xa)) v_0 a_0) K (rV (rV Xa)) v_1 a_1) K (rPL Xa) v_2 a_2) } : Jn (Unit) (Option V × Option V))) (λ_=>tg1 3) ((none), (none)) () (XH (Qt (Xc (r:=(rPL Xa)) 2 rfl (λ_ s=>s.r)))) rfl rfl (λ_ s=>(SC.i (SC.i (SC.i SC.t s.l.l.r) s.l.r) s.r)) (λg5 x6 a7 v8=>(UE (K:=K) (J:=({ oo:=λx11=>[], ss:=λx11=>[some v_0, some v_1, some v_2, some v8, x11], sc:=λg12 x11=>(SC.add (SC.add (SC.add (SC.add SC.nil K (rV (rV Xa)) v_0 a_0) K (rV (rV Xa)) v_1 a_1) K (rPL Xa) v_2 a_2) K Xa v8 a7) } : Jn (Unit) (Option V))) (λ_=>tg1 4) ((x6.2)) () (XH (Qt (Xc (r:=(rPL Xa)) 2 rfl (λ_ s=>s.l.r)))) rfl rfl (λ_ s=>(SC.i (SC.i (SC.i (SC.i SC.t s.l.l.l.r) s.l.l.r) s.l.r) s.r)) (λg13 x14 a15 v16=>(QQ (KY (K:=K) (Ev.toB (Jv (Xc (r:=(rV (rV Xa))) 0 rfl (λ_ s=>s.l.l.l.l.r)) (Xc (r:=(rV (rV Xa))) 1 rfl (λ_ s=>s.l.l.l.r)) (Xc (r:=(rPL Xa)) 2 rfl (λ_ s=>s.l.l.r)) (Xc (r:=Xa) 3 rfl (λ_ s=>s.l.r)) (Xc (r:=Xa) 4 rfl (λ_ s=>s.r))))) (Xx (Q6 HR (EvS.ev (JB (Xo (r:=Xa) 3 rfl (λ_ s=>s.l.r)) (Xo (r:=Xa) 4 rfl (λ_ s=>s.r)))))) (ZW (XA (J:=_) ((some v16)) () rfl rfl (λ_ s=>(SC.i (SC.i (SC.i (SC.i SC.t s.l.l.l.l.r) s.l.l.l.r) s.l.l.r) s.l.r)))))) λg29 x30=>(ZW (XA (J:=_) ((some v8), (x30)) () rfl rfl (λ_ s=>(SC.i (SC.i (SC.i SC.t s.l.l.l.r) s.l.l.r) s.l.r)))))) λg33 x34=>(Xx Vi))
theorem Jt : FnScope ["images", "size"] ["images", "size"] (Xi YS):=⟨rfl, rfl, rfl, by decide +kernel, rfl, by decide +kernel, by decide +kernel⟩
theorem Jr (D : Def K mg "longer_images" YS ["images", "size"])  (Y : Ecs Xy K mg) (Z : Blt mg) : Fn P w K mg base 1 "longer_images" ["images", "size"] (sp2 (rPL Xa) Xa (oL (oF (rPL Xa))) Yd K):=by
  refine Y0 D Jt (λvs H Q E h=>?_) (λf cdv A outer s H vs Q E hr h=>?_)
  . obtain ⟨v_0, v_1, a_0, a_1, b, rfl, _⟩:=h; rfl
  obtain ⟨v_0, v_1, a_0, a_1, b, rfl, h_0, h_1, hm, q⟩:=h
  have hu:=hu8 hr
  have hu1:=Yl hr
  refine ⟨_, (Xd (Xw (Yz (sc:=(Xi YS)) (N0:=["images", "size"]) (tns:=["colour"]) (caps:=[(0, "images")]) rfl (CD rfl Z.b_range (Xb (XB Qc (pv 1) Xh) (Xb (Ll EU Xh) (Xb (Ll EU Xh) Xe)))) (Yt (by decide)) (λcl C s H ex E=>⟨Xu (i:=0) (show List.Nodup (["colour", "images"] : List Str) by decide +kernel) rfl (Or.inl rfl), (Up (Xs (UA K rfl) (pv 0) (pv 1) rfl)), (XB (Bx K rfl) (pv 1) (YL (Xb (pv 0) Xe)))⟩)))
    Xg), ?_⟩
  refine Y3 (S:=(SC.add (SC.add SC.nil K (rPL Xa) v_0 a_0) K Xa v_1 a_1)) (σ:=[some v_0, some v_1]) 0 ?_ (SC.i (SC.i SC.t h_0) h_1) hm q rfl
  unfold Yd
  exact (Xx (UI (λ_=>tg1 0) (Ge (Ze (Xc (r:=Xa) 1 rfl (λ_ s=>s.r)) (Xf 1)) (DB (Xf 1)) (DB (Xf 1))) (λC8 a9 v10=>(Xl (K:=K) (En (Xc (r:=Xa) 0 rfl (λ_ s=>s.r)) (Xc (r:=(rPL Xa)) 1 rfl (λ_ s=>s.l.l.r))))) (λC8 a9 v10=>(EvS.ev (EvB.sh (BG (Xc (r:=(rPL Xa)) 1 rfl (λ_ s=>s.l.l.r)) (Ev.toB (EvS.ev (QX (Xn (Xo (r:=Xa) 0 rfl (λ_ s=>s.r)) Yn))))))))))
theorem Zt : FnScope ["one", "other", "paper", "waiting", "images", "breach"] ["one", "other"] (Xi Jf):=⟨rfl, rfl, rfl, by decide +kernel, rfl, by decide +kernel, by decide +kernel⟩
theorem K8 (D : Def K mg "searched" Jf ["one", "other"]) (g_first_breach : Fn P w K mg base 2 "first_breach" ["one", "other", "images"] (sp3 (rV (rV Xa)) (rV (rV Xa)) (rPL Xa) (oF (ZB (rP2 Xa Xa))) Yk K)) (g_longer_images : Fn P w K mg base 1 "longer_images" ["images", "size"] (sp2 (rPL Xa) Xa (oL (oF (rPL Xa))) Yd K)) (Y : Ecs Xy K mg) (Z : Blt mg) : Fn P w K mg base 3 "searched" ["one", "other"] (sp2 (rV (rV Xa)) (rV (rV Xa)) (oT2 (VZ (oL (oF Xa))) (oL (oF (rP3 (rPL Xa) Xa Xa)))) YK K):=by
  refine Y0 D Zt (λvs H Q E h=>?_) (λf cdv A outer s H vs Q E hr h=>?_)
  . obtain ⟨v_0, v_1, a_0, a_1, b, rfl, _⟩:=h; rfl
  obtain ⟨v_0, v_1, a_0, a_1, b, rfl, h_0, h_1, hm, q⟩:=h
  have hu:=hu8 hr
  have hu1:=Yl hr
  refine ⟨_, (Xd (XF (i:=2) Zt.nd rfl (Or.inl rfl) (X3 Xe))
    (Xd (XF (i:=3) Zt.nd rfl (Or.inl rfl) (Ee (Xs Z5 (Xt (Xk K rfl) rfl Z.b_len PySem.boot_len (Xb (pv 0) Xe)) (Xt (Xk K rfl) rfl Z.b_len PySem.boot_len (Xb (pv 1) Xe)) (XC _)) (X3 (Xb (YL Xe) Xe)) (X3 Xe)))
    (Xd (Uu PassesOwn.never (Xs Di (Xt (Xk K rfl) rfl Z.b_len PySem.boot_len (Xb (pv 3) Xe)) Xh (XC _))
      (Xd (XF (i:=4) Zt.nd rfl (Or.inl rfl) (LX PySem.F.plainAttrs_list PySem.F.slot_list_pop PySem.F.type_list_pop Li (pv 3)))
      (Xd (XF (i:=5) Zt.nd rfl (Or.inl rfl) (Yq g_first_breach hr (by decide) (Xb (pv 0) (Xb (pv 1) (Xb (pv 4) Xe)))))
      (Xd (YD (Xs UU (pv 5) Zj (XC _))
        (Xd (Ya (Jq PySem.F.plainAttrs_list PySem.F.slot_list_append PySem.F.type_list_append Zb (pv 2) (Xb (YL (Xb (pv 4) (Xb (XO (YT K rfl) (pv 5) Xh (λ_ _=>rfl)) (Xb (XO (YT K rfl) (pv 5) Xh (λ_ _=>rfl)) Xe)))) Xe)))
        Xg)
        (Xd (YD (Xs Z5 (Xt (Xk K rfl) rfl Z.b_len PySem.boot_len (Xb (pv 4) Xe)) (Xt (Xk K rfl) rfl Z.b_len PySem.boot_len (Xb (pv 0) Xe)) (XC _))
          (Xd (Xw (YL (Xb (YW (Yy K rfl) rfl Z.b_list PyProof.Rows.boot_list (Xb (pv 4) Xe)) (Xb (pv 2) Xe))))
          Xg)
          (Xd (Ya (Jq PySem.F.plainAttrs_list PySem.F.slot_list_extend PySem.F.type_list_extend KD (pv 3) (Xb (Yq g_longer_images hr (by decide) (Xb (pv 4) (Xb (Xt (Xk K rfl) rfl Z.b_len PySem.boot_len (Xb (pv 1) Xe)) Xe))) Xe)))
          Xg))
        Xg))
      Xg))))
    (Xd (Xw (YL (Xb Zj (Xb (pv 2) Xe))))
    Xg)))), ?_⟩
  refine Y3 (S:=(SC.add (SC.add SC.nil K (rV (rV Xa)) v_0 a_0) K (rV (rV Xa)) v_1 a_1)) (σ:=[some v_0, some v_1, none, none, none, none]) 2 ?_ (SC.i (SC.i SC.t h_0) h_1) hm q rfl
  unfold YK
  exact (Yu (K:=K) (o:=(oL (oF (rP3 (rPL Xa) Xa Xa)))) 2 0 (JU (o:=(oF (rP3 (rPL Xa) Xa Xa)))) (Nat.le_of_ble_eq_true rfl) λa1 v2 C3=>(Yu (K:=K) (o:=(oL (oF (rPL Xa)))) 3 1 (MR (Xl (K:=K) (YZ (Yh (Xc (r:=(rV (rV Xa))) 0 rfl (λ_ s=>s.l.l.r))) (Yh (Xc (r:=(rV (rV Xa))) 1 rfl (λ_ s=>s.l.r))))) (ZO (Xn (QX Yn) Yn)) (JU (o:=(oF (rPL Xa))))) (Nat.le_of_ble_eq_true rfl) λa4 v5 C6=>(CV (K:=K) (J:=({ oo:=λx16=>[x16.2.2.2.2.2, x16.2.2.2.2.1], ss:=λx16=>[some v_0, some v_1, some x16.2.2.2.1, some x16.2.2.1, x16.1, x16.2.1], sc:=λg17 x16=>(SC.addO (SC.addO (SC.add (SC.add SC.nil K (rV (rV Xa)) v_0 a_0) K (rV (rV Xa)) v_1 a_1) K (oL (oF (rPL Xa))) x16.2.2.1 g17.1 x16.2.2.2.2.1) K (oL (oF (rP3 (rPL Xa) Xa Xa))) x16.2.2.2.1 g17.2 x16.2.2.2.2.2) } : Jn ((List (List Int)) × (List ((List Int) × Int × Int))) (Option V × Option V × V × V × List Xz × List Xz))) (a_0.length + 100000) ((none), (none), v5, v2, C6, C3) (a4, a1) rfl rfl (λ_ s=>(SC.i (SC.i (SC.i (SC.i SC.t s.l.l.l.r) s.l.l.r) s.r) s.l.r)) (λg18 x19=>(Xl (K:=K) (UZ (Yh (Je (o:=(oL (oF (rPL Xa)))) 3 1 rfl rfl (λ_ s=>s.l.r))) (Xf 0)))) (λg18 x19=>(HP (K:=K) (r:=(rPL Xa)) 4 3 1 rfl rfl (λ_ s=>s.l.r) λa23 a24 v25 C26=>(X1 (K:=K) (r:=(ZB (rP2 Xa Xa))) 5 (EvB.sh (Ev.toB (Z3 (Xc (r:=(rV (rV Xa))) 0 rfl (λ_ s=>s.l.l.l.l.l.r)) (Xc (r:=(rV (rV Xa))) 1 rfl (λ_ s=>s.l.l.l.l.r)) (Xc (r:=(rPL Xa)) 4 rfl (λ_ s=>s.l.r))))) λa28 v29=>(Fb (J:=({ oo:=λx36=>[x36.2.2.1, x36.2.2.2], ss:=λx36=>[some v_0, some v_1, some x36.1, some x36.2.1, some v25, some v29], sc:=λg37 x36=>(SC.addO (SC.addO (SC.add (SC.add (SC.add (SC.add SC.nil K (rV (rV Xa)) v_0 a_0) K (rV (rV Xa)) v_1 a_1) K (rPL Xa) v25 a23) K (ZB (rP2 Xa Xa)) v29 a28) K (oL (oF (rP3 (rPL Xa) Xa Xa))) x36.1 g37.1 x36.2.2.1) K (oL (oF (rPL Xa))) x36.2.1 g37.2 x36.2.2.2) } : Jn ((List ((List Int) × Int × Int)) × (List (List Int))) (V × V × List Xz × List Xz))) (ZU (Fd:=FCd K (oT2 (VZ (oL (oF Xa))) (oL (oF (rP3 (rPL Xa) Xa Xa)))) ({ oo:=λx36=>[x36.2.2.1, x36.2.2.2], ss:=λx36=>[some v_0, some v_1, some x36.1, some x36.2.1, some v25, some v29], sc:=λg37 x36=>(SC.addO (SC.addO (SC.add (SC.add (SC.add (SC.add SC.nil K (rV (rV Xa)) v_0 a_0) K (rV (rV Xa)) v_1 a_1) K (rPL Xa) v25 a23) K (ZB (rP2 Xa Xa)) v29 a28) K (oL (oF (rP3 (rPL Xa) Xa Xa))) x36.1 g37.1 x36.2.2.1) K (oL (oF (rPL Xa))) x36.2.1 g37.2 x36.2.2.2) } : Jn ((List ((List Int) × Int × Int)) × (List (List Int))) (V × V × List Xz × List Xz))) (Xl (K:=K) (Jx (tb:=tC .non) (Xc (r:=(ZB (rP2 Xa Xa))) 5 rfl (λ_ s=>s.r)))) (Vq (K:=K) (o:=(oF (rP3 (rPL Xa) Xa Xa))) (f:=λa45=>(Rs.bind (Rs.ok (a45, a24)) λx46=>(Rs.ok (Ctl.nx x46)))) 2 0 rfl rfl rfl (λ_ s=>s.l.l.l.r) (EvS.ev (JF (Xo (r:=(rPL Xa)) 4 rfl (λ_ s=>s.l.l.r)) (EvB.sh (Gc (GZ (Xc (r:=(ZB (rP2 Xa Xa))) 5 rfl (λ_ s=>s.r))))) (EvB.sh (Dd (GZ (Xc (r:=(ZB (rP2 Xa Xa))) 5 rfl (λ_ s=>s.r))))))) λa43 C44=>(ZW (XA (J:=_) (x19.2.2.2.1, x19.2.2.1, C44, C26) ((g18.2 ++ [a43]), a24) rfl rfl (λ_ s=>(SC.i (SC.i (SC.i (SC.i (SC.i (SC.i SC.t s.l.l.l.l.l.l.l.r) s.l.l.l.l.l.l.r) s.l.l.l.r) s.l.r) s.r) s.l.l.r))))) (Fb (J:=({ oo:=λx52=>[x19.2.2.2.2.2, x52.2], ss:=λx52=>[some v_0, some v_1, some x19.2.2.2.1, some x52.1, some v25, some v29], sc:=λg53 x52=>(SC.addO (SC.add (SC.add (SC.addO (SC.add (SC.add SC.nil K (rV (rV Xa)) v_0 a_0) K (rV (rV Xa)) v_1 a_1) K (oL (oF (rP3 (rPL Xa) Xa Xa))) x19.2.2.2.1 g18.2 x19.2.2.2.2.2) K (rPL Xa) v25 a23) K (ZB (rP2 Xa Xa)) v29 a28) K (oL (oF (rPL Xa))) x52.1 g53 x52.2) } : Jn ((List (List Int))) (V × List Xz))) (ZU (Fd:=FCd K (oT2 (VZ (oL (oF Xa))) (oL (oF (rP3 (rPL Xa) Xa Xa)))) ({ oo:=λx52=>[x19.2.2.2.2.2, x52.2], ss:=λx52=>[some v_0, some v_1, some x19.2.2.2.1, some x52.1, some v25, some v29], sc:=λg53 x52=>(SC.addO (SC.add (SC.add (SC.addO (SC.add (SC.add SC.nil K (rV (rV Xa)) v_0 a_0) K (rV (rV Xa)) v_1 a_1) K (oL (oF (rP3 (rPL Xa) Xa Xa))) x19.2.2.2.1 g18.2 x19.2.2.2.2.2) K (rPL Xa) v25 a23) K (ZB (rP2 Xa Xa)) v29 a28) K (oL (oF (rPL Xa))) x52.1 g53 x52.2) } : Jn ((List (List Int))) (V × List Xz))) (Xl (K:=K) (YZ (Qt (Xc (r:=(rPL Xa)) 4 rfl (λ_ s=>s.l.l.r))) (Yh (Xc (r:=(rV (rV Xa))) 0 rfl (λ_ s=>s.l.l.l.l.l.l.r))))) (Hj (Xx (Q8 (Do Nj (B0 (Xc (r:=(rPL Xa)) 4 rfl (λ_ s=>s.l.l.r)))) λ_=>(YR (o:=(oL (oF (rP3 (rPL Xa) Xa Xa)))) 2 1 rfl rfl (λ_ s=>s.l.l.l.r))))) (Ez (K:=K) (o:=(oF (rPL Xa))) (f:=λa65=>(Rs.bind (Rs.ok (a65)) λx66=>(Rs.ok (Ctl.nx x66)))) 3 1 rfl rfl rfl (λ_ s=>s.l.r) (Yg (Xc (r:=(rPL Xa)) 4 rfl (λ_ s=>s.l.l.r)) (Yh (Xc (r:=(rV (rV Xa))) 1 rfl (λ_ s=>s.l.l.l.l.l.r)))) λa63 C64=>(ZW (XA (J:=_) (x19.2.2.1, C64) ((a24 ++ a63)) rfl rfl (λ_ s=>(SC.i (SC.i (SC.i (SC.i (SC.i (SC.i SC.t s.l.l.l.l.l.l.l.r) s.l.l.l.l.l.l.r) s.l.l.l.l.r) s.l.l.l.r) s.l.r) s.r)))))) λg68 x67=>(ZW (XA (J:=_) (x19.2.2.2.1, x67.1, x19.2.2.2.2.2, x67.2) (g18.2, g68) rfl rfl (λ_ s=>(SC.i (SC.i (SC.i (SC.i (SC.i (SC.i SC.t s.l.l.l.l.l.r) s.l.l.l.l.r) s.l.l.r) s.l.r) s.l.l.l.r) s.r)))))) λg71 x70=>(ZW (XA (J:=_) ((some v25), (some v29), x70.2.1, x70.1, x70.2.2.2, x70.2.2.1) (g71.2, g71.1) rfl rfl (λ_ s=>(SC.i (SC.i (SC.i (SC.i SC.t s.l.l.l.l.l.r) s.l.l.l.l.r) s.r) s.l.r)))))))) λg73 x74=>(Xx (Q8 EW λ_=>(YR (o:=(oL (oF (rP3 (rPL Xa) Xa Xa)))) 2 1 rfl rfl (λ_ s=>s.r)))))))
theorem HC : FnScope ["one", "other"] ["one", "other"] (Xi Bg):=⟨rfl, rfl, rfl, by decide +kernel, rfl, by decide +kernel, by decide +kernel⟩
theorem HN (D : Def K mg "like" Bg ["one", "other"]) (g_refuse_big : FnX P w K mg base 2 "refuse_big" ["one", "other"] (KP mg (rV (rV Xa)) (rV (rV Xa)) oU XT K)) (g_searched : Fn P w K mg base 3 "searched" ["one", "other"] (sp2 (rV (rV Xa)) (rV (rV Xa)) (oT2 (VZ (oL (oF Xa))) (oL (oF (rP3 (rPL Xa) Xa Xa)))) YK K)) (Y : Ecs Xy K mg) (Z : Blt mg) : FnX P w K mg base 4 "like" ["one", "other"] (KP mg (rV (rV Xa)) (rV (rV Xa)) (VZ (oL (oF Xa))) Qb K):=by
  refine Jl D HC (λvs H Q E h=>?_) (λf cdv A outer s H vs Q E hr h=>?_)
  . obtain ⟨v_0, v_1, a_0, a_1, rfl, _⟩:=h; rfl
  obtain ⟨v_0, v_1, a_0, a_1, rfl, h_0, h_1, hz⟩:=h
  have hu:=hu8 hr
  have hu1:=Yl hr
  refine ⟨_, (Xd (Ya (Zl g_refuse_big hr (by decide) Vm (Xb (pv 0) (Xb (pv 1) Xe))))
    (Xd (PS.nox (Xw (XO (YT K rfl) (Yq g_searched hr (by decide) (Xb (pv 0) (Xb (pv 1) Xe))) Xh (λ_ _=>rfl))))
    Xg)), ?_⟩
  refine V1 (S:=(SC.add (SC.add SC.nil K (rV (rV Xa)) v_0 a_0) K (rV (rV Xa)) v_1 a_1)) (σ:=[some v_0, some v_1]) 0 ?_ (SC.i (SC.i SC.t h_0) h_1) hz rfl
  unfold Qb
  exact (ZJ (Ev.toB (Zv (Xc (r:=(rV (rV Xa))) 0 rfl (λ_ s=>s.l.r)) (Xc (r:=(rV (rV Xa))) 1 rfl (λ_ s=>s.r)))) (Xx (Iz (Yg (Xc (r:=(rV (rV Xa))) 0 rfl (λ_ s=>s.l.r)) (Xc (r:=(rV (rV Xa))) 1 rfl (λ_ s=>s.r))))))
theorem Kp : FnScope ["one", "other", "found"] ["one", "other"] (Xi Uf):=⟨rfl, rfl, rfl, by decide +kernel, rfl, by decide +kernel, by decide +kernel⟩
theorem Ct (D : Def K mg "unlike" Uf ["one", "other"]) (g_refuse_big : FnX P w K mg base 2 "refuse_big" ["one", "other"] (KP mg (rV (rV Xa)) (rV (rV Xa)) oU XT K)) (g_searched : Fn P w K mg base 3 "searched" ["one", "other"] (sp2 (rV (rV Xa)) (rV (rV Xa)) (oT2 (VZ (oL (oF Xa))) (oL (oF (rP3 (rPL Xa) Xa Xa)))) YK K)) (Y : Ecs Xy K mg) (Z : Blt mg) : FnX P w K mg base 4 "unlike" ["one", "other"] (KP mg (rV (rV Xa)) (rV (rV Xa)) (VZ (oL (oF (rP3 (rPL Xa) Xa Xa)))) Y8 K):=by
  refine Jl D Kp (λvs H Q E h=>?_) (λf cdv A outer s H vs Q E hr h=>?_)
  . obtain ⟨v_0, v_1, a_0, a_1, rfl, _⟩:=h; rfl
  obtain ⟨v_0, v_1, a_0, a_1, rfl, h_0, h_1, hz⟩:=h
  have hu:=hu8 hr
  have hu1:=Yl hr
  refine ⟨_, (Xd (Ya (Zl g_refuse_big hr (by decide) Vm (Xb (pv 0) (Xb (pv 1) Xe))))
    (Xd (PS.nox (XF (i:=2) Kp.nd rfl (Or.inl rfl) (Yq g_searched hr (by decide) (Xb (pv 0) (Xb (pv 1) Xe)))))
    (Xd (PS.nox (YD (Xs UU (XO (YT K rfl) (pv 2) Xh (λ_ _=>rfl)) Zj (XC _))
      (Xd (Xw Zj)
      Xg)
      Xg))
    (Xd (PS.nox (Xw (XO (YT K rfl) (pv 2) Xh (λ_ _=>rfl))))
    Xg)))), ?_⟩
  refine V1 (S:=(SC.add (SC.add SC.nil K (rV (rV Xa)) v_0 a_0) K (rV (rV Xa)) v_1 a_1)) (σ:=[some v_0, some v_1, none]) 1 ?_ (SC.i (SC.i SC.t h_0) h_1) hz rfl
  unfold Y8
  exact (ZJ (Ev.toB (Zv (Xc (r:=(rV (rV Xa))) 0 rfl (λ_ s=>s.l.r)) (Xc (r:=(rV (rV Xa))) 1 rfl (λ_ s=>s.r)))) (Yu (K:=K) (o:=(oT2 (VZ (oL (oF Xa))) (oL (oF (rP3 (rPL Xa) Xa Xa))))) 2 0 (Yg (Xc (r:=(rV (rV Xa))) 0 rfl (λ_ s=>s.l.r)) (Xc (r:=(rV (rV Xa))) 1 rfl (λ_ s=>s.r))) (Nat.le_of_ble_eq_true rfl) λa4 v5 C6=>(Qd (Xl (K:=K) (Jx (tb:=tC .non) (Gc (Je (o:=(oT2 (VZ (oL (oF Xa))) (oL (oF (rP3 (rPL Xa) Xa Xa))))) 2 0 rfl rfl (λ_ s=>s.r))))) (Xx EW) (Xx (Do Nj (Iq (YR (o:=(oT2 (VZ (oL (oF Xa))) (oL (oF (rP3 (rPL Xa) Xa Xa))))) 2 0 rfl rfl (λ_ s=>s.r))))))))
theorem Ul : FnScope ["size", "told", "table"] ["size"] (Xi Ut):=⟨rfl, rfl, rfl, by decide +kernel, rfl, by decide +kernel, by decide +kernel⟩
theorem B3 (D : Def K mg "kinds" Ut ["size"]) (g_tables : FnX P w K mg base 4 "tables" ["size"] (IG mg Xa (oL (oL (oL (oF Xa)))) YN K)) (g_like : FnX P w K mg base 4 "like" ["one", "other"] (KP mg (rV (rV Xa)) (rV (rV Xa)) (VZ (oL (oF Xa))) Qb K)) (Y : Ecs Xy K mg) (Z : Blt mg) : FnX P w K mg base 5 "kinds" ["size"] (IG mg Xa (oL (oL (oL (oF Xa)))) Z0 K):=by
  refine Jl D Ul (λvs H Q E h=>?_) (λf cdv A outer s H vs Q E hr h=>?_)
  . obtain ⟨v_0, a_0, rfl, _⟩:=h; rfl
  obtain ⟨v_0, a_0, rfl, h_0, hz⟩:=h
  have hu:=hu8 hr
  have hu1:=Yl hr
  refine ⟨_, (Xd (PS.nox (XF (i:=1) Ul.nd rfl (Or.inl rfl) (X3 Xe)))
    (Xd (YF PassesOwn.leaving rfl (Yb (K:=K) rfl (Zl g_tables hr (by decide) Vm (Xb (pv 0) Xe))) (Xu (i:=2) Ul.nd rfl (Or.inr rfl))
      (Xd (YD (V8 (Xt (JZ rfl) rfl Z.b_all PyProof.Rows.boot_all (Xb (Yz (sc:=(Xi Ut)) (N0:=["size", "told", "table"]) (tns:=["kind"]) (caps:=[(2, "table")]) rfl (Yb (K:=K) rfl (pv 1)) (Yt (by decide)) (λcl C s H ex E=>⟨Xu (i:=0) (show List.Nodup (["kind", "table"] : List Str) by decide +kernel) rfl (Or.inl rfl), Y5, (JK U1 (Zl g_like hr (by decide) Ec (Xb (pv 0) (Xb (pv 1) Xe))) Zj (XC _))⟩)) Xe)))
        (Xd (PS.nox (Ya (Jq PySem.F.plainAttrs_list PySem.F.slot_list_append PySem.F.type_list_append Zb (pv 1) (Xb (pv 2) Xe))))
        Xg)
        Xg)
      Xg))
    (Xd (PS.nox (Xw (pv 1)))
    Xg))), ?_⟩
  refine V1 (S:=(SC.add SC.nil K Xa v_0 a_0)) (σ:=[some v_0, none, none]) 3 ?_ (SC.i SC.t h_0) hz rfl
  unfold Z0
  exact (Yu (K:=K) (o:=(oL (oL (oL (oF Xa))))) 1 0 (JU (o:=(oL (oL (oF Xa))))) (Nat.le_of_ble_eq_true rfl) λa1 v2 C3=>(Hm (K:=K) (o:=(oL (oL (oF Xa)))) (J:=({ oo:=λx5=>[x5.2.2, [], []], ss:=λx5=>[some v_0, some x5.2.1, x5.1], sc:=λg6 x5=>(SC.addO (SC.add SC.nil K Xa v_0 a_0) K (oL (oL (oL (oF Xa)))) x5.2.1 g6 x5.2.2) } : Jn ((List (List (List Int)))) (Option V × V × List Xz))) 1 2 2 ((none), v2, C3) (a1) (JR (Xc (r:=Xa) 0 rfl (λ_ s=>s.l.r))) rfl rfl (λ_ s=>(SC.i (SC.i SC.t s.l.r) s.r)) (λ_=>rfl) (λ_=>rfl) (by decide) (λR12 g7 x8 a9 v10 C11=>(Zz (J:=({ oo:=λx22=>[x22.2.2, [], R12], ss:=λx22=>[some v_0, some x22.1, x22.2.1], sc:=λg23 x22=>(SC.addO (SC.add SC.nil K Xa v_0 a_0) K (oL (oL (oL (oF Xa)))) x22.1 g23 x22.2.2) } : Jn ((List (List (List Int)))) (V × Option V × List Xz))) (ZU (Fd:=FNd ({ oo:=λx22=>[x22.2.2, [], R12], ss:=λx22=>[some v_0, some x22.1, x22.2.1], sc:=λg23 x22=>(SC.addO (SC.add SC.nil K Xa v_0 a_0) K (oL (oL (oL (oF Xa)))) x22.1 g23 x22.2.2) } : Jn ((List (List (List Int)))) (V × Option V × List Xz))) (KY (K:=K) (Gx (Ev.toB (Hf (K:=K) (o1:=(oL (oL (oL (oF Xa))))) 0 rfl (λ_ s=>s.l.r) (Y6 (λ_=>tg1 0) (X8 (Xo (r:=(rV (rV (rV Xa)))) 1 rfl (λ_ s=>s.r))) (λC13 a14 v15=>(EvS.ev (EvB.sh (Vv (tb:=tC .non) (Ev.toB (JX (Xc (r:=(rV (rV Xa))) 0 rfl (λ_ s=>s.r)) (Je (o:=(oL (oL (oF Xa)))) 1 2 rfl rfl (λ_ s=>s.l.l.r))))))))))))) (Vq (K:=K) (o:=(oL (oL (oF Xa)))) (f:=λa26=>(Rs.ok (a26))) 1 0 rfl rfl rfl (λ_ s=>s.l.r) (YR (o:=(oL (oL (oF Xa)))) 2 1 rfl rfl (λ_ s=>s.r)) λa24 C25=>(XA (J:=_) (x8.2.1, (some v10), C25) ((g7 ++ [a24])) rfl rfl (λ_ s=>(SC.i (SC.i SC.t s.l.l.l.r) s.r)))) (Ha 1 (XA (J:=_) (x8.2.1, (some v10), x8.2.2) (g7) rfl rfl (λ_ s=>(SC.i (SC.i SC.t s.l.l.r) s.l.r))))) λg28 x27=>(XA (J:=_) ((x27.2.1), x27.1, x27.2.2) (g28) rfl rfl (λ_ s=>(SC.i (SC.i SC.t s.l.r) s.r))))) λg29 x30=>(Xx (YR (o:=(oL (oL (oL (oF Xa))))) 1 0 rfl rfl (λ_ s=>s.r)))))
theorem QT : FnScope ["order", "shut"] ["order", "shut"] (Xi Yx):=⟨rfl, rfl, rfl, by decide +kernel, rfl, by decide +kernel, by decide +kernel⟩
theorem Q4 (D : Def K mg "begins_with_one" Yx ["order", "shut"])  (Y : Ecs Xy K mg) (Z : Blt mg) : Fn P w K mg base 1 "begins_with_one" ["order", "shut"] (sp2 (rV Xa) (rDT XR) (oF XR) XV K):=by
  refine Y0 D QT (λvs H Q E h=>?_) (λf cdv A outer s H vs Q E hr h=>?_)
  . obtain ⟨v_0, v_1, a_0, a_1, b, rfl, _⟩:=h; rfl
  obtain ⟨v_0, v_1, a_0, a_1, b, rfl, h_0, h_1, hm, q⟩:=h
  have hu:=hu8 hr
  have hu1:=Yl hr
  refine ⟨_, (Xd (Xw (Xt (DT rfl) rfl Z.b_any PyProof.Rows.boot_any (Xb (Yz (sc:=(Xi Yx)) (N0:=["order", "shut"]) (tns:=["length"]) (caps:=[(0, "order"), (1, "shut")]) rfl (XZ rfl Z.b_range (Xb (XB Yv (Xt (Xk K rfl) rfl Z.b_len PySem.boot_len (Xb (pv 0) Xe)) Xh) Xe)) (Yt (by decide)) (λcl C s H ex E=>⟨Xu (i:=0) (show List.Nodup (["length", "order", "shut"] : List Str) by decide +kernel) rfl (Or.inl rfl), Y5, (LE (LN hu1 (YW (VF K rfl) rfl Z.b_tuple PyProof.Rows.boot_tuple (Xb (Jz (JD K rfl) (pv 1) Ue (UH (pv 0))) Xe)) (pv 2)))⟩)) Xe)))
    Xg), ?_⟩
  refine Y3 (S:=(SC.add (SC.add SC.nil K (rV Xa) v_0 a_0) K (rDT XR) v_1 a_1)) (σ:=[some v_0, some v_1]) 0 ?_ (SC.i (SC.i SC.t h_0) h_1) hm q rfl
  unfold XV
  exact (Xx (EvS.ev (EvB.sh (HY (Ev.toB (Y6 (λ_=>tg1 0) (XH (X4 (Yh (Xc (r:=(rV Xa)) 0 rfl (λ_ s=>s.l.r))) (Xf 1))) (λC6 a7 v8=>(EvS.ev (EvB.sh (BT (FU (Ev.toB (UK (EvS.ls (Xo (r:=(rV Xa)) 1 rfl (λ_ s=>s.l.l.r))) JH (JI (K:=K) (Xc (r:=Xa) 0 rfl (λ_ s=>s.r)))))) (Xc (r:=(rDT XR)) 2 rfl (λ_ s=>s.l.r))))))))))))
theorem K4 : FnScope ["images", "number"] ["images", "number"] (Xi Jg):=⟨rfl, rfl, rfl, by decide +kernel, rfl, by decide +kernel, by decide +kernel⟩
theorem GD (D : Def K mg "is_place" Jg ["images", "number"])  (Y : Ecs Xy K mg) (Z : Blt mg) : Fn P w K mg base 1 "is_place" ["images", "number"] (sp2 (rPL Xa) Xa (oF XR) Y2 K):=by
  refine Y0 D K4 (λvs H Q E h=>?_) (λf cdv A outer s H vs Q E hr h=>?_)
  . obtain ⟨v_0, v_1, a_0, a_1, b, rfl, _⟩:=h; rfl
  obtain ⟨v_0, v_1, a_0, a_1, b, rfl, h_0, h_1, hm, q⟩:=h
  have hu:=hu8 hr
  have hu1:=Yl hr
  refine ⟨_, (Xd (Xw (GN Lb Ui Xh (pv 1) (Xt (Xk K rfl) rfl Z.b_len PySem.boot_len (Xb (pv 0) Xe))))
    Xg), ?_⟩
  refine Y3 (S:=(SC.add (SC.add SC.nil K (rPL Xa) v_0 a_0) K Xa v_1 a_1)) (σ:=[some v_0, some v_1]) 0 ?_ (SC.i (SC.i SC.t h_0) h_1) hm q rfl
  unfold Y2
  exact (Xx (EvS.ev (EvB.sh (Ko (Xf 0) (Xc (r:=Xa) 1 rfl (λ_ s=>s.r)) (Qt (Xc (r:=(rPL Xa)) 0 rfl (λ_ s=>s.l.r)))))))
theorem Q3 : FnScope ["one", "other", "entry", "images", "a", "b"] ["one", "other", "entry"] (Xi Uc):=⟨rfl, rfl, rfl, by decide +kernel, rfl, by decide +kernel, by decide +kernel⟩
theorem DP (D : Def K mg "breaks" Uc ["one", "other", "entry"]) (g_is_place : Fn P w K mg base 1 "is_place" ["images", "number"] (sp2 (rPL Xa) Xa (oF XR) Y2 K)) (g_equation_broken : Fn P w K mg base 1 "equation_broken" ["one", "other", "images", "a", "b"] (sp5 (rV (rV Xa)) (rV (rV Xa)) (rPL Xa) Xa Xa (oF XR) Xq K)) (g_all_colours : Fn P w K mg base 1 "all_colours" ["numbers", "size"] (sp2 (rPL Xa) Xa (oF XR) Yw K)) (Y : Ecs Xy K mg) (Z : Blt mg) : Fn P w K mg base 2 "breaks" ["one", "other", "entry"] (sp3 (rV (rV Xa)) (rV (rV Xa)) (rP3 (rPL Xa) Xa Xa) (oF XR) ZZ K):=by
  refine Y0 D Q3 (λvs H Q E h=>?_) (λf cdv A outer s H vs Q E hr h=>?_)
  . obtain ⟨v_0, v_1, v_2, a_0, a_1, a_2, b, rfl, _⟩:=h; rfl
  obtain ⟨v_0, v_1, v_2, a_0, a_1, a_2, b, rfl, h_0, h_1, h_2, hm, q⟩:=h
  have hu:=hu8 hr
  have hu1:=Yl hr
  refine ⟨_, (Xd (XF (i:=3) Q3.nd rfl (Or.inl rfl) (XO (YT K rfl) (pv 2) Xh (λ_ _=>rfl)))
    (Xd (XF (i:=4) Q3.nd rfl (Or.inl rfl) (XO (YT K rfl) (pv 2) Xh (λ_ _=>rfl)))
    (Xd (XF (i:=5) Q3.nd rfl (Or.inl rfl) (XO (YT K rfl) (pv 2) Xh (λ_ _=>rfl)))
    (Xd (YD (PW.pt (HL (Xs FG (Xt Uw rfl Z.b_len PySem.boot_len (Xb (YW (KN K rfl rfl) rfl Z.b_set PySem.Pv.boot_set (Xb (pv 3) Xe)) Xe)) (Xt (Xk K rfl) rfl Z.b_len PySem.boot_len (Xb (pv 3) Xe)) (XC _)) (DE (DR (V8 (Yq g_all_colours hr (by decide) (Xb (pv 3) (Xb (Xt (Xk K rfl) rfl Z.b_len PySem.boot_len (Xb (pv 1) Xe)) Xe))))))))
      (Xd (Xw KU)
      Xg)
      Xg)
    (Xd (Xw (VS (Yq g_is_place hr (by decide) (Xb (pv 3) (Xb (pv 4) Xe))) (VS (Yq g_is_place hr (by decide) (Xb (pv 3) (Xb (pv 5) Xe))) (G6 (Yq g_equation_broken hr (by decide) (Xb (pv 0) (Xb (pv 1) (Xb (pv 3) (Xb (pv 4) (Xb (pv 5) Xe))))))))))
    Xg))))), ?_⟩
  refine Y3 (S:=(SC.add (SC.add (SC.add SC.nil K (rV (rV Xa)) v_0 a_0) K (rV (rV Xa)) v_1 a_1) K (rP3 (rPL Xa) Xa Xa) v_2 a_2)) (σ:=[some v_0, some v_1, some v_2, none, none, none]) 0 ?_ (SC.i (SC.i (SC.i SC.t h_0) h_1) h_2) hm q rfl
  unfold ZZ
  exact (X1 (K:=K) (r:=(rPL Xa)) 3 (EvB.sh (Cy (Xc (r:=(rP3 (rPL Xa) Xa Xa)) 2 rfl (λ_ s=>s.r)))) λa1 v2=>(X1 (K:=K) (r:=Xa) 4 (EvB.sh (Il (Xc (r:=(rP3 (rPL Xa) Xa Xa)) 2 rfl (λ_ s=>s.l.r)))) λa4 v5=>(X1 (K:=K) (r:=Xa) 5 (EvB.sh (HI (Xc (r:=(rP3 (rPL Xa) Xa Xa)) 2 rfl (λ_ s=>s.l.l.r)))) λa7 v8=>(Qd (Dz (Xl (K:=K) (VQ (GC (Xc (r:=(rPL Xa)) 3 rfl (λ_ s=>s.l.l.r))) (Qt (Xc (r:=(rPL Xa)) 3 rfl (λ_ s=>s.l.l.r))))) (Gj (KY (K:=K) (Ev.toB (Yg (Xc (r:=(rPL Xa)) 3 rfl (λ_ s=>s.l.l.r)) (Yh (Xc (r:=(rV (rV Xa))) 1 rfl (λ_ s=>s.l.l.l.l.r)))))))) (Xx (EvS.ev (EvB.sh (JS false)))) (Xx (EvS.ev (EvB.sh (Qr (Ev.toB (Yg (Xc (r:=(rPL Xa)) 3 rfl (λ_ s=>s.l.l.r)) (Xc (r:=Xa) 4 rfl (λ_ s=>s.l.r)))) (Qr (Ev.toB (Yg (Xc (r:=(rPL Xa)) 3 rfl (λ_ s=>s.l.l.r)) (Xc (r:=Xa) 5 rfl (λ_ s=>s.r)))) (Ev.toB (Jv (Xc (r:=(rV (rV Xa))) 0 rfl (λ_ s=>s.l.l.l.l.l.r)) (Xc (r:=(rV (rV Xa))) 1 rfl (λ_ s=>s.l.l.l.l.r)) (Xc (r:=(rPL Xa)) 3 rfl (λ_ s=>s.l.l.r)) (Xc (r:=Xa) 4 rfl (λ_ s=>s.l.r)) (Xc (r:=Xa) 5 rfl (λ_ s=>s.r)))))))))))))
theorem GY : FnScope ["one", "other", "paper", "shut"] ["one", "other", "paper"] (Xi JN):=⟨rfl, rfl, rfl, by decide +kernel, rfl, by decide +kernel, by decide +kernel⟩
theorem BW (D : Def K mg "shuts" JN ["one", "other", "paper"]) (g_refuse_big : FnX P w K mg base 2 "refuse_big" ["one", "other"] (KP mg (rV (rV Xa)) (rV (rV Xa)) oU XT K)) (g_begins_with_one : Fn P w K mg base 1 "begins_with_one" ["order", "shut"] (sp2 (rV Xa) (rDT XR) (oF XR) XV K)) (g_breaks : Fn P w K mg base 2 "breaks" ["one", "other", "entry"] (sp3 (rV (rV Xa)) (rV (rV Xa)) (rP3 (rPL Xa) Xa Xa) (oF XR) ZZ K)) (g_each_once : Fn P w K mg base 2 "each_once" ["count"] (sp1 Xa (oL (oL (oF Xa))) Ys K)) (Y : Ecs Xy K mg) (Z : Blt mg) : FnX P w K mg base 3 "shuts" ["one", "other", "paper"] (MK mg (rV (rV Xa)) (rV (rV Xa)) (rV (rP3 (rPL Xa) Xa Xa)) (oF XR) Qn K):=by
  refine Jl D GY (λvs H Q E h=>?_) (λf cdv A outer s H vs Q E hr h=>?_)
  . obtain ⟨v_0, v_1, v_2, a_0, a_1, a_2, rfl, _⟩:=h; rfl
  obtain ⟨v_0, v_1, v_2, a_0, a_1, a_2, rfl, h_0, h_1, h_2, hz⟩:=h
  have hu:=hu8 hr
  have hu1:=Yl hr
  refine ⟨_, (Xd (Ya (Zl g_refuse_big hr (by decide) Vm (Xb (pv 0) (Xb (pv 1) Xe))))
    (Xd (PS.nox (YD (Xs FG (Xt (Xk K rfl) rfl Z.b_len PySem.boot_len (Xb (pv 0) Xe)) (Xt (Xk K rfl) rfl Z.b_len PySem.boot_len (Xb (pv 1) Xe)) (XC _))
      (Xd (Xw KU)
      Xg)
      Xg))
    (Xd (PS.nox (XF (i:=3) GY.nd rfl (Or.inr rfl) (YW (FE K rfl rfl (BH (by decide) hu)) rfl Z.b_dict PyProof.Rows.boot_dict (Xb (Yz (sc:=(Xi JN)) (N0:=["one", "other", "paper", "shut"]) (tns:=["entry"]) (caps:=[(0, "one"), (1, "other")]) rfl (Yb (K:=K) rfl (pv 2)) (Yt (by decide)) (λcl C s H ex E=>⟨Xu (i:=0) (show List.Nodup (["entry", "one", "other"] : List Str) by decide +kernel) rfl (Or.inl rfl), (Up (V8 (Yq g_breaks hr (by decide) (Xb (pv 1) (Xb (pv 2) (Xb (pv 0) Xe)))))), (YL (Xb (XO (YT K rfl) (pv 0) Xh (λ_ _=>rfl)) (Xb KU Xe)))⟩)) Xe))))
    (Xd (PS.nox (Xw (Xt (JZ rfl) rfl Z.b_all PyProof.Rows.boot_all (Xb (Yz (sc:=(Xi JN)) (N0:=["one", "other", "paper", "shut"]) (tns:=["order"]) (caps:=[(3, "shut")]) rfl (Yb (K:=K) rfl (Yq g_each_once hr (by decide) (Xb (Xt (Xk K rfl) rfl Z.b_len PySem.boot_len (Xb (pv 0) Xe)) Xe))) (Yt (by decide)) (λcl C s H ex E=>⟨Xu (i:=0) (show List.Nodup (["order", "shut"] : List Str) by decide +kernel) rfl (Or.inl rfl), Y5, (Yq g_begins_with_one hr (by decide) (Xb (pv 0) (Xb (pv 1) Xe)))⟩)) Xe))))
    Xg)))), ?_⟩
  refine V1 (S:=(SC.add (SC.add (SC.add SC.nil K (rV (rV Xa)) v_0 a_0) K (rV (rV Xa)) v_1 a_1) K (rV (rP3 (rPL Xa) Xa Xa)) v_2 a_2)) (σ:=[some v_0, some v_1, some v_2, none]) 0 ?_ (SC.i (SC.i (SC.i SC.t h_0) h_1) h_2) hz rfl
  unfold Qn
  exact (ZJ (Ev.toB (Zv (Xc (r:=(rV (rV Xa))) 0 rfl (λ_ s=>s.l.l.r)) (Xc (r:=(rV (rV Xa))) 1 rfl (λ_ s=>s.l.r)))) (Qd (Xl (K:=K) (VQ (Yh (Xc (r:=(rV (rV Xa))) 0 rfl (λ_ s=>s.l.l.r))) (Yh (Xc (r:=(rV (rV Xa))) 1 rfl (λ_ s=>s.l.r))))) (Xx (EvS.ev (EvB.sh (JS true)))) (X1 (K:=K) (r:=(rDT XR)) 3 (Ev.sh (BE (Ev.ls (UI (λ_=>tg1 0) (X8 (Xo (r:=(rV (rP3 (rPL Xa) Xa Xa))) 2 rfl (λ_ s=>s.r))) (λC12 a13 v14=>(KY (K:=K) (Ev.toB (Z3 (Xc (r:=(rV (rV Xa))) 1 rfl (λ_ s=>s.l.l.l.r)) (Xc (r:=(rV (rV Xa))) 2 rfl (λ_ s=>s.l.l.r)) (Xc (r:=(rP3 (rPL Xa) Xa Xa)) 0 rfl (λ_ s=>s.r)))))) (λC12 a13 v14=>(EvS.ev (JB (EvB.sh (Cy (Xc (r:=(rP3 (rPL Xa) Xa Xa)) 0 rfl (λ_ s=>s.r)))) (EvB.sh (JS true))))))))) λa9 v10=>(Xx (EvS.ev (EvB.sh (Gx (Ev.toB (Y6 (λ_=>tg1 0) (X8 (Ev.sh (ZE (Yh (Xc (r:=(rV (rV Xa))) 0 rfl (λ_ s=>s.l.l.l.r)))))) (λC27 a28 v29=>(Yg (Xc (r:=(rV Xa)) 0 rfl (λ_ s=>s.r)) (Xc (r:=(rDT XR)) 1 rfl (λ_ s=>s.l.r)))))))))))))
theorem UQ : FnScope ["_law_script", "_law_place", "_law_seed", "_law_cell_here"] ["_law_script", "_law_place"] (Xi CQ):=⟨rfl, rfl, rfl, by decide +kernel, rfl, by decide +kernel, by decide +kernel⟩
theorem Ig (D : Def K mg "_law_cell" CQ ["_law_script", "_law_place"])  (Y : Ecs Xy K mg) (Z : Blt mg) : Fn P w K mg base 1 "_law_cell" ["_law_script", "_law_place"] (sp2 (rL Xa) Xa (oF Xa) JO K):=by
  refine Y0 D UQ (λvs H Q E h=>?_) (λf cdv A outer s H vs Q E hr h=>?_)
  . obtain ⟨v_0, v_1, a_0, a_1, b, rfl, _⟩:=h; rfl
  obtain ⟨v_0, v_1, a_0, a_1, b, rfl, h_0, h_1, hm, q⟩:=h
  have hu:=hu8 hr
  have hu1:=Yl hr
  refine ⟨_, (Xd (YD (Xs Ui (pv 1) (Xt (Xk K rfl) rfl Z.b_len PySem.boot_len (Xb (pv 0) Xe)) (XC _))
      (Xd (Xw (XO (Xm K rfl) (pv 0) (pv 1) (λ_ _=>rfl)))
      Xg)
      Xg)
    (Xd (XF (i:=2) UQ.nd rfl (Or.inl rfl) Xh)
    (Xd (YF PassesOwn.never rfl (Yb (K:=K) rfl (Jz (JD K rfl) (pv 0) Ue (UH Xh))) (Xu (i:=3) UQ.nd rfl (Or.inl rfl))
      (Xd (XF (i:=2) UQ.nd rfl (Or.inl rfl) (XB YJ (XB Yv (XB Yv (XB Qo (pv 2) Xh) (XB YJ (pv 3) Xh)) Xh) Xh))
      Xg))
    (Xd (Xw (XB YJ (XB Yv (pv 2) (XB Qo Xh (pv 1))) Xh))
    Xg)))), ?_⟩
  refine Y3 (S:=(SC.add (SC.add SC.nil K (rL Xa) v_0 a_0) K Xa v_1 a_1)) (σ:=[some v_0, some v_1, none, none]) 0 ?_ (SC.i (SC.i SC.t h_0) h_1) hm q rfl
  unfold JO
  exact (Qd (Xl (K:=K) (JL (Xc (r:=Xa) 1 rfl (λ_ s=>s.r)) (Ei (Xc (r:=(rL Xa)) 0 rfl (λ_ s=>s.l.r))))) (Xx (EvS.ev (EvB.sh (Hb (Xc (r:=(rL Xa)) 0 rfl (λ_ s=>s.l.r)) (Xc (r:=Xa) 1 rfl (λ_ s=>s.r)))))) (X1 (K:=K) (r:=Xa) 2 (EvB.sh (Xf 5)) λa7 v8=>(Qg (K:=K) (J:=({ oo:=λx13=>[], ss:=λx13=>[some v_0, some v_1, some x13.2, x13.1], sc:=λg14 x13=>(SC.add (SC.add (SC.add SC.nil K (rL Xa) v_0 a_0) K Xa v_1 a_1) K Xa x13.2 g14) } : Jn (Int) (Option V × V))) (λ_=>tg1 3) ((none), v8) (a7) (X8 (Ev.sh (Cv (Xc (r:=(rL Xa)) 0 rfl (λ_ s=>s.l.l.r)) JH (JI (K:=K) (Xf 63))))) rfl rfl (λ_ s=>(SC.i (SC.i (SC.i SC.t s.l.l.r) s.l.r) s.r)) (λg15 x16 a17 v18=>(X1 (K:=K) (r:=Xa) 2 (EvB.sh (Yc (X4 (X4 (Zx (Xc (r:=Xa) 2 rfl (λ_ s=>s.l.r)) (Xf 48271)) (Yc (Xc (r:=Xa) 3 rfl (λ_ s=>s.r)) (Xf 1000003))) (Xf 1)) (Xf 2147483647))) λa19 v20=>(XA (J:=_) ((some v18), v20) (a19) rfl rfl (λ_ s=>(SC.i (SC.i (SC.i SC.t s.l.l.l.l.r) s.l.l.l.r) s.r))))) λg31 x32=>(Xx (EvS.ev (EvB.sh (Yc (X4 (Xc (r:=Xa) 2 rfl (λ_ s=>s.r)) (Zx (Xf 7919) (Xc (r:=Xa) 1 rfl (λ_ s=>s.l.r)))) (Xf 1000003))))))))
theorem DK : FnScope ["_law_cell_here", "_law_k", "_law_one", "_law_two"] ["_law_cell_here", "_law_k"] (Xi HF):=⟨rfl, rfl, rfl, by decide +kernel, rfl, by decide +kernel, by decide +kernel⟩
theorem Mu (D : Def K mg "_law_mix" HF ["_law_cell_here", "_law_k"])  (Y : Ecs Xy K mg) (Z : Blt mg) : Fn P w K mg base 1 "_law_mix" ["_law_cell_here", "_law_k"] (sp2 Xa Xa (oF Xa) Gp K):=by
  refine Y0 D DK (λvs H Q E h=>?_) (λf cdv A outer s H vs Q E hr h=>?_)
  . obtain ⟨v_0, v_1, a_0, a_1, b, rfl, _⟩:=h; rfl
  obtain ⟨v_0, v_1, a_0, a_1, b, rfl, h_0, h_1, hm, q⟩:=h
  have hu:=hu8 hr
  have hu1:=Yl hr
  refine ⟨_, (Xd (XF (i:=2) DK.nd rfl (Or.inl rfl) (XB YJ (XB CY (XB Yv (XB Yv (XB YJ (pv 0) Xh) (XB Qo Xh (pv 1))) Xh) Xh) Xh))
    (Xd (XF (i:=3) DK.nd rfl (Or.inl rfl) (XB YJ (XB Yv (XB Yv (XB Qo (pv 2) Xh) (XB Qo (XB Qo Xh (pv 1)) (pv 1))) Xh) Xh))
    (Xd (Xw (XB Ur (pv 3) Xh))
    Xg))), ?_⟩
  refine Y3 (S:=(SC.add (SC.add SC.nil K Xa v_0 a_0) K Xa v_1 a_1)) (σ:=[some v_0, some v_1, none, none]) 0 ?_ (SC.i (SC.i SC.t h_0) h_1) hm q rfl
  unfold Gp
  exact (X1 (K:=K) (r:=Xa) 2 (EvB.sh (Yc (KW (X4 (X4 (Yc (Xc (r:=Xa) 0 rfl (λ_ s=>s.l.r)) (Xf 2147483629)) (Zx (Xf 1013) (Xc (r:=Xa) 1 rfl (λ_ s=>s.r)))) (Xf 7919)) (Xf 3)) (Xf 2147483647))) λa1 v2=>(X1 (K:=K) (r:=Xa) 3 (EvB.sh (Yc (X4 (X4 (Zx (Xc (r:=Xa) 2 rfl (λ_ s=>s.r)) (Xf 40699)) (Zx (Zx (Xf 3793) (Xc (r:=Xa) 1 rfl (λ_ s=>s.l.r))) (Xc (r:=Xa) 1 rfl (λ_ s=>s.l.r)))) (Xf 11)) (Xf 2147483399))) λa15 v16=>(Xx (EvS.ev (EvB.sh (Gw (Xc (r:=Xa) 3 rfl (λ_ s=>s.r)) (Xf 101)))))))
theorem Vu : FnScope ["_law_script", "_law_place", "_law_sizes", "_law_cell_here", "_law_left", "_law_some", "_law_k", "_law_other"] ["_law_script", "_law_place", "_law_sizes"] (Xi He):=⟨rfl, rfl, rfl, by decide +kernel, rfl, by decide +kernel, by decide +kernel⟩
theorem LA (D : Def K mg "_law_row" He ["_law_script", "_law_place", "_law_sizes"]) (g_cell : Fn P w K mg base 1 "_law_cell" ["_law_script", "_law_place"] (sp2 (rL Xa) Xa (oF Xa) JO K)) (g_mix : Fn P w K mg base 1 "_law_mix" ["_law_cell_here", "_law_k"] (sp2 Xa Xa (oF Xa) Gp K)) (Y : Ecs Xy K mg) (Z : Blt mg) : Fn P w K mg base 2 "_law_row" ["_law_script", "_law_place", "_law_sizes"] (sp3 (rL Xa) Xa (rV Xa) (oL (oF Xa)) Kg K):=by
  refine Y0 D Vu (λvs H Q E h=>?_) (λf cdv A outer s H vs Q E hr h=>?_)
  . obtain ⟨v_0, v_1, v_2, a_0, a_1, a_2, b, rfl, _⟩:=h; rfl
  obtain ⟨v_0, v_1, v_2, a_0, a_1, a_2, b, rfl, h_0, h_1, h_2, hm, q⟩:=h
  have hu:=hu8 hr
  have hu1:=Yl hr
  refine ⟨_, (Xd (XF (i:=3) Vu.nd rfl (Or.inl rfl) (Yq g_cell hr (by decide) (Xb (pv 0) (Xb (pv 1) Xe))))
    (Xd (XF (i:=4) Vu.nd rfl (Or.inl rfl) (pv 3))
    (Xd (XF (i:=5) Vu.nd rfl (Or.inl rfl) (X3 Xe))
    (Xd (YF PassesOwn.never rfl (XZ rfl Z.b_range (Xb (Xt (Xk K rfl) rfl Z.b_len PySem.boot_len (Xb (pv 2) Xe)) Xe)) (Xu (i:=6) Vu.nd rfl (Or.inl rfl))
      (Xd (YD (Xs Ui (pv 3) (XB CY Xh Xh) (XC _))
        (Xd (Ya (Jq PySem.F.plainAttrs_list PySem.F.slot_list_append PySem.F.type_list_append Zb (pv 5) (Xb (XB YJ (Yq g_mix hr (by decide) (Xb (pv 3) (Xb (pv 6) Xe))) (XO (Xm K rfl) (pv 2) (pv 6) (λ_ _=>rfl))) Xe)))
        Xg)
        (Xd (YD (Xs Di (pv 4) Xh (XC _))
          (Xd (Ya (Jq PySem.F.plainAttrs_list PySem.F.slot_list_append PySem.F.type_list_append Zb (pv 5) (Xb (XB YJ (pv 4) (XO (Xm K rfl) (pv 2) (pv 6) (λ_ _=>rfl))) Xe)))
          (Xd (XF (i:=4) Vu.nd rfl (Or.inl rfl) (XB Ur (pv 4) (XO (Xm K rfl) (pv 2) (pv 6) (λ_ _=>rfl))))
          Xg))
          (Xd (XF (i:=7) Vu.nd rfl (Or.inl rfl) (Yq g_cell hr (by decide) (Xb (pv 0) (Xb (XB YJ (XB Yv (XB Yv (pv 1) Xh) (pv 6)) Xh) Xe))))
          (Xd (Ya (Jq PySem.F.plainAttrs_list PySem.F.slot_list_append PySem.F.type_list_append Zb (pv 5) (Xb (XB YJ (Yq g_mix hr (by decide) (Xb (pv 7) (Xb (pv 6) Xe))) (XO (Xm K rfl) (pv 2) (pv 6) (λ_ _=>rfl))) Xe)))
          Xg)))
        Xg))
      Xg))
    (Xd (Xw (pv 5))
    Xg))))), ?_⟩
  refine Y3 (S:=(SC.add (SC.add (SC.add SC.nil K (rL Xa) v_0 a_0) K Xa v_1 a_1) K (rV Xa) v_2 a_2)) (σ:=[some v_0, some v_1, some v_2, none, none, none, none, none]) 1 ?_ (SC.i (SC.i (SC.i SC.t h_0) h_1) h_2) hm q rfl
  unfold Kg
  exact (X1 (K:=K) (r:=Xa) 3 (EvB.sh (Ev.toB (Yg (Xc (r:=(rL Xa)) 0 rfl (λ_ s=>s.l.l.r)) (Xc (r:=Xa) 1 rfl (λ_ s=>s.l.r))))) λa1 v2=>(X1 (K:=K) (r:=Xa) 4 (Xo (r:=Xa) 3 rfl (λ_ s=>s.r)) λa6 v7=>(Yu (K:=K) (o:=(oL (oF Xa))) 5 0 (JU (o:=(oF Xa))) (Nat.le_of_ble_eq_true rfl) λa8 v9 C10=>(Qg (K:=K) (J:=({ oo:=λx13=>[x13.2.2.2.2], ss:=λx13=>[some v_0, some v_1, some v_2, some v2, some x13.2.2.1, some x13.2.1, x13.1, x13.2.2.2.1], sc:=λg14 x13=>(SC.add (SC.addO (SC.add (SC.add (SC.add (SC.add SC.nil K (rL Xa) v_0 a_0) K Xa v_1 a_1) K (rV Xa) v_2 a_2) K Xa v2 a1) K (oL (oF Xa)) x13.2.1 g14.1 x13.2.2.2.2) K Xa x13.2.2.1 g14.2) } : Jn ((List Int) × Int) (Option V × V × V × Option V × List Xz))) (λ_=>tg1 6) ((none), v9, v7, (none), C10) (a8, a6) (XH (Yh (Xc (r:=(rV Xa)) 2 rfl (λ_ s=>s.l.l.l.r)))) rfl rfl (λ_ s=>(SC.i (SC.i (SC.i (SC.i (SC.i (SC.i SC.t s.l.l.l.l.l.r) s.l.l.l.l.r) s.l.l.l.r) s.l.l.r) s.r) s.l.r)) (λg15 x16 a17 v18=>(Zz (J:=({ oo:=λx24=>[x24.2.2.2], ss:=λx24=>[some v_0, some v_1, some v_2, some v2, some x24.2.1, some x24.1, some v18, x24.2.2.1], sc:=λg25 x24=>(SC.add (SC.addO (SC.add (SC.add (SC.add (SC.add (SC.add SC.nil K (rL Xa) v_0 a_0) K Xa v_1 a_1) K (rV Xa) v_2 a_2) K Xa v2 a1) K Xa v18 a17) K (oL (oF Xa)) x24.1 g25.1 x24.2.2.2) K Xa x24.2.1 g25.2) } : Jn ((List Int) × Int) (V × V × Option V × List Xz))) (ZU (Fd:=FNd ({ oo:=λx24=>[x24.2.2.2], ss:=λx24=>[some v_0, some v_1, some v_2, some v2, some x24.2.1, some x24.1, some v18, x24.2.2.1], sc:=λg25 x24=>(SC.add (SC.addO (SC.add (SC.add (SC.add (SC.add (SC.add SC.nil K (rL Xa) v_0 a_0) K Xa v_1 a_1) K (rV Xa) v_2 a_2) K Xa v2 a1) K Xa v18 a17) K (oL (oF Xa)) x24.1 g25.1 x24.2.2.2) K Xa x24.2.1 g25.2) } : Jn ((List Int) × Int) (V × V × Option V × List Xz))) (Xl (K:=K) (JL (Xc (r:=Xa) 3 rfl (λ_ s=>s.l.l.l.r)) (KW (Xf 10) (Xf 18)))) (Vq (K:=K) (o:=(oF Xa)) (f:=λa35=>(Rs.ok (a35, g15.2))) 5 0 rfl rfl rfl (λ_ s=>s.l.l.r) (EvS.ev (EvB.sh (Yc (Ev.toB (Yg (Xc (r:=Xa) 3 rfl (λ_ s=>s.l.l.l.r)) (Xc (r:=Xa) 6 rfl (λ_ s=>s.r)))) (XJ (Xc (r:=(rV Xa)) 2 rfl (λ_ s=>s.l.l.l.l.r)) (Xc (r:=Xa) 6 rfl (λ_ s=>s.r)))))) λa33 C34=>(XA (J:=_) (x16.2.1, x16.2.2.1, (x16.2.2.2.1), C34) ((g15.1 ++ [a33]), g15.2) rfl rfl (λ_ s=>(SC.i (SC.i (SC.i (SC.i (SC.i (SC.i (SC.i SC.t s.l.l.l.l.l.l.l.r) s.l.l.l.l.l.l.r) s.l.l.l.l.l.r) s.l.l.l.l.r) s.l.r) s.r) s.l.l.r)))) (Zz (J:=({ oo:=λx39=>[x39.2.2.2], ss:=λx39=>[some v_0, some v_1, some v_2, some v2, some x39.1, some x39.2.2.1, some v18, x39.2.1], sc:=λg40 x39=>(SC.addO (SC.add (SC.add (SC.add (SC.add (SC.add (SC.add SC.nil K (rL Xa) v_0 a_0) K Xa v_1 a_1) K (rV Xa) v_2 a_2) K Xa v2 a1) K Xa v18 a17) K Xa x39.1 g40.1) K (oL (oF Xa)) x39.2.2.1 g40.2 x39.2.2.2) } : Jn (Int × (List Int)) (V × Option V × V × List Xz))) (ZU (Fd:=FNd ({ oo:=λx39=>[x39.2.2.2], ss:=λx39=>[some v_0, some v_1, some v_2, some v2, some x39.1, some x39.2.2.1, some v18, x39.2.1], sc:=λg40 x39=>(SC.addO (SC.add (SC.add (SC.add (SC.add (SC.add (SC.add SC.nil K (rL Xa) v_0 a_0) K Xa v_1 a_1) K (rV Xa) v_2 a_2) K Xa v2 a1) K Xa v18 a17) K Xa x39.1 g40.1) K (oL (oF Xa)) x39.2.2.1 g40.2 x39.2.2.2) } : Jn (Int × (List Int)) (V × Option V × V × List Xz))) (Xl (K:=K) (UZ (Xc (r:=Xa) 4 rfl (λ_ s=>s.l.r)) (Xf 0))) (Vq (K:=K) (o:=(oF Xa)) (f:=λa47=>(Rs.bind (Rs.bind (Rs.ok g15.2) λx52=>(Rs.bind (Rs.bind (Rs.ok a_2) λx50=>(Rs.bind (Rs.ok a17) λx51=>(atR x50 x51))) λx53=>(IM x52 x53))) λa48=>(Rs.ok (a48, a47)))) 5 0 rfl rfl rfl (λ_ s=>s.l.l.r) (EvS.ev (EvB.sh (Yc (Xc (r:=Xa) 4 rfl (λ_ s=>s.l.r)) (XJ (Xc (r:=(rV Xa)) 2 rfl (λ_ s=>s.l.l.l.l.r)) (Xc (r:=Xa) 6 rfl (λ_ s=>s.r)))))) λa45 C46=>(X1 (K:=K) (r:=Xa) 4 (EvB.sh (Gw (Xc (r:=Xa) 4 rfl (λ_ s=>s.l.l.r)) (XJ (Xc (r:=(rV Xa)) 2 rfl (λ_ s=>s.l.l.l.l.l.r)) (Xc (r:=Xa) 6 rfl (λ_ s=>s.l.r))))) λa48 v49=>(XA (J:=_) (v49, (x16.2.2.2.1), x16.2.1, C46) (a48, (g15.1 ++ [a45])) rfl rfl (λ_ s=>(SC.i (SC.i (SC.i (SC.i (SC.i (SC.i (SC.i SC.t s.l.l.l.l.l.l.l.l.r) s.l.l.l.l.l.l.l.r) s.l.l.l.l.l.l.r) s.l.l.l.l.l.r) s.l.l.r) s.r) s.l.r))))) (X1 (K:=K) (r:=Xa) 7 (EvB.sh (Ev.toB (Yg (Xc (r:=(rL Xa)) 0 rfl (λ_ s=>s.l.l.l.l.l.l.r)) (Yc (X4 (X4 (Xc (r:=Xa) 1 rfl (λ_ s=>s.l.l.l.l.l.r)) (Xf 1)) (Xc (r:=Xa) 6 rfl (λ_ s=>s.r))) (Xf 63))))) λa54 v55=>(Vq (K:=K) (o:=(oF Xa)) (f:=λa74=>(Rs.ok (g15.2, a74))) 5 0 rfl rfl rfl (λ_ s=>s.l.l.l.r) (EvS.ev (EvB.sh (Yc (Ev.toB (Yg (Xc (r:=Xa) 7 rfl (λ_ s=>s.r)) (Xc (r:=Xa) 6 rfl (λ_ s=>s.l.r)))) (XJ (Xc (r:=(rV Xa)) 2 rfl (λ_ s=>s.l.l.l.l.l.r)) (Xc (r:=Xa) 6 rfl (λ_ s=>s.l.r)))))) λa72 C73=>(XA (J:=_) (x16.2.2.1, (some v55), x16.2.1, C73) (g15.2, (g15.1 ++ [a72])) rfl rfl (λ_ s=>(SC.i (SC.i (SC.i (SC.i (SC.i (SC.i (SC.i SC.t s.l.l.l.l.l.l.l.l.r) s.l.l.l.l.l.l.l.r) s.l.l.l.l.l.l.r) s.l.l.l.l.l.r) s.l.l.r) s.l.l.l.r) s.r)))))) λg76 x75=>(XA (J:=_) (x75.2.2.1, x75.1, (x75.2.1), x75.2.2.2) (g76.2, g76.1) rfl rfl (λ_ s=>(SC.i (SC.i (SC.i (SC.i (SC.i (SC.i (SC.i SC.t s.l.l.l.l.l.l.r) s.l.l.l.l.l.r) s.l.l.l.l.r) s.l.l.l.r) s.l.l.r) s.r) s.l.r))))) λg78 x77=>(XA (J:=_) ((some v18), x77.1, x77.2.1, (x77.2.2.1), x77.2.2.2) (g78.1, g78.2) rfl rfl (λ_ s=>(SC.i (SC.i (SC.i (SC.i (SC.i (SC.i SC.t s.l.l.l.l.l.l.r) s.l.l.l.l.l.r) s.l.l.l.l.r) s.l.l.l.r) s.l.r) s.r))))) λg79 x80=>(Xx (YR (o:=(oL (oF Xa))) 5 0 rfl rfl (λ_ s=>s.l.r)))))))
theorem Ua : FnScope ["_law_way", "_law_size", "_law_factor", "_law_a", "_law_b", "_law_half"] ["_law_way", "_law_size", "_law_factor", "_law_a", "_law_b"] (Xi VD):=⟨rfl, rfl, rfl, by decide +kernel, rfl, by decide +kernel, by decide +kernel⟩
theorem Fq (D : Def K mg "_law_cell_of" VD ["_law_way", "_law_size", "_law_factor", "_law_a", "_law_b"])  (Y : Ecs Xy K mg) (Z : Blt mg) : Fn P w K mg base 1 "_law_cell_of" ["_law_way", "_law_size", "_law_factor", "_law_a", "_law_b"] (sp5 Xa Xa Xa Xa Xa (oF Xa) Zr K):=by
  refine Y0 D Ua (λvs H Q E h=>?_) (λf cdv A outer s H vs Q E hr h=>?_)
  . obtain ⟨v_0, v_1, v_2, v_3, v_4, a_0, a_1, a_2, a_3, a_4, b, rfl, _⟩:=h; rfl
  obtain ⟨v_0, v_1, v_2, v_3, v_4, a_0, a_1, a_2, a_3, a_4, b, rfl, h_0, h_1, h_2, h_3, h_4, hm, q⟩:=h
  have hu:=hu8 hr
  have hu1:=Yl hr
  refine ⟨_, (Xd (XF (i:=5) Ua.nd rfl (Or.inl rfl) (XB Ur (pv 1) Xh))
    (Xd (YD (Xs Z5 (pv 0) Xh (XC _))
      (Xd (Xw (XB YJ (XB Qc (XB Qo Xh (pv 4)) (pv 3)) (pv 1)))
      Xg)
      Xg)
    (Xd (YD (Xs Z5 (pv 0) Xh (XC _))
      (Xd (Xw (XB YJ (XB Yv (XB Qo (pv 2) (pv 3)) (XB Qo (XB Qc Xh (pv 2)) (pv 4))) (pv 1)))
      Xg)
      Xg)
    (Xd (YD (PW.pt (QE (Xs Z5 (pv 0) Xh (XC _)) (QE (Xs Di (pv 1) Xh (XC _)) (QE (Xs Ui (pv 3) Xh (XC _)) (JW (Xs Z5 (pv 4) (XB Qc (pv 1) Xh) (XC _)))))))
      (Xd (Xw (XB Qc Xh (pv 3)))
      Xg)
      Xg)
    (Xd (YD (PW.pt (QE (Xs Z5 (pv 0) Xh (XC _)) (QE (Xs Ui (pv 3) (XB Qc (pv 1) Xh) (XC _)) (JW (Xs Z5 (pv 4) (XB Qc (pv 1) Xh) (XC _))))))
      (Xd (Xw (XB YJ (XB Yv (pv 3) Xh) (XB Qc (pv 1) Xh)))
      Xg)
      Xg)
    (Xd (YD (PW.pt (QE (Xs Z5 (pv 0) Xh (XC _)) (QE (Xs Ui (pv 3) (pv 5) (XC _)) (JW (Xs Ui (pv 4) (pv 5) (XC _))))))
      (Xd (Xw (XB YJ (XB Qc (XB Qo Xh (pv 4)) (pv 3)) (pv 5)))
      Xg)
      Xg)
    (Xd (YD (PW.pt (QE (Xs Z5 (pv 0) Xh (XC _)) (QE (Xs Lg (pv 3) (pv 5) (XC _)) (JW (Xs Lg (pv 4) (pv 5) (XC _))))))
      (Xd (Xw (XB Yv (pv 5) (XB YJ (XB Qc (XB Qc (XB Qo Xh (pv 4)) (pv 3)) (pv 5)) (XB Qc (pv 1) (pv 5)))))
      Xg)
      Xg)
    (Xd (Xw (pv 3))
    Xg)))))))), ?_⟩
  refine Y3 (S:=(SC.add (SC.add (SC.add (SC.add (SC.add SC.nil K Xa v_0 a_0) K Xa v_1 a_1) K Xa v_2 a_2) K Xa v_3 a_3) K Xa v_4 a_4)) (σ:=[some v_0, some v_1, some v_2, some v_3, some v_4, none]) 0 ?_ (SC.i (SC.i (SC.i (SC.i (SC.i SC.t h_0) h_1) h_2) h_3) h_4) hm q rfl
  unfold Zr
  exact (X1 (K:=K) (r:=Xa) 5 (EvB.sh (Gw (Xc (r:=Xa) 1 rfl (λ_ s=>s.l.l.l.r)) (Xf 2))) λa1 v2=>(Qd (Xl (K:=K) (YZ (Xc (r:=Xa) 0 rfl (λ_ s=>s.l.l.l.l.l.r)) (Xf 1))) (Xx (EvS.ev (EvB.sh (Yc (Ze (Zx (Xf 2) (Xc (r:=Xa) 4 rfl (λ_ s=>s.l.r))) (Xc (r:=Xa) 3 rfl (λ_ s=>s.l.l.r))) (Xc (r:=Xa) 1 rfl (λ_ s=>s.l.l.l.l.r)))))) (Qd (Xl (K:=K) (YZ (Xc (r:=Xa) 0 rfl (λ_ s=>s.l.l.l.l.l.r)) (Xf 2))) (Xx (EvS.ev (EvB.sh (Yc (X4 (Zx (Xc (r:=Xa) 2 rfl (λ_ s=>s.l.l.l.r)) (Xc (r:=Xa) 3 rfl (λ_ s=>s.l.l.r))) (Zx (Ze (Xf 1) (Xc (r:=Xa) 2 rfl (λ_ s=>s.l.l.l.r))) (Xc (r:=Xa) 4 rfl (λ_ s=>s.l.r)))) (Xc (r:=Xa) 1 rfl (λ_ s=>s.l.l.l.l.r)))))) (Qd (ZM (Xl (K:=K) (YZ (Xc (r:=Xa) 0 rfl (λ_ s=>s.l.l.l.l.l.r)) (Xf 3))) (ZM (Xl (K:=K) (UZ (Xc (r:=Xa) 1 rfl (λ_ s=>s.l.l.l.l.r)) (Xf 2))) (ZM (Xl (K:=K) (JL (Xc (r:=Xa) 3 rfl (λ_ s=>s.l.l.r)) (Xf 2))) (Xl (K:=K) (YZ (Xc (r:=Xa) 4 rfl (λ_ s=>s.l.r)) (Ze (Xc (r:=Xa) 1 rfl (λ_ s=>s.l.l.l.l.r)) (Xf 1))))))) (Xx (EvS.ev (EvB.sh (Ze (Xf 1) (Xc (r:=Xa) 3 rfl (λ_ s=>s.l.l.r)))))) (Qd (ZM (Xl (K:=K) (YZ (Xc (r:=Xa) 0 rfl (λ_ s=>s.l.l.l.l.l.r)) (Xf 6))) (ZM (Xl (K:=K) (JL (Xc (r:=Xa) 3 rfl (λ_ s=>s.l.l.r)) (Ze (Xc (r:=Xa) 1 rfl (λ_ s=>s.l.l.l.l.r)) (Xf 1)))) (Xl (K:=K) (YZ (Xc (r:=Xa) 4 rfl (λ_ s=>s.l.r)) (Ze (Xc (r:=Xa) 1 rfl (λ_ s=>s.l.l.l.l.r)) (Xf 1)))))) (Xx (EvS.ev (EvB.sh (Yc (X4 (Xc (r:=Xa) 3 rfl (λ_ s=>s.l.l.r)) (Xf 1)) (Ze (Xc (r:=Xa) 1 rfl (λ_ s=>s.l.l.l.l.r)) (Xf 1)))))) (Qd (ZM (Xl (K:=K) (YZ (Xc (r:=Xa) 0 rfl (λ_ s=>s.l.l.l.l.l.r)) (Xf 4))) (ZM (Xl (K:=K) (JL (Xc (r:=Xa) 3 rfl (λ_ s=>s.l.l.r)) (Xc (r:=Xa) 5 rfl (λ_ s=>s.r)))) (Xl (K:=K) (JL (Xc (r:=Xa) 4 rfl (λ_ s=>s.l.r)) (Xc (r:=Xa) 5 rfl (λ_ s=>s.r)))))) (Xx (EvS.ev (EvB.sh (Yc (Ze (Zx (Xf 2) (Xc (r:=Xa) 4 rfl (λ_ s=>s.l.r))) (Xc (r:=Xa) 3 rfl (λ_ s=>s.l.l.r))) (Xc (r:=Xa) 5 rfl (λ_ s=>s.r)))))) (Qd (ZM (Xl (K:=K) (YZ (Xc (r:=Xa) 0 rfl (λ_ s=>s.l.l.l.l.l.r)) (Xf 4))) (ZM (Xl (K:=K) (ED (Xc (r:=Xa) 3 rfl (λ_ s=>s.l.l.r)) (Xc (r:=Xa) 5 rfl (λ_ s=>s.r)))) (Xl (K:=K) (ED (Xc (r:=Xa) 4 rfl (λ_ s=>s.l.r)) (Xc (r:=Xa) 5 rfl (λ_ s=>s.r)))))) (Xx (EvS.ev (EvB.sh (X4 (Xc (r:=Xa) 5 rfl (λ_ s=>s.r)) (Yc (Ze (Ze (Zx (Xf 2) (Xc (r:=Xa) 4 rfl (λ_ s=>s.l.r))) (Xc (r:=Xa) 3 rfl (λ_ s=>s.l.l.r))) (Xc (r:=Xa) 5 rfl (λ_ s=>s.r))) (Ze (Xc (r:=Xa) 1 rfl (λ_ s=>s.l.l.l.l.r)) (Xc (r:=Xa) 5 rfl (λ_ s=>s.r)))))))) (Xx (EvS.ev (Xo (r:=Xa) 3 rfl (λ_ s=>s.l.l.r)))))))))))
theorem Vk : FnScope ["_law_one", "_law_other"] ["_law_one", "_law_other"] (Xi Ux):=⟨rfl, rfl, rfl, by decide +kernel, rfl, by decide +kernel, by decide +kernel⟩
theorem De (D : Def K mg "_law_common" Ux ["_law_one", "_law_other"])  (Y : Ecs Xy K mg) (Z : Blt mg) : Fn P w K mg base 1 "_law_common" ["_law_one", "_law_other"] (sp2 Xa Xa (oF Xa) Qw K):=by
  refine Y0 D Vk (λvs H Q E h=>?_) (λf cdv A outer s H vs Q E hr h=>?_)
  . obtain ⟨v_0, v_1, a_0, a_1, b, rfl, _⟩:=h; rfl
  obtain ⟨v_0, v_1, a_0, a_1, b, rfl, h_0, h_1, hm, q⟩:=h
  have hu:=hu8 hr
  have hu1:=Yl hr
  refine ⟨_, (Xd (Eu (i:=0) (j:=1) rfl Vk.nd rfl rfl (by decide) rfl rfl (Xb (Xt G8 rfl Z.b_abs PyProof.Rows.boot_abs (Xb (pv 0) Xe)) (Xb (Xt G8 rfl Z.b_abs PyProof.Rows.boot_abs (Xb (pv 1) Xe)) Xe)) rfl)
    (Xd (Uu PassesOwn.never (Xs Di (pv 1) Xh (XC _))
      (Xd (Eu (i:=0) (j:=1) rfl Vk.nd rfl rfl (by decide) rfl rfl (Xb (pv 1) (Xb (XB YJ (pv 0) (pv 1)) Xe)) rfl)
      Xg))
    (Xd (Xw (pv 0))
    Xg))), ?_⟩
  refine Y3 (S:=(SC.add (SC.add SC.nil K Xa v_0 a_0) K Xa v_1 a_1)) (σ:=[some v_0, some v_1]) 0 ?_ (SC.i (SC.i SC.t h_0) h_1) hm q rfl
  unfold Qw
  exact (ES (K:=K) 0 1 (EvB.sh (Be (Xc (r:=Xa) 0 rfl (λ_ s=>s.l.r)))) (EvB.sh (Be (Xc (r:=Xa) 1 rfl (λ_ s=>s.r)))) λa3 a4 v5 v6=>(GL (J:=({ oo:=λx7=>[], ss:=λx7=>[some x7.1, some x7.2], sc:=λg8 x7=>(SC.add (SC.add SC.nil K Xa x7.1 g8.1) K Xa x7.2 g8.2) } : Jn (Int × Int) (V × V))) (a3.natAbs + a4.natAbs + 2) (v5, v6) (a3, a4) rfl rfl (λ_ s=>(SC.i (SC.i SC.t s.l.r) s.r)) (λg9 x10=>(Xl (K:=K) (UZ (Xc (r:=Xa) 1 rfl (λ_ s=>s.r)) (Xf 0)))) (λg9 x10=>(ES (K:=K) 0 1 (Xo (r:=Xa) 1 rfl (λ_ s=>s.r)) (EvB.sh (Yc (Xc (r:=Xa) 0 rfl (λ_ s=>s.l.r)) (Xc (r:=Xa) 1 rfl (λ_ s=>s.r)))) λa15 a16 v17 v18=>(XA (J:=_) (v17, v18) (a15, a16) rfl rfl (λ_ s=>(SC.i (SC.i SC.t s.l.r) s.r))))) λg19 x20=>(Xx (EvS.ev (Xo (r:=Xa) 0 rfl (λ_ s=>s.l.r))))))
theorem Ug : FnScope ["_law_way", "_law_size", "_law_factor", "_law_some", "_law_a"] ["_law_way", "_law_size", "_law_factor"] (Xi GV):=⟨rfl, rfl, rfl, by decide +kernel, rfl, by decide +kernel, by decide +kernel⟩
theorem HS (D : Def K mg "_law_made" GV ["_law_way", "_law_size", "_law_factor"]) (g_common : Fn P w K mg base 1 "_law_common" ["_law_one", "_law_other"] (sp2 Xa Xa (oF Xa) Qw K)) (g_cell_of : Fn P w K mg base 1 "_law_cell_of" ["_law_way", "_law_size", "_law_factor", "_law_a", "_law_b"] (sp5 Xa Xa Xa Xa Xa (oF Xa) Zr K)) (Y : Ecs Xy K mg) (Z : Blt mg) : Fn P w K mg base 2 "_law_made" ["_law_way", "_law_size", "_law_factor"] (sp3 Xa Xa Xa (oL (oL (oF Xa))) Jk K):=by
  refine Y0 D Ug (λvs H Q E h=>?_) (λf cdv A outer s H vs Q E hr h=>?_)
  . obtain ⟨v_0, v_1, v_2, a_0, a_1, a_2, b, rfl, _⟩:=h; rfl
  obtain ⟨v_0, v_1, v_2, a_0, a_1, a_2, b, rfl, h_0, h_1, h_2, hm, q⟩:=h
  have hu:=hu8 hr
  have hu1:=Yl hr
  refine ⟨_, (Xd (YD (PW.pt (QE (Xs Z5 (pv 0) Xh (XC _)) (JW (Xs Z5 (pv 1) Xh (XC _)))))
      (@Xd _ _ _ _ _ (@Xw _ _ _ _ (@U7 _))
      Xg)
      Xg)
    (Xd (Uu PassesOwn.never (Xs FG (Yq g_common hr (by decide) (Xb (pv 2) (Xb (pv 1) Xe))) Xh (XC _))
      (Xd (XF (i:=2) Ug.nd rfl (Or.inr rfl) (XB Yv (pv 2) Xh))
      Xg))
    (Xd (XF (i:=3) Ug.nd rfl (Or.inl rfl) (X3 Xe))
    (Xd (YF PassesOwn.never rfl (XZ rfl Z.b_range (Xb (pv 1) Xe)) (Xu (i:=4) Ug.nd rfl (Or.inr rfl))
      (Xd (Ya (Jq PySem.F.plainAttrs_list PySem.F.slot_list_append PySem.F.type_list_append Zb (pv 3) (Xb (Yz (sc:=(Xi GV)) (N0:=["_law_way", "_law_size", "_law_factor", "_law_some", "_law_a"]) (tns:=["_law_b"]) (caps:=[(0, "_law_way"), (1, "_law_size"), (2, "_law_factor"), (4, "_law_a")]) rfl (XZ rfl Z.b_range (Xb (pv 1) Xe)) (Yt (by decide)) (λcl C s H ex E=>⟨Xu (i:=0) (show List.Nodup (["_law_b", "_law_way", "_law_size", "_law_factor", "_law_a"] : List Str) by decide +kernel) rfl (Or.inl rfl), Y5, (Yq g_cell_of hr (by decide) (Xb (pv 1) (Xb (pv 2) (Xb (pv 3) (Xb (pv 4) (Xb (pv 0) Xe))))))⟩)) Xe)))
      Xg))
    (Xd (Xw (pv 3))
    Xg))))), ?_⟩
  refine Y3 (S:=(SC.add (SC.add (SC.add SC.nil K Xa v_0 a_0) K Xa v_1 a_1) K Xa v_2 a_2)) (σ:=[some v_0, some v_1, some v_2, none, none]) 1 ?_ (SC.i (SC.i (SC.i SC.t h_0) h_1) h_2) hm q rfl
  unfold Jk
  exact (Qd (ZM (Xl (K:=K) (YZ (Xc (r:=Xa) 0 rfl (λ_ s=>s.l.l.r)) (Xf 5))) (Xl (K:=K) (YZ (Xc (r:=Xa) 1 rfl (λ_ s=>s.l.r)) (Xf 4)))) (Xx (QK (XY (ZO (Xn (EvB.sh (Xf 0)) (Xn (EvB.sh (Xf 3)) (Xn (EvB.sh (Xf 1)) (Xn (EvB.sh (Xf 2)) Yn))))) λ_=>(XY (ZO (Xn (EvB.sh (Xf 2)) (Xn (EvB.sh (Xf 1)) (Xn (EvB.sh (Xf 3)) (Xn (EvB.sh (Xf 0)) Yn))))) λ_=>(XY (ZO (Xn (EvB.sh (Xf 3)) (Xn (EvB.sh (Xf 0)) (Xn (EvB.sh (Xf 2)) (Xn (EvB.sh (Xf 1)) Yn))))) λ_=>(XY (ZO (Xn (EvB.sh (Xf 1)) (Xn (EvB.sh (Xf 2)) (Xn (EvB.sh (Xf 0)) (Xn (EvB.sh (Xf 3)) Yn))))) λ_=>Z2)))))) (GL (J:=({ oo:=λx51=>[[]], ss:=λx51=>[some v_0, some v_1, some x51, none, none], sc:=λg52 x51=>(SC.add (SC.add (SC.add SC.nil K Xa v_0 a_0) K Xa v_1 a_1) K Xa x51 g52) } : Jn (Int) (V))) (a_1.natAbs + 2) (v_2) (a_2) rfl rfl (λ_ s=>(SC.i (SC.i (SC.i SC.t s.l.l.r) s.l.r) s.r)) (λg53 x54=>(Xl (K:=K) (VQ (Ev.toB (Yg (Xc (r:=Xa) 2 rfl (λ_ s=>s.r)) (Xc (r:=Xa) 1 rfl (λ_ s=>s.l.r)))) (Xf 1)))) (λg53 x54=>(X1 (K:=K) (r:=Xa) 2 (EvB.sh (X4 (Xc (r:=Xa) 2 rfl (λ_ s=>s.r)) (Xf 1))) λa60 v61=>(XA (J:=_) (v61) (a60) rfl rfl (λ_ s=>(SC.i (SC.i (SC.i SC.t s.l.l.l.r) s.l.l.r) s.r))))) λg64 x65=>(Yu (K:=K) (o:=(oL (oL (oF Xa)))) 3 0 (JU (o:=(oL (oF Xa)))) (Nat.le_of_ble_eq_true rfl) λa66 v67 C68=>(Qg (K:=K) (J:=({ oo:=λx70=>[x70.2.2], ss:=λx70=>[some v_0, some v_1, some x65, some x70.2.1, x70.1], sc:=λg71 x70=>(SC.addO (SC.add (SC.add (SC.add SC.nil K Xa v_0 a_0) K Xa v_1 a_1) K Xa x65 g64) K (oL (oL (oF Xa))) x70.2.1 g71 x70.2.2) } : Jn ((List (List Int))) (Option V × V × List Xz))) (λ_=>tg1 4) ((none), v67, C68) (a66) (XH (Xc (r:=Xa) 1 rfl (λ_ s=>s.l.l.r))) rfl rfl (λ_ s=>(SC.i (SC.i (SC.i (SC.i SC.t s.l.l.l.r) s.l.l.r) s.l.r) s.r)) (λg72 x73 a74 v75=>(Vq (K:=K) (o:=(oL (oF Xa))) (f:=λa89=>(Rs.ok (a89))) 3 0 rfl rfl rfl (λ_ s=>s.l.r) (Y6 (λ_=>tg1 0) (XH (Xc (r:=Xa) 1 rfl (λ_ s=>s.l.l.l.r))) (λC77 a78 v79=>(Jv (Xc (r:=Xa) 1 rfl (λ_ s=>s.l.l.l.l.l.r)) (Xc (r:=Xa) 2 rfl (λ_ s=>s.l.l.l.l.r)) (Xc (r:=Xa) 3 rfl (λ_ s=>s.l.l.l.r)) (Xc (r:=Xa) 4 rfl (λ_ s=>s.l.r)) (Xc (r:=Xa) 0 rfl (λ_ s=>s.r))))) λa87 C88=>(XA (J:=_) ((some v75), x73.2.1, C88) ((g72 ++ [a87])) rfl rfl (λ_ s=>(SC.i (SC.i (SC.i (SC.i SC.t s.l.l.l.l.l.r) s.l.l.l.l.r) s.l.l.l.r) s.r))))) λg90 x91=>(Xx (YR (o:=(oL (oL (oF Xa)))) 3 0 rfl rfl (λ_ s=>s.r)))))))
theorem Qy : FnScope ["_law_some", "_law_count", "_law_left", "_law_found", "_law_k"] ["_law_some", "_law_count"] (Xi Vw):=⟨rfl, rfl, rfl, by decide +kernel, rfl, by decide +kernel, by decide +kernel⟩
theorem Fr (D : Def K mg "_law_ordered" Vw ["_law_some", "_law_count"])  (Y : Ecs Xy K mg) (Z : Blt mg) : Fn P w K mg base 1 "_law_ordered" ["_law_some", "_law_count"] (sp2 (rV Xa) Xa (oL (oF Xa)) ZT K):=by
  refine Y0 D Qy (λvs H Q E h=>?_) (λf cdv A outer s H vs Q E hr h=>?_)
  . obtain ⟨v_0, v_1, a_0, a_1, b, rfl, _⟩:=h; rfl
  obtain ⟨v_0, v_1, a_0, a_1, b, rfl, h_0, h_1, hm, q⟩:=h
  have hu:=hu8 hr
  have hu1:=Yl hr
  refine ⟨_, (Xd (XF (i:=2) Qy.nd rfl (Or.inl rfl) (Ky rfl rfl rfl Z.b_list Z.b_range (Xb (pv 1) Xe)))
    (Xd (XF (i:=3) Qy.nd rfl (Or.inl rfl) (X3 Xe))
    (Xd (YF PassesOwn.never rfl (XZ rfl Z.b_range (Xb (pv 1) Xe)) (Xu (i:=4) Qy.nd rfl (Or.inl rfl))
      (Xd (Ya (Jq PySem.F.plainAttrs_list PySem.F.slot_list_append PySem.F.type_list_append Zb (pv 3) (Xb (Jq PySem.F.plainAttrs_list PySem.F.slot_list_pop PySem.F.type_list_pop BY (pv 2) (Xb (XB YJ (XO (Xm K rfl) (pv 0) (pv 4) (λ_ _=>rfl)) (Xt (Xk K rfl) rfl Z.b_len PySem.boot_len (Xb (pv 2) Xe))) Xe)) Xe)))
      Xg))
    (Xd (Xw (pv 3))
    Xg)))), ?_⟩
  refine Y3 (S:=(SC.add (SC.add SC.nil K (rV Xa) v_0 a_0) K Xa v_1 a_1)) (σ:=[some v_0, some v_1, none, none, none]) 2 ?_ (SC.i (SC.i SC.t h_0) h_1) hm q rfl
  unfold ZT
  exact (Yu (K:=K) (o:=(oL (oF Xa))) 2 1 (U0 (Xc (r:=Xa) 1 rfl (λ_ s=>s.r))) (Nat.le_of_ble_eq_true rfl) λa1 v2 C3=>(Yu (K:=K) (o:=(oL (oF Xa))) 3 0 (JU (o:=(oF Xa))) (Nat.le_of_ble_eq_true rfl) λa5 v6 C7=>(Qg (K:=K) (J:=({ oo:=λx9=>[x9.2.2.2.1, x9.2.2.2.2], ss:=λx9=>[some v_0, some v_1, some x9.2.2.1, some x9.2.1, x9.1], sc:=λg10 x9=>(SC.addO (SC.addO (SC.add (SC.add SC.nil K (rV Xa) v_0 a_0) K Xa v_1 a_1) K (oL (oF Xa)) x9.2.1 g10.1 x9.2.2.2.1) K (oL (oF Xa)) x9.2.2.1 g10.2 x9.2.2.2.2) } : Jn ((List Int) × (List Int)) (Option V × V × V × List Xz × List Xz))) (λ_=>tg1 4) ((none), v6, v2, C7, C3) (a5, a1) (XH (Xc (r:=Xa) 1 rfl (λ_ s=>s.l.l.r))) rfl rfl (λ_ s=>(SC.i (SC.i (SC.i (SC.i SC.t s.l.l.l.r) s.l.l.r) s.r) s.l.r)) (λg11 x12 a13 v14=>(B1 (K:=K) (r:=Xa) (f:=λa21 a22=>(Rs.ok (a22, a21))) 2 1 3 0 (by decide) rfl rfl (λ_ s=>s.l.r) rfl rfl (λ_ s=>s.l.l.r) (Yc (XJ (Xc (r:=(rV Xa)) 0 rfl (λ_ s=>s.l.l.l.l.r)) (Xc (r:=Xa) 4 rfl (λ_ s=>s.r))) (Yh (Je (o:=(oL (oF Xa))) 2 1 rfl rfl (λ_ s=>s.l.r)))) λa20 a21 C23 C24=>(XA (J:=_) ((some v14), x12.2.1, x12.2.2.1, C24, C23) ((g11.1 ++ [a20]), a21) rfl rfl (λ_ s=>(SC.i (SC.i (SC.i (SC.i SC.t s.l.l.l.l.l.l.r) s.l.l.l.l.l.r) s.r) s.l.r))))) λg27 x28=>(Xx (YR (o:=(oL (oF Xa))) 3 0 rfl rfl (λ_ s=>s.l.r))))))
theorem Q9 : FnScope ["_law_some", "_law_spots", "_law_found", "_law_a", "_law_b"] ["_law_some", "_law_spots"] (Xi JC):=⟨rfl, rfl, rfl, by decide +kernel, rfl, by decide +kernel, by decide +kernel⟩
theorem Dc (D : Def K mg "_law_relaid" JC ["_law_some", "_law_spots"])  (Y : Ecs Xy K mg) (Z : Blt mg) : Fn P w K mg base 1 "_law_relaid" ["_law_some", "_law_spots"] (sp2 (rV (rV Xa)) (rV Xa) (oL (oL (oF Xa))) QA K):=by
  refine Y0 D Q9 (λvs H Q E h=>?_) (λf cdv A outer s H vs Q E hr h=>?_)
  . obtain ⟨v_0, v_1, a_0, a_1, b, rfl, _⟩:=h; rfl
  obtain ⟨v_0, v_1, a_0, a_1, b, rfl, h_0, h_1, hm, q⟩:=h
  have hu:=hu8 hr
  have hu1:=Yl hr
  refine ⟨_, (Xd (CU 2 (Xi JC) ["_law_some", "_law_spots", "_law_found", "_law_a", "_law_b"] ["_law_line"] [] rfl Q9.nd rfl rfl (Yb (K:=K) rfl (pv 0)) (Yt (by decide)) (λcl C s H ex E=>⟨Xu (i:=0) (show List.Nodup (["_law_line"] : List Str) by decide +kernel) rfl (Or.inl rfl), Y5, (YW (Yy K rfl) rfl Z.b_list PyProof.Rows.boot_list (Xb (pv 0) Xe))⟩))
    (Xd (YF PassesOwn.never rfl (XZ rfl Z.b_range (Xb (Xt (Xk K rfl) rfl Z.b_len PySem.boot_len (Xb (pv 0) Xe)) Xe)) (Xu (i:=3) Q9.nd rfl (Or.inl rfl))
      (Xd (YF PassesOwn.never rfl (XZ rfl Z.b_range (Xb (Xt (Xk K rfl) rfl Z.b_len PySem.boot_len (Xb (pv 0) Xe)) Xe)) (Xu (i:=4) Q9.nd rfl (Or.inl rfl))
        (Xd (EX (XO (Xm K rfl) (pv 1) (XO (Xm K rfl) (XO (Xm K rfl) (pv 0) (pv 3) (λ_ _=>rfl)) (pv 4) (λ_ _=>rfl)) (λ_ _=>rfl)) (Ms (XO (Xm K rfl) (pv 2) (XO (Xm K rfl) (pv 1) (pv 3) (λ_ _=>rfl)) (λ_ _=>rfl)) (XO (Xm K rfl) (pv 1) (pv 4) (λ_ _=>rfl)) El))
        Xg))
      Xg))
    (Xd (Xw (pv 2))
    Xg))), ?_⟩
  refine Y3 (S:=(SC.add (SC.add SC.nil K (rV (rV Xa)) v_0 a_0) K (rV Xa) v_1 a_1)) (σ:=[some v_0, some v_1, none, none, none]) 1 ?_ (SC.i (SC.i SC.t h_0) h_1) hm q rfl
  unfold QA
  exact (Yu (K:=K) (o:=(oL (oL (oF Xa)))) 2 0 (Y6 (λ_=>tg1 0) (X8 (Xo (r:=(rV (rV Xa))) 0 rfl (λ_ s=>s.l.r))) (λC4 a5 v6=>(Vf (EvS.ls (Xo (r:=(rV Xa)) 0 rfl (λ_ s=>s.r)))))) (Nat.le_of_ble_eq_true rfl) λa1 v2 C3=>(Qg (K:=K) (J:=({ oo:=λx11=>[x11.2.2.2], ss:=λx11=>[some v_0, some v_1, some x11.2.2.1, x11.1, x11.2.1], sc:=λg12 x11=>(SC.addO (SC.add (SC.add SC.nil K (rV (rV Xa)) v_0 a_0) K (rV Xa) v_1 a_1) K (oL (oL (oF Xa))) x11.2.2.1 g12 x11.2.2.2) } : Jn ((List (List Int))) (Option V × Option V × V × List Xz))) (λ_=>tg1 3) ((none), (none), v2, C3) (a1) (XH (Yh (Xc (r:=(rV (rV Xa))) 0 rfl (λ_ s=>s.l.l.r)))) rfl rfl (λ_ s=>(SC.i (SC.i (SC.i SC.t s.l.l.r) s.l.r) s.r)) (λg13 x14 a15 v16=>(Qg (K:=K) (J:=({ oo:=λx19=>[x19.2.2], ss:=λx19=>[some v_0, some v_1, some x19.2.1, some v16, x19.1], sc:=λg20 x19=>(SC.addO (SC.add (SC.add (SC.add SC.nil K (rV (rV Xa)) v_0 a_0) K (rV Xa) v_1 a_1) K Xa v16 a15) K (oL (oL (oF Xa))) x19.2.1 g20 x19.2.2) } : Jn ((List (List Int))) (Option V × V × List Xz))) (λ_=>tg1 4) ((x14.2.1), x14.2.2.1, x14.2.2.2) (g13) (XH (Yh (Xc (r:=(rV (rV Xa))) 0 rfl (λ_ s=>s.l.l.l.r)))) rfl rfl (λ_ s=>(SC.i (SC.i (SC.i (SC.i SC.t s.l.l.l.r) s.l.l.r) s.r) s.l.r)) (λg21 x22 a23 v24=>(DM (K:=K) (r:=Xa) 2 0 rfl rfl (λ_ s=>s.l.r) (EvB.sh (XJ (Xc (r:=(rV Xa)) 1 rfl (λ_ s=>s.l.l.l.r)) (XJ (XJ (Xc (r:=(rV (rV Xa))) 0 rfl (λ_ s=>s.l.l.l.l.r)) (Xc (r:=Xa) 3 rfl (λ_ s=>s.l.l.r))) (Xc (r:=Xa) 4 rfl (λ_ s=>s.r))))) (XJ (Xc (r:=(rV Xa)) 1 rfl (λ_ s=>s.l.l.l.r)) (Xc (r:=Xa) 3 rfl (λ_ s=>s.l.l.r))) (XJ (Xc (r:=(rV Xa)) 1 rfl (λ_ s=>s.l.l.l.r)) (Xc (r:=Xa) 4 rfl (λ_ s=>s.r))) λa38 C39=>(XA (J:=_) ((some v24), x22.2.1, C39) (a38) rfl rfl (λ_ s=>(SC.i (SC.i (SC.i (SC.i SC.t s.l.l.l.l.l.r) s.l.l.l.l.r) s.l.l.l.r) s.r))))) λg42 x43=>(XA (J:=_) ((some v16), (x43.1), x43.2.1, x43.2.2) (g42) rfl rfl (λ_ s=>(SC.i (SC.i (SC.i SC.t s.l.l.l.r) s.l.l.r) s.r))))) λg45 x46=>(Xx (YR (o:=(oL (oL (oF Xa)))) 2 0 rfl rfl (λ_ s=>s.r)))))
theorem Jy : FnScope ["_law_script", "_law_place", "_law_most", "_law_some", "_law_size", "_law_found"] ["_law_script", "_law_place", "_law_most"] (Xi Gb):=⟨rfl, rfl, rfl, by decide +kernel, rfl, by decide +kernel, by decide +kernel⟩
theorem B4 (D : Def K mg "_law_table" Gb ["_law_script", "_law_place", "_law_most"]) (g_row : Fn P w K mg base 2 "_law_row" ["_law_script", "_law_place", "_law_sizes"] (sp3 (rL Xa) Xa (rV Xa) (oL (oF Xa)) Kg K)) (g_made : Fn P w K mg base 2 "_law_made" ["_law_way", "_law_size", "_law_factor"] (sp3 Xa Xa Xa (oL (oL (oF Xa))) Jk K)) (g_relaid : Fn P w K mg base 1 "_law_relaid" ["_law_some", "_law_spots"] (sp2 (rV (rV Xa)) (rV Xa) (oL (oL (oF Xa))) QA K)) (g_ordered : Fn P w K mg base 1 "_law_ordered" ["_law_some", "_law_count"] (sp2 (rV Xa) Xa (oL (oF Xa)) ZT K)) (Y : Ecs Xy K mg) (Z : Blt mg) : Fn P w K mg base 3 "_law_table" ["_law_script", "_law_place", "_law_most"] (sp3 (rL Xa) Xa Xa (oL (oL (oF Xa))) QN K):=by
  refine Y0 D Jy (λvs H Q E h=>?_) (λf cdv A outer s H vs Q E hr h=>?_)
  . obtain ⟨v_0, v_1, v_2, a_0, a_1, a_2, b, rfl, _⟩:=h; rfl
  obtain ⟨v_0, v_1, v_2, a_0, a_1, a_2, b, rfl, h_0, h_1, h_2, hm, q⟩:=h
  have hu:=hu8 hr
  have hu1:=Yl hr
  refine ⟨_, (Xd (XF (i:=3) Jy.nd rfl (Or.inl rfl) (Yq g_row hr (by decide) (Xb (pv 0) (Xb (pv 1) (Xb (XB C5 (X3 (Xb Xh (Xb Xh (Xb Xh (Xb Xh Xe))))) (XB Ml (X3 (Xb Xh Xe)) Xh)) Xe)))))
    (Xd (XF (i:=4) Jy.nd rfl (Or.inl rfl) (XB Yv Xh (XB YJ (XO (Xm K rfl) (pv 3) Xh (λ_ _=>rfl)) (pv 2))))
    (Xd (XF (i:=5) Jy.nd rfl (Or.inl rfl) (Yq g_made hr (by decide) (Xb (XO (Xm K rfl) (pv 3) Xh (λ_ _=>rfl)) (Xb (pv 4) (Xb (XB Yv Xh (XO (Xm K rfl) (pv 3) Xh (λ_ _=>rfl))) Xe)))))
    (Xd (YD (Xs Z5 (XO (Xm K rfl) (pv 3) Xh (λ_ _=>rfl)) Xh (XC _))
      (Xd (Xw (pv 5))
      Xg)
      Xg)
    (Xd (Xw (Yq g_relaid hr (by decide) (Xb (pv 5) (Xb (Yq g_ordered hr (by decide) (Xb (Jz (JD K rfl) (pv 3) (UH Xh) Ue) (Xb (pv 4) Xe))) Xe))))
    Xg))))), ?_⟩
  refine Y3 (S:=(SC.add (SC.add (SC.add SC.nil K (rL Xa) v_0 a_0) K Xa v_1 a_1) K Xa v_2 a_2)) (σ:=[some v_0, some v_1, some v_2, none, none, none]) 1 ?_ (SC.i (SC.i (SC.i SC.t h_0) h_1) h_2) hm q rfl
  unfold QN
  exact (X1 (K:=K) (r:=(rV Xa)) 3 (Ev.sh (Z3 (Xc (r:=(rL Xa)) 0 rfl (λ_ s=>s.l.l.r)) (Xc (r:=Xa) 1 rfl (λ_ s=>s.l.r)) (Ev.toB (Cq (Ev.ls (ZO (Xn (EvB.sh (Xf 7)) (Xn (EvB.sh (Xf 24)) (Xn (EvB.sh (Xf 6)) (Xn (EvB.sh (Xf 2)) Yn)))))) (Ev.ls (Lc (Ev.ls (ZO (Xn (EvB.sh (Xf 24)) Yn))) (Xf 24))))))) λa1 v2=>(X1 (K:=K) (r:=Xa) 4 (EvB.sh (X4 (Xf 1) (Yc (XJ (Xc (r:=(rV Xa)) 3 rfl (λ_ s=>s.r)) (Xf 1)) (Xc (r:=Xa) 2 rfl (λ_ s=>s.l.r))))) λa23 v24=>(Yu (K:=K) (o:=(oL (oL (oF Xa)))) 5 0 (Z3 (XJ (Xc (r:=(rV Xa)) 3 rfl (λ_ s=>s.l.r)) (Xf 0)) (Xc (r:=Xa) 4 rfl (λ_ s=>s.r)) (X4 (Xf 2) (XJ (Xc (r:=(rV Xa)) 3 rfl (λ_ s=>s.l.r)) (Xf 2)))) (Nat.le_of_ble_eq_true rfl) λa31 v32 C33=>(Qd (Xl (K:=K) (YZ (XJ (Xc (r:=(rV Xa)) 3 rfl (λ_ s=>s.l.l.r)) (Xf 3)) (Xf 0))) (Xx (YR (o:=(oL (oL (oF Xa)))) 5 0 rfl rfl (λ_ s=>s.r))) (Xx (Yg (Je (o:=(oL (oL (oF Xa)))) 5 0 rfl rfl (λ_ s=>s.r)) (Ev.toB (Yg (Ev.toB (UK (EvS.ls (Xo (r:=(rV Xa)) 3 rfl (λ_ s=>s.l.l.r))) (JI (K:=K) (Xf 4)) JH)) (Xc (r:=Xa) 4 rfl (λ_ s=>s.l.r))))))))))
theorem BZ : FnScope ["_law_door", "_law_one", "_law_other", "_law_paper", "_law_size"] ["_law_door", "_law_one", "_law_other", "_law_paper", "_law_size"] (Xi K0):=⟨rfl, rfl, rfl, by decide +kernel, rfl, by decide +kernel, by decide +kernel⟩
theorem BF (D : Def K mg "_law_asked" K0 ["_law_door", "_law_one", "_law_other", "_law_paper", "_law_size"]) (g_like : FnX P w K mg base 4 "like" ["one", "other"] (KP mg (rV (rV Xa)) (rV (rV Xa)) (VZ (oL (oF Xa))) Qb K)) (g_unlike : FnX P w K mg base 4 "unlike" ["one", "other"] (KP mg (rV (rV Xa)) (rV (rV Xa)) (VZ (oL (oF (rP3 (rPL Xa) Xa Xa)))) Y8 K)) (g_shuts : FnX P w K mg base 3 "shuts" ["one", "other", "paper"] (MK mg (rV (rV Xa)) (rV (rV Xa)) (rV (rP3 (rPL Xa) Xa Xa)) (oF XR) Qn K)) (g_tables : FnX P w K mg base 4 "tables" ["size"] (IG mg Xa (oL (oL (oL (oF Xa)))) YN K)) (g_kinds : FnX P w K mg base 5 "kinds" ["size"] (IG mg Xa (oL (oL (oL (oF Xa)))) Z0 K)) (Y : Ecs Xy K mg) (Z : Blt mg) : FnX P w K mg base 6 "_law_asked" ["_law_door", "_law_one", "_law_other", "_law_paper", "_law_size"] (IW mg Xa (rV (rV Xa)) (rV (rV Xa)) (rV (rP3 (rPL Xa) Xa Xa)) Xa (oF XR) ZL K):=by
  refine Jl D BZ (λvs H Q E h=>?_) (λf cdv A outer s H vs Q E hr h=>?_)
  . obtain ⟨v_0, v_1, v_2, v_3, v_4, a_0, a_1, a_2, a_3, a_4, rfl, _⟩:=h; rfl
  obtain ⟨v_0, v_1, v_2, v_3, v_4, a_0, a_1, a_2, a_3, a_4, rfl, h_0, h_1, h_2, h_3, h_4, hz⟩:=h
  have hu:=hu8 hr
  have hu1:=Yl hr
  refine ⟨_, (Xd (YD (Xs Z5 (pv 0) Xh (XC _))
      (Xd (Ya (Zl g_like hr (by decide) Vm (Xb (pv 1) (Xb (pv 2) Xe))))
      Xg)
      Xg)
    (Xd (YD (Xs Z5 (pv 0) Xh (XC _))
      (Xd (Ya (Zl g_unlike hr (by decide) Vm (Xb (pv 1) (Xb (pv 2) Xe))))
      Xg)
      Xg)
    (Xd (YD (Xs Z5 (pv 0) Xh (XC _))
      (Xd (Ya (Zl g_shuts hr (by decide) Vm (Xb (pv 1) (Xb (pv 2) (Xb (pv 3) Xe)))))
      Xg)
      Xg)
    (Xd (YD (Xs Z5 (pv 0) Xh (XC _))
      (Xd (Ya (Zl g_tables hr (by decide) Vm (Xb (pv 4) Xe)))
      Xg)
      Xg)
    (Xd (YD (Xs Z5 (pv 0) Xh (XC _))
      (Xd (Ya (Zl g_kinds hr (by decide) Vm (Xb (pv 4) Xe)))
      Xg)
      Xg)
    (Xd (PS.nox (Xw KU))
    Xg)))))), ?_⟩
  refine V1 (S:=(SC.add (SC.add (SC.add (SC.add (SC.add SC.nil K Xa v_0 a_0) K (rV (rV Xa)) v_1 a_1) K (rV (rV Xa)) v_2 a_2) K (rV (rP3 (rPL Xa) Xa Xa)) v_3 a_3) K Xa v_4 a_4)) (σ:=[some v_0, some v_1, some v_2, some v_3, some v_4]) 0 ?_ (SC.i (SC.i (SC.i (SC.i (SC.i SC.t h_0) h_1) h_2) h_3) h_4) hz rfl
  unfold ZL
  exact (Zz (J:=({ oo:=λx4=>[], ss:=λx4=>[some v_0, some v_1, some v_2, some v_3, some v_4], sc:=λg5 x4=>(SC.add (SC.add (SC.add (SC.add (SC.add SC.nil K Xa v_0 a_0) K (rV (rV Xa)) v_1 a_1) K (rV (rV Xa)) v_2 a_2) K (rV (rP3 (rPL Xa) Xa Xa)) v_3 a_3) K Xa v_4 a_4) } : Jn (Unit) (Unit))) (ZU (Fd:=FNd ({ oo:=λx4=>[], ss:=λx4=>[some v_0, some v_1, some v_2, some v_3, some v_4], sc:=λg5 x4=>(SC.add (SC.add (SC.add (SC.add (SC.add SC.nil K Xa v_0 a_0) K (rV (rV Xa)) v_1 a_1) K (rV (rV Xa)) v_2 a_2) K (rV (rP3 (rPL Xa) Xa Xa)) v_3 a_3) K Xa v_4 a_4) } : Jn (Unit) (Unit))) (Xl (K:=K) (YZ (Xc (r:=Xa) 0 rfl (λ_ s=>s.l.l.l.l.r)) (Xf 0))) (ZJ (Ev.toB (Zv (Xc (r:=(rV (rV Xa))) 1 rfl (λ_ s=>s.l.l.l.r)) (Xc (r:=(rV (rV Xa))) 2 rfl (λ_ s=>s.l.l.r)))) (XA (J:=_) () () rfl rfl (λ_ s=>(SC.i (SC.i (SC.i (SC.i (SC.i SC.t s.l.l.l.l.r) s.l.l.l.r) s.l.l.r) s.l.r) s.r)))) (XA (J:=_) () () rfl rfl (λ_ s=>(SC.i (SC.i (SC.i (SC.i (SC.i SC.t s.l.l.l.l.r) s.l.l.l.r) s.l.l.r) s.l.r) s.r)))) λg10 x9=>(Zz (J:=({ oo:=λx14=>[], ss:=λx14=>[some v_0, some v_1, some v_2, some v_3, some v_4], sc:=λg15 x14=>(SC.add (SC.add (SC.add (SC.add (SC.add SC.nil K Xa v_0 a_0) K (rV (rV Xa)) v_1 a_1) K (rV (rV Xa)) v_2 a_2) K (rV (rP3 (rPL Xa) Xa Xa)) v_3 a_3) K Xa v_4 a_4) } : Jn (Unit) (Unit))) (ZU (Fd:=FNd ({ oo:=λx14=>[], ss:=λx14=>[some v_0, some v_1, some v_2, some v_3, some v_4], sc:=λg15 x14=>(SC.add (SC.add (SC.add (SC.add (SC.add SC.nil K Xa v_0 a_0) K (rV (rV Xa)) v_1 a_1) K (rV (rV Xa)) v_2 a_2) K (rV (rP3 (rPL Xa) Xa Xa)) v_3 a_3) K Xa v_4 a_4) } : Jn (Unit) (Unit))) (Xl (K:=K) (YZ (Xc (r:=Xa) 0 rfl (λ_ s=>s.l.l.l.l.r)) (Xf 1))) (ZJ (Ev.toB (Zv (Xc (r:=(rV (rV Xa))) 1 rfl (λ_ s=>s.l.l.l.r)) (Xc (r:=(rV (rV Xa))) 2 rfl (λ_ s=>s.l.l.r)))) (XA (J:=_) () () rfl rfl (λ_ s=>(SC.i (SC.i (SC.i (SC.i (SC.i SC.t s.l.l.l.l.r) s.l.l.l.r) s.l.l.r) s.l.r) s.r)))) (XA (J:=_) () () rfl rfl (λ_ s=>(SC.i (SC.i (SC.i (SC.i (SC.i SC.t s.l.l.l.l.r) s.l.l.l.r) s.l.l.r) s.l.r) s.r)))) λg20 x19=>(Zz (J:=({ oo:=λx24=>[], ss:=λx24=>[some v_0, some v_1, some v_2, some v_3, some v_4], sc:=λg25 x24=>(SC.add (SC.add (SC.add (SC.add (SC.add SC.nil K Xa v_0 a_0) K (rV (rV Xa)) v_1 a_1) K (rV (rV Xa)) v_2 a_2) K (rV (rP3 (rPL Xa) Xa Xa)) v_3 a_3) K Xa v_4 a_4) } : Jn (Unit) (Unit))) (ZU (Fd:=FNd ({ oo:=λx24=>[], ss:=λx24=>[some v_0, some v_1, some v_2, some v_3, some v_4], sc:=λg25 x24=>(SC.add (SC.add (SC.add (SC.add (SC.add SC.nil K Xa v_0 a_0) K (rV (rV Xa)) v_1 a_1) K (rV (rV Xa)) v_2 a_2) K (rV (rP3 (rPL Xa) Xa Xa)) v_3 a_3) K Xa v_4 a_4) } : Jn (Unit) (Unit))) (Xl (K:=K) (YZ (Xc (r:=Xa) 0 rfl (λ_ s=>s.l.l.l.l.r)) (Xf 2))) (ZJ (Ev.toB (Dq (Xc (r:=(rV (rV Xa))) 1 rfl (λ_ s=>s.l.l.l.r)) (Xc (r:=(rV (rV Xa))) 2 rfl (λ_ s=>s.l.l.r)) (Xc (r:=(rV (rP3 (rPL Xa) Xa Xa))) 3 rfl (λ_ s=>s.l.r)))) (XA (J:=_) () () rfl rfl (λ_ s=>(SC.i (SC.i (SC.i (SC.i (SC.i SC.t s.l.l.l.l.r) s.l.l.l.r) s.l.l.r) s.l.r) s.r)))) (XA (J:=_) () () rfl rfl (λ_ s=>(SC.i (SC.i (SC.i (SC.i (SC.i SC.t s.l.l.l.l.r) s.l.l.l.r) s.l.l.r) s.l.r) s.r)))) λg31 x30=>(Zz (J:=({ oo:=λx35=>[], ss:=λx35=>[some v_0, some v_1, some v_2, some v_3, some v_4], sc:=λg36 x35=>(SC.add (SC.add (SC.add (SC.add (SC.add SC.nil K Xa v_0 a_0) K (rV (rV Xa)) v_1 a_1) K (rV (rV Xa)) v_2 a_2) K (rV (rP3 (rPL Xa) Xa Xa)) v_3 a_3) K Xa v_4 a_4) } : Jn (Unit) (Unit))) (ZU (Fd:=FNd ({ oo:=λx35=>[], ss:=λx35=>[some v_0, some v_1, some v_2, some v_3, some v_4], sc:=λg36 x35=>(SC.add (SC.add (SC.add (SC.add (SC.add SC.nil K Xa v_0 a_0) K (rV (rV Xa)) v_1 a_1) K (rV (rV Xa)) v_2 a_2) K (rV (rP3 (rPL Xa) Xa Xa)) v_3 a_3) K Xa v_4 a_4) } : Jn (Unit) (Unit))) (Xl (K:=K) (YZ (Xc (r:=Xa) 0 rfl (λ_ s=>s.l.l.l.l.r)) (Xf 3))) (ZJ (Ev.toB (JR (Xc (r:=Xa) 4 rfl (λ_ s=>s.r)))) (XA (J:=_) () () rfl rfl (λ_ s=>(SC.i (SC.i (SC.i (SC.i (SC.i SC.t s.l.l.l.l.r) s.l.l.l.r) s.l.l.r) s.l.r) s.r)))) (XA (J:=_) () () rfl rfl (λ_ s=>(SC.i (SC.i (SC.i (SC.i (SC.i SC.t s.l.l.l.l.r) s.l.l.l.r) s.l.l.r) s.l.r) s.r)))) λg40 x39=>(Zz (J:=({ oo:=λx44=>[], ss:=λx44=>[some v_0, some v_1, some v_2, some v_3, some v_4], sc:=λg45 x44=>(SC.add (SC.add (SC.add (SC.add (SC.add SC.nil K Xa v_0 a_0) K (rV (rV Xa)) v_1 a_1) K (rV (rV Xa)) v_2 a_2) K (rV (rP3 (rPL Xa) Xa Xa)) v_3 a_3) K Xa v_4 a_4) } : Jn (Unit) (Unit))) (ZU (Fd:=FNd ({ oo:=λx44=>[], ss:=λx44=>[some v_0, some v_1, some v_2, some v_3, some v_4], sc:=λg45 x44=>(SC.add (SC.add (SC.add (SC.add (SC.add SC.nil K Xa v_0 a_0) K (rV (rV Xa)) v_1 a_1) K (rV (rV Xa)) v_2 a_2) K (rV (rP3 (rPL Xa) Xa Xa)) v_3 a_3) K Xa v_4 a_4) } : Jn (Unit) (Unit))) (Xl (K:=K) (YZ (Xc (r:=Xa) 0 rfl (λ_ s=>s.l.l.l.l.r)) (Xf 4))) (ZJ (Ev.toB (JR (Xc (r:=Xa) 4 rfl (λ_ s=>s.r)))) (XA (J:=_) () () rfl rfl (λ_ s=>(SC.i (SC.i (SC.i (SC.i (SC.i SC.t s.l.l.l.l.r) s.l.l.l.r) s.l.l.r) s.l.r) s.r)))) (XA (J:=_) () () rfl rfl (λ_ s=>(SC.i (SC.i (SC.i (SC.i (SC.i SC.t s.l.l.l.l.r) s.l.l.l.r) s.l.l.r) s.l.r) s.r)))) λg49 x48=>(Xx (EvS.ev (EvB.sh (JS true)))))))))
theorem VO : FnScope ["_law_door", "_law_one", "_law_other", "_law_paper", "_law_size", "e"] ["_law_door", "_law_one", "_law_other", "_law_paper", "_law_size"] (Xi Vp):=⟨rfl, rfl, rfl, by decide +kernel, rfl, by decide +kernel, by decide +kernel⟩
theorem Fg (D : Def K mg "_law_refused" Vp ["_law_door", "_law_one", "_law_other", "_law_paper", "_law_size"]) (g_asked : FnX P w K mg base 6 "_law_asked" ["_law_door", "_law_one", "_law_other", "_law_paper", "_law_size"] (IW mg Xa (rV (rV Xa)) (rV (rV Xa)) (rV (rP3 (rPL Xa) Xa Xa)) Xa (oF XR) ZL K)) (Y : Ecs Xy K mg) (Z : Blt mg) : Fn P w K mg base 7 "_law_refused" ["_law_door", "_law_one", "_law_other", "_law_paper", "_law_size"] (sp5 Xa (rV (rV Xa)) (rV (rV Xa)) (rV (rP3 (rPL Xa) Xa Xa)) Xa (oF XR) ZQ K):=by
  refine Y0 D VO (λvs H Q E h=>?_) (λf cdv A outer s H vs Q E hr h=>?_)
  . obtain ⟨v_0, v_1, v_2, v_3, v_4, a_0, a_1, a_2, a_3, a_4, b, rfl, _⟩:=h; rfl
  obtain ⟨v_0, v_1, v_2, v_3, v_4, a_0, a_1, a_2, a_3, a_4, b, rfl, h_0, h_1, h_2, h_3, h_4, hm, q⟩:=h
  obtain ⟨C_PlaitError, h_PlaitError, q_PlaitError⟩:=Y.adr "PlaitError" (.head _)
  obtain ⟨C_TooBig, h_TooBig, q_TooBig⟩:=Y.adr "TooBig" (.tail _ (.head _))
  obtain ⟨C_NoUnit, h_NoUnit, q_NoUnit⟩:=Y.adr "NoUnit" (.tail _ (.tail _ (.head _)))
  have hu:=hu8 hr
  have hu1:=Yl hr
  refine ⟨_, (Xd (LG rfl rfl rfl rfl h_PlaitError VO.nd (i:=5) rfl rfl rfl (λpn xe E hp=>(Xd (Ya (Zl g_asked hr (by decide) hp (Xb (pv 0) (Xb (pv 1) (Xb (pv 2) (Xb (pv 3) (Xb (pv 4) Xe)))))))
      Xg))
     (λpn a o C hm hc => (Xd (Xw (VS (Xt (UR rfl hm hc rfl) rfl Z.b_isinstance PyProof.Rows.boot_isinstance (Xb (pv 5) (Xb (K2 (v := V.ref C_TooBig) rfl h_TooBig rfl) Xe))) (VS (Xt (UR rfl hm hc rfl) rfl Z.b_isinstance PyProof.Rows.boot_isinstance (Xb (pv 5) (Xb (Ie (v := V.ty "ValueError") rfl Z.b_ValueError PyProof.Rows.Boot.«ValueError» rfl) Xe))) (G6 (L9 (Xt (UR rfl hm hc rfl) rfl Z.b_isinstance PyProof.Rows.boot_isinstance (Xb (pv 5) (Xb (K2 (v := V.ref C_NoUnit) rfl h_NoUnit rfl) Xe))))))))
      Xg)))
    (Xd (Xw KU)
    Xg)), ?_⟩
  refine Y3 (S:=(SC.add (SC.add (SC.add (SC.add (SC.add SC.nil K Xa v_0 a_0) K (rV (rV Xa)) v_1 a_1) K (rV (rV Xa)) v_2 a_2) K (rV (rP3 (rPL Xa) Xa Xa)) v_3 a_3) K Xa v_4 a_4)) (σ:=[some v_0, some v_1, some v_2, some v_3, some v_4, none]) 0 ?_ (SC.i (SC.i (SC.i (SC.i (SC.i SC.t h_0) h_1) h_2) h_3) h_4) hm q rfl
  unfold ZQ
  exact (Hl (K:=K) (d:="PlaitError") (N:=6) (i:=5) Y (.head _) h_PlaitError (λ_=>(Ev.toB (Dy (Xc (r:=Xa) 0 rfl (λ_ s=>s.l.l.l.l.r)) (Xc (r:=(rV (rV Xa))) 1 rfl (λ_ s=>s.l.l.l.r)) (Xc (r:=(rV (rV Xa))) 2 rfl (λ_ s=>s.l.l.r)) (Xc (r:=(rV (rP3 (rPL Xa) Xa Xa))) 3 rfl (λ_ s=>s.l.r)) (Xc (r:=Xa) 4 rfl (λ_ s=>s.r))))) (Xx (EvS.ev (EvB.sh (JS false)))) (λx1 hx C a hC=>(Xx (EvS.ev (EvB.sh (Qr (Ce 5 rfl (Y.att _ hx C hC) (Y.kit _ hx "TooBig" (.tail _ (.head _)) C C_TooBig hC h_TooBig)) (Qr (Ik 5 rfl (Y.att _ hx C hC) (Y.val _ hx C hC)) (Eb (Ce 5 rfl (Y.att _ hx C hC) (Y.kit _ hx "NoUnit" (.tail _ (.tail _ (.head _))) C C_NoUnit hC h_NoUnit))))))))))
theorem ZY : FnScope ["_law_script", "_law_some", "_law_small", "_law_big", "_law_size", "_law_kept", "_law_paper", "_law_pairs", "_law_k", "_law_door", "_law_one", "_law_other", "_law_handed"] ["_law_script"] (Xi Vg):=⟨rfl, rfl, rfl, by decide +kernel, rfl, by decide +kernel, by decide +kernel⟩
theorem Mj {f : Addr} {fd : FuncData} (F : Fun K "law" "law" Vg f fd) (g_row : Fn P w K mg base 2 "_law_row" ["_law_script", "_law_place", "_law_sizes"] (sp3 (rL Xa) Xa (rV Xa) (oL (oF Xa)) Kg K)) (g_table : Fn P w K mg base 3 "_law_table" ["_law_script", "_law_place", "_law_most"] (sp3 (rL Xa) Xa Xa (oL (oL (oF Xa))) QN K)) (g_made : Fn P w K mg base 2 "_law_made" ["_law_way", "_law_size", "_law_factor"] (sp3 Xa Xa Xa (oL (oL (oF Xa))) Jk K)) (g_like : FnX P w K mg base 4 "like" ["one", "other"] (KP mg (rV (rV Xa)) (rV (rV Xa)) (VZ (oL (oF Xa))) Qb K)) (g_unlike : FnX P w K mg base 4 "unlike" ["one", "other"] (KP mg (rV (rV Xa)) (rV (rV Xa)) (VZ (oL (oF (rP3 (rPL Xa) Xa Xa)))) Y8 K)) (g_refused : Fn P w K mg base 7 "_law_refused" ["_law_door", "_law_one", "_law_other", "_law_paper", "_law_size"] (sp5 Xa (rV (rV Xa)) (rV (rV Xa)) (rV (rP3 (rPL Xa) Xa Xa)) Xa (oF XR) ZQ K)) (g_asked : FnX P w K mg base 6 "_law_asked" ["_law_door", "_law_one", "_law_other", "_law_paper", "_law_size"] (IW mg Xa (rV (rV Xa)) (rV (rV Xa)) (rV (rP3 (rPL Xa) Xa Xa)) Xa (oF XR) ZL K)) (Y : Ecs Xy K mg) (Z : Blt mg) : FnOk P w K mg base CX0 8 f fd ["_law_script"] (sp1 (rL Xa) (oF XR) K1 K):=by
  refine F.ok ZY (λvs H Q E h=>?_) (λcdv A outer s H vs Q E hr h=>?_)
  . obtain ⟨v_0, a_0, b, rfl, _⟩:=h; rfl
  obtain ⟨v_0, a_0, b, rfl, h_0, hm, q⟩:=h
  have hu:=hu8 hr
  have hu1:=Yl hr
  apply Exists.intro
  apply And.intro
  case left=>
   refine' Xd ?zq1 ?zq2
   case zq1=>
    refine' XF (i:=1) ?zq3 ?zq4 ?zq5 ?zq6
    case zq3=>
     exact ZY.nd
    case zq4=>
     exact rfl
    case zq5=>
     exact (Or.inl rfl)
    case zq6=>
     refine' Yq g_row hr ?zq7 ?zq8
     case zq7=>
      exact (by decide)
     case zq8=>
      refine' Xb ?zq9 ?zq10
      case zq9=>
       exact (pv 0)
      case zq10=>
       refine' Xb ?zq11 ?zq12
       case zq11=>
        exact Xh
       case zq12=>
        refine' Xb ?zq13 ?zq14 Zs
        case zq13=>
         exact (X3 (Xb Xh (Xb Xh (Xb Xh (Xb Xh (Xb Xh (Xb Xh (Xb (XB CY Xh Xh) (Xb Xh (Xb Xh Xe))))))))))
        case zq14=>
         exact Xe
   case zq2=>
    refine' Xd ?zq15 ?zq16
    case zq15=>
     exact (XF (i:=2) ZY.nd rfl (Or.inl rfl) (Yq g_table hr (by decide) (Xb (pv 0) (Xb Xh (Xb Xh Xe)))))
    case zq16=>
     refine' Xd ?zq17 ?zq18
     case zq17=>
      refine' XF (i:=3) ?zq19 ?zq20 ?zq21 ?zq22
      case zq19=>
       exact ZY.nd
      case zq20=>
       exact rfl
      case zq21=>
       exact (Or.inl rfl)
      case zq22=>
       refine' Yq g_made hr ?zq23 ?zq24
       case zq23=>
        exact (by decide)
       case zq24=>
        refine' Xb ?zq25 ?zq26
        case zq25=>
         exact (XO (Xm K rfl) (pv 1) Xh (λ_ _=>rfl))
        case zq26=>
         exact (Xb (XB Yv Xh (XO (Xm K rfl) (pv 1) Xh (λ_ _=>rfl))) (Xb (XB Yv Xh (XO (Xm K rfl) (pv 1) Xh (λ_ _=>rfl))) Xe))
     case zq18=>
      refine' Xd ?zq27 ?zq28
      case zq27=>
       refine' XF (i:=4) ?zq29 ?zq30 ?zq31 ?zq32
       case zq29=>
        exact ZY.nd
       case zq30=>
        exact rfl
       case zq31=>
        exact (Or.inl rfl)
       case zq32=>
        refine' XO (Xm K rfl) ?zq33 ?zq34 (λ_ _=>rfl)
        case zq33=>
         exact (X3 (Xb (XB Yv Xh (XO (Xm K rfl) (pv 1) Xh (λ_ _=>rfl))) (Xb (XB Yv Xh (XO (Xm K rfl) (pv 1) Xh (λ_ _=>rfl))) Xe)))
        case zq34=>
         exact (XO (Xm K rfl) (pv 1) Xh (λ_ _=>rfl))
      case zq28=>
       refine' Xd ?zq35 ?zq36
       case zq35=>
        refine' XF (i:=5) ?zq37 ?zq38 ?zq39 ?zq40
        case zq37=>
         exact ZY.nd
        case zq38=>
         exact rfl
        case zq39=>
         exact (Or.inl rfl)
        case zq40=>
         refine' X3 ?zq41
         case zq41=>
          refine' Xb ?zq42 ?zq43
          case zq42=>
           exact (Yz (sc:=(Xi Vg)) (N0:=["_law_script", "_law_some", "_law_small", "_law_big", "_law_size", "_law_kept", "_law_paper", "_law_pairs", "_law_k", "_law_door", "_law_one", "_law_other", "_law_handed"]) (tns:=["_law_line"]) (caps:=[]) rfl (Yb (K:=K) rfl (pv 2)) (Yt (by decide)) (λcl C s H ex E=>⟨Xu (i:=0) (show List.Nodup (["_law_line"] : List Str) by decide +kernel) rfl (Or.inl rfl), Y5, (YW (Yy K rfl) rfl Z.b_list PyProof.Rows.boot_list (Xb (pv 0) Xe))⟩))
          case zq43=>
           refine' Xb ?zq44 ?zq45
           case zq44=>
            exact (Yz (sc:=(Xi Vg)) (N0:=["_law_script", "_law_some", "_law_small", "_law_big", "_law_size", "_law_kept", "_law_paper", "_law_pairs", "_law_k", "_law_door", "_law_one", "_law_other", "_law_handed"]) (tns:=["_law_line"]) (caps:=[]) rfl (Yb (K:=K) rfl (pv 3)) (Yt (by decide)) (λcl C s H ex E=>⟨Xu (i:=0) (show List.Nodup (["_law_line"] : List Str) by decide +kernel) rfl (Or.inl rfl), Y5, (YW (Yy K rfl) rfl Z.b_list PyProof.Rows.boot_list (Xb (pv 0) Xe))⟩))
           case zq45=>
            exact Xe
       case zq36=>
        refine' Xd ?zq46 ?zq47
        case zq46=>
         refine' XF (i:=6) ?zq48 ?zq49 ?zq50 ?zq51
         case zq48=>
          exact ZY.nd
         case zq49=>
          exact rfl
         case zq50=>
          exact (Or.inl rfl)
         case zq51=>
          refine' XO (Xm K rfl) ?zq52 ?zq53 (λ_ _=>rfl)
          case zq52=>
           refine' X3 ?zq54
           case zq54=>
            refine' Xb ?zq55 ?zq56 Zs
            case zq55=>
             exact (X3 Xe)
            case zq56=>
             refine' Xb ?zq57 ?zq58 Zs
             case zq57=>
              exact (X3 (Xb (YL (Xb (YL (Xb Xh Xe)) (Xb Xh (Xb Xh Xe)))) Xe))
             case zq58=>
              refine' Xb ?zq59 ?zq60 Zs
              case zq59=>
               refine' X3 ?zq61
               case zq61=>
                refine' Xb ?zq62 ?zq63
                case zq62=>
                 refine' YL ?zq64
                 case zq64=>
                  exact (Xb (YL (Xb (XO (Xm K rfl) (pv 1) Xh (λ_ _=>rfl)) (Xb (XO (Xm K rfl) (pv 1) Xh (λ_ _=>rfl)) Xe))) (Xb Xh (Xb Xh Xe)))
                case zq63=>
                 exact (Xb (YL (Xb (YL (Xb Xh (Xb Xh Xe))) (Xb Xh (Xb Xh Xe)))) Xe)
              case zq60=>
               exact Xe
          case zq53=>
           exact (XO (Xm K rfl) (pv 1) Xh (λ_ _=>rfl))
        case zq47=>
         refine' Xd ?zq65 ?zq66
         case zq65=>
          refine' XF (i:=7) ?zq67 ?zq68 ?zq69 ?zq70
          case zq67=>
           exact ZY.nd
          case zq68=>
           exact rfl
          case zq69=>
           exact (Or.inl rfl)
          case zq70=>
           exact (X3 (Xb (YL (Xb (pv 2) (Xb (pv 3) Xe))) (Xb (YL (Xb (pv 3) (Xb (pv 2) Xe))) (Xb (YL (Xb (pv 3) (Xb (pv 3) Xe))) Xe))))
         case zq66=>
          refine' Xd ?zq71 ?zq72
          case zq71=>
           refine' YF PassesOwn.never ?zq73 ?zq74 ?zq75 ?zq76
           case zq73=>
            exact rfl
           case zq74=>
            exact (XZ rfl Z.b_range (Xb Xh Xe))
           case zq75=>
            exact (Xu (i:=8) ZY.nd rfl (Or.inl rfl))
           case zq76=>
            refine' Xd ?zq77 ?zq78
            case zq77=>
             exact (XF (i:=9) ZY.nd rfl (Or.inl rfl) (XB YJ (XB Yv (pv 8) (XO (Xm K rfl) (pv 1) Xh (λ_ _=>rfl))) Xh))
            case zq78=>
             refine' Xd ?zq79 ?zq80
             case zq79=>
              refine' EX ?zq81 ?zq82
              case zq81=>
               exact (XO (Xm K rfl) (pv 7) (XB YJ (XO (Xm K rfl) (pv 1) Xh (λ_ _=>rfl)) Xh) (λ_ _=>rfl))
              case zq82=>
               exact (KA rfl (Y7 (Xu (i:=10) ZY.nd rfl (Or.inl rfl)) (Y7 (Xu (i:=11) ZY.nd rfl (Or.inl rfl)) JT)))
             case zq80=>
              refine' Xd ?zq83 ?zq84
              case zq83=>
               exact (XF (i:=12) ZY.nd rfl (Or.inl rfl) (YW (Yy K rfl) rfl Z.b_list PyProof.Rows.boot_list (Xb (pv 6) Xe)))
              case zq84=>
               refine' Xd ?zq85 ?zq86
               case zq85=>
                refine' YD ?zq87 ?zq88 ?zq89
                case zq87=>
                 refine' PW.pt ?zq90
                 case zq90=>
                  refine' HL ?zq91 ?zq92
                  case zq91=>
                   exact (DR (V8 (Yq g_refused hr (by decide) (Xb (pv 9) (Xb (pv 10) (Xb (pv 11) (Xb (pv 12) (Xb (pv 4) Xe))))))))
                  case zq92=>
                   exact (DE (Xs (Es (Mb (MZ (Nb eq_int) (eq_int.up (by decide)) (eq_int.up (by decide)))) (BH (by decide) hu)) (pv 12) (pv 6) (XC _)))
                case zq88=>
                 exact (Xd (Xw KU)
        Xg)
                case zq89=>
                 exact Xg
               case zq86=>
                refine' Xd ?zq93 ?zq94
                case zq93=>
                 refine' YD ?zq95 ?zq96 ?zq97
                 case zq95=>
                  refine' PW.pt ?zq98
                  case zq98=>
                   refine' HL ?zq99 ?zq100
                   case zq99=>
                    refine' DR ?zq101
                    case zq101=>
                     refine' V8 ?zq102
                     case zq102=>
                      refine' Zl g_asked hr ?zq103 Ec ?zq104
                      case zq103=>
                       exact (by decide)
                      case zq104=>
                       exact (Xb (pv 9) (Xb (pv 2) (Xb (pv 2) (Xb (YW (Yy K rfl) rfl Z.b_list PyProof.Rows.boot_list (Xb (pv 6) Xe)) (Xb Xh Xe)))))
                   case zq100=>
                    exact (DE (Xs (Es (Mb (Mb (Mb eq_int))) (BH (by decide) hu)) (X3 (Xb (pv 2) (Xb (pv 3) Xe))) (pv 5) (XC _)))
                 case zq96=>
                  exact (Xd (Xw KU)
        Xg)
                 case zq97=>
                  exact Xg
                case zq94=>
                 exact Xg
          case zq72=>
           refine' Xd ?zq105 ?zq106
           case zq105=>
            refine' Xw ?zq107
            case zq107=>
             exact (VS (JK UU (Zl g_like hr (by decide) Ec (Xb (pv 2) (Xb (pv 2) Xe))) Zj (XC _)) (G6 (JK U1 (Zl g_unlike hr (by decide) Ec (Xb (pv 2) (Xb (pv 2) Xe))) Zj (XC _))))
           case zq106=>
            exact Xg
  refine Y3 (S:=(SC.add SC.nil K (rL Xa) v_0 a_0)) (σ:=[some v_0, none, none, none, none, none, none, none, none, none, none, none, none]) 0 ?_ (SC.i SC.t h_0) hm q rfl
  unfold K1
  exact (X1 (K:=K) (r:=(rV Xa)) 1 (Ev.sh (Z3 (Xc (r:=(rL Xa)) 0 rfl (λ_ s=>s.r)) (Xf 2) (Ev.toB (ZO (Xn (EvB.sh (Xf 36)) (Xn (EvB.sh (Xf 3)) (Xn (EvB.sh (Xf 6)) (Xn (EvB.sh (Xf 6)) (Xn (EvB.sh (Xf 18)) (Xn (EvB.sh (Xf 5)) (Xn (EvB.sh (KW (Xf 10) (Xf 59))) (Xn (EvB.sh (Xf 2)) (Xn (EvB.sh (Xf 7)) Yn))))))))))))) λa1 v2=>(X1 (K:=K) (r:=(rV (rV Xa))) 2 (Ev.sh (Z3 (Xc (r:=(rL Xa)) 0 rfl (λ_ s=>s.l.r)) (Xf 0) (Xf 6))) λa28 v29=>(X1 (K:=K) (r:=(rV (rV Xa))) 3 (Ev.sh (Z3 (XJ (Xc (r:=(rV Xa)) 1 rfl (λ_ s=>s.l.r)) (Xf 8)) (X4 (Xf 7) (XJ (Xc (r:=(rV Xa)) 1 rfl (λ_ s=>s.l.r)) (Xf 4))) (X4 (Xf 1) (XJ (Xc (r:=(rV Xa)) 1 rfl (λ_ s=>s.l.r)) (Xf 2))))) λa34 v35=>(X1 (K:=K) (r:=Xa) 4 (EvB.sh (XJ (Ev.toB (ZO (Xn (EvB.sh (X4 (Xf 5) (XJ (Xc (r:=(rV Xa)) 1 rfl (λ_ s=>s.l.l.r)) (Xf 0)))) (Xn (EvB.sh (X4 (Xf 5) (XJ (Xc (r:=(rV Xa)) 1 rfl (λ_ s=>s.l.l.r)) (Xf 6)))) Yn)))) (XJ (Xc (r:=(rV Xa)) 1 rfl (λ_ s=>s.l.l.r)) (Xf 7)))) λa50 v51=>(X1 (K:=K) (r:=(rV (rV (rV Xa)))) 5 (Ev.sh (QK (XY (Y6 (λ_=>tg1 0) (X8 (Xo (r:=(rV (rV Xa))) 2 rfl (λ_ s=>s.l.l.r))) (λC72 a73 v74=>(Vf (EvS.ls (Xo (r:=(rV Xa)) 0 rfl (λ_ s=>s.r)))))) λ_=>(XY (Y6 (λ_=>tg1 0) (X8 (Xo (r:=(rV (rV Xa))) 3 rfl (λ_ s=>s.l.r))) (λC77 a78 v79=>(Vf (EvS.ls (Xo (r:=(rV Xa)) 0 rfl (λ_ s=>s.r)))))) λ_=>Z2)))) λa69 v70=>(X1 (K:=K) (r:=(rV (rP3 (rPL Xa) Xa Xa))) 6 (Ey (EvS.ls (Ev.sh (QK (XY (JU (o:=(oF (rP3 (rPL Xa) Xa Xa)))) λ_=>(XY (ZO (Xn (JF (QX (Xn (EvB.sh (Xf 0)) Yn)) (EvB.sh (Xf 0)) (EvB.sh (Xf 0))) Yn)) λ_=>(XY (ZO (Xn (JF (QX (Xn (EvB.sh (XJ (Xc (r:=(rV Xa)) 1 rfl (λ_ s=>s.l.l.l.l.r)) (Xf 2))) (Xn (EvB.sh (XJ (Xc (r:=(rV Xa)) 1 rfl (λ_ s=>s.l.l.l.l.r)) (Xf 3))) Yn))) (EvB.sh (Xf 0)) (EvB.sh (Xf 1))) (Xn (JF (QX (Xn (EvB.sh (Xf 1)) (Xn (EvB.sh (Xf 1)) Yn))) (EvB.sh (Xf 5)) (EvB.sh (Xf 5))) Yn))) λ_=>Z2)))))) (XJ (Xc (r:=(rV Xa)) 1 rfl (λ_ s=>s.l.l.l.l.r)) (Xf 1))) λa86 v87=>(X1 (K:=K) (r:=(rV (rP2 (rV (rV Xa)) (rV (rV Xa))))) 7 (Ev.sh (QK (XY (Q8 (EvS.ev (Xo (r:=(rV (rV Xa))) 2 rfl (λ_ s=>s.l.l.l.l.r))) λ_=>(EvS.ev (Xo (r:=(rV (rV Xa))) 3 rfl (λ_ s=>s.l.l.l.r)))) λ_=>(XY (Q8 (EvS.ev (Xo (r:=(rV (rV Xa))) 3 rfl (λ_ s=>s.l.l.l.r))) λ_=>(EvS.ev (Xo (r:=(rV (rV Xa))) 2 rfl (λ_ s=>s.l.l.l.l.r)))) λ_=>(XY (Q8 (EvS.ev (Xo (r:=(rV (rV Xa))) 3 rfl (λ_ s=>s.l.l.l.r))) λ_=>(EvS.ev (Xo (r:=(rV (rV Xa))) 3 rfl (λ_ s=>s.l.l.l.r)))) λ_=>Z2))))) λa133 v134=>(Jd (K:=K) (J:=({ oo:=λx149=>[], ss:=λx149=>[some v_0, some v2, some v29, some v35, some v51, some v70, some v87, some v134, x149.1, x149.2.1, x149.2.2.1, x149.2.2.2.1, x149.2.2.2.2], sc:=λg150 x149=>(SC.add (SC.add (SC.add (SC.add (SC.add (SC.add (SC.add (SC.add SC.nil K (rL Xa) v_0 a_0) K (rV Xa) v2 a1) K (rV (rV Xa)) v29 a28) K (rV (rV Xa)) v35 a34) K Xa v51 a50) K (rV (rV (rV Xa))) v70 a69) K (rV (rP3 (rPL Xa) Xa Xa)) v87 a86) K (rV (rP2 (rV (rV Xa)) (rV (rV Xa)))) v134 a133) } : Jn (Unit) (Option V × Option V × Option V × Option V × Option V))) (λ_=>tg1 8) ((none), (none), (none), (none), (none)) () (XH (Xf 5)) rfl rfl (λ_ s=>(SC.i (SC.i (SC.i (SC.i (SC.i (SC.i (SC.i (SC.i SC.t s.l.l.l.l.l.l.l.r) s.l.l.l.l.l.l.r) s.l.l.l.l.l.r) s.l.l.l.l.r) s.l.l.l.r) s.l.l.r) s.l.r) s.r)) (λg151 x152 a153 v154=>(X1 (K:=K) (r:=Xa) 9 (EvB.sh (Yc (X4 (Xc (r:=Xa) 8 rfl (λ_ s=>s.r)) (XJ (Xc (r:=(rV Xa)) 1 rfl (λ_ s=>s.l.l.l.l.l.l.l.r)) (Xf 5))) (Xf 5))) λa155 v156=>(Md 10 11 (Ey (EvS.ls (Xo (r:=(rV (rP2 (rV (rV Xa)) (rV (rV Xa))))) 7 rfl (λ_ s=>s.l.l.r))) (Yc (XJ (Xc (r:=(rV Xa)) 1 rfl (λ_ s=>s.l.l.l.l.l.l.l.l.r)) (Xf 3)) (Xf 3))) λa169 v170 v171=>(X1 (K:=K) (r:=(rV (rP3 (rPL Xa) Xa Xa))) 12 (Ev.sh (Vf (EvS.ls (Xo (r:=(rV (rP3 (rPL Xa) Xa Xa))) 6 rfl (λ_ s=>s.l.l.l.l.l.r))))) λa172 v173=>(QQ (Dz (Gj (KY (K:=K) (Ev.toB (Jv (Xc (r:=Xa) 9 rfl (λ_ s=>s.l.l.l.r)) (Xc (r:=(rV (rV Xa))) 10 rfl (λ_ s=>s.l.l.r)) (Xc (r:=(rV (rV Xa))) 11 rfl (λ_ s=>s.l.r)) (Xc (r:=(rV (rP3 (rPL Xa) Xa Xa))) 12 rfl (λ_ s=>s.r)) (Xc (r:=Xa) 4 rfl (λ_ s=>s.l.l.l.l.l.l.l.l.r)))))) (Xl (K:=K) (F6 (Xc (r:=(rV (rP3 (rPL Xa) Xa Xa))) 12 rfl (λ_ s=>s.r)) (Xc (r:=(rV (rP3 (rPL Xa) Xa Xa))) 6 rfl (λ_ s=>s.l.l.l.l.l.l.r))))) (Xx (EvS.ev (EvB.sh (JS false)))) (QQ (Dz (Gj (KY (K:=K) (Ev.toB (F8 (Xc (r:=Xa) 9 rfl (λ_ s=>s.l.l.l.r)) (Xc (r:=(rV (rV Xa))) 2 rfl (λ_ s=>s.l.l.l.l.l.l.l.l.l.l.r)) (Xc (r:=(rV (rV Xa))) 2 rfl (λ_ s=>s.l.l.l.l.l.l.l.l.l.l.r)) (Ev.toB (Vf (EvS.ls (Xo (r:=(rV (rP3 (rPL Xa) Xa Xa))) 6 rfl (λ_ s=>s.l.l.l.l.l.l.r))))) (Xf 1))))) (Xl (K:=K) (F6 (Ev.toB (QK (XY (EvS.ev (Xo (r:=(rV (rV Xa))) 2 rfl (λ_ s=>s.l.l.l.l.l.l.l.l.l.l.r))) λ_=>(XY (EvS.ev (Xo (r:=(rV (rV Xa))) 3 rfl (λ_ s=>s.l.l.l.l.l.l.l.l.l.r))) λ_=>Z2)))) (Xc (r:=(rV (rV (rV Xa)))) 5 rfl (λ_ s=>s.l.l.l.l.l.l.l.r))))) (Xx (EvS.ev (EvB.sh (JS false)))) (ZW (XA (J:=_) ((some v154), (some v156), (some v170), (some v171), (some v173)) () rfl rfl (λ_ s=>(SC.i (SC.i (SC.i (SC.i (SC.i (SC.i (SC.i (SC.i SC.t s.l.l.l.l.l.l.l.l.l.l.l.l.r) s.l.l.l.l.l.l.l.l.l.l.l.r) s.l.l.l.l.l.l.l.l.l.l.r) s.l.l.l.l.l.l.l.l.l.r) s.l.l.l.l.l.l.l.l.r) s.l.l.l.l.l.l.l.r) s.l.l.l.l.l.l.r) s.l.l.l.l.l.r)))))))))) λg203 x204=>(Xx (EvS.ev (EvB.sh (Qr (Jx (tb:=tC .non) (Ev.toB (JX (Xc (r:=(rV (rV Xa))) 2 rfl (λ_ s=>s.l.l.l.l.l.r)) (Xc (r:=(rV (rV Xa))) 2 rfl (λ_ s=>s.l.l.l.l.l.r))))) (Vv (tb:=tC .non) (Ev.toB (JX (Xc (r:=(rV (rV Xa))) 2 rfl (λ_ s=>s.l.l.l.l.l.r)) (Xc (r:=(rV (rV Xa))) 2 rfl (λ_ s=>s.l.l.l.l.l.r)))))))))))))))))
end
theorem Bm {K : Fgg} {mg : Str -> Option Value} {h : Heap} (X : K.In h) (G : h.Ns mainGlobals mg) {x p0 : Str} {st : Stmt} {f : Addr} {oc : Value} {od an : Option Addr} {osl : Array (Option Value)} {kV doc pm cdv ct : Value} (hb : ∀ (kV doc pm : Value) (an : Option Addr) (cdv ct u0 : Value), bindArgs (PySem.W.fnOf x x (YY st) (Yr st) (Xi st) .none kV doc pm an cdv ct) ⟨[u0], []⟩ = pure ([p0].zip [u0])) (a : PySem.W.nsIn K mainGlobals x = some (some (.ref f))) (l : K.lookup f = some ⟨oc, od, .func (PySem.W.fnOf x x (YY st) (Yr st) (Xi st) .none kV doc pm an cdv ct), osl⟩) (c : PySem.W.codeIn K cdv x = true) (k : PySem.W.keepIn K (.ref f) = true) : Def K mg x st [p0]:=⟨f, _, QZ l c k, (QZ l c k).binds λ_ _ _ _ _ _ us hl=>(by obtain ⟨_, rfl⟩:=IY hl; exact hb ..), PySem.W.mg_of X G a⟩
theorem KQ {K : Fgg} {mg : Str -> Option Value} {h : Heap} (X : K.In h) (G : h.Ns mainGlobals mg) {x p0 p1 : Str} {st : Stmt} {f : Addr} {oc : Value} {od an : Option Addr} {osl : Array (Option Value)} {kV doc pm cdv ct : Value} (hb : ∀ (kV doc pm : Value) (an : Option Addr) (cdv ct u0 u1 : Value), bindArgs (PySem.W.fnOf x x (YY st) (Yr st) (Xi st) .none kV doc pm an cdv ct) ⟨[u0, u1], []⟩ = pure ([p0, p1].zip [u0, u1])) (a : PySem.W.nsIn K mainGlobals x = some (some (.ref f))) (l : K.lookup f = some ⟨oc, od, .func (PySem.W.fnOf x x (YY st) (Yr st) (Xi st) .none kV doc pm an cdv ct), osl⟩) (c : PySem.W.codeIn K cdv x = true) (k : PySem.W.keepIn K (.ref f) = true) : Def K mg x st [p0, p1]:=⟨f, _, QZ l c k, (QZ l c k).binds λ_ _ _ _ _ _ us hl=>(by obtain ⟨_, _, rfl⟩:=Lq hl; exact hb ..), PySem.W.mg_of X G a⟩
theorem IK {K : Fgg} {mg : Str -> Option Value} {h : Heap} (X : K.In h) (G : h.Ns mainGlobals mg) {x p0 p1 p2 : Str} {st : Stmt} {f : Addr} {oc : Value} {od an : Option Addr} {osl : Array (Option Value)} {kV doc pm cdv ct : Value} (hb : ∀ (kV doc pm : Value) (an : Option Addr) (cdv ct u0 u1 u2 : Value), bindArgs (PySem.W.fnOf x x (YY st) (Yr st) (Xi st) .none kV doc pm an cdv ct) ⟨[u0, u1, u2], []⟩ = pure ([p0, p1, p2].zip [u0, u1, u2])) (a : PySem.W.nsIn K mainGlobals x = some (some (.ref f))) (l : K.lookup f = some ⟨oc, od, .func (PySem.W.fnOf x x (YY st) (Yr st) (Xi st) .none kV doc pm an cdv ct), osl⟩) (c : PySem.W.codeIn K cdv x = true) (k : PySem.W.keepIn K (.ref f) = true) : Def K mg x st [p0, p1, p2]:=⟨f, _, QZ l c k, (QZ l c k).binds λ_ _ _ _ _ _ us hl=>(by obtain ⟨_, _, _, rfl⟩:=Ma hl; exact hb ..), PySem.W.mg_of X G a⟩
theorem MF {K : Fgg} {mg : Str -> Option Value} {h : Heap} (X : K.In h) (G : h.Ns mainGlobals mg) {x p0 p1 p2 p3 p4 : Str} {st : Stmt} {f : Addr} {oc : Value} {od an : Option Addr} {osl : Array (Option Value)} {kV doc pm cdv ct : Value} (hb : ∀ (kV doc pm : Value) (an : Option Addr) (cdv ct u0 u1 u2 u3 u4 : Value), bindArgs (PySem.W.fnOf x x (YY st) (Yr st) (Xi st) .none kV doc pm an cdv ct) ⟨[u0, u1, u2, u3, u4], []⟩ = pure ([p0, p1, p2, p3, p4].zip [u0, u1, u2, u3, u4])) (a : PySem.W.nsIn K mainGlobals x = some (some (.ref f))) (l : K.lookup f = some ⟨oc, od, .func (PySem.W.fnOf x x (YY st) (Yr st) (Xi st) .none kV doc pm an cdv ct), osl⟩) (c : PySem.W.codeIn K cdv x = true) (k : PySem.W.keepIn K (.ref f) = true) : Def K mg x st [p0, p1, p2, p3, p4]:=⟨f, _, QZ l c k, (QZ l c k).binds λ_ _ _ _ _ _ us hl=>(by obtain ⟨_, _, _, _, _, rfl⟩:=MV hl; exact hb ..), PySem.W.mg_of X G a⟩
theorem Mn {l : PySem.W.OpenLaw} {w : World} {K : Fgg} {h : Heap} {mg : Str -> Option Value} {fa f E0 E1 E2 : Addr} {tk0 : Tok} {tk1 : Tok} (X : K.In h) (G : h.Ns mainGlobals mg) (hfa : mg "law" = some (.ref fa)) {od an : Option Addr} {sl : Array (Option Value)} {oc kV dc pm cd ct : Value}
    (D1 : Def K mg "refuse_above" ZN ["most", "size"])
    (D2 : Def K mg "all_colours" Zo ["numbers", "size"])
    (D3 : Def K mg "each_once" QI ["count"])
    (D4 : Def K mg "longer_by_one" Zu ["lists", "count"])
    (D5 : Def K mg "broken" Uo ["table"])
    (D6 : Def K mg "breach_of_one" Zw ["table"])
    (D7 : Def K mg "breach_of_two" YM ["table"])
    (D8 : Def K mg "first_same" Ql ["column"])
    (D9 : Def K mg "breach_of_three" Y1 ["table"])
    (D10 : Def K mg "tables" Q7 ["size"])
    (D11 : Def K mg "all_columns" Zp ["size"])
    (D12 : Def K mg "longer_by_columns" Ye ["choices", "columns"])
    (D13 : Def K mg "table_of_columns" X9 ["columns"])
    (D14 : Def K mg "like" Bg ["one", "other"])
    (D15 : Def K mg "unlike" Uf ["one", "other"])
    (D16 : Def K mg "refuse_big" Qq ["one", "other"])
    (D17 : Def K mg "searched" Jf ["one", "other"])
    (D18 : Def K mg "longer_images" YS ["images", "size"])
    (D19 : Def K mg "first_breach" ZK ["one", "other", "images"])
    (D20 : Def K mg "equation_broken" Y4 ["one", "other", "images", "a", "b"])
    (D21 : Def K mg "kinds" Ut ["size"])
    (D22 : Def K mg "shuts" JN ["one", "other", "paper"])
    (D23 : Def K mg "breaks" Uc ["one", "other", "entry"])
    (D24 : Def K mg "is_place" Jg ["images", "number"])
    (D25 : Def K mg "begins_with_one" Yx ["order", "shut"])
    (D26 : Def K mg "_law_cell" CQ ["_law_script", "_law_place"])
    (D27 : Def K mg "_law_mix" HF ["_law_cell_here", "_law_k"])
    (D28 : Def K mg "_law_row" He ["_law_script", "_law_place", "_law_sizes"])
    (D29 : Def K mg "_law_cell_of" VD ["_law_way", "_law_size", "_law_factor", "_law_a", "_law_b"])
    (D30 : Def K mg "_law_common" Ux ["_law_one", "_law_other"])
    (D31 : Def K mg "_law_made" GV ["_law_way", "_law_size", "_law_factor"])
    (D32 : Def K mg "_law_ordered" Vw ["_law_some", "_law_count"])
    (D33 : Def K mg "_law_relaid" JC ["_law_some", "_law_spots"])
    (D34 : Def K mg "_law_table" Gb ["_law_script", "_law_place", "_law_most"])
    (D35 : Def K mg "_law_asked" K0 ["_law_door", "_law_one", "_law_other", "_law_paper", "_law_size"])
    (D36 : Def K mg "_law_refused" Vp ["_law_door", "_law_one", "_law_other", "_law_paper", "_law_size"])
    (a : PySem.W.nsIn K mainGlobals "law" = some (some (.ref f))) (l0 : K.lookup f = some ⟨oc, od, .func (PySem.W.fnOf "law" "law" (YY Vg) (Yr Vg) (Xi Vg) .none kV dc pm an cd ct), sl⟩) (c : PySem.W.codeIn K cd "law" = true) (k : PySem.W.keepIn K (.ref f) = true)
    (z1 : PySem.W.nsIn K mainGlobals "ValueError" = some none)
    (z2 : PySem.W.nsIn K mainGlobals "abs" = some none)
    (z3 : PySem.W.nsIn K mainGlobals "all" = some none)
    (z4 : PySem.W.nsIn K mainGlobals "any" = some none)
    (z5 : PySem.W.nsIn K mainGlobals "dict" = some none)
    (z6 : PySem.W.nsIn K mainGlobals "enumerate" = some none)
    (z7 : PySem.W.nsIn K mainGlobals "isinstance" = some none)
    (z8 : PySem.W.nsIn K mainGlobals "len" = some none)
    (z9 : PySem.W.nsIn K mainGlobals "list" = some none)
    (z10 : PySem.W.nsIn K mainGlobals "max" = some none)
    (z11 : PySem.W.nsIn K mainGlobals "range" = some none)
    (z12 : PySem.W.nsIn K mainGlobals "set" = some none)
    (z13 : PySem.W.nsIn K mainGlobals "sorted" = some none)
    (z14 : PySem.W.nsIn K mainGlobals "tuple" = some none)
    (w0 : PySem.W.nsIn K mainGlobals "MOST_OF_ALL" = some (some (.int 4 tk0)))
    (w1 : PySem.W.nsIn K mainGlobals "MOST_TO_COMPARE" = some (some (.int 6 tk1)))
    (x0 : PySem.W.nsIn K mainGlobals "PlaitError" = some (some (.ref E0)))
    (x1 : PySem.W.nsIn K mainGlobals "TooBig" = some (some (.ref E1)))
    (x2 : PySem.W.nsIn K mainGlobals "NoUnit" = some (some (.ref E2)))
    (yg : PySem.W.specialIn K (.builtin "object.__class__") "__get__" = some (some (.builtin "getset_descriptor.__get__")))
    (yt : PySem.W.takesIn K (.builtin "object.__class__") = some true)
    (ya0 : PySem.W.excIn K E0 vEr "ValueError.__new__" = true)
    (yb0 : PySem.W.findIn K (.ref E0) "__getattribute__" = some (some (.builtin "BaseException.__getattribute__")))
    (yc0 : PySem.W.findIn K (.ref E0) "__getattr__" = some none)
    (yd0 : PySem.W.findIn K (.ref E0) "__class__" = some (some (.builtin "object.__class__")))
    (ye0 : PySem.W.mroIn K E0 (.type "object") = some true)
    (yf0 : PySem.W.isClsIn K E0 = true)
    (yh0 : PySem.W.mroIn K E0 (.type "BaseException") = some true)
    (yi0 : PySem.W.subIn K (.ref E0) (.type "ValueError") = some true)
    (yj0 : PySem.W.typeIn K (.ref E0) = some (.type "type"))
    (yk0 : PySem.W.subIn K (.ref E0) (.type "BaseException") = some true)
    (ya1 : PySem.W.excIn K E1 vEr "ValueError.__new__" = true)
    (yb1 : PySem.W.findIn K (.ref E1) "__getattribute__" = some (some (.builtin "BaseException.__getattribute__")))
    (yc1 : PySem.W.findIn K (.ref E1) "__getattr__" = some none)
    (yd1 : PySem.W.findIn K (.ref E1) "__class__" = some (some (.builtin "object.__class__")))
    (ye1 : PySem.W.mroIn K E1 (.type "object") = some true)
    (yf1 : PySem.W.isClsIn K E1 = true)
    (yh1 : PySem.W.mroIn K E1 (.type "BaseException") = some true)
    (yi1 : PySem.W.subIn K (.ref E1) (.type "ValueError") = some true)
    (yj1 : PySem.W.typeIn K (.ref E1) = some (.type "type"))
    (yk1 : PySem.W.subIn K (.ref E1) (.type "BaseException") = some true)
    (ya2 : PySem.W.excIn K E2 vEr "ValueError.__new__" = true)
    (yb2 : PySem.W.findIn K (.ref E2) "__getattribute__" = some (some (.builtin "BaseException.__getattribute__")))
    (yc2 : PySem.W.findIn K (.ref E2) "__getattr__" = some none)
    (yd2 : PySem.W.findIn K (.ref E2) "__class__" = some (some (.builtin "object.__class__")))
    (ye2 : PySem.W.mroIn K E2 (.type "object") = some true)
    (yf2 : PySem.W.isClsIn K E2 = true)
    (yh2 : PySem.W.mroIn K E2 (.type "BaseException") = some true)
    (yi2 : PySem.W.subIn K (.ref E2) (.type "ValueError") = some true)
    (yj2 : PySem.W.typeIn K (.ref E2) = some (.type "type"))
    (yk2 : PySem.W.subIn K (.ref E2) (.type "BaseException") = some true)
    (yl0_0 : PySem.W.subIn K (.ref E0) (.ref E0) = some true)
    (yl0_1 : PySem.W.subIn K (.ref E0) (.ref E1) = some false)
    (yl0_2 : PySem.W.subIn K (.ref E0) (.ref E2) = some false)
    (yl1_0 : PySem.W.subIn K (.ref E1) (.ref E0) = some true)
    (yl1_1 : PySem.W.subIn K (.ref E1) (.ref E1) = some true)
    (yl1_2 : PySem.W.subIn K (.ref E1) (.ref E2) = some false)
    (yl2_0 : PySem.W.subIn K (.ref E2) (.ref E0) = some true)
    (yl2_1 : PySem.W.subIn K (.ref E2) (.ref E1) = some false)
    (yl2_2 : PySem.W.subIn K (.ref E2) (.ref E2) = some true)
    : ∃ fd : FuncData, (∀ (s : Shared) (v : Value), BindsTo s fd ⟨[v], []⟩ [("_law_script", v)]) /\ ∀ base : Heap, K.In base -> base.Ns mainGlobals mg -> FnOk l.prog w K mg base CX0 8 fa fd ["_law_script"] (sp1 (rL Xa) (oF XR) K1 K):=by
  have e:=hfa.symm.trans (PySem.W.mg_of X G a)
  cases e
  have N : ∀ {x : Str}, PySem.W.nsIn K mainGlobals x = some none -> mg x = none:=λz=>PySem.W.mg_none_of X G z
  have pz0 : JM "PlaitError" = true:=by decide
  have er0:=DJ yb0 yc0 yd0 ye0 yf0 yh0 yg yt
  have iz0_0 : QD "PlaitError" "PlaitError" = true:=by decide
  have kx0_0:=UJ yl0_0 yl0_0 yf0 yj0 yk0
  have iz0_1 : QD "PlaitError" "TooBig" = false:=by decide
  have kx0_1:=UJ yl0_0 yl0_1 yf1 yj1 yk1
  have iz0_2 : QD "PlaitError" "NoUnit" = false:=by decide
  have kx0_2:=UJ yl0_0 yl0_2 yf2 yj2 yk2
  have pz1 : JM "TooBig" = true:=by decide
  have er1:=DJ yb1 yc1 yd1 ye1 yf1 yh1 yg yt
  have iz1_0 : QD "TooBig" "PlaitError" = true:=by decide
  have kx1_0:=UJ yl1_1 yl1_0 yf0 yj0 yk0
  have iz1_1 : QD "TooBig" "TooBig" = true:=by decide
  have kx1_1:=UJ yl1_1 yl1_1 yf1 yj1 yk1
  have iz1_2 : QD "TooBig" "NoUnit" = false:=by decide
  have kx1_2:=UJ yl1_1 yl1_2 yf2 yj2 yk2
  have pz2 : JM "NoUnit" = true:=by decide
  have er2:=DJ yb2 yc2 yd2 ye2 yf2 yh2 yg yt
  have iz2_0 : QD "NoUnit" "PlaitError" = true:=by decide
  have kx2_0:=UJ yl2_2 yl2_0 yf0 yj0 yk0
  have iz2_1 : QD "NoUnit" "TooBig" = false:=by decide
  have kx2_1:=UJ yl2_2 yl2_1 yf1 yj1 yk1
  have iz2_2 : QD "NoUnit" "NoUnit" = true:=by decide
  have kx2_2:=UJ yl2_2 yl2_2 yf2 yj2 yk2
  have y0 : Hv K [("PlaitError", E0), ("TooBig", E1), ("NoUnit", E2)] = true:=by
    unfold Hv
    simp only [List.all_cons, List.all_nil, Bool.and_true, Bool.and_self, beq_self_eq_true, Bool.not_true, Bool.not_false, Bool.false_or, Bool.true_or, pz0, ya0, er0, Gh yi0, pz1, ya1, er1, Gh yi1, pz2, ya2, er2, Gh yi2, iz0_0, kx0_0.1, kx0_0.2, iz0_1, kx0_1.1, kx0_1.2, iz0_2, kx0_2.1, kx0_2.2, iz1_0, kx1_0.1, kx1_0.2, iz1_1, kx1_1.1, kx1_1.2, iz1_2, kx1_2.1, kx1_2.2, iz2_0, kx2_0.1, kx2_0.2, iz2_1, kx2_1.1, kx2_1.2, iz2_2, kx2_2.1, kx2_2.2]
  have Y : Ecs Xy K mg:=Ln (cs:=[("PlaitError", E0), ("TooBig", E1), ("NoUnit", E2)]) y0 (λp hp=>by
    simp only [List.mem_cons, List.not_mem_nil, or_false] at hp
    rcases hp with rfl | rfl | rfl
    . exact PySem.W.mg_of X G x0
    . exact PySem.W.mg_of X G x1
    . exact PySem.W.mg_of X G x2)
  have Z : Blt mg:=⟨N z1, N z2, N z3, N z4, N z5, N z6, N z7, N z8, N z9, N z10, N z11, N z12, N z13, N z14, ⟨_, PySem.W.mg_of X G w0, _, rfl⟩, ⟨_, PySem.W.mg_of X G w1, _, rfl⟩⟩
  refine ⟨PySem.W.fnOf "law" "law" (YY Vg) (Yr Vg) (Xi Vg) .none kV dc pm an cd ct, λs v=>.of_eq rfl, λbase _ _=>?_⟩
  have g_cell:=Ig (P:=l.prog) (w:=w) (base:=base) D26  Y Z
  have g_mix:=Mu (P:=l.prog) (w:=w) (base:=base) D27  Y Z
  have g_row:=LA (P:=l.prog) (w:=w) (base:=base) D28 g_cell g_mix Y Z
  have g_common:=De (P:=l.prog) (w:=w) (base:=base) D30  Y Z
  have g_cell_of:=Fq (P:=l.prog) (w:=w) (base:=base) D29  Y Z
  have g_made:=HS (P:=l.prog) (w:=w) (base:=base) D31 g_common g_cell_of Y Z
  have g_relaid:=Dc (P:=l.prog) (w:=w) (base:=base) D33  Y Z
  have g_ordered:=Fr (P:=l.prog) (w:=w) (base:=base) D32  Y Z
  have g_table:=B4 (P:=l.prog) (w:=w) (base:=base) D34 g_row g_made g_relaid g_ordered Y Z
  have g_refuse_above:=J9 (P:=l.prog) (w:=w) (base:=base) D1  Y Z
  have g_refuse_big:=Uv (P:=l.prog) (w:=w) (base:=base) D16 g_refuse_above Y Z
  have g_equation_broken:=QV (P:=l.prog) (w:=w) (base:=base) D20  Y Z
  have g_first_breach:=Vj (P:=l.prog) (w:=w) (base:=base) D19 g_equation_broken Y Z
  have g_longer_images:=Jr (P:=l.prog) (w:=w) (base:=base) D18  Y Z
  have g_searched:=K8 (P:=l.prog) (w:=w) (base:=base) D17 g_first_breach g_longer_images Y Z
  have g_like:=HN (P:=l.prog) (w:=w) (base:=base) D14 g_refuse_big g_searched Y Z
  have g_unlike:=Ct (P:=l.prog) (w:=w) (base:=base) D15 g_refuse_big g_searched Y Z
  have g_begins_with_one:=Q4 (P:=l.prog) (w:=w) (base:=base) D25  Y Z
  have g_is_place:=GD (P:=l.prog) (w:=w) (base:=base) D24  Y Z
  have g_all_colours:=VG (P:=l.prog) (w:=w) (base:=base) D2  Y Z
  have g_breaks:=DP (P:=l.prog) (w:=w) (base:=base) D23 g_is_place g_equation_broken g_all_colours Y Z
  have g_longer_by_one:=Jo (P:=l.prog) (w:=w) (base:=base) D4  Y Z
  have g_each_once:=U6 (P:=l.prog) (w:=w) (base:=base) D3 g_longer_by_one Y Z
  have g_shuts:=BW (P:=l.prog) (w:=w) (base:=base) D22 g_refuse_big g_begins_with_one g_breaks g_each_once Y Z
  have g_table_of_columns:=QO (P:=l.prog) (w:=w) (base:=base) D13  Y Z
  have g_longer_by_columns:=QC (P:=l.prog) (w:=w) (base:=base) D12  Y Z
  have g_all_columns:=VN (P:=l.prog) (w:=w) (base:=base) D11 g_each_once g_longer_by_columns Y Z
  have g_breach_of_one:=Js (P:=l.prog) (w:=w) (base:=base) D6  Y Z
  have g_first_same:=Uk (P:=l.prog) (w:=w) (base:=base) D8  Y Z
  have g_breach_of_two:=Jp (P:=l.prog) (w:=w) (base:=base) D7 g_first_same Y Z
  have g_breach_of_three:=Q2 (P:=l.prog) (w:=w) (base:=base) D9  Y Z
  have g_broken:=C0 (P:=l.prog) (w:=w) (base:=base) D5 g_breach_of_one g_breach_of_two g_breach_of_three Y Z
  have g_tables:=DF (P:=l.prog) (w:=w) (base:=base) D10 g_refuse_above g_table_of_columns g_all_columns g_broken Y Z
  have g_kinds:=B3 (P:=l.prog) (w:=w) (base:=base) D21 g_tables g_like Y Z
  have g_asked:=BF (P:=l.prog) (w:=w) (base:=base) D35 g_like g_unlike g_shuts g_tables g_kinds Y Z
  have g_refused:=Fg (P:=l.prog) (w:=w) (base:=base) D36 g_asked Y Z
  exact Mj (P:=l.prog) (w:=w) (base:=base) (QZ (st:=Vg) l0 c k) g_row g_table g_made g_like g_unlike g_refused g_asked Y Z
theorem NC {l : PySem.W.OpenLaw} {q : Program} {loose : List Str} {XP : (Str -> Option Value) -> Heap -> Prop} {YP : World -> Heap -> Prop} {d : DefRec} {K : Params -> Fgg} (hn : l.most = some 63) (hdf : d.params.defaults = [])
    (hY : ∀ (w : World) (h : Heap), YP w h -> (K w.params).In h)
    (F : ∀ (w : World) (mg : Str -> Option Value) (fa : Addr) (h : Heap), (K w.params).In h -> h.Ns mainGlobals mg -> mg d.name = some (.ref fa) ->
      ∃ fd : FuncData, (∀ (s : Shared) (u : Value), BindsTo s fd ⟨[u], []⟩ [("_law_script", u)]) /\ ∀ base : Heap, (K w.params).In base -> base.Ns mainGlobals mg -> FnOk l.prog w (K w.params) mg base CX0 8 fa fd ["_law_script"] (sp1 (rL Xa) (oF XR) K1 (K w.params))) :
    PySem.W.WalkO q loose XP YP l.row.toRowW d [] (λf vs=>PySem.call f vs):=
  L2.Hw (n:=63) (k:=8) (x:="_law_script") (CX:=λ_=>CX0) (sp:=λw=>sp1 (rL Xa) (oF XR) K1 (K w.params)) hn (by decide) hdf ⟨rfl, by decide, by decide⟩ hY F (λ_ _ a ns hl _ hS=>⟨.ref a, ns, true, rfl, ⟨a, _, rfl, hS, K3 ns⟩, BA ns hl, λv C H' w m ho=>ho.2⟩) λ_ _ _ _ _ z=>z
end My
open PySem PySem.W PyProof.Rows
set_option maxRecDepth 100000 in
set_option maxHeartbeats 0 in
theorem PySem.Challenge.cw_plait_k47_too_big_everywhere_holds : PySem.Challenge.rw_plait_k47_too_big_everywhere.Holds := by
  w_on; o_law; k_head; (case hw => w_witness2)
  k_fill
  refine My.NC (l := PySem.Challenge.rw_plait_k47_too_big_everywhere) rfl rfl (fun w h Y => PySem.W.kIn_of Y) ?F
  case F =>
    intro w mg fa h KX G hmg
    refine' My.Mn KX G hmg (My.KQ KX G (by intros; rfl) ?a1 ?l1 ?c1 ?k1) (My.KQ KX G (by intros; rfl) ?a2 ?l2 ?c2 ?k2) (My.Bm KX G (by intros; rfl) ?a3 ?l3 ?c3 ?k3) (My.KQ KX G (by intros; rfl) ?a4 ?l4 ?c4 ?k4) (My.Bm KX G (by intros; rfl) ?a5 ?l5 ?c5 ?k5) (My.Bm KX G (by intros; rfl) ?a6 ?l6 ?c6 ?k6) (My.Bm KX G (by intros; rfl) ?a7 ?l7 ?c7 ?k7) (My.Bm KX G (by intros; rfl) ?a8 ?l8 ?c8 ?k8) (My.Bm KX G (by intros; rfl) ?a9 ?l9 ?c9 ?k9) (My.Bm KX G (by intros; rfl) ?a10 ?l10 ?c10 ?k10) (My.Bm KX G (by intros; rfl) ?a11 ?l11 ?c11 ?k11) (My.KQ KX G (by intros; rfl) ?a12 ?l12 ?c12 ?k12) (My.Bm KX G (by intros; rfl) ?a13 ?l13 ?c13 ?k13) (My.KQ KX G (by intros; rfl) ?a14 ?l14 ?c14 ?k14) (My.KQ KX G (by intros; rfl) ?a15 ?l15 ?c15 ?k15) (My.KQ KX G (by intros; rfl) ?a16 ?l16 ?c16 ?k16) (My.KQ KX G (by intros; rfl) ?a17 ?l17 ?c17 ?k17) (My.KQ KX G (by intros; rfl) ?a18 ?l18 ?c18 ?k18) (My.IK KX G (by intros; rfl) ?a19 ?l19 ?c19 ?k19) (My.MF KX G (by intros; rfl) ?a20 ?l20 ?c20 ?k20) (My.Bm KX G (by intros; rfl) ?a21 ?l21 ?c21 ?k21) (My.IK KX G (by intros; rfl) ?a22 ?l22 ?c22 ?k22) (My.IK KX G (by intros; rfl) ?a23 ?l23 ?c23 ?k23) (My.KQ KX G (by intros; rfl) ?a24 ?l24 ?c24 ?k24) (My.KQ KX G (by intros; rfl) ?a25 ?l25 ?c25 ?k25) (My.KQ KX G (by intros; rfl) ?a26 ?l26 ?c26 ?k26) (My.KQ KX G (by intros; rfl) ?a27 ?l27 ?c27 ?k27) (My.IK KX G (by intros; rfl) ?a28 ?l28 ?c28 ?k28) (My.MF KX G (by intros; rfl) ?a29 ?l29 ?c29 ?k29) (My.KQ KX G (by intros; rfl) ?a30 ?l30 ?c30 ?k30) (My.IK KX G (by intros; rfl) ?a31 ?l31 ?c31 ?k31) (My.KQ KX G (by intros; rfl) ?a32 ?l32 ?c32 ?k32) (My.KQ KX G (by intros; rfl) ?a33 ?l33 ?c33 ?k33) (My.IK KX G (by intros; rfl) ?a34 ?l34 ?c34 ?k34) (My.MF KX G (by intros; rfl) ?a35 ?l35 ?c35 ?k35) (My.MF KX G (by intros; rfl) ?a36 ?l36 ?c36 ?k36) ?a37 ?l37 ?c37 ?k37 ?z1 ?z2 ?z3 ?z4 ?z5 ?z6 ?z7 ?z8 ?z9 ?z10 ?z11 ?z12 ?z13 ?z14 ?w0 ?w1 ?x0 ?x1 ?x2 ?yg ?yt ?ya0 ?yb0 ?yc0 ?yd0 ?ye0 ?yf0 ?yh0 ?yi0 ?yj0 ?yk0 ?ya1 ?yb1 ?yc1 ?yd1 ?ye1 ?yf1 ?yh1 ?yi1 ?yj1 ?yk1 ?ya2 ?yb2 ?yc2 ?yd2 ?ye2 ?yf2 ?yh2 ?yi2 ?yj2 ?yk2 ?yl0_0 ?yl0_1 ?yl0_2 ?yl1_0 ?yl1_1 ?yl1_2 ?yl2_0 ?yl2_1 ?yl2_2
    (case a1 => k_is); (case l1 => k_is); (case c1 => k_is); (case k1 => k_is); (case a2 => k_is); (case l2 => k_is); (case c2 => k_is); (case k2 => k_is); (case a3 => k_is); (case l3 => k_is); (case c3 => k_is); (case k3 => k_is); (case a4 => k_is); (case l4 => k_is); (case c4 => k_is); (case k4 => k_is); (case a5 => k_is); (case l5 => k_is); (case c5 => k_is); (case k5 => k_is); (case a6 => k_is); (case l6 => k_is); (case c6 => k_is); (case k6 => k_is); (case a7 => k_is); (case l7 => k_is); (case c7 => k_is); (case k7 => k_is); (case a8 => k_is); (case l8 => k_is); (case c8 => k_is); (case k8 => k_is); (case a9 => k_is); (case l9 => k_is); (case c9 => k_is); (case k9 => k_is); (case a10 => k_is); (case l10 => k_is); (case c10 => k_is); (case k10 => k_is); (case a11 => k_is); (case l11 => k_is); (case c11 => k_is); (case k11 => k_is); (case a12 => k_is); (case l12 => k_is); (case c12 => k_is); (case k12 => k_is); (case a13 => k_is); (case l13 => k_is); (case c13 => k_is); (case k13 => k_is); (case a14 => k_is); (case l14 => k_is); (case c14 => k_is); (case k14 => k_is); (case a15 => k_is); (case l15 => k_is); (case c15 => k_is); (case k15 => k_is); (case a16 => k_is); (case l16 => k_is); (case c16 => k_is); (case k16 => k_is); (case a17 => k_is); (case l17 => k_is); (case c17 => k_is); (case k17 => k_is); (case a18 => k_is); (case l18 => k_is); (case c18 => k_is); (case k18 => k_is); (case a19 => k_is); (case l19 => k_is); (case c19 => k_is); (case k19 => k_is); (case a20 => k_is); (case l20 => k_is); (case c20 => k_is); (case k20 => k_is); (case a21 => k_is); (case l21 => k_is); (case c21 => k_is); (case k21 => k_is); (case a22 => k_is); (case l22 => k_is); (case c22 => k_is); (case k22 => k_is); (case a23 => k_is); (case l23 => k_is); (case c23 => k_is); (case k23 => k_is); (case a24 => k_is); (case l24 => k_is); (case c24 => k_is); (case k24 => k_is); (case a25 => k_is); (case l25 => k_is); (case c25 => k_is); (case k25 => k_is); (case a26 => k_is); (case l26 => k_is); (case c26 => k_is); (case k26 => k_is); (case a27 => k_is); (case l27 => k_is); (case c27 => k_is); (case k27 => k_is); (case a28 => k_is); (case l28 => k_is); (case c28 => k_is); (case k28 => k_is); (case a29 => k_is); (case l29 => k_is); (case c29 => k_is); (case k29 => k_is); (case a30 => k_is); (case l30 => k_is); (case c30 => k_is); (case k30 => k_is); (case a31 => k_is); (case l31 => k_is); (case c31 => k_is); (case k31 => k_is); (case a32 => k_is); (case l32 => k_is); (case c32 => k_is); (case k32 => k_is); (case a33 => k_is); (case l33 => k_is); (case c33 => k_is); (case k33 => k_is); (case a34 => k_is); (case l34 => k_is); (case c34 => k_is); (case k34 => k_is); (case a35 => k_is); (case l35 => k_is); (case c35 => k_is); (case k35 => k_is); (case a36 => k_is); (case l36 => k_is); (case c36 => k_is); (case k36 => k_is); (case a37 => k_is); (case l37 => k_is); (case c37 => k_is); (case k37 => k_is); (case z1 => k_is); (case z2 => k_is); (case z3 => k_is); (case z4 => k_is); (case z5 => k_is); (case z6 => k_is); (case z7 => k_is); (case z8 => k_is); (case z9 => k_is); (case z10 => k_is); (case z11 => k_is); (case z12 => k_is); (case z13 => k_is); (case z14 => k_is); (case w0 => k_is); (case w1 => k_is); (case x0 => k_is); (case x1 => k_is); (case x2 => k_is); (case yg => k_is); (case yt => k_is); (case ya0 => k_exc); (case yb0 => k_is); (case yc0 => k_is); (case yd0 => k_is); (case ye0 => k_is); (case yf0 => k_is); (case yh0 => k_is); (case yi0 => k_is); (case yj0 => k_is); (case yk0 => k_is); (case ya1 => k_exc); (case yb1 => k_is); (case yc1 => k_is); (case yd1 => k_is); (case ye1 => k_is); (case yf1 => k_is); (case yh1 => k_is); (case yi1 => k_is); (case yj1 => k_is); (case yk1 => k_is); (case ya2 => k_exc); (case yb2 => k_is); (case yc2 => k_is); (case yd2 => k_is); (case ye2 => k_is); (case yf2 => k_is); (case yh2 => k_is); (case yi2 => k_is); (case yj2 => k_is); (case yk2 => k_is); (case yl0_0 => k_is); (case yl0_1 => k_is); (case yl0_2 => k_is); (case yl1_0 => k_is); (case yl1_1 => k_is); (case yl1_2 => k_is); (case yl2_0 => k_is); (case yl2_1 => k_is); (case yl2_2 => k_is)
