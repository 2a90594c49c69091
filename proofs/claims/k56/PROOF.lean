import PyProof.Rows.All
import Wide.All
import OpenK.AllK
import Wide.FinOn
import Lean
import PyProof.EqAt
import PyProof.EqKinds
import PyProof.TupleCall
import PySem.Challenge.RW_plait_k56_drawings_beside
set_option Elab.async false
set_option linter.all false
set_option maxRecDepth 100000
set_option genSizeOf false
set_option genInjectivity false
open Lean in
local macro_rules
|`(tactic|lia)=>do
 let h<-`(by assumption)
 let u<-`(_)
 let a:=λ(f:String) (l:List Term)=>Syntax.mkApp (mkIdent f.toName) l.toArray
 let b:=a "Nat.le_of_ble_eq_true" [mkIdent `rfl]
 let v:List (String×Term):=[("h",h),("b",b),("_",u),("c",a "Nat.lt_of_succ_le" [b]),("d",a "Nat.lt_of_lt_of_le" [h,b]),("e",a "Nat.lt_trans" [h,h]),("z",a "Nat.zero_le" [u]),("f",a "Nat.le_of_lt" [h]),("g",a "Eq.symm" [h]),("i",a "Nat.not_lt_of_le" [h]),("j",a "Nat.lt_irrefl" [u]),("k",a "Nat.not_lt_zero" [u])]
 let l<-("h|Nat.zero_le _|Nat.le_refl _|Nat.succ_pos _|Nat.le_of_lt h|Nat.le_of_lt_succ h|Nat.succ_le_of_lt h|Nat.lt_succ_of_le h|Nat.lt_succ_of_lt h|Nat.le_succ_of_le h|Nat.le_trans h b|Nat.lt_of_lt_of_le h b|Nat.le_of_lt d|Nat.le_trans b h|Nat.lt_of_le_of_lt h c|Nat.lt_of_lt_of_le c h|Nat.le_trans b f|Nat.lt_of_le_of_lt b h|Nat.lt_of_le_of_lt h h|Nat.lt_of_lt_of_le h h|Nat.le_trans h h|Nat.lt_trans h h|Nat.le_of_lt e|Nat.lt_of_le_of_lt z h|Nat.ne_of_lt h|Nat.ne_of_gt h|Nat.pos_of_ne_zero h|Nat.lt_of_le_of_ne h h|Nat.le_of_not_lt h|Nat.lt_of_not_le h|Nat.le_add_right _ _|Nat.le_add_left _ _|Nat.sub_le _ _|Nat.le_of_eq h|Nat.le_of_eq g|Nat.succ_lt_succ h|Nat.add_lt_add_left h _|Nat.lt_add_one _|Int.natCast_nonneg _|Int.ofNat_lt.mpr h|Int.ofNat_le.mpr h|Int.ofNat_lt.mp h|Int.ofNat_le.mp h|Int.le_of_lt h|Int.lt_of_le_of_lt h h|Int.lt_of_lt_of_le h h|Int.le_trans h h|Int.lt_trans h h|Int.le_of_not_gt h|Int.ne_of_lt h|Int.ne_of_gt h|Ne.symm h|Eq.symm h|absurd h i|absurd h j|absurd h k".splitOn "|").mapM λs=>do
  let w:=(s.splitOn " ").map λx=>(v.lookup x).getD (mkIdent x.toName)
  `(tacticSeq|exact $(Syntax.mkApp w.head! w.tail!.toArray))
 let l:=l.toArray
 `(tactic|first|(with_reducible first $[|$l]*)|lia -verbose)
set_option maxHeartbeats 4000000
namespace L2
open PySem PySem.Spec PyProof.Rows
noncomputable abbrev Key:=Sum Int Str
noncomputable def Di:Key->Value->Bool
 | .inl k,v=>Value.isInt k v
 | .inr x,v=>Value.isStrOf x v
noncomputable def Nz (w:World):Key->Int
 | .inl k=>hashInt k
 | .inr x=>hashStr w x
theorem YA:∀{k:Key}{v:Value},Di k v=true->(∃i t,k=Sum.inl i/\v=Value.int i t)∨(∃x t,k=Sum.inr x/\v=Value.str x t)
 | .inl i,v,h=>by
  obtain⟨t,e⟩:=Value.isInt_shape (k:=i) (v:=v) h
  exact .inl ⟨i,t,rfl,e⟩
 | .inr x,v,h=>by
  obtain⟨t,e⟩:=Value.isStrOf_shape (x:=x) (v:=v) h
  exact .inr ⟨x,t,rfl,e⟩
theorem Bt (i:Int)(t:Tok):Di (.inl i) (.int i t)=true:=by simp[Di,Value.isInt]
theorem BB (x:Str)(t:Tok):Di (.inr x) (.str x t)=true:=by simp[Di,Value.isStrOf]
theorem Lu (a b:Int):decide ((Sum.inl a:Key)=Sum.inl b)=(a==b):=by
 by_cases e:a=b
 ·subst e;simp
 ·have h:¬(Sum.inl a:Key)=Sum.inl b:=λq=>e (Sum.inl.inj q)
  rw[decide_eq_false h]
  exact(beq_eq_false_iff_ne.mpr e).symm
theorem Mf (a b:Str):decide ((Sum.inr a:Key)=Sum.inr b)=decide (a=b):=by
 by_cases e:a=b
 ·subst e;simp
 ·have h:¬(Sum.inr a:Key)=Sum.inr b:=λq=>e (Sum.inr.inj q)
  rw[decide_eq_false h,decide_eq_false e]
theorem Mv (a:Int)(b:Str):decide ((Sum.inl a:Key)=Sum.inr b)=false:=decide_eq_false (λq=>nomatch q)
theorem LG (a:Str)(b:Int):decide ((Sum.inr a:Key)=Sum.inl b)=false:=decide_eq_false (λq=>nomatch q)
noncomputable def Zi (prog:Program)(w:World):PySem.KeyKind prog w Key where
 is:=Di
 hash:=Nz w
 inj:=λv a b ha hb=>by
  rcases YA ha with⟨i,t,rfl,rfl⟩ | ⟨x,t,rfl,rfl⟩
  ·rcases YA hb with⟨j,u,rfl,e⟩ | ⟨y,u,rfl,e⟩
   ·injection e with e1 _;rw[e1]
   ·exact nomatch e
  ·rcases YA hb with⟨j,u,rfl,e⟩ | ⟨y,u,rfl,e⟩
   ·exact nomatch e
   ·injection e with e1 _;rw[e1]
 byValue:=λk v h=>by
  rcases YA h with⟨i,t,rfl,rfl⟩ | ⟨x,t,rfl,rfl⟩<;> rfl
 pyHash:=λhv h=>by
  rcases YA hv with⟨i,t,rfl,rfl⟩ | ⟨x,t,rfl,rfl⟩
  ·exact wpAny_pyHash_int h
  ·exact wpAny_pyHash_str h
 eqBool:=λhu hv h=>by
  rcases YA hu with⟨i,t,rfl,rfl⟩ | ⟨x,t,rfl,rfl⟩
  ·rcases YA hv with⟨j,u,rfl,rfl⟩ | ⟨y,u,rfl,rfl⟩
   ·rw[Lu] at h;exact wpAny_eqBool_int h
   ·rw[Mv] at h;exact SeqAt.EqAt.int_str i t y u _ _ _ _ h
  ·rcases YA hv with⟨j,u,rfl,rfl⟩ | ⟨y,u,rfl,rfl⟩
   ·rw[LG] at h;exact SeqAt.EqAt.str_int x t j u _ _ _ _ h
   ·rw[Mf] at h;exact wpAny_eqBool_str h
 «strs»:=λk x t v h=>by
  rcases YA h with⟨i,u,rfl,e⟩ | ⟨y,u,rfl,e⟩
  ·exact nomatch e
  ·injection e with e1 _
   subst e1
   cases v<;> rfl
theorem GI (prog:Program)(w:World)(i:Int)(t:Tok):(Zi prog w).is (.inl i) (.int i t)=true:=Bt i t
theorem Gb (prog:Program)(w:World)(x:Str)(t:Tok):(Zi prog w).is (.inr x) (.str x t)=true:=BB x t
set_option genInjectivity true in
set_option genSizeOf true in
inductive V where
 |non |bl (b:Bool) |int (i:Int) |str (x:Str) |byt (b:Array UInt8) |flt (b:UInt64) |ref (a:Addr) |ty (n:String)
 deriving DecidableEq
noncomputable def YJ:V->Value->Prop
 | .non,u=>u=Value.none
 | .bl b,u=>u=Value.bool b
 | .int i,u=>∃ t,u=Value.int i t
 | .str x,u=>∃ t,u=Value.str x t
 | .byt b,u=>∃ t,u=Value.bytes b t
 | .flt b,u=>∃ t,u=Value.float b t
 | .ref a,u=>u=Value.ref a
 | .ty n,u=>u=Value.type n
noncomputable abbrev Yu:List V->List Value->Prop:=Paired YJ
theorem Yu.length {xs:List V}{us:List Value}(r:Yu xs us):xs.length=us.length:=Paired.length r
theorem Yu.get:∀{xs:List V}{us:List Value}{i:Nat}{x:V},Yu xs us->xs[i]?=some x->∃u,us[i]?=some u/\YJ x u
 |_,_,_,_, .nil,e=>by simp at e
 |_,_,0,_, .cons r _,e=>by simp at e;subst e;exact⟨_,rfl,r⟩
 |_,_,i+1,x, .cons _ t,e=>by
  obtain⟨u,h1,h2⟩:=Yu.get (i:=i) (x:=x) t (by simpa using e)
  exact⟨u,by simpa using h1,h2⟩
theorem Yu.set {x:V}{u:Value}(r:YJ x u):∀{xs:List V}{us:List Value} (i:Nat),Yu xs us->Yu (xs.set i x) (us.set i u)
 |_,_,_, .nil=>.nil
 |_,_,0, .cons _ t=>.cons r t
 |_,_,i+1, .cons q t=>.cons q (Yu.set r i t)
theorem Yu.append:∀{xs ys:List V}{us ws:List Value},Yu xs us->Yu ys ws->Yu (xs++ys) (us++ws):=λp s=>by
 induction p with
 |nil=>exact s
 |cons r _ ih=>exact .cons r ih
theorem Yu.take:∀{xs:List V}{us:List Value} (n:Nat),Yu xs us->Yu (xs.take n) (us.take n)
 |_,_,0,_=>.nil
 |_,_,_+1, .nil=>.nil
 |_,_,n+1, .cons r t=>.cons r (Yu.take n t)
theorem Yu.drop:∀{xs:List V}{us:List Value} (n:Nat),Yu xs us->Yu (xs.drop n) (us.drop n)
 |_,_,0,r=>r
 |_,_,_+1, .nil=>.nil
 |_,_,n+1, .cons _ t=>Yu.drop n t
noncomputable def DX:Option V->Option Value->Prop
 |some v,some u=>YJ v u
 |none,none=>True
 |_,_=>False
noncomputable def KV {κ:Type}:List (κ×V)->List (κ×Value)->Prop:=Paired λ(p:κ×V) (q:κ×Value)=>p.1=q.1/\YJ p.2 q.2
noncomputable def kV:Key->V
 | .inl i=>.int i
 | .inr x=>.str x
set_option genInjectivity true in
set_option genSizeOf true in
inductive HO where
 /-- a list -/
 |lst (xs:List V)
 /-- a tuple (never changes) -/
 |tup (xs:List V)
 /-- a dict whose keys are ints and texts; one whose keys are tuples of ints and texts (the empty one is both) -/
 |dK (kvs:List (Key×V)) |dT (kvs:List (List Key×V))
 /-- a set of ints: its members, its size -/
 |set (S:Int->Bool) (n:Nat)
 /-- an instance of the class at C, its dict at dx, its attributes -/
 |ins (C dx:Addr) (fs:List (Str×V))
 /-- the dict of the instance at x -/
 |own (x:Addr)
 /-- the dict of an exception -/
 |xd (fs:List (Str×V))
 /-- a bound method, f of x -/
 |met (f x:Addr)
 /-- a range object lo, lo + 1, .. below hi -/
 |rng (lo hi:Int)
 /-- a thing that is known to the object (the script; a dict while a loop walks it): read, never written while it is so -/
 |frz (o:Obj) (u:HO)
 /-- a code object's table -/
 |tbl (ps:Array Value)
 /-- any other thing, by what is true of its one object (a def of one's own: SetO a S n:=HO.ext λh=>..) -/
 |ext (φ:Heap->Prop)
noncomputable abbrev Hp:=Addr->Option HO
noncomputable def upd (H:Hp)(a:Addr)(o:HO):Hp:=λb=>if b=a then some o else H b
theorem Y1 {H:Hp}{a:Addr}{o:HO}:upd H a o a=some o:=by unfold upd;rw[if_pos rfl]
theorem XY {H:Hp}{a b:Addr}{o:HO}(h:b≠a):upd H a o b=H b:=by unfold upd;rw[if_neg h]
theorem ML {H:Hp}{a b:Addr}{o u:HO}(h:H a=some o)(h':H b=some u)(d:o≠u):a≠b:=by
 intro e;subst e;rw[h] at h';exact d (Option.some.inj h')
theorem Ye {H:Hp}{a b:Addr}{o:HO}(h:H a=some o)(h':H b=none):a≠b:=by
 intro e;subst e;rw[h] at h';cases h'
noncomputable def V6 (h:Heap)(a:Addr)(items:Array Value):Prop:=∃ o,h.get? a=some o/\(o.cls= .type "tuple" /\o.dict=none)/\∃n,o.data= .seq items n
theorem V6.t {h:Heap}{a:Addr}{items:Array Value}(x:V6 h a items):IsTup h a items:=let ⟨o,ho,c,r⟩:=x;⟨o,ho,c.1,r⟩
theorem V6.new (h:Heap)(items:Array Value):V6 (h.push {cls:=.type "tuple",data:=.seq items}) h.objs.size items:=⟨_,Heap.get?_push_size _ rfl,⟨rfl,rfl⟩,_,rfl⟩
section
variable (P:Program)(w:World)
noncomputable def Zl (H:Hp)(h:Heap)(a:Addr):HO->Prop
 | .lst xs=>xs.length<=sizeLine/\∃(its:List Value) (n:Nat),Yu xs its/\h.get? a=some {cls:=.type "list",data:=.seq its.toArray n}
 | .tup xs=>xs.length<=sizeLine/\∃its:List Value,Yu xs its/\V6 h a its.toArray
 | .dK kvs=>kvs.length<=sizeLine/\(a==sysModules)=false/\∃vs,KV kvs vs/\h.DictOf (Zi P w) a vs
 | .dT kvs=>kvs.length<=sizeLine/\(a==sysModules)=false/\∃xs:List (List Key×Addr×Value),
   Paired (λ(p:List Key×V) (q:List Key×Addr×Value)=>p.1=q.1/\H q.2.1=some (.tup (p.1.map kV))/\YJ p.2 q.2.2) kvs xs/\
   ∃o es ep,h.get? a=some o/\o.ExactDict/\o.data= .dict es ep/\es.toList=xs.map (entryOfKey (tupleKind (Zi P w)))/\(xs.map (·.1)).Nodup
 | .set S n=>h.SetOf (intKind P w) a S n
 | .ins C dx fs=>H dx=some (.own a)/\fs.length<=1000/\dx≠a/\h.get? a=some (PySem.W.instObj C dx)/\
   ∃mA,h.Ns1 dx mA/\(∀f,DX (fs.lookup f) (mA f))/\PySem.Within mA (fs.map (·.1))
 | .own _=>∃ o,h.get? a=some o
 | .xd fs=>∃ mA,h.Ns1 a mA/\∀f,DX (fs.lookup f) (mA f)
 | .rng lo hi=>∃ t u v,h.get? a=some {cls:=.type "range",data:=.fields #[.int lo t, .int hi u, .int 1 v]}
 | .frz o u=>h.get? a=some o/\Zl H h a u
 | .tbl ps=>h.get? a=some {cls:=.none,data:=.fields ps}
 | .met f x=>h.get? a=some (PySem.W.methodObj (.ref f) (.ref x))
 | .ext φ=>φ h/\(∃o,h.get? a=some o)/\∀h1 h2:Heap,φ h1->(∀o,h1.get? a=some o->h2.get? a=some o)->φ h2
noncomputable def HOk (H:Hp)(h:Heap):Prop:=∀ a o,H a=some o->Zl P w H h a o
end
section
variable {P:Program}{w:World}{H H':Hp}{h h':Heap}{a:Addr}{o:HO}
theorem Zl.lt (x:Zl P w H h a o):a<h.objs.size:=by
 cases o with
 |lst xs=>obtain⟨_,_,_,_,e⟩:=x;exact Heap.lt_size e
 |tup xs=>obtain⟨_,_,_,p⟩:=x;exact p.t.lt
 |dK kvs=>obtain⟨_,_,_,_,o,_,_,e,_⟩:=x;exact Heap.lt_size e
 |dT kvs=>obtain⟨_,_,_,_,o,_,_,e,_⟩:=x;exact Heap.lt_size e
 |set S n=>obtain⟨o,_,_,_,e,_⟩:=x;exact Heap.lt_size e
 |ins C dx fs=>obtain⟨_,_,_,e,_⟩:=x;exact Heap.lt_size e
 |own y=>obtain⟨_,e⟩:=x;exact Heap.lt_size e
 |xd fs=>obtain⟨_,⟨_,_,_,e,_⟩,_⟩:=x;exact Heap.lt_size e
 |rng lo hi=>obtain⟨_,_,_,e⟩:=x;exact Heap.lt_size e
 |frz ob u=>obtain⟨e,_⟩:=x;exact Heap.lt_size e
 |tbl ps=>exact Heap.lt_size (show h.get? a=some _ from x)
 |met f y=>exact Heap.lt_size (show h.get? a=some _ from x)
 |ext φ=>obtain⟨_,⟨_,e⟩,_⟩:=x;exact Heap.lt_size e
theorem Paired.mapP {α β:Type}{F G:α->β->Prop}:∀{l₁:List α}{l₂:List β},Paired F l₁ l₂->(∀a b,F a b->G a b)->Paired G l₁ l₂:=λp f=>by
 induction p with
 |nil=>exact .nil
 |cons r _ ih=>exact .cons (f _ _ r) ih
theorem Zl.stay (x:Zl P w H h a o)(k:∀b u,(b=a∨H b=some (.own a))->h.get? b=some u->h'.get? b=some u)
  (ho:∀b,H b=some (.own a)->H' b=some (.own a))(ht:∀b xs,H b=some (.tup xs)->H' b=some (.tup xs)):Zl P w H' h' a o:=by
 induction o with
 |lst xs=>obtain⟨z,its,n,r,e⟩:=x;exact⟨z,its,n,r,k _ _ (.inl rfl) e⟩
 |tup xs=>obtain⟨z,its,r,ob,e,c⟩:=x;exact⟨z,its,r,ob,k _ _ (.inl rfl) e,c⟩
 |dK kvs=>obtain⟨z,y,vs,r,ob,es,ep,e,c⟩:=x;exact⟨z,y,vs,r,ob,es,ep,k _ _ (.inl rfl) e,c⟩
 |dT kvs=>
  obtain⟨z,y,xs,r,ob,es,ep,e,c⟩:=x
  exact⟨z,y,xs,Paired.mapP r λp q z=>⟨z.1,ht _ _ z.2.1,z.2.2⟩,ob,es,ep,k _ _ (.inl rfl) e,c⟩
 |set S n=>obtain⟨ob,es,ep,t,e,c⟩:=x;exact⟨ob,es,ep,t,k _ _ (.inl rfl) e,c⟩
 |ins C dx fs=>
  obtain⟨d,z,ne,e,mA,⟨od,es,ep,e2,c⟩,r⟩:=x
  exact⟨ho _ d,z,ne,k _ _ (.inl rfl) e,mA,⟨od,es,ep,k _ _ (.inr d) e2,c⟩,r⟩
 |own y=>obtain⟨ob,e⟩:=x;exact⟨ob,k _ _ (.inl rfl) e⟩
 |xd fs=>obtain⟨mA,⟨od,es,ep,e,c⟩,r⟩:=x;exact⟨mA,⟨od,es,ep,k _ _ (.inl rfl) e,c⟩,r⟩
 |rng lo hi=>obtain⟨t,u,v,e⟩:=x;exact⟨t,u,v,k _ _ (.inl rfl) e⟩
 |frz ob u ih=>obtain⟨e,q⟩:=x;exact⟨k _ _ (.inl rfl) e,ih q⟩
 |tbl ps=>
  have e:h.get? a=some {cls:=.none,data:=.fields ps}:=x
  show h'.get? a=some {cls:=.none,data:=.fields ps}
  exact k a _ (.inl rfl) e
 |met f y=>
  have e:h.get? a=some (PySem.W.methodObj (.ref f) (.ref y)):=x
  show h'.get? a=some (PySem.W.methodObj (.ref f) (.ref y))
  exact k a _ (.inl rfl) e
 |ext φ=>obtain⟨p,⟨o,e⟩,st⟩:=x;exact⟨st _ _ p λo q=>k _ _ (.inl rfl) q,⟨o,k _ _ (.inl rfl) e⟩,st⟩
theorem HOk.lt (x:HOk P w H h)(e:H a=some o):a<h.objs.size:=(x a o e).lt
theorem HOk.fresh (x:HOk P w H h)(e:h.objs.size<=a):H a=none:=by
 cases q:H a with
 |none=>rfl
 |some u=>exact absurd (Nat.lt_of_lt_of_le (x.lt q) e) (Nat.lt_irrefl _)
theorem HOk.kept (x:HOk P w H h)(k:∀b u,h.get? b=some u->h'.get? b=some u):HOk P w H h':=λa o e=>
 (x a o e).stay (λb u _ q=>k b u q) (λ_ q=>q) λ_ _ q=>q
theorem HOk.laid (x:HOk P w H h)(k:∀b u,h.get? b=some u->h'.get? b=some u)(hp:h.objs.size<=a)(new:Zl P w (upd H a o) h' a o):HOk P w (upd H a o) h':=λb u e=>by
 have hn:=x.fresh hp
 by_cases hb:b=a
 ·subst hb;rw[Y1] at e;cases e;exact new
 ·rw[XY hb] at e
  exact(x b u e).stay (λc v _ q=>k c v q) (λc q=>by rw[XY (Ye q hn)];exact q) λc xs q=>by rw[XY (Ye q hn)];exact q
end
noncomputable def Rd (H:Hp)(a:Addr)(u:HO):Prop:=H a=some u∨∃o,H a=some (.frz o u)
theorem Rd.ok {P:Program}{w:World}{H:Hp}{h:Heap}{a:Addr}{u:HO}(r:Rd H a u)(x:HOk P w H h):Zl P w H h a u:=by
 rcases r with r | ⟨o,r⟩
 ·exact x a u r
 ·obtain⟨_,q⟩:=x a _ r
  exact q
noncomputable def Mut:Option HO->Prop
 |some (.lst _)=>True
 |some (.dK _)=>True
 |some (.dT _)=>True
 |some (.set _ _)=>True
 |some (.ins _ _ _)=>True
 |some (.ext _)=>True
 |_=>False
section
variable {P:Program}{w:World}{H:Hp}{h h':Heap}{x e:Addr}{o':HO}
theorem HOk.write (ok:HOk P w H h)(mu:Mut (H x))(he:e=x∨H e=some (.own x))(k:∀b u,b≠e->h.get? b=some u->h'.get? b=some u)(heo:∃u,h'.get? e=some u)
  (new:Zl P w (upd H x o') h' x o'):HOk P w (upd H x o') h':=λb u q=>by
 have nown:∀c y,H c=some (.own y)->c≠x:=λc y r z=>by subst z;rw[r] at mu;exact mu
 have ntup:∀c xs,H c=some (.tup xs)->c≠x:=λc xs r z=>by subst z;rw[r] at mu;exact mu
 by_cases hb:b=x
 ·subst hb;rw[Y1] at q;cases q;exact new
 ·rw[XY hb] at q
  by_cases hbe:b=e
  ·have q':H b=some (.own x):=by
    rcases he with z |z
    ·exact absurd (hbe.trans z) hb
    ·rw[hbe];exact z
   rw[q] at q';cases q'
   obtain⟨v,hv⟩:=heo
   exact⟨v,by rw[hbe];exact hv⟩
  ·refine(ok b u q).stay (λc v hc r=>k c v ?_ r) (λc r=>by rw[XY (nown c b r)];exact r) λc xs r=>by rw[XY (ntup c xs r)];exact r
   rcases hc with rfl |hc
   ·exact hbe
   ·rintro rfl
    rcases he with z |z
    ·exact nown c b hc z
    ·rw[hc] at z;cases z;exact hb rfl
end
structure Un (fs ex:List Addr)(H H':Hp)(h h':Heap):Prop where
 keep:∀b o,h.get? b=some o->H b=none->b∉fs->b∉ex->h'.get? b=some o
 slot:∀b o,h.get? b=some o->H b=none->b∈fs->b∉ex->∃sl,h'.get? b=some {o with slots:=sl}
 free:∀b o,h.get? b=some o->H b=none->b∉ex->H' b=none
 there:∀b o,h.get? b=some o->b∉ex->∃o',h'.get? b=some o'
 tups:∀b xs,H b=some (.tup xs)->H' b=some (.tup xs)
 frzs:∀b o u,H b=some (.frz o u)->H' b=some (.frz o u)
 tbls:∀b ps,H b=some (.tbl ps)->∃more,H' b=some (.tbl (ps++more))
section
variable {fs fs' ex ex':List Addr}{H H1 H2:Hp}{h h1 h2 h':Heap}{a x e:Addr}{o:HO}
theorem Un.any (u:Un fs ex H H1 h h1){b:Addr}{ob:Obj}(q:h.get? b=some ob)(n:H b=none)(hx:b∉ex):∃sl,h1.get? b=some {ob with slots:=sl}:=by
 by_cases hb:b∈fs
 ·exact u.slot b ob q n hb hx
 ·exact⟨ob.slots,u.keep b ob q n hb hx⟩
theorem Un.kept (k:∀b u,h.get? b=some u->h'.get? b=some u):Un fs ex H H h h':=
 ⟨λb ob q _ _ _=>k b ob q,λb ob q _ _ _=>⟨ob.slots,k b ob q⟩,λ_ _ _ n _=>n,λb ob q _=>⟨ob,k b ob q⟩,λ_ _ q=>q,λ_ _ _ q=>q,λ_ ps q=>⟨#[],by rw[q];simp⟩⟩
theorem Un.refl:Un fs ex H H h h:=Un.kept λ_ _ q=>q
theorem Un.laid (k:∀b u,h.get? b=some u->h'.get? b=some u)(hp:h.objs.size<=a)(hn:H a=none):Un fs ex H (upd H a o) h h' where
 keep:=λb u q _ _ _=>k b u q
 slot:=λb u q _ _ _=>⟨u.slots,k b u q⟩
 free:=λb u q n _=>by rw[XY (Nat.ne_of_lt (Nat.lt_of_lt_of_le (Heap.lt_size q) hp))];exact n
 there:=λb u q _=>⟨u,k b u q⟩
 tups:=λb xs q=>by rw[XY (Ye q hn)];exact q
 frzs:=λb u xs q=>by rw[XY (Ye q hn)];exact q
 tbls:=λb ps q=>⟨#[],by rw[XY (Ye q hn),q];simp⟩
theorem Un.write (mu:Mut (H x))(he:e=x∨H e=some (.own x))(k:∀b u,b≠e->h.get? b=some u->h'.get? b=some u)(heo:∃u,h'.get? e=some u):Un fs ex H (upd H x o) h h':=by
 have hx:∀b,H b=none->b≠x:=λb n z=>by subst z;rw[n] at mu;exact mu
 have hb:∀b,H b=none->b≠e:=λb n z=>by
  subst z
  rcases he with r |r
  ·exact hx b n r
  ·rw[n] at r;cases r
 have hm:∀b u,H b=some u->¬Mut (some u)->b≠x:=λb u q nm z=>by subst z;rw[q] at mu;exact nm mu
 refine⟨λb u q n _ _=>k b u (hb b n) q,λb u q n _ _=>⟨u.slots,k b u (hb b n) q⟩,λb u q n _=>by rw[XY (hx b n)];exact n,λb u q _=>?_,
  λb xs q=>by rw[XY (hm b _ q λz=>z)];exact q,λb u xs q=>by rw[XY (hm b _ q λz=>z)];exact q,λb ps q=>⟨#[],by rw[XY (hm b _ q λz=>z),q];simp⟩⟩
 by_cases hbe:b=e
 ·subst hbe;exact heo
 ·exact⟨u,k b u hbe q⟩
end
noncomputable def trk (h:Heap)(H:Hp):List Addr:=(List.range h.objs.size).filter λa=>(H a).isSome
noncomputable def Eu (h:Heap)(H:Hp):Heap:=PySem.W.hideAll h (trk h H)
theorem C8 (h:Heap)(H:Hp):(Eu h H).objs.size=h.objs.size:=PySem.W.hideAll_size _ _
theorem EJ {h:Heap}{H:Hp}{b:Addr}{o:Obj}(e:h.get? b=some o)(n:H b=none):(Eu h H).get? b=some o:=
 PySem.W.hideAll_get _ e λhm=>by
  have q:(H b).isSome=true:=(List.mem_filter.mp hm).2
  rw[n] at q;simp at q
theorem IT {h:Heap}{H:Hp}{b:Addr}{o:Obj}(e:(Eu h H).get? b=some o):h.get? b=some o/\H b=none:=by
 have e':h.get? b=some o:=PySem.W.of_hideAll (trk h H) e
 refine⟨e',?_⟩
 cases q:H b with
 |none=>rfl
 |some x=>
  have hm:b∈trk h H:=List.mem_filter.mpr ⟨List.mem_range.mpr (Heap.lt_size e'),by simp[q]⟩
  have z:(Eu h H).get? b=none:=PySem.W.hideAll_none (trk h H) hm
  rw[z] at e;cases e
structure Mod (K:PySem.W.Frag)(mg:Str->Option Value)(base:Heap):Prop where
 kin:K.In base
 glob:base.Ns mainGlobals mg
 blt:∃mb,base.Ns builtinsNs mb/\∀x:Str,x≠ "__name__" ->mb x=bootBuiltins x
 nolimit:base.NoLimit
structure Cx where
 prog:Program
 w:World
 K:PySem.W.Frag
 mg:Str->Option Value
 base:Heap
 A:Around
 N:List Str
 s₀:Shared
 H₀:Hp
 env:Env
 outer:List Env
 stack:List Env
 ex:List Addr
 fn:Str->Bool
 calm:Bool
 pn:List (Addr×Obj)
 xe:Value->Shared->Prop
noncomputable def frs (l:List Env):List Addr:=l.filterMap (·.frame)
noncomputable abbrev Cx.fs (X:Cx):List Addr:=frs X.outer
noncomputable def Vis (sc:Scope)(x:Str):Prop:=sc.names.lookup x=some .local∨sc.names.lookup x=some .cell∨sc.names.lookup x=some .free
noncomputable def Loc (sc:Scope)(x:Str):Prop:=sc.names.lookup x=some .local∨sc.names.lookup x=some .cell
noncomputable def Nt (env:Env)(h:Heap)(m:Str->Option Value)(x:Str)(u:Value):Prop:=
 (env.kindOf x=some .local/\m x=some u)∨((env.kindOf x=some .cell∨env.kindOf x=some .free)/\∃c,env.cells.lookup x=some c/\h.IsCell c (some u))
structure Cx.Ok (X:Cx):Prop where
 mod:Mod X.K X.mg X.base
 kind:X.env.scope.kind= .function
 glob:X.env.globals=mainGlobals
 blt:X.env.builtins=builtinsNs
 above:X.s₀.heap.objs.size<=X.env.locals
 inj:∀x y c,X.env.cells.lookup x=some c->X.env.cells.lookup y=some c->x=y
 has:∀x,(X.env.kindOf x=some .cell∨X.env.kindOf x=some .free)->∃c,X.env.cells.lookup x=some c
 cab:∀x c,X.fn x=true->X.env.cells.lookup x=some c->X.s₀.heap.objs.size<=c
 hd:X.calm=true->X.A.handled=none
 frames:X.A.frames=some X.stack
 stk:X.stack=X.outer∨(X.stack=X.env::X.outer/\X.env.frame=some X.env.locals)
 exf:∀b∈X.ex,b≠X.env.locals/\∀x c,X.env.cells.lookup x=some c->c≠b
 bs:∀b o,X.base.get? b=some o->X.s₀.heap.get? b=some o/\X.H₀ b=none
 bsz:X.base.objs.size<=X.s₀.heap.objs.size
 noex:∀b o,X.base.get? b=some o->b∉X.ex
 exfs:∀b∈X.ex,b∉X.fs
 funs:X.s₀.heap.FunFrames X.base X.outer
 frf:∀b∈X.fs,X.H₀ b=none
structure Inv (X:Cx)(pins:List (Addr×Obj))(σ:List (Option V))(H:Hp)(s:Shared):Prop where
 ok:X.Ok
 os:s.os=X.s₀.os
 bare:AllBare s.gens
 base:Un X.fs X.ex X.H₀ H X.s₀.heap s.heap
 loc:∃m,s.heap.Ns X.env.locals m/\∀(i:Nat) (x:Str) (v:V),X.N[i]?=some x->σ[i]?=some (some v)->Vis X.env.scope x->∃u,YJ v u/\Nt X.env s.heap m x u
 cell:∀x c,X.env.cells.lookup x=some c->∃v,s.heap.IsCell c v
 free:H X.env.locals=none
 freeC:∀x c,X.env.cells.lookup x=some c->H c=none
 pin:∀p∈X.pn++pins,s.heap.get? p.1=some p.2/\H p.1=none/\p.1≠X.env.locals/\p.1∉X.fs/\∀v,p.2.data≠ .cell v
 hok:HOk X.prog X.w H s.heap
 len:σ.length=X.N.length
section
variable {X:Cx}{pins:List (Addr×Obj)}{σ:List (Option V)}{H H':Hp}{s:Shared}{h':Heap}
theorem Cx.Ok.nofr (ok:X.Ok){b:Addr}{o:Obj}(e:X.base.get? b=some o):b∉X.fs:=λhb=>by
 have:=(ok.funs.mem hb).1
 rw[e] at this;cases this
theorem Inv.bs (I:Inv X pins σ H s):∀b o,X.base.get? b=some o->s.heap.get? b=some o/\H b=none:=λb o e=>
 ⟨I.base.keep b o (I.ok.bs b o e).1 (I.ok.bs b o e).2 (I.ok.nofr e) (I.ok.noex b o e),I.base.free b o (I.ok.bs b o e).1 (I.ok.bs b o e).2 (I.ok.noex b o e)⟩
theorem Inv.bk (I:Inv X pins σ H s):∀b o,X.base.get? b=some o->s.heap.get? b=some o:=λb o e=>(I.bs b o e).1
theorem Inv.mod (I:Inv X pins σ H s):Mod X.K X.mg X.base:=I.ok.mod
theorem Inv.kIn (I:Inv X pins σ H s):X.K.In s.heap:=I.ok.mod.kin.keeps I.bk
theorem Inv.lt (I:Inv X pins σ H s):X.env.locals<s.heap.objs.size:=let ⟨_,hn,_⟩:=I.loc;hn.lt
theorem Inv.sz (I:Inv X pins σ H s):X.s₀.heap.objs.size<=s.heap.objs.size:=Nat.le_trans I.ok.above (Nat.le_of_lt I.lt)
theorem Inv.nofs (I:Inv X pins σ H s){a:Addr}(h:s.heap.objs.size<=a):a∉X.fs:=λhb=>by
 obtain⟨_,o,ho,_⟩:=I.ok.funs.mem hb
 exact absurd (Nat.lt_of_lt_of_le (Heap.lt_size ho) (Nat.le_trans I.sz h)) (Nat.lt_irrefl _)
theorem Inv.cne (I:Inv X pins σ H s):∀x c,X.env.cells.lookup x=some c->c≠X.env.locals:=λx c e z=>by
 obtain⟨v,o,ho,hd⟩:=I.cell x c e
 obtain⟨m,⟨o',es,ep,ho',hd',_⟩,_⟩:=I.loc
 rw[z,ho'] at ho;cases ho;rw[hd'] at hd;cases hd
theorem Inv.funs (I:Inv X pins σ H s):s.heap.FunFrames X.base X.outer:=by
 have all:∀(l:List Env),(∀b∈frs l,b∈X.fs)->X.s₀.heap.FunFrames X.base l->s.heap.FunFrames X.base l:=by
  intro l
  induction l with
  |nil=>intro _ _;trivial
  |cons env r ih=>
   intro hs hl
   obtain⟨hk,⟨L,o,hf,hn,ho,hd⟩,hr⟩:=hl
   have hL:L∈X.fs:=hs L (by unfold frs;rw[List.filterMap_cons,hf];exact List.mem_cons_self)
   obtain⟨sl,e⟩:=I.base.slot L o ho (I.ok.frf L hL) hL λz=>I.ok.exfs L z hL
   exact⟨hk,⟨L,_,hf,hn,e,hd⟩,ih (λb hb=>hs b (by unfold frs;rw[List.filterMap_cons,hf];exact List.mem_cons_of_mem _ hb)) hr⟩
 exact all X.outer (λ_ hb=>hb) I.ok.funs
theorem Inv.stack (I:Inv X pins σ H s):s.heap.FunFrames X.base X.stack:=by
 rcases I.ok.stk with e | ⟨e,hf⟩
 ·rw[e];exact I.funs
 ·rw[e]
  obtain⟨m,hn,_⟩:=I.loc
  refine .cons (by rw[I.ok.kind];decide) hf hn ?_ I.funs
  exact Heap.get?_none_of_le (Nat.le_trans I.ok.bsz I.ok.above)
theorem Inv.stkSub (I:Inv X pins σ H s):∀b∈frs X.stack,b∈X.env.locals::X.fs:=λb hb=>by
 rcases I.ok.stk with e | ⟨e,hf⟩
 ·rw[e] at hb;exact List.mem_cons_of_mem _ hb
 ·rw[e] at hb
  unfold frs at hb
  rw[List.filterMap_cons,hf] at hb
  exact hb
theorem Inv.stkFree (I:Inv X pins σ H s):∀b∈frs X.stack,H b=none:=λb hb=>by
 rcases List.mem_cons.mp (I.stkSub b hb) with e |hb
 ·rw[e];exact I.free
 ·obtain⟨_,o,ho,_⟩:=I.ok.funs.mem hb
  exact I.base.free b o ho (I.ok.frf b hb) λz=>I.ok.exfs b z hb
theorem Inv.step {g':Array GenState}{t':Nat}{d':Drawn}{ch:List Addr}(I:Inv X pins σ H s)
  (hch:∀b∈ch,(b∈X.ex∨X.s₀.heap.objs.size<=b)/\b≠X.env.locals/\(∀x c,X.env.cells.lookup x=some c->c≠b)/\∀p∈X.pn++pins,p.1≠b)
  (keep:∀b o,b≠X.env.locals->b∉X.fs->b∉ch->s.heap.get? b=some o->H b=none->h'.get? b=some o)
  (slot:∀b o,b≠X.env.locals->b∈X.fs->b∉ch->s.heap.get? b=some o->H b=none->∃sl,h'.get? b=some {o with slots:=sl})(free:∀b o,b∉ch->s.heap.get? b=some o->H b=none->H' b=none)
  (there:∀b o,b∉ch->s.heap.get? b=some o->∃o',h'.get? b=some o')
  (tups:∀b xs,H b=some (.tup xs)->H' b=some (.tup xs))(frzs:∀b o u,H b=some (.frz o u)->H' b=some (.frz o u))(tbls:∀b ps,H b=some (.tbl ps)->∃more,H' b=some (.tbl (ps++more)))
  (ns:∀m,s.heap.Ns X.env.locals m->h'.Ns X.env.locals m)(hok:HOk X.prog X.w H' h')(hg:AllBare g'):
  Inv X pins σ H' {s with heap:=h',gens:=g',drawn:=d',toks:=t'}:=by
 have neL:∀b o,X.s₀.heap.get? b=some o->b≠X.env.locals:=λb o e=>Nat.ne_of_lt (Nat.lt_of_lt_of_le (Heap.lt_size e) I.ok.above)
 have neC:∀b o,X.s₀.heap.get? b=some o->b∉X.ex->b∉ch:=λb o e hx hb=>by
  rcases(hch b hb).1 with z |z
  ·exact hx z
  ·exact absurd (Nat.lt_of_lt_of_le (Heap.lt_size e) z) (Nat.lt_irrefl _)
 have cellK:∀x c,X.env.cells.lookup x=some c->∀v,s.heap.IsCell c v->h'.IsCell c v:=λx c e v ⟨o,ho,hd⟩=>by
  have nch:c∉ch:=λz=>(hch c z).2.2.1 x c e rfl
  by_cases hc:c∈X.fs
  ·obtain⟨sl,q⟩:=slot c o (I.cne x c e) hc nch ho (I.freeC x c e)
   exact⟨_,q,hd⟩
  ·exact⟨o,keep c o (I.cne x c e) hc nch ho (I.freeC x c e),hd⟩
 refine⟨I.ok,I.os,hg,⟨λb o e n hb hx=>?_,λb o e n hb hx=>?_,λb o e n hx=>?_,λb o e hx=>?_,λb xs e=>tups b xs (I.base.tups b xs e),λb o xs e=>frzs b o xs (I.base.frzs b o xs e),λb ps e=>?_⟩,?_,λx c e=>?_,?_,λx c e=>?_,λp hp=>?_,hok,I.len⟩
 ·exact keep b o (neL b o e) hb (neC b o e hx) (I.base.keep b o e n hb hx) (I.base.free b o e n hx)
 ·obtain⟨sl,e1⟩:=I.base.slot b o e n hb hx
  obtain⟨sl',e2⟩:=slot b _ (neL b o e) hb (neC b o e hx) e1 (I.base.free b o e n hx)
  exact⟨sl',e2⟩
 ·obtain⟨o',e1⟩:=I.base.there b o e hx
  exact free b o' (neC b o e hx) e1 (I.base.free b o e n hx)
 ·obtain⟨o',e1⟩:=I.base.there b o e hx
  exact there b o' (neC b o e hx) e1
 ·obtain⟨m1,e1⟩:=I.base.tbls b ps e
  obtain⟨m2,e2⟩:=tbls b _ e1
  exact⟨m1++m2,by rw[e2,Array.append_assoc]⟩
 ·obtain⟨m,hn,hl⟩:=I.loc
  refine⟨m,ns m hn,λi x v e1 e2 e3=>?_⟩
  obtain⟨u,r,l⟩:=hl i x v e1 e2 e3
  refine⟨u,r,?_⟩
  rcases l with l | ⟨k,c,e,z⟩
  ·exact .inl l
  ·exact .inr ⟨k,c,e,cellK x c e _ z⟩
 ·obtain⟨v,z⟩:=I.cell x c e
  exact⟨v,cellK x c e v z⟩
 ·obtain⟨m,⟨o,_,_,ho,_⟩,_⟩:=I.loc
  exact free _ o (λz=>(hch _ z).2.1 rfl) ho I.free
 ·obtain⟨v,o,ho,hd⟩:=I.cell x c e
  exact free c o (λz=>(hch c z).2.2.1 x c e rfl) ho (I.freeC x c e)
 ·obtain⟨e,n,ne,nf,d⟩:=I.pin p hp
  have nch:p.1∉ch:=λz=>(hch p.1 z).2.2.2 p hp rfl
  exact⟨keep p.1 p.2 ne nf nch e n,free p.1 p.2 nch e n,ne,nf,d⟩
theorem Inv.un {t':Nat}(I:Inv X pins σ H s)(u:Un X.fs [] H H' s.heap h')(hok:HOk X.prog X.w H' h'):Inv X pins σ H' {s with heap:=h',toks:=t'}:=by
 obtain⟨m,⟨o,es,ep,ho,r⟩,_⟩:=id I.loc
 obtain⟨sl,hL⟩:=u.any ho I.free (by simp)
 exact I.step (g':=s.gens) (d':=s.drawn) (ch:=[]) (λ_ z=>nomatch z) (λb o _ hb _ e n=>u.keep b o e n hb (by simp)) (λb o _ hb _ e n=>u.slot b o e n hb (by simp)) (λb o _ e n=>u.free b o e n (by simp)) (λb o _ e=>u.there b o e (by simp)) u.tups u.frzs u.tbls (λm' hm=>by
  obtain⟨o',es',ep',ho',r'⟩:=hm
  rw[ho] at ho';cases ho'
  exact⟨_,es',ep',hL,r'⟩) hok I.bare
theorem Inv.call {g':Array GenState}{t':Nat}{d':Drawn}{ch:List Addr}(I:Inv X pins σ H s)(u:Un (frs X.stack) ch H H' s.heap h')(hok:HOk X.prog X.w H' h')(hg:AllBare g')
  (hch:∀b∈ch,(b∈X.ex∨X.s₀.heap.objs.size<=b)/\b≠X.env.locals/\(∀x c,X.env.cells.lookup x=some c->c≠b)/\∀p∈X.pn++pins,p.1≠b):
  Inv X pins σ H' {s with heap:=h',gens:=g',drawn:=d',toks:=t'}:=by
 obtain⟨m,⟨o,es,ep,ho,r⟩,_⟩:=id I.loc
 obtain⟨sl,hL⟩:=u.any ho I.free λz=>(hch _ z).2.1 rfl
 exact I.step (ch:=ch) hch (λb o hL hb hc e n=>u.keep b o e n (λz=>(List.mem_cons.mp (I.stkSub b z)).elim hL hb) hc) (λb o _ _ hc e n=>u.any e n hc) (λb o hc e n=>u.free b o e n hc) (λb o hc e=>u.there b o e hc) u.tups u.frzs u.tbls (λm' hm=>by
  obtain⟨o',es',ep',ho',r'⟩:=hm
  rw[ho] at ho';cases ho'
  exact⟨_,es',ep',hL,r'⟩) hok hg
theorem Inv.turned {t':Nat}{it:Addr}(I:Inv X pins σ H s)(k:∀b o,b≠it->s.heap.get? b=some o->h'.get? b=some o)(hn:H it=none)(hL:it≠X.env.locals)
  (h1:it∈X.ex∨X.s₀.heap.objs.size<=it)(h2:∀x c,X.env.cells.lookup x=some c->c≠it)(h3:∀p∈X.pn++pins,p.1≠it):Inv X pins σ H {s with heap:=h',toks:=t'}:=by
 have nit:∀b u,H b=some u->b≠it:=λb u e z=>by rw[z,hn] at e;cases e
 refine I.step (g':=s.gens) (d':=s.drawn) (ch:=[it]) (λb hb=>?_) (λb o _ _ hc e _=>k b o (λz=>hc (by simp[z])) e) (λb o _ _ hc e _=>⟨o.slots,k b o (λz=>hc (by simp[z])) e⟩) (λ_ _ _ _ n=>n)
  (λb o hc e=>⟨o,k b o (λz=>hc (by simp[z])) e⟩) (λ_ _ e=>e) (λ_ _ _ e=>e) (λb ps e=>⟨#[],by rw[e];simp⟩) (λm hm=>?_) (λb u e=>?_) I.bare
 ·have e:b=it:=by simpa using hb
  subst e
  exact⟨h1,hL,h2,h3⟩
 ·obtain⟨o,es,ep,ho,r⟩:=hm
  exact⟨o,es,ep,k _ o (Ne.symm hL) ho,r⟩
 ·refine(I.hok b u e).stay (λc v hc q=>k c v ?_ q) (λ_ q=>q) λ_ _ q=>q
  rcases hc with z |z
  ·rw[z];exact nit b u e
  ·exact nit c _ z
theorem Inv.tok (I:Inv X pins σ H s)(t:Nat):Inv X pins σ H {s with toks:=t}:=I.un (h':=s.heap) (t':=t) Un.refl I.hok
theorem Inv.kept {t':Nat}(I:Inv X pins σ H s)(k:∀b u,s.heap.get? b=some u->h'.get? b=some u):Inv X pins σ H {s with heap:=h',toks:=t'}:=I.un (Un.kept k) (I.hok.kept k)
theorem Inv.laid {a:Addr}{o:HO}{t':Nat}(I:Inv X pins σ H s)(k:∀b u,s.heap.get? b=some u->h'.get? b=some u)(hp:s.heap.objs.size<=a)(new:Zl X.prog X.w (upd H a o) h' a o):
  Inv X pins σ (upd H a o) {s with heap:=h',toks:=t'}:=I.un (Un.laid k hp (I.hok.fresh hp)) (I.hok.laid k hp new)
theorem Inv.write {x e:Addr}{o:HO}{t':Nat}(I:Inv X pins σ H s)(mu:Mut (H x))(he:e=x∨H e=some (.own x))(k:∀b u,b≠e->s.heap.get? b=some u->h'.get? b=some u)(heo:∃u,h'.get? e=some u)
  (new:Zl X.prog X.w (upd H x o) h' x o):Inv X pins σ (upd H x o) {s with heap:=h',toks:=t'}:=I.un (Un.write mu he k heo) (I.hok.write mu he k heo new)
theorem Inv.weak {σ':List (Option V)}(I:Inv X pins σ H s)(hl:σ'.length=σ.length)(w:∀(i:Nat) v,σ'[i]?=some (some v)->σ[i]?=some (some v)):Inv X pins σ' H s:=
 ⟨I.ok,I.os,I.bare,I.base,let ⟨m,hn,hl'⟩:=I.loc;⟨m,hn,λi x v e1 e2 e3=>hl' i x v e1 (w i v e2) e3⟩,I.cell,I.free,I.freeC,I.pin,I.hok,hl.trans I.len⟩
theorem Inv.pins_of {pins':List (Addr×Obj)}(I:Inv X pins σ H s)(h:∀p∈pins',s.heap.get? p.1=some p.2/\H p.1=none/\p.1≠X.env.locals/\p.1∉X.fs/\∀v,p.2.data≠ .cell v):Inv X pins' σ H s:=
 ⟨I.ok,I.os,I.bare,I.base,I.loc,I.cell,I.free,I.freeC,λp hp=>(List.mem_append.mp hp).elim (λz=>I.pin p (List.mem_append_left _ z)) (h p),I.hok,I.len⟩
theorem G7 {N:List Str}(hN:N.Nodup){i j:Nat}{x:Str}(a:N[i]?=some x)(b:N[j]?=some x):i=j:=by
 obtain⟨h1,e1⟩:=List.getElem?_eq_some_iff.mp a
 obtain⟨h2,e2⟩:=List.getElem?_eq_some_iff.mp b
 exact(List.getElem_inj hN).mp (e1.trans e2.symm)
theorem K3 {M:Model}{A:Around}{E:Value->Shared->Prop}{i:Nat}{x:Str}{v:V}{u:Value}{Q:Unit->Shared->Prop}(I:Inv X pins σ H s)(hN:X.N.Nodup)(hi:X.N[i]?=some x)(hx:Loc X.env.scope x)(r:YJ v u)
  (h:∀s',Inv X pins (σ.set i (some v)) H s'->(∃a,Heap.SameBut a s.heap s'.heap/\(a=X.env.locals∨X.env.cells.lookup x=some a))->Q () s')(hf:X.fn x=true∨X.env.scope.names.lookup x=some .local:=by first |exact .inl rfl |exact .inr rfl |assumption):wpAny M A (storeName X.env x u) Q E s:=by
 obtain⟨m,hn,hl⟩:=id I.loc
 have hcls:(X.env.scope.kind== .class || (X.env.scope.kind== .module&&X.env.locals !=X.env.globals))=false:=by rw[I.ok.kind];rfl
 have hiσ:i<σ.length:=by rw[I.len];exact(List.getElem?_eq_some_iff.mp hi).1
 have cne:=I.cne
 have tracked:∀{a:Addr}{h':Heap},(∃o,s.heap.get? a=some o/\H a=none)->Heap.SameBut a s.heap h'->HOk X.prog X.w H h':=fun {a h'} ha hs b ob e=>by
  obtain⟨_,_,hfree⟩:=ha
  refine(I.hok b ob e).stay (λc w' hc q=>(hs.2 c ?_).trans q) (λ_ q=>q) λ_ _ q=>q
  rintro rfl
  rcases hc with rfl |hc
  ·rw[hfree] at e;cases e
  ·rw[hfree] at hc;cases hc
 rcases hx with hk |hk
 ·refine wpAny_storeName_local hk hn (λh' hn' hs=>?_) hcls
  obtain⟨oL,_,_,hoL,_⟩:=id hn
  refine h _ ⟨I.ok,I.os,I.bare,⟨λb o e n hb hx=>?_,λb o e n hb hx=>?_,I.base.free,λb o e hx=>?_,I.base.tups,I.base.frzs,I.base.tbls⟩,⟨_,hn',λj y v' e1 e2 e3=>?_⟩,λy c e=>?_,I.free,I.freeC,λp hp=>?_,tracked ⟨oL,hoL,I.free⟩ hs,by simpa using I.len⟩ ⟨_,hs, .inl rfl⟩
  ·exact(hs.2 b (Nat.ne_of_lt (Nat.lt_of_lt_of_le (Heap.lt_size e) I.ok.above))).trans (I.base.keep b o e n hb hx)
  ·obtain⟨sl,e1⟩:=I.base.slot b o e n hb hx
   exact⟨sl,(hs.2 b (Nat.ne_of_lt (Nat.lt_of_lt_of_le (Heap.lt_size e) I.ok.above))).trans e1⟩
  ·obtain⟨o',e1⟩:=I.base.there b o e hx
   exact⟨o',(hs.2 b (Nat.ne_of_lt (Nat.lt_of_lt_of_le (Heap.lt_size e) I.ok.above))).trans e1⟩
  ·by_cases hj:j=i
   ·subst hj
    rw[hi] at e1;cases e1
    rw[List.getElem?_set_self hiσ] at e2
    cases e2
    exact⟨u,r, .inl ⟨hk,by simp⟩⟩
   ·rw[List.getElem?_set_ne (Ne.symm hj)] at e2
    obtain⟨u',r',q⟩:=hl j y v' e1 e2 e3
    refine⟨u',r',?_⟩
    rcases q with⟨k,e⟩ | ⟨k,c,e,z⟩
    ·refine .inl ⟨k,?_⟩
     have:y≠x:=λe=>hj (G7 hN e1 (e▸hi))
     simp[this,e]
    ·exact .inr ⟨k,c,e,z.sameBut hs (cne y c e)⟩
  ·obtain⟨w',z⟩:=I.cell y c e
   exact⟨w',z.sameBut hs (cne y c e)⟩
  ·obtain⟨e,n,ne,nf,d⟩:=I.pin p hp
   exact⟨(hs.2 p.1 ne).trans e,n,ne,nf,d⟩
 ·have hfn:X.fn x=true:=by
   rcases hf with z |z
   ·exact z
   ·rw[z] at hk;cases hk
  obtain⟨c,hc⟩:=I.ok.has x (.inl hk)
  obtain⟨w',z⟩:=I.cell x c hc
  refine wpAny_storeName_cell I.ok.kind hk hc z (λh' hc' hs=>?_)
  obtain⟨oc,hoc,hocd⟩:=id z
  refine h {s with heap:=h'} ⟨I.ok,I.os,I.bare,⟨λb o e n hb hx=>?_,λb o e n hb hx=>?_,I.base.free,λb o e hx=>?_,I.base.tups,I.base.frzs,I.base.tbls⟩,⟨m,hn.sameBut hs (Ne.symm (cne x c hc)),λj y v' e1 e2 e3=>?_⟩,λy c' e=>?_,I.free,I.freeC,λp hp=>?_,tracked ⟨oc,hoc,I.freeC x c hc⟩ hs,by simpa using I.len⟩ ⟨c,hs, .inr hc⟩
  ·exact(hs.2 b (Nat.ne_of_lt (Nat.lt_of_lt_of_le (Heap.lt_size e) (I.ok.cab x c hfn hc)))).trans (I.base.keep b o e n hb hx)
  ·obtain⟨sl,e1⟩:=I.base.slot b o e n hb hx
   exact⟨sl,(hs.2 b (Nat.ne_of_lt (Nat.lt_of_lt_of_le (Heap.lt_size e) (I.ok.cab x c hfn hc)))).trans e1⟩
  ·obtain⟨o',e1⟩:=I.base.there b o e hx
   exact⟨o',(hs.2 b (Nat.ne_of_lt (Nat.lt_of_lt_of_le (Heap.lt_size e) (I.ok.cab x c hfn hc)))).trans e1⟩
  ·by_cases hj:j=i
   ·subst hj
    rw[hi] at e1;cases e1
    rw[List.getElem?_set_self hiσ] at e2
    cases e2
    exact⟨u,r, .inr ⟨.inl hk,c,hc,hc'⟩⟩
   ·rw[List.getElem?_set_ne (Ne.symm hj)] at e2
    obtain⟨u',r',q⟩:=hl j y v' e1 e2 e3
    refine⟨u',r',?_⟩
    rcases q with q | ⟨k,c',e,z'⟩
    ·exact .inl q
    ·refine .inr ⟨k,c',e,z'.sameBut hs ?_⟩
     rintro rfl
     exact hj (G7 hN e1 (I.ok.inj _ _ _ e hc▸hi))
  ·by_cases hcc:c'=c
   ·subst hcc;exact⟨_,hc'⟩
   ·obtain⟨w2,z2⟩:=I.cell y c' e
    exact⟨w2,z2.sameBut hs hcc⟩
  ·obtain⟨e,n,ne,nf,d⟩:=I.pin p hp
   refine⟨(hs.2 p.1 ?_).trans e,n,ne,nf,d⟩
   intro q
   rw[q,hoc] at e
   have q':oc=p.2:=Option.some.inj e
   exact d w' (by rw[←q'];exact hocd)
theorem Jo {M:Model}{A:Around}{E:Value->Shared->Prop}{i:Nat}{x:Str}{v:V}{u:Value}{Q:Unit->Shared->Prop}(I:Inv X pins σ H s)(hN:X.N.Nodup)(hi:X.N[i]?=some x)(hx:Loc X.env.scope x)(r:YJ v u)
  (h:∀s',Inv X pins (σ.set i (some v)) H s'->Q () s')(hf:X.fn x=true∨X.env.scope.names.lookup x=some .local:=by first |exact .inl rfl |exact .inr rfl |assumption):wpAny M A (storeName X.env x u) Q E s:=
 K3 I hN hi hx r (λs' I' _=>h s' I') hf
theorem Inv.call' {s':Shared}{ch:List Addr}(I:Inv X pins σ H s)(ho:s'.os=s.os)(u:Un (frs X.stack) ch H H' s.heap s'.heap)(hok:HOk X.prog X.w H' s'.heap)(hg:AllBare s'.gens)
  (hch:∀b∈ch,(b∈X.ex∨X.s₀.heap.objs.size<=b)/\b≠X.env.locals/\(∀x c,X.env.cells.lookup x=some c->c≠b)/\∀p∈X.pn++pins,p.1≠b):Inv X pins σ H' s':=by
 obtain⟨h',g',d',t',o'⟩:=s'
 have e:o'=s.os:=ho
 subst e
 exact I.call (g':=g') (t':=t') (d':=d') u hok hg hch
end
noncomputable abbrev XK:=Value->Option Addr->Hp->Prop
noncomputable abbrev St:=List (Option V)
noncomputable abbrev VK:=V->Hp->Prop
noncomputable abbrev TE:=St->Hp->VK->Prop
noncomputable abbrev TT:=St->Hp->(Bool->Hp->Prop)->Prop
noncomputable abbrev TA:=St->Hp->(List V->Hp->Prop)->Prop
structure Ends where
 nx:St->Hp->Prop
 rt:VK
 bk:St->Hp->Prop:=λ_ _=>False
 ct:St->Hp->Prop:=λ_ _=>False
noncomputable abbrev TS:=Ends->St->Hp->Prop
inductive EPI (X:Cx)(pins:List (Addr×Obj))(σ:St)(Q:VK)(u:Value)(s':Shared):Prop
 |mk (v:_) (H':_) (h1_:Inv X pins σ H' s') (h2_:YJ v u) (h3_:Q v H')
noncomputable def EP (X:Cx)(pins:List (Addr×Obj))(σ:St)(Q:VK)(u:Value)(s':Shared):Prop:=EPI X pins σ Q u s'
inductive TPI (X:Cx)(pins:List (Addr×Obj))(σ:St)(Q:Bool->Hp->Prop)(b:Bool)(s':Shared):Prop
 |mk (H':_) (h1_:Inv X pins σ H' s') (h2_:Q b H')
noncomputable def TP (X:Cx)(pins:List (Addr×Obj))(σ:St)(Q:Bool->Hp->Prop)(b:Bool)(s':Shared):Prop:=TPI X pins σ Q b s'
inductive API (X:Cx)(pins:List (Addr×Obj))(σ:St)(Q:List V->Hp->Prop)(us:List Value)(s':Shared):Prop
 |mk (vs:_) (H':_) (h1_:Inv X pins σ H' s') (h2_:Yu vs us) (h3_:Q vs H')
noncomputable def AP (X:Cx)(pins:List (Addr×Obj))(σ:St)(Q:List V->Hp->Prop)(us:List Value)(s':Shared):Prop:=API X pins σ Q us s'
noncomputable def SP (X:Cx)(pins:List (Addr×Obj))(D:Ends)(f:Flow)(s':Shared):Prop:=
 match f with
 | .next=>∃ σ' H',Inv X pins σ' H' s'/\D.nx σ' H'
 | .brk=>∃ σ' H',Inv X pins σ' H' s'/\D.bk σ' H'
 | .cont=>∃ σ' H',Inv X pins σ' H' s'/\D.ct σ' H'
 | .ret u=>∃ v σ' H',Inv X pins σ' H' s'/\YJ v u/\D.rt v H'
noncomputable def PE (X:Cx)(e:Expr)(t:TE):Prop:=
 ∀(pins:List (Addr×Obj)) (s:Shared) (σ:St) (H:Hp) (Q:VK),Inv X pins σ H s->t σ H Q->wpAny (model X.prog X.w) X.A (eval e X.env) (EP X pins σ Q) X.xe s
noncomputable def PT (X:Cx)(e:Expr)(t:TT):Prop:=
 ∀(pins:List (Addr×Obj)) (s:Shared) (σ:St) (H:Hp) (Q:Bool->Hp->Prop),Inv X pins σ H s->t σ H Q->wpAny (model X.prog X.w) X.A (isTrue e X.env (eval e X.env)) (TP X pins σ Q) X.xe s
noncomputable def PW (X:Cx)(e:Expr)(t:TT):Prop:=
 ∀(whole:Sem Value) (pins:List (Addr×Obj)) (s:Shared) (σ:St) (H:Hp) (Q:Bool->Hp->Prop),Inv X pins σ H s->t σ H Q->wpAny (model X.prog X.w) X.A (isTrue e X.env whole) (TP X pins σ Q) X.xe s
theorem PW.pt {X:Cx}{e:Expr}{t:TT}(h:PW X e t):PT X e t:=h _
noncomputable def PA (X:Cx)(es:List Expr)(t:TA):Prop:=
 ∀(pos:Pos) (pins:List (Addr×Obj)) (s:Shared) (σ:St) (H:Hp) (Q:List V->Hp->Prop),Inv X pins σ H s->t σ H Q->wpAny (model X.prog X.w) X.A (spliced (backTo pos (starEach es X.env))) (AP X pins σ Q) X.xe s
noncomputable def PS (X:Cx)(st:Stmt)(t:TS):Prop:=
 ∀(pins:List (Addr×Obj)) (s:Shared) (σ:St) (H:Hp) (D:Ends),Inv X pins σ H s->t D σ H->wpAny (model X.prog X.w) X.A (exec st X.env) (SP X pins D) X.xe s
noncomputable def PSs (X:Cx)(st:List Stmt)(t:TS):Prop:=
 ∀(pins:List (Addr×Obj)) (s:Shared) (σ:St) (H:Hp) (D:Ends),Inv X pins σ H s->t D σ H->wpAny (model X.prog X.w) X.A (execs st X.env) (SP X pins D) X.xe s
theorem thn {α:Type}{t:Sem α}{Q Q':α->Shared->Prop}{M:Model}{A:Around}{E:Value->Shared->Prop}{s:Shared}(h:wpAny M A t Q E s)(hQ:∀a s,Q a s->Q' a s):wpAny M A t Q' E s:=wpAny_mono h hQ λ_ _ x=>x
section
variable {X:Cx}
inductive tVarI (i:Nat)(σ:St)(H:Hp)(Q:VK):Prop
 |mk (v:_) (h1_:σ[i]?=some (some v)) (h2_:Q v H)
noncomputable def K7 (i:Nat):TE:=λσ H Q=>tVarI i σ H Q
noncomputable def tC (v:V):TE:=λ_ H Q=>Q v H
theorem LS {i:Nat}{x:Str}{pos:Pos}(hN:X.N[i]?=some x)(hv:Vis X.env.scope x)(hd:(x==("__debug__":Str))=false:=by decide)(hcd:(x==("__classdict__":Str))=false:=by decide):PE X (.Name x pos) (K7 i):=by
 intro pins s σ H Q I h
 obtain⟨v,e,h⟩:=h
 obtain⟨m,hn,hl⟩:=I.loc
 obtain⟨u,r,l⟩:=hl i x v hN e hv
 have fin:EP X pins σ Q u s:=⟨v,H,I,r,h⟩
 rcases l with⟨hk,hm⟩ | ⟨hk,c,hc,hcell⟩
 ·exact wpAny_Name (wpAny_loadName_local I.ok.kind hk hn hm fin) hd
 ·rcases hk with hk |hk
  ·exact wpAny_Name (wpAny_loadName_cell I.ok.kind hk hc hcell fin) hd
  ·exact wpAny_Name (wpAny_loadName_free I.ok.kind hk hc hcell fin hcd) hd
theorem Xh {i j pos}:PE X (.Constant (.int i) j pos) (tC (.int i)):=λ_ _ _ H _ I h=>wpAny_Constant_int ⟨.int i,H,I.tok _,⟨_,rfl⟩,h⟩
theorem JO {b j pos}:PE X (.Constant (.bool b) j pos) (tC (.bl b)):=λ_ _ _ H _ I h=>Constant_bool ⟨.bl b,H,I,rfl,h⟩
noncomputable def Gl (X:Cx)(x:Str):Prop:=X.env.kindOf x=some .globalImplicit
theorem Bu {E:Value->Shared->Prop}{pins:List (Addr×Obj)}{s:Shared}{σ:St}{H:Hp}{x:Str}{u:Value}{pos:Pos}{Q:Value->Shared->Prop}(I:Inv X pins σ H s)(hg:Gl X x)(hm:X.mg x=some u)(h:Q u s)
  (hd:(x==("__debug__":Str))=false:=by decide):wpAny (model X.prog X.w) X.A (eval (.Name x pos) X.env) Q E s:=
 Calls.Name_function_global I.ok.kind hg (Calls.loadGlobal_global (by rw[I.ok.glob];exact I.mod.glob.keeps I.bk) hm h) hd
theorem Vi {E:Value->Shared->Prop}{pins:List (Addr×Obj)}{s:Shared}{σ:St}{H:Hp}{x:Str}{u:Value}{pos:Pos}{Q:Value->Shared->Prop}(I:Inv X pins σ H s)(hg:Gl X x)(hm:X.mg x=none)(hv:bootBuiltins x=some u)(h:Q u s)
  (hn:x≠ "__name__":=by decide)(hd:(x==("__debug__":Str))=false:=by decide):wpAny (model X.prog X.w) X.A (eval (.Name x pos) X.env) Q E s:=by
 obtain⟨mb,h1,h2⟩:=I.mod.blt
 exact Calls.Name_function_global I.ok.kind hg (Calls.loadGlobal_builtin (by rw[I.ok.glob];exact I.mod.glob.keeps I.bk) hm (by rw[I.ok.blt];exact h1.keeps I.bk) ((h2 x hn).trans hv) h) hd
theorem Iv {x:Str}{v:V}{u:Value}{pos:Pos}(hg:Gl X x)(hm:X.mg x=some u)(r:YJ v u)(hd:(x==("__debug__":Str))=false:=by decide):PE X (.Name x pos) (tC v):=
 λ_ _ _ H _ I h=>Bu I hg hm ⟨v,H,I,r,h⟩ hd
theorem UO {x:Str}{v:V}{u:Value}{pos:Pos}(hg:Gl X x)(hm:X.mg x=none)(hv:bootBuiltins x=some u)(r:YJ v u)(hn:x≠ "__name__":=by decide)(hd:(x==("__debug__":Str))=false:=by decide):PE X (.Name x pos) (tC v):=
 λ_ _ _ H _ I h=>Vi I hg hm hv ⟨v,H,I,r,h⟩ hn hd
variable {a b:Expr}{ta tb:TE}{pos:Pos}
noncomputable def tB (t:TE):TT:=λσ H Q=>t σ H λx H1=>∃ c,x= .bl c/\Q c H1
theorem QM {e:Expr}{t:TE}(h:PE X e t)(he:∀whole,isTrue e X.env whole=(do let v ←whole;standAt e.pos;holding [v] (truthy v)):=by intro _;rfl):PT X e (tB t):=by
 intro pins s σ H Q I hw
 refine isTrue_plain (thn (h pins s σ H _ I hw) λv s1 r9=>?_) (he _)
 obtain⟨x,H1,I1,r1,q1⟩:=r9
 obtain⟨d,rfl,q⟩:=q1
 cases r1
 exact wpAny_truthy_bool ⟨H1,I1,q⟩
variable {tA tB':TT}{rest:List Expr}
noncomputable def Nk (t u:TT):TT:=λσ H Q=>t σ H λc H1=>if c=true then u σ H1 Q else Q false H1
noncomputable def tOr (t u:TT):TT:=λσ H Q=>t σ H λc H1=>if c=true then Q true H1 else u σ H1 Q
noncomputable def No (t:TT):TT:=λσ H Q=>t σ H λc H1=>Q (!c) H1
theorem Qk (ha:PT X a tA):PW X (.BoolOp .And [a] pos) tA:=by
 intro wh pins s σ H Q I h
 refine isTrue_and (thn (ha pins s σ H Q I h) λc s1 e=>?_)
 cases c with
 |true=>exact isTrue_and_nil e
 |false=>exact e
theorem Mu (ha:PT X a tA):PW X (.BoolOp .Or [a] pos) tA:=by
 intro wh pins s σ H Q I h
 refine isTrue_or (thn (ha pins s σ H Q I h) λc s1 e=>?_)
 cases c with
 |false=>exact isTrue_or_nil e
 |true=>exact e
theorem ZX (ha:PT X a tA)(hb:PW X (.BoolOp .And (b::rest) pos) tB'):PW X (.BoolOp .And (a::b::rest) pos) (Nk tA tB'):=by
 intro wh pins s σ H Q I h
 refine isTrue_and (thn (ha pins s σ H _ I h) λc s1 r9=>?_)
 obtain⟨H1,I1,q1⟩:=r9
 cases c with
 |true=>exact hb wh pins s1 σ H1 Q I1 q1
 |false=>exact⟨H1,I1,q1⟩
theorem MJ (ha:PT X a tA)(hb:PW X (.BoolOp .Or (b::rest) pos) tB'):PW X (.BoolOp .Or (a::b::rest) pos) (tOr tA tB'):=by
 intro wh pins s σ H Q I h
 refine isTrue_or (thn (ha pins s σ H _ I h) λc s1 r9=>?_)
 obtain⟨H1,I1,q1⟩:=r9
 cases c with
 |true=>exact⟨H1,I1,q1⟩
 |false=>exact hb wh pins s1 σ H1 Q I1 q1
theorem JM (ha:PT X a tA):PT X (.UnaryOp .Not a pos) (No tA):=by
 intro pins s σ H Q I h
 exact isTrue_not (thn (ha pins s σ H (λc H1=>Q (!c) H1) I h) λc s1 r9=>by obtain⟨H1,I1,q1⟩:=r9;exact⟨H1,I1,q1⟩)
noncomputable def Mm (ta tb:TE):TE:=λσ H Q=>ta σ H λx H1=>∃ c,x= .bl c/\if c=true then tb σ H1 Q else Q (.bl false) H1
noncomputable def LW (ta:TE):TE:=λσ H Q=>ta σ H λx H1=>∃ c,x= .bl c/\Q (.bl (!c)) H1
theorem Mk {op}{t:TE}(h:PE X a t):PE X (.BoolOp op [a] pos) t:=λpins s σ H Q I hw=>BoolOp_one (h pins s σ H Q I hw)
theorem Mp (ha:PE X a ta)(hb:PE X (.BoolOp .And (b::rest) pos) tb):PE X (.BoolOp .And (a::b::rest) pos) (Mm ta tb):=by
 intro pins s σ H Q I h
 refine BoolOp_and (thn (ha pins s σ H _ I h) λv s1 r9=>?_)
 obtain⟨x,H1,I1,r1,q1⟩:=r9
 obtain⟨c,rfl,q1⟩:=q1
 cases r1
 refine wpAny_truthy_bool ?_
 cases c with
 |true=>exact hb pins s1 σ H1 Q I1 q1
 |false=>exact⟨.bl false,H1,I1,rfl,q1⟩
theorem Ml (ha:PE X a ta):PE X (.UnaryOp .Not a pos) (LW ta):=by
 intro pins s σ H Q I h
 refine UnaryOp_ (thn (ha pins s σ H _ I h) λv s1 r9=>?_)
 obtain⟨x,H1,I1,r1,q1⟩:=r9
 obtain⟨c,rfl,q1⟩:=q1
 cases r1
 exact not_of (wpAny_truthy_bool ⟨.bl (!c),H1,I1,rfl,q1⟩)
noncomputable def tIf (t:TT)(ta tb:TE):TE:=λσ H Q=>t σ H λc H1=>if c=true then ta σ H1 Q else tb σ H1 Q
theorem Hc {c:Expr}(hc:PT X c tA)(ha:PE X a ta)(hb:PE X b tb):PE X (.IfExp c a b pos) (tIf tA ta tb):=by
 intro pins s σ H Q I h
 refine wpAny_IfExp (thn (hc pins s σ H _ I h) λd s1 r9=>?_)
 obtain⟨H1,I1,q1⟩:=r9
 cases d with
 |true=>exact ha pins s1 σ H1 Q I1 q1
 |false=>exact hb pins s1 σ H1 Q I1 q1
end
noncomputable def SqL (K:PySem.W.Frag)(H:Hp)(a:Addr)(xs:List V):Prop:=
 Rd H a (.lst xs)∨
  ∃(o:Obj) (its:Array Value) (n:Nat),K.lookup a=some o/\o.cls= .type "list" /\o.dict=none/\o.data= .seq its n/\its.size<=sizeLine/\Yu xs its.toList
noncomputable def SqT (K:PySem.W.Frag)(H:Hp)(a:Addr)(xs:List V):Prop:=
 Rd H a (.tup xs)∨
  ∃(o:Obj) (its:Array Value) (n:Nat),K.lookup a=some o/\o.cls= .type "tuple" /\o.data= .seq its n/\its.size<=sizeLine/\Yu xs its.toList
noncomputable def NB:Value->Option V
 | .none=>some .non
 | .bool b=>some (.bl b)
 | .int i _=>some (.int i)
 | .str x _=>some (.str x)
 | .bytes b _=>some (.byt b)
 | .float b _=>some (.flt b)
 | .ref a=>some (.ref a)
 | .type n=>some (.ty n)
 |_=>none
theorem YJ.abs {x:V}{u:Value}(r:YJ x u):NB u=some x:=by
 cases x with
 |non=>cases r;rfl
 |bl _=>cases r;rfl
 |int _=>obtain⟨t,rfl⟩:=r;rfl
 |str _=>obtain⟨t,rfl⟩:=r;rfl
 |byt _=>obtain⟨t,rfl⟩:=r;rfl
 |flt _=>obtain⟨t,rfl⟩:=r;rfl
 |ref _=>cases r;rfl
 |ty _=>cases r;rfl
theorem YJ.inj {x y:V}{u:Value}(r:YJ x u)(q:YJ y u):x=y:=Option.some.inj (r.abs.symm.trans q.abs)
theorem Yu.inj:∀{xs ys:List V}{us:List Value},Yu xs us->Yu ys us->xs=ys:=fun {xs ys us} p=>by
 induction p generalizing ys with
 |nil=>intro q;cases q;rfl
 |cons r _ ih=>intro q;cases q with |cons r' t'=>rw[r.inj r',ih t']
section
variable {X:Cx}{pins:List (Addr×Obj)}{σ:St}{H:Hp}{s:Shared}{a:Addr}{xs ys:List V}
theorem SqL.of {K:PySem.W.Frag}(h:H a=some (.lst xs)):SqL K H a xs:=.inl (.inl h)
theorem SqT.of {K:PySem.W.Frag}(h:H a=some (.tup xs)):SqT K H a xs:=.inl (.inl h)
theorem Inv.list (I:Inv X pins σ H s)(h:SqL X.K H a xs):∃its:List Value,Yu xs its/\PlainL s.heap a its.toArray/\xs.length<=sizeLine:=by
 rcases h with h | ⟨o,its,n,hk,hc,hd,hs,hz,r⟩
 ·obtain⟨z,its,n,r,e⟩:=h.ok I.hok
  exact⟨its,r,⟨_,n,e,rfl,rfl,rfl⟩,z⟩
 ·refine⟨its.toList,r,⟨o,n,I.kIn a o hk,hc,hd,by simpa using hs⟩,?_⟩
  have e:=r.length
  simp only[Array.length_toList] at e
  lia
theorem Inv.tuple (I:Inv X pins σ H s)(h:SqT X.K H a xs):∃its:List Value,Yu xs its/\IsTup s.heap a its.toArray/\xs.length<=sizeLine:=by
 rcases h with h | ⟨o,its,n,hk,hc,hs,hz,r⟩
 ·obtain⟨z,its,r,p⟩:=h.ok I.hok
  exact⟨its,r,p.t,z⟩
 ·refine⟨its.toList,r,⟨o,I.kIn a o hk,hc,n,by simpa using hs⟩,?_⟩
  have e:=r.length
  simp only[Array.length_toList] at e
  lia
theorem Inv.list_inj (I:Inv X pins σ H s)(h:SqL X.K H a xs)(h':SqL X.K H a ys):xs=ys:=by
 obtain⟨its,r,⟨o,n,e,_,_,d⟩,_⟩:=I.list h
 obtain⟨its',r',⟨o',n',e',_,_,d'⟩,_⟩:=I.list h'
 rw[e] at e';cases e'
 rw[d] at d'
 injection d' with d1 _
 have:its=its':=by simpa using congrArg Array.toList d1
 subst this
 exact r.inj r'
end
noncomputable abbrev Cx.wish (X:Cx)(E:Value->Shared->Prop):Cx:={X with xe:=E}
noncomputable abbrev Cx.nox (X:Cx):Cx:=X.wish λ_ _=>False
theorem Cx.Ok.wish {X:Cx}(ok:X.Ok)(E:Value->Shared->Prop):(X.wish E).Ok:=
 ⟨ok.mod,ok.kind,ok.glob,ok.blt,ok.above,ok.inj,ok.has,ok.cab,ok.hd,ok.frames,ok.stk,ok.exf,ok.bs,ok.bsz,ok.noex,ok.exfs,ok.funs,ok.frf⟩
theorem Cx.Ok.unwish {X:Cx}{E:Value->Shared->Prop}(ok:(X.wish E).Ok):X.Ok:=
 ⟨ok.mod,ok.kind,ok.glob,ok.blt,ok.above,ok.inj,ok.has,ok.cab,ok.hd,ok.frames,ok.stk,ok.exf,ok.bs,ok.bsz,ok.noex,ok.exfs,ok.funs,ok.frf⟩
section
variable {X:Cx}{pins:List (Addr×Obj)}{σ:St}{H:Hp}{s:Shared}{E:Value->Shared->Prop}
theorem Inv.wish (I:Inv X pins σ H s)(E:Value->Shared->Prop):Inv (X.wish E) pins σ H s:=⟨I.ok.wish E,I.os,I.bare,I.base,I.loc,I.cell,I.free,I.freeC,I.pin,I.hok,I.len⟩
theorem Inv.unwish (I:Inv (X.wish E) pins σ H s):Inv X pins σ H s:=⟨I.ok.unwish,I.os,I.bare,I.base,I.loc,I.cell,I.free,I.freeC,I.pin,I.hok,I.len⟩
theorem SP.unwish {D:Ends}{f:Flow}{s':Shared}(h:SP (X.wish E) pins D f s'):SP X pins D f s':=by
 cases f with
 |next=>obtain⟨σ',H',I,q⟩:=h;exact⟨σ',H',I.unwish,q⟩
 |brk=>obtain⟨σ',H',I,q⟩:=h;exact⟨σ',H',I.unwish,q⟩
 |cont=>obtain⟨σ',H',I,q⟩:=h;exact⟨σ',H',I.unwish,q⟩
 |ret u=>obtain⟨v,σ',H',I,r,q⟩:=h;exact⟨v,σ',H',I.unwish,r,q⟩
theorem PSs.nox {st:List Stmt}{t:TS}(h:PSs X.nox st t):PSs X st t:=λpins s σ H D I hw=>
 wpAny_mono (h pins s σ H D (I.wish _) hw) (λ_ _ q=>q.unwish) λ_ _ z=>False.elim z
end
section
variable {X:Cx}{st:Stmt}{rest:List Stmt}{t u:TS}{e:Expr}{te:TE}{pos:Pos}
noncomputable def Bb:TS:=λD σ H=>D.nx σ H
noncomputable def J9 (t u:TS):TS:=λD σ H=>t {D with nx:=u D} σ H
theorem Xg:PSs X [] Bb:=λ_ _ σ H _ I h=>wpAny_execs_nil ⟨σ,H,I,h⟩
theorem Xb (h1:PS X st t)(h2:PSs X rest u):PSs X (st::rest) (J9 t u):=by
 intro pins s σ H D I h
 refine wpAny_execs_cons (thn (h1 pins s σ H {D with nx:=u D} I h) λf s1 q=>?_)
 cases f with
 |next=>
  obtain⟨σ',H',I',q⟩:=q
  exact h2 pins s1 σ' H' D I' q
 |ret v=>exact q
 |brk=>exact q
 |cont=>exact q
theorem Inv.quiet {pins:List (Addr×Obj)}{σ:St}{H:Hp}{s:Shared}(I:Inv X pins σ H s):interactive X.env=false:=by simp[interactive,I.ok.kind]
noncomputable def Dt (te:TE):TS:=λD σ H=>te σ H λ_ H1=>D.nx σ H1
theorem Yd (he:PE X e te)(hs:swapsWith e none pos.line X.env=pure false:=by rfl):PS X (.Expr e pos) (Dt te):=by
 intro pins s σ H D I h
 exact wpAny_Expr_any (thn (he pins s σ H _ I h) λv s1 r9=>by obtain⟨x,H1,I1,r1,q1⟩:=r9;exact⟨σ,H1,I1,q1⟩) I.quiet hs
noncomputable def Nm (te:TE):TS:=λD σ H=>te σ H D.rt
theorem XB (he:PE X e te):PS X (.Return (some e) pos) (Nm te):=by
 intro pins s σ H D I h
 exact wpAny_Return_some (thn (he pins s σ H _ I h) λv s1 r9=>by obtain⟨x,H1,I1,r1,q1⟩:=r9;exact⟨x,σ,H1,I1,r1,q1⟩)
noncomputable def Mw (c:TT)(t u:TS):TS:=λD σ H=>c σ H λb H1=>if b=true then t D σ H1 else u D σ H1
theorem YT {c:Expr}{a b:List Stmt}{tc:TT}(hc:PT X c tc)(ha:PSs X a t)(hb:PSs X b u):PS X (.If c a b pos) (Mw tc t u):=by
 intro pins s σ H D I h
 refine wpAny_If (thn (hc pins s σ H _ I h) λd s1 r9=>?_)
 obtain⟨H1,I1,q1⟩:=r9
 cases d with
 |true=>exact ha pins s1 σ H1 D I1 q1
 |false=>exact hb pins s1 σ H1 D I1 q1
noncomputable def LN:TS:=λ_ _ _=>False
theorem G4:PS X st LN:=λ_ _ _ _ _ _ h=>h.elim
end
noncomputable abbrev TG:=V->St->Hp->(St->Hp->Prop)->Prop
noncomputable abbrev TGs:=List V->St->Hp->(St->Hp->Prop)->Prop
noncomputable def PG (X:Cx)(target:Expr)(t:TG):Prop:=
 ∀(pins:List (Addr×Obj)) (s:Shared) (σ:St) (H:Hp) (v:V) (u:Value) (Q:St->Hp->Prop),Inv X pins σ H s->YJ v u->t v σ H Q->
  wpAny (model X.prog X.w) X.A (assign target X.env u) (λ_ s'=>∃ σ' H',Inv X pins σ' H' s'/\Q σ' H') X.xe s
noncomputable def PGs (X:Cx)(ts:List Expr)(t:TGs):Prop:=
 ∀(pins:List (Addr×Obj)) (s:Shared) (σ:St) (H:Hp) (vs:List V) (us:List Value) (Q:St->Hp->Prop),Inv X pins σ H s->Yu vs us->t vs σ H Q->
  wpAny (model X.prog X.w) X.A (assignInOrder ((assignEach ts X.env).map (·.2)) us) (λ_ s'=>∃ σ' H',Inv X pins σ' H' s'/\Q σ' H') X.xe s
noncomputable abbrev MQ:=V->V->V->Hp->(Hp->Prop)->Prop
noncomputable def Nj (X:Cx)(t:MQ):Prop:=
 ∀(pins:List (Addr×Obj)) (s:Shared) (σ:St) (H:Hp) (o i v:V) (ov iv u:Value) (Q:Hp->Prop),Inv X pins σ H s->YJ o ov->YJ i iv->YJ v u->t o i v H Q->
  wpAny (model X.prog X.w) X.A (setItem ov iv u) (λ_ s'=>∃ H',Inv X pins σ H' s'/\Q H') X.xe s
noncomputable abbrev TIp:=V->V->Hp->VK->Prop
noncomputable def PIp (X:Cx)(op:Operator)(t:TIp):Prop:=
 ∀(pins:List (Addr×Obj)) (s:Shared) (σ:St) (H:Hp) (x y:V) (v u:Value) (Q:VK),Inv X pins σ H s->YJ x v->YJ y u->t x y H Q->
  wpAny (model X.prog X.w) X.A (inplaceOp op v u) (EP X pins σ Q) X.xe s
section
variable {X:Cx}{pos:Pos}
noncomputable def Y6 (i:Nat):TG:=λv σ H Q=>Q (σ.set i (some v)) H
theorem Xm {i:Nat}{x:Str}(hN:X.N.Nodup)(hi:X.N[i]?=some x)(hx:Loc X.env.scope x)(hf:X.fn x=true∨X.env.scope.names.lookup x=some .local:=by first |exact .inl rfl |exact .inr rfl |assumption):PG X (.Name x pos) (Y6 i):=by
 intro pins s σ H v u Q I r h
 exact wpAny_assign_Name (Jo I hN hi hx r (λs' I'=>⟨_,H,I',h⟩) hf)
noncomputable def Hr:TGs:=λvs σ H Q=>vs=[]/\Q σ H
noncomputable def ZM (t:TG)(u:TGs):TGs:=λvs σ H Q=>∃ v r,vs=v::r/\t v σ H λσ' H'=>u r σ' H' Q
theorem Zv:PGs X [] Hr:=by
 intro pins s σ H vs us Q I r h
 obtain⟨e,h⟩:=h
 subst e
 cases r
 exact assignInOrder_nil ⟨σ,H,I,h⟩
theorem XH {e:Expr}{es:List Expr}{t:TG}{u:TGs}(h1:PG X e t)(h2:PGs X es u)
  (hs:(assignEach (e::es) X.env).map (·.2)=assign e X.env::(assignEach es X.env).map (·.2):=by rfl):PGs X (e::es) (ZM t u):=by
 intro pins s σ H vs us Q I r h
 obtain⟨v,vr,e1,h⟩:=h
 subst e1
 cases r with
 |cons r rr=>
  rw[hs]
  refine assignInOrder_cons (thn (h1 pins s σ H _ _ _ I r h) λ_ s1 r9=>?_)
  obtain⟨σ1,H1,I1,q1⟩:=r9
  exact h2 pins s1 σ1 H1 _ _ Q I1 rr q1
noncomputable def E4 (K:PySem.W.Frag)(n:Nat)(t:TGs):TG:=λv σ H Q=>∃ a xs,v= .ref a/\SqT K H a xs/\xs.length=n/\t xs σ H Q
theorem Qo {es:List Expr}{k:Nat}{t:TGs}{n:Nat}(hc:X.calm=true)(h:PGs X es t)
  (hn:(assignEach es X.env).length=n:=by rfl)(hst:(assignEach es X.env).findIdx? (·.1)=none:=by rfl):PG X (.Tuple es k pos) (E4 X.K n t):=by
 intro pins s σ H v u Q I r hw
 obtain⟨a,xs,e1,hq,hl,hw⟩:=hw
 subst e1
 cases r
 obtain⟨its,rv,ht,hz⟩:=I.tuple hq
 refine assign_Tuple_tuple (I.ok.hd hc) ht (by simp[hn, ←hl,rv.length]) hst λh' hx=>?_
 have I1:Inv X pins σ H {s with heap:=h'}:=I.kept (t':=s.toks) λb o e=>hx b o (Nat.ne_of_lt (Heap.lt_size e)) e
 exact h pins _ σ H xs _ Q I1 (by simpa using rv) hw
noncomputable def M2 (to ti:TE)(t:MQ):TG:=λv σ H Q=>to σ H λo H1=>ti σ H1 λi H2=>t o i v H2 λH3=>Q σ H3
theorem Fh {o i:Expr}{to ti:TE}{t:MQ}(ho:PE X o to)(hi:PE X i ti)(hs:Nj X t)
  (ha:∀v,assign (.Subscript o i pos) X.env v=(do
   let ov ←holding [v] (eval o X.env)
   let iv ←holding [v,ov] (eval i X.env)
   standAt pos
   holding [v,ov,iv] (setItem ov iv v)
   release [v,ov,iv] []):=by intro _;rfl):PG X (.Subscript o i pos) (M2 to ti t):=by
 intro pins s σ H v u Q I r h
 rw[ha]
 refine wpAny_bind (wpAny_holding (thn (ho pins s σ H _ I h) λov s1 r9=>?_))
 obtain⟨x,H1,I1,r1,q1⟩:=r9
 refine wpAny_bind (wpAny_holding (thn (hi pins s1 σ H1 _ I1 q1) λiv s2 r9=>?_))
 obtain⟨y,H2,I2,r2,q2⟩:=r9
 refine wpAny_bind (wpAny_standAt (wpAny_bind (wpAny_holding (thn (hs pins s2 σ H2 x y v ov iv u _ I2 r1 r2 r q2) λ_ s3 r9=>?_))))
 obtain⟨H3,I3,q3⟩:=r9
 exact wpAny_release ⟨σ,H3,I3,q3⟩
noncomputable def Ec (te:TE)(g:TG):TS:=λD σ H=>te σ H λx H1=>g x σ H1 D.nx
theorem VU {tg e:Expr}{te:TE}{g:TG}(he:PE X e te)(hg:PG X tg g)(hs:swapsWithSole [tg] e pos.line X.env=pure false:=by rfl)(hw:swappedStores [tg] e X.env=pure none:=by rfl)
  (h1:(assignEach [tg] X.env).map (·.2)=[assign tg X.env]:=by rfl):PS X (.Assign [tg] e pos) (Ec te g):=by
 intro pins s σ H D I h
 refine wpAny_Assign_stores (thn (he pins s σ H _ I h) λv s1 r9=>?_) hs hw
 obtain⟨x,H1,I1,r1,q1⟩:=r9
 rw[h1]
 exact thn (hg pins s1 σ H1 x v _ I1 r1 q1) λ_ s2 q=>q
theorem Xn {i:Nat}{x:Str}{e:Expr}{te:TE}{pos':Pos}(hN:X.N.Nodup)(hi:X.N[i]?=some x)(hx:Loc X.env.scope x)(he:PE X e te)(hs:swapsWith e (some (.Name x pos')) pos.line X.env=pure false:=by rfl)(hf:X.fn x=true∨X.env.scope.names.lookup x=some .local:=by first |exact .inl rfl |exact .inr rfl |assumption):
  PS X (.Assign [.Name x pos'] e pos) (Ec te (Y6 i)):=by
 intro pins s σ H D I h
 refine wpAny_Assign_Name (thn (he pins s σ H _ I h) λv s1 r9=>?_) hs
 obtain⟨y,H1,I1,r1,q1⟩:=r9
 exact Jo I1 hN hi hx r1 (λs2 I2=>⟨_,H1,I2,q1⟩) hf
noncomputable def Nr (i j:Nat)(ta:TA):TS:=λD σ H=>ta σ H λvs H1=>∃ v w,vs=[v,w]/\D.nx ((σ.set i (some v)).set j (some w)) H1
theorem FJ {i j:Nat}{x y:Str}{a b:Expr}{ta:TA}{px py pt:Pos}{kt k2 pt2}(hc:X.calm=true)(hN:X.N.Nodup)(hi:X.N[i]?=some x)(hj:X.N[j]?=some y)(hij:i≠j)
  (hx:X.env.scope.names.lookup x=some .local)(hy:X.env.scope.names.lookup y=some .local)(ha:PA X [a,b] ta)
  (hw:swappedStores [.Tuple [.Name x px, .Name y py] kt pt] (.Tuple [a,b] k2 pt2) X.env=pure (some [x,y]))
  (hs:swapsWithSole [.Tuple [.Name x px, .Name y py] kt pt] (.Tuple [a,b] k2 pt2) pos.line X.env=pure false:=by rfl):
  PS X (.Assign [.Tuple [.Name x px, .Name y py] kt pt] (.Tuple [a,b] k2 pt2) pos) (Nr i j ta):=by
 intro pins s σ H D I h
 rw[exec_Assign_arm]
 refine wpAny_bind (wpAny_standAt ?_)
 rw[hs]
 refine wpAny_bind (wpAny_pure ?_)
 rw[if_neg (by decide)]
 refine wpAny_bind (Tuple_ (thn (ha _ pins s σ H _ I h) λus s1 r9=>?_))
 obtain⟨vs,H1,I1,r1,q1⟩:=r9
 obtain⟨v,w,e1,q1⟩:=q1
 subst e1
 obtain⟨u1,u2,rfl,rv,rw'⟩:∃u1 u2,us=[u1,u2]/\YJ v u1/\YJ w u2:=by
  cases r1 with
  |cons p q=>
   cases q with
   |cons p' q'=>
    cases q'
    exact⟨_,_,rfl,p,p'⟩
 refine wpAny_newObj_type ?_ (by show 2<=sizeLine;decide)
 have I2:Inv X pins σ H1 {s1 with heap:=s1.heap.push {cls:=.type "tuple",data:=.seq [u1,u2].toArray}}:=I1.kept (t':=s1.toks) λb o e=>Heap.get?_push_of_some _ e
 rw[hw]
 refine wpAny_bind (wpAny_pure ?_)
 show wpAny (model X.prog X.w) X.A (do rule "assign.swapped-stores";let items ←unpackItems (.ref s1.heap.objs.size) 2 none;assignInOrder [λv=>bindName X.env y v,λv=>bindName X.env x v] items.reverse;pure Flow.next) _ _ _
 refine wpAny_bind (wpAny_rule (wpAny_bind (unpackItems_tuple (items:=#[u1,u2]) (I.ok.hd hc) (IsTup.new s1.heap _) λh' hx'=>?_)))
 have I3:=I2.kept (h':=h') (t':=s1.toks) λb o e=>hx' b o (Nat.ne_of_lt (Heap.lt_size e)) e
 show wpAny _ _ (assignInOrder [λv=>bindName X.env y v,λv=>bindName X.env x v] [u2,u1] >>= λ_=>pure Flow.next) _ _ _
 refine wpAny_bind (assignInOrder_cons (wpAny_bindName (Jo I3 hN hj (.inl hy) rw' (λs2 I4=>?_) (.inr hy))))
 refine assignInOrder_cons (wpAny_bindName (Jo I4 hN hi (.inl hx) rv (λs3 I5=>assignInOrder_nil (wpAny_pure ?_)) (.inr hx)))
 rw[List.set_comm _ _ (Ne.symm hij)] at I5
 exact⟨_,H1,I5,q1⟩
noncomputable def M4 (i:Nat)(te:TE)(ti:TIp):TS:=λD σ H=>∃ x,σ[i]?=some (some x)/\te σ H λy H1=>ti x y H1 λz H2=>D.nx (σ.set i (some z)) H2
theorem B0 {i:Nat}{x:Str}{e:Expr}{te:TE}{op:Operator}{ti:TIp}{pos':Pos}(hN:X.N.Nodup)(hi:X.N[i]?=some x)(hx:Loc X.env.scope x)(he:PE X e te)(ho:PIp X op ti)(hf:X.fn x=true∨X.env.scope.names.lookup x=some .local:=by first |exact .inl rfl |exact .inr rfl |assumption):
  PS X (.AugAssign (.Name x pos') op e pos) (M4 i te ti):=by
 intro pins s σ H D I h
 obtain⟨v,e1,h⟩:=h
 obtain⟨m,hn,hl⟩:=I.loc
 have vis:Vis X.env.scope x:=by rcases hx with k |k;exact .inl k;exact .inr (.inl k)
 obtain⟨u,r,l⟩:=hl i x v hi e1 vis
 refine wpAny_AugAssign_Name ?_
 have go:wpAny (model X.prog X.w) X.A (eval e X.env) (λw s₂=>wpAny (model X.prog X.w) X.A (inplaceOp op u w) (λr s₃=>wpAny (model X.prog X.w) X.A (storeName X.env x r) (λ_=>SP X pins D .next) X.xe s₃) X.xe s₂) X.xe s:=by
  refine thn (he pins s σ H _ I h) λw s1 r9=>?_
  obtain⟨y,H1,I1,r1,q1⟩:=r9
  refine thn (ho pins s1 σ H1 v y u w _ I1 r r1 q1) λz s2 r9=>?_
  obtain⟨zv,H2,I2,r2,q2⟩:=r9
  exact Jo I2 hN hi hx r2 (λs3 I3=>⟨_,H2,I3,q2⟩) hf
 rcases l with⟨hk,hm⟩ | ⟨hk,c,hc,hcell⟩
 ·exact wpAny_loadName_local I.ok.kind hk hn hm go
 ·rcases hk with hk |hk
  ·exact wpAny_loadName_cell I.ok.kind hk hc hcell go
  ·rcases hx with k |k
   ·have:X.env.scope.names.lookup x=some .free:=hk
    rw[k] at this;cases this
   ·have:X.env.scope.names.lookup x=some .free:=hk
    rw[k] at this;cases this
noncomputable def ipI (f:Int->Int->Int):TIp:=λx y H Q=>∃ i j,x= .int i/\y= .int j/\Q (.int (f i j)) H
theorem Hq:PIp X .Add (ipI λi j=>i+j):=by
 intro pins s σ H x y v u Q I r1 r2 h
 obtain⟨i,j,e1,e2,q⟩:=h
 subst e1;subst e2
 obtain⟨t,rfl⟩:=r1
 obtain⟨t',rfl⟩:=r2
 exact iadd_int ⟨.int _,H,I.tok _,⟨_,rfl⟩,q⟩
end
section
variable {X:Cx}{pos:Pos}
noncomputable def Hm (c:TT)(tb:TS):TS:=λD σ H=>∃ W:Nat->St->Hp->Prop,(∃m,W m σ H)/\∀m σ H,W m σ H->
 c σ H λb H1=>if b=true then ∃N:St->Hp->Prop,(∀σ' H',N σ' H'->∃m',m'<m/\W m' σ' H')/\tb {D with nx:=N,ct:=N,bk:=D.nx} σ H1 else D.nx σ H1
theorem Vc {c:Expr}{body:List Stmt}{tc:TT}{tb:TS}(hp:PassesOwn (model X.prog X.w) X.A X.env X.xe)(hc:PT X c tc)(hb:PSs X body tb):PS X (.While c body [] pos) (Hm tc tb):=by
 intro pins s σ H D I h
 obtain⟨W,⟨m0,w0⟩,turn⟩:=h
 refine wpAny_While (codeAny_whileLoop (λn s'=>∃ σ' H',Inv X pins σ' H' s'/\W n σ' H') ?_ m0 ⟨σ,H,I,w0⟩)
 rintro n s1 ⟨σ1,H1,I1,w1⟩
 refine wpAny_passesOwn hp (thn (hc pins s1 σ1 H1 _ I1 (turn n σ1 H1 w1)) λb s2 r9=>?_)
 obtain⟨H2,I2,q2⟩:=r9
 cases b with
 |true=>
  obtain⟨N,hN,q2⟩:=q2
  rw[if_pos rfl]
  refine wpAny_passesOwn hp (thn (hb pins s2 σ1 H2 _ I2 q2) λf s3 q3=>?_)
  cases f with
  |next=>
   obtain⟨σ3,H3,I3,n3⟩:=q3
   obtain⟨m',hm,w3⟩:=hN σ3 H3 n3
   exact⟨m',hm,σ3,H3,I3,w3⟩
  |cont=>
   obtain⟨σ3,H3,I3,n3⟩:=q3
   obtain⟨m',hm,w3⟩:=hN σ3 H3 n3
   exact⟨m',hm,σ3,H3,I3,w3⟩
  |brk=>exact q3
  |ret v=>exact q3
 |false=>
  rw[if_neg Bool.false_ne_true]
  exact wpAny_execs_nil ⟨σ1,H2,I2,q2⟩
end
structure It where
 go:Nat->Hp->Prop
 yld:Nat->Hp->V->Hp->Prop
 stop:Nat->Hp->Prop
noncomputable def FY (X:Cx)(pins:List (Addr×Obj))(H:Hp)(b:Addr):Prop:=
 H b=none/\b≠X.env.locals/\b∉X.fs/\(b∈X.ex∨X.s₀.heap.objs.size<=b)/\(∀x c,X.env.cells.lookup x=some c->c≠b)/\∀p∈X.pn++pins,p.1≠b
theorem Inv.fpOk {X:Cx}{pins:List (Addr×Obj)}{σ:St}{H H':Hp}{s:Shared}{b:Addr}(I:Inv X pins σ H s)(hb:s.heap.objs.size<=b)(hn:H' b=none):FY X pins H' b:=by
 refine⟨hn,Nat.ne_of_gt (Nat.lt_of_lt_of_le I.lt hb),I.nofs hb, .inr (Nat.le_trans I.sz hb),λx c e z=>?_,λp hp z=>?_⟩
 ·obtain⟨v,q⟩:=I.cell x c e
  exact absurd (Nat.lt_of_lt_of_le q.lt (by rw[z];exact hb)) (Nat.lt_irrefl _)
 ·exact absurd (Nat.lt_of_lt_of_le (Heap.lt_size (I.pin p hp).1) (by rw[z];exact hb)) (Nat.lt_irrefl _)
structure Turn (P:Program)(w:World)(K:PySem.W.Frag)(tg:Expr)(J:It)(fp:List Addr)(it:Addr)(tn:Nat->Heap->Prop):Prop where
 mem:it∈fp
 obj:∀i h,tn i h->∀b∈fp,∃o,h.get? b=some o/\∀v,o.data≠ .cell v
 keep:∀i h h',tn i h->(∀b∈fp,∀o,h.get? b=some o->h'.get? b=some o)->tn i h'
 item:∀(X:Cx),X.prog=P->X.w=w->X.K=K->X.calm=true->∀(i:Nat) (pins:List (Addr×Obj)) (s:Shared) (σ:St) (H:Hp) (E:Value->Shared->Prop),Inv X pins σ H s->(∀b∈fp,FY X pins H b)->tn i s.heap->J.go i H->
  wpAny (model P w) X.A (pyNext (.ref it)) (λr s1=>∃ u,r=some u/\
   wpAny (model P w) X.A (letOwnedTupleGo tg (.ref it) u) (λ_ s2=>∃ x H',Inv X pins σ H' s2/\YJ x u/\J.yld i H x H'/\tn (i+1) s2.heap/\∀b∈fp,H' b=none) E s1) E s
 done:∀(X:Cx),X.prog=P->X.w=w->X.K=K->X.calm=true->∀(i:Nat) (pins:List (Addr×Obj)) (s:Shared) (σ:St) (H:Hp) (E:Value->Shared->Prop),Inv X pins σ H s->(∀b∈fp,FY X pins H b)->tn i s.heap->J.stop i H->
  wpAny (model P w) X.A (pyNext (.ref it)) (λr s1=>r=none/\Inv X pins σ H s1) E s
 self:∀(A:Around) (i:Nat) (s:Shared) (Q:Value->Shared->Prop) (E:Value->Shared->Prop),tn i s.heap->Q (.ref it) s->wpAny (model P w) A (pyIter (.ref it)) Q E s
noncomputable abbrev TI:=St->Hp->(It->Hp->Prop)->Prop
noncomputable def PIE (X:Cx)(pins:List (Addr×Obj))(σ:St)(tg:Expr)(R:It->Hp->Prop)(itv:Value)(s2:Shared):Prop:=
 ∃(it:Addr) (fp:List Addr) (tn:Nat->Heap->Prop) (J:It) (H':Hp),itv= .ref it/\Inv X pins σ H' s2/\Turn X.prog X.w X.K tg J fp it tn/\tn 0 s2.heap/\(∀b∈fp,FY X pins H' b)/\R J H'
noncomputable def PI (X:Cx)(tg iter:Expr)(wi:TI):Prop:=
 ∀(pins:List (Addr×Obj)) (s:Shared) (σ:St) (H:Hp) (R:It->Hp->Prop),Inv X pins σ H s->wi σ H R->
  wpAny (model X.prog X.w) X.A (eval iter X.env) (λv s1=>wpAny (model X.prog X.w) X.A (pyIter v) (PIE X pins σ tg R) X.xe s1) X.xe s
theorem LA {M:Model}{A:Around}{E:Value->Shared->Prop}{s:Shared}{tg:Expr}{it:Addr}{u:Value}{o:Obj}{n:String}{vs:Array Value}{Q:Unit->Shared->Prop}(ho:s.heap.get? it=some o)(hc:o.cls= .type n)(hd:o.data= .fields vs)
    (hn: ["enumerate","zip","dict_itemiterator","dict_reverseitemiterator","odict_iterator","itertools.zip_longest","itertools.pairwise"].contains n=false)(hQ:Q () s):wpAny M A (letOwnedTupleGo tg (.ref it) u) Q E s:=by
  unfold letOwnedTupleGo
  cases tg<;> first
    |exact wpAny_pure hQ
    | (cases u<;> first
        |exact wpAny_pure hQ
        | (refine wpAny_bind (wpAny_load ho ?_)
           rw[hc,hd]
           show wpAny M A (if(["enumerate","zip","dict_itemiterator","dict_reverseitemiterator","odict_iterator","itertools.zip_longest","itertools.pairwise"].contains n&&vs[0]?==some (rawInt _))=true then _ else _) Q E s
           rw[if_neg (by intro h;rw[hn,Bool.false_and] at h;cases h)]
           exact wpAny_pure hQ))
noncomputable def Itl (K:PySem.W.Frag)(a:Addr):It:=
 ⟨λi H=>∃ xs x,SqL K H a xs/\xs[i]?=some x,λi H x H'=>H'=H/\∀xs,SqL K H a xs->xs[i]?=some x,λi H=>∃ xs,SqL K H a xs/\xs.length<=i⟩
noncomputable def Itr (lo:Int)(n:Nat):It:=⟨λi _=>i<n,λi H x H'=>H'=H/\x= .int (lo+i),λi _=>n<=i⟩
theorem Bj {P:Program}{w:World}{K:PySem.W.Frag}{tg:Expr}(a it:Addr):Turn P w K tg (Itl K a) [it] it (λi h=>h.IsListIter it a i) where
 mem:=by simp
 obj:=λi h st b hb=>by
  have e:b=it:=by simpa using hb
  subst e
  obtain⟨o,e,c,d⟩:=st
  exact⟨o,e,λv z=>by rw[d] at z;cases z⟩
 keep:=λi h h' st k=>st.at λo e=>k it (by simp) o e
 item:=by
  intro X hP hw hK hc i pins s σ H E I hf st hg
  subst hP hw hK
  obtain⟨xs,x,hq,hx⟩:=hg
  obtain⟨its,rv,p,hz⟩:=I.list hq
  obtain⟨u,hu,ru⟩:=rv.get hx
  obtain⟨f0,f1,f2,f3,f4,f5⟩:=hf it (by simp)
  refine wpAny_pyNext_list_item st p.isList (x:=u) (by simpa using hu) λh' st' sb=>?_
  have I1:Inv X pins σ H {s with heap:=h'}:=I.turned (t':=s.toks) (λb o hb e=>(sb.2 b hb).trans e) f0 f1 f3 f4 f5
  obtain⟨o,e,c,d⟩:=id st'
  exact⟨u,rfl,LA (s:={s with heap:=h'}) e c d (by decide) ⟨x,H,I1,ru,⟨rfl,λys hy=>by rw[I.list_inj hy hq];exact hx⟩,st',λb hb=>(hf b hb).1⟩⟩
 done:=by
  intro X hP hw hK hc i pins s σ H E I hf st hg
  subst hP hw hK
  obtain⟨xs,hq,hx⟩:=hg
  obtain⟨its,rv,p,hz⟩:=I.list hq
  obtain⟨f0,f1,f2,f3,f4,f5⟩:=hf it (by simp)
  have hl:=rv.length
  exact wpAny_pyNext_list_end (I.ok.hd hc) st p.isList (by simp;lia) λh' eb=>⟨rfl,I.turned (t':=s.toks) (λb o hb e=>eb b o hb e) f0 f1 f3 f4 f5⟩
 self:=λ_ _ _ _ _ st h=>wpAny_pyIter_listiter st h
theorem F4 {P:Program}{w:World}{K:PySem.W.Frag}{tg:Expr}(it:Addr)(lo:Int)(n:Nat):Turn P w K tg (Itr lo n) [it] it (λi h=>IsRangeIter h it (lo+(i:Nat)*1) ((n:Int)-(i:Nat)) 1) where
 mem:=by simp
 obj:=λi h st b hb=>by
  have e:b=it:=by simpa using hb
  subst e
  exact⟨_,st,λv z=>by
   have z':Data.fields _=Data.cell v:=z
   cases z'⟩
 keep:=λi h h' st k=>k it (by simp) _ st
 item:=by
  intro X hP hw hK hc i pins s σ H E I hf st hg
  subst hP hw hK
  obtain⟨f0,f1,f2,f3,f4,f5⟩:=hf it (by simp)
  have W:=Walks.range (prog:=X.prog) (w:=X.w) (I.ok.hd hc) it lo 1 n
  refine W.item i s _ _ hg st λv h' tk hv st' kk=>?_
  obtain⟨t,rfl⟩:=hv
  have I1:Inv X pins σ H {s with heap:=h',toks:=tk}:=I.turned (λb o hb e=>kk b o (by simpa using hb) e) f0 f1 f3 f4 f5
  refine⟨_,rfl,LA (s:={s with heap:=h',toks:=tk}) (n:="range_iterator") st' rfl rfl (by decide) ⟨.int (lo+i),H,I1,⟨t,?_⟩,⟨rfl,rfl⟩,st',λb hb=>(hf b hb).1⟩⟩
  rw[Int.mul_one]
 done:=by
  intro X hP hw hK hc i pins s σ H E I hf st hg
  subst hP hw hK
  obtain⟨f0,f1,f2,f3,f4,f5⟩:=hf it (by simp)
  exact wpAny_pyNext_range_end (I.ok.hd hc) st (by have:n<=i:=hg;lia) λh' eb=>⟨rfl,I.turned (t':=s.toks) (λb o hb e=>eb b o hb e) f0 f1 f3 f4 f5⟩
 self:=λ_ _ _ _ _ st h=>wpAny_pyIter_rangeiter st h
section
variable {X:Cx}{tg:Expr}
noncomputable def Ib (K:PySem.W.Frag)(tl:TE):TI:=λσ H R=>tl σ H λx H1=>∃ a,x= .ref a/\(∃xs,SqL K H1 a xs)/\R (Itl K a) H1
theorem Ia {l:Expr}{tl:TE}(hl:PE X l tl):PI X tg l (Ib X.K tl):=by
 intro pins s σ H R I h
 refine thn (hl pins s σ H _ I h) λv s1 r9=>?_
 obtain⟨x,H1,I1,r1,q1⟩:=r9
 obtain⟨a,e,⟨xs,hq⟩,q⟩:=q1
 subst e
 cases r1
 obtain⟨its,rv,p,hz⟩:=I1.list hq
 refine wpAny_pyIter_list p.isList ?_
 refine⟨s1.heap.objs.size,[s1.heap.objs.size],_,_,H1,rfl,I1.kept (t':=s1.toks) λb o e=>Heap.get?_push_of_some _ e,Bj a _,⟨_,Heap.get?_push_size _ rfl,rfl,rfl⟩,λb hb=>?_,q⟩
 have e:b=s1.heap.objs.size:=by simpa using hb
 subst e
 exact I1.fpOk (Nat.le_refl _) (I1.hok.fresh (Nat.le_refl _))
theorem EO {pins:List (Addr×Obj)}{σ:St}{H:Hp}{s:Shared}{R:It->Hp->Prop}{E:Value->Shared->Prop}{lo hi:Int}{t u v:Tok}{tk:Nat}(I:Inv X pins σ H s)(h1: -(2^62)<=lo)(h2:lo<2^62)(h3: -(2^62)<=hi)(h4:hi<2^62)
  (q:R (Itr lo (hi-lo).toNat) H):wpAny (model X.prog X.w) X.A (pyIter (.ref s.heap.objs.size)) (PIE X pins σ tg R) E {s with heap:=s.heap.push {cls:=.type "range",data:=.fields #[.int lo t, .int hi u, .int 1 v]},toks:=tk}:=by
 refine wpAny_pyIter_range (IsRange.new ..) (small_one h1 h2 h3 h4) ?_
 have I1:Inv X pins σ H {s with heap:=s.heap.push {cls:=.type "range",data:=.fields #[.int lo t, .int hi u, .int 1 v]},toks:=tk}:=I.kept λb o e=>Heap.get?_push_of_some _ e
 refine⟨(s.heap.push {cls:=.type "range",data:=.fields #[.int lo t, .int hi u, .int 1 v]}).objs.size,[(s.heap.push {cls:=.type "range",data:=.fields #[.int lo t, .int hi u, .int 1 v]}).objs.size],_,_,H,rfl,
  I1.kept (t':=tk) λb o e=>Heap.get?_push_of_some _ e,F4 _ lo (hi-lo).toNat,?_,λb hb=>?_,q⟩
 ·have e1:lo+((0:Nat):Int)*1=lo:=by simp
  have e2:(((hi-lo).toNat:Nat):Int)-((0:Nat):Int)=Builtin.Range.rangeSize lo hi 1:=by rw[rangeSize_one];split<;> lia
  show IsRangeIter _ _ (lo+((0:Nat):Int)*1) ((((hi-lo).toNat:Nat):Int)-((0:Nat):Int)) 1
  rw[e1,e2]
  exact Heap.get?_push_size _ rfl
 ·have e:b=(s.heap.push {cls:= .type "range",data:= .fields #[.int lo t, .int hi u, .int 1 v]}).objs.size:=by simpa using hb
  subst e
  exact I1.fpOk (Nat.le_refl _) (I1.hok.fresh (Nat.le_refl _))
noncomputable def LO (ta:TA):TI:=λσ H R=>ta σ H λvs H1=>∃ j:Int,vs=[.int j]/\ -(2^62)<=j/\j<2^62/\R (Itr 0 j.toNat) H1
theorem XQ {a:Expr}{ta:TA}{p pos:Pos}(hg:Gl X "range")(hm:X.mg "range" =none)(ha:PA X [a] ta)(hs:starEach [a] X.env=[(false,eval a X.env)]:=by rfl):PI X tg (.Call (.Name "range" p) [a] [] pos) (LO ta):=by
 intro pins s σ H R I h
 refine Call_ (Vi I hg hm boot_range (PyProof.Rows.callWith_type1 (thn (ha pos pins s σ H _ I h) λus s1 r9=>?_) hs rfl))
 obtain⟨vs,H1,I1,r1,q1⟩:=r9
 obtain⟨j,e,q1,q2,q⟩:=q1
 subst e
 cases r1 with
 |cons r rr=>
  cases rr
  obtain⟨t,rfl⟩:=r
  exact call_range_1 (EO I1 (by lia) (by lia) q1 q2 (by simpa using q))
noncomputable def M7 (wi:TI)(g:TG)(tb:TS):TS:=λD σ H=>wi σ H λJ H1=>∃ W:Nat->Nat->St->Hp->Prop,(∃m,W 0 m σ H1)/\∀i m σ H,W i m σ H->
 (J.stop i H/\D.nx σ H)∨(J.go i H/\∃N:St->Hp->Prop,(∀σ' H',N σ' H'->∃m',m'<m/\W (i+1) m' σ' H')/\∀x H',J.yld i H x H'->g x σ H' λσ2 H2=>tb {D with nx:=N,ct:=N,bk:=D.nx} σ2 H2)
noncomputable def Kz (fp:List Addr)(h:Heap):List (Addr×Obj):=fp.filterMap λb=>(h.get? b).map λo=>(b,o)
theorem Jz {fp:List Addr}{h:Heap}{b:Addr}{o:Obj}(hb:b∈fp)(e:h.get? b=some o):(b,o)∈Kz fp h:=List.mem_filterMap.mpr ⟨b,hb,by rw[e];rfl⟩
theorem Cj {fp:List Addr}{h:Heap}{p:Addr×Obj}(hp:p∈Kz fp h):p.1∈fp/\h.get? p.1=some p.2:=by
 obtain⟨b,hb,e⟩:=List.mem_filterMap.mp hp
 cases q:h.get? b with
 |none=>rw[q] at e;cases e
 |some o=>
  rw[q] at e
  have e':(b,o)=p:=Option.some.inj e
  subst e'
  exact⟨hb,q⟩
theorem Inv.pinned {pins:List (Addr×Obj)}{σ:St}{H:Hp}{s:Shared}{fp:List Addr}(I:Inv X pins σ H s)(hf:∀b∈fp,FY X pins H b)(ho:∀b∈fp,∃o,s.heap.get? b=some o/\∀v,o.data≠ .cell v):Inv X (pins++Kz fp s.heap) σ H s:=
 I.pins_of λp hp=>(List.mem_append.mp hp).elim (λz=>I.pin p (List.mem_append_right _ z)) λz=>by
  obtain⟨hb,e⟩:=Cj z
  obtain⟨f0,f1,f2,_⟩:=hf p.1 hb
  obtain⟨o,e',d⟩:=ho p.1 hb
  rw[e] at e';cases e'
  exact⟨e,f0,f1,f2,d⟩
theorem Inv.unpinned {pins pl:List (Addr×Obj)}{σ:St}{H:Hp}{s:Shared}(I:Inv X (pins++pl) σ H s):Inv X pins σ H s:=I.pins_of λp hp=>I.pin p (List.mem_append_right _ (List.mem_append_left _ hp))
theorem XU {iter:Expr}{body:List Stmt}{wi:TI}{g:TG}{tb:TS}{pos:Pos}(hp:PassesOwn (model X.prog X.w) X.A X.env X.xe)(hc:X.calm=true)(hi:PI X tg iter wi)(hg:PG X tg g)(hb:PSs X body tb)
  (hs:∀x,foldedSetIterable iter X.env x=pure x:=by intro _;rfl):PS X (.For tg iter body [] pos) (M7 wi g tb):=by
 intro pins s σ H D I h
 refine wpAny_For (thn (hi pins s σ H _ I h) λv s1 h1=>thn h1 λitv s2 h2=>?_) hs
 obtain⟨it,fp,tn,J,H2,e,I2,T,st2,f2,W,⟨m0,w0⟩,turn⟩:=h2
 subst e
 -- what stays true of the iterator's objects through the loop
 have stat:∀{H':Hp},(∀b∈fp,H' b=none)->∀b∈fp,FY X pins H' b:=λhn b hb=>⟨hn b hb,(f2 b hb).2⟩
 refine codeAny_forLoop_any (λn s'=>∃ i σ' H',Inv X pins σ' H' s'/\tn i s'.heap/\(∀b∈fp,H' b=none)/\W i n σ' H') ?_ m0 ⟨0,σ,H2,I2,st2,λb hb=>(f2 b hb).1,w0⟩
 rintro n s3 ⟨i,σ3,H3,I3,st3,fr3,w3⟩
 rcases turn i n σ3 H3 w3 with⟨stop,qn⟩ | ⟨go,N,hN,step⟩
 ·refine wpAny_passesOwn hp (thn (T.done X rfl rfl rfl hc i pins s3 σ3 H3 X.xe I3 (stat fr3) st3 stop) λr s4 r9=>?_)
  obtain⟨hr,I4⟩:=r9
  subst hr
  exact wpAny_execs_nil ⟨σ3,H3,I4,qn⟩
 ·refine wpAny_passesOwn hp (thn (T.item X rfl rfl rfl hc i pins s3 σ3 H3 X.xe I3 (stat fr3) st3 go) λr s4 r9=>?_)
  obtain⟨u,hr,h4⟩:=r9
  subst hr
  refine wpAny_passesOwn hp (thn h4 λ_ s5 r9=>?_)
  obtain⟨x,H5,I5,r5,y5,st5,fr5⟩:=r9
  have I5':=I5.pinned (stat fr5) (T.obj _ _ st5)
  refine wpAny_passesOwn hp (thn (hg _ s5 σ3 H5 x u _ I5' r5 (step x H5 y5)) λ_ s6 r9=>?_)
  obtain⟨σ6,H6,I6,q6⟩:=r9
  refine wpAny_passesOwn hp (thn (hb _ s6 σ6 H6 _ I6 q6) λf s7 q7=>?_)
  have again:∀{σ7:St}{H7:Hp},Inv X (pins++Kz fp s5.heap) σ7 H7 s7->N σ7 H7->∃m,m<n/\∃i σ' H',Inv X pins σ' H' s7/\tn i s7.heap/\(∀b∈fp,H' b=none)/\W i m σ' H':=fun {σ7 H7} I7 n7=>by
   obtain⟨m',hm,w7⟩:=hN σ7 H7 n7
   refine⟨m',hm,i+1,σ7,H7,I7.unpinned,T.keep _ _ _ st5 λb hb o e=>(I7.pin (b,o) (List.mem_append_right _ (List.mem_append_right _ (Jz hb e)))).1,λb hb=>?_,w7⟩
   obtain⟨o,e,d⟩:=T.obj _ _ st5 b hb
   exact(I7.pin (b,o) (List.mem_append_right _ (List.mem_append_right _ (Jz hb e)))).2.1
  cases f with
  |next=>obtain⟨σ7,H7,I7,n7⟩:=q7;exact again I7 n7
  |cont=>obtain⟨σ7,H7,I7,n7⟩:=q7;exact again I7 n7
  |brk=>obtain⟨σ7,H7,I7,q7⟩:=q7;exact⟨σ7,H7,I7.unpinned,q7⟩
  |ret v=>obtain⟨x7,σ7,H7,I7,r7,q7⟩:=q7;exact⟨x7,σ7,H7,I7.unpinned,r7,q7⟩
end
noncomputable abbrev R2:=V->V->Hp->VK->Prop
noncomputable def OpR (X:Cx)(f:Value->Value->Sem Value)(r:R2):Prop:=
 ∀(pins:List (Addr×Obj)) (s:Shared) (σ:St) (H:Hp) (x y:V) (v u:Value) (Q:VK),Inv X pins σ H s->YJ x v->YJ y u->r x y H Q->
  wpAny (model X.prog X.w) X.A (f v u) (EP X pins σ Q) X.xe s
noncomputable def UnR (X:Cx)(f:Value->Sem Value)(r:V->Hp->VK->Prop):Prop:=
 ∀(pins:List (Addr×Obj)) (s:Shared) (σ:St) (H:Hp) (x:V) (v:Value) (Q:VK),Inv X pins σ H s->YJ x v->r x H Q->
  wpAny (model X.prog X.w) X.A (f v) (EP X pins σ Q) X.xe s
noncomputable def JB (X:Cx)(f:Value)(r:List V->Hp->VK->Prop):Prop:=
 ∀(pins:List (Addr×Obj)) (s:Shared) (σ:St) (H:Hp) (xs:List V) (us:List Value) (Q:VK),Inv X pins σ H s->Yu xs us->r xs H Q->
  wpAny (model X.prog X.w) X.A (call f us) (EP X pins σ Q) X.xe s
noncomputable def tOp (r:R2)(ta tb:TE):TE:=λσ H Q=>ta σ H λx H1=>tb σ H1 λy H2=>r x y H2 Q
noncomputable def tUn (r:V->Hp->VK->Prop)(ta:TE):TE:=λσ H Q=>ta σ H λx H1=>r x H1 Q
noncomputable def rI (C:Int->Int->Prop)(g:Int->Int->V):R2:=λx y H Q=>∃ i j,x= .int i/\y= .int j/\C i j/\Q (g i j) H
noncomputable def rI0 (g:Int->Int->V):R2:=λx y H Q=>∃ i j,x= .int i/\y= .int j/\Q (g i j) H
noncomputable def rU (g:Int->V):V->Hp->VK->Prop:=λx H Q=>∃ i,x= .int i/\Q (g i) H
section
variable {X:Cx}{a b c:Expr}{ta tb tc:TE}{pos:Pos}
theorem M0 (ha:PE X a ta)(hb:PE X b tb){pins:List (Addr×Obj)}{s:Shared}{σ:St}{H:Hp}{R:V->V->Hp->Prop}(I:Inv X pins σ H s)
  (h:ta σ H λx H1=>tb σ H1 λy H2=>R x y H2){Q:Value->Shared->Prop}{f:Value->Value->Sem Value}
  (hf:∀v u s2 x y H2,Inv X pins σ H2 s2->YJ x v->YJ y u->R x y H2->wpAny (model X.prog X.w) X.A (f v u) Q X.xe s2):
  wpAny (model X.prog X.w) X.A (eval a X.env) (λv s₁=>wpAny (model X.prog X.w) X.A (eval b X.env) (λu s₂=>wpAny (model X.prog X.w) X.A (f v u) Q X.xe s₂) X.xe s₁) X.xe s:=by
 refine thn (ha pins s σ H _ I h) λv s1 r9=>?_
 obtain⟨x,H1,I1,r1,q1⟩:=r9
 refine thn (hb pins s1 σ H1 _ I1 q1) λu s2 r9=>?_
 obtain⟨y,H2,I2,r2,q2⟩:=r9
 exact hf v u s2 x y H2 I2 r1 r2 q2
theorem Xq {op:Operator}{r:R2}(ho:OpR X (binaryOp op) r)(ha:PE X a ta)(hb:PE X b tb):PE X (.BinOp a op b pos) (tOp r ta tb):=by
 intro pins s σ H Q I h
 exact wpAny_BinOp (M0 ha hb I h λv u s2 x y H2 I2 rx ry q=>ho pins s2 σ H2 x y v u Q I2 rx ry q)
theorem V1 {op:UnaryOp}{r:V->Hp->VK->Prop}(ho:UnR X (unaryOp op) r)(ha:PE X a ta):PE X (.UnaryOp op a pos) (tUn r ta):=by
 intro pins s σ H Q I h
 exact UnaryOp_ (thn (ha pins s σ H _ I h) λv s1 r9=>by obtain⟨x,H1,I1,r1,q1⟩:=r9;exact ho pins s1 σ H1 x v Q I1 r1 q1)
theorem opI {f:Value->Value->Sem Value}{C:Int->Int->Prop}{g:Int->Int->Int}
  (rule:∀(i j:Int) (t u:Tok) (s:Shared) (Q:Value->Shared->Prop) (E:Value->Shared->Prop),C i j->Q (.int (g i j) s.toks) {s with toks:=s.toks+1}->wpAny (model X.prog X.w) X.A (f (.int i t) (.int j u)) Q E s):
  OpR X f (rI C λi j=>.int (g i j)):=by
 intro pins s σ H x y v u Q I rx ry h
 obtain⟨i,j,rfl,rfl,hc,q⟩:=h
 obtain⟨t,rfl⟩:=rx
 obtain⟨t',rfl⟩:=ry
 exact rule i j t t' s _ _ hc ⟨.int (g i j),H,I.tok _,⟨_,rfl⟩,q⟩
theorem M9 {f:Value->Value->Sem Value}{g:Int->Int->Int}
  (rule:∀(i j:Int) (t u:Tok) (s:Shared) (Q:Value->Shared->Prop) (E:Value->Shared->Prop),Q (.int (g i j) s.toks) {s with toks:=s.toks+1}->wpAny (model X.prog X.w) X.A (f (.int i t) (.int j u)) Q E s):
  OpR X f (rI0 λi j=>.int (g i j)):=by
 intro pins s σ H x y v u Q I rx ry h
 obtain⟨i,j,rfl,rfl,q⟩:=h
 obtain⟨t,rfl⟩:=rx
 obtain⟨t',rfl⟩:=ry
 exact rule i j t t' s _ _ ⟨.int (g i j),H,I.tok _,⟨_,rfl⟩,q⟩
theorem MB {f:Value->Value->Sem Value}{g:Int->Int->Bool}
  (rule:∀(i j:Int) (t u:Tok) (s:Shared) (Q:Value->Shared->Prop) (E:Value->Shared->Prop),Q (.bool (g i j)) s->wpAny (model X.prog X.w) X.A (f (.int i t) (.int j u)) Q E s):
  OpR X f (rI0 λi j=>.bl (g i j)):=by
 intro pins s σ H x y v u Q I rx ry h
 obtain⟨i,j,rfl,rfl,q⟩:=h
 obtain⟨t,rfl⟩:=rx
 obtain⟨t',rfl⟩:=ry
 exact rule i j t t' s _ _ ⟨.bl (g i j),H,I,rfl,q⟩
noncomputable def Nn (i j:Int):Prop:=0<=j/\j<=1000000/\i.natAbs<2^64
noncomputable def Mn (i j:Int):Prop:=(-(2^64)<i/\i<2^64)∨(-(2^64)<j/\j<2^64)
theorem Mn.ok {i j:Int}(h:Mn i j):IntMulOk i j:=by
 rcases h with⟨h1,h2⟩ | ⟨h1,h2⟩
 ·exact .of_left (intBits_le_64 h1 h2)
 ·exact .of_right (intBits_le_64 h1 h2)
theorem XZ:OpR X (binaryOp .Add) (rI0 λi j=>.int (i+j)):=M9 λ_ _ _ _ _ _ _ q=>add_int q
theorem ZC:OpR X (binaryOp .Sub) (rI0 λi j=>.int (i-j)):=M9 λ_ _ _ _ _ _ _ q=>sub_int q
theorem YQ:OpR X (binaryOp .Mult) (rI Mn λi j=>.int (i*j)):=opI λ_ _ _ _ _ _ _ hc q=>mul_int q hc.ok
theorem Yv:OpR X (binaryOp .Mod) (rI (λ_ j=>0<j) λi j=>.int (i % j)):=opI λi j _ _ _ _ _ hc q=>by
 have h1:(0:Int)<j:=hc
 exact mod_int' (by lia) (by rw[Int.fmod_eq_emod_of_nonneg i (by lia)];exact q)
theorem DS:OpR X (binaryOp .Pow) (rI Nn λi j=>.int (i^j.toNat)):=opI λ_ _ _ _ _ _ _ hc q=>pow_int_small hc.1 hc.2.1 hc.2.2 q
theorem unI {f:Value->Sem Value}{g:Int->Int}
  (rule:∀(i:Int) (t:Tok) (s:Shared) (Q:Value->Shared->Prop) (E:Value->Shared->Prop),Q (.int (g i) s.toks) {s with toks:=s.toks+1}->wpAny (model X.prog X.w) X.A (f (.int i t)) Q E s):
  UnR X f (rU λi=>.int (g i)):=by
 intro pins s σ H x v Q I rx h
 obtain⟨i,rfl,q⟩:=h
 obtain⟨t,rfl⟩:=rx
 exact rule i t s _ _ ⟨.int (g i),H,I.tok _,⟨_,rfl⟩,q⟩
theorem QL:UnR X (unaryOp .USub) (rU λi=>.int (-i)):=unI λ_ _ _ _ _ q=>neg_int q
end
noncomputable def MW:V->V->Bool
 | .non, .non=>true | .non, .int _=>true | .int _, .non=>true | .non, .bl _=>true | .bl _, .non=>true | .non, .str _=>true | .str _, .non=>true
 | .int _, .int _=>true | .bl _, .bl _=>true | .str _, .str _=>true | .byt _, .byt _=>true
 | .int _, .str _=>true | .str _, .int _=>true | .bl _, .str _=>true | .str _, .bl _=>true
 |_,_=>false
noncomputable def rEq:R2:=λx y H Q=>MW x y=true/\Q (.bl (decide (x=y))) H
noncomputable def rNe:R2:=λx y H Q=>MW x y=true/\Q (.bl (!decide (x=y))) H
theorem DR {i j:Int}:decide (V.int i=V.int j)=(i==j):=by
 rw[Bool.eq_iff_iff]
 simp
theorem Ho {i j:Bool}:decide (V.bl i=V.bl j)=(i==j):=by
 rw[Bool.eq_iff_iff]
 simp
theorem Bw {i j:Str}:decide (V.str i=V.str j)=(i==j):=by
 rw[Bool.eq_iff_iff]
 simp
theorem BN {i j:Array UInt8}:decide (V.byt i=V.byt j)=(i.toList==j.toList):=by
 rw[Bool.eq_iff_iff]
 cases i
 cases j
 simp
section
variable {X:Cx}{a b c:Expr}{ta tb tc:TE}{pos:Pos}
theorem Yi {pins:List (Addr×Obj)}{σ:St}{H:Hp}{s:Shared}{Q:VK}{k k':Bool}(I:Inv X pins σ H s)(q:Q (.bl k) H)(e:k=k'):EP X pins σ Q (.bool k') s:=by
 subst e
 exact⟨.bl k,H,I,rfl,q⟩
theorem Qi:OpR X (compareOp .Eq) rEq:=by
 intro pins s σ H x y v u Q I rx ry h
 obtain⟨hs,q⟩:=h
 cases x with
 |non=>
  cases rx
  cases y with
  |non=>cases ry;exact PySem.EqNone.eq_none_none (Yi I q (by simp))
  |bl j=>cases ry;exact PySem.EqNone.eq_none_bool (Yi I q (by simp))
  |int j=>obtain⟨t',rfl⟩:=ry;exact PySem.EqNone.eq_none_int (Yi I q (by simp))
  |str j=>obtain⟨t',rfl⟩:=ry;exact PySem.EqNone.eq_none_str (Yi I q (by simp))
  |_=>exact absurd (show false=true from hs) Bool.false_ne_true
 |bl i=>
  cases rx
  cases y with
  |non=>cases ry;exact PySem.EqNone.eq_bool_none (Yi I q (by simp))
  |bl j=>cases ry;exact eq_bool (Yi I q Ho)
  |str j=>obtain⟨t',rfl⟩:=ry;exact PySem.EqMixed.eq_bool_str (Yi I q (by simp))
  |_=>exact absurd (show false=true from hs) Bool.false_ne_true
 |int i=>
  obtain⟨t,rfl⟩:=rx
  cases y with
  |non=>cases ry;exact PySem.EqNone.eq_int_none (Yi I q (by simp))
  |int j=>obtain⟨t',rfl⟩:=ry;exact eq_int (Yi I q DR)
  |str j=>obtain⟨t',rfl⟩:=ry;exact PySem.EqMixed.eq_int_str (Yi I q (by simp))
  |_=>exact absurd (show false=true from hs) Bool.false_ne_true
 |str i=>
  obtain⟨t,rfl⟩:=rx
  cases y with
  |non=>cases ry;exact PySem.EqNone.eq_str_none (Yi I q (by simp))
  |bl j=>cases ry;exact PySem.EqMixed.eq_str_bool (Yi I q (by simp))
  |int j=>obtain⟨t',rfl⟩:=ry;exact PySem.EqMixed.eq_str_int (Yi I q (by simp))
  |str j=>obtain⟨t',rfl⟩:=ry;exact eq_str (Yi I q Bw)
  |_=>exact absurd (show false=true from hs) Bool.false_ne_true
 |byt i=>
  obtain⟨t,rfl⟩:=rx
  cases y with
  |byt j=>obtain⟨t',rfl⟩:=ry;exact PySem.W.eq_bytes (Yi I q BN)
  |_=>exact absurd (show false=true from hs) Bool.false_ne_true
 |_=>cases y<;> exact absurd (show false=true from hs) Bool.false_ne_true
theorem E7:OpR X (compareOp .NotEq) rNe:=by
 intro pins s σ H x y v u Q I rx ry h
 obtain⟨hs,q⟩:=h
 cases x with
 |non=>
  cases rx
  cases y with
  |non=>cases ry;exact PySem.EqNone.ne_none_none (Yi I q (by simp))
  |bl j=>cases ry;exact PySem.EqNone.ne_none_bool (Yi I q (by simp))
  |int j=>obtain⟨t',rfl⟩:=ry;exact PySem.EqNone.ne_none_int (Yi I q (by simp))
  |str j=>obtain⟨t',rfl⟩:=ry;exact PySem.EqNone.ne_none_str (Yi I q (by simp))
  |_=>exact absurd (show false=true from hs) Bool.false_ne_true
 |bl i=>
  cases rx
  cases y with
  |non=>cases ry;exact PySem.EqNone.ne_bool_none (Yi I q (by simp))
  |bl j=>cases ry;exact ne_bool (Yi I q (congrArg not Ho))
  |str j=>obtain⟨t',rfl⟩:=ry;exact PySem.EqMixed.ne_bool_str (Yi I q (by simp))
  |_=>exact absurd (show false=true from hs) Bool.false_ne_true
 |int i=>
  obtain⟨t,rfl⟩:=rx
  cases y with
  |non=>cases ry;exact PySem.EqNone.ne_int_none (Yi I q (by simp))
  |int j=>obtain⟨t',rfl⟩:=ry;exact ne_int (Yi I q (congrArg not DR))
  |str j=>obtain⟨t',rfl⟩:=ry;exact PySem.EqMixed.ne_int_str (Yi I q (by simp))
  |_=>exact absurd (show false=true from hs) Bool.false_ne_true
 |str i=>
  obtain⟨t,rfl⟩:=rx
  cases y with
  |non=>cases ry;exact PySem.EqNone.ne_str_none (Yi I q (by simp))
  |bl j=>cases ry;exact PySem.EqMixed.ne_str_bool (Yi I q (by simp))
  |int j=>obtain⟨t',rfl⟩:=ry;exact PySem.EqMixed.ne_str_int (Yi I q (by simp))
  |str j=>obtain⟨t',rfl⟩:=ry;exact ne_str (Yi I q (congrArg not Bw))
  |_=>exact absurd (show false=true from hs) Bool.false_ne_true
 |byt i=>
  obtain⟨t,rfl⟩:=rx
  cases y with
  |byt j=>obtain⟨t',rfl⟩:=ry;exact PySem.W.ne_bytes (Yi I q (congrArg not BN))
  |_=>exact absurd (show false=true from hs) Bool.false_ne_true
 |_=>cases y<;> exact absurd (show false=true from hs) Bool.false_ne_true
theorem QI:OpR X (compareOp .Lt) (rI0 λi j=>.bl (decide (i<j))):=MB λ_ _ _ _ _ _ _ q=>lt_int q
theorem M6:OpR X (compareOp .LtE) (rI0 λi j=>.bl (decide (i<=j))):=MB λ_ _ _ _ _ _ _ q=>le_int q
theorem FW:OpR X (compareOp .Gt) (rI0 λi j=>.bl (decide (j<i))):=MB λ_ _ _ _ _ _ _ q=>gt_int q
theorem Mg:OpR X (compareOp .GtE) (rI0 λi j=>.bl (decide (j<=i))):=MB λ_ _ _ _ _ _ _ q=>ge_int q
theorem XN (b:Expr){op:CmpOp}(h:op≠ .In:=by decide)(h2:op≠ .NotIn:=by decide):behindInMarks op b=false:=by
 have e1:(op==CmpOp.In)=false:=by cases op<;> first |rfl |exact absurd rfl h
 have e2:(op==CmpOp.NotIn)=false:=by cases op<;> first |rfl |exact absurd rfl h2
 cases b<;> simp[behindInMarks,e1,e2]
theorem BC {op:CmpOp}{r:R2}(ho:OpR X (compareOp op) r)(ha:PE X a ta)(hb:PE X b tb)(hm:behindInMarks op b=false):PE X (.Compare a [op] [b] pos) (tOp r ta tb):=by
 intro pins s σ H Q I h
 exact wpAny_Compare1 (M0 ha hb I h λv u s2 x y H2 I2 rx ry q=>ho pins s2 σ H2 x y v u Q I2 rx ry q) hm
noncomputable def LK (t:TE):TT:=λσ H Q=>t σ H λx H'=>∃ k,x= .bl k/\Q k H'
theorem Xx {op:CmpOp}{r:R2}(ho:OpR X (compareOp op) r)(ha:PE X a ta)(hb:PE X b tb)(hm:behindInMarks op b=false):PT X (.Compare a [op] [b] pos) (LK (tOp r ta tb)):=by
 intro pins s σ H Q I h
 refine wpAny_isTrue_Compare1 (thn (ha pins s σ H _ I h) λv s1 ⟨x,H1,I1,r1,q1⟩=>thn (hb pins s1 σ H1 _ I1 q1) λu s2 ⟨y,H2,I2,r2,q2⟩=>
  thn (ho pins s2 σ H2 x y v u _ I2 r1 r2 q2) λc s3 ⟨z,H3,I3,r3,k,e,q3⟩=>?_) hm
 subst e
 cases r3
 exact wpAny_truthy_bool ⟨H3,I3,q3⟩
theorem Fz:(sizeLine:Nat)<2^63:=by rw[sizeLine_eq];decide
theorem Dv {x:V}{us:List Value}(r:Yu [x] us):∃u,us=[u]/\YJ x u:=by
 cases r with
 |cons r1 r2=>cases r2;exact⟨_,rfl,r1⟩
theorem LH {x y:V}{us:List Value}(r:Yu [x,y] us):∃u w',us=[u,w']/\YJ x u/\YJ y w':=by
 cases r with
 |cons r1 r2=>
  cases r2 with
  |cons r3 r4=>cases r4;exact⟨_,_,rfl,r1,r3⟩
theorem Fi:JB X (.builtin "abs") (λxs H Q=>∃ i,xs=[.int i]/\Q (.int (if i<0 then-i else i)) H):=by
 intro pins s σ H xs us Q I r h
 obtain⟨i,rfl,q⟩:=h
 obtain⟨u,rfl,t,rfl⟩:=Dv r
 exact call_abs_int λu tk=>⟨.int (if i<0 then-i else i),H,I.tok _,⟨_,rfl⟩,q⟩
theorem Jg (hc:X.calm=true):JB X (.builtin "max") (λxs H Q=>∃ i j,xs=[.int i, .int j]/\Q (.int (if j > i then j else i)) H):=by
 intro pins s σ H xs us Q I r h
 obtain⟨i,j,rfl,q⟩:=h
 obtain⟨u,w',rfl,⟨t,rfl⟩,⟨t',rfl⟩⟩:=LH r
 refine max_two_ints (I.ok.hd hc) λh' tk k=>⟨_,H,I.kept k,?_,q⟩
 by_cases hj:j > i
 ·rw[if_pos hj,if_pos hj];exact⟨_,rfl⟩
 ·rw[if_neg hj,if_neg hj];exact⟨_,rfl⟩
theorem KA (hc:X.calm=true):JB X (.builtin "min") (λxs H Q=>∃ i j,xs=[.int i, .int j]/\Q (.int (if j<i then j else i)) H):=by
 intro pins s σ H xs us Q I r h
 obtain⟨i,j,rfl,q⟩:=h
 obtain⟨u,w',rfl,⟨t,rfl⟩,⟨t',rfl⟩⟩:=LH r
 refine min_two_ints (I.ok.hd hc) λh' tk k=>⟨_,H,I.kept k,?_,q⟩
 by_cases hj:j<i
 ·rw[if_pos hj,if_pos hj];exact⟨_,rfl⟩
 ·rw[if_neg hj,if_neg hj];exact⟨_,rfl⟩
end
structure ObjM (h:Heap)(x dx C:Addr)(mA:Str->Option Value):Prop where
 obj:h.get? x=some (PySem.W.instObj C dx)
 ns:h.Ns1 dx mA
 ne:dx≠x
theorem Bg {h:Heap}{dx:Addr}{mA:Str->Option Value}(n:h.Ns1 dx mA):∃od,h.get? dx=some od/\∀name,PySem.W.lookIn name od=some (mA name):=by
 obtain⟨o,es,ep,ho,hd,hk,_,hm⟩:=n
 refine⟨o,ho,λname=>?_⟩
 have e:=hm name
 unfold nsFind findBy at e
 rw[←Array.find?_toList] at e
 unfold PySem.W.lookIn
 rw[hd]
 dsimp only
 split
 ·rename_i y q
  rw[q] at e
  exact congrArg some e
 ·rename_i q
  rw[q] at e
  have a:es.toList.any (·.refKey)=false:=by
   rw[List.any_eq_false]
   intro y hy
   obtain⟨z,t,hkey⟩:=hk y (Array.mem_toList_iff.mp hy)
   simp[DictEntry.refKey,hkey]
  have a':¬es.toList.any (·.refKey)=true:=by rw[a];exact Bool.false_ne_true
  rw[if_neg a']
  exact congrArg some e
theorem ObjM.look {h:Heap}{x dx C:Addr}{mA:Str->Option Value}(I:ObjM h x dx C mA):∃od,PySem.W.InstAt h x (PySem.W.instObj C dx) C (some od)/\∀name,PySem.W.lookIn name od=some (mA name):=
 let ⟨od,ho,hl⟩:=Bg I.ns
 ⟨od,⟨I.obj,rfl,rfl,ho⟩,hl⟩
section
variable {prog:Program}{w:World}{A:Around}{E:Value->Shared->Prop}{s:Shared}{K:PySem.W.Frag}{x dx C f:Addr}{mA:Str->Option Value}{name:Str}{v:Value}
end
theorem DX.some_of {v:V}{o:Option Value}(r:DX (some v) o):∃u,o=some u/\YJ v u:=by
 cases o with
 |none=>exact(show False from r).elim
 |some u=>exact⟨u,rfl,r⟩
section
variable {P:Program}{w:World}{H H':Hp}{h h':Heap}{a C dx:Addr}{fs fs':List (Str×V)}
theorem Im (hok:HOk P w H h)(e:H a=some (.ins C dx fs)):∃mA,ObjM h a dx C mA/\(∀f,DX (fs.lookup f) (mA f))/\PySem.Within mA (fs.map (·.1))/\fs.length<=1000/\H dx=some (.own a):=by
 obtain⟨d,z,ne,ob,mA,n,r,q⟩:=(show Zl P w H h a (.ins C dx fs) from hok a _ e)
 exact⟨mA,⟨ob,n,ne⟩,r,q,z,d⟩
end
structure Cls (K:PySem.W.Frag)(C:Addr):Prop where
 pg:PySem.W.plainGet K C Str.empty=true
 hd:PySem.W.hasDictIn K C=true
 po:PySem.W.plainOver K C=true
 sa:PySem.W.findIn K (.ref C) "__setattr__" =some (some (.builtin "object.__setattr__"))
theorem Cls.get {K:PySem.W.Frag}{C:Addr}(c:Cls K C)(f:Str):PySem.W.plainGet K C f=true:=c.pg
section
variable {X:Cx}{pins:List (Addr×Obj)}{σ:St}{H:Hp}{s:Shared}{a C dx:Addr}{fs:List (Str×V)}{f:Str}{v:V}{A:Around}{E:Value->Shared->Prop}
end
section
variable {X:Cx}{o e value:Expr}{f:Str}{pos pos' tpos:Pos}{ta tv:TE}
end
section
variable {X:Cx}{pins:List (Addr×Obj)}{σ:St}{H:Hp}{s:Shared}{A:Around}{E:Value->Shared->Prop}{Q:Value->Shared->Prop}{c:Value}{b:Bool}
inductive TyOf (K:PySem.W.Frag)(H:Hp):V->Value->Prop where
 |non:TyOf K H .non (.type "NoneType")
 |bl (x:Bool):TyOf K H (.bl x) (.type "bool")
 |int (i:Int):TyOf K H (.int i) (.type "int")
 |str (x:Str):TyOf K H (.str x) (.type "str")
 |flt (x:UInt64):TyOf K H (.flt x) (.type "float")
 |lst {a:Addr}{xs:List V} (e:H a=some (.lst xs)):TyOf K H (.ref a) (.type "list")
 |frz {a:Addr}{o:Obj}{xs:List V} (e:H a=some (.frz o (.lst xs))):TyOf K H (.ref a) (.type "list")
 |tup {a:Addr}{xs:List V} (e:H a=some (.tup xs)):TyOf K H (.ref a) (.type "tuple")
 |dK {a:Addr}{kvs:List (Key×V)} (e:H a=some (.dK kvs)):TyOf K H (.ref a) (.type "dict")
 |dT {a:Addr}{kvs:List (List Key×V)} (e:H a=some (.dT kvs)):TyOf K H (.ref a) (.type "dict")
 |ins {a C dx:Addr}{fs:List (Str×V)} (e:H a=some (.ins C dx fs)) (cl:Cls K C) (ha:PySem.W.findIn K (.ref C) "__class__" =some (some (.builtin "object.__class__")))
   (hn:PySem.W.specialIn K (.builtin "object.__class__") "__get__" =some (some (.builtin "getset_descriptor.__get__"))) (htk:PySem.W.takesIn K (.builtin "object.__class__")=some true)
   (hm:PySem.W.mroIn K C (.type "object")=some true):TyOf K H (.ref a) (.ref C)
theorem Bp {x:V}{u t:Value}(I:Inv X pins σ H s)(rx:YJ x u)(ty:TyOf X.K H x t)(e:PySem.W.kitOne X.K t c=some b)(h:∀tk,Q (.bool b) {s with toks:=tk}):
  wpAny (model X.prog X.w) A (call (.builtin "isinstance") [u,c]) Q E s:=by
 cases ty with
 |non=>cases(show u=Value.none from rx);exact PySem.W.kia_one PySem.W.kitx_none I.kIn True.intro e (λz=>nomatch z) h
 |bl y=>cases(show u=Value.bool y from rx);exact PySem.W.kia_one PySem.W.kitx_bool I.kIn True.intro e (λz=>nomatch z) h
 |int i=>obtain⟨t,q⟩:=(show ∃t,u=Value.int i t from rx);cases q;exact PySem.W.kia_one PySem.W.kitx_int I.kIn True.intro e (λz=>nomatch z) h
 |str y=>obtain⟨t,q⟩:=(show ∃t,u=Value.str y t from rx);cases q;exact PySem.W.kia_one PySem.W.kitx_str I.kIn True.intro e (λz=>nomatch z) h
 |flt y=>obtain⟨t,q⟩:=(show ∃t,u=Value.float y t from rx);cases q;exact PySem.W.kia_one PySem.W.kitx_float I.kIn True.intro e (λz=>nomatch z) h
 | @lst a xs ea=>
  cases(show u=Value.ref a from rx)
  obtain⟨_,_,n,_,h1⟩:=(show Zl X.prog X.w H s.heap a (.lst xs) from I.hok a _ ea)
  exact PySem.W.kia_one PySem.W.kitx_list I.kIn ⟨_,h1,rfl⟩ e (λz=>nomatch z) h
 | @frz a ob xs ea=>
  cases(show u=Value.ref a from rx)
  obtain⟨_,_,_,n,_,h1⟩:=(show Zl X.prog X.w H s.heap a (.frz ob (.lst xs)) from I.hok a _ ea)
  exact PySem.W.kia_one PySem.W.kitx_list I.kIn ⟨_,h1,rfl⟩ e (λz=>nomatch z) h
 | @tup a xs ea=>
  cases(show u=Value.ref a from rx)
  obtain⟨_,_,_,p⟩:=(show Zl X.prog X.w H s.heap a (.tup xs) from I.hok a _ ea)
  obtain⟨o,h1,h2,_⟩:=p
  exact PySem.W.kia_one PySem.W.kitx_tuple I.kIn ⟨o,h1,h2.1⟩ e (λz=>nomatch z) h
 | @dK a kvs ea=>
  cases(show u=Value.ref a from rx)
  obtain⟨_,_,vs,_,p⟩:=(show Zl X.prog X.w H s.heap a (.dK kvs) from I.hok a _ ea)
  obtain⟨o,es,ep,h1,h2,_⟩:=p
  exact PySem.W.kia_one PySem.W.kitx_dict I.kIn ⟨o,h1,h2.1⟩ e (λz=>nomatch z) h
 | @dT a kvs ea=>
  cases(show u=Value.ref a from rx)
  obtain⟨_,_,xs,_,o,es,ep,h1,h2,_⟩:=(show Zl X.prog X.w H s.heap a (.dT kvs) from I.hok a _ ea)
  exact PySem.W.kia_one PySem.W.kitx_dict I.kIn ⟨o,h1,h2.1⟩ e (λz=>nomatch z) h
 | @ins a C dx fs ea cl ha hn htk hm=>
  cases(show u=Value.ref a from rx)
  obtain⟨mA,O,_⟩:=Im I.hok ea
  obtain⟨od,J,_⟩:=O.look
  exact PySem.W.kia_one (PySem.W.kitx_own (cl.get _) cl.hd ha hn htk hm) I.kIn J e (λz=>nomatch z) h
end
structure Room (k:Nat)(A:Around):Prop where
 hd:A.handled=none
 dp:A.depth+3*k+5<recursionLimit
 un:A.units+16*k+200<cLine
theorem Room.mono {j k:Nat}{A:Around}(r:Room k A)(h:j<=k):Room j A:=⟨r.hd,by have:=r.dp;lia,by have:=r.un;lia⟩
theorem Room.deeper {k:Nat}{A:Around}(r:Room (k+1) A)(env:Env):Room k (A.deeper env):=
 ⟨r.hd,by have:=r.dp;show A.depth+1+3*k+5<_;lia,by have:=r.un;show A.units+3+16*k+200<_;lia⟩
theorem Room.depth {k:Nat}{A:Around}(r:Room k A):A.depth<recursionLimit:=by have:=r.dp;lia
theorem Room.units {k:Nat}{A:Around}(r:Room k A):A.units+64<cLine:=by have:=r.un;lia
noncomputable def Z5:TA:=λ_ H Q=>Q [] H
noncomputable def XM (ta:TE)(tr:TA):TA:=λσ H Q=>ta σ H λx H1=>tr σ H1 λxs H2=>Q (x::xs) H2
section
variable {X:Cx}{e:Expr}{es:List Expr}{te:TE}{t:TA}{pos:Pos}
theorem Xf:PA X [] Z5:=λ_ _ _ _ H Q I h=>Calls.spliced_nil ⟨[],H,I, .nil,h⟩
theorem Xd (ha:PE X e te)(hr:PA X es t)(hs:starEach (e::es) X.env=(false,eval e X.env)::starEach es X.env:=by rfl):PA X (e::es) (XM te t):=by
 intro pos pins s σ H Q I h
 rw[hs]
 show wpAny _ _ (spliced ((false,eval e X.env)::backTo pos (starEach es X.env))) _ _ s
 refine Calls.spliced_cons (thn (ha pins s σ H _ I h) λu s1 r9=>?_)
 obtain⟨x,H1,I1,r1,q1⟩:=r9
 exact thn (hr pos pins s1 σ H1 _ I1 q1) λus s2 r9=>by obtain⟨xs,H2,I2,r2,q2⟩:=r9;exact⟨x::xs,H2,I2, .cons r1 r2,q2⟩
noncomputable def LM (t:TA):TE:=λσ H Q=>t σ H λxs H1=>xs.length<=sizeLine/\∀p,H1 p=none->Q (.ref p) (upd H1 p (.tup xs))
noncomputable def Ed (t:TA):TE:=λσ H Q=>t σ H λxs H1=>xs.length<=sizeLine/\∀p,H1 p=none->Q (.ref p) (upd H1 p (.lst xs))
theorem ZE {x1}(h:PA X es t):PE X (.Tuple es x1 pos) (LM t):=by
 intro pins s σ H Q I hq
 refine wpAny_Tuple_spliced (thn (h pos pins s σ H _ I hq) λus s1 ⟨xs,H1,I1,r,z,q⟩=>⟨by rw[←r.length];exact z,?_⟩)
 have hf:H1 s1.heap.objs.size=none:=I1.hok.fresh (Nat.le_refl _)
 refine⟨.ref s1.heap.objs.size,upd H1 s1.heap.objs.size (.tup xs),I1.laid (t':=s1.toks) (λb u e=>Heap.get?_push_of_some _ e) (Nat.le_refl _) ?_,rfl,q _ hf⟩
 exact⟨z,us,r,⟨_,Heap.get?_push_size _ rfl,⟨rfl,rfl⟩,_,rfl⟩⟩
theorem X1 (h:PA X es t):PE X (.List es pos) (Ed t):=by
 intro pins s σ H Q I hq
 refine wpAny_List_spliced (thn (h pos pins s σ H _ I hq) λus s1 ⟨xs,H1,I1,r,z,q⟩=>⟨by rw[←r.length];exact z,?_⟩)
 have hf:H1 s1.heap.objs.size=none:=I1.hok.fresh (Nat.le_refl _)
 refine⟨.ref s1.heap.objs.size,upd H1 s1.heap.objs.size (.lst xs),I1.laid (t':=s1.toks) (λb u e=>Heap.get?_push_of_some _ e) (Nat.le_refl _) ?_,rfl,q _ hf⟩
 exact⟨z,us,0,r,Heap.get?_push_size _ rfl⟩
end
noncomputable abbrev Sp:=List V->Hp->VK->XK->Prop
noncomputable abbrev CXT:=List Env->Hp->Shared->XK->Value->Shared->Prop
structure Env0 (P:Program)(w:World)(K:PySem.W.Frag)(mg:Str->Option Value)(base:Heap)(A:Around)(outer:List Env)(s:Shared)(H:Hp):Prop where
 frames:A.frames=some outer
 mod:Mod K mg base
 bs:∀b o,base.get? b=some o->s.heap.get? b=some o/\H b=none
 bsz:base.objs.size<=s.heap.objs.size
 funs:s.heap.FunFrames base outer
 frf:∀b∈frs outer,H b=none
 hok:HOk P w H s.heap
 bare:AllBare s.gens
noncomputable def CE (outer:List Env)(P:Program)(w:World)(H:Hp)(s:Shared)(Q:VK)(u:Value)(s':Shared):Prop:=
 ∃v H',s'.os=s.os/\AllBare s'.gens/\Un (frs outer) [] H H' s.heap s'.heap/\HOk P w H' s'.heap/\YJ v u/\Q v H'
noncomputable def CR (CX:CXT)(outer:List Env)(P:Program)(w:World)(H:Hp)(s:Shared)(Q:VK)(E:XK)(r:Result)(s':Shared):Prop:=
 match r with
 | .ok (.ret u)=>CE outer P w H s Q u s'
 | .ok _=>False
 | .error e=>CX outer H s E e s'
structure FnOk (P:Program)(w:World)(K:PySem.W.Frag)(mg:Str->Option Value)(base:Heap)(CX:CXT)(k:Nat)(f:Addr)(fd:FuncData)(ps:List Str)(sp:Sp):Prop where
 len:∀vs H Q E,sp vs H Q E->vs.length=ps.length
 run:∀(A:Around) (outer:List Env) (s:Shared) (H:Hp) (args:Args) (us:List Value) (vs:List V) (Q:VK) (E:XK),Room k A->Env0 P w K mg base A outer s H->BindsTo s fd args (ps.zip us)->Yu vs us->sp vs H Q E->
  codeAny (model P w) A (.call (.ref f) args) (CR CX outer P w H s Q E) s
section
variable {X:Cx}{pins:List (Addr×Obj)}{σ:St}{H:Hp}{s s':Shared}
theorem Inv.env0 (I:Inv X pins σ H s):Env0 X.prog X.w X.K X.mg X.base X.A X.stack s H:=
 ⟨I.ok.frames,I.ok.mod,I.bs,Nat.le_trans I.ok.bsz I.sz,I.stack,I.stkFree,I.hok,I.bare⟩
theorem Inv.after {Q:VK}{u:Value}(I:Inv X pins σ H s)(h:CE X.stack X.prog X.w H s Q u s'):EP X pins σ Q u s':=by
 obtain⟨v,H',os,bare,un,hok,r,q⟩:=h
 obtain⟨hh,g,d,t,os'⟩:=s'
 obtain rfl:os'=s.os:=os
 exact⟨v,H',I.call (h':=hh) (g':=g) (d':=d) (t':=t) (ch:=[]) un hok bare (λb z=>absurd z (by simp)),r,q⟩
end
noncomputable def Go (sp:Sp)(dvs:List V)(E:XK)(t:TA):TE:=λσ H Q=>t σ H λvs H1=>sp (vs++dvs) H1 Q E
noncomputable def GC (K:PySem.W.Frag)(fd:FuncData)(ps:List Str)(ds:List Value):Prop:=
 ∀(s:Shared) (us:List Value),K.In s.heap->(us++ds).length=ps.length->BindsTo s fd ⟨us,[]⟩ (ps.zip (us++ds))
theorem GC.all {K:PySem.W.Frag}{fd:FuncData}{ps:List Str}(h:∀us:List Value,us.length=ps.length->bindArgs fd ⟨us,[]⟩=pure (ps.zip us)):GC K fd ps []:=λs us _ hl=>by
 rw[List.append_nil] at hl⊢
 exact .of_eq (h us hl)
noncomputable def BY (CX:CXT)(X:Cx)(E:XK):Prop:=∀ (pins:List (Addr×Obj)) (σ:St) (H:Hp) (s:Shared) (e:Value) (s':Shared),Inv X pins σ H s->CX X.stack H s E e s'->X.xe e s'
section
variable {X:Cx}{CX:CXT}{k:Nat}{f C:Addr}{fd:FuncData}{ps:List Str}{sp:Sp}{dvs:List V}{ds:List Value}{E:XK}{x m:Str}{p pos apos:Pos}{e o:Expr}{es:List Expr}{ta:TE}{t:TA}
theorem Mj {pins:List (Addr×Obj)}{σ:St}{H:Hp}{s:Shared}{Q:VK}{us:List Value}{vs:List V}(F:FnOk X.prog X.w X.K X.mg X.base CX k f fd ps sp)(hr:Room k X.A)(hb:GC X.K fd ps ds)(hd:Yu dvs ds)(hx:BY CX X E)
  (I:Inv X pins σ H s)(r:Yu vs us)(h:sp (vs++dvs) H Q E):wpAny (model X.prog X.w) X.A (call (.ref f) us) (EP X pins σ Q) X.xe s:=by
 have r2:Yu (vs++dvs) (us++ds):=r.append hd
 have hl:(us++ds).length=ps.length:=by rw[←r2.length];exact F.len _ _ _ _ h
 refine wpAny_call (codeAny_mono (F.run X.A X.stack s H ⟨us,[]⟩ (us++ds) (vs++dvs) Q E hr I.env0 (hb s us I.kIn hl) r2 h) λr s' hq=>?_)
 cases r with
 |error e=>exact hx pins σ H s e s' I hq
 |ok fl=>
  cases fl with
  |ret u=>exact I.after hq
  |next=>exact False.elim hq
  |brk=>exact False.elim hq
  |cont=>exact False.elim hq
theorem Ie (F:FnOk X.prog X.w X.K X.mg X.base CX k f fd ps sp)(hr:Room k X.A)(hg:Gl X x)(hm:X.mg x=some (.ref f))(hk:PySem.W.keepIn X.K (.ref f)=true)(hb:GC X.K fd ps ds)(hd:Yu dvs ds)(hx:BY CX X E)
  (ha:PA X (e::es) t)(hdb:(x==("__debug__":Str))=false:=by decide)(he:starEach (e::es) X.env=(false,eval e X.env)::starEach es X.env:=by rfl)(hpl:(backTo pos (starEach es X.env)).any (·.1)=false:=by rfl):
  PE X (.Call (.Name x p) (e::es) [] pos) (Go sp dvs E t):=by
 intro pins s σ H Q I h
 refine wpAny_Call_Name_kw (Bu I hg hm ?_ hdb)
 refine PySem.W.callWith_K (h₀:=X.base) I.ok.mod.kin hk (thn (ha pos pins s σ H _ I h) λus s1 ⟨vs,H1,I1,r,q⟩=>⟨I1.kIn,?_⟩) he hpl
 exact Mj F hr hb hd hx I1 r q
end
section
variable {X:Cx}{CX:CXT}{k:Nat}{f C:Addr}{fd:FuncData}{ps ks:List Str}{sp:Sp}{E:XK}{x m:Str}{p pos apos kpos:Pos}{e o:Expr}{es:List Expr}{kws:List Keyword}{te ta:TE}{t tk:TA}{nm:Option Str}
variable {g:List Value->List Value->List Value}{gV:List V->List V->List V}
end
structure FnScope (N P:List Str)(sc:Scope):Prop where
 kind:sc.kind= .function
 co:sc.isCoroutine=false
 gen:sc.isGenerator=false
 nd:N.Nodup
 pre:N.take P.length=P
 par:∀x∈P,sc.names.lookup x=some .local∨sc.names.lookup x=some .cell
 nofree:∀y∈sc.names,y.2≠ .free
theorem U4 {kindOf:Str->Option NameKind}{x:Str}:∀{binds:List (Str×Value)}{m:Str->Option Value},(∀v,(x,v)∉binds)->bindL kindOf binds m x=m x
 | [],_,_=>rfl
 | (n,v)::r,m,h=>by
  unfold bindL
  rw[U4 λw hw=>h w (List.mem_cons_of_mem _ hw)]
  split
  ·have:x≠n:=by rintro rfl;exact h v List.mem_cons_self
   simp[this]
  ·rfl
theorem KL {kindOf:Str->Option NameKind}{x:Str}:∀{binds:List (Str×Value)}{m:Str->Option Value},(∀v,(x,v)∉binds)->bindC kindOf binds m x=m x
 | [],_,_=>rfl
 | (n,v)::r,m,h=>by
  unfold bindC
  rw[KL λw hw=>h w (List.mem_cons_of_mem _ hw)]
  split
  ·rfl
  ·have:x≠n:=by rintro rfl;exact h v List.mem_cons_self
   simp[this]
theorem K0 {kindOf:Str->Option NameKind}{x:Str}{v:Value}:∀{P:List Str}{vs:List Value}{i:Nat}{m:Str->Option Value},P.Nodup->P[i]?=some x->vs[i]?=some v->kindOf x=some .local->
  bindL kindOf (P.zip vs) m x=some v
 | [],_,_,_,_,h,_,_=>by simp at h
 |_::_,[],_,_,_,_,h,_=>by simp at h
 |p::P,w::vs,0,m,nd,h1,h2,hk=>by
  simp at h1 h2;subst h1;subst h2
  show bindL kindOf ((p,w)::P.zip vs) m p=_
  unfold bindL
  rw[U4 λv hv=>(List.nodup_cons.mp nd).1 (List.of_mem_zip hv).1,if_pos hk]
  simp
 |p::P,w::vs,i+1,m,nd,h1,h2,hk=>by
  show bindL kindOf ((p,w)::P.zip vs) m x=_
  unfold bindL
  exact K0 (i:=i) (List.nodup_cons.mp nd).2 (by simpa using h1) (by simpa using h2) hk
theorem Ke {kindOf:Str->Option NameKind}{x:Str}{v:Value}:∀{P:List Str}{vs:List Value}{i:Nat}{m:Str->Option Value},P.Nodup->P[i]?=some x->vs[i]?=some v->kindOf x≠some .local->
  bindC kindOf (P.zip vs) m x=some v
 | [],_,_,_,_,h,_,_=>by simp at h
 |_::_,[],_,_,_,_,h,_=>by simp at h
 |p::P,w::vs,0,m,nd,h1,h2,hk=>by
  simp at h1 h2;subst h1;subst h2
  show bindC kindOf ((p,w)::P.zip vs) m p=_
  unfold bindC
  rw[KL λv hv=>(List.nodup_cons.mp nd).1 (List.of_mem_zip hv).1,if_neg hk]
  simp
 |p::P,w::vs,i+1,m,nd,h1,h2,hk=>by
  show bindC kindOf ((p,w)::P.zip vs) m x=_
  unfold bindC
  exact Ke (i:=i) (List.nodup_cons.mp nd).2 (by simpa using h1) (by simpa using h2) hk
noncomputable def UB (N:List Str)(vs:List V):St:=vs.map some++List.replicate (N.length-vs.length) none
noncomputable def Ig (CX:CXT)(P:Program)(w:World)(K:PySem.W.Frag)(mg:Str->Option Value)(base:Heap)(N:List Str)(qual:Str)(scope:Scope)(f:Addr)(cd:Value)(A:Around)(outer:List Env)(s:Shared)(H:Hp)(E:XK):Cx where
 prog:=P
 w:=w
 K:=K
 mg:=mg
 base:=base
 A:=A.deeper (envOfC qual scope s.heap.objs.size f cd)
 N:=N
 s₀:=s
 H₀:=H
 env:=envOfC qual scope s.heap.objs.size f cd
 outer:=outer
 stack:=envOfC qual scope s.heap.objs.size f cd::outer
 ex:=[]
 calm:=true
 fn:=λ_=>true
 pn:=[]
 xe:=λe s'=>wpAny (model P w) (A.deeper (envOfC qual scope s.heap.objs.size f cd)) (leaving (envOfC qual scope s.heap.objs.size f cd) e) (λ_ s''=>CX outer H s E e s'') (λe' s''=>CX outer H s E e' s'') s'
theorem FQ {sc:Scope}{n:Nat}{x:Str}(h:sc.names.lookup x=some .cell):∃c,(cellsFrom n sc.names []).lookup x=some c:=by
 have q:=PySem.W.cellsFrom_some sc.names n [] (.inl h)
 exact Option.isSome_iff_exists.mp q
theorem Bc {CX:CXT}{P:Program}{w:World}{K:PySem.W.Frag}{mg:Str->Option Value}{base:Heap}{N ps:List Str}{qual:Str}{scope:Scope}{f:Addr}{cd:Value}{A:Around}{outer:List Env}{s s1:Shared}{H:Hp}{E:XK}{us:List Value}{vs:List V}
  (S:FnScope N ps scope)(hd:A.handled=none)(e0:Env0 P w K mg base A outer s H)(hl:vs.length=ps.length)(r:Yu vs us)
  (x:InCallC s s.heap.objs.size (bindL (envOfC qual scope s.heap.objs.size f cd).kindOf (ps.zip us) λ_=>none) (cellsFrom (s.heap.objs.size+1) scope.names []) (bindC (envOfC qual scope s.heap.objs.size f cd).kindOf (ps.zip us) λ_=>none) s1):
  Inv (Ig CX P w K mg base N qual scope f cd A outer s H E) [] (UB N vs) H s1:=by
 have hpl:ps.length<=N.length:=by have:=congrArg List.length S.pre;rw[List.length_take] at this;lia
 obtain⟨h1,tk,rfl,hk⟩:=x.done
 have noA:∀b:Addr,b∉(Ig CX P w K mg base N qual scope f cd A outer s H E).ex:=λb z=>absurd (show b∈([]:List Addr) from z) (by simp)
 refine⟨⟨e0.mod,S.kind,rfl,rfl,Nat.le_refl _,λy z c h1 h2=>?_,λy hy=>?_,λy c _ h=>?_,λ_=>hd,Around.frames_deeper e0.frames, .inr ⟨rfl,rfl⟩,λb z=>absurd z (noA b),e0.bs,e0.bsz,λb _ _=>noA b,λb z=>absurd z (noA b),e0.funs,e0.frf⟩,
  rfl,e0.bare,Un.kept hk,⟨_,x.toInCall.ns,λi y v h1 h2 h3=>?_⟩,λy c h=>⟨_,x.cell y c h⟩,e0.hok.fresh (Nat.le_refl _),λy c h=>?_,λp hp=>absurd (show p∈([]:List (Addr×Obj)) from hp) (by simp),e0.hok.kept hk,?_⟩
 ·exact name_of_addr x.apart (PySem.mem_of_lookup h1) (PySem.mem_of_lookup h2)
 ·have hy:scope.names.lookup y=some .cell∨scope.names.lookup y=some .free:=hy
  rcases hy with hy |hy
  ·exact FQ hy
  ·exact absurd rfl (S.nofree _ (PySem.mem_of_lookup hy))
 ·exact Nat.le_of_lt (x.above y c (PySem.mem_of_lookup h))
 ·have hi:i<vs.length:=by
   unfold UB at h2
   by_cases hi:i<vs.length
   ·exact hi
   ·rw[List.getElem?_append_right (by simpa using hi)] at h2
    rw[List.getElem?_replicate] at h2
    split at h2<;> cases h2
  have ha:vs[i]?=some v:=by
   unfold UB at h2
   rw[List.getElem?_append_left (by simpa using hi),List.getElem?_map] at h2
   cases e:vs[i]? with
   |none=>rw[e] at h2;cases h2
   |some a=>rw[e] at h2;cases h2;rfl
  obtain⟨u,hu,rv⟩:=r.get ha
  have hp:ps[i]?=some y:=by
   rw[←S.pre,List.getElem?_take_of_lt (by lia)];exact h1
  have ndP:ps.Nodup:=by rw[←S.pre];exact S.nd.sublist (List.take_sublist _ _)
  refine⟨u,rv,?_⟩
  rcases S.par y (List.mem_of_getElem? hp) with k |k
  ·exact .inl ⟨k,K0 ndP hp hu k⟩
  ·obtain⟨c,e⟩:=FQ (n:=s.heap.objs.size+1) k
   refine .inr ⟨.inl k,c,e,?_⟩
   have q:=x.cell y c e
   rw[Ke ndP hp hu (by show scope.names.lookup y≠_;rw[k];decide)] at q
   exact q
 ·exact e0.hok.fresh (Nat.le_of_lt (x.above y c (PySem.mem_of_lookup h)))
 ·unfold UB
  show _=N.length
  rw[List.length_append,List.length_map,List.length_replicate]
  lia
theorem MX {CX:CXT}{P:Program}{w:World}{K:PySem.W.Frag}{mg:Str->Option Value}{base:Heap}{k:Nat}{f:Addr}{name qual:Str}{params:Arguments}{body:List Stmt}{scope:Scope}{dV kV doc pm cdv ct oc:Value}{an od:Option Addr}
  {osl:Array (Option Value)}{N ps:List Str}{sp:Sp}(lk:K.lookup f=some ⟨oc,od, .func (PySem.W.fnOf name qual params body scope dV kV doc pm an cdv ct),osl⟩)(hcd:PySem.W.codeIn K cdv qual=true)(S:FnScope N ps scope)
  (len:∀vs H Q E,sp vs H Q E->vs.length=ps.length)
  (hbody:∀(A:Around) (outer:List Env) (s:Shared) (H:Hp) (vs:List V) (Q:VK) (E:XK),Room k (A.deeper (envOfC qual scope s.heap.objs.size f cdv))->sp vs H Q E->
   ∃t,PSs (Ig CX P w K mg base N qual scope f cdv A outer s H E) body t/\t {nx:=λ_ H'=>Q .non H',rt:=Q} (UB N vs) H):
  FnOk P w K mg base CX (k+1) f (PySem.W.fnOf name qual params body scope dV kV doc pm an cdv ct) ps sp:=by
 refine⟨len,λA outer s H args us vs Q E hr e0 hb r hsp=>?_⟩
 have hl:=len _ _ _ _ hsp
 have KX:K.In s.heap:=e0.mod.kin.keeps λb o e=>(e0.bs b o e).1
 have lim:s.heap.NoLimit:=e0.mod.nolimit.keeps λb o e=>(e0.bs b o e).1
 have hkind:∀y∈ps.zip us,scope.names.lookup y.1=some .local∨(scope.names.lookup y.1=some .cell/\((cellsFrom (s.heap.objs.size+1) scope.names []).lookup y.1).isSome=true):=λ⟨n,v⟩ hy=>by
  rcases S.par n (List.of_mem_zip hy).1 with q |q
  ·exact .inl q
  ·exact .inr ⟨q,PySem.W.cellsFrom_some _ _ _ (.inl q)⟩
 refine codeAny_call_function hr.depth (KX _ _ lk) rfl S.co S.gen rfl (PySem.W.codeRec_of KX hcd) (hb _ _ _ _ ?_)
 refine wpAny_newFunctionEnv_cells S.kind hkind λenv he s1 x=>?_
 subst he
 refine⟨lim.keeps x.toInCall.keep,codeAny_func ?_⟩
 obtain⟨t,ht,hq⟩:=hbody A outer s H vs Q E (hr.deeper _) hsp
 have I:Inv (Ig CX P w K mg base N qual scope f cdv A outer s H E) [] (UB N vs) H s1:=Bc S hr.hd e0 hl r x
 refine wpAny_mono (ht [] s1 (UB N vs) H _ I hq) (λfl s' hs=>?_) λe s' hs=>hs
 have fin:∀{σ':St}{H':Hp}{v:V}{u:Value},Inv (Ig CX P w K mg base N qual scope f cdv A outer s H E) [] σ' H' s'->YJ v u->Q v H'->CE outer P w H s Q u s':=
  fun {σ' H' v u} J rv q=>⟨v,H',J.os,J.bare,J.base,J.hok,rv,q⟩
 cases fl with
 |ret u=>
  obtain⟨v,σ',H',J,rv,q⟩:=hs
  exact fin J rv q
 |next=>
  obtain⟨σ',H',J,q⟩:=hs
  exact fin (v:=V.non) (u:=Value.none) J rfl q
 |brk=>
  obtain⟨_,_,_,q⟩:=hs
  exact False.elim q
 |cont=>
  obtain⟨_,_,_,q⟩:=hs
  exact False.elim q
section
variable {X:Cx}{x:Str}{p pos:Pos}{e:Expr}{es:List Expr}{t:TA}{id T:String}{r:List V->Hp->VK->Prop}
noncomputable def tCB (r:List V->Hp->VK->Prop)(t:TA):TE:=λσ H Q=>t σ H λvs H1=>r vs H1 Q
theorem Xr (hc:JB X (.builtin id) r)(hg:Gl X x)(hm:X.mg x=none)(hv:bootBuiltins x=some (.builtin id))(ha:PA X (e::es) t)(hn:x≠ "__name__":=by decide)(hdb:(x==("__debug__":Str))=false:=by decide)
  (he:starEach (e::es) X.env=(false,eval e X.env)::starEach es X.env:=by rfl)(hpl:(backTo pos (starEach es X.env)).any (·.1)=false:=by rfl):PE X (.Call (.Name x p) (e::es) [] pos) (tCB r t):=by
 intro pins s σ H Q I h
 refine wpAny_Call_Name_kw (Vi I hg hm hv ?_ hn hdb)
 exact PyProof.Rows.callWith_builtin1 (thn (ha pos pins s σ H _ I h) λus s1 r9=>by obtain⟨vs,H1,I1,r1,q1⟩:=r9;exact hc pins s1 σ H1 vs us Q I1 r1 q1) he hpl
theorem Zc (hc:JB X (.type T) r)(hg:Gl X x)(hm:X.mg x=none)(hv:bootBuiltins x=some (.type T))(ha:PA X (e::es) t)(hn:x≠ "__name__":=by decide)(hdb:(x==("__debug__":Str))=false:=by decide)
  (he:starEach (e::es) X.env=(false,eval e X.env)::starEach es X.env:=by rfl)(hpl:(backTo pos (starEach es X.env)).any (·.1)=false:=by rfl):PE X (.Call (.Name x p) (e::es) [] pos) (tCB r t):=by
 intro pins s σ H Q I h
 refine wpAny_Call_Name_kw (Vi I hg hm hv ?_ hn hdb)
 exact PyProof.Rows.callWith_type1 (thn (ha pos pins s σ H _ I h) λus s1 r9=>by obtain⟨vs,H1,I1,r1,q1⟩:=r9;exact hc pins s1 σ H1 vs us Q I1 r1 q1) he hpl
end
end L2
namespace HT
open PySem PyProof.Rows
section
open PySem.SeqAt
open PySem.AutoSeq1 (wpAny_loadPart')
open PySem.MeetsSeq PySem.MeetsSeq2 PySem.MeetsSeq3
end
section
variable {prog:Program}{w:World}{A:Around}{E:Value->Shared->Prop}{s:Shared}
noncomputable def sIx (n d:Nat):Option Int->Nat
 |none=>d
 |some v=>if v<0 then(v+(n:Int)).toNat else min v.toNat n
theorem sIx_none (n d:Nat):sIx n d none=d:=rfl
theorem sIx_nat (n d k:Nat):sIx n d (some (k:Int))=min k n:=by
 show(if(k:Int)<0 then((k:Int)+(n:Int)).toNat else min (k:Int).toNat n)=min k n
 rw[if_neg (by lia),Int.toNat_natCast]
theorem LV (n d:Nat)(hd:d<=n)(o:Option Int):sIx n d o<=n:=by
 cases o with
 |none=>exact hd
 |some v=>
  show(if v<0 then(v+(n:Int)).toNat else min v.toNat n)<=n
  by_cases hv:v<0
  ·rw[if_pos hv];lia
  ·rw[if_neg hv];exact Nat.min_le_right _ _
theorem CG (v:Int)(n d:Nat):(if v<0 then max (v+(n:Int)) 0 else min v (n:Int))=((sIx n d (some v):Nat):Int):=by
 show(if v<0 then max (v+(n:Int)) 0 else min v (n:Int))=(((if v<0 then(v+(n:Int)).toNat else min v.toNat n):Nat):Int)
 by_cases hv:v<0
 ·simp only[if_pos hv];lia
 ·simp only[if_neg hv];lia
theorem FV (lo hi:Option Int)(n:Nat):Builtin.Slice.sliceAdjust lo hi 1 (n:Int)=(((sIx n 0 lo:Nat):Int),((sIx n n hi:Nat):Int)):=by
 have h1:¬((1:Int)<0):=by lia
 unfold Builtin.Slice.sliceAdjust
 simp only[h1,if_false]
 refine Prod.ext ?_ ?_
 ·cases lo with
  |none=>rfl
  |some v=>exact CG v n 0
 ·cases hi with
  |none=>rfl
  |some v=>exact CG v n n
theorem F9 (i j:Nat):Builtin.Slice.slicePlaces (i:Int) (j:Int) 1=j-i:=by
 unfold Builtin.Slice.slicePlaces
 have h1:(1:Int) > 0:=by lia
 simp only[h1,if_true,Int.ediv_one]
 split<;> lia
theorem V7 {v:Value}{o:Option Int}{Q:Option Int->Shared->Prop}(p:IsPart v o)(h:Q o s):wpAny (model prog w) A (Builtin.Slice.slicePartIndex v) Q E s:=by
 cases p with
 |none=>exact slicePart_none h
 |int i t=>exact slicePart_int h
theorem JP {sl:Addr}{vl vu:Value}{lo hi:Option Int}{n:Nat}{Q:Int×Int×Nat->Shared->Prop}(hs:s.heap.IsSliceOf sl vl vu .none)(pl:IsPart vl lo)(pu:IsPart vu hi)
  (h:Q (((sIx n 0 lo:Nat):Int),1,sIx n n hi-sIx n 0 lo) s):wpAny (model prog w) A (Builtin.Slice.sliceApplied (.ref sl) (pure (n:Int))) Q E s:=by
 obtain⟨os,hos,hcs,hds⟩:=id hs
 unfold Builtin.Slice.sliceApplied Builtin.Slice.sliceFields
 refine wpAny_bind (wpAny_bind (wpAny_field hos hds (x:=vl) rfl (wpAny_bind (wpAny_field hos hds (x:=vu) rfl (wpAny_bind (wpAny_field hos hds (x:=.none) rfl (wpAny_pure ?_)))))))
 refine wpAny_bind (slicePart_none ?_)
 show wpAny _ _ (if((1:Int)==0)=true then _ else _) _ _ s
 rw[if_neg (by decide)]
 refine wpAny_bind (V7 pl (wpAny_bind (V7 pu (wpAny_bind (wpAny_pure ?_)))))
 show wpAny _ _ (match Builtin.Slice.sliceAdjust lo hi 1 (n:Int) with | (lo,hi)=>pure (lo,(1:Int),Builtin.Slice.slicePlaces lo hi 1)) _ _ s
 rw[FV lo hi n]
 show wpAny _ _ (pure (((sIx n 0 lo:Nat):Int),(1:Int),Builtin.Slice.slicePlaces ((sIx n 0 lo:Nat):Int) ((sIx n n hi:Nat):Int) 1)) _ _ s
 rw[F9]
 exact wpAny_pure h
theorem Et (xs:Array Value)(i k:Nat):((List.range k).filterMap λ(m:Nat)=>xs[((i:Int)+(m:Int)*1).toNat]?).toArray=((xs.toList.drop i).take k).toArray:=by
 have e:(λ(m:Nat)=>xs[((i:Int)+(m:Int)*1).toNat]?)=λm=>xs[i+m]?:=by
  funext m
  have:((i:Int)+(m:Int)*1).toNat=i+m:=by lia
  rw[this]
 rw[e]
 have:=pick_run xs i k
 rw[List.filterMap_map] at this
 have e2:((λx=>xs[x]?)∘λx=>i+x)=λm=>xs[i+m]?:=rfl
 rw[e2] at this
 rw[this]
theorem getItem_tuple_cut {t sl:Addr}{items:Array Value}{vl vu:Value}{lo hi:Option Int}{Q:Value->Shared->Prop}(ht:IsTup s.heap t items)(hs:s.heap.IsSliceOf sl vl vu .none)(pl:IsPart vl lo)(pu:IsPart vu hi)
  (hw:¬(sIx items.size 0 lo=0/\sIx items.size items.size hi=items.size))
  (h:Q (.ref s.heap.objs.size) {s with heap:=s.heap.push {cls:=.type "tuple",data:=.seq ((items.toList.drop (sIx items.size 0 lo)).take (sIx items.size items.size hi-sIx items.size 0 lo)).toArray}})
  (hsz:items.size<=sizeLine):wpAny (model prog w) A (getItem (.ref t) (.ref sl)) Q E s:=by
 have htake:sizeOk (.seq ((items.toList.drop (sIx items.size 0 lo)).take (sIx items.size items.size hi-sIx items.size 0 lo)).toArray):=by
  show((items.toList.drop (sIx items.size 0 lo)).take (sIx items.size items.size hi-sIx items.size 0 lo)).toArray.size<=sizeLine
  rw[List.size_toArray,List.length_take,List.length_drop,Array.length_toList]
  exact Nat.le_trans (Nat.min_le_right _ _) (Nat.le_trans (Nat.sub_le _ _) hsz)
 have hj:sIx items.size items.size hi<=items.size:=LV _ _ (Nat.le_refl _) hi
 obtain⟨os,hos,hcs,hds⟩:=id hs
 have hTs:s.TypeIs (.ref sl) "slice":=⟨os,hos,hcs⟩
 unfold getItem
 try with_reducible refine wpAny_holding ?_
 first |refine wpAny_bind (wpAny_pure ?_) |skip
 refine wpAny_bind (wpAny_sequenceKey ht.typeIs (by decide) ?_)
 refine wpAny_bind (wpAny_callSpecial?_slot (name:=Str.ofString "__getitem__") ht.typeIs PyProof.Rows.slot_tuple_getitem
  (wpAny_call_entry PyProof.Rows.slot_tuple_getitem ht.typeIs entry_tuple_getitem ?_ (args_tuple_getitem _ _)))
 show wpAny _ _ (Builtin.Tuple.tupleItemsOf (.ref t) >>= _) _ _ s
 refine wpAny_bind (tupleItemsOf_ ht ?_)
 refine wpAny_bind (wpAny_typeOf hTs ?_)
 rw[if_pos (by decide)]
 refine wpAny_bind (JP hs pl pu ?_)
 have hno:¬((((sIx items.size 0 lo:Nat):Int)==0&&(1:Int)==1&&(sIx items.size items.size hi-sIx items.size 0 lo)==items.size)=true):=by
  intro q
  rw[Bool.and_eq_true,Bool.and_eq_true] at q
  have q1:((sIx items.size 0 lo:Nat):Int)=0:=eq_of_beq q.1.1
  have q2:sIx items.size items.size hi-sIx items.size 0 lo=items.size:=eq_of_beq q.2
  exact hw ⟨Int.ofNat.inj q1,Nat.le_antisymm hj (Nat.le_trans (Nat.le_of_eq q2.symm) (Nat.sub_le _ _))⟩
 show wpAny _ _ (if(((sIx items.size 0 lo:Nat):Int)==0&&(1:Int)==1&&(sIx items.size items.size hi-sIx items.size 0 lo)==items.size)=true then _ else _) _ _ s
 rw[if_neg hno,Et]
 first
  |exact wpAny_bind (m:=Builtin.Tuple.tupleExact _) (wpAny_newObj_type (wpAny_pure ⟨_,rfl,wpAny_pure h⟩) htake)
  |exact wpAny_bind (m:=Builtin.Tuple.tupleExact _) (wpAny_newObj_type (wpAny_bind (wpAny_pure (wpAny_pure ⟨_,rfl,wpAny_pure h⟩))) htake)
  |exact wpAny_bind (wpAny_bind (m:=Builtin.Tuple.tupleExact _) (wpAny_newObj_type (wpAny_pure (wpAny_pure ⟨_,rfl,wpAny_pure h⟩)) htake))
  |exact wpAny_bind (wpAny_bind (m:=Builtin.Tuple.tupleExact _) (wpAny_newObj_type (wpAny_pure ⟨_,rfl,wpAny_pure h⟩) htake))
end
end HT
namespace L2
open PySem PySem.Spec PyProof.Rows
noncomputable abbrev TO:=St->Hp->(Option Int->Hp->Prop)->Prop
noncomputable def PO (X:Cx)(e:Option Expr)(t:TO):Prop:=
 ∀(pins:List (Addr×Obj)) (s:Shared) (σ:St) (H:Hp) (Q:Option Int->Hp->Prop),Inv X pins σ H s->t σ H Q->
  wpAny (model X.prog X.w) X.A (evalPart e X.env) (λu s'=>∃ o H',Inv X pins σ H' s'/\IsPart u o/\Q o H') X.xe s
noncomputable def DB:TO:=λ_ H Q=>Q none H
noncomputable def Md (t:TE):TO:=λσ H Q=>t σ H λx H1=>∃ i,x= .int i/\Q (some i) H1
theorem Dr {ns:List Int}:∀{us:List Value},Yu (ns.map V.int) us->IntsAre us ns:=by
 induction ns with
 |nil=>intro us r;rw[List.map_nil] at r;cases r;exact .nil
 |cons n ns ih=>
  intro us r
  rw[List.map_cons] at r
  cases r with
  |cons r1 r2=>
   obtain⟨t,e⟩:=r1
   subst e
   exact .cons n t (ih r2)
section
variable {X:Cx}{e:Expr}{te:TE}{lo hi:Option Expr}{tl th:TO}{pos p2:Pos}
theorem UJ:PO X none DB:=by
 intro pins s σ H Q I h
 rw[evalPart_none]
 exact wpAny_pure ⟨none,H,I, .none,h⟩
theorem Uz (h:PE X e te):PO X (some e) (Md te):=by
 intro pins s σ H Q I hw
 rw[evalPart_some]
 refine thn (h pins s σ H _ I hw) λu s1 r9=>?_
 obtain⟨x,H1,I1,r1,q1⟩:=r9
 obtain⟨i,rfl,q⟩:=q1
 obtain⟨t,rfl⟩:=r1
 exact⟨some i,H1,I1, .int i t,q⟩
noncomputable def SlR (X:Cx)(r:V->Option Int->Option Int->Hp->VK->Prop):Prop:=
 ∀(pins:List (Addr×Obj)) (s:Shared) (σ:St) (H:Hp) (x:V) (v vl vu:Value) (lo hi:Option Int) (sl:Addr) (Q:VK),Inv X pins σ H s->YJ x v->s.heap.IsSliceOf sl vl vu .none->IsPart vl lo->IsPart vu hi->r x lo hi H Q->
  ∃T id,typeLookup (.type T) "__getitem__" =pure (some (.builtin id))/\s.TypeIs v T/\wpAny (model X.prog X.w) X.A (getItem v (.ref sl)) (EP X pins σ Q) X.xe s
noncomputable def tSl (r:V->Option Int->Option Int->Hp->VK->Prop)(te:TE)(tl th:TO):TE:=λσ H Q=>te σ H λx H1=>tl σ H1 λl H2=>th σ H2 λu H3=>r x l u H3 Q
theorem J3 {r:V->Option Int->Option Int->Hp->VK->Prop}(hr:SlR X r)(he:PE X e te)(hl:PO X lo tl)(hu:PO X hi th):PE X (.Subscript e (.Slice lo hi none p2) pos) (tSl r te tl th):=by
 intro pins s σ H Q I h
 refine Subscript_ (thn (he pins s σ H _ I h) λv s1 r9=>?_)
 obtain⟨x,H1,I1,r1,q1⟩:=r9
 refine wpAny_Slice (thn (hl pins s1 σ H1 _ I1 q1) λvl s2 ⟨l,H2,I2,pl,q2⟩=>thn (hu pins s2 σ H2 _ I2 q2) λvu s3 r9=>?_)
 obtain⟨u,H3,I3,pu,q3⟩:=r9
 rw[evalPart_none]
 refine wpAny_pure ?_
 have I4:Inv X pins σ H3 {s3 with heap:=s3.heap.push {cls:=.type "slice",data:=.fields #[vl,vu, .none]}}:=I3.kept (t':=s3.toks) λb ob q=>Heap.get?_push_of_some _ q
 obtain⟨T,id,hT,ht,hg⟩:=hr pins {s3 with heap:=s3.heap.push {cls:=.type "slice",data:=.fields #[vl,vu, .none]}} σ H3 x v vl vu l u s3.heap.objs.size Q I4 r1 (Heap.IsSliceOf.new ..) pl pu q3
 show wpAny (model X.prog X.w) X.A (subscriptTail e (.Slice lo hi none p2) v (.ref s3.heap.objs.size)) (EP X pins σ Q) X.xe {s3 with heap:=s3.heap.push {cls:=.type "slice",data:=.fields #[vl,vu, .none]}}
 exact tail_any (ops:=[.ref s3.heap.objs.size,v]) ht hT hg (by with_unfolding_all rfl)
noncomputable def Hv (xs:List V)(lo hi:Option Int):List V:=(xs.drop (HT.sIx xs.length 0 lo)).take (HT.sIx xs.length xs.length hi-HT.sIx xs.length 0 lo)
theorem VM (xs:List V)(lo hi:Option Int):(Hv xs lo hi).length<=xs.length:=by
 unfold Hv
 rw[List.length_take,List.length_drop]
 lia
noncomputable def M3 (K:PySem.W.Frag):V->Option Int->Option Int->Hp->VK->Prop:=λx lo hi H Q=>∃ a xs,x= .ref a/\SqT K H a xs/\
 ¬(HT.sIx xs.length 0 lo=0/\HT.sIx xs.length xs.length hi=xs.length)/\∀p,H p=none->Q (.ref p) (upd H p (.tup (Hv xs lo hi)))
theorem Mo:SlR X (M3 X.K):=by
 intro pins s σ H x v vl vu lo hi sl Q I rx hs pl pu h
 obtain⟨a,xs,rfl,hx,hw,q⟩:=h
 cases rx
 obtain⟨its,r,ht,hz⟩:=I.tuple hx
 have hlen:its.toArray.size=xs.length:=by rw[List.size_toArray];exact r.length.symm
 refine⟨"tuple",_,PyProof.Rows.slot_tuple_getitem.lookup,ht.typeIs,?_⟩
 refine HT.getItem_tuple_cut ht hs pl pu (by rw[hlen];exact hw) ?_ (by rw[hlen];exact hz)
 rw[hlen]
 refine⟨.ref s.heap.objs.size,_,I.laid (t':=s.toks) (o:=.tup (Hv xs lo hi)) (λb ob q=>Heap.get?_push_of_some _ q) (Nat.le_refl _) ?_,rfl,q _ (I.hok.fresh (Nat.le_refl _))⟩
 exact⟨Nat.le_trans (VM xs lo hi) hz,_,(r.drop (HT.sIx xs.length 0 lo)).take (HT.sIx xs.length xs.length hi-HT.sIx xs.length 0 lo),V6.new _ _⟩
end
noncomputable def ixN (n:Nat)(i:Int):Option Nat:=if 0<=i then(if i<n then some i.toNat else none) else if-(n:Int)<=i then some (i+n).toNat else none
noncomputable def atI {α:Type}(xs:List α)(i:Int):Option α:=(ixN xs.length i).bind λj=>xs[j]?
theorem Cn {n:Nat}{i:Int}{j:Nat}(h:ixN n i=some j):seqIndex? i n=some j/\j<n/\ -(n:Int)<=i/\i<n:=by
 unfold ixN at h
 by_cases h0:0<=i
 ·rw[if_pos h0] at h
  by_cases h1:i<n
  ·rw[if_pos h1] at h
   have e:i.toNat=j:=Option.some.inj h
   exact⟨by rw[seqIndex_of h0 h1,e],by lia,by lia,h1⟩
  ·rw[if_neg h1] at h;cases h
 ·rw[if_neg h0] at h
  by_cases h1: -(n:Int)<=i
  ·rw[if_pos h1] at h
   have e:(i+n).toNat=j:=Option.some.inj h
   exact⟨by rw[seqIndex_neg (by lia) h1,e],by lia,h1,by lia⟩
  ·rw[if_neg h1] at h;cases h
theorem CK {α:Type}{xs:List α}{i:Int}{v:α}(h:atI xs i=some v):∃j,seqIndex? i xs.length=some j/\xs[j]?=some v/\j<xs.length/\ -(xs.length:Int)<=i/\i<xs.length:=by
 unfold atI at h
 cases e:ixN xs.length i with
 |none=>rw[e] at h;cases h
 |some j=>
  rw[e] at h
  obtain⟨h1,h2,h3,h4⟩:=Cn e
  exact⟨j,h1,h,h2,h3,h4⟩
noncomputable def Ip (b:Expr):Prop:=∀ o i,subscripted b false o i=operate [o,i] (getItem o i)
noncomputable def IxR (X:Cx)(r:R2):Prop:=
 ∀(value slice:Expr) (pins:List (Addr×Obj)) (s:Shared) (σ:St) (H:Hp) (x y:V) (v u:Value) (Q:VK),Inv X pins σ H s->YJ x v->YJ y u->r x y H Q->
  subscripted slice false v u=operate [v,u] (getItem v u)->wpAny (model X.prog X.w) X.A (subscriptTail value slice v u) (EP X pins σ Q) X.xe s
noncomputable def MtR (X:Cx)(id:String)(r:V->List V->Hp->VK->Prop):Prop:=
 ∀(pins:List (Addr×Obj)) (s:Shared) (σ:St) (H:Hp) (x:V) (xs:List V) (v:Value) (us:List Value) (Q:VK),Inv X pins σ H s->YJ x v->Yu xs us->r x xs H Q->
  wpAny (model X.prog X.w) X.A (call (.builtin id) (v::us)) (EP X pins σ Q) X.xe s
section
variable {X:Cx}{a b:Expr}{ta tb:TE}{pos:Pos}
theorem XD {r:R2}(hr:IxR X r)(ha:PE X a ta)(hb:PE X b tb)(hs:Ip b):PE X (.Subscript a b pos) (tOp r ta tb):=by
 intro pins s σ H Q I h
 exact Subscript_ (M0 ha hb I h λv u s2 x y H2 I2 rx ry q=>hr a b pins s2 σ H2 x y v u Q I2 rx ry q (hs _ _))
inductive rIxLI (K:PySem.W.Frag)(x:V)(y:V)(H:Hp)(Q:VK):Prop
 |mk (p:_) (xs:_) (i:_) (v:_) (h1_:x= .ref p) (h2_:y= .int i) (h3_:SqL K H p xs) (h4_:atI xs i=some v) (h5_:Q v H)
noncomputable def Iw (K:PySem.W.Frag):R2:=λx y H Q=>rIxLI K x y H Q
inductive rIxTI (K:PySem.W.Frag)(x:V)(y:V)(H:Hp)(Q:VK):Prop
 |mk (p:_) (xs:_) (i:_) (v:_) (h1_:x= .ref p) (h2_:y= .int i) (h3_:SqT K H p xs) (h4_:atI xs i=some v) (h5_:Q v H)
noncomputable def Lp (K:PySem.W.Frag):R2:=λx y H Q=>rIxTI K x y H Q
theorem I0:IxR X (Iw X.K):=by
 intro value slice pins s σ H x y v u Q I rx ry h hs
 obtain⟨p,xs,i,z,rfl,rfl,hq,he,q⟩:=h
 cases rx
 obtain⟨t,rfl⟩:=ry
 obtain⟨its,r,pl,hz⟩:=I.list hq
 obtain⟨j,h1,h2,h3,h4,h5⟩:=CK he
 obtain⟨w,ew,rw'⟩:=r.get h2
 have hl:=r.length
 have hn:=Fz
 have fin:EP X pins σ Q w s:=⟨z,H,I,rw',q⟩
 by_cases h0:0<=i
 ·have hj:i.toNat=j:=by
   rw[seqIndex_of h0 h5] at h1
   exact Option.some.inj h1
  exact item_listR pl.isList h0 (by lia) (by rw[hj];simpa using ew) fin hs
 ·have hj:(i+(its.toArray.size:Int)).toNat=j:=by
   rw[seqIndex_neg (by lia) h4] at h1
   rw[List.size_toArray, ←hl]
   exact Option.some.inj h1
  exact subscriptTail_builtinR (x:=w) pl.isList.typeIs slot_list_getitem.lookup
   (wpAny_getItem_list_neg (Q:=λr s'=>r=w/\EP X pins σ Q r s') pl.isList (by lia) (by rw[List.size_toArray]<;> lia) (by lia) (by rw[hj];simpa using ew) ⟨rfl,fin⟩) hs
theorem LU:IxR X (Lp X.K):=by
 intro value slice pins s σ H x y v u Q I rx ry h hs
 obtain⟨p,xs,i,z,rfl,rfl,hq,he,q⟩:=h
 cases rx
 obtain⟨t,rfl⟩:=ry
 obtain⟨its,r,pl,hz⟩:=I.tuple hq
 obtain⟨j,h1,h2,h3,h4,h5⟩:=CK he
 obtain⟨w,ew,rw'⟩:=r.get h2
 have hl:=r.length
 have hn:=Fz
 have fin:EP X pins σ Q w s:=⟨z,H,I,rw',q⟩
 exact subscriptTail_builtinR (x:=w) pl.typeIs slot_tuple_getitem.lookup
  (getItem_tuple (j:=j) (Q:=λr s'=>r=w/\EP X pins σ Q r s') pl (by lia) (by lia) (by rw[List.size_toArray, ←hl];exact h1) (by simpa using ew) ⟨rfl,fin⟩) hs
theorem F8 (its:List Value)(n j:Nat)(u:Value):Obj.mapSeq (·.setIfInBounds j u) {cls:=.type "list",data:=.seq its.toArray n}={cls:=.type "list",data:=.seq (its.set j u).toArray n}:=by
 simp[Obj.mapSeq]
theorem Inv.lst {pins:List (Addr×Obj)}{σ:St}{H:Hp}{s:Shared}{p:Addr}{xs:List V}(I:Inv X pins σ H s)(h:H p=some (.lst xs)):
  ∃(its:List Value) (n:Nat),Yu xs its/\s.heap.get? p=some {cls:=.type "list",data:=.seq its.toArray n}/\xs.length<=sizeLine:=by
 obtain⟨z,its,n,r,e⟩:=I.hok p _ h
 exact⟨its,n,r,e,z⟩
theorem Inv.lstUpd {pins:List (Addr×Obj)}{σ:St}{H:Hp}{s:Shared}{p:Addr}{xs ys:List V}{its its':List Value}{n n':Nat}{f:Obj->Obj}(I:Inv X pins σ H s)(h:H p=some (.lst xs))
  (ho:s.heap.get? p=some {cls:=.type "list",data:=.seq its.toArray n})(hf:f {cls:=.type "list",data:=.seq its.toArray n}={cls:=.type "list",data:=.seq its'.toArray n'})(r:Yu ys its')(hz:ys.length<=sizeLine)(t:Nat):
  Inv X pins σ (upd H p (.lst ys)) {s with heap:=s.heap.update p f,toks:=t}:=by
 have e:(s.heap.update p f).get? p=some {cls:=.type "list",data:=.seq its'.toArray n'}:=by
  rw[Heap.get?_update_self f ho (by rw[hf]<;> rfl),hf]
 refine I.write (x:=p) (e:=p) (by rw[h];trivial) (.inl rfl) (λb u hb q=>(Heap.get?_update_other _ _ (Ne.symm hb)).trans q) ⟨_,e⟩ ?_
 exact⟨hz,its',n',r,e⟩
inductive rSetLI (o:V)(i:V)(v:V)(H:Hp)(Q:(Hp->Prop)):Prop
 |mk (p:_) (xs:_) (k:_) (j:_) (h1_:o= .ref p) (h2_:i= .int k) (h3_:H p=some (.lst xs)) (h4_:ixN xs.length k=some j) (h5_:Q (upd H p (.lst (xs.set j v))))
noncomputable def Lk:V->V->V->Hp->(Hp->Prop)->Prop:=λo i v H Q=>rSetLI o i v H Q
theorem JU:Nj X Lk:=by
 intro pins s σ H o i v ov iv u Q I ro ri rv h
 obtain⟨p,xs,k,j,rfl,rfl,hp,hj,q⟩:=h
 cases ro
 obtain⟨t,rfl⟩:=ri
 obtain⟨its,n,r,ho,hz⟩:=I.lst hp
 obtain⟨h1,h2,h3,h4⟩:=Cn hj
 have hl:=r.length
 have hn:=Fz
 have I':Inv X pins σ (upd H p (.lst (xs.set j v))) {s with heap:=s.heap.update p (Obj.mapSeq (·.setIfInBounds j u))}:=
  I.lstUpd hp ho (F8 its n j u) (r.set rv j) (by rw[List.length_set];exact hz) s.toks
 by_cases h0:0<=k
 ·have hk:k.toNat=j:=by
   rw[seqIndex_of h0 h4] at h1
   exact Option.some.inj h1
  exact PySem.W.ki_setAt ho h0 (by lia) (by rw[List.size_toArray, ←hl];exact h4) (by rw[hk];exact⟨_,I',q⟩)
 ·have hk:(k+(its.toArray.size:Int)).toNat=j:=by
   rw[seqIndex_neg (by lia) h3] at h1
   rw[List.size_toArray, ←hl]
   exact Option.some.inj h1
  exact PySem.W.ki_setBack ho (by lia) (by rw[List.size_toArray, ←hl];exact h3) (by lia) (by rw[hk];exact⟨_,I',q⟩)
theorem K6 (lo hi:Option Int)(n:Nat):(sliceBounds lo hi none n).1=((HT.sIx n 0 lo:Nat):Int)/\(sliceBounds lo hi none n).2.1=((HT.sIx n n hi:Nat):Int)/\(sliceBounds lo hi none n).2.2=1:=by
 refine⟨?_,?_,rfl⟩
 ·cases lo with
  |none=>simp[sliceBounds,HT.sIx]
  |some i=>
   simp only[sliceBounds,HT.sIx,Option.getD_none,show(1:Int) > 0 by decide,if_true]
   by_cases h:i<0
   ·simp only[h,if_true]<;> lia
   ·simp only[h,if_false]<;> lia
 ·cases hi with
  |none=>simp[sliceBounds,HT.sIx]
  |some i=>
   simp only[sliceBounds,HT.sIx,Option.getD_none,show(1:Int) > 0 by decide,if_true]
   by_cases h:i<0
   ·simp only[h,if_true]<;> lia
   ·simp only[h,if_false]<;> lia
theorem Uv (its:List Value)(lo hi:Option Int):slicePick its.toArray lo hi none=((its.drop (HT.sIx its.length 0 lo)).take (HT.sIx its.length its.length hi-HT.sIx its.length 0 lo)).toArray:=by
 obtain⟨h1,h2,h3⟩:=K6 lo hi its.toArray.size
 unfold slicePick
 rw[h1,h2,h3]
 simp only[sliceRange_one,pick_run,List.size_toArray]<;> rfl
noncomputable def MH (K:PySem.W.Frag):V->Option Int->Option Int->Hp->VK->Prop:=λx lo hi H Q=>∃ a xs,x= .ref a/\SqL K H a xs/\∀p,H p=none->Q (.ref p) (upd H p (.lst (Hv xs lo hi)))
theorem HB:SlR X (MH X.K):=by
 intro pins s σ H x v vl vu lo hi sl Q I rx hs pl pu h
 obtain⟨a,xs,rfl,hx,q⟩:=h
 cases rx
 obtain⟨its,r,ht,hz⟩:=I.list hx
 have hlen:=r.length
 refine⟨"list",_,slot_list_getitem.lookup,ht.isList.typeIs,?_⟩
 refine wpAny_getItem_list_slice ht.isList hs pl pu .none (by simp) ?_ (by rw[List.size_toArray]<;> lia)
 rw[Uv, ←hlen]
 refine⟨.ref s.heap.objs.size,_,I.laid (t':=s.toks) (o:=.lst (Hv xs lo hi)) (λb ob q=>Heap.get?_push_of_some _ q) (Nat.le_refl _) ?_,rfl,q _ (I.hok.fresh (Nat.le_refl _))⟩
 exact⟨Nat.le_trans (VM xs lo hi) hz,_,0,(r.drop (HT.sIx xs.length 0 lo)).take (HT.sIx xs.length xs.length hi-HT.sIx xs.length 0 lo),Heap.get?_push_size _ rfl⟩
noncomputable def JR:V->Bool
 | .non=>true
 | .bl _=>true
 | .int _=>true
 | .str _=>true
 |_=>false
noncomputable def eqV:V->V->Bool
 | .non, .non=>true
 | .bl a, .bl b=>a==b
 | .bl a, .int b=>(if a then 1 else 0)==b
 | .int a, .bl b=>a==(if b then 1 else 0)
 | .int a, .int b=>a==b
 | .str a, .str b=>a==b
 |_,_=>false
theorem LD {A:Around}{s:Shared}{y x:V}{u v:Value}(ry:YJ y u)(rx:YJ x v)(fy:JR y=true)(fx:JR x=true):SeqAt.EqAt A s u v (eqV y x):=by
 cases y with
 |non=>
  cases ry
  cases x with
  |non=>cases rx;exact SeqAt.EqAt.same _
  |bl b=>cases rx;exact SeqAt.EqAt.none_bool b
  |int b=>obtain⟨t,rfl⟩:=rx;exact SeqAt.EqAt.none_int b t
  |str b=>obtain⟨t,rfl⟩:=rx;exact SeqAt.EqAt.none_str b t
  |_=>exact absurd (show false=true from fx) Bool.false_ne_true
 |bl a=>
  cases ry
  cases x with
  |non=>cases rx;exact SeqAt.EqAt.bool_none a
  |bl b=>cases rx;exact SeqAt.EqAt.bool_bool a b
  |int b=>obtain⟨t,rfl⟩:=rx;exact SeqAt.EqAt.bool_int a b t
  |str b=>obtain⟨t,rfl⟩:=rx;exact SeqAt.EqAt.bool_str a b t
  |_=>exact absurd (show false=true from fx) Bool.false_ne_true
 |int a=>
  obtain⟨t',rfl⟩:=ry
  cases x with
  |non=>cases rx;exact SeqAt.EqAt.int_none a t'
  |bl b=>cases rx;exact SeqAt.EqAt.int_bool a t' b
  |int b=>obtain⟨t,rfl⟩:=rx;exact SeqAt.EqAt.int_int a t' b t
  |str b=>obtain⟨t,rfl⟩:=rx;exact SeqAt.EqAt.int_str a t' b t
  |_=>exact absurd (show false=true from fx) Bool.false_ne_true
 |str a=>
  obtain⟨t',rfl⟩:=ry
  cases x with
  |non=>cases rx;exact SeqAt.EqAt.str_none a t'
  |bl b=>cases rx;exact SeqAt.EqAt.str_bool a t' b
  |int b=>obtain⟨t,rfl⟩:=rx;exact SeqAt.EqAt.str_int a t' b t
  |str b=>obtain⟨t,rfl⟩:=rx;exact SeqAt.EqAt.str_str a t' b t
  |_=>exact absurd (show false=true from fx) Bool.false_ne_true
 |_=>exact absurd (show false=true from fy) Bool.false_ne_true
noncomputable def eqU (x:V)(u:Value):Bool:=match u with
 | .none=>eqV .non x
 | .bool b=>eqV (.bl b) x
 | .int i _=>eqV (.int i) x
 | .str z _=>eqV (.str z) x
 |_=>false
theorem Ca {x y:V}{u:Value}(r:YJ y u)(f:JR y=true):eqU x u=eqV y x:=by
 cases y with
 |non=>cases r;rfl
 |bl b=>cases r;rfl
 |int i=>obtain⟨t,rfl⟩:=r;rfl
 |str z=>obtain⟨t,rfl⟩:=r;rfl
 |_=>exact absurd (show false=true from f) Bool.false_ne_true
theorem GO {x:V}:∀{xs:List V}{us:List Value},Yu xs us->xs.all JR=true->us.any (eqU x)=xs.any λy=>eqV y x
 |_,_, .nil,_=>rfl
 |y::xs,u::us, .cons r t,f=>by
  rw[List.all_cons,Bool.and_eq_true] at f
  rw[List.any_cons,List.any_cons,Ca r f.1,GO t f.2]
theorem JW {A:Around}{s:Shared}{x:V}{v:Value}(rx:YJ x v)(fx:JR x=true):∀{xs:List V}{us:List Value},Yu xs us->xs.all JR=true->∀u∈us,SeqAt.EqAt A s u v (eqU x u)
 |_,_, .nil,_=>λu hu=>by cases hu
 |y::xs,u::us, .cons r t,f=>λu' hu=>by
  rw[List.all_cons,Bool.and_eq_true] at f
  rcases List.mem_cons.mp hu with rfl |hu
  ·rw[Ca r f.1];exact LD r rx f.1 fx
  ·exact JW rx fx t f.2 u' hu
noncomputable def inV (x:V)(xs:List V):Bool:=xs.any λy=>eqV y x
noncomputable def rIn (K:PySem.W.Frag)(neg:Bool):R2:=λx y H Q=>∃ p xs,y= .ref p/\(SqL K H p xs∨SqT K H p xs)/\JR x=true/\xs.all JR=true/\Q (.bl (if neg then !inV x xs else inV x xs)) H
theorem Ko:OpR X (compareOp .In) (rIn X.K false):=by
 intro pins s σ H x y v u Q I rx ry h
 obtain⟨p,xs,rfl,hq,fx,fs,q⟩:=h
 cases ry
 rcases hq with hq |hq
 ·obtain⟨its,r,pl,hz⟩:=I.list hq
  refine SeqAt.in_listAt (eqU x) pl.isList (λw hw=>JW rx fx r fs w (by simpa using hw)) ⟨.bl _,H,I,rfl,?_⟩
  rw[show its.toArray.any (eqU x)=its.any (eqU x) by simp,GO r fs]
  exact q
 ·obtain⟨its,r,pl,hz⟩:=I.tuple hq
  refine SeqAt.in_tupleAt (eqU x) pl (λw hw=>JW rx fx r fs w (by simpa using hw)) ⟨.bl _,H,I,rfl,?_⟩
  rw[show its.toArray.any (eqU x)=its.any (eqU x) by simp,GO r fs]
  exact q
theorem KJ:JB X (.builtin "len") (λxs H Q=>∃ p ys,xs=[.ref p]/\(SqL X.K H p ys∨SqT X.K H p ys)/\Q (.int ys.length) H):=by
 intro pins s σ H xs us Q I r h
 obtain⟨p,ys,rfl,hq,q⟩:=h
 obtain⟨u,rfl,rx⟩:=Dv r
 cases rx
 have hn:=Fz
 rcases hq with hq |hq
 ·obtain⟨its,r',pl,hz⟩:=I.list hq
  have hlen:=r'.length
  exact Calls.call_len_list pl.isList (by simp only[List.size_toArray]<;> lia) ⟨.int ys.length,H,I.tok _,⟨s.toks+1,by rw[List.size_toArray,hlen]⟩,q⟩
 ·obtain⟨its,r',pl,hz⟩:=I.tuple hq
  have hlen:=r'.length
  exact len_tuple pl (by simp only[List.size_toArray]<;> lia) ⟨.int ys.length,H,I.tok _,⟨s.toks+1,by rw[List.size_toArray,hlen]⟩,q⟩
theorem Kb:JB X (.type "list") (λxs H Q=>∃ p ys,xs=[.ref p]/\(SqL X.K H p ys∨SqT X.K H p ys)/\∀l,H l=none->Q (.ref l) (upd H l (.lst ys))):=by
 intro pins s σ H xs us Q I r h
 obtain⟨p,ys,rfl,hq,q⟩:=h
 obtain⟨u,rfl,rx⟩:=Dv r
 cases rx
 have fin:∀(its:List Value),Yu ys its->ys.length<=sizeLine->∀(h':Heap) (c':Nat),(∀b o',s.heap.get? b=some o'->h'.get? b=some o')->
   h'.get? s.heap.objs.size=some {cls:=.type "list",dict:=none,data:=.seq its.toArray c',slots:=#[]}->EP X pins σ Q (.ref s.heap.objs.size) {s with heap:=h'}:=λits r' hz h' c' kp e=>
  ⟨.ref s.heap.objs.size,_,I.laid (t':=s.toks) kp (Nat.le_refl _) (show Zl X.prog X.w _ h' _ (.lst ys) from⟨hz,its,c',r',e⟩),rfl,q _ (I.hok.fresh (Nat.le_refl _))⟩
 rcases hq with hq |hq
 ·obtain⟨its,r',pl,hz⟩:=I.list hq
  have hlen:=r'.length
  obtain⟨o,ho,hc,n,hd⟩:=pl.isList
  exact call_list_seq p (.inl rfl) ho hc hd (λh' c' kp e=>fin its r' hz h' c' kp e) (by simp only[List.size_toArray]<;> lia)
 ·obtain⟨its,r',pl,hz⟩:=I.tuple hq
  have hlen:=r'.length
  obtain⟨o,ho,hc,n,hd⟩:=pl
  exact call_list_seq p (.inr rfl) ho hc hd (λh' c' kp e=>fin its r' hz h' c' kp e) (by simp only[List.size_toArray]<;> lia)
noncomputable def tyV (K:PySem.W.Frag)(T:String)(x:V)(H:Hp):Prop:=match x with
 | .str _=>T= "str"
 | .int _=>T= "int"
 | .ref p=>(T= "list" /\∃xs,SqL K H p xs)∨(T= "tuple" /\∃o,K.lookup p=some o/\o.cls= .type "tuple" /\o.dict=none)∨
   (T= "dict" /\((∃kvs,H p=some (.dK kvs))∨∃kvs,H p=some (.dT kvs)))∨(T= "set" /\∃S n,H p=some (.set S n))
 |_=>False
theorem Ms {pins:List (Addr×Obj)}{σ:St}{H:Hp}{s:Shared}{T:String}{x:V}{v:Value}(I:Inv X pins σ H s)(r:YJ x v)(ty:tyV X.K T x H):
  s.TypeIs v T/\∀a,v= .ref a->∃ob,s.heap.get? a=some ob/\ob.dict=none:=by
 cases x with
 |str z=>
  obtain⟨t,rfl⟩:=r
  cases(show T= "str" from ty)
  exact⟨typeIs_str s z t,λ_ e=>nomatch e⟩
 |int i=>
  obtain⟨t,rfl⟩:=r
  cases(show T= "int" from ty)
  exact⟨typeIs_int s i t,λ_ e=>nomatch e⟩
 |ref p=>
  cases r
  rcases ty with⟨rfl,xs,hq⟩ | ⟨rfl,o,hk,hc,hd⟩ | ⟨rfl,hk⟩ | ⟨rfl,S,n,hk⟩
  ·obtain⟨its,_,pl,_⟩:=I.list hq
   refine⟨pl.isList.typeIs,λa e=>?_⟩
   cases e
   obtain⟨o,n,e,c,hd,_⟩:=pl
   exact⟨o,e,hd⟩
  ·refine⟨⟨o,I.kIn p o hk,hc⟩,λa e=>?_⟩
   cases e
   exact⟨o,I.kIn _ o hk,hd⟩
  ·have z:∃o,s.heap.get? p=some o/\o.ExactDict:=by
    rcases hk with⟨kvs,hk⟩ | ⟨kvs,hk⟩
    ·obtain⟨_,_,_,_,o,_,_,e,ex,_⟩:=I.hok p _ hk
     exact⟨o,e,ex⟩
    ·obtain⟨_,_,_,_,o,_,_,e,ex,_⟩:=I.hok p _ hk
     exact⟨o,e,ex⟩
   obtain⟨o,e,ex⟩:=z
   refine⟨⟨o,e,ex.1⟩,λa e2=>?_⟩
   cases e2
   exact⟨o,e,ex.2.1⟩
  ·obtain⟨o,_,_,_,e,ex,_⟩:=I.hok p _ hk
   refine⟨⟨o,e,ex.1⟩,λa e2=>?_⟩
   cases e2
   exact⟨o,e,ex.2.1⟩
 |_=>exact False.elim ty
noncomputable def tBM (K:PySem.W.Frag)(T:String)(r:V->List V->Hp->VK->Prop)(to:TE)(t:TA):TE:=λσ H Q=>to σ H λx H1=>tyV K T x H1/\t σ H1 λxs H2=>r x xs H2 Q
variable {o e:Expr}{es:List Expr}{to:TE}{t:TA}{name:Str}{apos cpos:Pos}{T id:String}{r:V->List V->Hp->VK->Prop}
theorem Zk (pa:PlainAttrs T)(slot:Slot T name id)(hty:typeOf (.builtin id)=pure (.type "method_descriptor"))(hm:MtR X id r)(ho:PE X o to)(ha:PA X (e::es) t)
  (hbase:attributeBase o name X.env (eval o X.env)=eval o X.env:=by rfl)
  (hfew:((backTo cpos (starEach (e::es) X.env)).all (λx=>!x.1)&&(backToKw cpos (keywordEach [] X.env)).all (λx=>x.1.isSome)
   &&decide ((e::es).length+([]:List Keyword).length+(if([]:List Keyword).isEmpty then 0 else 1)<30))=true:=by rfl)
  (hline:(apos.endLine==cpos.line)=true:=by rfl)(hs:starEach (e::es) X.env=(false,eval e X.env)::starEach es X.env:=by rfl)(hplain:(backTo cpos (starEach es X.env)).any (·.1)=false:=by rfl):
  PE X (.Call (.Attribute o name apos) (e::es) [] cpos) (tBM X.K T r to t):=by
 intro pins s σ H Q I h
 refine wpAny_Call_method_late hbase hfew hline rfl (thn (ho pins s σ H _ I h) λv s1 r9=>?_)
 obtain⟨x,H1,I1,r1,ty,q1⟩:=r9
 obtain⟨h1,h2⟩:=Ms I1 r1 ty
 refine⟨T,id,pa,slot,hty,h1,h2,?_⟩
 have hA:=ha cpos pins s1 σ H1 _ I1 q1
 rw[hs] at hA⊢
 refine Calls.callWith_builtin (by show(false || (backTo cpos (starEach es X.env)).any (·.1))=false;rw[hplain]<;> rfl) (Calls.evalArgs_plain ?_)
 exact thn hA λus s2 r9=>by obtain⟨vs,H2,I2,r2,q2⟩:=r9;exact hm pins s2 σ H2 x vs v us Q I2 r1 r2 q2
/- xs.append(e), list.index on a module's tuple .. are MtR facts of 06m -/
end
noncomputable def MtM (X:Cx)(id:String)(r:V->List V->Hp->VK->Prop):Prop:=
 ∀(pins:List (Addr×Obj)) (s:Shared) (σ:St) (H:Hp) (x:V) (xs:List V) (v:Value) (us:List Value) (Q:VK),Inv X pins σ H s->YJ x v->Yu xs us->r x xs H Q->
  wpAny (model X.prog X.w) X.A (call (.builtin id) (v::us)) (EP X pins σ Q) X.xe s
theorem Yu.one:∀{x:V}{us:List Value},Yu [x] us->∃u,us=[u]/\YJ x u:=fun {x us} h=>by
 cases h with
 |cons r t=>
  cases t
  exact⟨_,rfl,r⟩
theorem Yu.two:∀{x y:V}{us:List Value},Yu [x,y] us->∃u v,us=[u,v]/\YJ x u/\YJ y v:=fun {x y us} h=>by
 cases h with
 |cons r t=>
  cases t with
  |cons q t=>
   cases t
   exact⟨_,_,rfl,r,q⟩
theorem Yu.eraseIdx:∀{xs:List V}{us:List Value} (i:Nat),Yu xs us->Yu (xs.eraseIdx i) (us.eraseIdx i)
 |_,_,_, .nil=>.nil
 |_,_,0, .cons _ t=>t
 |_,_,i+1, .cons r t=>.cons r (Yu.eraseIdx i t)
theorem Yu.reverse {xs:List V}{us:List Value}(h:Yu xs us):Yu xs.reverse us.reverse:=by
 induction h with
 |nil=>exact .nil
 |cons r t ih=>rw[List.reverse_cons,List.reverse_cons];exact Yu.append ih (.cons r .nil)
theorem Yu.rep {xs:List V}{us:List Value}(h:Yu xs us):∀k:Nat,Yu (List.replicate k xs).flatten (List.replicate k us).flatten
 |0=>.nil
 |k+1=>by
  rw[List.replicate_succ,List.replicate_succ,List.flatten_cons,List.flatten_cons]
  exact Yu.append h (Yu.rep h k)
theorem Kd {α:Type}:∀(l:List α) (i:Nat),(l.eraseIdx i).length<=l.length
 | [],_=>Nat.le_refl _
 |_::_,0=>Nat.le_succ _
 |_::r,i+1=>Nat.succ_le_succ (Kd r i)
theorem U8 (its:List Value):∀(k:Nat) (acc:List Value),
  List.foldl (λx1 x2=>x1++x2) acc.toArray (List.replicate k its.toArray)=(acc++(List.replicate k its).flatten).toArray
 |0,acc=>by simp
 |k+1,acc=>by
  have e:acc.toArray++its.toArray=(acc++its).toArray:=by simp
  have e2:(acc++its)++(List.replicate k its).flatten=acc++(List.replicate (k+1) its).flatten:=by
   rw[List.replicate_succ,List.flatten_cons,List.append_assoc]
  rw[←e2, ←U8 its k (acc++its), ←e,List.replicate_succ,List.foldl_cons]
section
variable {X:Cx}{pins:List (Addr×Obj)}{σ:St}{H:Hp}{s:Shared}{l b:Addr}{xs ys zs:List V}
theorem Inv.lset {its its':List Value}{n:Nat}{f:Array Value->Array Value}{t':Nat}(I:Inv X pins σ H s)(hH:H l=some (.lst xs))
  (e:s.heap.get? l=some {cls:=.type "list",data:=.seq its.toArray n})(hf:f its.toArray=its'.toArray)(hv:Yu ys its')(hz:ys.length<=sizeLine):
  Inv X pins σ (upd H l (.lst ys)) {s with heap:=s.heap.update l (Obj.mapSeq f),toks:=t'}:=by
 have q:=PySem.IsL.update e f
 rw[hf] at q
 refine I.write (x:=l) (e:=l) (by rw[hH];exact trivial) (.inl rfl) (λb' u hb hu=>(Heap.get?_update_other s.heap (Obj.mapSeq f) (Ne.symm hb)).trans hu) ⟨_,q⟩ ?_
 exact⟨hz,its',_,hv,q⟩
theorem Inv.lnew {its:List Value}{t':Nat}(I:Inv X pins σ H s)(hv:Yu ys its)(hz:ys.length<=sizeLine):
  Inv X pins σ (upd H s.heap.objs.size (.lst ys)) {s with heap:=s.heap.push {cls:=.type "list",data:=.seq its.toArray},toks:=t'}:=
 I.laid (λ_ _ q=>Heap.get?_push_of_some _ q) (Nat.le_refl _) ⟨hz,its,0,hv,Heap.get?_push_size _ rfl⟩
theorem Inv.fresh (I:Inv X pins σ H s):H s.heap.objs.size=none:=I.hok.fresh (Nat.le_refl _)
theorem Inv.lstM (I:Inv X pins σ H s)(hH:H l=some (.lst xs)):xs.length<=sizeLine/\∃(its:List Value) (n:Nat),Yu xs its/\xs.length=its.length/\s.heap.get? l=some {cls:=.type "list",data:=.seq its.toArray n}:=by
 obtain⟨z,its,n,r,e⟩:=I.hok l _ hH
 exact⟨z,its,n,r,r.length,e⟩
theorem GW {n:Nat}(h:n<=sizeLine):Builtin.List.listTooLong n=false:=by
 unfold Builtin.List.listTooLong
 exact decide_eq_false (by lia)
end
section
variable {X:Cx}
inductive rAppendI (x:V)(vs:List V)(H:Hp)(Q:VK):Prop
 |mk (l:_) (xs:_) (y:_) (h1_:x= .ref l) (h2_:vs=[y]) (h3_:H l=some (.lst xs)) (h4_:xs.length<sizeLine) (h5_:Q .non (upd H l (.lst (xs++[y]))))
noncomputable def UE:V->List V->Hp->VK->Prop:=λx vs H Q=>rAppendI x vs H Q
theorem XR:MtM X "list.append" UE:=by
 intro pins s σ H x vs v us Q I rx rv h
 obtain⟨l,xs,y,rfl,rfl,hH,hz,q⟩:=h
 cases rx
 obtain⟨u,rfl,ru⟩:=rv.one
 obtain⟨z,its,n,r,hl,e⟩:=I.lstM hH
 refine call_meets F.slot_list_append ⟨_,e,rfl⟩ F.entry_list_append (F.args_list_append_2 _ _) (PySem.list_append l its.toArray n u (by rw[List.size_toArray];lia)) ⟨e,?_⟩
 refine⟨.non,_,I.lset (its':=its++[u]) hH e (by simp) (r.append (.cons ru .nil)) ?_,rfl,q⟩
 rw[List.length_append,List.length_singleton]
 lia
noncomputable def Bs:V->List V->Hp->VK->Prop:=λx vs H Q=>∃ l b xs zs,x= .ref l/\vs=[.ref b]/\H l=some (.lst xs)/\H b=some (.lst zs)/\xs.length+zs.length<=sizeLine/\Q .non (upd H l (.lst (xs++zs)))
theorem BK:MtM X "list.extend" Bs:=by
 intro pins s σ H x vs v us Q I rx rv h
 obtain⟨l,b,xs,zs,rfl,rfl,hH,hB,hz,q⟩:=h
 cases rx
 obtain⟨u,rfl,ru⟩:=rv.one
 cases ru
 obtain⟨z,its,n,r,hl,e⟩:=I.lstM hH
 obtain⟨z2,its2,n2,r2,hl2,e2⟩:=I.lstM hB
 have hsz:its.toArray.size+its2.toArray.size<=sizeLine:=by rw[List.size_toArray,List.size_toArray];lia
 have hlong:¬(!its.toArray.isEmpty&&Builtin.List.listTooLong (its.toArray.size+its2.toArray.size))=true:=by
  rw[GW hsz,Bool.and_false]
  exact Bool.false_ne_true
 refine call_meets F.slot_list_extend ⟨_,e,rfl⟩ F.entry_list_extend (F.args_list_extend_2 _ _)
  (AutoSeq1.list_extend_list_list_0 l its.toArray n b its2.toArray n2 hlong (by rw[List.size_toArray];lia) (by lia)) ⟨e,e2,?_⟩
 refine⟨.non,_,I.lset (its':=its++its2) hH e (by simp) (r.append r2) ?_,rfl,q⟩
 rw[List.length_append]
 lia
noncomputable def FE:V->List V->Hp->VK->Prop:=λx vs H Q=>∃ l xs i k y,x= .ref l/\vs=[.int i]/\H l=some (.lst xs)/\ -(2^63)<=i/\i<2^63/\seqIndex? i xs.length=some k/\xs[k]?=some y/\Q y (upd H l (.lst (xs.eraseIdx k)))
theorem UM:MtM X "list.pop" FE:=by
 intro pins s σ H x vs v us Q I rx rv h
 obtain⟨l,xs,i,k,y,rfl,rfl,hH,h1,h2,hk,hy,q⟩:=h
 cases rx
 obtain⟨u,rfl,ru⟩:=rv.one
 obtain⟨t,rfl⟩:=ru
 obtain⟨z,its,n,r,hl,e⟩:=I.lstM hH
 obtain⟨w,hw,rw'⟩:=r.get hy
 refine call_meets F.slot_list_pop ⟨_,e,rfl⟩ F.entry_list_pop (F.args_list_pop_2 _ _)
  (MeetsSeq.list_pop_at l its.toArray n i t k w (fitsIndex_both h1 h2) (by rw[List.size_toArray, ←hl];exact hk) (by rw[←Array.getElem?_toList];exact hw) (by rw[List.size_toArray];lia)) ⟨e,?_⟩
 refine⟨y,_,I.lset (its':=its.eraseIdx k) hH e ?_ (r.eraseIdx k) ?_,rw',q⟩
 ·show its.toArray.eraseIdxIfInBounds k=(its.eraseIdx k).toArray
  rw[List.eraseIdxIfInBounds_toArray]
 ·have:=Kd xs k
  lia
noncomputable def Nh:R2:=λx y H Q=>∃ l b xs zs,x= .ref l/\y= .ref b/\H l=some (.lst xs)/\H b=some (.lst zs)/\xs.length+zs.length<=sizeLine/\∀p,H p=none->Q (.ref p) (upd H p (.lst (xs++zs)))
theorem Uc:OpR X (binaryOp .Add) Nh:=by
 intro pins s σ H x y v u Q I rx ry h
 obtain⟨l,b,xs,zs,rfl,rfl,hH,hB,hz,q⟩:=h
 cases rx
 cases ry
 obtain⟨z,its,n,r,hl,e⟩:=I.lstM hH
 obtain⟨z2,its2,n2,r2,hl2,e2⟩:=I.lstM hB
 refine PySem.P.add_list e e2 ?_ (by rw[List.size_toArray,List.size_toArray];lia)
 have ea:its.toArray++its2.toArray=(its++its2).toArray:=by simp
 rw[ea]
 exact⟨.ref _,_,I.lnew (t':=s.toks) (r.append r2) (by rw[List.length_append];lia),rfl,q _ I.fresh⟩
noncomputable def Nf:R2:=λx y H Q=>∃ l k xs,x= .ref l/\y= .int k/\H l=some (.lst xs)/\ -(2^63)<=k/\k<2^63/\xs.length*k.toNat<=sizeLine/\
 ∀p,H p=none->Q (.ref p) (upd H p (.lst (List.replicate k.toNat xs).flatten))
theorem HV {α:Type}(xs:List α)(k:Nat):(List.replicate k xs).flatten.length=k*xs.length:=by
 induction k with
 |zero=>simp
 |succ k ih=>rw[List.replicate_succ,List.flatten_cons,List.length_append,ih,Nat.succ_mul,Nat.add_comm]
theorem GY:OpR X (binaryOp .Mult) Nf:=by
 intro pins s σ H x y v u Q I rx ry h
 obtain⟨l,k,xs,rfl,rfl,hH,h1,h2,hz,q⟩:=h
 cases rx
 obtain⟨t,rfl⟩:=ry
 obtain⟨z,its,n,r,hl,e⟩:=I.lstM hH
 have hlen:its.toArray.size*k.toNat<=sizeLine:=by rw[List.size_toArray, ←hl];exact hz
 have hcap:¬its.toArray.size*k.toNat > (2^63-1)/8:=by
  have:(sizeLine:Nat)<=(2^63-1)/8:=by decide
  lia
 have hfit:¬(!Builtin.List.listFitsIndex k)=true:=by
  rw[fitsIndex_both h1 h2]
  exact Bool.false_ne_true
 have hlong:¬Builtin.List.listTooLong (its.toArray.size*k.toNat)=true:=by
  rw[GW hlen]
  exact Bool.false_ne_true
 have hnew:List.foldl (λx1 x2=>x1++x2) #[] (List.replicate (if its.toArray.isEmpty=true then 0 else k.toNat) its.toArray)=(List.replicate k.toNat its).flatten.toArray:=by
  have f0:∀m:Nat,List.foldl (λx1 x2=>x1++x2) #[] (List.replicate m its.toArray)=(List.replicate m its).flatten.toArray:=λm=>by
   have:=U8 its m []
   rw[List.nil_append] at this
   exact this
  rw[f0]
  cases its with
  |nil=>simp
  |cons a r'=>rw[if_neg (by simp)]
 refine wpAny_binaryOp_repeat_ref (T:="list") (U:="int") (by decide) ⟨_,e,rfl⟩ (λs'=>typeIs_int s' k t) noFill_list_mul F.fills_int_mul F.slot_int_rmul repeat_list F.slot_int_index.lookup
  (call_meets F.slot_int_rmul (typeIs_int s k t) F.entry_int_rmul (F.args_int_rmul_2 _ _) (int___rmul___int_list k t l its.toArray n)
   ⟨e,rfl,⟨_,e,rfl⟩,call_meets F.slot_list_mul ⟨_,e,rfl⟩ F.entry_list_mul (F.args_list_mul_2 _ _) (AutoListH.list___mul___list_int_3 l its.toArray n k t hfit hcap hlong) ⟨e,?_⟩⟩)
 rw[hnew]
 exact⟨.ref _,_,I.lnew (t':=s.toks) (r.rep k.toNat) (by rw[HV,Nat.mul_comm];exact hz),rfl,q _ I.fresh⟩
end
section
variable {prog:Program}{w:World}{A:Around}{E:Value->Shared->Prop}{s:Shared}
end
section
variable {X:Cx}
end
end L2
namespace Att
open PySem PySem.W PySem.Calls PyProof.Rows
theorem Vn {P:Params}{h:Heap}:∀(ns:List Int) (vs:List Value),WellAll P h vs (ns.map WData.int)->IntsAre vs ns:=by
 intro ns
 induction ns with
 |nil=>
  intro vs w
  rw[List.map_nil] at w
  cases w
  exact .nil
 |cons n ns ih=>
  intro vs w
  rw[List.map_cons] at w
  cases w with
  |cons a b=>
   cases a
   exact .cons _ _ (ih _ b)
theorem BJ {l:OpenLaw}{n:Nat}(hn:l.most=some n){P:Params}{h:Heap}{args:List WData}{vals:List Value}
  (hpre:l.row.toRowW.claim.pre args=true)(hwl:WellAll P h vals args):
  ∃a vs ns,vals=[Value.ref a]/\args=[WData.list (ns.map WData.int)]/\h.get? a=some {cls:=.type "list",data:=.seq vs.toArray}/\IntsAre vs ns/\ns.length<=n:=by
 have hsh:WShape.hasAll [] args [.list .int]=true:=(pre_splitW hpre).1
 have hc:l.pre.holds [] {args:=args}=true:=(pre_splitW hpre).2
 obtain⟨d,r,rfl,h1,h2⟩:=hasAllW_cons hsh
 obtain rfl:=hasAllW_nil h2
 obtain⟨xs,rfl,h3⟩:=hasW_list h1
 obtain⟨ns,rfl⟩:=items_int h3
 have hlen:ns.length<=n:=by
  unfold OpenLaw.pre at hc
  have h4:(WTm.not (.lt (.lit (.int (n:Int))) (.len (.arg 0)))).holds [] {args:=[.list (ns.map .int)]}=true:=by
   have h4:=(holds_andW hc).1
   rw[hn] at h4
   exact h4
  have h5:=condW_of h4 (w_not (w_lt w_lit (w_len_list (w_arg rfl))))
  rw[List.length_map] at h5
  refine Nat.le_of_not_lt λq=>?_
  have q':(n:Int)<((ns.length:Nat):Int):=by lia
  first
   | (rw[decide_eq_true q'] at h5;exact absurd h5 (by decide))
   | (simp at h5;lia)
 cases hwl with
 |cons w1 w2=>
  cases w2
  cases w1 with
  |list ho hall=>exact⟨_,_,ns,rfl,rfl,ho,Vn ns _ hall,hlen⟩
theorem Cm (l:OpenLaw)(args:List WData):l.row.toRowW.claim.post args (.bool true) args=true:=
 postW_of (r:=l.row.toRowW) (X:=(true==true))
  (show WShape.has [] (.bool true) .bool=true by first |rfl |decide |simp[WShape.has,WShape.arms,WShape.armsAll])
  (show(WTm.eq .res (.lit (.bool true))).value [] {args:=args,res:=some (.bool true),after:=args}=some (.bool (true==true)) from w_eq_bool (w_res rfl) w_lit) rfl
theorem attach_call {l:OpenLaw}{n:Nat}{q:Program}{loose:List Str}{XP:(Str->Option Value)->Heap->Prop}{YP:World->Heap->Prop}{d:DefRec}
  (hn:l.most=some n)(hdf:d.params.defaults=[])
  (call:∀(w:World) (s₀ s₁:Shared) (mg mb:Str->Option Value) (fa:Addr) (o:Obj) (pm cd doc:Value) (a:Addr) (vs:List Value) (ns:List Int),
   Ground q loose [] XP w s₀ mg mb s₁.heap->YP w s₁.heap->
   s₁.heap.get? fa=some o->o.data= .func (docDef d.name d.params d.body d.scope pm cd doc)->s₁.heap.CodeRec cd d.name->mg d.name=some (.ref fa)->
   s₁.heap.get? a=some {cls:=.type "list",data:=.seq vs.toArray}->IntsAre vs ns->ns.length<=n->s₁.gens= #[]->
   codeAny (model l.prog w) callerA (.call (.ref fa) ⟨[.ref a],[]⟩) (λr s'=>r= .ok (.ret (.bool true))/\OldK s₁.heap s'.heap/\s'.os=s₁.os/\AllBare s'.gens) s₁):
  WalkO q loose XP YP l.row.toRowW d [] (λf vs=>PySem.call f vs):=by
 intro w s₀ s₁ mg mb G Y fa o pm cd doc dV kV ho hd hcd hD hmg hg args vals as hpre hlay hrd hwl hlo
 obtain rfl:dV= .none:=Dflts.none hD hdf
 obtain rfl:kV= .none:=Dflts.noKw hD
 obtain⟨a,vs,ns,rfl,rfl,hobj,hints,hlen⟩:=BJ hn hpre hwl
 refine enter_call (codeAny_mono (call w s₀ s₁ mg mb fa o pm cd doc a vs ns G Y ho (fd_plain hd) hcd hmg hobj hints hlen hg) λr s' hq=>?_)
 obtain⟨rfl,h2,h3,h4⟩:=hq
 exact⟨.inl ⟨.bool true, .bool true,[],rfl,λ_=>rfl, .bool true,Cm l _,λ_=>⟨List.Pairwise.nil,λ_ hm=>(nomatch hm)⟩⟩,h2,h3,h4⟩
section
variable {prog:Program}{w:World}{A:Around}{E:Value->Shared->Prop}{s:Shared}{K:Frag}
end
end Att
namespace L2
open PySem PySem.Spec PyProof.Rows
theorem BP:∀{vs:List Value}{ns:List Int},IntsAre vs ns->Yu (ns.map V.int) vs:=λp=>by
 induction p with
 |nil=>exact .nil
 |cons n t _ ih=>exact .cons ⟨t,rfl⟩ ih
noncomputable def MZ (H:Hp):Prop:=∀ b,H b=none∨∃o xs,H b=some (.frz o (.lst xs))
theorem Ei {P:Program}{w:World}{K:PySem.W.Frag}{mg mb:Str->Option Value}{CX:CXT}{k:Nat}{fa a:Addr}{fd:FuncData}{x:Str}{sp:Sp}{s₁:Shared}{vs:List Value}{ns:List Int}
  (KX:K.In s₁.heap)(hns:s₁.heap.Ns mainGlobals mg)(hb:s₁.heap.Ns builtinsNs mb)(hbb:∀x:Str,x≠ "__name__" ->mb x=bootBuiltins x)(hlim:s₁.heap.NoLimit)(hg:s₁.gens= #[])
  (ha:s₁.heap.get? a=some {cls:=.type "list",data:=.seq vs.toArray})(hi:IntsAre vs ns)(hl:ns.length<=sizeLine)(hr:Room k callerA)
  (F:∀base:Heap,K.In base->base.Ns mainGlobals mg->FnOk P w K mg base CX k fa fd [x] sp)(hbind:∀(s:Shared) (u:Value),BindsTo s fd ⟨[u],[]⟩ [(x,u)])
  (hsp:∀H:Hp,MZ H->SqL K H a (ns.map V.int)->sp [.ref a] H (λv _=>v= .bl true) λ_ _ _=>False)
  (hCX:∀H e s',CX [] H s₁ (λ_ _ _=>False) e s'->False):
  codeAny (model P w) callerA (.call (.ref fa) ⟨[.ref a],[]⟩) (λr s'=>r= .ok (.ret (.bool true))/\OldK s₁.heap s'.heap/\s'.os=s₁.os/\AllBare s'.gens) s₁:=by
 have rv:=BP hi
 have lenV:=hi.length
 -- from an abstract heap in which nothing but the script may be tracked
 have core:∀H:Hp,MZ H->SqL K H a (ns.map V.int)->HOk P w H s₁.heap->(∀b,H b≠none->b=a)->(H a≠none->K.lookup a=none)->
   codeAny (model P w) callerA (.call (.ref fa) ⟨[.ref a],[]⟩) (λr s'=>r= .ok (.ret (.bool true))/\OldK s₁.heap s'.heap/\s'.os=s₁.os/\AllBare s'.gens) s₁:=by
  intro H hO hS hok hA hK
  have base_of:∀{b:Addr}{o:Obj},s₁.heap.get? b=some o->H b=none->(Eu s₁.heap H).get? b=some o:=λe n=>EJ e n
  have noA:∀{b:Addr}{o:Obj}{es:Array DictEntry}{ep:Nat},s₁.heap.get? b=some o->o.data= .dict es ep->H b=none:=fun {b o es ep} e d=>by
   cases q:H b with
   |none=>rfl
   |some u=>
    have e':b=a:=hA b (by rw[q];simp)
    subst e'
    rw[ha] at e;cases e
    have d':Data.seq vs.toArray _=Data.dict es ep:=d
    cases d'
  have nsK:∀{b:Addr}{m:Str->Option Value},s₁.heap.Ns b m->(Eu s₁.heap H).Ns b m:=fun {b m} ⟨o,es,ep,e,d,r⟩=>⟨o,es,ep,base_of e (noA e d),d,r⟩
  have hKb:K.In (Eu s₁.heap H):=λb o e=>base_of (KX b o e) (by
   cases q:H b with
   |none=>rfl
   |some u=>
    have e':b=a:=hA b (by rw[q];simp)
    subst e'
    rw[hK (by rw[q];simp)] at e;cases e)
  have hM:Mod K mg (Eu s₁.heap H):=⟨hKb,nsK hns,⟨mb,nsK hb,hbb⟩,let ⟨mc,h1,h2⟩:=hlim;⟨mc,nsK h1,h2⟩⟩
  have e0:Env0 P w K mg (Eu s₁.heap H) callerA [] s₁ H:=⟨rfl,hM,λb o e=>IT e,Nat.le_of_eq (C8 _ _),trivial,λb hb=>absurd (show b∈([]:List Addr) from hb) (by simp),hok, .of_eq hg⟩
  refine codeAny_mono ((F _ hKb (nsK hns)).run callerA [] s₁ H ⟨[.ref a],[]⟩ [.ref a] [.ref a] _ _ hr e0 (hbind s₁ (.ref a)) (.cons rfl .nil) (hsp H hO hS)) λr s' h=>?_
  cases r with
  |error e=>exact(hCX H e s' h).elim
  |ok fl=>
   cases fl with
   |next=>exact False.elim h
   |brk=>exact False.elim h
   |cont=>exact False.elim h
   |ret u=>
    obtain⟨v,H',os,bare,un,hok',r',q⟩:=h
    have q':v= .bl true:=q
    subst q'
    obtain rfl:u=Value.bool true:=r'
    refine⟨rfl,OldK.of_keep λb o e=>?_,os,bare⟩
    cases q:H b with
    |none=>exact un.keep b o e q (by intro z;exact absurd (show b∈([]:List Addr) from z) (by simp)) (by simp)
    |some u=>
     rcases hO b with z | ⟨ob,xs,z⟩
     ·rw[q] at z;cases z
     ·have z2:=un.frzs b ob _ z
      obtain⟨e1,_⟩:=hok b _ z
      obtain⟨e2,_⟩:=hok' b _ z2
      rw[e] at e1;cases e1
      exact e2
 cases hk:K.lookup a with
 |some o=>
  -- the script is one of the module's own objects
  have e:=KX a o hk
  rw[ha] at e
  cases e
  refine core (λ_=>none) (λ_=>.inl rfl) (.inr ⟨_,vs.toArray,_,hk,rfl,rfl,rfl,by rw[List.size_toArray,lenV];exact hl,by simpa using rv⟩) (λb u z=>by have z':(none:Option HO)=some u:=z;cases z') (λb z=>absurd rfl z) λz=>absurd rfl z
 |none=>
  refine core (λb=>if b=a then some (.frz {cls:=.type "list",data:=.seq vs.toArray} (.lst (ns.map V.int))) else none) (λb=>?_) (.inl (.inr ⟨{cls:=.type "list",data:=.seq vs.toArray},if_pos rfl⟩)) (λb u z=>?_) (λb z=>?_) λ_=>hk
  ·by_cases hb:b=a
   ·exact .inr ⟨_,_,if_pos hb⟩
   ·exact .inl (if_neg hb)
  ·by_cases hb:b=a
   ·have z':=(if_pos hb).symm.trans z
    cases z'
    subst hb
    exact⟨ha,by rw[List.length_map];exact hl,vs,_,rv,ha⟩
   ·have z':=(if_neg hb).symm.trans z
    cases z'
  ·by_cases hb:b=a
   ·exact hb
   ·exact absurd (if_neg hb) z
theorem Is {l:PySem.W.OpenLaw}{n k:Nat}{q:Program}{loose:List Str}{XP:(Str->Option Value)->Heap->Prop}{YP:World->Heap->Prop}{d:DefRec}{K:Params->PySem.W.Frag}{CX:World->CXT}{sp:World->Sp}{x:Str}
  (hn:l.most=some n)(hn2:n<=sizeLine)(hdf:d.params.defaults=[])(hr:Room k callerA)
  (hY:∀(w:World) (h:Heap),YP w h->(K w.params).In h)
  (F:∀(w:World) (mg:Str->Option Value) (fa:Addr) (h:Heap),(K w.params).In h->h.Ns mainGlobals mg->mg d.name=some (.ref fa)->
   ∃fd:FuncData,(∀(s:Shared) (u:Value),BindsTo s fd ⟨[u],[]⟩ [(x,u)])/\
    ∀base:Heap,(K w.params).In base->base.Ns mainGlobals mg->FnOk l.prog w (K w.params) mg base (CX w) k fa fd [x] (sp w))
  (hsp:∀(w:World) (H:Hp) (a:Addr) (ns:List Int),ns.length<=n->MZ H->SqL (K w.params) H a (ns.map V.int)->sp w [.ref a] H (λv _=>v= .bl true) λ_ _ _=>False)
  (hCX:∀(w:World) (H:Hp) (s:Shared) (e:Value) (s':Shared),CX w [] H s (λ_ _ _=>False) e s'->False):
  PySem.W.WalkO q loose XP YP l.row.toRowW d [] (λf vs=>PySem.call f vs):=by
 refine Att.attach_call hn hdf λw s₀ s₁ mg mb fa o pm cd doc a vs ns G Y ho hd hcd hmg hobj hints hlen hg=>?_
 have KX:=hY w _ Y
 obtain⟨fd,hb,hF⟩:=F w mg fa _ KX G.T.g hmg
 exact Ei KX G.T.g G.T.b G.T.builtins G.T.nolimit hg hobj hints (Nat.le_trans hlen hn2) hr hF hb (λH hO hS=>hsp w H a ns hlen hO hS) λH e s'=>hCX w H s₁ e s'
noncomputable def YZ (s:Stmt):Arguments:=match s with
 | .FunctionDef _ a _ _ _ _ _ _ _ _=>a
 |_=>{posonlyargs:=[],args:=[],vararg:=none,kwonlyargs:=[],kw_defaults:=[],kwarg:=none,defaults:=[]}
noncomputable def YK (s:Stmt):List Stmt:=match s with
 | .FunctionDef _ _ b _ _ _ _ _ _ _=>b
 |_=>[]
noncomputable def Xi (s:Stmt):Scope:=match s with
 | .FunctionDef _ _ _ _ _ _ sc _ _ _=>sc
 |_=>{kind:=.function,names:=[],isGenerator:=false,isCoroutine:=false}
noncomputable abbrev CX0:CXT:=λ_ _ _ _ _ _=>False
noncomputable abbrev E0:XK:=λ_ _ _=>False
theorem MU {X:Cx}:BY CX0 X E0:=λ_ _ _ _ _ _ _ h=>h.elim
structure Fun (K:PySem.W.Frag)(x qual:Str)(st:Stmt)(f:Addr)(fd:FuncData):Prop where
 ex:∃(oc:Value) (od:Option Addr) (kV doc pm:Value) (an:Option Addr) (cdv ct:Value) (osl:Array (Option Value)),
  fd=PySem.W.fnOf x qual (YZ st) (YK st) (Xi st) .none kV doc pm an cdv ct/\K.lookup f=some ⟨oc,od, .func fd,osl⟩/\PySem.W.codeIn K cdv qual=true
 kp:PySem.W.keepIn K (.ref f)=true
section
variable {P:Program}{w:World}{K:PySem.W.Frag}{mg:Str->Option Value}{base:Heap}
theorem Fun.ok {x qual:Str}{st:Stmt}{f:Addr}{fd:FuncData}{N ps:List Str}{k:Nat}{sp:Sp}(F:Fun K x qual st f fd)(S:FnScope N ps (Xi st))(len:∀vs H Q E,sp vs H Q E->vs.length=ps.length)
  (hbody:∀(cdv:Value) (A:Around) (outer:List Env) (s:Shared) (H:Hp) (vs:List V) (Q:VK) (E:XK),Room k (A.deeper (envOfC qual (Xi st) s.heap.objs.size f cdv))->sp vs H Q E->
   ∃t,PSs (Ig CX0 P w K mg base N qual (Xi st) f cdv A outer s H E).nox (YK st) t/\t {nx:=λ_ H'=>Q .non H',rt:=Q} (UB N vs) H):FnOk P w K mg base CX0 (k+1) f fd ps sp:=by
 obtain⟨oc,od,kV,doc,pm,an,cdv,ct,osl,rfl,lk,hcd⟩:=F.ex
 refine MX lk hcd S len λA outer s H vs Q E hr hsp=>?_
 obtain⟨t,h,q⟩:=hbody cdv A outer s H vs Q E hr hsp
 exact⟨t,h.nox,q⟩
theorem Fun.binds {x qual:Str}{st:Stmt}{f:Addr}{fd:FuncData}{ps:List Str}(F:Fun K x qual st f fd)
  (h:∀(kV doc pm:Value) (an:Option Addr) (cdv ct:Value) (us:List Value),us.length=ps.length->bindArgs (PySem.W.fnOf x qual (YZ st) (YK st) (Xi st) .none kV doc pm an cdv ct) ⟨us,[]⟩=pure (ps.zip us)):GC K fd ps []:=by
 obtain⟨oc,od,kV,doc,pm,an,cdv,ct,osl,rfl,lk,hcd⟩:=F.ex
 exact .all (h kV doc pm an cdv ct)
theorem Qt {x qual:Str}{st:Stmt}{f:Addr}{oc:Value}{od an:Option Addr}{osl:Array (Option Value)}{kV doc pm cdv ct:Value}(l:K.lookup f=some ⟨oc,od, .func (PySem.W.fnOf x qual (YZ st) (YK st) (Xi st) .none kV doc pm an cdv ct),osl⟩)
  (c:PySem.W.codeIn K cdv qual=true)(k:PySem.W.keepIn K (.ref f)=true):Fun K x qual st f (PySem.W.fnOf x qual (YZ st) (YK st) (Xi st) .none kV doc pm an cdv ct):=⟨⟨oc,od,kV,doc,pm,an,cdv,ct,osl,rfl,l,c⟩,k⟩
end
theorem Yr {A:Around}{k:Nat}(hr:Room k A):A.units+1<cLine:=Nat.lt_of_le_of_lt (Nat.add_le_add_left (by decide:1<=64) _) hr.units
theorem CB {n:Nat}(h:n<=1000):n<sizeLine:=Nat.lt_of_le_of_lt h (by decide)
section
variable {X:Cx}
theorem pv (i:Nat){x:Str}{pos:Pos}(hN:X.N[i]?=some x:=by rfl)(hv:Vis X.env.scope x:=by first |exact Or.inl rfl |exact Or.inr (Or.inl rfl) |exact Or.inr (Or.inr rfl))(hd:(x==("__debug__":Str))=false:=by decide)
  (hcd:(x==("__classdict__":Str))=false:=by decide):PE X (.Name x pos) (K7 i):=LS hN hv hd hcd
end
noncomputable def XJ (H H':Hp):Prop:=∀ b o,H b=some o->H' b=some o
theorem XJ.refl (H:Hp):XJ H H:=λ_ _ h=>h
theorem XJ.trans {H H1 H2:Hp}(a:XJ H H1)(b:XJ H1 H2):XJ H H2:=λc o h=>b c o (a c o h)
theorem XJ.seq {K:PySem.W.Frag}{H H':Hp}{a:Addr}{xs:List V}(e:XJ H H')(h:SqL K H a xs):SqL K H' a xs:=by
 rcases h with(h | ⟨o,h⟩) |h
 ·exact .inl (.inl (e _ _ h))
 ·exact .inl (.inr ⟨o,e _ _ h⟩)
 ·exact .inr h
section
variable {κ:Type}[DecidableEq κ]
noncomputable def DA (kvs:List (κ×V))(k:κ):Option V:=(kvs.find? λkv=>decide (kv.1=k)).map (·.2)
noncomputable def K8 (kvs:List (κ×V))(k:κ)(v:V):List (κ×V):=
 if(kvs.any λkv=>decide (kv.1=k))=true then kvs.map (λkv=>if kv.1=k then(kv.1,v) else kv) else kvs++[(k,v)]
theorem JV {p:κ×V}{r:List (κ×V)}{k:κ}(e:p.1=k):DA (p::r) k=some p.2:=by simp[DA,List.find?_cons,e]
theorem J8 {p:κ×V}{r:List (κ×V)}{k:κ}(e:¬p.1=k):DA (p::r) k=DA r k:=by simp[DA,List.find?_cons,e]
theorem Fx (k:κ):∀kvs:List (κ×V),(kvs.any λkv=>decide (kv.1=k))=(DA kvs k).isSome
 | []=>rfl
 |p::r=>by
  rw[List.any_cons]
  by_cases e:p.1=k
  ·simp only[JV e,decide_eq_true e,Bool.true_or,Option.isSome_some]
  ·rw[J8 e,decide_eq_false e,Bool.false_or];exact Fx k r
theorem VJ (kvs:List (κ×V))(k:κ)(v:V):(K8 kvs k v).length<=kvs.length+1:=by
 unfold K8
 split
 ·rw[List.length_map];lia
 ·rw[List.length_append,List.length_cons,List.length_nil];lia
theorem DX.isSome_eq {o:Option V}{u:Option Value}(r:DX o u):o.isSome=u.isSome:=by
 cases o with
 |none=>cases u with
  |none=>rfl
  |some _=>exact(show False from r).elim
 |some _=>cases u with
  |none=>exact(show False from r).elim
  |some _=>rfl
theorem KV.val {kvs:List (κ×V)}{vs:List (κ×Value)}(r:KV kvs vs)(k:κ):DX (DA kvs k) (valueAt vs k):=by
 unfold KV at r
 induction r with
 |nil=>exact True.intro
 | @cons p q ps qs h t ih=>
  obtain⟨h1,h2⟩:=h
  by_cases e:p.1=k
  ·have e':q.1=k:=h1.symm.trans e
   have b:valueAt (q::qs) k=some q.2:=by simp[valueAt,List.find?_cons,e']
   rw[JV e,b];exact h2
  ·have e':¬q.1=k:=λz=>e (h1.trans z)
   have b:valueAt (q::qs) k=valueAt qs k:=by simp[valueAt,List.find?_cons,e']
   rw[J8 e,b];exact ih
theorem KV.any {kvs:List (κ×V)}{vs:List (κ×Value)}(r:KV kvs vs)(k:κ):(kvs.any λkv=>decide (kv.1=k))=vs.any λkv=>decide (kv.1=k):=by
 unfold KV at r
 induction r with
 |nil=>rfl
 |cons h t ih=>rw[List.any_cons,List.any_cons,ih,h.1]
theorem KV.repl {kvs:List (κ×V)}{vs:List (κ×Value)}(r:KV kvs vs)(k:κ){y:V}{u:Value}(ry:YJ y u):
  KV (kvs.map λkv=>if kv.1=k then(kv.1,y) else kv) (vs.map λkv=>if kv.1=k then(kv.1,u) else kv):=by
 unfold KV at r⊢
 induction r with
 |nil=>exact .nil
 | @cons p q ps qs h t ih=>
  rw[List.map_cons,List.map_cons]
  refine .cons ?_ ih
  obtain⟨h1,h2⟩:=h
  by_cases e:p.1=k
  ·rw[if_pos e,if_pos (h1.symm.trans e)];exact⟨h1,ry⟩
  ·rw[if_neg e,if_neg (λz=>e (h1.trans z))];exact⟨h1,h2⟩
theorem KV.put {kvs:List (κ×V)}{vs:List (κ×Value)}(r:KV kvs vs)(k:κ){y:V}{u:Value}(ry:YJ y u):KV (K8 kvs k y) (stored vs k u):=by
 unfold K8 stored
 rw[r.any k]
 by_cases e:(vs.any λkv=>decide (kv.1=k))=true
 ·rw[if_pos e,if_pos e];exact r.repl k ry
 ·rw[if_neg e,if_neg e];exact Paired.snoc r ⟨rfl,ry⟩
theorem KV.length {kvs:List (κ×V)}{vs:List (κ×Value)}(r:KV kvs vs):kvs.length=vs.length:=Paired.length r
end
theorem Li {P:Program}{w:World}{k:Key}{u:Value}(r:YJ (kV k) u):(Zi P w).is k u=true:=by
 cases k with
 |inl i=>obtain⟨t,e⟩:=(show ∃t,u=Value.int i t from r);subst e;exact GI P w i t
 |inr x=>obtain⟨t,e⟩:=(show ∃t,u=Value.str x t from r);subst e;exact Gb P w x t
theorem Kg {P:Program}{w:World}:∀{ks:List Key}{us:List Value},Yu (ks.map kV) us->ItemsAre (Zi P w) ks us
 | [],_,r=>by rw[List.map_nil] at r;cases r;exact .nil
 |k::ks,_,r=>by
  rw[List.map_cons] at r
  cases r with
  |cons h t=>exact .cons (Li h) (Kg t)
noncomputable abbrev KT (H:Hp):List (List Key×V)->List (List Key×Addr×Value)->Prop:=Paired λp q=>p.1=q.1/\H q.2.1=some (.tup (p.1.map kV))/\YJ p.2 q.2.2
theorem KT.val {H:Hp}{kvs:List (List Key×V)}{xs:List (List Key×Addr×Value)}(r:KT H kvs xs)(k:List Key):DX (DA kvs k) ((atKey xs k).map (·.2)):=by
 induction r with
 |nil=>exact True.intro
 | @cons p q ps qs h t ih=>
  obtain⟨h1,_,h2⟩:=h
  by_cases e:p.1=k
  ·have e':q.1=k:=h1.symm.trans e
   have b:atKey (q::qs) k=some q.2:=by simp[atKey,List.find?_cons,e']
   rw[JV e,b];exact h2
  ·have e':¬q.1=k:=λz=>e (h1.trans z)
   have b:atKey (q::qs) k=atKey qs k:=by simp[atKey,List.find?_cons,e']
   rw[J8 e,b];exact ih
theorem KT.repl {H:Hp}{kvs:List (List Key×V)}{xs:List (List Key×Addr×Value)}(r:KT H kvs xs)(k:List Key){y:V}{u:Value}(ry:YJ y u):
  KT H (kvs.map λkv=>if kv.1=k then(kv.1,y) else kv) (xs.map (putAt k u)):=by
 induction r with
 |nil=>exact .nil
 | @cons p q ps qs h t ih=>
  rw[List.map_cons,List.map_cons]
  refine .cons ?_ ih
  obtain⟨h1,h2,h3⟩:=h
  unfold putAt
  by_cases e:p.1=k
  ·rw[if_pos e,if_pos (h1.symm.trans e)];exact⟨h1,h2,ry⟩
  ·rw[if_neg e,if_neg (λz=>e (h1.trans z))];exact⟨h1,h2,h3⟩
theorem KT.put {H:Hp}{kvs:List (List Key×V)}{xs:List (List Key×Addr×Value)}(r:KT H kvs xs)(k:List Key){b:Addr}{y:V}{u:Value}(hb:H b=some (.tup (k.map kV)))(ry:YJ y u):
  KT H (K8 kvs k y) (storedH xs k b u):=by
 have e:(kvs.any λkv=>decide (kv.1=k))=(atKey xs k).isSome:=by
  rw[Fx,(r.val k).isSome_eq,Option.isSome_map]
 unfold K8 storedH
 rw[e]
 by_cases q:(atKey xs k).isSome=true
 ·rw[if_pos q,if_pos q];exact r.repl k ry
 ·rw[if_neg q,if_neg q];exact Paired.snoc r ⟨rfl,hb,ry⟩
theorem KT.keeps {H H':Hp}{kvs:List (List Key×V)}{xs:List (List Key×Addr×Value)}(r:KT H kvs xs)(ht:∀b ys,H b=some (.tup ys)->H' b=some (.tup ys)):KT H' kvs xs:=
 Paired.mapP r λ_ _ z=>⟨z.1,ht _ _ z.2.1,z.2.2⟩
section
variable {P:Program}{w:World}{H:Hp}{h:Heap}{a:Addr}
theorem Ly {u:HO}(ok:HOk P w H h)(e:Rd H a u):Zl P w H h a u:=e.ok ok
theorem HS {kvs:List (Key×V)}(ok:HOk P w H h)(e:Rd H a (.dK kvs)):kvs.length<=sizeLine/\(a==sysModules)=false/\∃vs,KV kvs vs/\h.DictOf (Zi P w) a vs:=
 show Zl P w H h a (.dK kvs) from Ly ok e
theorem MK {kvs:List (Key×V)}(ok:HOk P w H h)(e:H a=some (.dK kvs)):kvs.length<=sizeLine/\(a==sysModules)=false/\∃vs,KV kvs vs/\h.DictOf (Zi P w) a vs:=HS ok (.inl e)
theorem DP {ks:List Key}(ok:HOk P w H h)(e:H a=some (.tup (ks.map kV))):(tupleKind (Zi P w)).is h ks a:=by
 obtain⟨_,its,r,o,h1,h2,n,h3⟩:=(show Zl P w H h a (.tup (ks.map kV)) from ok a _ e)
 exact⟨o,its.toArray,n,h1,h2.1,h3,by simpa using Kg r⟩
theorem Lb {kvs:List (List Key×V)}(ok:HOk P w H h)(e:Rd H a (.dT kvs)):kvs.length<=sizeLine/\(a==sysModules)=false/\
  ∃xs,KT H kvs xs/\h.DictOfH (tupleKind (Zi P w)) a xs:=by
 obtain⟨z,y,xs,r,o,es,ep,h1,h2,h3,h4,h5⟩:=(show Zl P w H h a (.dT kvs) from Ly ok e)
 refine⟨z,y,xs,r,o,es,ep,h1,h2,h3,h4,λx hx=>?_,h5⟩
 have all:∀{l:List (List Key×V)}{m:List (List Key×Addr×Value)},KT H l m->∀x∈m,(tupleKind (Zi P w)).is h x.1 x.2.1:=by
  intro l m q
  induction q with
  |nil=>intro x hx;exact nomatch hx
  | @cons p q ps qs hq t ih=>
   intro x hx
   rcases List.mem_cons.mp hx with e |hx
   ·subst e
    exact DP ok (by rw[←hq.1];exact hq.2.1)
   ·exact ih x hx
 exact all r x hx
theorem MR {kvs:List (List Key×V)}(ok:HOk P w H h)(e:H a=some (.dT kvs)):kvs.length<=sizeLine/\(a==sysModules)=false/\
  ∃xs,KT H kvs xs/\h.DictOfH (tupleKind (Zi P w)) a xs:=Lb ok (.inl e)
end
noncomputable def MM (H:Hp)(a:Addr)(y:V)(r:Option V):Prop:=
 (∃kvs k,Rd H a (.dK kvs)/\y=kV k/\r=DA kvs k)∨∃kvs k b,Rd H a (.dT kvs)/\y= .ref b/\H b=some (.tup (k.map kV))/\r=DA kvs k
noncomputable def Nl (H:Hp)(a:Addr)(y v:V)(H':Hp):Prop:=
 (∃kvs k,H a=some (.dK kvs)/\y=kV k/\kvs.length<sizeLine/\H'=upd H a (.dK (K8 kvs k v)))∨
 ∃kvs k b,H a=some (.dT kvs)/\y= .ref b/\H b=some (.tup (k.map kV))/\kvs.length<sizeLine/\H'=upd H a (.dT (K8 kvs k v))
section
variable {X:Cx}{pins:List (Addr×Obj)}{σ:St}{H:Hp}{s:Shared}{a:Addr}{y v:V}{u r:Value}{o:Option V}{A:Around}{E:Value->Shared->Prop}
theorem Inv.big (I:Inv X pins σ H s):sysModules<s.heap.objs.size:=by
 have h:mainGlobals<s.heap.objs.size:=(I.mod.glob.keeps I.bk).lt
 exact Nat.lt_trans (by decide) h
theorem BZ {Q:Value->Shared->Prop}(hu:A.units+1<cLine)(I:Inv X pins σ H s)(g:MM H a y (some v))(ry:YJ y u)(h:∀w' s',Inv X pins σ H s'->YJ v w'->Q w' s'):
  wpAny (model X.prog X.w) A (getItem (.ref a) u) Q E s:=by
 rcases g with⟨kvs,k,e,ey,l⟩ | ⟨kvs,k,b,e,ey,eb,l⟩
 ·subst ey
  obtain⟨z,hd,vs,rel,dd⟩:=HS I.hok e
  obtain⟨w',hw,rw'⟩:=DX.some_of (v:=v) (o:=valueAt vs k) (by rw[l];exact rel.val k)
  exact wpAny_getItem_of (Li ry) dd.mapOf hw (h w' _ (I.tok _) rw')
 ·subst ey
  cases(show u=Value.ref b from ry)
  obtain⟨z,hd,xs,rel,dd⟩:=Lb I.hok e
  obtain⟨w',hw,rw'⟩:=DX.some_of (v:=v) (o:=(atKey xs k).map (·.2)) (by rw[l];exact rel.val k)
  obtain⟨p,hp,hp2⟩:=Option.map_eq_some_iff.mp hw
  refine wpAny_getItem_heap (tupleKind_room_in1 hu) (DP I.hok eb) dd hp ?_
  rw[hp2]
  exact h w' _ (I.tok _) rw'
theorem CU {h':Heap}{t':Nat}{ob:HO}(I:Inv X pins σ H s)(mu:Mut (H a))(hs:Heap.SameBut a s.heap h')(he:∃q,h'.get? a=some q)(new:Zl X.prog X.w (upd H a ob) h' a ob):
  Inv X pins σ (upd H a ob) {s with heap:=h',toks:=t'}:=
 I.write (x:=a) (e:=a) mu (.inl rfl) (λb q hb z=>(hs.2 b hb).trans z) he new
theorem Mc {P:Program}{w:World}{H':Hp}{h':Heap}{kvs:List (Key×V)}{vs:List (Key×Value)}(z:kvs.length<=sizeLine)(hd:(a==sysModules)=false)(rel:KV kvs vs)(dd:h'.DictOf (Zi P w) a vs):
  Zl P w H' h' a (.dK kvs):=⟨z,hd,vs,rel,dd⟩
theorem BG {H':Hp}{Q:Unit->Shared->Prop}(hu:A.units+1<cLine)(I:Inv X pins σ H s)(g:Nl H a y v H')(ry:YJ y u)(rv:YJ v r)(h:∀s',Inv X pins σ H' s'->Q () s'):
  wpAny (model X.prog X.w) A (setItem (.ref a) u r) Q E s:=by
 rcases g with⟨kvs,k,e,ey,l,eH⟩ | ⟨kvs,k,b,e,ey,eb,l,eH⟩
 ·subst ey eH
  obtain⟨z,hd,vs,rel,dd⟩:=MK I.hok e
  have hz:vs.length<=sizeLine:=by rw[←rel.length];exact z
  have hl:(K8 kvs k v).length<=sizeLine:=by have:=VJ kvs k v;lia
  refine wpAny_setItem_pairs (hsz:=hz) (Li ry) dd λh' dd' hs=>h _ ?_
  have he:∃q,h'.get? a=some q:=let ⟨q,_,_,hq,_⟩:=dd';⟨q,hq⟩
  exact CU I (by rw[e];exact True.intro) hs he (Mc hl hd (rel.put k rv) dd')
 ·subst ey eH
  cases(show u=Value.ref b from ry)
  obtain⟨z,hd,xs,rel,dd⟩:=MR I.hok e
  have hz:xs.length<=sizeLine:=by rw[←Paired.length rel];exact z
  have hl:(K8 kvs k v).length<=sizeLine:=by have:=VJ kvs k v;lia
  refine wpAny_setItem_heap (hsz:=hz) (tupleKind_room_in1 hu) (DP I.hok eb) dd λh' dd' hs=>h _ ?_
  obtain⟨q,es,ep,hq,h2,h3,h4,_,h5⟩:=dd'
  refine CU I (by rw[e];exact True.intro) hs ⟨q,hq⟩ ⟨hl,hd,_,(rel.put k eb rv).keeps λc ys ec=>?_,q,es,ep,hq,h2,h3,h4,h5⟩
  rw[XY (ML ec e (λz=>nomatch z))]
  exact ec
end
section
variable {X:Cx}{pins:List (Addr×Obj)}{σ:St}{H:Hp}{s:Shared}{a:Addr}{kvs:List (Key×V)}{k:Key}{u:Value}{A:Around}{E:Value->Shared->Prop}
end
noncomputable def Np (i:Expr):Prop:=∀ ov iv,subscripted i false ov iv=operate [ov,iv] (getItem ov iv)
theorem Iz {prog:Program}{w:World}{A:Around}{E:Value->Shared->Prop}{s:Shared}{env:Env}{value slice:Expr}{pos:Pos}{T id:String}{Q:Value->Shared->Prop}
  (hl:typeLookup (.type T) "__getitem__" =pure (some (.builtin id)))(hs:Np slice)
  (h:wpAny (model prog w) A (eval value env) (λo s₁=>wpAny (model prog w) A (eval slice env) (λi s₂=>s₂.TypeIs o T/\wpAny (model prog w) A (getItem o i) Q E s₂) E s₁) E s):
  wpAny (model prog w) A (eval (.Subscript value slice pos) env) Q E s:=by
 refine Subscript_ (wpAny_mono h (λo s₁ h₁=>wpAny_mono h₁ (λi s₂ h₂=>?_) λ_ _ x=>x) λ_ _ x=>x)
 obtain⟨hT,h₂⟩:=h₂
 unfold subscriptTail
 refine wpAny_bind ?_
 rw[getitemInPython_of_ne hT.not_modules]
 refine wpAny_bind (wpAny_specialOf hT hl ?_)
 have fin:wpAny (model prog w) A (subscripted slice false o i) (λr s₃=>wpAny (model prog w) A (letTemporaryGo value o r >>= λ_=>pure r) Q E s₃) E s₂:=by
  rw[hs o i]
  exact wpAny_operating (wpAny_mono h₂ (λr s₃ h₃=>wpAny_bind (wpAny_letTemporaryGo (wpAny_pure h₃))) λ_ _ x=>x)
 first
  |exact wpAny_pure (wpAny_bind fin)
  |exact wpAny_bind (wpAny_pure (wpAny_bind fin))
  |exact wpAny_bind fin
theorem GR {X:Cx}{pins:List (Addr×Obj)}{σ:St}{H:Hp}{s:Shared}{a:Addr}{y:V}{o:Option V}(I:Inv X pins σ H s)(g:MM H a y o):s.TypeIs (.ref a) "dict":=by
 rcases g with⟨kvs,k,e,_,_⟩ | ⟨kvs,k,b,e,_,_,_⟩
 ·obtain⟨_,_,vs,_,dd⟩:=HS I.hok e
  exact dd.typeIs
 ·obtain⟨_,_,xs,_,dd⟩:=Lb I.hok e
  exact dd.typeIs
noncomputable def Lx (td ty:TE):TE:=λσ H Q=>td σ H λx H1=>ty σ H1 λy H2=>∃ a v,x= .ref a/\MM H2 a y (some v)/\Q v H2
noncomputable def LY (td ty tv:TE):TS:=λD σ H=>tv σ H λv H1=>td σ H1 λx H2=>ty σ H2 λy H3=>∃ a H4,x= .ref a/\Nl H3 a y v H4/\D.nx σ H4
section
variable {X:Cx}{o i e value:Expr}{pos pos' tpos:Pos}{td ty tv:TE}
theorem GD (hu:X.A.units+1<cLine)(ho:PE X o td)(hi:PE X i ty)(hs:Np i):PE X (.Subscript o i pos) (Lx td ty):=by
 intro pins s σ H Q I h
 refine Iz PySem.F.slot_dict_getitem.lookup hs (thn (ho pins s σ H _ I h) λu s1 ⟨x,H1,I1,rx,q1⟩=>thn (hi pins s1 σ H1 _ I1 q1) λiv s2 r9=>?_)
 obtain⟨y,H2,I2,ry,a,v,ex,g,q2⟩:=r9
 subst ex
 obtain rfl:u=Value.ref a:=rx
 exact⟨GR I2 g,BZ hu I2 g ry λw' s3 I3 rw'=>⟨v,H2,I3,rw',q2⟩⟩
theorem HM (hu:X.A.units+1<cLine)(ho:PE X o td)(hi:PE X i ty)(hv:PE X value tv)(hs:swapsWith value (some (.Subscript o i pos')) pos.line X.env=pure false):
  PS X (.Assign [.Subscript o i pos'] value pos) (LY td ty tv):=by
 intro pins s σ H D I h
 refine wpAny_Assign_Subscript (thn (hv pins s σ H _ I h) λr s1 ⟨v,H1,I1,rv,q1⟩=>thn (ho pins s1 σ H1 _ I1 q1) λu s2 ⟨x,H2,I2,rx,q2⟩=>thn (hi pins s2 σ H2 _ I2 q2) λiv s3 r9=>?_) hs
 obtain⟨y,H3,I3,ry,a,H4,ex,g,q3⟩:=r9
 subst ex
 obtain rfl:u=Value.ref a:=rx
 exact BG hu I3 g ry rv λs4 I4=>⟨σ,H4,I4,q3⟩
end
theorem EU {P:Program}{w:World}{H:Hp}(h:Heap)(hb:sysModules<h.objs.size):Zl P w H (h.push {cls:=.type "dict",data:=.dict #[]}) h.objs.size (.dK []):=
 ⟨Nat.zero_le _,beq_eq_false_iff_ne.mpr (Ne.symm (Nat.ne_of_lt hb)),[], .nil,Heap.DictOf.new h⟩
noncomputable def Ht:TE:=λ_ H Q=>∀ p,H p=none->Q (.ref p) (upd H p (.dK []))
section
variable {X:Cx}{pos:Pos}
theorem E6:PE X (.Dict [] [] pos) Ht:=λpins s σ H Q I h=>
 wpAny_Dict_empty ⟨.ref s.heap.objs.size,_,I.laid (a:=s.heap.objs.size) (o:=.dK []) (t':=s.toks) (λ_ _ q=>Heap.get?_push_of_some _ q) (Nat.le_refl _) (EU s.heap I.big),rfl,h _ (I.hok.fresh (Nat.le_refl _))⟩
end
section
variable {X:Cx}{pins:List (Addr×Obj)}{σ:St}{H:Hp}{s:Shared}{a:Addr}{y d:V}{u r:Value}{o:Option V}{A:Around}{E:Value->Shared->Prop}
end
section
variable {X:Cx}{o e f:Expr}{apos cpos:Pos}{td ty tx:TE}
end
section
variable {X:Cx}{pins:List (Addr×Obj)}{σ:St}{H:Hp}{s:Shared}{a:Addr}{kvs:List (Key×V)}{A:Around}{E:Value->Shared->Prop}
end
section
variable {X:Cx}{pins:List (Addr×Obj)}{σ:St}{H:Hp}{s:Shared}{a:Addr}{y:V}{u:Value}{A:Around}{E:Value->Shared->Prop}
end
section
variable {X:Cx}
end
section
variable {κ:Type}[DecidableEq κ]
end
theorem CZ {env:Env}:∀(names:List (Str×NameKind)),(∀x∈names,x.2=NameKind.free->∃c,env.cells.lookup x.1=some c)->
  ∀cs:List (Str×Addr),(∀x c,cs.lookup x=some c->env.cells.lookup x=some c)->
  ∃cl:List (Str×Addr),(forIn names cs (λ(x:Str×NameKind) (r:List (Str×Addr))=>(if(x.2==NameKind.free)=true then do let a ←cellOf env x.1;pure (ForInStep.yield ((x.1,a)::r)) else pure (ForInStep.yield r):Sem (ForInStep (List (Str×Addr))))))=(pure cl:Sem (List (Str×Addr)))/\
   (∀x c,cl.lookup x=some c->env.cells.lookup x=some c)/\(∀x,((x,NameKind.free)∈names∨∃c,cs.lookup x=some c)->∃c,cl.lookup x=some c)
 | [],_,cs,hs=>⟨cs,by rw[List.forIn_nil],hs,λx h=>h.elim (λz=>nomatch z) id⟩
 | (n,k)::r,hf,cs,hs=>by
  have hr:∀x∈r,x.2=NameKind.free->∃c,env.cells.lookup x.1=some c:=λx hx=>hf x (List.mem_cons_of_mem _ hx)
  by_cases hk:k=NameKind.free
  ·subst hk
   obtain⟨a,ha⟩:=hf (n,NameKind.free) List.mem_cons_self rfl
   have hs':∀x c,((n,a)::cs).lookup x=some c->env.cells.lookup x=some c:=λx c h=>by
    rw[List.lookup_cons] at h
    by_cases hx:x=n
    ·subst hx
     simp only[beq_self_eq_true] at h
     rw[←h];exact ha
    ·have:(x==n)=false:=beq_eq_false_iff_ne.mpr hx
     rw[this] at h
     exact hs x c h
   obtain⟨cl,e,h1,h2⟩:=CZ r hr ((n,a)::cs) hs'
   refine⟨cl,?_,h1,λx h=>h2 x ?_⟩
   ·rw[List.forIn_cons]
    have e1:cellOf env n=pure a:=by unfold cellOf;rw[show env.cells.lookup n=some a from ha]
    simp only[beq_self_eq_true,if_true,e1]
    exact e
   ·rcases h with h | ⟨c,h⟩
    ·rcases List.mem_cons.mp h with h |h
     ·have:x=n:=congrArg Prod.fst h
      subst this
      exact .inr ⟨a,by rw[List.lookup_cons];simp⟩
     ·exact .inl h
    ·by_cases hx:x=n
     ·subst hx;exact .inr ⟨a,by rw[List.lookup_cons];simp⟩
     ·exact .inr ⟨c,by rw[List.lookup_cons,beq_eq_false_iff_ne.mpr hx];exact h⟩
  ·obtain⟨cl,e,h1,h2⟩:=CZ r hr cs hs
   refine⟨cl,?_,h1,λx h=>h2 x ?_⟩
   ·rw[List.forIn_cons]
    have hb:(k==NameKind.free)=false:=by simpa using hk
    simp only[hb,Bool.false_eq_true,if_false]
    exact e
   ·rcases h with h |h
    ·rcases List.mem_cons.mp h with h |h
     ·exact absurd (congrArg Prod.snd h).symm hk
     ·exact .inl h
    ·exact .inr h
theorem DO {scope:Scope}{env:Env}(hf:∀x∈scope.names,x.2=NameKind.free->∃c,env.cells.lookup x.1=some c):
  ∃cl:List (Str×Addr),closureFor scope env=pure cl/\(∀x c,cl.lookup x=some c->env.cells.lookup x=some c)/\(∀x,(x,NameKind.free)∈scope.names->∃c,cl.lookup x=some c):=by
 obtain⟨cl,e,h1,h2⟩:=CZ scope.names hf [] (λx c h=>by simp at h)
 refine⟨cl,?_,h1,λx h=>h2 x (.inl h)⟩
 unfold closureFor
 show((forIn scope.names [] (λ(x:Str×NameKind) (r:List (Str×Addr))=>(if(x.2==NameKind.free)=true then do let a ←cellOf env x.1;pure (ForInStep.yield ((x.1,a)::r)) else pure (ForInStep.yield r):Sem (ForInStep (List (Str×Addr)))))) >>= λs=>pure s)=pure cl
 rw[e]
 rfl
theorem QX {env:Env}:∀{names:List (Str×NameKind)}{x:Str}{k:NameKind},(∀y∈names,y.2≠NameKind.cell)->
  (names.map λ(n,k)=>if(k==NameKind.free&&env.scope.kind== .function&&env.kindOf n==some .cell) then(n,NameKind.cell) else(n,k)).lookup x=some k->(k= .cell∨k= .free)->(x,NameKind.free)∈names
 | [],_,_,_,h,_=>by simp at h
 | (n,kk)::r,x,k,hc,h,hk=>by
  have ih:=@QX env r x k (λy hy=>hc y (List.mem_cons_of_mem _ hy))
  have hh:=hc (n,kk) List.mem_cons_self
  simp only[List.map_cons] at h
  by_cases hcond:(kk==NameKind.free&&env.scope.kind== .function&&env.kindOf n==some .cell)=true
  ·rw[if_pos hcond,List.lookup_cons] at h
   have hfree:kk=NameKind.free:=by
    rw[Bool.and_eq_true,Bool.and_eq_true] at hcond
    simpa using hcond.1.1
   cases hx:x==n with
   |true=>
    have:x=n:=by simpa using hx
    subst this;subst hfree
    exact List.mem_cons_self
   |false=>rw[hx] at h;exact List.mem_cons_of_mem _ (ih h hk)
  ·rw[if_neg hcond,List.lookup_cons] at h
   cases hx:x==n with
   |true=>
    rw[hx] at h
    have hkk:kk=k:=Option.some.inj h
    have:x=n:=by simpa using hx
    subst this;subst hkk
    rcases hk with z |z
    ·exact absurd z hh
    ·subst z;exact List.mem_cons_self
   |false=>rw[hx] at h;exact List.mem_cons_of_mem _ (ih h hk)
theorem JN {env:Env}:∀{names:List (Str×NameKind)}{x:Str},names.lookup x=some .free->
  let l:=(names.map λ(n,k)=>if(k==NameKind.free&&env.scope.kind== .function&&env.kindOf n==some .cell) then(n,NameKind.cell) else(n,k))
  l.lookup x=some .cell∨l.lookup x=some .free
 | [],_,h=>by simp at h
 | (n,kk)::r,x,h=>by
  have ih:=@JN env r x
  simp only[List.map_cons]
  rw[List.lookup_cons] at h
  by_cases hcond:(kk==NameKind.free&&env.scope.kind== .function&&env.kindOf n==some .cell)=true
  ·rw[if_pos hcond,List.lookup_cons]
   cases hx:x==n with
   |true=>exact .inl rfl
   |false=>rw[hx] at h;exact ih h
  ·rw[if_neg hcond,List.lookup_cons]
   cases hx:x==n with
   |true=>rw[hx] at h;exact .inr h
   |false=>rw[hx] at h;exact ih h
noncomputable abbrev Cx.comp (X:Cx)(N:List Str)(scope:Scope)(cl:List (Str×Addr))(C:Addr)(s:Shared)(H:Hp)(ex:List Addr)(E:Value->Shared->Prop):Cx:=
 {X with N:=N,s₀:=s,H₀:=H,env:=compEnvC scope cl C X.env,outer:=X.stack,ex:=ex,fn:=λ_=>false,pn:=[],xe:=E}
noncomputable def PTs (X:Cx)(ifs:List Expr)(t:TT):Prop:=
 ∀(pins:List (Addr×Obj)) (s:Shared) (σ:St) (H:Hp) (Q:Bool->Hp->Prop),Inv X pins σ H s->t σ H Q->
  wpAny (model X.prog X.w) X.A (forIn ifs true λc r=>if r=true then do let ok ←isTrue c X.env (eval c X.env);pure (ForInStep.yield ok) else pure (ForInStep.yield r)) (TP X pins σ Q) X.xe s
noncomputable def Uo:TT:=λ_ H Q=>Q true H
theorem L3 {σ:St}{H:Hp}{A B:Hp->Prop}(h:A H):Uo σ H λc H5=>if c=true then A H5 else B H5:=by
 show if true=true then A H else B H
 rw[if_pos rfl]
 exact h
theorem Zo {X:Cx}:PTs X [] Uo:=λ_ _ _ H _ I h=>wpAny_tests_nil ⟨H,I,h⟩
theorem Uy {X:Cx}{c:Expr}{t:TT}(h:PT X c t):PTs X [c] t:=λpins s σ H Q I hw=>wpAny_tests_one (h pins s σ H Q I hw)
noncomputable def VZ (n:Nat)(g:TG):Prop:=∀ x σ H Q,g x σ H Q->g x σ H λσ2 H2=>Q σ2 H2/\σ2.length=σ.length/\∀i,n<=i->σ2[i]?=σ[i]?
theorem Y3 {n i:Nat}(h:i<n):VZ n (Y6 i):=λx σ H Q q=>⟨q,by simp,λj hj=>by rw[List.getElem?_set_ne (by lia)]⟩
theorem HW {K:PySem.W.Frag}{n i j:Nat}(hi:i<n)(hj:j<n):VZ n (E4 K 2 (ZM (Y6 i) (ZM (Y6 j) Hr))):=λx σ H Q q=>by
 obtain⟨a,xs,e1,hq,hl,v,r,e2,w,r2,e3,e4,q⟩:=q
 exact⟨a,xs,e1,hq,hl,v,r,e2,w,r2,e3,e4,q,by simp,λk hk=>by rw[List.getElem?_set_ne (by lia),List.getElem?_set_ne (by lia)]⟩
noncomputable def Jb (n:Nat)(caps:List (Nat×Str))(σ:St):St:=List.replicate n none++caps.map λp=>(σ[p.1]?).join
noncomputable def HL (g:TG)(tt:TT)(te:TE)(σ:St)(Q:VK)(J:It)(W:Nat->Nat->List V->Hp->Prop):Prop:=
 ∀i m ys H2,W i m ys H2->ys.length<=sizeLine/\
  ((J.stop i H2/\∀p,H2 p=none->Q (.ref p) (upd H2 p (.lst ys)))∨
  (J.go i H2/\∃N:List V->Hp->Prop,(∀ys' H',N ys' H'->∃m',m'<m/\W (i+1) m' ys' H')/\∀x H3,J.yld i H2 x H3->g x σ H3 λσ4 H4=>tt σ4 H4 λc H5=>
   if c=true then te σ4 H5 λv H6=>N (ys++[v]) H6 else N ys H5))
noncomputable def Hi (n:Nat)(caps:List (Nat×Str))(g:TG)(tt:TT)(te:TE)(σ:St)(Q:VK)(J:It)(H1:Hp):Prop:=
 ∃W:Nat->Nat->List V->Hp->Prop,(∃m,W 0 m [] H1)/\HL g tt te (Jb n caps σ) Q J W
noncomputable def Cy (n:Nat)(caps:List (Nat×Str))(wi:TI)(g:TG)(tt:TT)(te:TE):TE:=λσ H Q=>wi σ H λJ H1=>Hi n caps g tt te σ Q J H1
noncomputable def Kp (sc scope:Scope)(N0 tns:List Str)(caps:List (Nat×Str)):Bool:=
 scope.kind== .function&&scope.names.all (λy=>!(y.2== .cell))&&scope.names.all (λy=>!(y.2== .local) || scope.names.lookup y.1==some .local)&&
 scope.names.all (λy=>!(y.2== .free) || sc.names.lookup y.1==some .cell)&&caps.all (λp=>N0[p.1]?==some p.2&&sc.names.lookup p.2==some .cell&&scope.names.lookup p.2==some .free)
theorem G0 {α:Type}{p:α}{P:Prop}(h:p∈([]:List α)):P:=nomatch h
noncomputable def LI (M:Model)(A:Around)(elt tg:Expr)(ifs:List Expr)(acc:Value)(env:Env)(E:Value->Shared->Prop)(K:Shared->Prop)(v:Value)(s:Shared):Prop:=
 wpAny M A (assign tg env v) (λ_ s₂=>wpAny M A (forIn ifs true λc r=>if r=true then do let ok ←isTrue c env (eval c env);pure (ForInStep.yield ok) else pure (ForInStep.yield r)) (λok s₃=>
  if ok=true then wpAny M A (eval elt env) (λx s₄=>wpAny M A (call (.builtin "list.append") [acc,x]) (λ_ s₅=>K s₅) E s₄) E s₃ else K s₃) E s₂) E s
noncomputable def M1 (M:Model)(A:Around)(elt tg:Expr)(ifs:List Expr)(it acc:Value)(env:Env)(E:Value->Shared->Prop)(Rn K:Shared->Prop)(s:Shared):Prop:=
 wpAny M A (pyNext it) (λr s₁=>r=none/\Rn s₁∨∃v,r=some v/\wpAny M A (letOwnedTupleGo tg it v) (λ_ s₁=>LI M A elt tg ifs acc env E K v s₁) E s₁) E s
section
variable {prog:Program}{w:World}{A:Around}{R:Result->Shared->Prop}{s:Shared}
theorem KY {elt target iter:Expr}{ifs:List Expr}{scope:Scope}{pos:Pos}{it acc:Value}{env:Env}{E:Value->Shared->Prop}(I:Nat->Shared->Prop)(hE:(notedBy (model prog w) A env λe s'=>R (.error e) s')=E)
  (turn:∀n s,I n s->M1 (model prog w) A elt target ifs it acc env E (λs=>R (.ok .next) s) (λs=>∃ m,m<n/\I m s) s)(n:Nat)(h:I n s):
  codeAny (model prog w) A (.compLoop (.ListComp elt [⟨target,iter,ifs,0⟩] scope pos) 0 it acc env) R s:=by
 subst hE
 refine codeAny_loop rfl I (λn s hI=>?_) n h
 show wpAny _ A ((compTurn (.ListComp elt [⟨target,iter,ifs,0⟩] scope pos) 0 it acc env).onRaise (λx=>do noteFrame x env;theTreesLotGoes x)) _ _ s
 refine wpAny_noted ?_
 rw[compTurn_list]
 refine wpAny_bind (wpAny_standAt (wpAny_bind (thn (turn n s hI) λr s₁ h₁=>?_)))
 rcases h₁ with⟨rfl,h₁⟩ | ⟨v,rfl,h₁⟩
 ·exact wpAny_pure h₁
 ·refine wpAny_bind (thn h₁ λ_ s₁' h₁'=>wpAny_bind (thn h₁' λ_ s₂ h₂=>wpAny_bind (thn h₂ λok s₃ h₃=>?_)))
  cases ok with
  |false=>exact wpAny_pure ⟨rfl,h₃⟩
  |true=>exact wpAny_bind (wpAny_bind (thn h₃ λx s₄ h₄=>wpAny_bind (thn h₄ λ_ s₅ h₅=>wpAny_pure (wpAny_pure ⟨rfl,h₅⟩))))
end
noncomputable def lob (its:List Value)(k:Nat):Obj:={cls:=.type "list",data:=.seq (List.toArray its) k}
structure CIn (Y:Cx)(tn:Nat->Heap->Prop)(fp:List Addr)(D:Addr)(σ:St)(i:Nat)(H:Hp)(o:Obj)(s:Shared):Prop where
 I:Inv Y [] σ H s
 t:tn i s.heap
 f:∀b∈fp,H b=none
 l:s.heap.get? D=some o
 n:H D=none
inductive CI (Y:Cx)(tn:Nat->Heap->Prop)(fp:List Addr)(D:Addr)(σ:St)(W:Nat->Nat->List V->Hp->Prop)(m:Nat)(s:Shared):Prop
 |mk (i:Nat) (H:Hp) (ys:List V) (its:List Value) (k:Nat) (c:CIn Y tn fp D σ i H (lob its k) s) (r:Yu ys its) (w:W i m ys H)
structure CAt (Y:Cx)(fp:List Addr)(D:Addr):Prop where
 calm:Y.calm=true
 pn:Y.pn=[]
 ne:D≠Y.env.locals
 fs:D∉Y.fs
 sz:Y.s₀.heap.objs.size<=D
 cl:∀x c,Y.env.cells.lookup x=some c->c≠D
 fpn:∀b∈fp,b≠D
 ok:∀b∈fp,∀H:Hp,H b=none->FY Y [] H b
section
variable {Y:Cx}{tn:Nat->Heap->Prop}{fp:List Addr}{D it:Addr}{σ:St}{tg elt iter:Expr}{ifs:List Expr}{J:It}{g:TG}{tt:TT}{te:TE}{n i:Nat}{H:Hp}{s:Shared}{o:Obj}{Kn:Shared->Prop}
theorem CAt.pns (c:CAt Y fp D)(hn:∀b∈fp,H b=none):∀b∈fp,FY Y [(D,o)] H b:=λb hb=>
 have z:=c.ok b hb H (hn b hb)
 ⟨z.1,z.2.1,z.2.2.1,z.2.2.2.1,z.2.2.2.2.1,λp hp e=>by
  rw[c.pn] at hp
  cases List.mem_singleton.mp hp
  exact c.fpn b hb e.symm⟩
theorem Fs (T:Turn Y.prog Y.w Y.K tg J fp it tn){h5:Heap}(t:tn i h5)(I:Inv Y ([(D,o)]++Kz fp h5) σ H s):CIn Y tn fp D σ i H o s:=
 have p:=I.pin (D,o) (List.mem_append_right _ (.head _))
 have q:∀b∈fp,∀o',h5.get? b=some o'->s.heap.get? b=some o'/\H b=none:=λb hb o' e=>have z:=I.pin (b,o') (List.mem_append_right _ (.tail _ (Jz hb e)));⟨z.1,z.2.1⟩
 ⟨I.pins_of (pins':=[]) λ_ h=>G0 h,T.keep _ _ _ t λb hb o' e=>(q b hb o' e).1,λb hb=>(T.obj _ _ t b hb).elim λo' e=>(q b hb o' e.1).2,p.1,p.2.1⟩
theorem Ny (T:Turn Y.prog Y.w Y.K tg J fp it tn)(a:CAt Y fp D){its:List Value}{k:Nat}{v:Value}{E:Value->Shared->Prop}(c:CIn Y tn fp D σ i H (lob its k) s)(hz:its.length<=sizeLine)
  (hQ:∀k' s',CIn Y tn fp D σ i H (lob (its++[v]) k') s'->Kn s'):wpAny (model Y.prog Y.w) Y.A (call (.builtin "list.append") [.ref D,v]) (λ_ s=>Kn s) E s:=by
 refine call_meets F.slot_list_append ⟨_,c.l,rfl⟩ F.entry_list_append (F.args_list_append_2 _ _) (PySem.list_append D (List.toArray its) k v hz) ⟨c.l,?_⟩
 have q:∃k',PySem.IsL (s.heap.update D (Obj.mapSeq (·.push v))) D ((List.toArray its).push v) k':=⟨_,PySem.IsL.update c.l (·.push v)⟩
 rw[List.push_toArray] at q
 obtain⟨k',q⟩:=q
 exact hQ k' _ ⟨c.I.turned (t':=s.toks) (h':=s.heap.update D (Obj.mapSeq (·.push v))) (it:=D) (λb o hb' e=>(Heap.get?_update_other s.heap _ (Ne.symm hb')).trans e) c.n a.ne (.inr a.sz) a.cl (λp hp=>by rw[a.pn] at hp;exact G0 hp),
  T.keep _ _ _ c.t λb hb o e=>(Heap.get?_update_other s.heap _ (Ne.symm (a.fpn b hb))).trans e,c.f,q,c.n⟩
theorem ES {acc:Value}{pins:List (Addr×Obj)}{N:List V->Hp->Prop}{ys:List V}{x:V}{u:Value}(hg:PG Y tg g)(ht:PTs Y ifs tt)(he:PE Y elt te)(hG:VZ n g)(h0:∀(j:Nat) v,σ[j]?=some (some v)->n<=j)
  (I:Inv Y pins σ H s)(r:YJ x u)(st:g x σ H λσ4 H4=>tt σ4 H4 λc H5=>if c=true then te σ4 H5 λv H6=>N (ys++[v]) H6 else N ys H5)
  (hF:∀H7 s7,Inv Y pins σ H7 s7->N ys H7->Kn s7)(hT:∀H8 s8 y v,Inv Y pins σ H8 s8->YJ y v->N (ys++[y]) H8->wpAny (model Y.prog Y.w) Y.A (call (.builtin "list.append") [acc,v]) (λ_ s=>Kn s) Y.xe s8):
  LI (model Y.prog Y.w) Y.A elt tg ifs acc Y.env Y.xe Kn u s:=by
 refine thn (hg _ s _ H x u _ I r (hG _ _ _ _ st)) λ_ s6 r9=>?_
 obtain⟨σ6,H6,I6,q6,l6,k6⟩:=r9
 have wk:∀(j:Nat) v,σ[j]?=some (some v)->σ6[j]?=some (some v):=λj v e=>(k6 j (h0 j v e)).trans e
 refine thn (ht _ s6 σ6 H6 _ I6 q6) λc s7 r9=>?_
 obtain⟨H7,I7,q7⟩:=r9
 cases c with
 |false=>exact hF _ _ (I7.weak l6.symm wk) q7
 |true=>exact thn (he _ s7 σ6 H7 _ I7 q7) λv8 s8 r9=>by obtain⟨y8,H8,I8,r8,n8⟩:=r9;exact hT _ _ _ _ (I8.weak l6.symm wk) r8 n8
theorem Dd {scope:Scope}{pos:Pos}{Q:V->Hp->Prop}{R:Result->Shared->Prop}(hE:(notedBy (model Y.prog Y.w) Y.A Y.env λe s'=>R (.error e) s')=Y.xe)
  (T:Turn Y.prog Y.w Y.K tg J fp it tn)(hG:VZ n g)(hg:PG Y tg g)(ht:PTs Y ifs tt)(he:PE Y elt te)(a:CAt Y fp D)(h0:∀(j:Nat) v,σ[j]?=some (some v)->n<=j)
  {W:Nat->Nat->List V->Hp->Prop}(turn:HL g tt te σ Q J W)
  (hEnd:∀ys its k H3 s4,Inv Y [(D,lob its k)] σ H3 s4->Yu ys its->ys.length<=sizeLine->Q (.ref D) (upd H3 D (.lst ys))->R (.ok .next) s4){m0:Nat}(hi:CI Y tn fp D σ W m0 s):
  codeAny (model Y.prog Y.w) Y.A (.compLoop (.ListComp elt [⟨tg,iter,ifs,0⟩] scope pos) 0 (.ref it) (.ref D) Y.env) R s:=by
 refine KY (CI Y tn fp D σ W) hE (λm s3 c=>?_) m0 hi
 cases c with
 |mk i H3 ys its k c rv w3=>
 have I3:Inv Y [(D,lob its k)] σ H3 s3:=c.I.pins_of λp hp=>List.mem_singleton.mp hp▸⟨c.l,c.n,a.ne,a.fs,λ_ z=>by cases z⟩
 have t:=turn i m ys H3 w3
 refine t.2.elim (λq=>?_) λq=>?_
 ·exact thn (T.done Y rfl rfl rfl a.calm i _ s3 _ H3 Y.xe I3 (a.pns c.f) c.t q.1) λr s4 h=>.inl ⟨h.1,hEnd ys its k H3 s4 h.2 rv t.1 (q.2 D c.n)⟩
 ·refine q.2.elim λNN h=>?_
  refine thn (T.item Y rfl rfl rfl a.calm i _ s3 _ H3 Y.xe I3 (a.pns c.f) c.t q.1) λr s4 h4=>.inr (h4.elim λu h4=>⟨u,h4.1,thn h4.2 λ_ s5 h5=>h5.elim λx h5=>h5.elim λH5 h5=>?_⟩)
  exact ES hg ht he hG h0 (h5.1.pinned (a.pns h5.2.2.2.2) (T.obj _ _ h5.2.2.2.1)) h5.2.1 (h.2 x H5 h5.2.2.1)
   (λH7 s7 I7 q7=>(h.1 _ _ q7).elim λm' z=>⟨m',z.1, .mk (i+1) H7 ys its k (Fs T h5.2.2.2.1 I7) rv z.2⟩)
   λH8 s8 y v I8 r8 q8=>(h.1 _ _ q8).elim λm' z=>Ny T a (Fs T h5.2.2.2.1 I8) (rv.length▸t.1) λk' s' c'=>⟨m',z.1, .mk (i+1) H8 (ys++[y]) (its++[v]) k' c' (rv.append (.cons r8 .nil)) z.2⟩
end
section
variable {X:Cx}{elt tg iter:Expr}{ifs:List Expr}{scope sc:Scope}{pos:Pos}{n:Nat}{tns:List Str}{caps:List (Nat×Str)}{wi:TI}{g:TG}{tt:TT}{te:TE}
structure CompEnd (X:Cx)(pins:List (Addr×Obj))(σ:St)(H3:Hp)(D C:Addr)(ys:List V)(s':Shared):Prop where
 inv:Inv X pins σ (upd H3 D (.lst ys)) s'
 fresh:H3 D=none
 fp:FY X pins (upd H3 D (.lst ys)) C
 ns:∃m,s'.heap.Ns C m
theorem Eh {pins:List (Addr×Obj)}{σ σ':St}{H H3:Hp}{s s4:Shared}{D C:Addr}{fp:List Addr}{its:List Value}{k:Nat}{ys:List V}{Y:Cx}(I:Inv X pins σ H s)(hf:∀b∈fp,FY X pins H b)(hD:s.heap.objs.size<=D)(hDlt:D<C)
  (I4:Inv Y [(D,lob its k)] σ' H3 s4)(hos:s4.os=s.os)(u:Un (frs X.stack) fp H H3 s.heap s4.heap)(hok:HOk X.prog X.w H3 s4.heap)(hC:Y.env.locals=C)(rv:Yu ys its)(hz:ys.length<=sizeLine):CompEnd X pins σ H3 D C ys s4:=by
 subst hC
 have p:=I4.pin (D,lob its k) (List.mem_append_right _ (.head _))
 have hDn:H3 D=none:=p.2.1
 have up:∀{b:Addr}{o:HO},H3 b=some o->upd H3 D (.lst ys) b=some o:=λe=>(XY (Ye e hDn)).trans e
 refine⟨I.call' (ch:=fp) hos ⟨u.keep,u.slot,λb o e nn hx=>(XY (Nat.ne_of_lt (Nat.lt_of_lt_of_le (Heap.lt_size e) hD))).trans (u.free b o e nn hx),u.there,λb xs e=>up (u.tups b xs e),λb o xs e=>up (u.frzs b o xs e),λb ps e=>(u.tbls b ps e).elim λmore z=>⟨more,up z⟩⟩ (λa o e=>?_) I4.bare λb hb=>have z:=hf b hb;⟨z.2.2.2.1,z.2.1,z.2.2.2.2.1,z.2.2.2.2.2⟩,hDn,I.fpOk (Nat.le_trans hD (Nat.le_of_lt hDlt)) ((XY (Nat.ne_of_gt hDlt)).trans I4.free),I4.loc.elim λm z=>⟨m,z.1⟩⟩
 by_cases ha:a=D
 ·subst ha
  rw[Y1] at e;cases e
  exact⟨hz,its,k,rv,p.1⟩
 ·rw[XY ha] at e
  exact(hok a o e).stay (λb u _ q=>q) (λb q=>up q) λb xs q=>up q
noncomputable def Nw (X:Cx)(elt tg iter:Expr)(ifs:List Expr)(scope:Scope)(pos:Pos)(it:Value)(cl:List (Str×Addr))(RR:Value->Addr->Result->Shared->Prop)(E:Value->Shared->Prop)(s:Shared):Prop:=
 wpAny (model X.prog X.w) X.A (newList []) (λacc s₃=>wpAny (model X.prog X.w) X.A (newFunctionEnv scope X.env.globals cl [] X.env.qual none .none (some X.env)) (λcenv s₄=>
   codeAny (model X.prog X.w) X.A (.compStart (.ListComp elt [⟨tg,iter,ifs,0⟩] scope pos) 0 it acc {cenv with scope:=relabel scope X.env}) (RR acc cenv.locals) s₄) E s₃) E s
theorem Ki {σ:St}{i:Nat}{v:V}(e:(Jb n caps σ)[i]?=some (some v)):n<=i/\∃p,caps[i-n]?=some p/\σ[p.1]?=some (some v):=by
 unfold Jb at e
 by_cases h:i<n
 ·rw[List.getElem?_append_left (by simpa using h),List.getElem?_replicate,if_pos h] at e
  cases e
 ·have hi:=Nat.le_of_not_lt h
  rw[List.getElem?_append_right (by simpa using hi),List.length_replicate,List.getElem?_map] at e
  refine⟨hi,?_⟩
  cases hcp:caps[i-n]? with
  |none=>rw[hcp] at e;cases e
  |some p=>
   rw[hcp] at e
   exact⟨p,rfl,Option.join_eq_some_iff.mp (Option.some.inj e)⟩
structure COk (X:Cx)(scope:Scope)(caps:List (Nat×Str)):Prop where
 kind:scope.kind= .function
 cell:∀y∈scope.names,y.2≠NameKind.cell
 loc:∀y∈scope.names,y.2= .local->scope.names.lookup y.1=some .local
 free:∀y∈scope.names,y.2= .free->X.env.scope.names.lookup y.1=some .cell
 caps:∀p∈caps,(X.N[p.1]?=some p.2/\X.env.scope.names.lookup p.2=some .cell)/\scope.names.lookup p.2=some .free
theorem COk.of {N0:List Str}(hsc:X.env.scope=sc)(hN0:X.N=N0)(ok:Kp sc scope N0 tns caps=true):COk X scope caps:=by
 subst hsc
 subst hN0
 unfold Kp at ok
 simp only[Bool.and_eq_true,List.all_eq_true,beq_iff_eq,Bool.or_eq_true,Bool.not_eq_true',beq_eq_false_iff_ne] at ok
 exact⟨ok.1.1.1.1,ok.1.1.1.2,λy hy e=>(ok.1.1.2 y hy).resolve_left (absurd e),λy hy e=>(ok.1.2 y hy).resolve_left (absurd e),ok.2⟩
section
variable {pins:List (Addr×Obj)}{σ:St}{H:Hp}{s:Shared}{fp:List Addr}{cl:List (Str×Addr)}{C:Addr}{E:Value->Shared->Prop}{N:List Str}{h₁:Heap}
theorem H9 (ok:COk X scope caps)(I:Inv X pins σ H s)(hf:∀b∈fp,FY X pins H b)(hlt:∀b∈fp,b<s.heap.objs.size)
  (hsub:∀x c,cl.lookup x=some c->X.env.cells.lookup x=some c)(hall:∀x,(x,NameKind.free)∈scope.names->∃c,cl.lookup x=some c)(hC:s.heap.objs.size<C):(X.comp N scope cl C s H fp E).Ok:=
 ⟨I.ok.mod,ok.kind,I.ok.glob,I.ok.blt,Nat.le_of_lt hC,λx y c h1 h2=>I.ok.inj x y c (hsub x c h1) (hsub y c h2),λx hx=>hall x (hx.elim (λz=>QX ok.cell z (.inl rfl)) λz=>QX ok.cell z (.inr rfl)),(λx c hx=>by cases hx),I.ok.hd,I.ok.frames, .inl rfl,
  λb hb=>⟨Nat.ne_of_lt (Nat.lt_trans (hlt b hb) hC),λx c e=>(hf b hb).2.2.2.2.1 x c (hsub x c e)⟩,I.bs,Nat.le_trans I.ok.bsz I.sz,λb o e hb=>(hf b hb).2.2.2.1.elim (I.ok.noex b o e) λz=>absurd (Nat.lt_of_lt_of_le (Heap.lt_size e) (Nat.le_trans I.ok.bsz z)) (Nat.lt_irrefl _),
  λb hb hz=>(List.mem_cons.mp (I.stkSub b hz)).elim (hf b hb).2.1 (hf b hb).2.2.1,I.stack,I.stkFree⟩
theorem B6 (okc:COk X scope caps)(hn:tns.length=n)(ok:(X.comp (tns++caps.map (·.2)) scope cl C s H fp E).Ok)(I:Inv X pins σ H s)
  (hsub:∀x c,cl.lookup x=some c->X.env.cells.lookup x=some c)(hall:∀x,(x,NameKind.free)∈scope.names->∃c,cl.lookup x=some c)(hC:s.heap.objs.size<C)(hns:h₁.Ns C λ_=>none)(old:∀b o,s.heap.get? b=some o->h₁.get? b=some o){tk:Nat}:
  Inv (X.comp (tns++caps.map (·.2)) scope cl C s H fp E) [] (Jb n caps σ) H {s with heap:=h₁,toks:=tk}:=by
 refine⟨ok,rfl,I.bare,Un.kept old,⟨_,hns,λi x v e1 e2 _=>?_⟩,λx c e=>(I.cell x c (hsub x c e)).elim λv z=>z.elim λo z=>⟨v,o,old _ _ z.1,z.2⟩,I.hok.fresh (Nat.le_of_lt hC),λx c e=>I.freeC x c (hsub x c e),λp hp=>G0 (α:=Addr×Obj) hp,I.hok.kept old,by simp[Jb,hn]⟩
 obtain⟨hi,p,hp,hσ⟩:=Ki e2
 have e1':(tns++caps.map (·.2))[i]?=some x:=e1
 rw[List.getElem?_append_right (hn▸hi),hn,List.getElem?_map,hp] at e1'
 cases Option.some.inj e1'
 have p5:=okc.caps p (List.mem_of_getElem? hp)
 obtain⟨m,hm,hl⟩:=I.loc
 obtain⟨u,r,l⟩:=hl p.1 p.2 v p5.1.1 hσ (.inr (.inl p5.1.2))
 refine⟨u,r, .inr ?_⟩
 rcases l with⟨k,_⟩ | ⟨k,c,e,z⟩
 ·cases p5.1.2.symm.trans k
 ·obtain⟨c',e'⟩:=hall p.2 (PySem.mem_of_lookup p5.2)
  cases e.symm.trans (hsub _ _ e')
  exact⟨JN (env:=X.env) p5.2,c,e',z.elim λo z=>⟨o,old _ _ z.1,z.2⟩⟩
variable {J:It}{it:Addr}{tn:Nat->Heap->Prop}{Q:V->Hp->Prop}{RR:Value->Addr->Result->Shared->Prop}{W:Nat->Nat->List V->Hp->Prop}{m0:Nat}
theorem Lh (ok:COk X scope caps)(hc:X.calm=true)(hn:tns.length=n)(hG:VZ n g)
  (hb:∀cl C s H ex E,PG (X.comp (tns++caps.map (·.2)) scope cl C s H ex E) tg g/\PTs (X.comp (tns++caps.map (·.2)) scope cl C s H ex E) ifs tt/\PE (X.comp (tns++caps.map (·.2)) scope cl C s H ex E) elt te)
  (I:Inv X pins σ H s)(T:Turn X.prog X.w X.K tg J fp it tn)(t0:tn 0 s.heap)(hf:∀b∈fp,FY X pins H b)
  (hsub:∀x c,cl.lookup x=some c->X.env.cells.lookup x=some c)(hall:∀x,(x,NameKind.free)∈scope.names->∃c,cl.lookup x=some c)
  (w0:W 0 m0 [] H)(turn:HL g tt te (Jb n caps σ) Q J W)
  (hRR:∀D C ys H3 s',CompEnd X pins σ H3 D C ys s'->Q (.ref D) (upd H3 D (.lst ys))->RR (.ref D) C (.ok .next) s')
  (hC:s.heap.objs.size<C)(hns:h₁.Ns C λ_=>none)(old:∀b o,s.heap.get? b=some o->h₁.get? b=some o)(hacc:h₁.get? s.heap.objs.size=some (lob [] 0)){tk:Nat}:
  codeAny (model X.prog X.w) X.A (.compStart (.ListComp elt [⟨tg,iter,ifs,0⟩] scope pos) 0 (.ref it) (.ref s.heap.objs.size) (compEnvC scope cl C X.env)) (RR (.ref s.heap.objs.size) C) {s with heap:=h₁,toks:=tk}:=by
 have hlt:∀b∈fp,b<s.heap.objs.size:=λb hb=>(T.obj _ _ t0 b hb).elim λo e=>Heap.lt_size e.1
 have okY:∀E,(X.comp (tns++caps.map (·.2)) scope cl C s H fp E).Ok:=λE=>H9 ok I hf hlt hsub hall hC
 have t1:tn 0 h₁:=T.keep _ _ _ t0 λb _ o e=>old b o e
 have loop:∀tk,codeAny (model X.prog X.w) X.A (.compLoop (.ListComp elt [⟨tg,iter,ifs,0⟩] scope pos) 0 (.ref it) (.ref s.heap.objs.size) (compEnvC scope cl C X.env)) (RR (.ref s.heap.objs.size) C) {s with heap:=h₁,toks:=tk}:=λtk=>
  have z:=hb cl C s H fp (notedBy (model X.prog X.w) X.A (compEnvC scope cl C X.env) λe s'=>RR (.ref s.heap.objs.size) C (.error e) s')
  Dd (Y:=X.comp (tns++caps.map (·.2)) scope cl C s H fp _) rfl T hG z.1 z.2.1 z.2.2
   ⟨hc,rfl,Nat.ne_of_lt hC,λhz=>(I.stack.mem hz).2.elim λo ho=>absurd (Heap.lt_size ho.1) (Nat.lt_irrefl _),Nat.le_refl _,λx c e=>(I.cell x c (hsub x c e)).elim λv z=>Nat.ne_of_lt z.lt,λb hb=>Nat.ne_of_lt (hlt b hb),
    λb hb H' h'=>⟨h',Nat.ne_of_lt (Nat.lt_trans (hlt b hb) hC),(okY λ_ _=>True).exfs b hb, .inl hb,λx c e=>(hf b hb).2.2.2.2.1 x c (hsub x c e),λp hp=>G0 (α:=Addr×Obj) hp⟩⟩
   (λj v e=>(Ki e).1) turn (λys its k H3 s4 I4 rv hz q=>hRR _ C ys H3 s4 (Eh I hf (Nat.le_refl _) hC I4 I4.os I4.base I4.hok rfl rv hz) q)
   (.mk 0 H [] [] 0 ⟨B6 ok hn (okY _) I hsub hall hC hns old,t1,λb hb=>(hf b hb).1,hacc,I.hok.fresh (Nat.le_refl _)⟩ .nil w0)
 exact codeAny_compStart_list (loop _) (T.self _ 0 _ _ _ t1 (loop _))
theorem Ue (ok:COk X scope caps)(hc:X.calm=true)(hn:tns.length=n)(hG:VZ n g)
  (hb:∀cl C s H ex E,PG (X.comp (tns++caps.map (·.2)) scope cl C s H ex E) tg g/\PTs (X.comp (tns++caps.map (·.2)) scope cl C s H ex E) ifs tt/\PE (X.comp (tns++caps.map (·.2)) scope cl C s H ex E) elt te)
  {itv:Value}(h:PIE X pins σ tg (λJ H1=>Hi n caps g tt te σ Q J H1) itv s)
  (hsub:∀x c,cl.lookup x=some c->X.env.cells.lookup x=some c)(hall:∀x,(x,NameKind.free)∈scope.names->∃c,cl.lookup x=some c)
  (hRR:∀D C ys H3 s',CompEnd X pins σ H3 D C ys s'->Q (.ref D) (upd H3 D (.lst ys))->RR (.ref D) C (.ok .next) s'):
  Nw X elt tg iter ifs scope pos itv cl RR E s:=by
 obtain⟨it,fp,tn,J,H',rfl,I,T,t0,hf,W,⟨m0,w0⟩,turn⟩:=h
 refine wpAny_newObj_type (wpAny_newFunctionEnv ok.cell (by intro y hy;simp at hy) (λh₁ hns₁ hsb₁=>?_) ok.kind)
 have hs:∀o,(s.heap.push o).objs.size=s.heap.objs.size+1:=λo=>Heap.size_push ..
 exact Lh ok hc hn hG hb I T t0 hf hsub hall w0 turn hRR (Nat.lt_of_lt_of_eq (Nat.lt_succ_self _) (hs _).symm) hns₁
  (λb o e=>hsb₁.extBut b o (Nat.ne_of_lt (Nat.lt_trans (Heap.lt_size e) (Nat.lt_of_lt_of_eq (Nat.lt_succ_self _) (hs _).symm))) (Heap.get?_push_of_some _ (Heap.get?_push_of_some _ e)))
  (hsb₁.extBut _ _ (Nat.ne_of_lt (Nat.lt_of_lt_of_eq (Nat.lt_succ_self _) (hs _).symm)) (Heap.get?_push_of_some _ (Heap.get?_push_size _ rfl)))
end
theorem HH (sc:Scope)(N0:List Str)(tns:List Str)(caps:List (Nat×Str))(hc:X.calm=true)(hi:PI X tg iter wi)(hG:VZ tns.length g)
  (hb:∀cl C s H ex E,PG (X.comp (tns++caps.map (·.2)) scope cl C s H ex E) tg g/\PTs (X.comp (tns++caps.map (·.2)) scope cl C s H ex E) ifs tt/\PE (X.comp (tns++caps.map (·.2)) scope cl C s H ex E) elt te)
  (hsc:X.env.scope=sc:=by rfl)(hN0:X.N=N0:=by rfl)(ok:Kp sc scope N0 tns caps=true:=by decide+kernel)
  (hs:∀x,foldedSetIterable iter X.env x=pure x:=by intro _;rfl):
  PE X (.ListComp elt [⟨tg,iter,ifs,0⟩] scope pos) (Cy tns.length caps wi g tt te):=by
 intro pins s σ H Q I h
 have okc:=COk.of hsc hN0 ok
 obtain⟨cl,ecl,hsub,hall⟩:=DO (scope:=scope) (env:=X.env) λx hx hfr=>I.ok.has x.1 (.inl (okc.free x hx hfr))
 rw[eval_ListComp]
 exact wpAny_comprehension_free (use:=none) rfl hs ecl okc.kind okc.loc (thn (hi pins s σ H _ I h) λxv s₁ h₁=>thn h₁ λitv s₂ h₂=>
  Ue (RR:=λacc C=>compPost (model X.prog X.w) X.A X.xe none (EP X pins σ Q) acc C) okc hc rfl hG hb h₂ hsub hall λD C ys H3 s' ce q=>ce.ns.elim λmm hns=>
   ⟨mm,hns,λh' hs'=>⟨.ref D,_,ce.inv.turned (t':=s'.toks) (λb o hb' e=>(hs'.extBut b o hb' e)) ce.fp.1 ce.fp.2.1 ce.fp.2.2.2.1 ce.fp.2.2.2.2.1 ce.fp.2.2.2.2.2,rfl,q⟩⟩)
theorem Q3 {x:Str}{px spos:Pos}(j:Nat)(sc:Scope)(N0:List Str)(tns:List Str)(caps:List (Nat×Str))(hc:X.calm=true)(hN:X.N.Nodup)(hj:X.N[j]?=some x)(hx:X.env.scope.names.lookup x=some .local)(hi:PI X tg iter wi)(hG:VZ tns.length g)
  (hb:∀cl C s H ex E,PG (X.comp (tns++caps.map (·.2)) scope cl C s H ex E) tg g/\PTs (X.comp (tns++caps.map (·.2)) scope cl C s H ex E) ifs tt/\PE (X.comp (tns++caps.map (·.2)) scope cl C s H ex E) elt te)
  (hsc:X.env.scope=sc:=by rfl)(hN0:X.N=N0:=by rfl)(ok:Kp sc scope N0 tns caps=true:=by decide+kernel)
  (hsw:swapsWith (.ListComp elt [⟨tg,iter,ifs,0⟩] scope pos) (some (.Name x px)) spos.line X.env=pure true:=by rfl)
  (hs:∀x,foldedSetIterable iter X.env x=pure x:=by intro _;rfl):
  PS X (.Assign [.Name x px] (.ListComp elt [⟨tg,iter,ifs,0⟩] scope pos) spos) (Ec (Cy tns.length caps wi g tt te) (Y6 j)):=by
 intro pins s σ H D I h
 have okc:=COk.of hsc hN0 ok
 obtain⟨cl,ecl,hsub,hall⟩:=DO (scope:=scope) (env:=X.env) λx hx hfr=>I.ok.has x.1 (.inl (okc.free x hx hfr))
 rw[exec_Assign_Name_used _ _ _ _ hsw]
 refine wpAny_bind (wpAny_standAt (wpAny_bind ?_))
 show wpAny _ _ (do let _ ←comprehension (.ListComp elt [⟨tg,iter,ifs,0⟩] scope pos) scope X.env _ (newList []) false (eval iter X.env) (some (assign (.Name x px) X.env))) _ _ s
 refine wpAny_bind (thn (wpAny_comprehension_free (use:=some (assign (.Name x px) X.env)) (Q:=λ_ s'=>SP X pins D .next s') rfl hs ecl okc.kind okc.loc
  (thn (hi pins s σ H _ I h) λxv s₁ h₁=>thn h₁ λitv s₂ h₂=>?_)) λ_ s' hq=>wpAny_pure (wpAny_pure hq))
 refine Ue (Q:=λv H1=>Y6 j v σ H1 D.nx) (RR:=λacc C=>compPost (model X.prog X.w) X.A X.xe (some (assign (.Name x px) X.env)) (λ_ s'=>SP X pins D .next s') acc C) okc hc rfl hG hb h₂ hsub hall ?_
 intro DD C ys H3 s' ce q
 obtain⟨mm,hns⟩:=ce.ns
 obtain⟨c0,c1,c2,c3,c4,c5⟩:=ce.fp
 show wpAny _ _ (assign (.Name x px) X.env (.ref DD)) _ _ _
 refine wpAny_assign_Name (K3 ce.inv hN hj (.inl hx) (v:=.ref DD) rfl (λs2 I2 chg=>?_) (.inr hx))
 obtain⟨c,hsb,hcc⟩:=chg
 have hCc:C≠c:=by
  rcases hcc with z |z
  ·rw[z];exact c1
  ·exact λe=>c4 x c z e.symm
 refine⟨mm,?_,λh' hs'=>?_⟩
 ·obtain⟨o,es,ep,ho,r⟩:=hns
  exact⟨o,es,ep,(hsb.2 C hCc).trans ho,r⟩
 ·exact⟨_,_,I2.turned (t':=s2.toks) (λb o hb' e=>(hs'.extBut b o hb' e)) c0 c1 c3 c4 c5,q⟩
end
section
variable {K:PySem.W.Frag}{a:Addr}{xs:List V}{n:Nat}{caps:List (Nat×Str)}{g:TG}{tt:TT}{te:TE}{σ:St}{H:Hp}{Q:V->Hp->Prop}
end
section
variable {X:Cx}{pos:Pos}
noncomputable def DM (K:PySem.W.Frag):List V->Hp->VK->Prop:=λxs H Q=>∃ p ys,xs=[.ref p]/\(SqL K H p ys∨SqT K H p ys)/\∀l,H l=none->Q (.ref l) (upd H l (.lst ys))
noncomputable def Bf (K:PySem.W.Frag):List V->Hp->VK->Prop:=λxs H Q=>∃ p ys,xs=[.ref p]/\(SqL K H p ys∨SqT K H p ys)/\Q (.int ys.length) H
theorem Yc (K:PySem.W.Frag)(h:X.K=K):JB X (.type "list") (DM K):=by subst h;exact Kb
theorem Xo (K:PySem.W.Frag)(h:X.K=K):JB X (.builtin "len") (Bf K):=by subst h;exact KJ
theorem Xk (K:PySem.W.Frag)(h:X.K=K):IxR X (Iw K):=by subst h;exact I0
theorem Yj (K:PySem.W.Frag)(h:X.K=K):IxR X (Lp K):=by subst h;exact LU
theorem UF (K:PySem.W.Frag)(h:X.K=K):SlR X (MH K):=by subst h;exact HB
theorem CA (K:PySem.W.Frag)(h:X.K=K){es:List Expr}{k:Nat}{t:TGs}{n:Nat}(hc:X.calm=true)(hh:PGs X es t)
  (hn:(assignEach es X.env).length=n:=by rfl)(hst:(assignEach es X.env).findIdx? (·.1)=none:=by rfl):PG X (.Tuple es k pos) (E4 K n t):=by subst h;exact Qo hc hh hn hst
end
structure Fn (P:Program)(w:World)(K:PySem.W.Frag)(mg:Str->Option Value)(base:Heap)(k:Nat)(x:Str)(ps:List Str)(sp:Sp):Prop where
 ex:∃f fd,FnOk P w K mg base CX0 k f fd ps sp/\GC K fd ps []/\PySem.W.keepIn K (.ref f)=true/\mg x=some (.ref f)
section
variable {X:Cx}{k j:Nat}{x:Str}{ps:List Str}{sp:Sp}{e:Expr}{es:List Expr}{t:TA}{p pos:Pos}
theorem X6 (G:Fn X.prog X.w X.K X.mg X.base k x ps sp)(hr:Room j X.A)(hj:k<=j)(ha:PA X (e::es) t)(hg:Gl X x:=by rfl)(hdb:(x==("__debug__":Str))=false:=by decide)
  (he:starEach (e::es) X.env=(false,eval e X.env)::starEach es X.env:=by rfl)(hpl:(backTo pos (starEach es X.env)).any (·.1)=false:=by rfl):
  PE X (.Call (.Name x p) (e::es) [] pos) (Go sp [] E0 t):=by
 obtain⟨f,fd,F,b,kp,m⟩:=G.ex
 exact Ie F (hr.mono hj) hg m kp b .nil MU ha hdb he hpl
end
inductive DefI (K:PySem.W.Frag)(mg:Str->Option Value)(x:Str)(st:Stmt)(ps:List Str):Prop
 |mk (f:_) (fd:_) (h1_:Fun K x x st f fd) (h2_:GC K fd ps []) (h3_:mg x=some (.ref f))
noncomputable def Def (K:PySem.W.Frag)(mg:Str->Option Value)(x:Str)(st:Stmt)(ps:List Str):Prop:=DefI K mg x st ps
theorem Ys {P:Program}{w:World}{K:PySem.W.Frag}{mg:Str->Option Value}{base:Heap}{x:Str}{st:Stmt}{N ps:List Str}{k:Nat}{sp:Sp}(D:Def K mg x st ps)(S:FnScope N ps (Xi st))(len:∀vs H Q E,sp vs H Q E->vs.length=ps.length)
  (hbody:∀(f:Addr) (cdv:Value) (A:Around) (outer:List Env) (s:Shared) (H:Hp) (vs:List V) (Q:VK) (E:XK),Room k (A.deeper (envOfC x (Xi st) s.heap.objs.size f cdv))->sp vs H Q E->
   ∃t,PSs (Ig CX0 P w K mg base N x (Xi st) f cdv A outer s H E).nox (YK st) t/\t {nx:=λ_ H'=>Q .non H',rt:=Q} (UB N vs) H):Fn P w K mg base (k+1) x ps sp:=by
 obtain⟨f,fd,F,b,m⟩:=D
 exact⟨f,fd,F.ok S len (hbody f),b,F.kp,m⟩
theorem MN {a d c:Nat}(h:d<=8)(hu:a+8<c):a+d<c:=by lia
theorem X2 {H:Hp}{p:Addr}(h:H p=none)(o:HO):XJ H (upd H p o):=λb u q=>by rw[XY (Ye q h)];exact q
theorem hu8 {A:Around}{k:Nat}(hr:Room k A):A.units+8<cLine:=Nat.lt_of_le_of_lt (Nat.add_le_add_left (by decide:8<=64) _) hr.units
noncomputable abbrev Enc (α:Type):=PySem.W.Frag->Hp->V->α->Prop
noncomputable def Xa:Enc Int:=λ_ _ v i=>v= .int i
inductive rLI {α:Type}(r:Enc α)(K:PySem.W.Frag)(H:Hp)(v:V)(as:(List α)):Prop
 |mk (a:_) (xs:_) (h1_:v= .ref a) (h2_:SqL K H a xs) (h3_:Paired (r K H) xs as)
noncomputable def rL {α:Type}(r:Enc α):Enc (List α):=λK H v as=>rLI r K H v as
theorem Paired.getL {α β:Type}{F:α->β->Prop}:∀{l:List α}{m:List β}{i:Nat}{a:α},Paired F l m->l[i]?=some a->∃b,m[i]?=some b/\F a b
 |_,_,_,_, .nil,e=>by simp at e
 |_,_,0,_, .cons r _,e=>by simp at e;subst e;exact⟨_,rfl,r⟩
 |_,_,i+1,a, .cons _ t,e=>by
  obtain⟨b,h1,h2⟩:=Paired.getL (i:=i) (a:=a) t (by simpa using e)
  exact⟨b,by simpa using h1,h2⟩
theorem Paired.getR {α β:Type}{F:α->β->Prop}:∀{l:List α}{m:List β}{i:Nat}{b:β},Paired F l m->m[i]?=some b->∃a,l[i]?=some a/\F a b
 |_,_,_,_, .nil,e=>by simp at e
 |_,_,0,_, .cons r _,e=>by simp at e;subst e;exact⟨_,rfl,r⟩
 |_,_,i+1,b, .cons _ t,e=>by
  obtain⟨a,h1,h2⟩:=Paired.getR (i:=i) (b:=b) t (by simpa using e)
  exact⟨a,by simpa using h1,h2⟩
theorem Paired.len {α β:Type}{F:α->β->Prop}{l:List α}{m:List β}(h:Paired F l m):l.length=m.length:=Paired.length h
theorem Paired.app {α β:Type}{F:α->β->Prop}:∀{l l':List α}{m m':List β},Paired F l m->Paired F l' m'->Paired F (l++l') (m++m'):=λp h=>by
 induction p with
 |nil=>exact h
 |cons r _ ih=>exact .cons r ih
theorem GG (ns:List Int):∀{K:PySem.W.Frag}{H:Hp},Paired (Xa K H) (ns.map V.int) ns:=by
 intro K H
 induction ns with
 |nil=>exact .nil
 |cons n r ih=>exact .cons rfl ih
theorem Q2:∀{xs:List V}{ns:List Int}{K:PySem.W.Frag}{H:Hp},Paired (Xa K H) xs ns->xs=ns.map V.int
 |_,_,_,_, .nil=>rfl
 |_,_,_,_, .cons r t=>by
  have r':_=V.int _:=r
  rw[r',Q2 t];rfl
structure EqOk {α:Type}[DecidableEq α](r:Enc α)(d:Nat):Prop where
 uniq:∀{X:Cx}{pins:List (Addr×Obj)}{σ:St}{H:Hp}{s:Shared}{x:V}{a b:α},Inv X pins σ H s->r X.K H x a->r X.K H x b->a=b
 eq:∀{X:Cx}{pins:List (Addr×Obj)}{σ:St}{H:Hp}{s:Shared}{x y:V}{v u:Value}{a b:α}{A:Around},Inv X pins σ H s->YJ x v->YJ y u->r X.K H x a->r X.K H y b->A.units+d<cLine->SeqAt.EqAt A s v u (decide (a=b))
 rc:∀{X:Cx}{pins:List (Addr×Obj)}{σ:St}{H:Hp}{s:Shared}{x y:V}{v u:Value}{a b:α}{A:Around},Inv X pins σ H s->YJ x v->YJ y u->r X.K H x a->r X.K H y b->A.units+d<cLine->SeqAt.RcAt A s v u (decide (a=b))
 ne:∀{X:Cx}{pins:List (Addr×Obj)}{σ:St}{H:Hp}{s:Shared}{x y:V}{v u:Value}{a b:α}{A:Around},Inv X pins σ H s->YJ x v->YJ y u->r X.K H x a->r X.K H y b->A.units+d<cLine->SeqAt.RcNeAt A s v u (!decide (a=b))
 keep:∀{K:PySem.W.Frag}{H H':Hp}{x:V}{a:α},XJ H H'->r K H x a->r K H' x a
theorem B1 (A:Around):A.in1.units=A.units+1:=rfl
theorem Hb {a b:Int}:(a==b)=decide (a=b):=by rw[Bool.eq_iff_iff];simp
theorem eq_int:EqOk Xa 0 where
 uniq:=λ_ h1 h2=>by
  have h1':_=V.int _:=h1
  have h2':_=V.int _:=h2
  rw[h1'] at h2';injection h2'
 eq:=fun {X pins σ H s x y v u a b A} I rx ry h1 h2 _=>by
  have h1':x=V.int a:=h1
  have h2':y=V.int b:=h2
  subst h1' h2'
  obtain⟨t,rfl⟩:=rx
  obtain⟨t',rfl⟩:=ry
  rw[←Hb];exact SeqAt.EqAt.int_int a t b t'
 rc:=fun {X pins σ H s x y v u a b A} I rx ry h1 h2 _=>by
  have h1':x=V.int a:=h1
  have h2':y=V.int b:=h2
  subst h1' h2'
  obtain⟨t,rfl⟩:=rx
  obtain⟨t',rfl⟩:=ry
  rw[←Hb];exact SeqAt.RcAt.int_int a t b t'
 ne:=fun {X pins σ H s x y v u a b A} I rx ry h1 h2 _=>by
  have h1':x=V.int a:=h1
  have h2':y=V.int b:=h2
  subst h1' h2'
  obtain⟨t,rfl⟩:=rx
  obtain⟨t',rfl⟩:=ry
  rw[←Hb];exact SeqAt.RcNeAt.int_int a t b t'
 keep:=λ_ h=>h
theorem C0 {α:Type}[DecidableEq α]{as bs:List α}(h:as.length=bs.length):(List.range as.length).all (λj=>decide (as[j]?=bs[j]?))=decide (as=bs):=by
 rw[Bool.eq_iff_iff]
 simp only[List.all_eq_true,List.mem_range,decide_eq_true_eq]
 constructor
 ·intro hh
  apply List.ext_getElem?
  intro i
  by_cases hi:i<as.length
  ·exact hh i hi
  ·rw[List.getElem?_eq_none (by lia),List.getElem?_eq_none (by lia)]
 ·rintro rfl;intros;rfl
theorem Paired.uniq {α β:Type}{F:α->β->Prop}(hu:∀a b c,F a b->F a c->b=c):∀{l:List α}{m m':List β},Paired F l m->Paired F l m'->m=m':=fun {l m m'} p=>by
 induction p generalizing m' with
 |nil=>intro q;cases q;rfl
 |cons r _ ih=>intro q;cases q with |cons r' t'=>rw[hu _ _ _ r r',ih t']
theorem Paired.imp2 {α β:Type}{F G:α->β->Prop}(h:∀a b,F a b->G a b):∀{l:List α}{m:List β},Paired F l m->Paired G l m:=λp=>by
 induction p with
 |nil=>exact .nil
 |cons r _ ih=>exact .cons (h _ _ r) ih
section
variable {α:Type}[DecidableEq α]{r:Enc α}{d:Nat}
theorem V3 (E:EqOk r d){X:Cx}{pins:List (Addr×Obj)}{σ:St}{H:Hp}{s:Shared}{A:Around}(I:Inv X pins σ H s)(hu:A.units+(d+1)<cLine){xs ys:List V}{as bs:List α}{its its2:List Value}
  (r1:Yu xs its)(r2:Yu ys its2)(p1:Paired (r X.K H) xs as)(p2:Paired (r X.K H) ys bs):
  ∀j (h1:j<its.toArray.size) (h2:j<its2.toArray.size),SeqAt.EqAt A.in1 s its.toArray[j] its2.toArray[j] (decide (as[j]?=bs[j]?)):=by
 intro j h1 h2
 have h1':j<its.length:=by simpa using h1
 have h2':j<its2.length:=by simpa using h2
 obtain⟨x,ex,rx⟩:=Paired.getR (i:=j) (b:=its[j]) r1 (by simp[h1'])
 obtain⟨y,ey,ry⟩:=Paired.getR (i:=j) (b:=its2[j]) r2 (by simp[h2'])
 obtain⟨a,ea,ra⟩:=Paired.getL p1 ex
 obtain⟨b,eb,rb⟩:=Paired.getL p2 ey
 have:=E.eq (A:=A.in1) I rx ry ra rb (by rw[B1];lia)
 rw[ea,eb]
 simpa using this
theorem Hy (E:EqOk r d):EqOk (rL r) (d+1):=by
 have un:∀{X:Cx}{pins:List (Addr×Obj)}{σ:St}{H:Hp}{s:Shared}{x:V}{a b:List α},Inv X pins σ H s->rL r X.K H x a->rL r X.K H x b->a=b:=by
  intro X pins σ H s x as bs I h1 h2
  obtain⟨a,xs,rfl,q1,p1⟩:=h1
  obtain⟨b,ys,e,q2,p2⟩:=h2
  cases e
  cases I.list_inj q1 q2
  exact Paired.uniq (F:=r X.K H) (λ_ _ _ z z'=>E.uniq I z z') p1 p2
 have rc:∀{X:Cx}{pins:List (Addr×Obj)}{σ:St}{H:Hp}{s:Shared}{x y:V}{v u:Value}{a b:List α}{A:Around},Inv X pins σ H s->YJ x v->YJ y u->rL r X.K H x a->rL r X.K H y b->A.units+(d+1)<cLine->SeqAt.RcAt A s v u (decide (a=b)):=by
  intro X pins σ H s x y v u as bs A I rx ry h1 h2 hu
  obtain⟨a,xs,rfl,q1,p1⟩:=h1
  obtain⟨b,ys,rfl,q2,p2⟩:=h2
  cases rx;cases ry
  obtain⟨its,r1,l1,_⟩:=I.list q1
  obtain⟨its2,r2,l2,_⟩:=I.list q2
  have n1:=r1.length
  have n2:=r2.length
  have m1:=Paired.len p1
  have m2:=Paired.len p2
  by_cases hl:as.length=bs.length
  ·have:=SeqAt.RcAt.lists (A:=A) (e:=λj=>decide (as[j]?=bs[j]?)) l1.isList l2.isList (by simp only[List.size_toArray];lia) (by lia) (V3 E I hu r1 r2 p1 p2)
   rw[show its.toArray.size=as.length by simp only[List.size_toArray];lia,C0 hl] at this
   exact this
  ·rw[decide_eq_false (λe=>hl (congrArg List.length e))]
   exact SeqAt.RcAt.lists_lengths l1.isList l2.isList (by simp only[List.size_toArray,bne_iff_ne];lia) (by lia)
 refine⟨un,?_,rc,?_,?_⟩
 ·intro X pins σ H s x y v u as bs A I rx ry h1 h2 hu
  obtain⟨a,xs,rfl,q1,p1⟩:=id h1
  obtain⟨b,ys,rfl,q2,p2⟩:=id h2
  have R:=rc (A:=A) I rx ry h1 h2 hu
  cases rx;cases ry
  by_cases e:a=b
  ·subst e
   rw[decide_eq_true (un I h1 h2)]
   exact SeqAt.EqAt.same _
  ·exact SeqAt.EqAt.of_refs e R
 ·intro X pins σ H s x y v u as bs A I rx ry h1 h2 hu
  obtain⟨a,xs,rfl,q1,p1⟩:=h1
  obtain⟨b,ys,rfl,q2,p2⟩:=h2
  cases rx;cases ry
  obtain⟨its,r1,l1,_⟩:=I.list q1
  obtain⟨its2,r2,l2,_⟩:=I.list q2
  have n1:=r1.length
  have n2:=r2.length
  have m1:=Paired.len p1
  have m2:=Paired.len p2
  by_cases hl:as.length=bs.length
  ·have:=SeqAt.RcNeAt.lists (A:=A) (e:=λj=>decide (as[j]?=bs[j]?)) l1.isList l2.isList (by simp only[List.size_toArray];lia) (by lia) (V3 E I hu r1 r2 p1 p2)
   rw[show its.toArray.size=as.length by simp only[List.size_toArray];lia,C0 hl] at this
   exact this
  ·rw[decide_eq_false (λe=>hl (congrArg List.length e))]
   exact SeqAt.RcNeAt.lists_lengths l1.isList l2.isList (by simp only[List.size_toArray,bne_iff_ne];lia) (by lia)
 ·intro K H H' x as e h
  obtain⟨a,xs,rfl,q1,p1⟩:=h
  exact⟨a,xs,rfl,e.seq q1,Paired.imp2 (λ_ _ z=>E.keep e z) p1⟩
end
section
variable {α β:Type}[DecidableEq α][DecidableEq β]{r:Enc α}{q:Enc β}{d:Nat}
end
section
variable {X:Cx}{α:Type}[DecidableEq α]{r:Enc α}{d:Nat}
noncomputable def Ng (K:PySem.W.Frag)(r:Enc α):R2:=λx y H Q=>∃ a b,r K H x a/\r K H y b/\Q (.bl (decide (a=b))) H
theorem Lw (E:EqOk r d)(hu:X.A.units+d<cLine):OpR X (compareOp .Eq) (Ng X.K r):=by
 intro pins s σ H x y v u Q I rx ry h
 obtain⟨a,b,h1,h2,q⟩:=h
 exact E.rc (A:=X.A) I rx ry h1 h2 hu _ _ _ _ ⟨.bl _,H,I,rfl,q⟩
theorem Z7:JB X (.builtin "isinstance") (λxs H Q=>∃ x n t b,xs=[x, .ty n]/\TyOf X.K H x t/\PySem.W.kitOne X.K t (.type n)=some b/\Q (.bl b) H):=by
 intro pins s σ H xs us Q I r h
 obtain⟨x,n,t,b,rfl,ty,e,q⟩:=h
 obtain⟨u,v,rfl,ru,rv⟩:=Yu.two r
 cases(show v=Value.type n from rv)
 exact Bp I ru ty e λtk=>⟨.bl b,H,I.tok tk,rfl,q⟩
theorem UW:OpR X (binaryOp .FloorDiv) (rI (λ_ j=>0<j/\j.natAbs.log2<9000) λi j=>.int (i/j)):=opI λi j _ _ _ _ _ hc q=>by
 refine floordiv_int (by lia) ?_ (.inl (PyProof.noPylong_of_log2 hc.2))
 rw[Int.fdiv_eq_ediv_of_nonneg i (by lia)]
 exact q
end
end L2
namespace PySem
open Sem (wp)
section
variable {prog:Program}{w:World}{A:Around}{E:Value->Shared->Prop}{s:Shared}
end
end PySem
namespace L2
open PySem PySem.Spec PyProof.Rows
theorem Uw {α β:Type}{F:α->β->Prop}:∀{l:List α}{m:List β}{i:Nat}{b:β},Paired F l m->m[i]?=some b->∃a,l[i]?=some a/\F a b
 |_,_,_,_, .nil,e=>by simp at e
 |_,_,0,_, .cons r _,e=>by simp at e;subst e;exact⟨_,rfl,r⟩
 |_,_,i+1,b, .cons _ t,e=>by
  obtain⟨a,h1,h2⟩:=Uw (i:=i) (b:=b) t (by simpa using e)
  exact⟨a,by simpa using h1,h2⟩
section
variable {X:Cx}{e:Expr}{te:TE}
noncomputable def Ni (K:PySem.W.Frag)(te ts:TE):TE:=λσ H Q=>te σ H λx H1=>ts σ H1 λy H2=>y= .int (-1)/\∃a xs,x= .ref a/\SqL K H2 a xs/\∀p,H2 p=none->Q (.ref p) (upd H2 p (.lst xs.reverse))
theorem Ci {st:Expr}{ts:TE}{p2 pos:Pos}(K:PySem.W.Frag)(hK:X.K=K)(he:PE X e te)(hst:PE X st ts):PE X (.Subscript e (.Slice none none (some st) p2) pos) (Ni K te ts):=by
 intro pins s σ H Q I h
 subst hK
 refine Subscript_ (thn (he pins s σ H _ I h) λv s1 r9=>?_)
 obtain⟨x,H1,I1,r1,q1⟩:=r9
 refine wpAny_Slice ?_
 rw[evalPart_none]
 refine wpAny_pure ?_
 refine wpAny_pure ?_
 rw[evalPart_some]
 refine thn (hst pins s1 σ H1 _ I1 q1) λvk s3 r9=>?_
 obtain⟨y,H3,I3,r3,ey,a,xs,ex,hx,q⟩:=r9
 subst ey ex
 cases r1
 obtain⟨t,rfl⟩:=r3
 have I4:Inv X pins σ H3 {s3 with heap:=s3.heap.push {cls:=.type "slice",data:=.fields #[.none, .none, .int (-1) t]}}:=I3.kept (t':=s3.toks) λb ob q=>Heap.get?_push_of_some _ q
 obtain⟨its,r,ht,hz⟩:=I4.list hx
 have hlen:=r.length
 have hg:wpAny (model X.prog X.w) X.A (getItem (.ref a) (.ref s3.heap.objs.size)) (EP X pins σ Q) X.xe {s3 with heap:=s3.heap.push {cls:=.type "slice",data:=.fields #[.none, .none, .int (-1) t]}}:=by
  refine wpAny_getItem_list_slice ht.isList (Heap.IsSliceOf.new ..) .none .none (.int (-1) t) (by decide) ?_ (by rw[List.size_toArray];lia)
  rw[PySem.W.krv_pick]
  refine⟨.ref _,_,I4.laid (t':=s3.toks) (o:=.lst xs.reverse) (λb ob q=>Heap.get?_push_of_some _ q) (Nat.le_refl _) ?_,rfl,q _ (I4.hok.fresh (Nat.le_refl _))⟩
  exact⟨by rw[List.length_reverse];exact hz,its.reverse,0,r.reverse,Heap.get?_push_size _ rfl⟩
 show wpAny (model X.prog X.w) X.A (subscriptTail e (.Slice none none (some st) p2) (.ref a) (.ref s3.heap.objs.size)) (EP X pins σ Q) X.xe _
 exact tail_any (ops:=[.ref a, .ref s3.heap.objs.size]) ht.isList.typeIs slot_list_getitem.lookup hg (by with_unfolding_all rfl)
noncomputable def M8 (K:PySem.W.Frag):List V->Hp->VK->Prop:=λxs H Q=>∃ (a:Addr) (ns:List Int),xs=[.ref a]/\SqL K H a (ns.map V.int)/\Q (.int ns.sum) H
theorem DN (hc:X.calm=true):JB X (.builtin "sum") (M8 X.K):=by
 intro pins s σ H xs us Q I r h
 obtain⟨a,ns,rfl,hq,q⟩:=h
 obtain⟨u,rfl,ru⟩:=Dv r
 cases ru
 obtain⟨its,rv,pl,hz⟩:=I.list hq
 have hi:IntsAre its ns:=Dr rv
 have hlen:=hi.length
 have hlt:a<s.heap.objs.size:=by obtain⟨o,n,ho,_⟩:=pl;exact Heap.lt_size ho
 refine call_sum_walkG ?_
 refine wpAny_pyIter_list pl.isList ?_
 have W:=Walks.list (prog:=X.prog) (w:=X.w) (A:=X.A.in1) (I.ok.hd hc) s.heap.objs.size a (Nat.ne_of_lt hlt) its.toArray
 refine⟨s.heap.objs.size,_,_,_,_,_,λi=>ns.getD i 0,rfl,W,⟨⟨_,Heap.get?_push_size _ rfl,rfl,rfl⟩,pl.isList.at λo e=>Heap.get?_push_of_some _ e⟩,λb hb=>?_,λi v hv=>?_,λh' tk t' hk=>?_⟩
 ·rcases List.mem_cons.mp hb with e |hb
  ·rw[e,Heap.size_push];exact Nat.lt_succ_self _
  ·rw[List.mem_singleton.mp hb,Heap.size_push];exact Nat.lt_succ_of_lt hlt
 ·have hv':its[i]?=some v:=by simpa using hv
  have hil:i<its.length:=(List.getElem?_eq_some_iff.mp hv').1
  obtain⟨x,ex,rx⟩:=Uw rv hv'
  rw[List.getElem?_map] at ex
  cases e:ns[i]? with
  |none=>rw[e] at ex;cases ex
  |some z=>
   rw[e] at ex
   have ex':V.int z=x:=Option.some.inj ex
   subst ex'
   obtain⟨t,rfl⟩:=rx
   exact⟨t,by simp[List.getD,e]⟩
 ·have I2:Inv X pins σ H {s with heap:=h',toks:=tk}:=I.kept (t':=tk) λb o e=>hk b o (λhm=>by
   rw[List.mem_singleton.mp hm] at e
   exact absurd (Heap.lt_size e) (Nat.lt_irrefl _)) (Heap.get?_push_of_some _ e)
  refine⟨.int ns.sum,H,I2,⟨t',?_⟩,q⟩
  rw[List.size_toArray,hlen,preSum_getD,List.take_length]
end
section
variable {X:Cx}{pins:List (Addr×Obj)}{σ:St}{H:Hp}{s:Shared}{h':Heap}
theorem Inv.turnLay {t':Nat}{ch:List Addr}{T:Addr}{u:HO}(I:Inv X pins σ H s)(k:∀b o,b∉ch->s.heap.get? b=some o->h'.get? b=some o)(hf:∀b∈ch,FY X pins H b)
  (hp:s.heap.objs.size<=T)(new:Zl X.prog X.w (upd H T u) h' T u):Inv X pins σ (upd H T u) {s with heap:=h',toks:=t'}:=by
 have hn:H T=none:=I.hok.fresh hp
 have nit:∀b o,H b=some o->b∉ch:=λb o e z=>by rw[(hf b z).1] at e;cases e
 refine I.step (g':=s.gens) (d':=s.drawn) (ch:=ch) (λb hb=>?_) (λb o _ _ hc e _=>k b o hc e) (λb o _ _ hc e _=>⟨o.slots,k b o hc e⟩)
  (λb o _ e n=>by rw[XY (Nat.ne_of_lt (Nat.lt_of_lt_of_le (Heap.lt_size e) hp))];exact n)
  (λb o hc e=>⟨o,k b o hc e⟩) (λb xs e=>by rw[XY (Ye e hn)];exact e) (λb o xs e=>by rw[XY (Ye e hn)];exact e) (λb ps e=>⟨#[],by rw[XY (Ye e hn),e];simp⟩) (λm hm=>?_) (λb v e=>?_) I.bare
 ·obtain⟨f0,f1,f2,f3,f4,f5⟩:=hf b hb
  exact⟨f3,f1,f4,f5⟩
 ·obtain⟨o,es,ep,ho,r⟩:=hm
  exact⟨o,es,ep,k _ o (λz=>(hf _ z).2.1 rfl) ho,r⟩
 ·by_cases hb:b=T
  ·subst hb;rw[Y1] at e;cases e;exact new
  ·rw[XY hb] at e
   refine(I.hok b v e).stay (λc o hc q=>k c o ?_ q) (λc q=>by rw[XY (Ye q hn)];exact q) λc xs q=>by rw[XY (Ye q hn)];exact q
   rcases hc with z |z
   ·rw[z];exact nit b v e
   ·exact nit c _ z
end
noncomputable def Ite (K:PySem.W.Frag)(a:Addr):It:=
 ⟨λi H=>∃ xs x,SqL K H a xs/\xs[i]?=some x,λi H y H'=>∃ p x,y= .ref p/\H p=none/\H'=upd H p (.tup [.int (i:Int),x])/\∀xs,SqL K H a xs->xs[i]?=some x,λi H=>∃ xs,SqL K H a xs/\xs.length<=i⟩
theorem BS {P:Program}{w:World}{K:PySem.W.Frag}{elts:List Expr}{k:Nat}{pos:Pos}(a e it:Addr)(h1:e≠it)(h2:a≠e)(h3:a≠it):
  Turn P w K (.Tuple elts k pos) (Ite K a) [e,it] e (λi h=>(∃old,IsEnum h e it (i:Int) old)/\h.IsListIter it a i) where
 mem:=by simp
 obj:=λi h st b hb=>by
  obtain⟨⟨old,eo⟩,o,io,c,d⟩:=st
  rcases List.mem_cons.mp hb with z |z
  ·subst z
   exact⟨_,eo,λv z=>by cases z⟩
  ·have z:=List.mem_singleton.mp z
   subst z
   exact⟨o,io,λv z=>by rw[d] at z;cases z⟩
 keep:=λi h h' st k=>⟨let ⟨old,eo⟩:=st.1;⟨old,k e (by simp) _ eo⟩,st.2.at λo q=>k it (by simp) o q⟩
 item:=by
  intro X hP hw hK hc i pins s σ H E I hf st hg
  subst hP hw hK
  obtain⟨xs,x,hq,hx⟩:=hg
  obtain⟨its,rv,p,hz⟩:=I.list hq
  obtain⟨u,hu,ru⟩:=rv.get hx
  obtain⟨⟨old,eo⟩,io⟩:=id st
  have hu':its.toArray[i]?=some u:=by simpa using hu
  have W:=WalksT.enumerate (prog:=X.prog) (w:=X.w) (A:=X.A) (I.ok.hd hc) e it a h1 h2 h3 its.toArray
  refine wpAny_pyNext_enum_item eo io p.isList hu' h1 λh' eo' io' tup sz kk=>?_
  have hT:∀b o,s.heap.get? b=some o->s.heap.objs.size≠b:=λb o q z=>absurd (Heap.lt_size q) (by rw[←z];exact Nat.lt_irrefl _)
  have hTe:=hT e _ eo
  have hTi:s.heap.objs.size≠it:=by obtain⟨o,q,_⟩:=io;exact hT it o q
  have ha':h'.IsList a its.toArray:=p.isList.at λo q=>kk a o h2 h3 q
  refine⟨_,rfl,W.go elts k pos i s.heap.objs.size _ _ _ ⟨⟨_,eo'⟩,io',ha',hTe,hTi⟩ λh'' st' kk'=>?_⟩
  obtain⟨st2,io2,_⟩:=st'
  have tup2:=kk' _ _ (by simp[hTe,hTi]) tup
  have k2:∀b o,b∉ [e,it]->s.heap.get? b=some o->h''.get? b=some o:=λb o q1 q=>kk' b o q1 (kk b o (λz=>q1 (by simp[z])) (λz=>q1 (by simp[z])) q)
  refine⟨.ref s.heap.objs.size,upd H s.heap.objs.size (.tup [.int (i:Int),x]),I.turnLay (h':=h'') (t':=s.toks+1) k2 hf (Nat.le_refl _) ⟨by show 2<=sizeLine;decide,[.int (i:Int) s.toks,u], .cons ⟨_,rfl⟩ (.cons ru .nil),⟨_,tup2,⟨rfl,rfl⟩,_,rfl⟩⟩,rfl,
   ⟨_,x,rfl,I.hok.fresh (Nat.le_refl _),rfl,λys hy=>by rw[I.list_inj hy hq];exact hx⟩,⟨by simpa using st2,io2⟩,λb hb=>?_⟩
  rcases List.mem_cons.mp hb with z |z
  ·rw[z,XY hTe.symm];exact(hf e (by simp)).1
  ·rw[List.mem_singleton.mp z,XY hTi.symm];exact(hf it (by simp)).1
 done:=by
  intro X hP hw hK hc i pins s σ H E I hf st hg
  subst hP hw hK
  obtain⟨xs,hq,hx⟩:=hg
  obtain⟨its,rv,p,hz⟩:=I.list hq
  obtain⟨⟨old,eo⟩,io⟩:=id st
  obtain⟨f0,f1,f2,f3,f4,f5⟩:=hf it (by simp)
  have hl:=rv.length
  exact wpAny_pyNext_enum_end (I.ok.hd hc) eo io p.isList (by simp;lia) λh' eb=>⟨rfl,I.turned (t':=s.toks) (λb o hb q=>eb b o hb q) f0 f1 f3 f4 f5⟩
 self:=by
  intro A i s Q E st h
  obtain⟨⟨old,eo⟩,io⟩:=st
  exact wpAny_pyIter_enum eo h
section
variable {X:Cx}{elts:List Expr}{k:Nat}{pos0:Pos}
noncomputable def L9 (K:PySem.W.Frag)(tl:TE):TI:=λσ H R=>tl σ H λx H1=>∃ a,x= .ref a/\(∃xs,SqL K H1 a xs)/\R (Ite K a) H1
theorem Lj {l:Expr}{tl:TE}{p pos:Pos}(hg:Gl X "enumerate")(hm:X.mg "enumerate" =none)(hl:PE X l tl)(hs:starEach [l] X.env=[(false,eval l X.env)]:=by rfl):
  PI X (.Tuple elts k pos0) (.Call (.Name "enumerate" p) [l] [] pos) (L9 X.K tl):=by
 intro pins s σ H R I h
 refine wpAny_Call_Name_kw (Vi I hg hm boot_enumerate ?_)
 refine PyProof.Rows.callWith_type1 ?_ hs rfl
 rw[hs]
 show wpAny _ _ (spliced ((false,eval l X.env)::backTo pos [])) _ _ s
 refine Calls.spliced_cons (thn (hl pins s σ H _ I h) λv s1 ⟨x,H1,I1,r1,a,ex,⟨xs,hq⟩,q⟩=>?_)
 subst ex
 cases r1
 obtain⟨its,rv,pl,hz⟩:=I1.list hq
 refine Calls.spliced_nil ?_
 have hlt:a<s1.heap.objs.size:=by obtain⟨o,n,ho,_⟩:=pl;exact Heap.lt_size ho
 refine call_enumerate_list pl.isList λh' en io sz kk=>?_
 refine wpAny_pyIter_enum en ?_
 refine⟨_,[s1.heap.objs.size+1,s1.heap.objs.size],_,_,H1,rfl,I1.kept (t':=s1.toks) kk,BS a _ _ (Nat.ne_of_gt (Nat.lt_succ_self _)) (Nat.ne_of_lt (Nat.lt_succ_of_lt hlt)) (Nat.ne_of_lt hlt),⟨⟨_,en⟩,io⟩,λb hb=>?_,q⟩
 have hb':s1.heap.objs.size<=b:=by
  rcases List.mem_cons.mp hb with z |z
  ·rw[z];exact Nat.le_succ _
  ·rw[List.mem_singleton.mp z];exact Nat.le_refl _
 exact I1.fpOk hb' (I1.hok.fresh hb')
end
noncomputable def Cw (K:PySem.W.Frag):V->List V->Hp->VK->Prop:=λx vs H Q=>∃ l xs y,∃j:Nat,x= .ref l/\vs=[y]/\SqL K H l xs/\JR y=true/\xs.all JR=true/\(∃z,xs[j]?=some z/\eqV z y=true)/\(∀(m:Nat) z,m<j->xs[m]?=some z->eqV z y=false)/\Q (.int (j:Int)) H
section
variable {X:Cx}
theorem Em:MtR X "list.index" (Cw X.K):=by
 intro pins s σ H x vs v us Q I rx rv h
 obtain⟨l,xs,y,j,rfl,rfl,hq,fy,fs,⟨z,hz,ez⟩,hm,q⟩:=h
 cases rx
 obtain⟨u,rfl,ry⟩:=Yu.one rv
 obtain⟨its,r,pl,hle⟩:=I.list hq
 have hl:=r.length
 have hjl:=(List.getElem?_eq_some_iff.mp hz).1
 have ge:∀(m:Nat) (w:V),xs[m]?=some w->∀hm:m<its.toArray.size,eqU y its.toArray[m]=eqV w y:=λm w hw hm=>by
  obtain⟨u',hu',ru'⟩:=r.get hw
  have e:its.toArray[m]=u':=by
   have:=(List.getElem?_eq_some_iff.mp hu').2
   simpa using this
  rw[e]
  exact Ca ru' (List.all_eq_true.mp fs w (List.mem_of_getElem? hw))
 obtain⟨o,n,ho,hc,hd,hs⟩:=id pl
 obtain⟨cls,dict,data,slots⟩:=o
 cases hc;cases hd;cases hs
 refine call_meets F.slot_list_index ⟨_,ho,rfl⟩ F.entry_list_index (F.args_list_index_2 _ _) (SeqAt.list_indexAt l its.toArray n none slots u (eqU y) j (by rw[List.size_toArray];lia) ?_ ?_ ?_) ⟨ho,λw hw=>JW ry fy r fs w (by simpa using hw),?_⟩
 ·have:sizeLine<2^63-1:=by decide
  lia
 ·rw[ge j z hz];exact ez
 ·intro m hm' hlt
  rw[ge m xs[m] (List.getElem?_eq_getElem (by lia))]
  exact hm m _ hlt (List.getElem?_eq_getElem (by lia))
 ·exact⟨.int (j:Int),H,I.tok _,⟨_,rfl⟩,q⟩
end
section
variable {α:Type}[DecidableEq α]{r:Enc α}{d:Nat}
end
section
variable {X:Cx}{o e f:Expr}{td ty tx:TE}{apos cpos:Pos}
end
section
variable {X:Cx}{elt tg iter:Expr}{ifs:List Expr}{scope sc:Scope}{pos:Pos}{n:Nat}{tns:List Str}{caps:List (Nat×Str)}{wi:TI}{g:TG}{tt:TT}{te:TE}
end
theorem VN:∀(xs:List V) (us:List Value),xs.length=us.length->(∀(j:Nat) x u,xs[j]?=some x->us[j]?=some u->YJ x u)->Yu xs us
 | [],[],_,_=>.nil
 | [],_::_,h,_=>by simp at h
 |_::_,[],h,_=>by simp at h
 |x::xs,u::us,h,r=>.cons (r 0 x u rfl rfl) (VN xs us (by simpa using h) λj y v e1 e2=>r (j+1) y v (by simpa using e1) (by simpa using e2))
noncomputable def Fc (ta:TA):TE:=λσ H Q=>ta σ H λvs H1=>∃ j:Int,vs=[.int j]/\0<=j/\j<=1000/\∀p,H1 p=none->Q (.ref p) (upd H1 p (.lst ((List.range j.toNat).map λi=>V.int ((i:Nat):Int))))
variable {X:Cx}
theorem Kr {e:Expr}{ta:TA}{p q q2 pos:Pos}(hc:X.calm=true)(hg:Gl X "list")(hg2:Gl X "range")(hm:X.mg "list" =none)(hm2:X.mg "range" =none)(ha:PA X [e] ta)
  (hs:starEach [.Call (.Name "range" q) [e] [] q2] X.env=[(false,eval (.Call (.Name "range" q) [e] [] q2) X.env)]:=by rfl)(hs2:starEach [e] X.env=[(false,eval e X.env)]:=by rfl):
  PE X (.Call (.Name "list" p) [.Call (.Name "range" q) [e] [] q2] [] pos) (Fc ta):=by
 intro pins s σ H Q I h
 refine wpAny_Call_Name_kw (Vi I hg hm PyProof.Rows.boot_list ?_)
 refine PyProof.Rows.callWith_type1 ?_ hs rfl
 rw[hs]
 show wpAny _ _ (spliced ((false,eval (.Call (.Name "range" q) [e] [] q2) X.env)::backTo pos [])) _ _ s
 refine Calls.spliced_cons ?_
 refine wpAny_Call_Name_kw (Vi I hg2 hm2 boot_range ?_)
 refine PyProof.Rows.callWith_type1 (thn (ha q2 pins s σ H _ I h) λus s1 r9=>?_) hs2 rfl
 obtain⟨vs,H1,I1,r1,q1⟩:=r9
 obtain⟨j,e,h0,h1,k⟩:=q1
 subst e
 cases r1 with
 |cons r rr=>
  cases rr
  obtain⟨t,rfl⟩:=r
  refine call_range_1 ?_
  refine Calls.spliced_nil ?_
  refine call_list_range (n:=j.toNat) (I.ok.hd hc) (IsRange.new ..) (small_one (by lia) (by lia) (by lia) (by lia)) (by rw[rangeSize_one];split<;> lia) (by lia) λh' tk acc' c' hk hS hacc=>?_
  refine⟨.ref _,_,I1.laid (h':=h') (t':=tk) (o:=.lst ((List.range j.toNat).map λi=>V.int ((i:Nat):Int))) (λb o e=>hk b o (Heap.get?_push_of_some _ e)) (by rw[Heap.size_push];exact Nat.le_succ _) ?_,rfl,k _ (I1.hok.fresh (by rw[Heap.size_push];exact Nat.le_succ _))⟩
  refine⟨by rw[List.length_map,List.length_range];exact Nat.le_of_lt (CB (by lia)),acc'.toList,c',VN _ _ (by simp[hacc.1]) λi x u e1 e2=>?_,hS⟩
  have e2':acc'[i]?=some u:=by simpa using e2
  obtain⟨tk,rfl⟩:=hacc.2 i u e2'
  rw[List.getElem?_map] at e1
  cases e3:(List.range j.toNat)[i]? with
  |none=>rw[e3] at e1;cases e1
  |some z=>
   rw[e3] at e1
   have hz:z=i:=by
    have hi:i<j.toNat:=by have:=(List.getElem?_eq_some_iff.mp e3).1;simpa using this
    rw[List.getElem?_range hi] at e3
    exact(Option.some.inj e3).symm
   subst hz
   have:x=V.int (z:Int):=(Option.some.inj e1).symm
   subst this
   exact⟨tk,by simp⟩
theorem Q9 {l:List Expr}{p:Pos}{es:List Expr}{env:Env}:starEach (.List l p::es) env=(false,eval (.List l p) env)::starEach es env:=rfl
theorem Uu {X:Cx}{l:List Expr}{p:Pos}{es:List Expr}{te:TE}{t:TA}(ha:PE X (.List l p) te)(hr:PA X es t):PA X (.List l p::es) (XM te t):=Xd ha hr Q9
theorem KS {X:Cx}(K:PySem.W.Frag)(h:X.K=K):MtR X "list.index" (Cw K):=by subst h;exact Em
variable {X:Cx}{o e:Expr}{es:List Expr}{to:TE}{t:TA}{name:Str}{apos cpos:Pos}{T id:String}{r:V->List V->Hp->VK->Prop}
theorem L0 (K:PySem.W.Frag)(hK:X.K=K)(pa:PlainAttrs T)(slot:Slot T name id)(hty:typeOf (.builtin id)=pure (.type "method_descriptor"))(hm:MtR X id r)(ho:PE X o to)(ha:PA X (e::es) t)
  (hbase:attributeBase o name X.env (eval o X.env)=eval o X.env:=by rfl)
  (hfew:((backTo cpos (starEach (e::es) X.env)).all (λx=>!x.1)&&(backToKw cpos (keywordEach [] X.env)).all (λx=>x.1.isSome)
   &&decide ((e::es).length+([]:List Keyword).length+(if([]:List Keyword).isEmpty then 0 else 1)<30))=true:=by rfl)
  (hline:(apos.endLine==cpos.line)=true:=by rfl)(hs:starEach (e::es) X.env=(false,eval e X.env)::starEach es X.env:=by rfl)(hplain:(backTo cpos (starEach es X.env)).any (·.1)=false:=by rfl):
  PE X (.Call (.Attribute o name apos) (e::es) [] cpos) (tBM K T r to t):=by
 subst hK
 exact Zk pa slot hty hm ho ha hbase hfew hline hs hplain
end L2
namespace PySem
open PySem.Spec
namespace SeqAt
open MeetsSeq
end SeqAt
end PySem
namespace L2
open PySem PySem.Spec PyProof.Rows
section
variable {X:Cx}
end
noncomputable def Nb (K:PySem.W.Frag):List V->Hp->VK->Prop:=λxs H Q=>∃ (a:Addr) (bs:List Bool),xs=[.ref a]/\SqL K H a (bs.map V.bl)/\Q (.bl (bs.all id)) H
section
variable {X:Cx}
theorem Ma:∀(bs:List Bool),((List.range bs.length).all λi=>(bs[i]?).getD true)=bs.all id:=λbs=>by
 rw[Bool.eq_iff_iff,List.all_eq_true,List.all_eq_true]
 constructor
 ·intro h b hb
  obtain⟨i,hi,rfl⟩:=List.getElem_of_mem hb
  have:=h i (List.mem_range.mpr hi)
  simpa[List.getElem?_eq_getElem hi] using this
 ·intro h i hi
  have hi':=List.mem_range.mp hi
  simpa[List.getElem?_eq_getElem hi'] using h _ (List.getElem_mem hi')
theorem CQ (hc:X.calm=true):JB X (.builtin "all") (Nb X.K):=by
 intro pins s σ H xs us Q I r h
 obtain⟨a,bs,rfl,hq,q⟩:=h
 obtain⟨u,rfl,ru⟩:=Dv r
 cases ru
 obtain⟨its,rv,pl,hz⟩:=I.list hq
 have hlen:bs.length=its.length:=by have:=rv.length;rwa [List.length_map] at this
 have hlt:a<s.heap.objs.size:=by obtain⟨o,n,ho,_⟩:=pl;exact Heap.lt_size ho
 refine call_all_walk (wpAny_pyIter_list pl.isList ?_)
 refine⟨s.heap.objs.size,[s.heap.objs.size,a],[s.heap.objs.size],its.toArray.size,_,_,λi=>(bs[i]?).getD true,rfl,Walks.list (A:=X.A.in1) (I.ok.hd hc) _ a (Nat.ne_of_lt hlt) its.toArray,
  ⟨⟨_,Heap.get?_push_size _ rfl,rfl,rfl⟩,pl.isList.at λo e=>Heap.get?_push_of_some _ e⟩,λi v s' Q' E' hP hQ=>?_,λh' tk hk=>?_⟩
 ·have hv':its[i]?=some v:=by simpa using hP
  obtain⟨x,ex,rx⟩:=Uw rv hv'
  rw[List.getElem?_map] at ex
  cases e:bs[i]? with
  |none=>rw[e] at ex;cases ex
  |some z=>
   rw[e] at ex
   have ex':V.bl z=x:=Option.some.inj ex
   subst ex'
   cases rx
   simp only[e,Option.getD_some] at hQ
   exact wpAny_truthy_bool hQ
 ·have e:((List.range its.toArray.size).all λi=>(bs[i]?).getD true)=bs.all id:=by
   rw[List.size_toArray, ←hlen];exact Ma bs
  rw[e]
  have I2:Inv X pins σ H {s with heap:=h',toks:=tk}:=I.kept (t':=tk) λb o e=>hk b o (λhm=>by
   rw[List.mem_singleton.mp hm] at e
   exact absurd (Heap.lt_size e) (Nat.lt_irrefl _)) (Heap.get?_push_of_some _ e)
  exact⟨.bl (bs.all id),H,I2,rfl,q⟩
end
section
variable {X:Cx}{α:Type}[DecidableEq α]{r:Enc α}{d:Nat}
end
section
variable {X:Cx}
end
section
variable {X:Cx}
variable {T:String}{name:Str}{id:String}{r:V->List V->Hp->VK->Prop}{o e:Expr}{es:List Expr}{to:TE}{t:TA}{apos cpos:Pos}
theorem Hl {K:PySem.W.Frag}(hK:X.K=K)(pa:PlainAttrs T)(slot:Slot T name id)(hty:typeOf (.builtin id)=pure (.type "method_descriptor"))(hm:MtR X id r)(ho:PE X o to)(ha:PA X (e::es) t)
  (hbase:attributeBase o name X.env (eval o X.env)=eval o X.env:=by rfl)
  (hfew:((backTo cpos (starEach (e::es) X.env)).all (λx=>!x.1)&&(backToKw cpos (keywordEach [] X.env)).all (λx=>x.1.isSome)
   &&decide ((e::es).length+([]:List Keyword).length+(if([]:List Keyword).isEmpty then 0 else 1)<30))=true:=by rfl)
  (hline:(apos.endLine==cpos.line)=true:=by rfl)(hs:starEach (e::es) X.env=(false,eval e X.env)::starEach es X.env:=by rfl)(hplain:(backTo cpos (starEach es X.env)).any (·.1)=false:=by rfl):
  PE X (.Call (.Attribute o name apos) (e::es) [] cpos) (tBM K T r to t):=L0 K hK pa slot hty hm ho ha hbase hfew hline hs hplain
end
section
variable {X:Cx}{elt tg iter:Expr}{ifs:List Expr}{scope:Scope}{pos:Pos}{wi:TI}{g:TG}{tt:TT}{te:TE}
theorem Zq {sc:Scope}{N0:List Str}{tns:List Str}{caps:List (Nat×Str)}(hc:X.calm=true)(hi:PI X tg iter wi)(hG:VZ tns.length g)
  (hb:∀cl C s H ex E,PG (X.comp (tns++caps.map (·.2)) scope cl C s H ex E) tg g/\PTs (X.comp (tns++caps.map (·.2)) scope cl C s H ex E) ifs tt/\PE (X.comp (tns++caps.map (·.2)) scope cl C s H ex E) elt te)
  (hsc:X.env.scope=sc:=by rfl)(hN0:X.N=N0:=by rfl)(ok:Kp sc scope N0 tns caps=true:=by decide+kernel)
  (hs:∀x,foldedSetIterable iter X.env x=pure x:=by intro _;rfl):
  PE X (.ListComp elt [⟨tg,iter,ifs,0⟩] scope pos) (Cy tns.length caps wi g tt te):=HH sc N0 tns caps hc hi hG hb hsc hN0 ok hs
end
section
variable {X:Cx}{tg l:Expr}{tl:TE}{p pos:Pos}{K:PySem.W.Frag}
theorem XE (h:X.K=K)(hl:PE X l tl):PI X tg l (Ib K tl):=by subst h;exact Ia hl
end
noncomputable def KO:List Int->Int
 | []=>0
 |a::r=>r.foldl max a
theorem Fe (ns:List Int):∀k,k<ns.length->ns.getD (argBest (λi j=>decide (ns.getD i 0 > ns.getD j 0)) k) 0=KO (ns.take (k+1))
 |0,h=>by
  cases ns with
  |nil=>simp at h
  |cons a r=>simp[argBest,KO]
 |k+1,h=>by
  have ih:=Fe ns k (by lia)
  have e:KO (ns.take (k+1+1))=max (KO (ns.take (k+1))) (ns.getD (k+1) 0):=by
   rw[List.take_succ_eq_append_getElem h]
   cases ns with
   |nil=>simp at h
   |cons a r=>
    rw[List.take_succ_cons]
    simp only[KO,List.cons_append,List.foldl_append,List.foldl_cons,List.foldl_nil]
    rw[List.getD_eq_getElem?_getD,List.getElem?_eq_getElem h]
    rfl
  rw[e, ←ih]
  show ns.getD (if(decide (ns.getD (k+1) 0 > ns.getD (argBest _ k) 0))=true then k+1 else argBest _ k) 0=_
  by_cases hc:ns.getD (k+1) 0 > ns.getD (argBest (λi j=>decide (ns.getD i 0 > ns.getD j 0)) k) 0
  ·rw[if_pos (by simpa using hc)];lia
  ·rw[if_neg (by simpa using hc)];lia
section
variable {X:Cx}
theorem BQ {its:List Value}{ns:List Int}(rv:Yu (ns.map V.int) its):∀(i:Nat) (v:Value),its.toArray[i]?=some v->∃t,v=Value.int (ns.getD i 0) t:=λi v hv=>by
 have hv':its[i]?=some v:=by simpa using hv
 obtain⟨x,ex,rx⟩:=Uw rv hv'
 rw[List.getElem?_map] at ex
 cases e:ns[i]? with
 |none=>rw[e] at ex;cases ex
 |some z=>
  rw[e] at ex
  have ex':V.int z=x:=Option.some.inj ex
  subst ex'
  obtain⟨t,rfl⟩:=rx
  exact⟨t,by simp[List.getD,e]⟩
noncomputable def Mt (K:PySem.W.Frag)(f:List Int->Int):List V->Hp->VK->Prop:=λxs H Q=>∃ (a:Addr) (ns:List Int),xs=[.ref a]/\SqT K H a (ns.map V.int)/\0<ns.length/\Q (.int (f ns)) H
theorem KD (K:PySem.W.Frag)(hK:X.K=K)(hc:X.calm=true):JB X (.builtin "max") (Mt K KO):=by
 subst hK
 intro pins s σ H xs us Q I r h
 obtain⟨a,ns,rfl,hq,hne,q⟩:=h
 obtain⟨u,rfl,ru⟩:=Dv r
 cases ru
 obtain⟨its,rv,pl,hz⟩:=I.tuple hq
 have hlen:its.length=ns.length:=by have:=rv.length;simpa using this.symm
 have hlt:a<s.heap.objs.size:=by obtain⟨o,ho,_⟩:=pl;exact Heap.lt_size ho
 refine call_max_walk (wpAny_pyIter_tuple pl ?_)
 refine⟨s.heap.objs.size,_,_,_,_,_,_,rfl,Walks.tuple (prog:=X.prog) (w:=X.w) (A:=X.A.in1) (I.ok.hd hc) s.heap.objs.size a (Nat.ne_of_lt hlt) its.toArray,⟨⟨_,Heap.get?_push_size _ rfl,rfl,rfl⟩,(show s.heap.IsTuple a its.toArray from pl).at λo e=>Heap.get?_push_of_some _ e⟩,λb hb=>?_,by rw[List.size_toArray,hlen];exact hne,CmpOf.ints_gt (λi=>ns.getD i 0) (BQ rv),λv h' tk hP hk=>?_⟩
 ·rcases List.mem_cons.mp hb with e |hb
  ·rw[e,Heap.size_push];exact Nat.lt_succ_self _
  ·rw[List.mem_singleton.mp hb,Heap.size_push];exact Nat.lt_succ_of_lt hlt
 ·have I2:Inv X pins σ H {s with heap:=h',toks:=tk}:=I.kept (t':=tk) λb o e=>hk b o (λhm=>by
   rw[List.mem_singleton.mp hm] at e
   exact absurd (Heap.lt_size e) (Nat.lt_irrefl _)) (Heap.get?_push_of_some _ e)
  obtain⟨t,rfl⟩:=BQ rv _ _ hP
  refine⟨.int (KO ns),H,I2,⟨t,?_⟩,q⟩
  rw[List.size_toArray,hlen,Fe ns (ns.length-1) (by lia),show ns.length-1+1=ns.length by lia,List.take_length]
theorem IN (K:PySem.W.Frag)(h:X.K=K):SlR X (M3 K):=by subst h;exact Mo
end
set_option genInjectivity true in
set_option genSizeOf true in
inductive Pay where
 |non |int (i:Int) |tag (t:Str) (xs:List Int)
 deriving DecidableEq
structure Exc where
 cls:Str
 pay:Pay
set_option genInjectivity true in
set_option genSizeOf true in
inductive Rs (α:Type) where
 |bad |err (x:Exc) |ok (a:α)
noncomputable def Rs.bind {α β:Type}:Rs α->(α->Rs β)->Rs β
 | .bad,_=>.bad
 | .err x,_=>.err x
 | .ok a,f=>f a
theorem Rs.ok_bind {α β:Type}(a:α)(f:α->Rs β):(Rs.ok a).bind f=f a:=rfl
noncomputable def chk {α:Type}(c:Prop)[Decidable c](m:Rs α):Rs α:=if c then m else .bad
theorem XG {α:Type}{c:Prop}[Decidable c]{m:Rs α}(h:c):chk c m=m:=if_pos h
noncomputable abbrev XA:=Addr×HO
noncomputable def Ln:HO->Bool
 | .lst _=>true
 | .dK _=>true
 | .dT _=>true
 |_=>false
noncomputable def fl (OO:List (List XA)):List Addr:=OO.flatten.map (·.1)
open Classical in
noncomputable def hid (H:Hp)(OO:List (List XA)):Hp:=λb=>if b∈fl OO then none else H b
structure W (OO:List (List XA))(H:Hp):Prop where
 tr:∀c∈OO.flatten,H c.1=some c.2
 nd:(fl OO).Nodup
 mu:∀c∈OO.flatten,Ln c.2=true
theorem YB {H:Hp}{OO}{b:Addr}{o:HO}(h:hid H OO b=some o):H b=some o/\b∉fl OO:=by
 unfold hid at h
 split at h
 ·cases h
 ·exact⟨h,by assumption⟩
theorem ZW {H:Hp}{OO}{b:Addr}{o:HO}(h:H b=some o)(n:b∉fl OO):hid H OO b=some o:=by
 unfold hid;rw[if_neg n];exact h
theorem XS {H:Hp}{OO}:XJ (hid H OO) H:=λb o h=>(YB h).1
theorem Xl {H H':Hp}{OO}(s:XJ H H'):XJ (hid H OO) (hid H' OO):=λb o h=>ZW (s _ _ (YB h).1) (YB h).2
theorem QZ {H H':Hp}{OO OO'}(s:XJ H H')(h:∀b,b∈fl OO'->b∈fl OO):XJ (hid H OO) (hid H' OO'):=λb o q=>ZW (s _ _ (YB q).1) λz=>(YB q).2 (h b z)
theorem Yz {C:List XA}{OO}:fl (C::OO)=C.map (·.1)++fl OO:=by simp[fl]
theorem Cr {OO}:fl ([]::OO)=fl OO:=by simp[fl]
theorem ZU {H:Hp}{OO}:hid H ([]::OO)=hid H OO:=by unfold hid;rw[Cr]
theorem W.keep {OO}{H H':Hp}(w:W OO H)(s:XJ H H'):W OO H':=⟨λc hc=>s _ _ (w.tr c hc),w.nd,w.mu⟩
theorem W.of {OO OO':List (List XA)}{H:Hp}(w:W OO H)(h:OO'.flatten.Perm OO.flatten):W OO' H:=
 ⟨λc hc=>w.tr c (h.mem_iff.mp hc),(h.map _).nodup_iff.mpr w.nd,λc hc=>w.mu c (h.mem_iff.mp hc)⟩
theorem W.sub {OO OO':List (List XA)}{H:Hp}(w:W OO H)(h:OO'.flatten.Sublist OO.flatten):W OO' H:=
 ⟨λc hc=>w.tr c (h.mem hc),(h.map _).nodup w.nd,λc hc=>w.mu c (h.mem hc)⟩
theorem W.tail {C OO}{H:Hp}(w:W (C::OO) H):W OO H:=w.sub (by simp)
theorem W.nil {OO}{H:Hp}(w:W OO H):W ([]::OO) H:=w.of (by simp)
theorem W.cell {C OO}{H:Hp}(w:W (C::OO) H):∀c∈C,H c.1=some c.2:=λc hc=>w.tr c (by simp[hc])
theorem V5 {OO:List (List XA)}{c:XA}(h:c∈OO.flatten):c.1∈fl OO:=List.mem_map.mpr ⟨c,h,rfl⟩
theorem DW {OO:List (List XA)}{b:Addr}(h:b∈fl OO):∃o,(b,o)∈OO.flatten:=by
 obtain⟨⟨a,o⟩,hc,rfl⟩:=List.mem_map.mp h
 exact⟨o,hc⟩
theorem W.fresh {OO}{H:Hp}(w:W OO H){p:Addr}(h:H p=none):p∉fl OO:=λz=>by
 obtain⟨o,ho⟩:=DW z
 have:=w.tr _ ho
 rw[h] at this;cases this
theorem W.new {OO}{H:Hp}(w:W OO H){p:Addr}(h:H p=none){o:HO}(m:Ln o=true):W ([(p,o)]::OO) (upd H p o):=by
 have hf:=w.fresh h
 refine⟨λc hc=>?_,?_,λc hc=>?_⟩
 ·simp only[List.flatten_cons,List.cons_append,List.nil_append,List.mem_cons] at hc
  rcases hc with rfl |hc
  ·exact Y1
  ·rw[XY (λe=>hf (by rw[←e];exact V5 hc))];exact w.tr c hc
 ·rw[Yz];simpa using ⟨hf,w.nd⟩
 ·simp only[List.flatten_cons,List.cons_append,List.nil_append,List.mem_cons] at hc
  rcases hc with rfl |hc
  ·exact m
  ·exact w.mu c hc
theorem UY {OO}{H:Hp}{p:Addr}(h:H p=none){o:HO}:XJ (hid H OO) (hid (upd H p o) ([(p,o)]::OO)):=λb u q=>by
 obtain⟨q1,q2⟩:=YB q
 have hb:b≠p:=Ye q1 h
 refine ZW (by rw[XY hb];exact q1) ?_
 rw[Yz];simpa using ⟨hb,q2⟩
theorem Jh {OO}{H:Hp}(w:W OO H){p:Addr}(h:H p=none){o:HO}:hid (upd H p o) OO p=some o:=ZW Y1 (w.fresh h)
class MonoE {α:Type}(r:Enc α):Prop where
 mono:∀{K:PySem.W.Frag}{H H':Hp}{v:V}{a:α},XJ H H'->r K H v a->r K H' v a
noncomputable def Nq:HO->Bool
 | .tup _=>true
 | .frz _ _=>true
 |_=>false
noncomputable def Dq (H H':Hp):Prop:=∀ b o,H b=some o->Nq o=true->H' b=some o
theorem XJ.i {H H':Hp}(s:XJ H H'):Dq H H':=λb o h _=>s b o h
theorem W.i {OO}{H:Hp}(w:W OO H):Dq H (hid H OO):=λb o h i=>ZW h λz=>by
 obtain⟨u,hu⟩:=DW z
 have h1:=w.tr _ hu
 have h2:=w.mu _ hu
 rw[h] at h1
 have e:o=u:=Option.some.inj h1
 subst e
 revert i h2;cases o<;> simp[Nq,Ln]
class FlatE {α:Type}(r:Enc α):Prop where
 flat:∀{K:PySem.W.Frag}{H H':Hp}{v:V}{a:α},Dq H H'->r K H v a->r K H' v a
noncomputable instance {α:Type}{r:Enc α}[f:FlatE r]:MonoE r:=⟨λs h=>f.flat s.i h⟩
noncomputable def Yb:Enc Bool:=λ_ _ v b=>v= .bl b
inductive rVI {α:Type}(r:Enc α)(K:PySem.W.Frag)(H:Hp)(v:V)(as:(List α)):Prop
 |mk (a:_) (xs:_) (h1_:v= .ref a) (h2_:H a=some (.lst xs)) (h3_:Paired (r K H) xs as)
noncomputable def rV {α:Type}(r:Enc α):Enc (List α):=λK H v as=>rVI r K H v as
inductive rPLI {α:Type}(r:Enc α)(K:PySem.W.Frag)(H:Hp)(v:V)(as:(List α)):Prop
 |mk (a:_) (xs:_) (h1_:v= .ref a) (h2_:H a=some (.tup xs)) (h3_:Paired (r K H) xs as)
noncomputable def rPL {α:Type}(r:Enc α):Enc (List α):=λK H v as=>rPLI r K H v as
inductive rP2I {α β:Type}(r:Enc α)(q:Enc β)(K:PySem.W.Frag)(H:Hp)(v:V)(p:(α×β)):Prop
 |mk (a:_) (x:_) (y:_) (h1_:v= .ref a) (h2_:H a=some (.tup [x,y])) (h3_:r K H x p.1) (h4_:q K H y p.2)
noncomputable def rP2 {α β:Type}(r:Enc α)(q:Enc β):Enc (α×β):=λK H v p=>rP2I r q K H v p
inductive rP3I {α β γ:Type}(r:Enc α)(q:Enc β)(t:Enc γ)(K:PySem.W.Frag)(H:Hp)(v:V)(p:(α×β×γ)):Prop
 |mk (a:_) (x:_) (y:_) (z:_) (h1_:v= .ref a) (h2_:H a=some (.tup [x,y,z])) (h3_:r K H x p.1) (h4_:q K H y p.2.1) (h5_:t K H z p.2.2)
noncomputable def rP3 {α β γ:Type}(r:Enc α)(q:Enc β)(t:Enc γ):Enc (α×β×γ):=λK H v p=>rP3I r q t K H v p
noncomputable instance {α:Type}{r:Enc α}[m:MonoE r]:MonoE (rV r):=⟨λs r9=>by obtain⟨a,xs,e,q,p⟩:=r9;exact⟨a,xs,e,s _ _ q,Paired.imp2 (λ_ _ z=>m.mono s z) p⟩⟩
noncomputable instance {α β:Type}{r:Enc α}{q:Enc β}[m:MonoE r][n:MonoE q]:MonoE (rP2 r q):=⟨λs r9=>by obtain⟨a,x,y,e,h,p1,p2⟩:=r9;exact⟨a,x,y,e,s _ _ h,m.mono s p1,n.mono s p2⟩⟩
noncomputable instance {α β:Type}{r:Enc α}{q:Enc β}[m:FlatE r][n:FlatE q]:FlatE (rP2 r q):=⟨λs r9=>by obtain⟨a,x,y,e,h,p1,p2⟩:=r9;exact⟨a,x,y,e,s _ _ h rfl,m.flat s p1,n.flat s p2⟩⟩
noncomputable instance {α β γ:Type}{r:Enc α}{q:Enc β}{t:Enc γ}[m:MonoE r][n:MonoE q][k:MonoE t]:MonoE (rP3 r q t):=⟨λs r9=>by obtain⟨a,x,y,z,e,h,p1,p2,p3⟩:=r9;exact⟨a,x,y,z,e,s _ _ h,m.mono s p1,n.mono s p2,k.mono s p3⟩⟩
noncomputable instance {α β γ:Type}{r:Enc α}{q:Enc β}{t:Enc γ}[m:FlatE r][n:FlatE q][k:FlatE t]:FlatE (rP3 r q t):=⟨λs r9=>by obtain⟨a,x,y,z,e,h,p1,p2,p3⟩:=r9;exact⟨a,x,y,z,e,s _ _ h rfl,m.flat s p1,n.flat s p2,k.flat s p3⟩⟩
noncomputable instance:FlatE Xa:=⟨λ_ h=>h⟩
noncomputable instance:FlatE Yb:=⟨λ_ h=>h⟩
noncomputable instance {α:Type}{r:Enc α}[m:MonoE r]:MonoE (rL r):=⟨λs r9=>by obtain⟨a,xs,e,q,p⟩:=r9;exact⟨a,xs,e,s.seq q,Paired.imp2 (λ_ _ z=>m.mono s z) p⟩⟩
noncomputable abbrev OE (α:Type):=PySem.W.Frag->Hp->V->α->List XA->Prop
inductive P3 {α β γ:Type}(F:α->β->γ->Prop):List α->List β->List γ->Prop where
 |nil:P3 F [] [] []
 |cons {a b c l m n}:F a b c->P3 F l m n->P3 F (a::l) (b::m) (c::n)
noncomputable def oF {α:Type}(r:Enc α):OE α:=λK h v a C=>C=[]/\r K h v a
inductive oLI {α:Type}(o:OE α)(K:PySem.W.Frag)(h:Hp)(v:V)(as:(List α))(C:List XA):Prop
 |mk (p:_) (xs:_) (Cs:_) (h1_:v= .ref p) (h2_:P3 (o K h) xs as Cs) (h3_:C=(p, .lst xs)::Cs.flatten)
noncomputable def oL {α:Type}(o:OE α):OE (List α):=λK h v as C=>oLI o K h v as C
inductive oT2I {α β:Type}(o:OE α)(q:OE β)(K:PySem.W.Frag)(h:Hp)(v:V)(a:(α×β))(C:List XA):Prop
 |mk (p:_) (x:_) (y:_) (C1:_) (C2:_) (h1_:v= .ref p) (h2_:h p=some (.tup [x,y])) (h3_:o K h x a.1 C1) (h4_:q K h y a.2 C2) (h5_:C=C1++C2)
noncomputable def oT2 {α β:Type}(o:OE α)(q:OE β):OE (α×β):=λK h v a C=>oT2I o q K h v a C
section
variable {α β γ δ:Type}
theorem P3.imp {F G:α->β->γ->Prop}(h:∀a b c,F a b c->G a b c):∀{l m n},P3 F l m n->P3 G l m n:=λp=>by
 induction p with
 |nil=>exact .nil
 |cons r _ ih=>exact .cons (h _ _ _ r) ih
theorem P3.app {F:α->β->γ->Prop}:∀{l m n l' m' n'},P3 F l m n->P3 F l' m' n'->P3 F (l++l') (m++m') (n++n'):=λp h=>by
 induction p with
 |nil=>exact h
 |cons r _ ih=>exact .cons r ih
theorem P3.snoc {F:α->β->γ->Prop}{l m n a b c}(h:P3 F l m n)(r:F a b c):P3 F (l++[a]) (m++[b]) (n++[c]):=h.app (.cons r .nil)
theorem P3.len {F:α->β->γ->Prop}:∀{l m n},P3 F l m n->l.length=m.length/\n.length=m.length:=λp=>by
 induction p with
 |nil=>exact⟨rfl,rfl⟩
 |cons _ _ ih=>exact⟨congrArg Nat.succ ih.1,congrArg Nat.succ ih.2⟩
theorem P3.pair {F:α->β->γ->Prop}{G:α->β->Prop}:∀{l m n},P3 F l m n->(∀a b c,c∈n->F a b c->G a b)->Paired G l m:=λp h=>by
 induction p with
 |nil=>exact .nil
 |cons r _ ih=>exact .cons (h _ _ _ List.mem_cons_self r) (ih λa b c hc=>h a b c (List.mem_cons_of_mem _ hc))
theorem P3.get {F:α->β->γ->Prop}:∀{l m n}{i:Nat}{b:β},P3 F l m n->m[i]?=some b->∃a c,l[i]?=some a/\n[i]?=some c/\F a b c
 |_,_,_,_,_, .nil,e=>by simp at e
 |_,_,_,0,_, .cons r _,e=>by simp at e;subst e;exact⟨_,_,rfl,rfl,r⟩
 |_,_,_,i+1,b, .cons _ t,e=>by
  obtain⟨a,c,h1,h2,h3⟩:=P3.get (i:=i) (b:=b) t (by simpa using e)
  exact⟨a,c,by simpa using h1,by simpa using h2,h3⟩
theorem P3.set {F:α->β->γ->Prop}{a:α}{b:β}{c:γ}(r:F a b c):∀{l m n} (i:Nat),P3 F l m n->P3 F (l.set i a) (m.set i b) (n.set i c)
 |_,_,_,_, .nil=>.nil
 |_,_,_,0, .cons _ t=>.cons r t
 |_,_,_,i+1, .cons q t=>.cons q (P3.set r i t)
theorem P3.flat {F:α->β->Prop}:∀{l:List α}{m:List β}{n:List (List XA)},P3 (λa b c=>c=[]/\F a b) l m n->Paired F l m/\n.flatten=[]:=λp=>by
 induction p with
 |nil=>exact⟨.nil,rfl⟩
 |cons r _ ih=>exact⟨.cons r.2 ih.1,by rw[List.flatten_cons,r.1,ih.2];rfl⟩
theorem P3.of {F:α->β->Prop}:∀{l:List α}{m:List β},Paired F l m->P3 (λa b (c:List XA)=>c=[]/\F a b) l m (List.replicate m.length [])
 |_,_, .nil=>.nil
 |_,_, .cons r t=>.cons ⟨rfl,r⟩ (P3.of t)
theorem YS:∀n:Nat,(List.replicate n ([]:List XA)).flatten=[]
 |0=>rfl
 |n+1=>by simp[List.replicate_succ,YS n]
end
class MonoO {α:Type}(o:OE α):Prop where
 mono:∀{K:PySem.W.Frag}{H H':Hp}{v:V}{a:α}{C:List XA},XJ H H'->o K H v a C->o K H' v a C
class FlatO {α:Type}(o:OE α):Prop where
 flat:∀{K:PySem.W.Frag}{H H':Hp}{v:V}{a:α}{C:List XA},Dq H H'->o K H v a C->o K H' v a C
class FrzC {α:Type}(o:OE α)(r:outParam (Enc α)):Prop where
 frz:∀{K:PySem.W.Frag}{H H':Hp}{v:V}{a:α}{C:List XA},o K H v a C->XJ H H'->(∀c∈C,H' c.1=some c.2)->r K H' v a
noncomputable instance {α:Type}{r:Enc α}[m:MonoE r]:MonoO (oF r):=⟨λs h=>⟨h.1,m.mono s h.2⟩⟩
noncomputable instance {α:Type}{r:Enc α}[m:FlatE r]:FlatO (oF r):=⟨λs h=>⟨h.1,m.flat s h.2⟩⟩
noncomputable instance {α:Type}{r:Enc α}[m:MonoE r]:FrzC (oF r) r:=⟨λh s _=>m.mono s h.2⟩
noncomputable instance {α:Type}{o:OE α}[m:MonoO o]:MonoO (oL o):=⟨λs r9=>by obtain⟨p,xs,Cs,e,q,c⟩:=r9;exact⟨p,xs,Cs,e,q.imp λ_ _ _ z=>m.mono s z,c⟩⟩
noncomputable instance {α:Type}{o:OE α}[m:FlatO o]:FlatO (oL o):=⟨λs r9=>by obtain⟨p,xs,Cs,e,q,c⟩:=r9;exact⟨p,xs,Cs,e,q.imp λ_ _ _ z=>m.flat s z,c⟩⟩
noncomputable instance {α:Type}{o:OE α}{r:Enc α}[m:FrzC o r]:FrzC (oL o) (rV r):=⟨λ⟨p,xs,Cs,e,q,c⟩ s hc=>by
 subst c
 exact⟨p,xs,e,hc _ List.mem_cons_self,q.pair λa b c hm z=>m.frz z s λx hx=>hc x (List.mem_cons_of_mem _ (List.mem_flatten.mpr ⟨c,hm,hx⟩))⟩⟩
noncomputable instance {α β:Type}{o:OE α}{q:OE β}[m:MonoO o][n:MonoO q]:MonoO (oT2 o q):=⟨λs r9=>by obtain⟨p,x,y,C1,C2,e,h,h1,h2,c⟩:=r9;exact⟨p,x,y,C1,C2,e,s _ _ h,m.mono s h1,n.mono s h2,c⟩⟩
noncomputable instance {α β:Type}{o:OE α}{q:OE β}[m:FlatO o][n:FlatO q]:FlatO (oT2 o q):=⟨λs r9=>by obtain⟨p,x,y,C1,C2,e,h,h1,h2,c⟩:=r9;exact⟨p,x,y,C1,C2,e,s _ _ h rfl,m.flat s h1,n.flat s h2,c⟩⟩
noncomputable instance {α β:Type}{o:OE α}{q:OE β}{r:Enc α}{t:Enc β}[m:FrzC o r][n:FrzC q t]:FrzC (oT2 o q) (rP2 r t):=⟨λ⟨p,x,y,C1,C2,e,h,h1,h2,c⟩ s hc=>by
 subst c
 exact⟨p,x,y,e,s _ _ h,m.frz h1 s λc hm=>hc c (by simp[hm]),n.frz h2 s λc hm=>hc c (by simp[hm])⟩⟩
structure SC where
 p:Hp->Prop
 mono:∀h h',XJ h h'->p h->p h'
noncomputable def SC.nil:SC:=⟨λ_=>True,λ_ _ _ _=>True.intro⟩
noncomputable def SC.and (S T:SC):SC:=⟨λh=>S.p h/\T.p h,λ_ _ s q=>⟨S.mono _ _ s q.1,T.mono _ _ s q.2⟩⟩
noncomputable def SC.one {α:Type}(K:PySem.W.Frag)(r:Enc α)[m:MonoE r](v:V)(a:α):SC:=⟨λh=>r K h v a,λ_ _ s q=>m.mono s q⟩
noncomputable def SC.oneO {α:Type}(K:PySem.W.Frag)(o:OE α)[m:MonoO o](v:V)(a:α)(C:List XA):SC:=⟨λh=>o K h v a C,λ_ _ s q=>m.mono s q⟩
noncomputable abbrev SC.add {α:Type}(S:SC)(K:PySem.W.Frag)(r:Enc α)[m:MonoE r](v:V)(a:α):SC:=S.and (SC.one K r v a)
noncomputable abbrev SC.addO {α:Type}(S:SC)(K:PySem.W.Frag)(o:OE α)[m:MonoO o](v:V)(a:α)(C:List XA):SC:=S.and (SC.oneO K o v a C)
theorem SC.i {S T:SC}{h:Hp}(q:S.p h)(p:T.p h):(S.and T).p h:=⟨q,p⟩
theorem SC.t {h:Hp}:SC.nil.p h:=True.intro
theorem SC.p.l {S T:SC}{h:Hp}(q:(S.and T).p h):S.p h:=q.1
theorem SC.p.r {S T:SC}{h:Hp}(q:(S.and T).p h):T.p h:=q.2
noncomputable def PZ {β:Type}(Er:Exc->Hp->Prop)(F:β->Hp->Prop)(H:Hp)(m:Rs β):Prop:=
 match m with
 | .bad=>False
 | .err x=>∀ H',XJ H H'->Er x H'
 | .ok b=>F b H
section
variable (K:PySem.W.Frag)(Er:Exc->Hp->Prop)(S:SC)(OO OO':List (List XA))(σ:St)
noncomputable def FB {α:Type}(r:Enc α)(Q:VK)(a:α)(H:Hp):Prop:=∀ v H',XJ H H'->r K H' v a->Q v H'
noncomputable def FO {α:Type}(o:OE α)(Q:VK)(a:α)(H:Hp):Prop:=∀ v C H',XJ H H'->W (C::OO') H'->XJ (hid H OO) (hid H' (C::OO'))->o K (hid H' (C::OO')) v a C->Q v H'
noncomputable def FT (Q:Bool->Hp->Prop)(b:Bool)(H:Hp):Prop:=∀ H',XJ H H'->Q b H'
noncomputable def EvB {α:Type}(te:TE)(r:Enc α)(m:Rs α):Prop:=∀ H Q,W OO H->S.p (hid H OO)->PZ Er (FB K r Q) H m->te σ H Q
noncomputable def Ev {α:Type}(te:TE)(o:OE α)(m:Rs α):Prop:=∀ H Q,W OO H->S.p (hid H OO)->PZ Er (FO K OO OO' o Q) H m->te σ H Q
noncomputable def EvT (tt:TT)(m:Rs Bool):Prop:=∀ H Q,W OO H->S.p (hid H OO)->PZ Er (FT Q) H m->tt σ H Q
end
section
variable {K:PySem.W.Frag}{Er:Exc->Hp->Prop}{S:SC}{OO OO' OO2:List (List XA)}{σ:St}{α β γ:Type}
theorem FB.tr {r:Enc α}{Q:VK}:∀a H H',XJ H H'->FB K r Q a H->FB K r Q a H':=λa H H' s h v H2 s2 q=>h v H2 (s.trans s2) q
theorem FO.tr {o:OE α}{Q:VK}:∀a H H',XJ H H'->FO K OO OO' o Q a H->FO K OO OO' o Q a H':=λa H H' s h v C H2 s2 w m q=>h v C H2 (s.trans s2) w ((Xl s).trans m) q
theorem FT.tr {Q:Bool->Hp->Prop}:∀b H H',XJ H H'->FT Q b H->FT Q b H':=λa H H' s h H2 s2=>h H2 (s.trans s2)
theorem EvB.run {te:TE}{r:Enc α}{m:Rs α}(he:EvB K Er S OO σ te r m){H:Hp}{Q:VK}(w:W OO H)(s:S.p (hid H OO)){f:α->Rs β}{F:β->Hp->Prop}(hF:∀b H H',XJ H H'->F b H->F b H')(P:PZ Er F H (m.bind f))
  (hk:∀a v H',XJ H H'->W OO H'->S.p (hid H' OO)->r K H' v a->PZ Er F H' (f a)->Q v H'):te σ H Q:=by
 refine he H Q w s ?_
 cases m with
 |bad=>exact P
 |err x=>exact P
 |ok a=>
  intro v H' s' hr
  refine hk a v H' s' (w.keep s') (S.mono _ _ (Xl s') s) hr ?_
  have P':PZ Er F H (f a):=P
  revert P'
  cases f a with
  |bad=>exact λz=>z
  |err x=>exact λz H2 s2=>z H2 (s'.trans s2)
  |ok b=>exact λz=>hF b H H' s' z
theorem EvT.run {tt:TT}{m:Rs Bool}(he:EvT Er S OO σ tt m){H:Hp}{Q:Bool->Hp->Prop}(w:W OO H)(s:S.p (hid H OO)){f:Bool->Rs β}{F:β->Hp->Prop}(hF:∀b H H',XJ H H'->F b H->F b H')(P:PZ Er F H (m.bind f))
  (hk:∀b H',XJ H H'->W OO H'->S.p (hid H' OO)->PZ Er F H' (f b)->Q b H'):tt σ H Q:=by
 refine he H Q w s ?_
 cases m with
 |bad=>exact P
 |err x=>exact P
 |ok a=>
  intro H' s'
  refine hk a H' s' (w.keep s') (S.mono _ _ (Xl s') s) ?_
  have P':PZ Er F H (f a):=P
  revert P'
  cases f a with
  |bad=>exact λz=>z
  |err x=>exact λz H2 s2=>z H2 (s'.trans s2)
  |ok b=>exact λz=>hF b H H' s' z
theorem Ev.toB {te:TE}{o:OE α}{r:Enc α}[z:FrzC o r]{m:Rs α}(he:Ev K Er S OO OO σ te o m):EvB K Er S OO σ te r m:=λH Q w s P=>by
 refine he H Q w s ?_
 cases m with
 |bad=>exact P
 |err x=>exact P
 |ok a=>exact λv C H' s' w' m' ho=>P v H' s' (z.frz ho XS w'.cell)
theorem Ev.frz {te:TE}{o:OE α}{r:Enc α}[z:FrzC o r]{m:Rs α}(he:Ev K Er S OO OO' σ te o m):Ev K Er S OO OO' σ te (oF r) m:=λH Q w s P=>by
 refine he H Q w s ?_
 cases m with
 |bad=>exact P
 |err x=>exact P
 |ok a=>
  intro v C H' s' w' m' ho
  have hs:XJ (hid H' (C::OO')) (hid H' ([]::OO')):=QZ (XJ.refl _) λb hb=>by rw[Cr] at hb;rw[Yz];simp[hb]
  refine P v [] H' s' w'.tail.nil (m'.trans hs) ⟨rfl,z.frz ho hs λc hc=>ZW (w'.cell c hc) ?_⟩
  rw[Cr]
  have:=w'.nd
  rw[Yz] at this
  intro hb
  exact(List.nodup_append.mp this).2.2 c.1 (List.mem_map.mpr ⟨c,hc,rfl⟩) c.1 hb rfl
theorem Xc {r:Enc α}[z:MonoE r]{v:V}{a:α}(i:Nat)(hσ:σ[i]?=some (some v))(h:∀x,S.p x->r K x v a):EvB K Er S OO σ (K7 i) r (.ok a):=λH Q w s P=>
 ⟨v,hσ,P v H (XJ.refl _) (z.mono XS (h _ s))⟩
theorem Zd {o:OE α}{r:Enc α}[z:FrzC o r]{v:V}{a:α}{C:List XA}(i k:Nat)(hσ:σ[i]?=some (some v))(hk:OO[k]?=some C)(h:∀x,S.p x->o K x v a C):EvB K Er S OO σ (K7 i) r (.ok a):=λH Q w s P=>
 ⟨v,hσ,P v H (XJ.refl _) (z.frz (h _ s) XS λc hc=>w.tr c (List.mem_flatten.mpr ⟨C,List.mem_of_getElem? hk,hc⟩))⟩
theorem Yh:∀{OO:List (List XA)}{k:Nat}{C:List XA},OO[k]?=some C->(C::OO.set k []).flatten.Perm OO.flatten
 | [],_,_,h=>by simp at h
 |D::OO,0,C,h=>by simp at h;subst h;simp
 |D::OO,k+1,C,h=>by
  have:=Yh (OO:=OO) (k:=k) (C:=C) (by simpa using h)
  simp only[List.set_cons_succ,List.flatten_cons] at this⊢
  refine List.Perm.trans ?_ (this.append_left D)
  rw[←List.append_assoc, ←List.append_assoc]
  exact List.perm_append_comm.append_right _
theorem VS {OO OO':List (List XA)}(h:OO'.flatten.Perm OO.flatten)(b:Addr):b∈fl OO'↔b∈fl OO:=(h.map (·.1)).mem_iff
theorem YC {H:Hp}{OO OO':List (List XA)}(h:OO'.flatten.Perm OO.flatten):hid H OO'=hid H OO:=by
 funext b;unfold hid
 by_cases hb:b∈fl OO
 ·rw[if_pos hb,if_pos ((VS h b).mpr hb)]
 ·rw[if_neg hb,if_neg λz=>hb ((VS h b).mp z)]
theorem X9 {o:OE α}{v:V}{a:α}{C:List XA}(i k:Nat)(hσ:σ[i]?=some (some v))(hk:OO[k]?=some C)(h:∀x,S.p x->o K x v a C):Ev K Er S OO (OO.set k []) σ (K7 i) o (.ok a):=λH Q w s P=>by
 have hp:=Yh hk
 exact⟨v,hσ,P v C H (XJ.refl _) (w.of hp) (by rw[YC hp];exact XJ.refl _) (by rw[YC hp];exact h _ s)⟩
theorem Xe (n:Int):EvB K Er S OO σ (tC (.int n)) Xa (.ok n):=λH Q w s P=>P _ H (XJ.refl _) rfl
theorem Qg (b:Bool):EvB K Er S OO σ (tC (.bl b)) Yb (.ok b):=λH Q w s P=>P _ H (XJ.refl _) rfl
theorem Jv {ta tb:TE}{g:Int->Int->V}{r:Enc β}{f:Int->Int->β}{ma mb:Rs Int}(hg:∀K H i j,r K H (g i j) (f i j))(ha:EvB K Er S OO σ ta Xa ma)(hb:EvB K Er S OO σ tb Xa mb):
  EvB K Er S OO σ (tOp (rI0 g) ta tb) r (ma.bind λa=>mb.bind λb=>.ok (f a b)):=λH Q w s P=>
 ha.run w s FB.tr P λa x H1 s1 w1 q1 r1 P1=>hb.run w1 q1 FB.tr P1 λb y H2 s2 w2 q2 r2 P2=>⟨a,b,r1,r2,P2 _ H2 (XJ.refl _) (hg K H2 a b)⟩
theorem UK {ta tb:TE}{Cc:Int->Int->Prop}{g:Int->Int->V}{r:Enc β}{f:Int->Int->Rs β}{ma mb:Rs Int}(hg:∀K H i j c,f i j= .ok c->Cc i j/\r K H (g i j) c)(he:∀i j x,f i j≠ .err x)
  (ha:EvB K Er S OO σ ta Xa ma)(hb:EvB K Er S OO σ tb Xa mb):
  EvB K Er S OO σ (tOp (rI Cc g) ta tb) r (ma.bind λa=>mb.bind λb=>f a b):=λH Q w s P=>
 ha.run w s FB.tr P λa x H1 s1 w1 q1 r1 P1=>hb.run w1 q1 FB.tr P1 λb y H2 s2 w2 q2 r2 P2=>by
  cases e:f a b with
  |bad=>rw[e] at P2;exact P2.elim
  |err x=>exact absurd e (he a b x)
  |ok c=>
   rw[e] at P2
   obtain⟨h1,h2⟩:=hg K H2 a b c e
   exact⟨a,b,r1,r2,h1,P2 _ H2 (XJ.refl _) h2⟩
noncomputable def QP (a b:Int):Rs Int:=chk ((-(2^64)<a/\a<2^64)∨(-(2^64)<b/\b<2^64)) (.ok (a*b))
noncomputable def QG (a b:Int):Rs Int:=chk (0<b) (.ok (a % b))
noncomputable def Lo (a b:Int):Rs Int:=chk (0<b/\b.natAbs.log2<9000) (.ok (a/b))
noncomputable def LR (a b:Int):Rs Int:=chk (0<=b/\b<=1000000/\a.natAbs<2^64) (.ok (a^b.toNat))
theorem ZK {c:Prop}[Decidable c]{m:Rs α}{a:α}(h:chk c m= .ok a):c/\m= .ok a:=by
 unfold chk at h;split at h
 ·exact⟨by assumption,h⟩
 ·cases h
theorem QN {c:Prop}[Decidable c]{a:α}{x:Exc}:chk c (Rs.ok a)≠ .err x:=by
 unfold chk;split<;> exact λz=>nomatch z
theorem Yg {ta tb:TE}{ma mb:Rs Int}(ha:EvB K Er S OO σ ta Xa ma)(hb:EvB K Er S OO σ tb Xa mb):EvB K Er S OO σ (tOp (rI Mn λi j=>.int (i*j)) ta tb) Xa (ma.bind λa=>mb.bind λb=>QP a b):=
 UK (λK H i j c h=>by obtain⟨h1,h2⟩:=ZK h;cases h2;exact⟨h1,rfl⟩) (λi j x=>QN) ha hb
theorem X7 {ta tb:TE}{ma mb:Rs Int}(ha:EvB K Er S OO σ ta Xa ma)(hb:EvB K Er S OO σ tb Xa mb):EvB K Er S OO σ (tOp (rI (λ_ j=>0<j) λi j=>.int (i % j)) ta tb) Xa (ma.bind λa=>mb.bind λb=>QG a b):=
 UK (λK H i j c h=>by obtain⟨h1,h2⟩:=ZK h;cases h2;exact⟨h1,rfl⟩) (λi j x=>QN) ha hb
theorem Gm {ta tb:TE}{ma mb:Rs Int}(ha:EvB K Er S OO σ ta Xa ma)(hb:EvB K Er S OO σ tb Xa mb):EvB K Er S OO σ (tOp (rI (λ_ j=>0<j/\j.natAbs.log2<9000) λi j=>.int (i/j)) ta tb) Xa (ma.bind λa=>mb.bind λb=>Lo a b):=
 UK (λK H i j c h=>by obtain⟨h1,h2⟩:=ZK h;cases h2;exact⟨h1,rfl⟩) (λi j x=>QN) ha hb
theorem Gg {ta tb:TE}{ma mb:Rs Int}(ha:EvB K Er S OO σ ta Xa ma)(hb:EvB K Er S OO σ tb Xa mb):EvB K Er S OO σ (tOp (rI Nn λi j=>.int (i^j.toNat)) ta tb) Xa (ma.bind λa=>mb.bind λb=>LR a b):=
 UK (λK H i j c h=>by obtain⟨h1,h2⟩:=ZK h;cases h2;exact⟨h1,rfl⟩) (λi j x=>QN) ha hb
theorem XI {ta tb:TE}{ma mb:Rs Int}(ha:EvB K Er S OO σ ta Xa ma)(hb:EvB K Er S OO σ tb Xa mb):EvB K Er S OO σ (tOp (rI0 λi j=>.int (i+j)) ta tb) Xa (ma.bind λa=>mb.bind λb=>.ok (a+b)):=Jv (λ_ _ _ _=>rfl) ha hb
theorem Y2 {ta tb:TE}{ma mb:Rs Int}(ha:EvB K Er S OO σ ta Xa ma)(hb:EvB K Er S OO σ tb Xa mb):EvB K Er S OO σ (tOp (rI0 λi j=>.int (i-j)) ta tb) Xa (ma.bind λa=>mb.bind λb=>.ok (a-b)):=Jv (λ_ _ _ _=>rfl) ha hb
theorem Zy {ta tb:TE}{ma mb:Rs Int}(ha:EvB K Er S OO σ ta Xa ma)(hb:EvB K Er S OO σ tb Xa mb):EvB K Er S OO σ (tOp (rI0 λi j=>.bl (decide (i<j))) ta tb) Yb (ma.bind λa=>mb.bind λb=>.ok (decide (a<b))):=Jv (λ_ _ _ _=>rfl) ha hb
theorem Mq {ta tb:TE}{ma mb:Rs Int}(ha:EvB K Er S OO σ ta Xa ma)(hb:EvB K Er S OO σ tb Xa mb):EvB K Er S OO σ (tOp (rI0 λi j=>.bl (decide (i<=j))) ta tb) Yb (ma.bind λa=>mb.bind λb=>.ok (decide (a<=b))):=Jv (λ_ _ _ _=>rfl) ha hb
theorem Ud {ta tb:TE}{ma mb:Rs Int}(ha:EvB K Er S OO σ ta Xa ma)(hb:EvB K Er S OO σ tb Xa mb):EvB K Er S OO σ (tOp (rI0 λi j=>.bl (decide (j<i))) ta tb) Yb (ma.bind λa=>mb.bind λb=>.ok (decide (b<a))):=Jv (λ_ _ _ _=>rfl) ha hb
theorem Hs {ta tb:TE}{ma mb:Rs Int}(ha:EvB K Er S OO σ ta Xa ma)(hb:EvB K Er S OO σ tb Xa mb):EvB K Er S OO σ (tOp (rI0 λi j=>.bl (decide (j<=i))) ta tb) Yb (ma.bind λa=>mb.bind λb=>.ok (decide (b<=a))):=Jv (λ_ _ _ _=>rfl) ha hb
theorem ZS {ta:TE}{ma:Rs Int}(ha:EvB K Er S OO σ ta Xa ma):EvB K Er S OO σ (tUn (rU λi=>.int (-i)) ta) Xa (ma.bind λa=>.ok (-a)):=λH Q w s P=>
 ha.run w s FB.tr P λa x H1 s1 w1 q1 r1 P1=>⟨a,r1,P1 _ H1 (XJ.refl _) rfl⟩
class Scal {α:Type}[DecidableEq α](r:Enc α):Prop where
 to:∀{K:PySem.W.Frag}{H H':Hp}{x y:V}{a b:α},r K H x a->r K H' y b->MW x y=true/\decide (x=y)=decide (a=b)
noncomputable instance:Scal Xa:=⟨fun {K H H' x y a b} h1 h2=>by cases(show x= .int a from h1);cases(show y= .int b from h2);exact⟨rfl,by simp⟩⟩
theorem Ze [DecidableEq α]{r:Enc α}[z:Scal r][MonoE r]{ta tb:TE}{ma mb:Rs α}(ha:EvB K Er S OO σ ta r ma)(hb:EvB K Er S OO σ tb r mb):EvB K Er S OO σ (tOp rEq ta tb) Yb (ma.bind λa=>mb.bind λb=>.ok (decide (a=b))):=λH Q w s P=>
 ha.run w s FB.tr P λa x H1 s1 w1 q1 r1 P1=>hb.run w1 q1 FB.tr P1 λb y H2 s2 w2 q2 r2 P2=>by
  obtain⟨h1,h2⟩:=z.to r1 r2
  exact⟨h1,P2 _ H2 (XJ.refl _) (by rw[h2];rfl)⟩
theorem Fg [DecidableEq α]{r:Enc α}[z:Scal r][MonoE r]{ta tb:TE}{ma mb:Rs α}(ha:EvB K Er S OO σ ta r ma)(hb:EvB K Er S OO σ tb r mb):EvB K Er S OO σ (tOp rNe ta tb) Yb (ma.bind λa=>mb.bind λb=>.ok (!decide (a=b))):=λH Q w s P=>
 ha.run w s FB.tr P λa x H1 s1 w1 q1 r1 P1=>hb.run w1 q1 FB.tr P1 λb y H2 s2 w2 q2 r2 P2=>by
  obtain⟨h1,h2⟩:=z.to r1 r2
  exact⟨h1,P2 _ H2 (XJ.refl _) (by rw[h2];rfl)⟩
theorem IF [DecidableEq α]{r:Enc α}[z:MonoE r]{ta tb:TE}{ma mb:Rs α}(ha:EvB K Er S OO σ ta r ma)(hb:EvB K Er S OO σ tb r mb):EvB K Er S OO σ (tOp (Ng K r) ta tb) Yb (ma.bind λa=>mb.bind λb=>.ok (decide (a=b))):=λH Q w s P=>
 ha.run w s FB.tr P λa x H1 s1 w1 q1 r1 P1=>hb.run w1 q1 FB.tr P1 λb y H2 s2 w2 q2 r2 P2=>⟨a,b,z.mono s2 r1,r2,P2 _ H2 (XJ.refl _) rfl⟩
theorem VV {te:TE}{m:Rs Bool}(h:EvB K Er S OO σ te Yb m):EvT Er S OO σ (tB te) m:=λH Q w s P=>h H _ w s (by
 cases m with
 |bad=>exact P
 |err x=>exact P
 |ok a=>exact λv H' s' r=>⟨a,r,P H' s'⟩)
theorem Xp {te:TE}{m:Rs Bool}(h:EvB K Er S OO σ te Yb m):EvT Er S OO σ (LK te) m:=VV h
theorem Qm {t:TT}{m:Rs Bool}(h:EvT Er S OO σ t m):EvT Er S OO σ (No t) (m.bind λb=>.ok (!b)):=λH Q w s P=>h.run w s FT.tr P λb H1 s1 w1 q1 P1=>P1 H1 (XJ.refl _)
noncomputable def U2 (a b:Rs Bool):Rs Bool:=a.bind λx=>if x=true then b else .ok false
noncomputable def orR (a b:Rs Bool):Rs Bool:=a.bind λx=>if x=true then .ok true else b
theorem Zh {t u:TT}{m n:Rs Bool}(h:EvT Er S OO σ t m)(k:EvT Er S OO σ u n):EvT Er S OO σ (Nk t u) (U2 m n):=λH Q w s P=>h.run w s FT.tr P λb H1 s1 w1 q1 P1=>by
 cases b with
 |true=>rw[if_pos rfl] at P1⊢;exact k H1 Q w1 q1 P1
 |false=>exact P1 H1 (XJ.refl _)
theorem L1 {t u:TT}{m n:Rs Bool}(h:EvT Er S OO σ t m)(k:EvT Er S OO σ u n):EvT Er S OO σ (tOr t u) (orR m n):=λH Q w s P=>h.run w s FT.tr P λb H1 s1 w1 q1 P1=>by
 cases b with
 |true=>exact P1 H1 (XJ.refl _)
 |false=>exact k H1 Q w1 q1 P1
theorem EM {t:TE}{m:Rs Bool}(h:EvB K Er S OO σ t Yb m):EvB K Er S OO σ (LW t) Yb (m.bind λb=>.ok (!b)):=λH Q w s P=>h.run w s FB.tr P λb x H1 s1 w1 q1 r1 P1=>⟨b,r1,P1 _ H1 (XJ.refl _) rfl⟩
theorem B8 {t u:TE}{m n:Rs Bool}(h:EvB K Er S OO σ t Yb m)(k:EvB K Er S OO σ u Yb n):EvB K Er S OO σ (Mm t u) Yb (U2 m n):=λH Q w s P=>h.run w s FB.tr P λb x H1 s1 w1 q1 r1 P1=>⟨b,r1,by
 cases b with
 |true=>rw[if_pos rfl] at P1⊢;exact k H1 Q w1 q1 P1
 |false=>exact P1 _ H1 (XJ.refl _) rfl⟩
theorem MS {c:TT}{ta tb:TE}{o:OE α}{mc:Rs Bool}{ma mb:Rs α}(hc:EvT Er S OO σ c mc)(ha:Ev K Er S OO OO' σ ta o ma)(hb:Ev K Er S OO OO' σ tb o mb):Ev K Er S OO OO' σ (tIf c ta tb) o (mc.bind λb=>if b=true then ma else mb):=λH Q w s P=>
 hc.run w s FO.tr P λb H1 s1 w1 q1 P1=>by
  cases b with
  |true=>rw[if_pos rfl] at P1⊢;exact ha H1 Q w1 q1 P1
  |false=>exact hb H1 Q w1 q1 P1
end
section
variable (K:PySem.W.Frag)(Er:Exc->Hp->Prop)(S:SC)(OO:List (List XA))(σ:St)
noncomputable def FS {α:Type}(r:Enc α)(Q:VK)(a:α)(H:Hp):Prop:=∀ v H',XJ H H'->r K (hid H' OO) v a->Q v H'
noncomputable def EvS {α:Type}(te:TE)(r:Enc α)(m:Rs α):Prop:=∀ H Q,W OO H->S.p (hid H OO)->PZ Er (FS K OO r Q) H m->te σ H Q
noncomputable def rE {α:Type}(r:Enc α)(H:Hp)(v:V)(as:List α):Prop:=∃ p xs,v= .ref p/\H p=some (.lst xs)/\Paired (r K (hid H OO)) xs as
noncomputable def FL {α:Type}(r:Enc α)(Q:VK)(as:List α)(H:Hp):Prop:=∀ v H',XJ H H'->rE K OO r H' v as->Q v H'
noncomputable def EvL {α:Type}(te:TE)(r:Enc α)(m:Rs (List α)):Prop:=∀ H Q,W OO H->S.p (hid H OO)->PZ Er (FL K OO r Q) H m->te σ H Q
end
section
variable {K:PySem.W.Frag}{Er:Exc->Hp->Prop}{S:SC}{OO OO' OO2:List (List XA)}{σ:St}{α β γ:Type}
theorem FS.tr {r:Enc α}{Q:VK}:∀a H H',XJ H H'->FS K OO r Q a H->FS K OO r Q a H':=λa H H' s h v H2 s2 q=>h v H2 (s.trans s2) q
theorem PZ.run {F:β->Hp->Prop}{f:α->Rs β}{H H':Hp}{a:α}{m:Rs α}(hm:m= .ok a)(hF:∀b H H',XJ H H'->F b H->F b H')(s:XJ H H')(P:PZ Er F H (m.bind f)):PZ Er F H' (f a):=by
 subst hm
 have P':PZ Er F H (f a):=P
 revert P'
 cases f a with
 |bad=>exact λz=>z
 |err x=>exact λz H2 s2=>z H2 (s.trans s2)
 |ok b=>exact λz=>hF b H H' s z
theorem EvS.run {te:TE}{r:Enc α}{m:Rs α}(he:EvS K Er S OO σ te r m){H:Hp}{Q:VK}(w:W OO H)(s:S.p (hid H OO)){f:α->Rs β}{F:β->Hp->Prop}(hF:∀b H H',XJ H H'->F b H->F b H')(P:PZ Er F H (m.bind f))
  (hk:∀a v H',XJ H H'->W OO H'->S.p (hid H' OO)->r K (hid H' OO) v a->PZ Er F H' (f a)->Q v H'):te σ H Q:=by
 refine he H Q w s ?_
 cases e:m with
 |bad=>rw[e] at P;exact P
 |err x=>rw[e] at P;exact P
 |ok a=>exact λv H' s' hr=>hk a v H' s' (w.keep s') (S.mono _ _ (Xl s') s) hr (PZ.run e hF s' P)
theorem EvL.run {te:TE}{r:Enc α}{m:Rs (List α)}(he:EvL K Er S OO σ te r m){H:Hp}{Q:VK}(w:W OO H)(s:S.p (hid H OO)){f:List α->Rs β}{F:β->Hp->Prop}(hF:∀b H H',XJ H H'->F b H->F b H')(P:PZ Er F H (m.bind f))
  (hk:∀a v H',XJ H H'->W OO H'->S.p (hid H' OO)->rE K OO r H' v a->PZ Er F H' (f a)->Q v H'):te σ H Q:=by
 refine he H Q w s ?_
 cases e:m with
 |bad=>rw[e] at P;exact P
 |err x=>rw[e] at P;exact P
 |ok a=>exact λv H' s' hr=>hk a v H' s' (w.keep s') (S.mono _ _ (Xl s') s) hr (PZ.run e hF s' P)
theorem PZ.imp {F G:β->Hp->Prop}{H:Hp}{m:Rs β}(P:PZ Er F H m)(h:∀b,m= .ok b->F b H->G b H):PZ Er G H m:=by
 cases m with
 |bad=>exact P
 |err x=>exact P
 |ok b=>exact h b rfl P
theorem EvS.ev {te:TE}{r:Enc α}{m:Rs α}(he:EvS K Er S OO σ te r m):Ev K Er S OO OO σ te (oF r) m:=λH Q w s P=>he H Q w s (P.imp λb _ h v H' s' q=>
 h v [] H' s' (w.keep s').nil (by rw[ZU];exact Xl s') ⟨rfl,by rw[ZU];exact q⟩)
theorem EvB.sh {te:TE}{r:Enc α}[z:FlatE r]{m:Rs α}(he:EvB K Er S OO σ te r m):EvS K Er S OO σ te r m:=λH Q w s P=>he H Q w s (P.imp λb _ h v H' s' q=>h v H' s' (z.flat (w.keep s').i q))
theorem Ev.sh {te:TE}{o:OE α}{r:Enc α}[z:FrzC o r]{m:Rs α}(he:Ev K Er S OO OO σ te o m):EvS K Er S OO σ te r m:=λH Q w s P=>he.frz H Q w s (P.imp λb _ h v C H' s' w' m' q=>by
 obtain⟨rfl,q⟩:=q
 rw[ZU] at q
 exact h v H' s' q)
theorem Xj {r:Enc α}{v:V}{a:α}(i:Nat)(hσ:σ[i]?=some (some v))(h:∀x,S.p x->r K x v a):EvS K Er S OO σ (K7 i) r (.ok a):=λH Q w s P=>⟨v,hσ,P v H (XJ.refl _) (h _ s)⟩
theorem EvS.ls {te:TE}{r:Enc α}{m:Rs (List α)}(he:EvS K Er S OO σ te (rV r) m):EvL K Er S OO σ te r m:=λH Q w s P=>he H Q w s (P.imp λb _ h v H' s' r9=>by obtain⟨p,xs,e,q,pr⟩:=r9;exact h v H' s' ⟨p,xs,e,XS _ _ q,pr⟩)
theorem EvB.ls {te:TE}{r:Enc α}[z:FlatE r]{m:Rs (List α)}(he:EvB K Er S OO σ te (rV r) m):EvL K Er S OO σ te r m:=λH Q w s P=>he H Q w s (P.imp λb _ h v H' s' r9=>by obtain⟨p,xs,e,q,pr⟩:=r9;exact h v H' s' ⟨p,xs,e,q,Paired.imp2 (λ_ _ z'=>z.flat (w.keep s').i z') pr⟩)
theorem Ev.ls {te:TE}{r:Enc α}[z:MonoE r]{m:Rs (List α)}(he:Ev K Er S OO OO σ te (oL (oF r)) m):EvL K Er S OO σ te r m:=he.sh.ls
noncomputable def atR (as:List α)(i:Int):Rs α:=match atI as i with
 |some a=>.ok a
 |none=>.bad
theorem FI {as:List α}{i:Int}{a:α}(h:atR as i= .ok a):atI as i=some a:=by
 unfold atR at h;split at h
 ·cases h;assumption
 ·cases h
theorem Ku {as:List α}{i:Int}{x:Exc}:atR as i≠ .err x:=by unfold atR;split<;> exact λz=>nomatch z
theorem Ju {F:V->α->Prop}{xs:List V}{as:List α}{i:Int}{a:α}(p:Paired F xs as)(h:atI as i=some a):∃x,atI xs i=some x/\F x a:=by
 unfold atI at h⊢
 rw[Paired.len p]
 cases e:ixN as.length i with
 |none=>rw[e] at h;cases h
 |some j=>
  rw[e] at h
  obtain⟨x,h1,h2⟩:=Paired.getR p h
  exact⟨x,h1,h2⟩
theorem PZ.okOf {F:β->Hp->Prop}{H:Hp}{m:Rs β}(he:∀x,m≠ .err x)(P:PZ Er F H m):∃b,m= .ok b/\F b H:=by
 cases m with
 |bad=>exact P.elim
 |err x=>exact absurd rfl (he x)
 |ok b=>exact⟨b,rfl,P⟩
theorem Xz {ta tb:TE}{r:Enc α}[z:MonoE r]{ma:Rs (List α)}{mb:Rs Int}(ha:EvB K Er S OO σ ta (rV r) ma)(hb:EvB K Er S OO σ tb Xa mb):EvB K Er S OO σ (tOp (Iw K) ta tb) r (ma.bind λas=>mb.bind λi=>atR as i):=λH Q w s P=>
 ha.run w s FB.tr P λa x H1 s1 w1 q1 ⟨p,xs,e,q,pr⟩ P1=>hb.run w1 q1 FB.tr P1 λb y H2 s2 w2 q2 r2 P2=>by
  obtain⟨c,hc,P3⟩:=P2.okOf λx=>Ku
  obtain⟨u,h1,h2⟩:=Ju pr (FI hc)
  exact⟨p,xs,b,u,e,r2,SqL.of (s2 _ _ q),h1,P3 u H2 (XJ.refl _) (z.mono s2 h2)⟩
theorem Mi {ta tb:TE}{r:Enc α}[z:MonoE r]{ma:Rs (List α)}{mb:Rs Int}(ha:EvL K Er S OO σ ta r ma)(hb:EvB K Er S OO σ tb Xa mb):EvS K Er S OO σ (tOp (Iw K) ta tb) r (ma.bind λas=>mb.bind λi=>atR as i):=λH Q w s P=>
 ha.run w s FS.tr P λa x H1 s1 w1 q1 ⟨p,xs,e,q,pr⟩ P1=>hb.run w1 q1 FS.tr P1 λb y H2 s2 w2 q2 r2 P2=>by
  obtain⟨c,hc,P3⟩:=P2.okOf λx=>Ku
  obtain⟨u,h1,h2⟩:=Ju pr (FI hc)
  exact⟨p,xs,b,u,e,r2,SqL.of (s2 _ _ q),h1,P3 u H2 (XJ.refl _) (z.mono (Xl s2) h2)⟩
theorem Bz {ta:TE}{r:Enc α}{q:Enc β}{m:Rs (α×β)}(ha:EvB K Er S OO σ ta (rP2 r q) m):EvB K Er S OO σ (tOp (Lp K) ta (tC (.int 0))) r (m.bind λp=>.ok p.1):=λH Q w s P=>
 ha.run w s FB.tr P λa x H1 s1 w1 q1 r9 P1=>by obtain⟨p,x,y,e,q,h1,h2⟩:=r9;exact⟨p,_,0,x,e,rfl,SqT.of q,rfl,P1 _ H1 (XJ.refl _) h1⟩
theorem Q4 {ta:TE}{r:Enc α}{q:Enc β}{m:Rs (α×β)}(ha:EvB K Er S OO σ ta (rP2 r q) m):EvB K Er S OO σ (tOp (Lp K) ta (tC (.int 1))) q (m.bind λp=>.ok p.2):=λH Q w s P=>
 ha.run w s FB.tr P λa x H1 s1 w1 q1 r9 P1=>by obtain⟨p,x,y,e,q,h1,h2⟩:=r9;exact⟨p,_,1,y,e,rfl,SqT.of q,rfl,P1 _ H1 (XJ.refl _) h2⟩
theorem Qd {ta:TE}{r:Enc α}{q:Enc β}{m:Rs (α×β)}(ha:EvS K Er S OO σ ta (rP2 r q) m):EvS K Er S OO σ (tOp (Lp K) ta (tC (.int 0))) r (m.bind λp=>.ok p.1):=λH Q w s P=>
 ha.run w s FS.tr P λa x H1 s1 w1 q1 r9 P1=>by obtain⟨p,x,y,e,q,h1,h2⟩:=r9;exact⟨p,_,0,x,e,rfl,SqT.of (XS _ _ q),rfl,P1 _ H1 (XJ.refl _) h1⟩
theorem UX {ta:TE}{r:Enc α}{q:Enc β}{m:Rs (α×β)}(ha:EvS K Er S OO σ ta (rP2 r q) m):EvS K Er S OO σ (tOp (Lp K) ta (tC (.int 1))) q (m.bind λp=>.ok p.2):=λH Q w s P=>
 ha.run w s FS.tr P λa x H1 s1 w1 q1 r9 P1=>by obtain⟨p,x,y,e,q,h1,h2⟩:=r9;exact⟨p,_,1,y,e,rfl,SqT.of (XS _ _ q),rfl,P1 _ H1 (XJ.refl _) h2⟩
theorem X4 {ta:TE}{r:Enc α}{m:Rs (List α)}(ha:EvB K Er S OO σ ta (rV r) m):EvB K Er S OO σ (tCB (Bf K) (XM ta Z5)) Xa (m.bind λas=>.ok (as.length:Int)):=λH Q w s P=>
 ha.run w s FB.tr P λa x H1 s1 w1 q1 r9 P1=>by obtain⟨p,xs,e,q,pr⟩:=r9;exact⟨p,xs,by rw[e], .inl (SqL.of q),P1 _ H1 (XJ.refl _) (by rw[Paired.len pr];rfl)⟩
theorem Hu {r:Enc α}[z:MonoE r]{xs:List V}{as:List α}{H:Hp}{Q:VK}(w:W OO H)(pr:Paired (r K (hid H OO)) xs as)(P:FO K OO OO (oL (oF r)) Q as H):∀p,H p=none->Q (.ref p) (upd H p (.lst xs)):=λp hp=>by
 have hn:=UY (OO:=OO) hp (o:=.lst xs)
 refine P (.ref p) [(p, .lst xs)] _ (X2 hp _) (w.new hp rfl) hn ?_
 refine⟨p,xs,List.replicate as.length [],rfl,(P3.of (Paired.imp2 (λ_ _ h=>z.mono hn h) pr)).imp λ_ _ _ h=>h,by rw[YS]⟩
theorem Paired.take' {F:α->β->Prop}:∀{l:List α}{m:List β} (n:Nat),Paired F l m->Paired F (l.take n) (m.take n)
 |_,_,0,_=>.nil
 |_,_,_+1, .nil=>.nil
 |_,_,n+1, .cons r t=>.cons r (Paired.take' n t)
theorem Paired.drop' {F:α->β->Prop}:∀{l:List α}{m:List β} (n:Nat),Paired F l m->Paired F (l.drop n) (m.drop n)
 |_,_,0,h=>h
 |_,_,_+1, .nil=>.nil
 |_,_,n+1, .cons _ t=>Paired.drop' n t
theorem Paired.rev' {F:α->β->Prop}:∀{l:List α}{m:List β},Paired F l m->Paired F l.reverse m.reverse
 |_,_, .nil=>.nil
 |_,_, .cons r t=>by rw[List.reverse_cons,List.reverse_cons];exact Paired.app (Paired.rev' t) (.cons r .nil)
theorem Paired.rep' {F:α->β->Prop}{l:List α}{m:List β}(h:Paired F l m):∀n:Nat,Paired F (List.replicate n l).flatten (List.replicate n m).flatten
 |0=>.nil
 |n+1=>by simp only[List.replicate_succ,List.flatten_cons];exact Paired.app h (Paired.rep' h n)
noncomputable def Gu (as:List α)(lo hi:Option Int):List α:=(as.drop (HT.sIx as.length 0 lo)).take (HT.sIx as.length as.length hi-HT.sIx as.length 0 lo)
theorem Jy {F:V->α->Prop}{xs:List V}{as:List α}(p:Paired F xs as)(lo hi:Option Int):Paired F (Hv xs lo hi) (Gu as lo hi):=by
 unfold Hv Gu;rw[Paired.len p];exact Paired.take' _ (Paired.drop' _ p)
noncomputable def FP (Q:Option Int->Hp->Prop)(a:Option Int)(H:Hp):Prop:=∀ H',XJ H H'->Q a H'
noncomputable def EvP (Er:Exc->Hp->Prop)(S:SC)(OO:List (List XA))(σ:St)(t:TO)(m:Rs (Option Int)):Prop:=∀ H Q,W OO H->S.p (hid H OO)->PZ Er (FP Q) H m->t σ H Q
theorem EvP.run {t:TO}{m:Rs (Option Int)}(he:EvP Er S OO σ t m){H:Hp}{Q:Option Int->Hp->Prop}(w:W OO H)(s:S.p (hid H OO)){f:Option Int->Rs β}{F:β->Hp->Prop}(hF:∀b H H',XJ H H'->F b H->F b H')(P:PZ Er F H (m.bind f))
  (hk:∀a H',XJ H H'->W OO H'->S.p (hid H' OO)->PZ Er F H' (f a)->Q a H'):t σ H Q:=by
 refine he H Q w s ?_
 cases e:m with
 |bad=>rw[e] at P;exact P
 |err x=>rw[e] at P;exact P
 |ok a=>exact λH' s'=>hk a H' s' (w.keep s') (S.mono _ _ (Xl s') s) (PZ.run e hF s' P)
theorem JX:EvP Er S OO σ DB (.ok none):=λH Q w s P=>P H (XJ.refl _)
theorem JZ {te:TE}{m:Rs Int}(h:EvB K Er S OO σ te Xa m):EvP Er S OO σ (Md te) (m.bind λi=>.ok (some i)):=λH Q w s P=>
 h.run w s (λ_ _ _ s h H2 s2=>h H2 (s.trans s2)) P λa v H1 s1 w1 q1 r1 P1=>⟨a,r1,P1 H1 (XJ.refl _)⟩
theorem FH {te:TE}{tl th:TO}{r:Enc α}[z:MonoE r]{m:Rs (List α)}{ml mh:Rs (Option Int)}(he:EvL K Er S OO σ te r m)(hl:EvP Er S OO σ tl ml)(hh:EvP Er S OO σ th mh):
  Ev K Er S OO OO σ (tSl (MH K) te tl th) (oL (oF r)) (m.bind λas=>ml.bind λlo=>mh.bind λhi=>.ok (Gu as lo hi)):=λH Q w s P=>
 he.run w s FO.tr P λas x H1 s1 w1 q1 ⟨p,xs,e,q,pr⟩ P1=>hl.run w1 q1 FO.tr P1 λlo H2 s2 w2 q2 P2=>hh.run w2 q2 FO.tr P2 λhi H3 s3 w3 q3 P3'=>
  ⟨p,xs,e,SqL.of (s3 _ _ (s2 _ _ q)),Hu w3 (Jy (Paired.imp2 (λ_ _ h=>z.mono ((Xl s2).trans (Xl s3)) h) pr) lo hi) P3'⟩
theorem EH {ta:TE}{r:Enc α}{m:Rs (List α)}(ha:EvB K Er S OO σ ta (rL r) m):EvB K Er S OO σ (tCB (Bf K) (XM ta Z5)) Xa (m.bind λas=>.ok (as.length:Int)):=λH Q w s P=>
 ha.run w s FB.tr P λa x H1 s1 w1 q1 r9 P1=>by obtain⟨p,xs,e,q,pr⟩:=r9;exact⟨p,xs,by rw[e], .inl q,P1 _ H1 (XJ.refl _) (by rw[Paired.len pr];rfl)⟩
theorem HP {ta tb:TE}{ma:Rs (List Int)}{mb:Rs Int}(ha:EvB K Er S OO σ ta (rL Xa) ma)(hb:EvB K Er S OO σ tb Xa mb):EvB K Er S OO σ (tOp (Iw K) ta tb) Xa (ma.bind λas=>mb.bind λi=>atR as i):=λH Q w s P=>
 ha.run w s FB.tr P λa x H1 s1 w1 q1 ⟨p,xs,e,q,pr⟩ P1=>hb.run w1 q1 FB.tr P1 λb y H2 s2 w2 q2 r2 P2=>by
  obtain⟨c,hc,P3⟩:=P2.okOf λx=>Ku
  obtain⟨u,h1,h2⟩:=Ju pr (FI hc)
  exact⟨p,xs,b,u,e,r2,s2.seq q,h1,P3 u H2 (XJ.refl _) h2⟩
theorem BF {te:TE}{tl th:TO}{m:Rs (List Int)}{ml mh:Rs (Option Int)}(he:EvB K Er S OO σ te (rL Xa) m)(hl:EvP Er S OO σ tl ml)(hh:EvP Er S OO σ th mh):
  Ev K Er S OO OO σ (tSl (MH K) te tl th) (oL (oF Xa)) (m.bind λas=>ml.bind λlo=>mh.bind λhi=>.ok (Gu as lo hi)):=λH Q w s P=>
 he.run w s FO.tr P λas x H1 s1 w1 q1 ⟨p,xs,e,q,pr⟩ P1=>hl.run w1 q1 FO.tr P1 λlo H2 s2 w2 q2 P2=>hh.run w2 q2 FO.tr P2 λhi H3 s3 w3 q3 P3'=>
  ⟨p,xs,e,s3.seq (s2.seq q),Hu w3 (Jy (Paired.imp2 (λ_ _ h=>h) pr) lo hi) P3'⟩
noncomputable def FR (as bs:List α):Rs (List α):=chk (as.length+bs.length<=sizeLine) (.ok (as++bs))
theorem Uj {ta tb:TE}{r:Enc α}[z:MonoE r]{ma mb:Rs (List α)}(ha:EvL K Er S OO σ ta r ma)(hb:EvL K Er S OO σ tb r mb):Ev K Er S OO OO σ (tOp Nh ta tb) (oL (oF r)) (ma.bind λas=>mb.bind λbs=>FR as bs):=λH Q w s P=>
 ha.run w s FO.tr P λas x H1 s1 w1 q1 ⟨p,xs,e,q,pr⟩ P1=>hb.run w1 q1 FO.tr P1 λbs y H2 s2 w2 q2 ⟨p',ys,e',q',pr'⟩ P2=>by
  obtain⟨c,hc,P3⟩:=P2.okOf λx=>QN
  obtain⟨h1,h2⟩:=ZK hc
  cases h2
  exact⟨p,p',xs,ys,e,e',s2 _ _ q,q',by rw[Paired.len pr,Paired.len pr'];exact h1,Hu w2 (Paired.app (Paired.imp2 (λ_ _ h=>z.mono (Xl s2) h) pr) pr') P3⟩
noncomputable def DE (as:List α)(n:Int):Rs (List α):=chk (-(2^63)<=n/\n<2^63/\as.length*n.toNat<=sizeLine) (.ok (List.replicate n.toNat as).flatten)
theorem Fq {ta tb:TE}{r:Enc α}[z:MonoE r]{ma:Rs (List α)}{mb:Rs Int}(ha:EvL K Er S OO σ ta r ma)(hb:EvB K Er S OO σ tb Xa mb):Ev K Er S OO OO σ (tOp Nf ta tb) (oL (oF r)) (ma.bind λas=>mb.bind λn=>DE as n):=λH Q w s P=>
 ha.run w s FO.tr P λas x H1 s1 w1 q1 ⟨p,xs,e,q,pr⟩ P1=>hb.run w1 q1 FO.tr P1 λn y H2 s2 w2 q2 r2 P2=>by
  obtain⟨c,hc,P3⟩:=P2.okOf λx=>QN
  obtain⟨⟨h0,h1,h3⟩,h2⟩:=ZK hc
  cases h2
  exact⟨p,n,xs,e,r2,s2 _ _ q,h0,h1,by rw[Paired.len pr];exact h3,Hu w2 (Paired.rep' (Paired.imp2 (λ_ _ h=>z.mono (Xl s2) h) pr) _) P3⟩
theorem Qa {ta:TE}{r:Enc α}[z:MonoE r]{ma:Rs (List α)}(ha:EvL K Er S OO σ ta r ma):Ev K Er S OO OO σ (tCB (DM K) (XM ta Z5)) (oL (oF r)) (ma.bind λas=>.ok as):=λH Q w s P=>
 ha.run w s FO.tr P λas x H1 s1 w1 q1 r9 P1=>by obtain⟨p,xs,e,q,pr⟩:=r9;exact⟨p,xs,by rw[e], .inl (SqL.of q),Hu w1 pr P1⟩
noncomputable def Qs (lo hi:Int):List Int:=(List.range (hi-lo).toNat).map λ(i:Nat)=>lo+(i:Int)
theorem Ks {ta:TE}{ma:Rs Int}(ha:EvB K Er S OO σ ta Xa ma):Ev K Er S OO OO σ (Fc (XM ta Z5)) (oL (oF Xa)) (ma.bind λn=>chk (0<=n/\n<=1000) (.ok (Qs 0 n))):=λH Q w s P=>
 ha.run w s FO.tr P λn x H1 s1 w1 q1 r1 P1=>by
  obtain⟨c,hc,P3⟩:=P1.okOf λx=>QN
  obtain⟨⟨h0,h1⟩,h2⟩:=ZK hc
  cases h2
  refine⟨n,by rw[show x= .int n from r1],h0,h1,Hu w1 ?_ P3⟩
  unfold Qs
  rw[Int.sub_zero]
  have:∀l:List Nat,Paired (Xa K (hid H1 OO)) (l.map λ(i:Nat)=>V.int (i:Int)) (l.map λ(i:Nat)=>(0:Int)+(i:Int)):=λl=>by
   induction l with
   |nil=>exact .nil
   |cons a l ih=>exact .cons (by show V.int (a:Int)=V.int (0+(a:Int));rw[Int.zero_add]) ih
  exact this _
theorem Z6 {o:OE α}:Ev K Er S OO OO σ (Ed Z5) (oL o) (.ok []):=λH Q w s P=>⟨Nat.zero_le _,λp hp=>P (.ref p) [(p, .lst [])] _ (X2 hp _) (w.new hp rfl) (UY hp) ⟨p,[],[],rfl, .nil,rfl⟩⟩
noncomputable def FA {α:Type}(K:PySem.W.Frag)(OO:List (List XA))(r:Enc α)(Q:List V->Hp->Prop)(as:List α)(H:Hp):Prop:=∀ vs H',XJ H H'->Paired (r K (hid H' OO)) vs as->Q vs H'
noncomputable def EvA {α:Type}(K:PySem.W.Frag)(Er:Exc->Hp->Prop)(S:SC)(OO:List (List XA))(σ:St)(t:TA)(r:Enc α)(m:Rs (List α)):Prop:=∀ H Q,W OO H->S.p (hid H OO)->PZ Er (FA K OO r Q) H m->t σ H Q
theorem YY {r:Enc α}:EvA K Er S OO σ Z5 r (.ok []):=λH Q w s P=>P [] H (XJ.refl _) .nil
theorem Xu {te:TE}{t:TA}{r:Enc α}[z:MonoE r]{m:Rs α}{n:Rs (List α)}(he:EvS K Er S OO σ te r m)(ht:EvA K Er S OO σ t r n):EvA K Er S OO σ (XM te t) r (m.bind λa=>n.bind λas=>.ok (a::as)):=λH Q w s P=>
 he.run w s (λb H H' s h vs H2 s2 p=>h vs H2 (s.trans s2) p) P λa x H1 s1 w1 q1 r1 P1=>by
  refine ht H1 _ w1 q1 ?_
  cases e:n with
  |bad=>rw[e] at P1;exact P1
  |err x=>rw[e] at P1;exact P1
  |ok as=>rw[e] at P1;exact λvs H2 s2 p=>P1 (x::vs) H2 s2 (.cons (z.mono (Xl s2) r1) p)
theorem Zx {t:TA}{r:Enc α}[z:MonoE r]{m:Rs (List α)}(h:EvA K Er S OO σ t r m):Ev K Er S OO OO σ (Ed t) (oL (oF r)) (m.bind λas=>chk (as.length<=sizeLine) (.ok as)):=λH Q w s P=>by
 refine h H _ w s ?_
 cases e:m with
 |bad=>rw[e] at P;exact P
 |err x=>rw[e] at P;exact P
 |ok as=>
  rw[e] at P
  intro vs H1 s1 p
  obtain⟨c,hc,P3⟩:=PZ.okOf (λx=>QN) (show PZ Er _ H (chk (as.length<=sizeLine) (.ok as)) from P)
  obtain⟨h1,h2⟩:=ZK hc
  cases h2
  exact⟨by rw[Paired.len p];exact h1,Hu (w.keep s1) p (FO.tr _ _ _ s1 P3)⟩
theorem Qx {ta tb:TE}{r:Enc α}{q:Enc β}[z:MonoE r][y:MonoE q]{ma:Rs α}{mb:Rs β}(ha:EvS K Er S OO σ ta r ma)(hb:EvS K Er S OO σ tb q mb):EvS K Er S OO σ (LM (XM ta (XM tb Z5))) (rP2 r q) (ma.bind λa=>mb.bind λb=>.ok (a,b)):=λH Q w s P=>
 ha.run w s FS.tr P λa x H1 s1 w1 q1 r1 P1=>hb.run w1 q1 FS.tr P1 λb y' H2 s2 w2 q2 r2 P2=>
  ⟨by show 2<=sizeLine;decide,λp hp=>P2 _ _ (X2 hp _) ⟨p,x,y',rfl,Jh w2 hp,z.mono ((Xl s2).trans (Xl (X2 hp _))) r1,y.mono (Xl (X2 hp _)) r2⟩⟩
theorem Fj {ta tb tc:TE}{r:Enc α}{q:Enc β}{t:Enc γ}[z:MonoE r][y:MonoE q][x:MonoE t]{ma:Rs α}{mb:Rs β}{mc:Rs γ}(ha:EvS K Er S OO σ ta r ma)(hb:EvS K Er S OO σ tb q mb)(hc:EvS K Er S OO σ tc t mc):
  EvS K Er S OO σ (LM (XM ta (XM tb (XM tc Z5)))) (rP3 r q t) (ma.bind λa=>mb.bind λb=>mc.bind λc=>.ok (a,b,c)):=λH Q w s P=>
 ha.run w s FS.tr P λa x' H1 s1 w1 q1 r1 P1=>hb.run w1 q1 FS.tr P1 λb y' H2 s2 w2 q2 r2 P2=>hc.run w2 q2 FS.tr P2 λc z' H3 s3 w3 q3 r3 P3=>
  ⟨by show 3<=sizeLine;decide,λp hp=>P3 _ _ (X2 hp _) ⟨p,x',y',z',rfl,Jh w3 hp,z.mono (((Xl s2).trans (Xl s3)).trans (Xl (X2 hp _))) r1,y.mono ((Xl s3).trans (Xl (X2 hp _))) r2,x.mono (Xl (X2 hp _)) r3⟩⟩
end
section
variable {K:PySem.W.Frag}{Er:Exc->Hp->Prop}{S:SC}{OO OO' OO2:List (List XA)}{σ:St}{α β γ ρ ι:Type}{α1 α2 α3 α4 α5 α6:Type}
noncomputable def noE (m:Rs α):Rs α:=match m with
 | .ok a=>.ok a
 |_=>.bad
theorem U6 {m:Rs α}{a:α}(h:noE m= .ok a):m= .ok a:=by
 cases m with
 |ok b=>exact h
 |bad=>cases h
 |err x=>cases h
theorem Ky {m:Rs α}{x:Exc}:noE m≠ .err x:=by cases m<;> exact λz=>nomatch z
noncomputable def FF (K:PySem.W.Frag)(o:OE α)(Q:VK)(a:α)(H:Hp):Prop:=∀ v C H',W [C] H'->XJ H (hid H' [C])->o K (hid H' [C]) v a C->Q v H'
inductive sp1I (r1:Enc α1)(o:OE ρ)(f:α1->Rs ρ)(K:PySem.W.Frag)(vs:List V)(H:Hp)(Q:VK)(u3_:XK):Prop
 |mk (v1:_) (a1:_) (b:_) (h1_:vs=[v1]) (h2_:r1 K H v1 a1) (h3_:f a1= .ok b) (h4_:FF K o Q b H)
noncomputable def sp1 (r1:Enc α1)(o:OE ρ)(f:α1->Rs ρ)(K:PySem.W.Frag):Sp:=λvs H Q u3_=>sp1I r1 o f K vs H Q u3_
inductive sp2I (r1:Enc α1)(r2:Enc α2)(o:OE ρ)(f:α1->α2->Rs ρ)(K:PySem.W.Frag)(vs:List V)(H:Hp)(Q:VK)(u3_:XK):Prop
 |mk (v1:_) (v2:_) (a1:_) (a2:_) (b:_) (h1_:vs=[v1,v2]) (h2_:r1 K H v1 a1) (h3_:r2 K H v2 a2) (h4_:f a1 a2= .ok b) (h5_:FF K o Q b H)
noncomputable def sp2 (r1:Enc α1)(r2:Enc α2)(o:OE ρ)(f:α1->α2->Rs ρ)(K:PySem.W.Frag):Sp:=λvs H Q u3_=>sp2I r1 r2 o f K vs H Q u3_
inductive sp3I (r1:Enc α1)(r2:Enc α2)(r3:Enc α3)(o:OE ρ)(f:α1->α2->α3->Rs ρ)(K:PySem.W.Frag)(vs:List V)(H:Hp)(Q:VK)(u3_:XK):Prop
 |mk (v1:_) (v2:_) (v3:_) (a1:_) (a2:_) (a3:_) (b:_) (h1_:vs=[v1,v2,v3]) (h2_:r1 K H v1 a1) (h3_:r2 K H v2 a2) (h4_:r3 K H v3 a3) (h5_:f a1 a2 a3= .ok b) (h6_:FF K o Q b H)
noncomputable def sp3 (r1:Enc α1)(r2:Enc α2)(r3:Enc α3)(o:OE ρ)(f:α1->α2->α3->Rs ρ)(K:PySem.W.Frag):Sp:=λvs H Q u3_=>sp3I r1 r2 r3 o f K vs H Q u3_
inductive sp4I (r1:Enc α1)(r2:Enc α2)(r3:Enc α3)(r4:Enc α4)(o:OE ρ)(f:α1->α2->α3->α4->Rs ρ)(K:PySem.W.Frag)(vs:List V)(H:Hp)(Q:VK)(u3_:XK):Prop
 |mk (v1:_) (v2:_) (v3:_) (v4:_) (a1:_) (a2:_) (a3:_) (a4:_) (b:_) (h1_:vs=[v1,v2,v3,v4]) (h2_:r1 K H v1 a1) (h3_:r2 K H v2 a2) (h4_:r3 K H v3 a3) (h5_:r4 K H v4 a4) (h6_:f a1 a2 a3 a4= .ok b) (h7_:FF K o Q b H)
noncomputable def sp4 (r1:Enc α1)(r2:Enc α2)(r3:Enc α3)(r4:Enc α4)(o:OE ρ)(f:α1->α2->α3->α4->Rs ρ)(K:PySem.W.Frag):Sp:=λvs H Q u3_=>sp4I r1 r2 r3 r4 o f K vs H Q u3_
inductive sp5I (r1:Enc α1)(r2:Enc α2)(r3:Enc α3)(r4:Enc α4)(r5:Enc α5)(o:OE ρ)(f:α1->α2->α3->α4->α5->Rs ρ)(K:PySem.W.Frag)(vs:List V)(H:Hp)(Q:VK)(u3_:XK):Prop
 |mk (v1:_) (v2:_) (v3:_) (v4:_) (v5:_) (a1:_) (a2:_) (a3:_) (a4:_) (a5:_) (b:_) (h1_:vs=[v1,v2,v3,v4,v5]) (h2_:r1 K H v1 a1) (h3_:r2 K H v2 a2) (h4_:r3 K H v3 a3) (h5_:r4 K H v4 a4) (h6_:r5 K H v5 a5) (h7_:f a1 a2 a3 a4 a5= .ok b) (h8_:FF K o Q b H)
noncomputable def sp5 (r1:Enc α1)(r2:Enc α2)(r3:Enc α3)(r4:Enc α4)(r5:Enc α5)(o:OE ρ)(f:α1->α2->α3->α4->α5->Rs ρ)(K:PySem.W.Frag):Sp:=λvs H Q u3_=>sp5I r1 r2 r3 r4 r5 o f K vs H Q u3_
theorem MP {C:List XA}{H H':Hp}(w:W OO H)(w':W [C] H')(m':XJ H (hid H' [C])):W (C::OO) H'/\XJ (hid H OO) (hid H' (C::OO))/\Dq (hid H' [C]) (hid H' (C::OO)):=by
 have s:XJ H H':=m'.trans XS
 have f1:fl [C]=C.map (·.1):=by simp[fl]
 have hd:∀b,b∈fl OO->b∉C.map (·.1):=λb hb hc=>by
  obtain⟨u,hu⟩:=DW hb
  exact(YB (m' _ _ (w.tr _ hu))).2 (by rw[f1];exact hc)
 have w2:W (C::OO) H':=by
  refine⟨λc hc=>?_,?_,λc hc=>?_⟩
  ·rw[List.flatten_cons,List.mem_append] at hc
   rcases hc with hc |hc
   ·exact w'.tr c (by simp[hc])
   ·exact s _ _ (w.tr c hc)
  ·rw[Yz]
   refine List.nodup_append.mpr ⟨by rw[←f1];exact w'.nd,w.nd,λa ha b hb e=>?_⟩
   subst e;exact hd a hb ha
  ·rw[List.flatten_cons,List.mem_append] at hc
   rcases hc with hc |hc
   ·exact w'.mu c (by simp[hc])
   ·exact w.mu c hc
 refine⟨w2,λb u q=>?_,λb u q i=>?_⟩
 ·obtain⟨q1,q2⟩:=YB q
  obtain⟨q3,q4⟩:=YB (m' _ _ q1)
  refine ZW q3 ?_
  rw[Yz,List.mem_append]
  exact λz=>z.elim (λz=>q4 (by rw[f1];exact z)) q2
 ·exact w2.i b u (YB q).1 i
theorem Vk {o:OE α}[z:FlatO o]{Q:VK}{b:α}{H:Hp}(w:W OO H)(P:FO K OO OO o Q b H):FF K o Q b H:=λv C H' w' m' ho=>by
 obtain⟨w2,h2,h3⟩:=MP w w' m'
 exact P v C H' (m'.trans XS) w2 h2 (z.flat h3 ho)
theorem Yy {ta:TE}{r1:Enc α1}{o:OE ρ}[FlatO o]{f:α1->Rs ρ}{ma:Rs α1}(ha:EvB K Er S OO σ ta r1 ma):Ev K Er S OO OO σ (Go (sp1 r1 o f K) [] E0 (XM ta Z5)) o (ma.bind λa=>noE (f a)):=λH Q w s P=>
 ha.run w s FO.tr P λa x H1 s1 w1 q1 r1 P1=>by
  obtain⟨b,hb,P2⟩:=P1.okOf λx=>Ky
  exact⟨x,a,b,rfl,r1,U6 hb,Vk w1 P2⟩
theorem XW {ta tb:TE}{r1:Enc α1}{r2:Enc α2}[z1:MonoE r1]{o:OE ρ}[FlatO o]{f:α1->α2->Rs ρ}{ma:Rs α1}{mb:Rs α2}(ha:EvB K Er S OO σ ta r1 ma)(hb:EvB K Er S OO σ tb r2 mb):
  Ev K Er S OO OO σ (Go (sp2 r1 r2 o f K) [] E0 (XM ta (XM tb Z5))) o (ma.bind λa=>mb.bind λb=>noE (f a b)):=λH Q w s P=>
 ha.run w s FO.tr P λa x H1 s1 w1 q1 r1 P1=>hb.run w1 q1 FO.tr P1 λb y H2 s2 w2 q2 r2 P2=>by
  obtain⟨c,hc,P3⟩:=P2.okOf λx=>Ky
  exact⟨x,y,a,b,c,rfl,z1.mono s2 r1,r2,U6 hc,Vk w2 P3⟩
theorem YV {ta tb tc:TE}{r1:Enc α1}{r2:Enc α2}{r3:Enc α3}[z1:MonoE r1][z2:MonoE r2]{o:OE ρ}[FlatO o]{f:α1->α2->α3->Rs ρ}{ma:Rs α1}{mb:Rs α2}{mc:Rs α3}(ha:EvB K Er S OO σ ta r1 ma)(hb:EvB K Er S OO σ tb r2 mb)(hc:EvB K Er S OO σ tc r3 mc):
  Ev K Er S OO OO σ (Go (sp3 r1 r2 r3 o f K) [] E0 (XM ta (XM tb (XM tc Z5)))) o (ma.bind λa=>mb.bind λb=>mc.bind λc=>noE (f a b c)):=λH Q w s P=>
 ha.run w s FO.tr P λa x H1 s1 w1 q1 r1 P1=>hb.run w1 q1 FO.tr P1 λb y H2 s2 w2 q2 r2 P2=>hc.run w2 q2 FO.tr P2 λc z H3 s3 w3 q3 r3 P3=>by
  obtain⟨d,hd,P4⟩:=P3.okOf λx=>Ky
  exact⟨x,y,z,a,b,c,d,rfl,z1.mono (s2.trans s3) r1,z2.mono s3 r2,r3,U6 hd,Vk w3 P4⟩
theorem E5 {ta tb tc td:TE}{r1:Enc α1}{r2:Enc α2}{r3:Enc α3}{r4:Enc α4}[z1:MonoE r1][z2:MonoE r2][z3:MonoE r3]{o:OE ρ}[FlatO o]{f:α1->α2->α3->α4->Rs ρ}{ma:Rs α1}{mb:Rs α2}{mc:Rs α3}{md:Rs α4}(ha:EvB K Er S OO σ ta r1 ma)(hb:EvB K Er S OO σ tb r2 mb)(hc:EvB K Er S OO σ tc r3 mc)(hd:EvB K Er S OO σ td r4 md):
  Ev K Er S OO OO σ (Go (sp4 r1 r2 r3 r4 o f K) [] E0 (XM ta (XM tb (XM tc (XM td Z5))))) o (ma.bind λa=>mb.bind λb=>mc.bind λc=>md.bind λd=>noE (f a b c d)):=λH Q w s P=>
 ha.run w s FO.tr P λa x H1 s1 w1 q1 r1 P1=>hb.run w1 q1 FO.tr P1 λb y H2 s2 w2 q2 r2 P2=>hc.run w2 q2 FO.tr P2 λc z H3 s3 w3 q3 r3 P3=>hd.run w3 q3 FO.tr P3 λd u H4 s4 w4 q4 r4 P4=>by
  obtain⟨e,he,P5⟩:=P4.okOf λx=>Ky
  exact⟨x,y,z,u,a,b,c,d,e,rfl,z1.mono (s2.trans (s3.trans s4)) r1,z2.mono (s3.trans s4) r2,z3.mono s4 r3,r4,U6 he,Vk w4 P5⟩
theorem Ey {ta tb tc td te:TE}{r1:Enc α1}{r2:Enc α2}{r3:Enc α3}{r4:Enc α4}{r5:Enc α5}[z1:MonoE r1][z2:MonoE r2][z3:MonoE r3][z4:MonoE r4]{o:OE ρ}[FlatO o]{f:α1->α2->α3->α4->α5->Rs ρ}{ma:Rs α1}{mb:Rs α2}{mc:Rs α3}{md:Rs α4}{me:Rs α5}(ha:EvB K Er S OO σ ta r1 ma)(hb:EvB K Er S OO σ tb r2 mb)(hc:EvB K Er S OO σ tc r3 mc)(hd:EvB K Er S OO σ td r4 md)(he:EvB K Er S OO σ te r5 me):
  Ev K Er S OO OO σ (Go (sp5 r1 r2 r3 r4 r5 o f K) [] E0 (XM ta (XM tb (XM tc (XM td (XM te Z5)))))) o (ma.bind λa=>mb.bind λb=>mc.bind λc=>md.bind λd=>me.bind λe=>noE (f a b c d e)):=λH Q w s P=>
 ha.run w s FO.tr P λa x H1 s1 w1 q1 r1 P1=>hb.run w1 q1 FO.tr P1 λb y H2 s2 w2 q2 r2 P2=>hc.run w2 q2 FO.tr P2 λc z H3 s3 w3 q3 r3 P3=>hd.run w3 q3 FO.tr P3 λd u H4 s4 w4 q4 r4 P4=>he.run w4 q4 FO.tr P4 λe t H5 s5 w5 q5 r5 P5=>by
  obtain⟨g,hg,P6⟩:=P5.okOf λx=>Ky
  exact⟨x,y,z,u,t,a,b,c,d,e,g,rfl,z1.mono (s2.trans (s3.trans (s4.trans s5))) r1,z2.mono (s3.trans (s4.trans s5)) r2,z3.mono (s4.trans s5) r3,z4.mono s5 r4,r5,U6 hg,Vk w5 P6⟩
structure Jn (γ ι:Type) where
 oo:ι->List (List XA)
 ss:ι->St
 sc:γ->ι->SC
inductive Ctl (ρ γ:Type) where
 |ret (r:ρ) |nx (g:γ)
noncomputable def FTd (K:PySem.W.Frag)(o:OE ρ)(D:Ends)(r:ρ)(h:Hp):Prop:=∀ v C OO' H',W (C::OO') H'->XJ h (hid H' (C::OO'))->o K (hid H' (C::OO')) v r C->D.rt v H'
noncomputable def FNd (J:Jn γ ι)(D:Ends)(g:γ)(h:Hp):Prop:=∀ x H',W (J.oo x) H'->XJ h (hid H' (J.oo x))->(J.sc g x).p (hid H' (J.oo x))->D.nx (J.ss x) H'
noncomputable def FCd (K:PySem.W.Frag)(o:OE ρ)(J:Jn γ ι)(D:Ends)(c:Ctl ρ γ)(h:Hp):Prop:=match c with
 | .ret r=>FTd K o D r h
 | .nx g=>FNd J D g h
class FdOk (Fd:Ends->β->Hp->Prop):Prop where
 tr:∀D b h h',XJ h h'->Fd D b h->Fd D b h'
noncomputable instance {o:OE ρ}:FdOk (FTd K o):=⟨λD b h h' s q v C O H' w m x=>q v C O H' w (s.trans m) x⟩
noncomputable instance {J:Jn γ ι}:FdOk (FNd J):=⟨λD b h h' s q x H' w m y=>q x H' w (s.trans m) y⟩
noncomputable instance {o:OE ρ}{J:Jn γ ι}:FdOk (FCd K o J):=⟨λD b h h' s q=>by
 cases b with
 |ret r=>exact λv C O H' w m x=>q v C O H' w (s.trans m) x
 |nx g=>exact λx H' w m y=>q x H' w (s.trans m) y⟩
theorem PZ.tr {F:β->Hp->Prop}(hF:∀b H H',XJ H H'->F b H->F b H'){H H':Hp}{m:Rs β}(s:XJ H H')(P:PZ Er F H m):PZ Er F H' m:=by
 cases m with
 |bad=>exact P
 |err x=>exact λH2 s2=>P H2 (s.trans s2)
 |ok b=>exact hF b H H' s P
noncomputable def Sv (Er:Exc->Hp->Prop)(S:SC)(OO:List (List XA))(σ:St)(t:TS)(Fd:Ends->β->Hp->Prop)(m:Rs β):Prop:=∀ H D,W OO H->S.p (hid H OO)->PZ Er (Fd D) (hid H OO) m->t D σ H
variable {Fd:Ends->β->Hp->Prop}[fd:FdOk Fd]{u:TS}
theorem Ev.st {te:TE}{o:OE α}{m:Rs α}(he:Ev K Er S OO OO' σ te o m){H:Hp}{D:Ends}{Q:VK}(w:W OO H)(s:S.p (hid H OO)){f:α->Rs β}(P:PZ Er (Fd D) (hid H OO) (m.bind f))
  (hk:∀a v C H',W (C::OO') H'->S.p (hid H' (C::OO'))->o K (hid H' (C::OO')) v a C->PZ Er (Fd D) (hid H' (C::OO')) (f a)->Q v H'):te σ H Q:=by
 refine he H Q w s ?_
 cases m with
 |bad=>exact P
 |err x=>exact λH' s'=>P H' (XS.trans s')
 |ok a=>exact λv C H' s' w' m' ho=>hk a v C H' w' (S.mono _ _ m' s) ho (PZ.tr (fd.tr D) m' P)
theorem EvB.st {te:TE}{r:Enc α}{m:Rs α}(he:EvB K Er S OO σ te r m){H:Hp}{D:Ends}{Q:VK}(w:W OO H)(s:S.p (hid H OO)){f:α->Rs β}(P:PZ Er (Fd D) (hid H OO) (m.bind f))
  (hk:∀a v H',XJ H H'->W OO H'->S.p (hid H' OO)->r K H' v a->PZ Er (Fd D) (hid H' OO) (f a)->Q v H'):te σ H Q:=by
 refine he H Q w s ?_
 cases m with
 |bad=>exact P
 |err x=>exact λH' s'=>P H' (XS.trans s')
 |ok a=>exact λv H' s' hr=>hk a v H' s' (w.keep s') (S.mono _ _ (Xl s') s) hr (PZ.tr (fd.tr D) (Xl s') P)
theorem EvS.st {te:TE}{r:Enc α}{m:Rs α}(he:EvS K Er S OO σ te r m){H:Hp}{D:Ends}{Q:VK}(w:W OO H)(s:S.p (hid H OO)){f:α->Rs β}(P:PZ Er (Fd D) (hid H OO) (m.bind f))
  (hk:∀a v H',XJ H H'->W OO H'->S.p (hid H' OO)->r K (hid H' OO) v a->PZ Er (Fd D) (hid H' OO) (f a)->Q v H'):te σ H Q:=by
 refine he H Q w s ?_
 cases m with
 |bad=>exact P
 |err x=>exact λH' s'=>P H' (XS.trans s')
 |ok a=>exact λv H' s' hr=>hk a v H' s' (w.keep s') (S.mono _ _ (Xl s') s) hr (PZ.tr (fd.tr D) (Xl s') P)
theorem EvT.st {tt:TT}{m:Rs Bool}(he:EvT Er S OO σ tt m){H:Hp}{D:Ends}{Q:Bool->Hp->Prop}(w:W OO H)(s:S.p (hid H OO)){f:Bool->Rs β}(P:PZ Er (Fd D) (hid H OO) (m.bind f))
  (hk:∀b H',W OO H'->S.p (hid H' OO)->PZ Er (Fd D) (hid H' OO) (f b)->Q b H'):tt σ H Q:=by
 refine he H Q w s ?_
 cases m with
 |bad=>exact P
 |err x=>exact λH' s'=>P H' (XS.trans s')
 |ok a=>exact λH' s'=>hk a H' (w.keep s') (S.mono _ _ (Xl s') s) (PZ.tr (fd.tr D) (Xl s') P)
theorem Up {OO:List (List XA)}{k:Nat}{C:List XA}:(OO.set k C).set k []=OO.set k []:=by simp
theorem ND {C:List XA}{H:Hp}{k:Nat}(w:W (C::OO) H)(hk:k<OO.length):W (OO.set k C) H/\XJ (hid H (C::OO)) (hid H (OO.set k C)):=by
 have h1:=Yh (OO:=OO) (k:=k) (C:=OO[k]) (by simp[hk])
 have h2:=Yh (OO:=OO.set k C) (k:=k) (C:=C) (by simp[hk])
 rw[Up] at h2
 have h3:(OO.set k C).flatten.Perm (C++(OO.set k []).flatten):=by simpa using h2.symm
 have h4:(C::OO).flatten.Perm (C++(OO[k]++(OO.set k []).flatten)):=by
  rw[List.flatten_cons];exact(by simpa using h1.symm:OO.flatten.Perm (OO[k]++(OO.set k []).flatten)).append_left C
 have h5:(C++(OO.set k []).flatten).Sublist (C++(OO[k]++(OO.set k []).flatten)):=List.Sublist.append (List.Sublist.refl _) (List.sublist_append_right _ _)
 have w1:W [C++(OO[k]++(OO.set k []).flatten)] H:=w.of (by simpa using h4.symm)
 have w2:W [C++(OO.set k []).flatten] H:=w1.sub (by simpa using h5)
 refine⟨w2.of (by simpa using h3),QZ (XJ.refl _) λb hb=>?_⟩
 obtain⟨o,ho⟩:=DW hb
 exact V5 (h4.mem_iff.mpr (h5.mem (h3.mem_iff.mp ho)))
theorem XO {te:TE}{o:OE α}[MonoO o]{m:Rs α}{f:α->Rs β}(i k:Nat)(he:Ev K Er S OO OO' σ te o m)(hk:k<OO'.length)(hr:∀a v C,Sv Er (S.addO K o v a C) (OO'.set k C) (σ.set i (some v)) u Fd (f a)):Sv Er S OO σ (J9 (Ec te (Y6 i)) u) Fd (m.bind f):=λH D w s P=>
 he.st w s P λa v C H' w' s' ho P'=>by
  obtain⟨w2,h2⟩:=ND w' hk
  exact hr a v C H' D w2 ⟨S.mono _ _ h2 s',MonoO.mono h2 ho⟩ (PZ.tr (fd.tr D) h2 P')
theorem Xw {te:TE}{r:Enc α}[MonoE r]{m:Rs α}{f:α->Rs β}(i:Nat)(he:EvS K Er S OO σ te r m)(hr:∀a v,Sv Er (S.add K r v a) OO (σ.set i (some v)) u Fd (f a)):Sv Er S OO σ (J9 (Ec te (Y6 i)) u) Fd (m.bind f):=λH D w s P=>
 he.st w s P λa v H' s1 w' s' ho P'=>hr a v H' D w' ⟨s',ho⟩ P'
theorem XC {te:TE}{o:OE ρ}{m:Rs ρ}(he:Ev K Er S OO OO' σ te o m):Sv Er S OO σ (J9 (Nm te) u) (FTd K o) m:=λH D w s P=>
 he H _ w s (by
  cases m with
  |bad=>exact P
  |err x=>exact λH' s'=>P H' (XS.trans s')
  |ok a=>exact λv C H' s' w' m' ho=>P v C OO' H' w' m' ho)
theorem Kh {J:Jn γ ι}{t:TS}{o:OE ρ}{m:Rs γ}(h:Sv Er S OO σ t (FNd J) m):Sv Er S OO σ t (FCd K o J) (m.bind λr=>.ok (.nx r)):=λH D w s P=>h H D w s (by
 cases m with
 |bad=>exact P
 |err x=>exact P
 |ok a=>exact P)
theorem Xs {J:Jn γ ι}(x:ι)(g:γ)(h1:OO=J.oo x)(h2:σ=J.ss x)(h3:∀h,S.p h->(J.sc g x).p h):Sv Er S OO σ Bb (FNd J) (.ok g):=λH D w s P=>by
 subst h1 h2
 exact P x H w (XJ.refl _) (h3 _ s)
theorem LC {t:TS}:Sv Er S OO σ t Fd .bad:=λH D w s P=>P.elim
theorem ZL {o:OE ρ}{c:TT}{t1:TS}{mc:Rs Bool}{m1 m2:Rs ρ}(hc:EvT Er S OO σ c mc)(h1:Sv Er S OO σ t1 (FTd K o) m1)(h2:Sv Er S OO σ u (FTd K o) m2):Sv Er S OO σ (J9 (Mw c t1 Bb) u) (FTd K o) (mc.bind λb=>if b=true then m1 else m2):=λH D w s P=>
 hc.st (Fd:=FTd K o) w s P λb H' w' s' P'=>by
  cases b with
  |true=>rw[if_pos rfl] at P'⊢;exact h1 H' _ w' s' P'
  |false=>exact h2 H' D w' s' P'
theorem Vl {o:OE ρ}{J:Jn γ ι}{c:TT}{t1:TS}{mc:Rs Bool}{m1:Rs ρ}{m2:Rs (Ctl ρ γ)}(hc:EvT Er S OO σ c mc)(h1:Sv Er S OO σ t1 (FTd K o) m1)(h2:Sv Er S OO σ u (FCd K o J) m2):Sv Er S OO σ (J9 (Mw c t1 Bb) u) (FCd K o J) (mc.bind λb=>if b=true then m1.bind (λr=>.ok (.ret r)) else m2):=λH D w s P=>
 hc.st (Fd:=FCd K o J) w s P λb H' w' s' P'=>by
  cases b with
  |true=>
   rw[if_pos rfl] at P'⊢
   refine h1 H' _ w' s' ?_
   cases m1 with
   |bad=>exact P'
   |err x=>exact P'
   |ok a=>exact P'
  |false=>exact h2 H' D w' s' P'
theorem ZP {c:TT}{t1 t2:TS}{mc:Rs Bool}{m1 m2:Rs β}(hc:EvT Er S OO σ c mc)(h1:Sv Er S OO σ t1 Fd m1)(h2:Sv Er S OO σ t2 Fd m2):Sv Er S OO σ (Mw c t1 t2) Fd (mc.bind λb=>if b=true then m1 else m2):=λH D w s P=>
 hc.st w s P λb H' w' s' P'=>by
  cases b with
  |true=>rw[if_pos rfl] at P'⊢;exact h1 H' _ w' s' P'
  |false=>exact h2 H' D w' s' P'
theorem Y7 {J:Jn γ ι}{t:TS}{m:Rs γ}{f:γ->Rs β}(hb:Sv Er S OO σ t (FNd J) m)(hr:∀g x,Sv Er (J.sc g x) (J.oo x) (J.ss x) u Fd (f g)):Sv Er S OO σ (J9 t u) Fd (m.bind f):=λH D w s P=>
 hb H _ w s (by
  cases m with
  |bad=>exact P
  |err x=>exact P
  |ok g=>exact λx H' w' m' q=>hr g x H' D w' q (PZ.tr (fd.tr D) m' P))
noncomputable def JQ (f:γ->Rs ρ):Ctl ρ γ->Rs ρ
 | .ret r=>.ok r
 | .nx g=>f g
theorem L4 {t:TS}{o:OE α}{r:Enc α}[z:FrzC o r][MonoE r]{v:V}{a:α}{C:List XA}{m:Rs β}(k:Nat)(hk:OO[k]?=some C)(h:∀x,S.p x->o K x v a C)(hr:Sv Er (S.add K r v a) (OO.set k []) σ t Fd m):Sv Er S OO σ t Fd m:=λH D w s P=>by
 have hp:=Yh hk
 have w1:W (C::OO.set k []) H:=w.of hp
 have hs:XJ (hid H OO) (hid H (OO.set k [])):=by
  rw[←YC hp]
  exact QZ (XJ.refl _) λb hb=>by rw[Yz];simp[hb]
 refine hr H D w1.tail ⟨S.mono _ _ hs s,z.frz (h _ s) hs λc hc=>ZW (w1.cell c hc) ?_⟩ (PZ.tr (fd.tr D) hs P)
 have:=w1.nd
 rw[Yz] at this
 exact λhb=>(List.nodup_append.mp this).2.2 c.1 (List.mem_map.mpr ⟨c,hc,rfl⟩) c.1 hb rfl
theorem Nv {C D C':List XA}{H:Hp}{k:Nat}{p:Addr}{o:HO}(w:W (D::OO) H)(hk:OO[k]?=some C)(hp:p∈C.map (·.1))(hC:(C'.map (·.1)).Perm ((C++D).map (·.1)))(ht:∀c∈C',upd H p o c.1=some c.2)(hm:∀c∈C',Ln c.2=true):
  W (OO.set k C') (upd H p o)/\hid (upd H p o) (OO.set k C')=hid H (D::OO):=by
 have hlt:k<OO.length:=by
  rcases Nat.lt_or_ge k OO.length with h |h
  ·exact h
  ·rw[List.getElem?_eq_none h] at hk;cases hk
 have h1:=Yh hk
 have h2:=Yh (OO:=OO.set k C') (k:=k) (C:=C') (by simp[hlt])
 rw[Up] at h2
 have h3:(OO.set k C').flatten.Perm (C'++(OO.set k []).flatten):=by simpa using h2.symm
 have h4:(D::OO).flatten.Perm (D++(C++(OO.set k []).flatten)):=by
  rw[List.flatten_cons];exact(by simpa using h1.symm:OO.flatten.Perm (C++(OO.set k []).flatten)).append_left D
 have hfl:(fl (OO.set k C')).Perm (fl (D::OO)):=by
  unfold fl
  refine(h3.map _).trans (List.Perm.trans ?_ (h4.map _).symm)
  simp only[List.map_append]
  refine(hC.append_right _).trans ?_
  simp only[List.map_append]
  rw[←List.append_assoc]
  exact List.perm_append_comm.append_right _
 have nd:=w.nd
 refine⟨⟨λc hc=>?_,hfl.nodup_iff.mpr nd,λc hc=>?_⟩,?_⟩
 ·rcases List.mem_append.mp (h3.mem_iff.mp hc) with hc |hc
  ·exact ht c hc
  ·have hne:c.1≠p:=λe=>by
    have nd2:((D++(C++(OO.set k []).flatten)).map (·.1)).Nodup:=(h4.map _).nodup_iff.mp nd
    simp only[List.map_append] at nd2
    have nd3:=(List.nodup_append.mp nd2).2.1
    exact(List.nodup_append.mp nd3).2.2 p hp c.1 (List.mem_map.mpr ⟨c,hc,rfl⟩) e.symm
   rw[XY hne]
   exact w.tr c (h4.mem_iff.mpr (by simp[hc]))
 ·rcases List.mem_append.mp (h3.mem_iff.mp hc) with hc |hc
  ·exact hm c hc
  ·exact w.mu c (h4.mem_iff.mpr (by simp[hc]))
 ·funext b
  unfold hid
  by_cases hb:b∈fl (D::OO)
  ·rw[if_pos hb,if_pos (hfl.mem_iff.mpr hb)]
  ·rw[if_neg hb,if_neg λz=>hb (hfl.mem_iff.mp z)]
   refine XY λe=>hb ?_
   rw[e]
   obtain⟨c,hc,rfl⟩:=List.mem_map.mp hp
   exact V5 (h4.mem_iff.mpr (by simp[hc]))
theorem Z0 {Cs:List (List XA)}{D:List XA}:(Cs++[D]).flatten=Cs.flatten++D:=by simp
theorem Zb {ta:TE}{o:OE α}[MonoO o]{m:Rs α}{f:List α->Rs β}{v:V}{as:List α}{C:List XA}(i k:Nat)(hσ:σ[i]?=some (some v))(hk:OO[k]?=some C)(hk':OO'[k]?=some C)(h:∀x,S.p x->oL o K x v as C)(he:Ev K Er S OO OO' σ ta o m)
  (hr:∀a C',Sv Er (S.addO K (oL o) v (as++[a]) C') (OO'.set k C') σ u Fd (f (as++[a]))):Sv Er S OO σ (J9 (Dt (tBM K "list" UE (K7 i) (XM ta Z5))) u) Fd (m.bind λa=>chk (as.length<sizeLine) (f (as++[a]))):=λH D w s P=>by
 obtain⟨p,xs,Cs,e,q,c⟩:=h _ s
 subst c
 have hH:H p=some (.lst xs):=w.tr (p, .lst xs) (List.mem_flatten.mpr ⟨_,List.mem_of_getElem? hk,List.mem_cons_self⟩)
 refine⟨v,hσ,by rw[e];exact .inl ⟨rfl,_,SqL.of hH⟩,he.st w s P λa y D' H' w' s' ho P'=>?_⟩
 obtain⟨p',xs',Cs',e2,q2,c2⟩:=h _ s'
 rw[e] at e2;cases e2
 have c3:(p,HO.lst xs)=(p,HO.lst xs')/\Cs.flatten=Cs'.flatten:=by
  injection c2 with h1 h2
  exact⟨h1,h2⟩
 obtain⟨c3,c4⟩:=c3
 cases c3
 have hH':H' p=some (.lst xs):=w'.tr (p, .lst xs) (by rw[List.flatten_cons];exact List.mem_append_right _ (List.mem_flatten.mpr ⟨_,List.mem_of_getElem? hk',List.mem_cons_self⟩))
 cases hlt:decide (as.length<sizeLine) with
 |false=>rw[chk,if_neg (by simpa using hlt)] at P';exact P'.elim
 |true=>
  have hlt':as.length<sizeLine:=by simpa using hlt
  rw[XG hlt'] at P'
  have wnd:=w'.nd
  have hcell:∀c∈(p,HO.lst (xs++[y]))::(Cs'++[D']).flatten,upd H' p (.lst (xs++[y])) c.1=some c.2:=λc hc=>by
   rcases List.mem_cons.mp hc with rfl |hc
   ·exact Y1
   ·have hp1:=Yh hk'
    have w3:W [D'++(((p,HO.lst xs)::Cs.flatten)++(OO'.set k []).flatten)] H':=w'.of (by
     simp only[List.flatten_cons,List.flatten_nil,List.append_nil]
     exact(by simpa using hp1:(((p,HO.lst xs)::Cs.flatten)++(OO'.set k []).flatten).Perm OO'.flatten).append_left D')
    have hin:c∈D'++(((p,HO.lst xs)::Cs.flatten)++(OO'.set k []).flatten):=by
     rw[Z0,List.mem_append] at hc
     rcases hc with hc |hc
     ·rw[←c4] at hc;simp[hc]
     ·simp[hc]
    have hne:c.1≠p:=λee=>by
     have nd3:=w3.nd
     rw[Z0,List.mem_append, ←c4] at hc
     simp only[fl,List.flatten_cons,List.flatten_nil,List.append_nil,List.map_append,List.cons_append,List.map_cons] at nd3
     rw[List.nodup_append] at nd3
     obtain⟨_,n2,n3⟩:=nd3
     rcases hc with hc |hc
     ·exact(List.nodup_cons.mp n2).1 (List.mem_append_left _ (List.mem_map.mpr ⟨c,hc,ee⟩))
     ·exact n3 c.1 (List.mem_map.mpr ⟨c,hc,rfl⟩) p List.mem_cons_self ee
    rw[XY hne]
    exact w3.tr c (by simpa using hin)
  obtain⟨w4,h4⟩:=Nv (C':=(p, .lst (xs++[y]))::(Cs'++[D']).flatten) w' hk' List.mem_cons_self (by simp[Z0,c4]) hcell (λc hc=>by
   rcases List.mem_cons.mp hc with rfl |hc
   ·rfl
   ·rw[Z0,List.mem_append, ←c4] at hc
    rcases hc with hc |hc
    ·exact w'.mu c (by rw[List.flatten_cons];exact List.mem_append_right _ (List.mem_flatten.mpr ⟨_,List.mem_of_getElem? hk',List.mem_cons_of_mem _ hc⟩))
    ·exact w'.mu c (by rw[List.flatten_cons];exact List.mem_append_left _ hc))
  refine⟨p,xs,y,e,rfl,hH',by rw[(P3.len q).1];exact hlt',?_⟩
  refine hr a _ _ D w4 ?_ (by rw[h4];exact P')
  rw[h4]
  exact⟨s',⟨p,xs++[y],Cs'++[D'],e,q2.snoc ho,rfl⟩⟩
end
section
variable {K:PySem.W.Frag}{Er:Exc->Hp->Prop}{S:SC}{OO OO' OO2:List (List XA)}{σ:St}{α β γ ρ ι δ ε:Type}
variable {Fd:Ends->β->Hp->Prop}[fd:FdOk Fd]{u:TS}
noncomputable def forN:List α->γ->(γ->α->Rs γ)->Rs γ
 | [],g,_=>.ok g
 |a::as,g,f=>(f g a).bind λg'=>forN as g' f
noncomputable def G8:List α->γ->(γ->α->Rs (Ctl ρ γ))->Rs (Ctl ρ γ)
 | [],g,_=>.ok (.nx g)
 |a::as,g,f=>(f g a).bind λc=>match c with
  | .ret r=>.ok (.ret r)
  | .nx g'=>G8 as g' f
theorem YU {m:Rs α}{f:α->Rs β}{g:β->Rs γ}:(m.bind f).bind g=m.bind λa=>(f a).bind g:=by cases m<;> rfl
structure Tgt (K:PySem.W.Frag)(OO:List (List XA))(g:TG)(r:Enc α)(κ:Type) where
 set:κ->St->St
 sc:α->κ->SC->SC
 ok:∀{H:Hp}{v:V}{a:α}{σ:St}{S:SC}{Q:St->Hp->Prop},r K (hid H OO) v a->S.p (hid H OO)->(∀x,(sc a x S).p (hid H OO)->Q (set x σ) H)->g v σ H Q
@[reducible] noncomputable def tg1 {r:Enc α}[MonoE r](i:Nat):Tgt K OO (Y6 i) r V where
 set:=λv σ=>σ.set i (some v)
 sc:=λa v S=>S.add K r v a
 ok:=fun {H v a σ S Q} hr hs hq=>hq v ⟨hs,hr⟩
@[reducible] noncomputable def tg2 {r:Enc α}{q:Enc β}[MonoE r][MonoE q](i j:Nat):Tgt K OO (E4 K 2 (ZM (Y6 i) (ZM (Y6 j) Hr))) (rP2 r q) (V×V) where
 set:=λv σ=>(σ.set i (some v.1)).set j (some v.2)
 sc:=λa v S=>(S.add K r v.1 a.1).add K q v.2 a.2
 ok:=fun {H v a σ S Q} r9 hs hq=>by obtain⟨p,x,y,e,h,h1,h2⟩:=r9;exact⟨p,_,e,SqT.of (XS _ _ h),rfl,x,[y],rfl,y,[],rfl,rfl,hq (x,y) ⟨⟨hs,h1⟩,h2⟩⟩
@[reducible] noncomputable def tg3 {r:Enc α}{q:Enc β}{t:Enc γ}[MonoE r][MonoE q][MonoE t](i j k:Nat):Tgt K OO (E4 K 3 (ZM (Y6 i) (ZM (Y6 j) (ZM (Y6 k) Hr)))) (rP3 r q t) (V×V×V) where
 set:=λv σ=>((σ.set i (some v.1)).set j (some v.2.1)).set k (some v.2.2)
 sc:=λa v S=>((S.add K r v.1 a.1).add K q v.2.1 a.2.1).add K t v.2.2 a.2.2
 ok:=fun {H v a σ S Q} r9 hs hq=>by obtain⟨p,x,y,z,e,h,h1,h2,h3⟩:=r9;exact⟨p,_,e,SqT.of (XS _ _ h),rfl,x,[y,z],rfl,y,[z],rfl,z,[],rfl,rfl,hq (x,y,z) ⟨⟨⟨hs,h1⟩,h2⟩,h3⟩⟩
structure Walk (K:PySem.W.Frag)(Er:Exc->Hp->Prop)(S:SC)(OO:List (List XA))(σ:St)(wi:TI)(r:Enc α)(m:Rs (List α)):Prop where
 ok:∀{H:Hp}{R:It->Hp->Prop},W OO H->S.p (hid H OO)->PZ Er (λas H=>∀ J H',XJ H H'->
   (∀(i:Nat) a,as[i]?=some a->∀OO2 H2,W OO2 H2->XJ (hid H' OO) (hid H2 OO2)->J.go i H2/\∀x H3,J.yld i H2 x H3->XJ H2 H3/\r K (hid H3 OO2) x a)->
   (∀OO2 H2,W OO2 H2->XJ (hid H' OO) (hid H2 OO2)->J.stop as.length H2)->R J H') H m->wi σ H R
theorem Xv {te:TE}{r:Enc α}[z:MonoE r]{m:Rs (List α)}(he:EvS K Er S OO σ te (rV r) m):Walk K Er S OO σ (Ib K te) r m:=⟨fun {H R} w s P=>by
 refine he H _ w s (P.imp λas _ h v H' s' ⟨p,xs,e,hp,pr⟩=>⟨p,e,⟨xs,SqL.of (XS _ _ hp)⟩,h _ H' s' ?_ ?_⟩)
 ·intro i a ha OO2 H2 w2 m2
  obtain⟨x,hx,rx⟩:=Paired.getR pr ha
  have hq:SqL K H2 p xs:=SqL.of (XS _ _ (m2 _ _ hp))
  refine⟨⟨xs,x,hq,hx⟩,λy H3 r9=>?_⟩
  obtain⟨e3,hy⟩:=r9
  subst e3
  refine⟨XJ.refl _,?_⟩
  have:=hy xs hq
  rw[hx] at this
  cases this
  exact z.mono m2 rx
 ·intro OO2 H2 w2 m2
  exact⟨xs,SqL.of (XS _ _ (m2 _ _ hp)),by rw[Paired.len pr];exact Nat.le_refl _⟩⟩
noncomputable def K5 (as:List α):List (Int×α):=(List.range as.length).map (λ(i:Nat)=>(i:Int)) |>.zip as
theorem KN {as:List α}{i:Nat}{p:Int×α}(h:(K5 as)[i]?=some p):p.1=(i:Int)/\as[i]?=some p.2:=by
 unfold K5 at h
 rw[List.getElem?_zip_eq_some] at h
 obtain⟨h1,h2⟩:=h
 rw[List.getElem?_map] at h1
 have hlt:i<as.length:=by
  rcases Nat.lt_or_ge i as.length with q |q
  ·exact q
  ·rw[List.getElem?_eq_none q] at h2;cases h2
 rw[List.getElem?_range hlt] at h1
 exact⟨(Option.some.inj h1).symm,h2⟩
theorem CW {as:List α}:(K5 as).length=as.length:=by simp[K5]
theorem D0 {te:TE}{r:Enc α}[z:MonoE r]{m:Rs (List α)}(he:EvS K Er S OO σ te (rV r) m):Walk K Er S OO σ (L9 K te) (rP2 Xa r) (m.bind λas=>.ok (K5 as)):=⟨fun {H R} w s P=>by
 refine he H _ w s ?_
 cases em:m with
 |bad=>rw[em] at P;exact P
 |err x=>rw[em] at P;exact P
 |ok as=>
  rw[em] at P
  intro v H' s' ⟨p,xs,e,hp,pr⟩
  refine⟨p,e,⟨xs,SqL.of (XS _ _ hp)⟩,P _ H' s' ?_ ?_⟩
  ·intro i a ha OO2 H2 w2 m2
   obtain⟨ha1,ha2⟩:=KN ha
   obtain⟨x,hx,rx⟩:=Paired.getR pr ha2
   have hq:SqL K H2 p xs:=SqL.of (XS _ _ (m2 _ _ hp))
   refine⟨⟨xs,x,hq,hx⟩,λy H3 h3=>?_⟩
   obtain⟨b,x',rfl,hb,rfl,hy⟩:=h3
   have:=hy xs hq
   rw[hx] at this
   cases this
   refine⟨X2 hb _,⟨b, .int i,x,rfl,Jh w2 hb,by show V.int _=V.int _;rw[ha1],z.mono (m2.trans (Xl (X2 hb _))) rx⟩⟩
  ·intro OO2 H2 w2 m2
   exact⟨xs,SqL.of (XS _ _ (m2 _ _ hp)),by rw[CW,Paired.len pr];exact Nat.le_refl _⟩⟩
theorem Db {lo hi:Int}{i:Nat}{a:Int}(h:(Qs lo hi)[i]?=some a):a=lo+i/\i<(hi-lo).toNat:=by
 unfold Qs at h
 rw[List.getElem?_map] at h
 rcases Nat.lt_or_ge i (hi-lo).toNat with q |q
 ·rw[List.getElem?_range q] at h;exact⟨(Option.some.inj h).symm,q⟩
 ·rw[List.getElem?_eq_none (by simpa using q)] at h;cases h
theorem Dn {lo hi:Int}:(Qs lo hi).length=(hi-lo).toNat:=by simp[Qs]
noncomputable def JJ (lo hi:Int):Rs (List Int):=chk (-(2^62)<=lo/\lo<2^62/\ -(2^62)<=hi/\hi<2^62) (.ok (Qs lo hi))
theorem Xy {te:TE}{m:Rs Int}(he:EvB K Er S OO σ te Xa m):Walk K Er S OO σ (LO (XM te Z5)) Xa (m.bind λn=>JJ 0 n):=⟨fun {H R} w s P=>
 he.run w s (λas H H' s' h J H2 s2=>h J H2 (s'.trans s2)) P λn v H1 s1 w1 q1 r1 P1=>by
  obtain⟨c,hc,P2⟩:=P1.okOf λx=>QN
  obtain⟨⟨_,_,h1,h2⟩,h3⟩:=ZK hc
  cases h3
  refine⟨n,by rw[show v= .int n from r1],h1,h2,P2 _ H1 (XJ.refl _) (λi a ha OO2 H2 w2 m2=>?_) λOO2 H2 w2 m2=>?_⟩
  ·obtain⟨e1,e2⟩:=Db ha
   rw[Int.sub_zero] at e2
   refine⟨e2,λx H3 r9=>?_⟩
   obtain⟨e3,e4⟩:=r9
   subst e3
   exact⟨XJ.refl _,by rw[e4,e1];rfl⟩
  ·show n.toNat<=_
   rw[Dn,Int.sub_zero];exact Nat.le_refl _⟩
theorem X5 {wi:TI}{g:TG}{tb:TS}{r:Enc α}{κ:Type}{m:Rs (List α)}{body:γ->α->Rs γ}{f:γ->Rs β}(J:Jn γ ι)(T:∀OO,Tgt K OO g r κ)(x0:ι)(g0:γ)(he:Walk K Er S OO σ wi r m)(h1:OO=J.oo x0)(h2:σ=J.ss x0)(h3:∀h,S.p h->(J.sc g0 x0).p h)
  (hb:∀g x a v,Sv Er ((T (J.oo x)).sc a v (J.sc g x)) (J.oo x) ((T (J.oo x)).set v (J.ss x)) tb (FNd J) (body g a))
  (hr:∀g x,Sv Er (J.sc g x) (J.oo x) (J.ss x) u Fd (f g)):Sv Er S OO σ (J9 (M7 wi g tb) u) Fd (m.bind λas=>(forN as g0 body).bind f):=λH D w s P=>by
 refine he.ok w s ?_
 cases em:m with
 |bad=>rw[em] at P;exact P
 |err x=>rw[em] at P;exact λH' s'=>P H' (XS.trans s')
 |ok as=>
  rw[em] at P
  have P:PZ Er (Fd D) (hid H OO) ((forN as g0 body).bind f):=P
  intro It H' s' hgo hstop
  refine⟨λi mm σ' H2=>mm=as.length-i/\i<=as.length/\∃x gg,σ'=J.ss x/\W (J.oo x) H2/\XJ (hid H' OO) (hid H2 (J.oo x))/\(J.sc gg x).p (hid H2 (J.oo x))/\PZ Er (Fd D) (hid H2 (J.oo x)) ((forN (as.drop i) gg body).bind f),⟨as.length,rfl,Nat.zero_le _,x0,g0,h2,?_,?_,?_,?_⟩,?_⟩
  ·rw[←h1];exact w.keep s'
  ·rw[←h1];exact XJ.refl _
  ·rw[←h1];exact h3 _ (S.mono _ _ (Xl s') s)
  ·rw[←h1,List.drop_zero];exact PZ.tr (fd.tr D) (Xl s') P
  ·rintro i mm σ' H2 ⟨rfl,hi,x,gg,rfl,w2,m2,sc2,P2⟩
   by_cases hlt:i<as.length
   ·right
    have ha:as[i]?=some as[i]:=by simp[hlt]
    obtain⟨h4,h5⟩:=hgo i _ ha (J.oo x) H2 w2 m2
    refine⟨h4,λσ3 H3=>∃ x gg,σ3=J.ss x/\W (J.oo x) H3/\XJ (hid H' OO) (hid H3 (J.oo x))/\(J.sc gg x).p (hid H3 (J.oo x))/\PZ Er (Fd D) (hid H3 (J.oo x)) ((forN (as.drop (i+1)) gg body).bind f),λσ3 H3 q=>⟨as.length-(i+1),Nat.sub_lt_sub_left hlt (Nat.lt_succ_self i),rfl,hlt,q⟩,λy H3 hy=>?_⟩
    obtain⟨s3,r3⟩:=h5 y H3 hy
    have w3:=w2.keep s3
    have m3:=Xl (OO:=J.oo x) s3
    refine(T (J.oo x)).ok r3 ((J.sc gg x).mono _ _ m3 sc2) λv hv=>hb gg x as[i] v H3 _ w3 hv ?_
    rw[List.drop_eq_getElem_cons hlt] at P2
    have P3:PZ Er (Fd D) (hid H2 (J.oo x)) ((body gg as[i]).bind λg'=>(forN (as.drop (i+1)) g' body).bind f):=by rw[←YU];exact P2
    cases eb:body gg as[i] with
    |bad=>rw[eb] at P3;exact P3
    |err x=>rw[eb] at P3;exact λH4 s4=>P3 H4 (m3.trans s4)
    |ok g'=>
     rw[eb] at P3
     exact λx' H4 w4 m4 sc4=>⟨x',g',rfl,w4,m2.trans (m3.trans m4),sc4,PZ.tr (fd.tr D) (m3.trans m4) P3⟩
   ·left
    have e:i=as.length:=Nat.le_antisymm hi (Nat.not_lt.mp hlt)
    subst e
    refine⟨hstop (J.oo x) H2 w2 m2,hr gg x H2 D w2 sc2 ?_⟩
    rw[List.drop_length] at P2
    exact P2
theorem VP {o:OE ρ}{wi:TI}{g:TG}{tb:TS}{r:Enc α}{κ:Type}{m:Rs (List α)}{body:γ->α->Rs (Ctl ρ γ)}{f:γ->Rs ρ}(J:Jn γ ι)(T:∀OO,Tgt K OO g r κ)(x0:ι)(g0:γ)(he:Walk K Er S OO σ wi r m)(h1:OO=J.oo x0)(h2:σ=J.ss x0)(h3:∀h,S.p h->(J.sc g0 x0).p h)
  (hb:∀g x a v,Sv Er ((T (J.oo x)).sc a v (J.sc g x)) (J.oo x) ((T (J.oo x)).set v (J.ss x)) tb (FCd K o J) (body g a))
  (hr:∀g x,Sv Er (J.sc g x) (J.oo x) (J.ss x) u (FTd K o) (f g)):Sv Er S OO σ (J9 (M7 wi g tb) u) (FTd K o) (m.bind λas=>(G8 as g0 body).bind (JQ f)):=λH D w s P=>by
 refine he.ok w s ?_
 cases em:m with
 |bad=>rw[em] at P;exact P
 |err x=>rw[em] at P;exact λH' s'=>P H' (XS.trans s')
 |ok as=>
  rw[em] at P
  have P:PZ Er (FTd K o D) (hid H OO) ((G8 as g0 body).bind (JQ f)):=P
  intro It H' s' hgo hstop
  refine⟨λi mm σ' H2=>mm=as.length-i/\i<=as.length/\∃x gg,σ'=J.ss x/\W (J.oo x) H2/\XJ (hid H' OO) (hid H2 (J.oo x))/\(J.sc gg x).p (hid H2 (J.oo x))/\PZ Er (FTd K o D) (hid H2 (J.oo x)) ((G8 (as.drop i) gg body).bind (JQ f)),⟨as.length,rfl,Nat.zero_le _,x0,g0,h2,?_,?_,?_,?_⟩,?_⟩
  ·rw[←h1];exact w.keep s'
  ·rw[←h1];exact XJ.refl _
  ·rw[←h1];exact h3 _ (S.mono _ _ (Xl s') s)
  ·rw[←h1,List.drop_zero];exact PZ.tr (FdOk.tr D) (Xl s') P
  ·rintro i mm σ' H2 ⟨rfl,hi,x,gg,rfl,w2,m2,sc2,P2⟩
   by_cases hlt:i<as.length
   ·right
    have ha:as[i]?=some as[i]:=by simp[hlt]
    obtain⟨h4,h5⟩:=hgo i _ ha (J.oo x) H2 w2 m2
    refine⟨h4,λσ3 H3=>∃ x gg,σ3=J.ss x/\W (J.oo x) H3/\XJ (hid H' OO) (hid H3 (J.oo x))/\(J.sc gg x).p (hid H3 (J.oo x))/\PZ Er (FTd K o D) (hid H3 (J.oo x)) ((G8 (as.drop (i+1)) gg body).bind (JQ f)),λσ3 H3 q=>⟨as.length-(i+1),Nat.sub_lt_sub_left hlt (Nat.lt_succ_self i),rfl,hlt,q⟩,λy H3 hy=>?_⟩
    obtain⟨s3,r3⟩:=h5 y H3 hy
    have w3:=w2.keep s3
    have m3:=Xl (OO:=J.oo x) s3
    refine(T (J.oo x)).ok r3 ((J.sc gg x).mono _ _ m3 sc2) λv hv=>hb gg x as[i] v H3 _ w3 hv ?_
    rw[List.drop_eq_getElem_cons hlt] at P2
    have P3:PZ Er (FTd K o D) (hid H2 (J.oo x)) ((body gg as[i]).bind λc=>(match c with
     | .ret r=>Rs.ok (Ctl.ret r)
     | .nx g'=>G8 (as.drop (i+1)) g' body).bind (JQ f)):=by rw[←YU];exact P2
    cases eb:body gg as[i] with
    |bad=>rw[eb] at P3;exact P3
    |err x=>rw[eb] at P3;exact λH4 s4=>P3 H4 (m3.trans s4)
    |ok c=>
     rw[eb] at P3
     cases c with
     |ret r=>exact FdOk.tr (Fd:=FTd K o) D r _ _ m3 P3
     |nx g'=>exact λx' H4 w4 m4 sc4=>⟨x',g',rfl,w4,m2.trans (m3.trans m4),sc4,PZ.tr (FdOk.tr D) (m3.trans m4) P3⟩
   ·left
    have e:i=as.length:=Nat.le_antisymm hi (Nat.not_lt.mp hlt)
    subst e
    refine⟨hstop (J.oo x) H2 w2 m2,hr gg x H2 D w2 sc2 ?_⟩
    rw[List.drop_length] at P2
    exact P2
noncomputable def QK:Nat->γ->(γ->Rs Bool)->(γ->Rs γ)->Rs γ
 |0,_,_,_=>.bad
 |n+1,g,c,f=>(c g).bind λb=>if b=true then(f g).bind λg'=>QK n g' c f else .ok g
theorem Va {c:TT}{tb:TS}{mc:γ->Rs Bool}{body:γ->Rs γ}{f:γ->Rs β}(J:Jn γ ι)(n:Nat)(x0:ι)(g0:γ)(h1:OO=J.oo x0)(h2:σ=J.ss x0)(h3:∀h,S.p h->(J.sc g0 x0).p h)
  (hc:∀g x,EvT Er (J.sc g x) (J.oo x) (J.ss x) c (mc g))(hb:∀g x,Sv Er (J.sc g x) (J.oo x) (J.ss x) tb (FNd J) (body g))
  (hr:∀g x,Sv Er (J.sc g x) (J.oo x) (J.ss x) u Fd (f g)):Sv Er S OO σ (J9 (Hm c tb) u) Fd ((QK n g0 mc body).bind f):=λH D w s P=>by
 refine⟨λmm σ' H2=>∃ x gg,σ'=J.ss x/\W (J.oo x) H2/\(J.sc gg x).p (hid H2 (J.oo x))/\PZ Er (Fd D) (hid H2 (J.oo x)) ((QK mm gg mc body).bind f),⟨n,x0,g0,h2,by rw[←h1];exact w,by rw[←h1];exact h3 _ s,by rw[←h1];exact P⟩,?_⟩
 rintro mm σ' H2 ⟨x,gg,rfl,w2,sc2,P2⟩
 cases mm with
 |zero=>exact P2.elim
 |succ mm=>
  have P3:PZ Er (Fd D) (hid H2 (J.oo x)) ((mc gg).bind λb=>(if b=true then(body gg).bind λg'=>QK mm g' mc body else .ok gg).bind f):=by rw[←YU];exact P2
  refine(hc gg x).st w2 sc2 P3 λb H3 w3 sc3 P4=>?_
  cases b with
  |false=>exact hr gg x H3 D w3 sc3 P4
  |true=>
   rw[if_pos rfl] at P4⊢
   refine⟨λσ3 H4=>∃ x gg,σ3=J.ss x/\W (J.oo x) H4/\(J.sc gg x).p (hid H4 (J.oo x))/\PZ Er (Fd D) (hid H4 (J.oo x)) ((QK mm gg mc body).bind f),λσ3 H4 q=>⟨mm,Nat.lt_succ_self _,q⟩,hb gg x H3 _ w3 sc3 ?_⟩
   rw[YU] at P4
   cases eb:body gg with
   |bad=>rw[eb] at P4;exact P4
   |err x=>rw[eb] at P4;exact P4
   |ok g'=>
    rw[eb] at P4
    exact λx' H5 w5 m5 sc5=>⟨x',g',rfl,w5,sc5,PZ.tr (fd.tr D) m5 P4⟩
noncomputable def Dw (as:List α)(f:α->Rs β):Rs (List β):=match as with
 | []=>.ok []
 |a::as=>(f a).bind λb=>(Dw as f).bind λbs=>.ok (b::bs)
noncomputable def U1 (as:List α)(f:α->Rs β):Rs (List β):=chk (as.length<=sizeLine) (Dw as f)
noncomputable def Fp (as:List α)(c:α->Rs Bool)(f:α->Rs β):Rs (List β):=match as with
 | []=>.ok []
 |a::as=>(c a).bind λb=>if b=true then(f a).bind λb=>(Fp as c f).bind λbs=>.ok (b::bs) else Fp as c f
noncomputable def Ih (as:List α)(c:α->Rs Bool)(f:α->Rs β):Rs (List β):=chk (as.length<=sizeLine) (Fp as c f)
theorem PZ.chk {F:β->Hp->Prop}{H:Hp}{c:Prop}[Decidable c]{m:Rs β}(P:PZ Er F H (chk c m)):c/\PZ Er F H m:=by
 unfold L2.chk at P;split at P
 ·exact⟨by assumption,P⟩
 ·exact P.elim
theorem HE {o:OE α}[z:MonoO o]{xs:List V}{as:List α}{Cs:List (List XA)}{H H0:Hp}{Q:VK}(w:W (Cs.flatten::OO) H)(m0:XJ (hid H0 OO) (hid H (Cs.flatten::OO)))(s0:XJ H0 H)(pr:P3 (o K (hid H (Cs.flatten::OO))) xs as Cs)(P:FO K OO OO (oL o) Q as H0):∀p,H p=none->Q (.ref p) (upd H p (.lst xs)):=λp hp=>by
 have hn:=UY (OO:=Cs.flatten::OO) hp (o:=.lst xs)
 have wn:=w.new hp (o:=.lst xs) rfl
 have pe:(((p,HO.lst xs)::Cs.flatten)::OO).flatten.Perm ([(p,HO.lst xs)]::Cs.flatten::OO).flatten:=by simp
 refine P (.ref p) ((p, .lst xs)::Cs.flatten) _ (s0.trans (X2 hp _)) (wn.of pe) ?_ ?_
 ·rw[YC pe];exact m0.trans hn
 ·rw[YC pe]
  exact⟨p,xs,Cs,rfl,pr.imp λ_ _ _ h=>z.mono hn h,rfl⟩
theorem Zn {o:OE β}[z:MonoO o]{wi:TI}{g:TG}{te:TE}{r:Enc α}{κ:Type}{m:Rs (List α)}{f:α->Rs β}{n:Nat}{caps:List (Nat×Str)}(T:∀OO,Tgt K OO g r κ)(he:Walk K Er S OO σ wi r m)
  (hb:∀C a v,Ev K Er ((T (C::OO)).sc a v S) (C::OO) (C::OO) ((T (C::OO)).set v (Jb n caps σ)) te o (f a)):Ev K Er S OO OO σ (Cy n caps wi g Uo te) (oL o) (m.bind λas=>U1 as f):=λH Q w s P=>by
 refine he.ok w s ?_
 cases em:m with
 |bad=>rw[em] at P;exact P
 |err x=>rw[em] at P;exact P
 |ok as=>
  rw[em] at P
  obtain⟨hsz,P⟩:=PZ.chk (show PZ Er _ H (chk (as.length<=sizeLine) (Dw as f)) from P)
  intro It H' s' hgo hstop
  -- what is left: the rest of the items, then all
  refine⟨λi mm ys H2=>mm=as.length-i/\i<=as.length/\∃bs Cs,XJ H H2/\W (Cs.flatten::OO) H2/\XJ (hid H' OO) (hid H2 (Cs.flatten::OO))/\P3 (o K (hid H2 (Cs.flatten::OO))) ys bs Cs/\bs.length=i/\PZ Er (FO K OO OO (oL o) Q) H ((Dw (as.drop i) f).bind λrest=>.ok (bs++rest)),
   ⟨as.length,rfl,Nat.zero_le _,[],[],s',(w.keep s').nil,by show XJ _ (hid H' ([]::OO));rw[ZU];exact XJ.refl _, .nil,rfl,?_⟩,?_⟩
  ·rw[List.drop_zero]
   revert P
   cases Dw as f<;> exact λz=>z
  ·rintro i mm ys H2 ⟨rfl,hi,bs,Cs,s2,w2,m2,pr,hlen,P2⟩
   refine⟨by rw[pr.len.1,hlen];lia,?_⟩
   by_cases hlt:i<as.length
   ·right
    have ha:as[i]?=some as[i]:=by simp[hlt]
    obtain⟨h4,h5⟩:=hgo i _ ha (Cs.flatten::OO) H2 w2 m2
    refine⟨h4,λys' H3=>∃ bs Cs,XJ H H3/\W (Cs.flatten::OO) H3/\XJ (hid H' OO) (hid H3 (Cs.flatten::OO))/\P3 (o K (hid H3 (Cs.flatten::OO))) ys' bs Cs/\bs.length=i+1/\PZ Er (FO K OO OO (oL o) Q) H ((Dw (as.drop (i+1)) f).bind λrest=>.ok (bs++rest)),λys' H3 q=>⟨as.length-(i+1),Nat.sub_lt_sub_left hlt (Nat.lt_succ_self i),rfl,hlt,q⟩,λy H3 hy=>?_⟩
    obtain⟨s3,r3⟩:=h5 y H3 hy
    have w3:=w2.keep s3
    have m3:=Xl (OO:=Cs.flatten::OO) s3
    have sS:S.p (hid H3 (Cs.flatten::OO)):=S.mono _ _ ((Xl s').trans (m2.trans m3)) s
    refine(T (Cs.flatten::OO)).ok r3 sS λv hv=>?_
    show Uo _ _ _
    refine L3 ?_
    rw[List.drop_eq_getElem_cons hlt] at P2
    have P3':PZ Er (FO K OO OO (oL o) Q) H ((f as[i]).bind λb=>(Dw (as.drop (i+1)) f).bind λrest=>.ok (bs++b::rest)):=by
     have:((f as[i]).bind λb=>(Dw (as.drop (i+1)) f).bind λrest=>Rs.ok (bs++b::rest))=(Dw (as[i]::as.drop (i+1)) f).bind λrest=>.ok (bs++rest):=by
      show _=((f as[i]).bind λb=>(Dw (as.drop (i+1)) f).bind λbs=>Rs.ok (b::bs)).bind _
      rw[YU];congr 1;funext b;rw[YU];rfl
     rw[this];exact P2
    refine hb Cs.flatten as[i] v H3 _ w3 hv ?_
    cases eb:f as[i] with
    |bad=>rw[eb] at P3';exact P3'
    |err x=>rw[eb] at P3';exact λH4 s4=>P3' H4 (s2.trans (s3.trans s4))
    |ok b=>
     rw[eb] at P3'
     intro v' C' H4 s4 w4 m4 ho
     have pe:((Cs++[C']).flatten::OO).flatten.Perm (C'::Cs.flatten::OO).flatten:=by
      simp only[Z0,List.flatten_cons]
      rw[List.append_assoc, ←List.append_assoc, ←List.append_assoc]
      exact List.perm_append_comm.append_right _
     refine⟨bs++[b],Cs++[C'],s2.trans (s3.trans s4),w4.of pe,?_,?_,by simp[hlen],?_⟩
     ·rw[YC pe];exact m2.trans (m3.trans m4)
     ·rw[YC pe];exact P3.snoc (pr.imp λ_ _ _ h=>z.mono (m3.trans m4) h) ho
     ·have P4:PZ Er (FO K OO OO (oL o) Q) H ((Dw (as.drop (i+1)) f).bind λrest=> .ok (bs++b::rest)):=P3'
      simpa using P4
   ·left
    have e:i=as.length:=Nat.le_antisymm hi (Nat.not_lt.mp hlt)
    subst e
    refine⟨hstop (Cs.flatten::OO) H2 w2 m2,?_⟩
    rw[List.drop_length] at P2
    have P3':FO K OO OO (oL o) Q (bs++[]) H:=P2
    rw[List.append_nil] at P3'
    exact HE (H0:=H) w2 ((Xl s').trans m2) s2 pr P3'
theorem Vd {o:OE β}[z:MonoO o]{wi:TI}{g:TG}{tt:TT}{te:TE}{r:Enc α}{κ:Type}{m:Rs (List α)}{c:α->Rs Bool}{f:α->Rs β}{n:Nat}{caps:List (Nat×Str)}(T:∀OO,Tgt K OO g r κ)(he:Walk K Er S OO σ wi r m)
  (hc:∀C a v,EvT Er ((T (C::OO)).sc a v S) (C::OO) ((T (C::OO)).set v (Jb n caps σ)) tt (c a))
  (hb:∀C a v,Ev K Er ((T (C::OO)).sc a v S) (C::OO) (C::OO) ((T (C::OO)).set v (Jb n caps σ)) te o (f a)):Ev K Er S OO OO σ (Cy n caps wi g tt te) (oL o) (m.bind λas=>Ih as c f):=λH Q w s P=>by
 refine he.ok w s ?_
 cases em:m with
 |bad=>rw[em] at P;exact P
 |err x=>rw[em] at P;exact P
 |ok as=>
  rw[em] at P
  obtain⟨hsz,P⟩:=PZ.chk (show PZ Er _ H (chk (as.length<=sizeLine) (Fp as c f)) from P)
  intro It H' s' hgo hstop
  refine⟨λi mm ys H2=>mm=as.length-i/\i<=as.length/\∃bs Cs,XJ H H2/\W (Cs.flatten::OO) H2/\XJ (hid H' OO) (hid H2 (Cs.flatten::OO))/\P3 (o K (hid H2 (Cs.flatten::OO))) ys bs Cs/\bs.length<=i/\PZ Er (FO K OO OO (oL o) Q) H ((Fp (as.drop i) c f).bind λrest=>.ok (bs++rest)),
   ⟨as.length,rfl,Nat.zero_le _,[],[],s',(w.keep s').nil,by show XJ _ (hid H' ([]::OO));rw[ZU];exact XJ.refl _, .nil,Nat.zero_le _,?_⟩,?_⟩
  ·rw[List.drop_zero]
   revert P
   cases Fp as c f<;> exact λz=>z
  ·rintro i mm ys H2 ⟨rfl,hi,bs,Cs,s2,w2,m2,pr,hlen,P2⟩
   refine⟨by rw[pr.len.1];lia,?_⟩
   by_cases hlt:i<as.length
   ·right
    have ha:as[i]?=some as[i]:=by simp[hlt]
    obtain⟨h4,h5⟩:=hgo i _ ha (Cs.flatten::OO) H2 w2 m2
    refine⟨h4,λys' H3=>∃ bs Cs,XJ H H3/\W (Cs.flatten::OO) H3/\XJ (hid H' OO) (hid H3 (Cs.flatten::OO))/\P3 (o K (hid H3 (Cs.flatten::OO))) ys' bs Cs/\bs.length<=i+1/\PZ Er (FO K OO OO (oL o) Q) H ((Fp (as.drop (i+1)) c f).bind λrest=>.ok (bs++rest)),λys' H3 q=>⟨as.length-(i+1),Nat.sub_lt_sub_left hlt (Nat.lt_succ_self i),rfl,hlt,q⟩,λy H3 hy=>?_⟩
    obtain⟨s3,r3⟩:=h5 y H3 hy
    have w3:=w2.keep s3
    have m3:=Xl (OO:=Cs.flatten::OO) s3
    have sS:S.p (hid H3 (Cs.flatten::OO)):=S.mono _ _ ((Xl s').trans (m2.trans m3)) s
    refine(T (Cs.flatten::OO)).ok r3 sS λv hv=>?_
    rw[List.drop_eq_getElem_cons hlt] at P2
    have P3':PZ Er (FO K OO OO (oL o) Q) H ((c as[i]).bind λb=>(if b=true then(f as[i]).bind λb=>(Fp (as.drop (i+1)) c f).bind λbs=>.ok (b::bs) else Fp (as.drop (i+1)) c f).bind λrest=>.ok (bs++rest)):=by
     rw[←YU];exact P2
    refine hc Cs.flatten as[i] v H3 _ w3 hv ?_
    cases ec:c as[i] with
    |bad=>rw[ec] at P3';exact P3'
    |err x=>rw[ec] at P3';exact λH4 s4=>P3' H4 (s2.trans (s3.trans s4))
    |ok b=>
     rw[ec] at P3'
     intro H4 s4
     have w4:=w3.keep s4
     have m4:=Xl (OO:=Cs.flatten::OO) s4
     cases b with
     |false=>exact⟨bs,Cs,s2.trans (s3.trans s4),w4,m2.trans (m3.trans m4),pr.imp λ_ _ _ h=>z.mono (m3.trans m4) h,Nat.le_succ_of_le hlen,P3'⟩
     |true=>
      rw[if_pos rfl]
      have P4:PZ Er (FO K OO OO (oL o) Q) H ((f as[i]).bind λb=>(Fp (as.drop (i+1)) c f).bind λrest=>.ok (bs++b::rest)):=by
       have:((f as[i]).bind λb=>(Fp (as.drop (i+1)) c f).bind λrest=>Rs.ok (bs++b::rest))=((f as[i]).bind λb=>(Fp (as.drop (i+1)) c f).bind λbs=>Rs.ok (b::bs)).bind λrest=>.ok (bs++rest):=by
        rw[YU];congr 1;funext b;rw[YU];rfl
       rw[this];exact P3'
      refine hb Cs.flatten as[i] v H4 _ w4 (((T (Cs.flatten::OO)).sc as[i] v S).mono _ _ m4 hv) ?_
      cases eb:f as[i] with
      |bad=>rw[eb] at P4;exact P4
      |err x=>rw[eb] at P4;exact λH5 s5=>P4 H5 (s2.trans (s3.trans (s4.trans s5)))
      |ok b=>
       rw[eb] at P4
       intro v' C' H5 s5 w5 m5 ho
       have pe:((Cs++[C']).flatten::OO).flatten.Perm (C'::Cs.flatten::OO).flatten:=by
        simp only[Z0,List.flatten_cons]
        rw[List.append_assoc, ←List.append_assoc, ←List.append_assoc]
        exact List.perm_append_comm.append_right _
       refine⟨bs++[b],Cs++[C'],s2.trans (s3.trans (s4.trans s5)),w5.of pe,?_,?_,by simpa using hlen,?_⟩
       ·rw[YC pe];exact m2.trans (m3.trans (m4.trans m5))
       ·rw[YC pe];exact P3.snoc (pr.imp λ_ _ _ h=>z.mono (m3.trans (m4.trans m5)) h) ho
       ·have P5:PZ Er (FO K OO OO (oL o) Q) H ((Fp (as.drop (i+1)) c f).bind λrest=> .ok (bs++b::rest)):=P4
        simpa using P5
   ·left
    have e:i=as.length:=Nat.le_antisymm hi (Nat.not_lt.mp hlt)
    subst e
    refine⟨hstop (Cs.flatten::OO) H2 w2 m2,?_⟩
    rw[List.drop_length] at P2
    have P3':FO K OO OO (oL o) Q (bs++[]) H:=P2
    rw[List.append_nil] at P3'
    exact HE (H0:=H) w2 ((Xl s').trans m2) s2 pr P3'
noncomputable def Jq (as:List α)(i:Int)(a:α):Rs (List α):=match ixN as.length i with
 |some j=>.ok (as.set j a)
 |none=>.bad
end
section
variable {K:PySem.W.Frag}{Er:Exc->Hp->Prop}{S:SC}{OO OO' OO2:List (List XA)}{σ:St}{α β γ ρ ι δ ε:Type}
variable {Fd:Ends->β->Hp->Prop}[fd:FdOk Fd]{u:TS}
theorem IM {C D C':List XA}{H:Hp}{k:Nat}{p:Addr}{o:HO}(w:W (D::OO) H)(hk:OO[k]?=some C)(hp:p∈C.map (·.1))(hp':p∈C'.map (·.1))(hnd:(C'.map (·.1)).Nodup)(hin:∀b∈C'.map (·.1),b∈(C++D).map (·.1))(ht:∀c∈C',upd H p o c.1=some c.2)(hm:∀c∈C',Ln c.2=true):
  W (OO.set k C') (upd H p o)/\XJ (hid H (D::OO)) (hid (upd H p o) (OO.set k C')):=by
 have hlt:k<OO.length:=by
  rcases Nat.lt_or_ge k OO.length with h |h
  ·exact h
  ·rw[List.getElem?_eq_none h] at hk;cases hk
 have h1:=Yh hk
 have h2:=Yh (OO:=OO.set k C') (k:=k) (C:=C') (by simp[hlt])
 rw[Up] at h2
 have h3:(OO.set k C').flatten.Perm (C'++(OO.set k []).flatten):=by simpa using h2.symm
 have h4:(D::OO).flatten.Perm ((C++D)++(OO.set k []).flatten):=by
  rw[List.flatten_cons]
  refine((by simpa using h1.symm:OO.flatten.Perm (C++(OO.set k []).flatten)).append_left D).trans ?_
  rw[←List.append_assoc]
  exact List.perm_append_comm.append_right _
 have nd2:(((C++D)++(OO.set k []).flatten).map (·.1)).Nodup:=(h4.map _).nodup_iff.mp w.nd
 rw[List.map_append] at nd2
 obtain⟨n1,n2,n3⟩:=List.nodup_append.mp nd2
 refine⟨⟨λc hc=>?_,?_,λc hc=>?_⟩,λb v q=>?_⟩
 ·rcases List.mem_append.mp (h3.mem_iff.mp hc) with hc |hc
  ·exact ht c hc
  ·have hne:c.1≠p:=λe=>n3 p (hin p hp') c.1 (List.mem_map.mpr ⟨c,hc,rfl⟩) e.symm
   rw[XY hne]
   exact w.tr c (h4.mem_iff.mpr (by simp[hc]))
 ·refine((h3.map _).nodup_iff).mpr ?_
  rw[List.map_append]
  exact List.nodup_append.mpr ⟨hnd,n2,λa ha b hb=>n3 a (hin a ha) b hb⟩
 ·rcases List.mem_append.mp (h3.mem_iff.mp hc) with hc |hc
  ·exact hm c hc
  ·exact w.mu c (h4.mem_iff.mpr (by simp[hc]))
 ·obtain⟨q1,q2⟩:=YB q
  have hbp:b≠p:=λe=>q2 (by
   rw[e]
   obtain⟨c,hc,rfl⟩:=List.mem_map.mp hp
   exact V5 (h4.mem_iff.mpr (by simp[hc])))
  refine ZW (by rw[XY hbp];exact q1) λz=>q2 ?_
  obtain⟨o',ho'⟩:=DW z
  rcases List.mem_append.mp (h3.mem_iff.mp ho') with hc |hc
  ·obtain⟨c,hc2,e⟩:=List.mem_map.mp (hin b (List.mem_map.mpr ⟨_,hc,rfl⟩))
   rw[←e]
   exact V5 (h4.mem_iff.mpr (List.mem_append_left _ hc2))
  ·exact V5 (c:=(b,o')) (h4.mem_iff.mpr (by simp[hc]))
theorem ME {D:List XA}{Cs Cs':List (List XA)}{H:Hp}{k:Nat}{p:Addr}{xs xs':List V}(w:W (D::OO) H)(hk:OO[k]?=some ((p, .lst xs)::Cs.flatten))(hin:∀c∈Cs'.flatten,c∈Cs.flatten++D)(hnd:(Cs'.flatten.map (·.1)).Nodup):
  W (OO.set k ((p, .lst xs')::Cs'.flatten)) (upd H p (.lst xs'))/\XJ (hid H (D::OO)) (hid (upd H p (.lst xs')) (OO.set k ((p, .lst xs')::Cs'.flatten))):=by
 have h1:=Yh hk
 have w3:W [((p,HO.lst xs)::(Cs.flatten++D))++(OO.set k []).flatten] H:=w.of (by
  simp only[List.flatten_cons,List.flatten_nil,List.append_nil]
  refine List.Perm.trans ?_ ((by simpa using h1:(((p,HO.lst xs)::Cs.flatten)++(OO.set k []).flatten).Perm OO.flatten).append_left D)
  rw[←List.append_assoc]
  refine List.Perm.append_right _ ?_
  exact(List.perm_append_comm (l₁:=(p,HO.lst xs)::Cs.flatten) (l₂:=D)))
 have nd:=w3.nd
 simp only[fl,List.flatten_cons,List.flatten_nil,List.append_nil,List.map_append,List.cons_append,List.map_cons] at nd
 have hne:∀c∈Cs'.flatten,c.1≠p:=λc hc e=>by
  refine(List.nodup_cons.mp nd).1 ?_
  rw[←e]
  refine List.mem_append_left _ ?_
  rw[←List.map_append]
  exact List.mem_map.mpr ⟨c,hin c hc,rfl⟩
 refine IM w hk List.mem_cons_self List.mem_cons_self ?_ ?_ ?_ ?_
 ·rw[List.map_cons,List.nodup_cons]
  refine⟨λz=>?_,hnd⟩
  obtain⟨c,hc,e⟩:=List.mem_map.mp z
  exact hne c hc e
 ·intro b hb
  rcases List.mem_cons.mp hb with rfl |hb
  ·exact List.mem_cons_self
  ·obtain⟨c,hc,rfl⟩:=List.mem_map.mp hb
   rw[List.cons_append,List.map_cons]
   exact List.mem_cons_of_mem _ (List.mem_map.mpr ⟨c,hin c hc,rfl⟩)
 ·intro c hc
  rcases List.mem_cons.mp hc with rfl |hc
  ·exact Y1
  ·rw[XY (hne c hc)]
   exact w3.tr c (by
    rw[List.flatten_cons,List.flatten_nil,List.append_nil]
    exact List.mem_append_left _ (List.mem_cons_of_mem _ (hin c hc)))
 ·intro c hc
  rcases List.mem_cons.mp hc with rfl |hc
  ·rfl
  ·exact w3.mu c (by
    rw[List.flatten_cons,List.flatten_nil,List.append_nil]
    exact List.mem_append_left _ (List.mem_cons_of_mem _ (hin c hc)))
theorem Gr {o:OE α}{h:Hp}{p:Addr}{xs:List V}{as:List α}{R:List XA}(q:oL o K h (.ref p) as ((p, .lst xs)::R)):∃Cs,P3 (o K h) xs as Cs/\R=Cs.flatten:=by
 obtain⟨p',xs',Cs,e,q,c⟩:=q
 injection c with c1 c2
 injection c1 with c3 c4
 injection c4 with c5
 subst c5
 exact⟨Cs,q,c2⟩
theorem BI {as:List α}{i:Int}{a:α}{bs:List α}(h:Jq as i a= .ok bs):∃j,ixN as.length i=some j/\bs=as.set j a:=by
 unfold Jq at h;split at h
 ·cases h;exact⟨_,by assumption,rfl⟩
 ·cases h
theorem CD {as:List α}{i:Int}{a:α}{x:Exc}:Jq as i a≠ .err x:=by unfold Jq;split<;> exact λz=>nomatch z
theorem JC {l r m:List XA}(h:(l++r).Perm m)(n:(m.map (·.1)).Nodup):(l.map (·.1)).Nodup:=by
 have:((l++r).map (·.1)).Nodup:=(h.map _).nodup_iff.mpr n
 rw[List.map_append] at this
 exact(List.nodup_append.mp this).1
theorem GZ {Cs:List (List XA)}{j:Nat}{D:List XA}(hj:j<Cs.length):((Cs.set j D).flatten++Cs[j]).Perm (Cs.flatten++D):=by
 have h1:=Yh (OO:=Cs) (k:=j) (C:=Cs[j]) (by simp[hj])
 have h2:=Yh (OO:=Cs.set j D) (k:=j) (C:=D) (by simp[hj])
 rw[Up] at h2
 have h3:(Cs.set j D).flatten.Perm (D++(Cs.set j []).flatten):=by simpa using h2.symm
 have h4:Cs.flatten.Perm (Cs[j]++(Cs.set j []).flatten):=by simpa using h1.symm
 refine(h3.append_right _).trans (List.Perm.trans ?_ (h4.append_right _).symm)
 refine List.perm_append_comm.trans ((List.perm_append_comm.append_left _).trans ?_)
 rw[List.append_assoc]
theorem QT {D:List XA}{Cs:List (List XA)}{H:Hp}{k:Nat}{p:Addr}{xs:List V}(w:W (D::OO) H)(hk:OO[k]?=some ((p, .lst xs)::Cs.flatten)):((Cs.flatten++D).map (·.1)).Nodup:=by
 have h1:=Yh hk
 have w3:W [((p,HO.lst xs)::(Cs.flatten++D))++(OO.set k []).flatten] H:=w.of (by
  simp only[List.flatten_cons,List.flatten_nil,List.append_nil]
  refine List.Perm.trans ?_ ((by simpa using h1:(((p,HO.lst xs)::Cs.flatten)++(OO.set k []).flatten).Perm OO.flatten).append_left D)
  rw[←List.append_assoc]
  refine List.Perm.append_right _ ?_
  exact(List.perm_append_comm (l₁:=(p,HO.lst xs)::Cs.flatten) (l₂:=D)))
 have nd:=w3.nd
 simp only[fl,List.flatten_cons,List.flatten_nil,List.append_nil,List.cons_append,List.map_cons] at nd
 have n2:=(List.nodup_cons.mp nd).2
 rw[List.map_append] at n2
 exact(List.nodup_append.mp n2).1
theorem Ff {ta ti:TE}{o:OE α}[MonoO o]{m:Rs α}{mi:Rs Int}{f:List α->Rs β}{v:V}{as:List α}{C:List XA}(i k:Nat)(hσ:σ[i]?=some (some v))(hk':OO'[k]?=some C)(h:∀x,S.p x->oL o K x v as C)(he:Ev K Er S OO OO' σ ta o m)
  (hi:∀D,EvB K Er S (D::OO') σ ti Xa mi)
  (hr:∀bs C',Sv Er (S.addO K (oL o) v bs C') (OO'.set k C') σ u Fd (f bs)):Sv Er S OO σ (J9 (Ec ta (M2 (K7 i) ti Lk)) u) Fd (m.bind λa=>mi.bind λj=>(Jq as j a).bind f):=λH D w s P=>
 he.st w s P λa y D' H' w' s' ho P'=>⟨v,hσ,(hi D').st w' s' P' λj z H2 s2 w2 q2 r2 P2=>by
  obtain⟨p,xs,Cs,e,q,c⟩:=h _ q2
  subst c
  have hH:H2 p=some (.lst xs):=w2.tr (p, .lst xs) (by rw[List.flatten_cons];exact List.mem_append_right _ (List.mem_flatten.mpr ⟨_,List.mem_of_getElem? hk',List.mem_cons_self⟩))
  cases es:Jq as j a with
  |bad=>rw[es] at P2;exact P2.elim
  |err x=>exact absurd es CD
  |ok bs=>
   rw[es] at P2
   obtain⟨jj,h1,rfl⟩:=BI es
   have hjl:jj<as.length:=by
    unfold ixN at h1
    split at h1
    ·split at h1
     ·cases h1;lia
     ·cases h1
    ·split at h1
     ·cases h1;lia
     ·cases h1
   have hjC:jj<Cs.length:=by rw[q.len.2];exact hjl
   have hp:=GZ (Cs:=Cs) (j:=jj) (D:=D') hjC
   obtain⟨w3,m3⟩:=ME (xs':=xs.set jj y) (Cs':=Cs.set jj D') w2 hk' (λc hc=>hp.mem_iff.mp (List.mem_append_left _ hc)) (JC hp (QT w2 hk'))
   refine⟨p,xs,j,jj,e,r2,hH,by rw[q.len.1];exact h1,hr _ _ _ D w3 ⟨S.mono _ _ m3 q2,⟨p,_,_,e,P3.imp (λ_ _ _ z=>MonoO.mono m3 z) (P3.set (MonoO.mono (Xl s2) ho) jj q),rfl⟩⟩ (PZ.tr (fd.tr D) m3 P2)⟩⟩
theorem L7 {ta:TE}{o:OE α}[MonoO o]{m:Rs (List α)}{f:List α->Rs β}{v:V}{as:List α}{C:List XA}(i k:Nat)(hσ:σ[i]?=some (some v))(hk:OO[k]?=some C)(hk':OO'[k]?=some C)(h:∀x,S.p x->oL o K x v as C)(he:Ev K Er S OO OO' σ ta (oL o) m)
  (hr:∀bs C',Sv Er (S.addO K (oL o) v (as++bs) C') (OO'.set k C') σ u Fd (f (as++bs))):Sv Er S OO σ (J9 (Dt (tBM K "list" Bs (K7 i) (XM ta Z5))) u) Fd (m.bind λbs=>chk (as.length+bs.length<=sizeLine) (f (as++bs))):=λH D w s P=>by
 obtain⟨p,xs,Cs,e,q,c⟩:=h _ s
 subst c
 have hH:H p=some (.lst xs):=w.tr (p, .lst xs) (List.mem_flatten.mpr ⟨_,List.mem_of_getElem? hk,List.mem_cons_self⟩)
 refine⟨v,hσ,by rw[e];exact .inl ⟨rfl,_,SqL.of hH⟩,he.st w s P λbs y D' H' w' s' ho P'=>?_⟩
 obtain⟨hsz,P'⟩:=PZ.chk P'
 subst e
 obtain⟨Cs2,q2,c2⟩:=Gr (h _ s')
 obtain⟨p',zs,Ds,e3,q3,c3⟩:=ho
 subst c3
 have hH':H' p=some (.lst xs):=w'.tr (p, .lst xs) (by rw[List.flatten_cons];exact List.mem_append_right _ (List.mem_flatten.mpr ⟨_,List.mem_of_getElem? hk',List.mem_cons_self⟩))
 have hH2:H' p'=some (.lst zs):=w'.tr (p', .lst zs) (by rw[List.flatten_cons];exact List.mem_append_left _ List.mem_cons_self)
 have cn:=QT w' hk'
 obtain⟨w3,m3⟩:=ME (xs':=xs++zs) (Cs':=Cs2++Ds) w' hk' (λc hc=>by
   rw[List.flatten_append,List.mem_append] at hc
   rcases hc with hc |hc
   ·rw[c2];exact List.mem_append_left _ hc
   ·exact List.mem_append_right _ (List.mem_cons_of_mem _ hc)) (by
   rw[List.flatten_append, ←c2]
   refine List.Nodup.sublist (List.Sublist.map _ ?_) cn
   exact List.Sublist.append (List.Sublist.refl _) (List.sublist_cons_self _ _))
 refine⟨p,p',xs,zs,rfl,by rw[e3],hH',hH2,by rw[q2.len.1,q3.len.1];exact hsz,?_⟩
 exact hr bs _ _ D w3 ⟨S.mono _ _ m3 s',⟨p,_,_,rfl,P3.imp (λ_ _ _ z=>MonoO.mono m3 z) (q2.app q3),rfl⟩⟩ (PZ.tr (fd.tr D) m3 P')
noncomputable def Dx (as:List α)(i:Int):Rs (α×List α):=chk (-(2^63)<=i/\i<2^63) (match seqIndex? i as.length with
 |none=>.bad
 |some k=>match as[k]? with
  |none=>.bad
  |some a=>.ok (a,as.eraseIdx k))
theorem Iy {as:List α}{i:Int}{p:α×List α}(h:Dx as i= .ok p):(-(2^63)<=i/\i<2^63)/\∃k,seqIndex? i as.length=some k/\as[k]?=some p.1/\p.2=as.eraseIdx k:=by
 obtain⟨h1,h2⟩:=ZK h
 refine⟨h1,?_⟩
 split at h2
 ·cases h2
 ·split at h2
  ·cases h2
  ·cases h2;exact⟨_,by assumption,by assumption,rfl⟩
theorem IG {as:List α}{i:Int}{x:Exc}:Dx as i≠ .err x:=by
 unfold Dx chk;split
 ·split
  ·exact λz=>nomatch z
  ·split<;> exact λz=>nomatch z
 ·exact λz=>nomatch z
theorem Paired.erase' {F:α->γ->Prop}:∀{l:List α}{m:List γ} (n:Nat),Paired F l m->Paired F (l.eraseIdx n) (m.eraseIdx n)
 |_,_,_, .nil=>.nil
 |_,_,0, .cons _ t=>t
 |_,_,n+1, .cons r t=>.cons r (Paired.erase' n t)
theorem DU {te ti:TE}{r:Enc α}[MonoE r]{mi:Rs Int}{f:α×List α->Rs β}{v:V}{as:List α}{C:List XA}{D:Ends}{H:Hp}{Q:VK}(i k:Nat)(hσ:σ[i]?=some (some v))(hk:OO[k]?=some C)(h:∀x,S.p x->oL (oF r) K x v as C)(hi:EvB K Er S OO σ ti Xa mi)
  (w:W OO H)(s:S.p (hid H OO))(P:PZ Er (Fd D) (hid H OO) (mi.bind λj=>(Dx as j).bind f))
  (hr:∀a bs y C' H',W (OO.set k C') H'->((S.add K r y a).addO K (oL (oF r)) v bs C').p (hid H' (OO.set k C'))->PZ Er (Fd D) (hid H' (OO.set k C')) (f (a,bs))->Q y H'):tBM K "list" FE (K7 i) (XM ti Z5) σ H Q:=by
 obtain⟨p,xs,Cs,e,q,c⟩:=h _ s
 subst c
 have hH:H p=some (.lst xs):=w.tr (p, .lst xs) (List.mem_flatten.mpr ⟨_,List.mem_of_getElem? hk,List.mem_cons_self⟩)
 refine⟨v,hσ,by rw[e];exact .inl ⟨rfl,_,SqL.of hH⟩,hi.st w s P λj z H' s1 w' s' ho P'=>?_⟩
 subst e
 obtain⟨Cs2,q2,c2⟩:=Gr (h _ s')
 obtain⟨pr,hfl⟩:=P3.flat q2
 cases es:Dx as j with
 |bad=>rw[es] at P';exact P'.elim
 |err x=>exact absurd es IG
 |ok pp=>
  rw[es] at P'
  obtain⟨a,bs⟩:=pp
  obtain⟨h1,kk,h2,h3,h4⟩:=Iy es
  obtain⟨y,hy,ry⟩:=Paired.getR pr h3
  have w0:W ([]::OO) H':=w'.nil
  have hk0:OO[k]?=some ((p, .lst xs)::([]:List (List XA)).flatten):=by rw[hk,c2,hfl];rfl
  obtain⟨w3,m3⟩:=ME (D:=[]) (Cs:=[]) (xs':=xs.eraseIdx kk) (Cs':=List.replicate bs.length []) w0 hk0 (λc hc=>by rw[YS] at hc;cases hc) (by rw[YS];exact List.nodup_nil)
  rw[ZU] at m3
  refine⟨p,xs,j,kk,y,rfl,by rw[show z= .int j from ho],s1 _ _ hH,h1.1,h1.2,by rw[Paired.len pr];exact h2,hy,?_⟩
  have pr2:Paired (r K (hid H' OO)) (xs.eraseIdx kk) bs:=by rw[show bs=as.eraseIdx kk from h4];exact Paired.erase' kk pr
  exact hr a bs y _ _ w3 ⟨⟨S.mono _ _ m3 s',MonoE.mono m3 ry⟩,⟨p,_,_,rfl,(P3.of (Paired.imp2 (λ_ _ z=>MonoE.mono m3 z) pr2)).imp λ_ _ _ z=>z,rfl⟩⟩ (PZ.tr (fd.tr D) m3 P')
theorem L5 {ti:TE}{r:Enc α}[MonoE r]{mi:Rs Int}{f:α×List α->Rs β}{v:V}{as:List α}{C:List XA}(x i k:Nat)(hσ:σ[i]?=some (some v))(hk:OO[k]?=some C)(h:∀x,S.p x->oL (oF r) K x v as C)(hi:EvB K Er S OO σ ti Xa mi)
  (hr:∀a bs y C',Sv Er ((S.add K r y a).addO K (oL (oF r)) v bs C') (OO.set k C') (σ.set x (some y)) u Fd (f (a,bs))):Sv Er S OO σ (J9 (Ec (tBM K "list" FE (K7 i) (XM ti Z5)) (Y6 x)) u) Fd (mi.bind λj=>(Dx as j).bind f):=λH D w s P=>
 DU (te:=ti) i k hσ hk h hi w s P λa bs y C' H' w' s' P'=>hr a bs y C' H' D w' s' P'
theorem GS {ti:TE}{r:Enc α}[MonoE r]{mi:Rs Int}{f:List α->List α->Rs β}{v v2:V}{as zs:List α}{C C2:List XA}(i k i2 k2:Nat)(hne:k2≠k)(hσ:σ[i]?=some (some v))(hk:OO[k]?=some C)(h:∀x,S.p x->oL (oF r) K x v as C)
  (hσ2:σ[i2]?=some (some v2))(hk2:OO[k2]?=some C2)(h2:∀x,S.p x->oL (oF r) K x v2 zs C2)(hi:EvB K Er S OO σ ti Xa mi)
  (hr:∀a bs C' C2',Sv Er ((S.addO K (oL (oF r)) v bs C').addO K (oL (oF r)) v2 (zs++[a]) C2') ((OO.set k C').set k2 C2') σ u Fd (f bs (zs++[a]))):
  Sv Er S OO σ (J9 (Dt (tBM K "list" UE (K7 i2) (XM (tBM K "list" FE (K7 i) (XM ti Z5)) Z5))) u) Fd (mi.bind λj=>(Dx as j).bind λp=>chk (zs.length<sizeLine) (f p.2 (zs++[p.1]))):=λH D w s P=>by
 obtain⟨p2,xs2,Cs2,e2,q2,c2⟩:=h2 _ s
 subst c2
 have hH2:H p2=some (.lst xs2):=w.tr (p2, .lst xs2) (List.mem_flatten.mpr ⟨_,List.mem_of_getElem? hk2,List.mem_cons_self⟩)
 refine⟨v2,hσ2,by rw[e2];exact .inl ⟨rfl,_,SqL.of hH2⟩,DU (te:=ti) i k hσ hk h hi w s P λa bs y C' H' w' s' P'=>?_⟩
 obtain⟨hsz,P'⟩:=PZ.chk P'
 subst e2
 obtain⟨Cs3,q3,c3⟩:=Gr (h2 _ s'.1.1)
 obtain⟨pr,hfl⟩:=P3.flat q3
 have hkk:(OO.set k C')[k2]?=some ((p2,HO.lst xs2)::([]:List (List XA)).flatten):=by
  rw[List.getElem?_set_ne (λe=>hne e.symm),hk2,c3,hfl];rfl
 have hH3:H' p2=some (.lst xs2):=w'.tr (p2, .lst xs2) (List.mem_flatten.mpr ⟨_,List.mem_of_getElem? hkk,List.mem_cons_self⟩)
 obtain⟨w3,m3⟩:=ME (D:=[]) (Cs:=[]) (xs':=xs2++[y]) (Cs':=List.replicate (zs++[a]).length []) w'.nil hkk (λc hc=>by rw[YS] at hc;cases hc) (by rw[YS];exact List.nodup_nil)
 rw[ZU] at m3
 refine⟨p2,xs2,y,rfl,rfl,hH3,by rw[Paired.len pr];exact hsz,?_⟩
 refine hr a bs C' _ _ D w3 ⟨⟨S.mono _ _ m3 s'.1.1,(SC.oneO K (oL (oF r)) v bs C').mono _ _ m3 s'.2⟩,⟨p2,_,_,rfl,(P3.of (Paired.app (Paired.imp2 (λ_ _ z=>MonoE.mono m3 z) pr) (.cons (MonoE.mono m3 (show r K _ y a from s'.1.2)) .nil))).imp λ_ _ _ z=>z,rfl⟩⟩ (PZ.tr (fd.tr D) m3 P')
theorem Fu {ta tb:TE}{r:Enc α}{q:Enc γ}[z:MonoE r][MonoE q]{ma:Rs α}{mb:Rs γ}{f:α->γ->Rs β}(i j:Nat)(ha:EvS K Er S OO σ ta r ma)(hb:EvS K Er S OO σ tb q mb)
  (hr:∀a b v w,Sv Er ((S.add K r v a).add K q w b) OO ((σ.set i (some v)).set j (some w)) u Fd (f a b)):Sv Er S OO σ (J9 (Nr i j (XM ta (XM tb Z5))) u) Fd (ma.bind λa=>mb.bind λb=>f a b):=λH D w s P=>
 ha.st w s P λa x H1 s1 w1 q1 r1 P1=>hb.st w1 q1 P1 λb y H2 s2 w2 q2 r2 P2=>⟨x,y,rfl,hr a b x y H2 D w2 ⟨⟨q2,z.mono (Xl s2) r1⟩,r2⟩ P2⟩
theorem CC {te:TE}{r:Enc α}{q:Enc γ}[MonoE r][MonoE q]{m:Rs (α×γ)}{f:α×γ->Rs β}(i j:Nat)(he:EvS K Er S OO σ te (rP2 r q) m)
  (hr:∀a v w,Sv Er ((S.add K r v a.1).add K q w a.2) OO ((σ.set i (some v)).set j (some w)) u Fd (f a)):Sv Er S OO σ (J9 (Ec te (E4 K 2 (ZM (Y6 i) (ZM (Y6 j) Hr)))) u) Fd (m.bind f):=λH D w s P=>
 he.st w s P λa v H1 s1 w1 q1 r9 P1=>by obtain⟨p,x,y,e,h,h1,h2⟩:=r9;exact⟨p,_,e,SqT.of (XS _ _ h),rfl,x,[y],rfl,y,[],rfl,rfl,hr a x y H1 D w1 ⟨⟨q1,h1⟩,h2⟩ P1⟩
theorem Hf {te:TE}{g:Int->Int->Int}{m:Rs Int}{f:Int->Rs β}{v:V}{a:Int}(i:Nat)(hσ:σ[i]?=some (some v))(h:∀x,S.p x->Xa K x v a)(he:EvB K Er S OO σ te Xa m)
  (hr:∀b v,Sv Er (S.add K Xa v b) OO (σ.set i (some v)) u Fd (f b)):Sv Er S OO σ (J9 (M4 i te (ipI g)) u) Fd (m.bind λb=>f (g a b)):=λH D w s P=>
 ⟨v,hσ,he.st w s P λb y H1 s1 w1 q1 r1 P1=>⟨a,b,h _ s,r1,hr _ _ H1 D w1 ⟨q1,rfl⟩ P1⟩⟩
theorem Ux {ta tb:TE}{ma mb:Rs Int}(ha:EvB K Er S OO σ ta Xa ma)(hb:EvB K Er S OO σ tb Xa mb):EvB K Er S OO σ (tCB (λxs H Q=>∃ i j:Int,xs=[.int i, .int j]/\Q (.int (if j > i then j else i)) H) (XM ta (XM tb Z5))) Xa (ma.bind λa=>mb.bind λb=>.ok (max a b)):=λH Q w s P=>
 ha.run w s FB.tr P λa x H1 s1 w1 q1 r1 P1=>hb.run w1 q1 FB.tr P1 λb y H2 s2 w2 q2 r2 P2=>⟨a,b,by rw[show x= .int a from r1,show y= .int b from r2],P2 _ H2 (XJ.refl _) (by show V.int _=V.int _;congr 1;lia)⟩
theorem DH {ta tb:TE}{ma mb:Rs Int}(ha:EvB K Er S OO σ ta Xa ma)(hb:EvB K Er S OO σ tb Xa mb):EvB K Er S OO σ (tCB (λxs H Q=>∃ i j:Int,xs=[.int i, .int j]/\Q (.int (if j<i then j else i)) H) (XM ta (XM tb Z5))) Xa (ma.bind λa=>mb.bind λb=>.ok (min a b)):=λH Q w s P=>
 ha.run w s FB.tr P λa x H1 s1 w1 q1 r1 P1=>hb.run w1 q1 FB.tr P1 λb y H2 s2 w2 q2 r2 P2=>⟨a,b,by rw[show x= .int a from r1,show y= .int b from r2],P2 _ H2 (XJ.refl _) (by show V.int _=V.int _;congr 1;lia)⟩
theorem IR {ta:TE}{ma:Rs (List Int)}(ha:EvB K Er S OO σ ta (rV Xa) ma):EvB K Er S OO σ (tCB (M8 K) (XM ta Z5)) Xa (ma.bind λa=>.ok a.sum):=λH Q w s P=>
 ha.run w s FB.tr P λa x H1 s1 w1 q1 r9 P1=>by obtain⟨p,xs,e,q,pr⟩:=r9;exact⟨p,a,by rw[e],by rw[←Q2 pr];exact SqL.of q,P1 _ H1 (XJ.refl _) rfl⟩
theorem JL:∀{xs:List V}{bs:List Bool}{H:Hp},Paired (Yb K H) xs bs->xs=bs.map V.bl
 |_,_,_, .nil=>rfl
 |_,_,_, .cons r t=>by rw[show _=V.bl _ from r,JL t];rfl
theorem IK {ta:TE}{ma:Rs (List Bool)}(ha:EvB K Er S OO σ ta (rV Yb) ma):EvB K Er S OO σ (tCB (Nb K) (XM ta Z5)) Yb (ma.bind λa=>.ok (a.all id)):=λH Q w s P=>
 ha.run w s FB.tr P λa x H1 s1 w1 q1 r9 P1=>by obtain⟨p,xs,e,q,pr⟩:=r9;exact⟨p,a,by rw[e],by rw[←JL pr];exact SqL.of q,P1 _ H1 (XJ.refl _) rfl⟩
class TyE {α:Type}(r:Enc α)(n:outParam String):Prop where
 ty:∀{K:PySem.W.Frag}{H:Hp}{v:V}{a:α},r K H v a->TyOf K H v (.type n)
noncomputable instance:TyE Xa "int":=⟨fun {K H v a} h=>by cases(show v= .int a from h);exact .int a⟩
noncomputable instance {r:Enc α}:TyE (rV r) "list":=⟨λr9=>by obtain⟨p,xs,e,q,_⟩:=r9;exact by subst e;exact .lst q⟩
theorem Qv {te:TE}{r:Enc α}{n:String}[z:TyE r n]{m:Rs α}(t:String)(b:Bool)(hk:PySem.W.kitOne K (.type n) (.type t)=some b)(he:EvB K Er S OO σ te r m):
  EvB K Er S OO σ (tCB (λxs H Q=>∃ x n t b,xs=[x, .ty n]/\TyOf K H x t/\PySem.W.kitOne K t (.type n)=some b/\Q (.bl b) H) (XM te (XM (tC (.ty t)) Z5))) Yb (m.bind λ_=>.ok b):=λH Q w s P=>
 he.run w s FB.tr P λa x H1 s1 w1 q1 r1 P1=>⟨x,t, .type n,b,rfl,z.ty r1,hk,P1 _ H1 (XJ.refl _) rfl⟩
theorem DC {ta:TE}{ma:Rs Int}(ha:EvB K Er S OO σ ta Xa ma):EvB K Er S OO σ (tCB (λxs H Q=>∃ i:Int,xs=[.int i]/\Q (.int (if i<0 then-i else i)) H) (XM ta Z5)) Xa (ma.bind λa=>.ok (a.natAbs:Int)):=λH Q w s P=>
 ha.run w s FB.tr P λa x H1 s1 w1 q1 r1 P1=>⟨a,by rw[show x= .int a from r1],P1 _ H1 (XJ.refl _) (by show V.int _=V.int _;congr 1;lia)⟩
end
section
variable {K:PySem.W.Frag}{Er:Exc->Hp->Prop}{S:SC}{OO OO' OO1 OO2:List (List XA)}{σ:St}{α β γ ρ ι δ ε:Type}
variable {Fd:Ends->β->Hp->Prop}[fd:FdOk Fd]{u:TS}
theorem LP (n:Nat)(H:Hp):W (List.replicate n []) H:=⟨λc hc=>(by rw[YS] at hc;cases hc),(by unfold fl;rw[YS];exact List.nodup_nil),λc hc=>(by rw[YS] at hc;cases hc)⟩
theorem El (n:Nat)(H:Hp):hid H (List.replicate n [])=H:=by funext b;unfold hid fl;rw[YS];simp
theorem L8 {o:OE ρ}[z:MonoO o]{Q:VK}{b:ρ}{H:Hp}(q:FF K o Q b H):∀v C OO' H',W (C::OO') H'->XJ H (hid H' (C::OO'))->o K (hid H' (C::OO')) v b C->Q v H':=λv C OO' H' w m ho=>by
 have hs:XJ (hid H' (C::OO')) (hid H' [C]):=QZ (XJ.refl _) λb hb=>by
  rw[Yz]
  refine List.mem_append_left _ ?_
  simpa[fl] using hb
 exact q v C H' (w.sub (by simp)) (m.trans hs) (z.mono hs ho)
theorem Yt {o:OE ρ}[MonoO o]{t:TS}{m:Rs ρ}{Q:VK}{b:ρ}{H:Hp}{D:Ends}(n:Nat)(h:Sv (λ_ _=>False) S (List.replicate n []) σ t (FTd K o) m)(hs:S.p H)(hm:m= .ok b)(q:FF K o Q b H)(hD:D.rt=Q):t D σ H:=by
 refine h H D (LP n H) (by rw[El];exact hs) ?_
 subst hm
 rw[El]
 intro v C OO' H' w mm ho
 rw[hD]
 exact L8 q v C OO' H' w mm ho
noncomputable def oU:OE Unit:=λ_ _ v _ C=>v= .non/\C=[]
noncomputable instance:FlatO oU:=⟨λ_ h=>h⟩
noncomputable def rU0:Enc Unit:=λ_ _ v _=>v= .non
noncomputable instance:FrzC oU rU0:=⟨λh _ _=>h.1⟩
theorem MO {J:Jn Unit ι}{t:TS}{m:Rs Unit}{Q:VK}{b:Unit}{H:Hp}{D:Ends}(n:Nat)(h:Sv (λ_ _=>False) S (List.replicate n []) σ t (FNd J) m)(hs:S.p H)(hm:m= .ok b)(q:FF K oU Q b H)(hD:∀σ H,D.nx σ H=Q .non H):t D σ H:=by
 refine h H D (LP n H) (by rw[El];exact hs) ?_
 subst hm
 rw[El]
 intro x H' w mm ho
 rw[hD]
 have hs:XJ (hid H' (J.oo x)) (hid H' [[]]):=QZ (XJ.refl _) λb hb=>by simp[fl] at hb
 exact q .non [] H' ⟨λc hc=>by simp at hc,by simp[fl],λc hc=>by simp at hc⟩ (mm.trans hs) ⟨rfl,rfl⟩
theorem HQ {t:TS}{m:Rs β}(k:Nat)(hr:Sv Er S (OO.set k []) σ t Fd m):Sv Er S OO σ t Fd m:=λH D w s P=>by
 cases hk:OO[k]? with
 |none=>
  rw[List.set_eq_of_length_le (List.getElem?_eq_none_iff.mp hk)] at hr
  exact hr H D w s P
 |some C=>
  have hp:=Yh hk
  have w1:W (C::OO.set k []) H:=w.of hp
  have hs:XJ (hid H OO) (hid H (OO.set k [])):=by
   rw[←YC hp]
   exact QZ (XJ.refl _) λb hb=>by rw[Yz];simp[hb]
  exact hr H D w1.tail (S.mono _ _ hs s) (PZ.tr (fd.tr D) hs P)
theorem HF {te:TE}{r:Enc α}{m:Rs α}{f:Rs β}(he:EvB K Er S OO σ te r m)(hr:Sv Er S OO σ u Fd f):Sv Er S OO σ (J9 (Dt te) u) Fd (m.bind λ_=>f):=λH D w s P=>
 he.st w s P λa v H' s1 w' s' ho P'=>hr H' D w' s' P'
noncomputable def FAO {α:Type}(K:PySem.W.Frag)(OO OO':List (List XA))(o:OE α)(Q:List V->Hp->Prop)(as:List α)(H:Hp):Prop:=∀ vs Cs H',XJ H H'->W (Cs.flatten::OO') H'->XJ (hid H OO) (hid H' (Cs.flatten::OO'))->P3 (o K (hid H' (Cs.flatten::OO'))) vs as Cs->Q vs H'
noncomputable def Mz {α:Type}(K:PySem.W.Frag)(Er:Exc->Hp->Prop)(S:SC)(OO OO':List (List XA))(σ:St)(t:TA)(o:OE α)(m:Rs (List α)):Prop:=∀ H Q,W OO H->S.p (hid H OO)->PZ Er (FAO K OO OO' o Q) H m->t σ H Q
theorem U0 {o:OE α}:Mz K Er S OO OO σ Z5 o (.ok []):=λH Q w s P=>P [] [] H (XJ.refl _) w.nil (by show XJ _ (hid H ([]::OO));rw[ZU];exact XJ.refl _) .nil
theorem Z3 {te:TE}{t:TA}{o:OE α}[z:MonoO o]{m:Rs α}{n:Rs (List α)}(he:Ev K Er S OO OO1 σ te o m)(ht:∀C,Mz K Er S (C::OO1) (C::OO2) σ t o n):Mz K Er S OO OO2 σ (XM te t) o (m.bind λa=>n.bind λas=>.ok (a::as)):=λH Q w s P=>by
 refine he H _ w s ?_
 cases em:m with
 |bad=>rw[em] at P;exact P
 |err x=>rw[em] at P;exact P
 |ok a=>
  rw[em] at P
  intro v C H1 s1 w1 m1 ho
  refine ht C H1 _ w1 (S.mono _ _ m1 s) ?_
  have P1:PZ Er (FAO K OO OO2 o Q) H (n.bind λas=>.ok (a::as)):=P
  cases en:n with
  |bad=>rw[en] at P1;exact P1
  |err x=>rw[en] at P1;exact λH2 s2=>P1 H2 (s1.trans s2)
  |ok as=>
   rw[en] at P1
   have P1:FAO K OO OO2 o Q (a::as) H:=P1
   intro vs Cs H2 s2 w2 m2 pr
   have pe:((C::Cs).flatten::OO2).flatten.Perm (Cs.flatten::C::OO2).flatten:=by
    simp only[List.flatten_cons]
    rw[←List.append_assoc]
    exact List.perm_append_comm.append_right _
   refine P1 (v::vs) (C::Cs) H2 (s1.trans s2) (w2.of pe) ?_ ?_
   ·rw[YC pe];exact m1.trans m2
   ·rw[YC pe];exact .cons (z.mono m2 ho) pr
theorem Gj {t:TA}{o:OE α}[z:MonoO o]{m:Rs (List α)}(h:Mz K Er S OO OO σ t o m):Ev K Er S OO OO σ (Ed t) (oL o) (m.bind λas=>chk (as.length<=sizeLine) (.ok as)):=λH Q w s P=>by
 refine h H _ w s ?_
 cases e:m with
 |bad=>rw[e] at P;exact P
 |err x=>rw[e] at P;exact P
 |ok as=>
  rw[e] at P
  obtain⟨hsz,P⟩:=PZ.chk (show PZ Er _ H (chk (as.length<=sizeLine) (.ok as)) from P)
  intro vs Cs H1 s1 w1 m1 p
  exact⟨by rw[p.len.1];exact hsz,HE w1 m1 s1 p P⟩
class InE {α:Type}[DecidableEq α](r:Enc α):Prop where
 fl:∀{K:PySem.W.Frag}{H:Hp}{x:V}{a:α},r K H x a->JR x=true
 eq:∀{K:PySem.W.Frag}{H H':Hp}{x y:V}{a b:α},r K H x a->r K H' y b->eqV x y=decide (a=b)
noncomputable instance:InE Xa:=⟨fun {K H x a} h=>by cases(show x= .int a from h);rfl,fun {K H H' x y a b} h h'=>by
 cases(show x= .int a from h);cases(show y= .int b from h');show(a==b)=_;rw[Hb]⟩
theorem VC [DecidableEq α]{r:Enc α}[z:InE r]{H H':Hp}{x:V}{a:α}(hx:r K H x a):∀{xs:List V}{as:List α},Paired (r K H') xs as->xs.all JR=true/\inV x xs=decide (a∈as)
 |_,_, .nil=>⟨rfl,by simp[inV]⟩
 |_,_, .cons h t=>by
  obtain⟨h1,h2⟩:=VC hx t
  refine⟨by rw[List.all_cons,h1,z.fl h];rfl,?_⟩
  unfold inV at h2⊢
  rw[List.any_cons,h2,z.eq h hx,Bool.eq_iff_iff,Bool.or_eq_true,decide_eq_true_eq,decide_eq_true_eq,decide_eq_true_eq,List.mem_cons]
  exact or_congr ⟨Eq.symm,Eq.symm⟩ Iff.rfl
theorem Hx [DecidableEq α]{ta tb:TE}{r:Enc α}[z:InE r]{ma:Rs α}{mb:Rs (List α)}(ha:EvB K Er S OO σ ta r ma)(hb:EvB K Er S OO σ tb (rV r) mb):EvB K Er S OO σ (tOp (rIn K false) ta tb) Yb (ma.bind λa=>mb.bind λas=>.ok (decide (a∈as))):=λH Q w s P=>
 ha.run w s FB.tr P λa x H1 s1 w1 q1 r1 P1=>hb.run w1 q1 FB.tr P1 λb y H2 s2 w2 q2 ⟨p,xs,e,q,pr⟩ P2=>by
  obtain⟨h1,h2⟩:=VC r1 pr
  exact⟨p,xs,e, .inl (SqL.of q),z.fl r1,h1,P2 _ H2 (XJ.refl _) (by rw[h2];rfl)⟩
noncomputable def E9 [DecidableEq α](as:List α)(a:α):Rs Int:=match as.findIdx? (λb=>decide (b=a)) with
 |some j=>.ok (j:Int)
 |none=>.bad
theorem F1 [DecidableEq α]{r:Enc α}[z:InE r]{H H':Hp}{x:V}{a:α}(hx:r K H x a){xs:List V}{as:List α}(p:Paired (r K H') xs as){j:Nat}(hj:as.findIdx? (λb=>decide (b=a))=some j):
  (∃y,xs[j]?=some y/\eqV y x=true)/\∀(m:Nat) y,m<j->xs[m]?=some y->eqV y x=false:=by
 rw[List.findIdx?_eq_some_iff_getElem] at hj
 obtain⟨h1,h2,h3⟩:=hj
 constructor
 ·obtain⟨y,hy,ry⟩:=Paired.getR p (i:=j) (b:=as[j]) (by simp[h1])
  exact⟨y,hy,by rw[z.eq ry hx];exact h2⟩
 ·intro m y hm hy
  obtain⟨b,hb,rb⟩:=Paired.getL p hy
  have hml:m<as.length:=by lia
  have e:b=as[m]:=by rw[List.getElem?_eq_getElem hml] at hb;exact(Option.some.inj hb).symm
  rw[z.eq rb hx,e]
  have:=h3 m hm
  simpa using this
theorem Le [DecidableEq α]{as:List α}{a:α}{x:Exc}:E9 as a≠ .err x:=by unfold E9;split<;> exact λz=>nomatch z
theorem HX [DecidableEq α]{as:List α}{a:α}{n:Int}(h:E9 as a= .ok n):∃j:Nat,as.findIdx? (λb=>decide (b=a))=some j/\n=j:=by
 unfold E9 at h;split at h
 ·cases h;exact⟨_,by assumption,rfl⟩
 ·cases h
theorem U3 [DecidableEq α]{ta tb:TE}{r:Enc α}[z:InE r][y:MonoE r]{ma:Rs (List α)}{mb:Rs α}(ha:EvB K Er S OO σ ta (rV r) ma)(hb:EvB K Er S OO σ tb r mb):EvB K Er S OO σ (tBM K "list" (Cw K) ta (XM tb Z5)) Xa (ma.bind λas=>mb.bind λa=>E9 as a):=λH Q w s P=>
 ha.run w s FB.tr P λas x H1 s1 w1 q1 ⟨p,xs,e,q,pr⟩ P1=>⟨by rw[e];exact .inl ⟨rfl,_,SqL.of q⟩,hb.run w1 q1 FB.tr P1 λb v H2 s2 w2 q2 r2 P2=>by
  obtain⟨c,hc,P3⟩:=P2.okOf λx=>Le
  obtain⟨j,hj,rfl⟩:=HX hc
  have pr2:=Paired.imp2 (G:=r K H2) (λ_ _ h=>y.mono s2 h) pr
  obtain⟨h1,h2⟩:=F1 r2 pr2 hj
  exact⟨p,xs,v,j,e,rfl,SqL.of (s2 _ _ q),z.fl r2,(VC r2 pr2).1,h1,h2,P3 _ H2 (XJ.refl _) rfl⟩⟩
theorem IX {α:Type}[DecidableEq α]{r r':Enc α}{d:Nat}(E:EqOk r d)(h:∀{K:PySem.W.Frag}{H:Hp}{v:V}{a:α},r' K H v a->r K H v a)(m:MonoE r'):EqOk r' d where
 uniq:=λI h1 h2=>E.uniq I (h h1) (h h2)
 eq:=λI rx ry h1 h2 hu=>E.eq I rx ry (h h1) (h h2) hu
 rc:=λI rx ry h1 h2 hu=>E.rc I rx ry (h h1) (h h2) hu
 ne:=λI rx ry h1 h2 hu=>E.ne I rx ry (h h1) (h h2) hu
 keep:=λs q=>m.mono s q
theorem Nd {α:Type}[DecidableEq α]{r:Enc α}{d:Nat}[m:MonoE r](E:EqOk r d):EqOk (rV r) (d+1):=IX (Hy E) (λr9=>by obtain⟨a,xs,e,q,p⟩:=r9;exact⟨a,xs,e,SqL.of q,p⟩) inferInstance
end
section
variable {K:PySem.W.Frag}{Er:Exc->Hp->Prop}{S:SC}{OO OO' OO1 OO2:List (List XA)}{σ:St}{α β γ ρ ι δ ε:Type}
variable {Fd:Ends->β->Hp->Prop}[fd:FdOk Fd]{u:TS}
theorem Jf {ta tb:TE}{o:OE α}{q:OE β}[z:MonoO o][y:MonoO q]{ma:Rs α}{mb:Rs β}(ha:Ev K Er S OO OO1 σ ta o ma)(hb:∀C,Ev K Er S (C::OO1) (C::OO2) σ tb q mb):Ev K Er S OO OO2 σ (LM (XM ta (XM tb Z5))) (oT2 o q) (ma.bind λa=>mb.bind λb=>.ok (a,b)):=λH Q w s P=>by
 refine ha H _ w s ?_
 cases em:ma with
 |bad=>rw[em] at P;exact P
 |err x=>rw[em] at P;exact P
 |ok a=>
  rw[em] at P
  intro v C H1 s1 w1 m1 ho
  refine hb C H1 _ w1 (S.mono _ _ m1 s) ?_
  have P1:PZ Er (FO K OO OO2 (oT2 o q) Q) H (mb.bind λb=>.ok (a,b)):=P
  cases en:mb with
  |bad=>rw[en] at P1;exact P1
  |err x=>rw[en] at P1;exact λH2 s2=>P1 H2 (s1.trans s2)
  |ok b=>
   rw[en] at P1
   have P1:FO K OO OO2 (oT2 o q) Q (a,b) H:=P1
   intro v2 C2 H2 s2 w2 m2 ho2
   refine⟨by show 2<=sizeLine;decide,λp hp=>?_⟩
   have pe:((C++C2)::OO2).flatten.Perm (C2::C::OO2).flatten:=by
    simp only[List.flatten_cons]
    rw[←List.append_assoc]
    exact List.perm_append_comm.append_right _
   have s3:XJ H2 (upd H2 p (.tup [v,v2])):=X2 hp _
   have w3:=(w2.keep s3).of pe
   have m3:XJ (hid H2 (C2::C::OO2)) (hid (upd H2 p (.tup [v,v2])) ((C++C2)::OO2)):=by rw[YC pe];exact Xl s3
   refine P1 (.ref p) (C++C2) _ (s1.trans (s2.trans s3)) w3 (m1.trans (m2.trans m3)) ⟨p,v,v2,C,C2,rfl,?_,z.mono (m2.trans m3) ho,y.mono m3 ho2,rfl⟩
   rw[YC pe]
   exact Jh w2 hp
theorem LL {c:TT}{t1:TS}{mc:Rs Bool}{m2:Rs β}(hc:EvT Er S OO σ c mc)(h2:Sv Er S OO σ u Fd m2):Sv Er S OO σ (J9 (Mw c t1 Bb) u) Fd (mc.bind λb=>if b=true then .bad else m2):=λH D w s P=>
 hc.st w s P λb H' w' s' P'=>by
  cases b with
  |true=>rw[if_pos rfl] at P';exact P'.elim
  |false=>exact h2 H' D w' s' P'
theorem KQ:∀{l:List XA}{a b:XA},(l.map (·.1)).Nodup->a∈l->b∈l->a.1=b.1->a=b
 | [],_,_,_,h,_,_=>by cases h
 |c::l,a,b,n,ha,hb,e=>by
  rw[List.map_cons,List.nodup_cons] at n
  cases ha with
  |head=>cases hb with
   |head=>rfl
   |tail _ hb=>exact absurd (List.mem_map.mpr ⟨b,hb,e.symm⟩) n.1
  |tail _ ha=>cases hb with
   |head=>exact absurd (List.mem_map.mpr ⟨a,ha,e⟩) n.1
   |tail _ hb=>exact KQ n.2 ha hb e
theorem UN {Cs:List (List XA)}{k:Nat}{C:List XA}(h:Cs[k]?=some C):∀c∈C,c∈Cs.flatten:=λc hc=>List.mem_flatten.mpr ⟨C,List.mem_of_getElem? h,hc⟩
theorem Hh {as:List α}{i:Int}{a:α}(h:atR as i= .ok a):∃k,ixN as.length i=some k/\as[k]?=some a:=by
 have:=FI h
 unfold atI at this
 cases e:ixN as.length i with
 |none=>rw[e] at this;cases this
 |some k=>rw[e] at this;exact⟨k,rfl,this⟩
theorem Bx {r:Enc α}[z:MonoE r]{v:V}{as:List (List α)}{row row':List α}{H:Hp}{p q:Addr}{xs ys ys':List V}{Cs:List (List XA)}{k kk:Nat}(w:W OO H)(hk:OO[k]?=some ((p, .lst xs)::Cs.flatten))(hP:P3 (oL (oF r) K (hid H OO)) xs as Cs)(hrow:as[kk]?=some row)
  (hx:xs[kk]?=some (.ref q))(hq:H q=some (.lst ys))(hcs:Cs[kk]?=some [(q, .lst ys)])(pr:Paired (r K (hid H OO)) ys' row'):
  ∃C',W (OO.set k C') (upd H q (.lst ys'))/\XJ (hid H OO) (hid (upd H q (.lst ys')) (OO.set k C'))/\oL (oL (oF r)) K (hid (upd H q (.lst ys')) (OO.set k C')) (.ref p) (as.set kk row') C':=by
 have hkl:kk<Cs.length:=by
  rcases Nat.lt_or_ge kk Cs.length with h |h
  ·exact h
  ·rw[List.getElem?_eq_none h] at hcs;cases hcs
 have hin:∀c∈(p,HO.lst xs)::Cs.flatten,c∈OO.flatten:=λc hc=>List.mem_flatten.mpr ⟨_,List.mem_of_getElem? hk,hc⟩
 have w0:W ([]::OO) H:=w.nil
 have cn0:=QT w0 hk
 rw[List.append_nil] at cn0
 have e0:Cs[kk]=[(q, .lst ys)]:=by
  rw[List.getElem?_eq_getElem hkl] at hcs;exact Option.some.inj hcs
 have hp:=GZ (Cs:=Cs) (j:=kk) (D:=[(q,HO.lst ys')]) hkl
 rw[e0] at hp
 have hpm:((Cs.set kk [(q,HO.lst ys')]).flatten.map (·.1)).Perm (Cs.flatten.map (·.1)):=by
  have:=hp.map (·.1)
  simp only[List.map_append,List.map_cons,List.map_nil] at this
  exact(List.perm_append_right_iff _).mp this
 have hpne:p∉Cs.flatten.map (·.1):=by
  have h1:=Yh hk
  have:=(w.of (OO':=((p,HO.lst xs)::Cs.flatten)::OO.set k []) h1).nd
  rw[Yz,List.map_cons,List.cons_append,List.nodup_cons] at this
  exact λz=>this.1 (List.mem_append_left _ z)
 have hqC:q∈Cs.flatten.map (·.1):=List.mem_map.mpr ⟨(q, .lst ys),UN hcs _ (by simp),rfl⟩
 have hpq:p≠q:=λe=>hpne (e▸hqC)
 have hcells:∀c∈(p,HO.lst xs)::(Cs.set kk [(q,HO.lst ys')]).flatten,upd H q (.lst ys') c.1=some c.2/\Ln c.2=true:=λc hc=>by
  rcases List.mem_cons.mp hc with rfl |hc
  ·rw[XY hpq];exact⟨w.tr _ (hin _ List.mem_cons_self),rfl⟩
  ·obtain⟨D,hD,hcD⟩:=List.mem_flatten.mp hc
   rcases List.mem_or_eq_of_mem_set hD with hD |hD
   ·by_cases hcq:c.1=q
    ·-- a cell at q in another place:then it is this one
     have hc2:c∈(Cs.set kk [(q,HO.lst ys')]).flatten:=hc
     have n1:((Cs.set kk [(q,HO.lst ys')]).flatten.map (·.1)).Nodup:=hpm.nodup_iff.mpr cn0
     have hm:(q,HO.lst ys')∈(Cs.set kk [(q,HO.lst ys')]).flatten:=List.mem_flatten.mpr ⟨[(q, .lst ys')],List.mem_set (by simpa using hkl) _,by simp⟩
     have e1:c=(q,HO.lst ys'):=by
      have:=KQ n1 hc2 hm hcq
      exact this
     rw[e1];exact⟨Y1,rfl⟩
    ·rw[XY hcq]
     have:c∈OO.flatten:=hin c (List.mem_cons_of_mem _ (List.mem_flatten.mpr ⟨D,hD,hcD⟩))
     exact⟨w.tr c this,w.mu c this⟩
   ·rw[hD] at hcD
    have e1:c=(q,HO.lst ys'):=by simpa using hcD
    rw[e1];exact⟨Y1,rfl⟩
 have hq':q∈(Cs.set kk [(q,HO.lst ys')]).flatten.map (·.1):=hpm.mem_iff.mpr hqC
 obtain⟨w2,m2⟩:=IM (C':=(p, .lst xs)::(Cs.set kk [(q,HO.lst ys')]).flatten) (p:=q) (o:=.lst ys') w0 hk (List.mem_cons_of_mem _ hqC) (List.mem_cons_of_mem _ hq') (by
   rw[List.map_cons,List.nodup_cons]
   exact⟨λz=>hpne (hpm.mem_iff.mp z),hpm.nodup_iff.mpr cn0⟩) (λb hb=>by
   rw[List.append_nil]
   rcases List.mem_cons.mp hb with rfl |hb
   ·exact List.mem_cons_self
   ·exact List.mem_cons_of_mem _ (hpm.mem_iff.mp hb)) (λc hc=>(hcells c hc).1) λc hc=>(hcells c hc).2
 rw[ZU] at m2
 have e3:xs.set kk (.ref q)=xs:=by
  apply List.ext_getElem?
  intro n
  by_cases hn:n=kk
  ·subst hn
   rw[hx,List.getElem?_set_self (by
    rcases Nat.lt_or_ge n xs.length with h |h
    ·exact h
    ·rw[List.getElem?_eq_none h] at hx;cases hx)]
  ·rw[List.getElem?_set_ne (λe=>hn e.symm)]
 refine⟨_,w2,m2,⟨p,xs,Cs.set kk [(q,HO.lst ys')],rfl,?_,rfl⟩⟩
 have:=P3.set (F:=oL (oF r) K (hid (upd H q (.lst ys')) (OO.set k ((p, .lst xs)::(Cs.set kk [(q,HO.lst ys')]).flatten)))) (a:=V.ref q) (b:=row') (c:=[(q,HO.lst ys')])
  ⟨q,ys',List.replicate row'.length [],rfl,(P3.of (Paired.imp2 (λ_ _ h=>z.mono m2 h) pr)).imp λ_ _ _ h=>h,by rw[YS]⟩ kk (P3.imp (λ_ _ _ h=>MonoO.mono m2 h) hP)
 rw[e3] at this
 exact this
theorem CL {r:Enc α}{h:Hp}{as:List (List α)}{xs:List V}{Cs:List (List XA)}{kk:Nat}{row:List α}(q:P3 (oL (oF r) K h) xs as Cs)(hrow:as[kk]?=some row):∃q0 ys,xs[kk]?=some (.ref q0)/\Cs[kk]?=some [(q0, .lst ys)]/\Paired (r K h) ys row:=by
 obtain⟨x,c,h1,h2,p,ys,Ds,e,h3,h4⟩:=q.get hrow
 obtain⟨h5,h6⟩:=P3.flat h3
 rw[h6] at h4
 exact⟨p,ys,by rw[h1,e],by rw[h2,h4],h5⟩
theorem Uf {F:V->α->Prop}{y:V}{a:α}(r:F y a):∀{l:List V}{m:List α} (i:Nat),Paired F l m->Paired F (l.set i y) (m.set i a)
 |_,_,_, .nil=>.nil
 |_,_,0, .cons _ t=>.cons r t
 |_,_,i+1, .cons q t=>.cons q (Uf r i t)
theorem KG {ta ti tj:TE}{r:Enc α}[z:MonoE r]{m:Rs α}{mi mj:Rs Int}{f:List (List α)->Rs β}{v:V}{as:List (List α)}{C:List XA}(i k:Nat)(hσ:σ[i]?=some (some v))(hk:OO[k]?=some C)(h:∀x,S.p x->oL (oL (oF r)) K x v as C)(he:EvS K Er S OO σ ta r m)
  (hi:EvB K Er S OO σ ti Xa mi)(hj:EvB K Er S OO σ tj Xa mj)
  (hr:∀bs C',Sv Er (S.addO K (oL (oL (oF r))) v bs C') (OO.set k C') σ u Fd (f bs)):
  Sv Er S OO σ (J9 (Ec ta (M2 (tOp (Iw K) (K7 i) ti) tj Lk)) u) Fd (m.bind λa=>mi.bind λx=>(atR as x).bind λrow=>mj.bind λy=>(Jq row y a).bind λrow'=>(Jq as x row').bind f):=λH D w s P=>
 he.st w s P λa va H1 s1 w1 q1 r1 P1=>⟨v,hσ,hi.st w1 q1 P1 λx vx H2 s2 w2 q2 r2 P2=>by
  cases ea:atR as x with
  |bad=>rw[ea] at P2;exact P2.elim
  |err ex=>exact absurd ea Ku
  |ok row=>
   rw[ea] at P2
   obtain⟨kk,hkk,hrow⟩:=Hh ea
   obtain⟨p,xs,Cs,e,q,c⟩:=h _ q2
   subst c e
   obtain⟨q0,ys,g1,g2,g3⟩:=CL q hrow
   have hin:∀c∈(p,HO.lst xs)::Cs.flatten,c∈OO.flatten:=λc hc=>List.mem_flatten.mpr ⟨_,List.mem_of_getElem? hk,hc⟩
   have hH:H2 p=some (.lst xs):=w2.tr (p, .lst xs) (hin _ List.mem_cons_self)
   have hq0:H2 q0=some (.lst ys):=w2.tr (q0, .lst ys) (hin _ (List.mem_cons_of_mem _ (UN g2 _ (by simp))))
   refine⟨p,xs,x, .ref q0,rfl,r2,SqL.of hH,by unfold atI;rw[q.len.1,hkk];exact g1,hj.st w2 q2 (f:=λy=>(Jq row y a).bind λrow'=>(Jq as x row').bind f) P2 λy vy H3 s3 w3 q3 r3 P3'=>?_⟩
   cases eb:Jq row y a with
   |bad=>rw[eb] at P3';exact P3'.elim
   |err ex=>exact absurd eb CD
   |ok row'=>
    rw[eb] at P3'
    obtain⟨jj,hjj,rfl⟩:=BI eb
    have P4:PZ Er (Fd D) (hid H3 OO) (f (as.set kk (row.set jj a))):=by
     have e5:Jq as x (row.set jj a)= .ok (as.set kk (row.set jj a)):=by unfold Jq;rw[hkk]
     have:PZ Er (Fd D) (hid H3 OO) ((Jq as x (row.set jj a)).bind f):=P3'
     rw[e5] at this
     exact this
    have m3:=Xl (OO:=OO) s3
    obtain⟨C',w4,m4,o4⟩:=Bx (ys':=ys.set jj va) (row':=row.set jj a) (v:=.ref p) w3 hk (P3.imp (λ_ _ _ h=>MonoO.mono m3 h) q) hrow g1 (s3 _ _ hq0) g2 (Uf (z.mono ((Xl s2).trans m3) r1) jj (Paired.imp2 (λ_ _ h=>z.mono m3 h) g3))
    exact⟨q0,ys,y,jj,rfl,r3,s3 _ _ hq0,by rw[Paired.len g3];exact hjj,hr _ C' _ D w4 ⟨S.mono _ _ m4 q3,o4⟩ (PZ.tr (fd.tr D) m4 P4)⟩⟩
theorem B9 {ta ti:TE}{r:Enc α}[z:MonoE r]{m:Rs α}{mi:Rs Int}{f:List (List α)->Rs β}{v:V}{as:List (List α)}{C:List XA}(i k:Nat)(hσ:σ[i]?=some (some v))(hk:OO[k]?=some C)(h:∀x,S.p x->oL (oL (oF r)) K x v as C)(he:EvS K Er S OO σ ta r m)
  (hi:EvB K Er S OO σ ti Xa mi)
  (hr:∀bs C',Sv Er (S.addO K (oL (oL (oF r))) v bs C') (OO.set k C') σ u Fd (f bs)):
  Sv Er S OO σ (J9 (Dt (tBM K "list" UE (tOp (Iw K) (K7 i) ti) (XM ta Z5))) u) Fd (mi.bind λx=>(atR as x).bind λrow=>m.bind λa=>chk (row.length<sizeLine) ((Jq as x (row++[a])).bind f)):=λH D w s P=>
 ⟨v,hσ,hi.st w s P λx vx H2 s2 w2 q2 r2 P2=>by
  cases ea:atR as x with
  |bad=>rw[ea] at P2;exact P2.elim
  |err ex=>exact absurd ea Ku
  |ok row=>
   rw[ea] at P2
   obtain⟨kk,hkk,hrow⟩:=Hh ea
   obtain⟨p,xs,Cs,e,q,c⟩:=h _ q2
   subst c e
   obtain⟨q0,ys,g1,g2,g3⟩:=CL q hrow
   have hin:∀c∈(p,HO.lst xs)::Cs.flatten,c∈OO.flatten:=λc hc=>List.mem_flatten.mpr ⟨_,List.mem_of_getElem? hk,hc⟩
   have hH:H2 p=some (.lst xs):=w2.tr (p, .lst xs) (hin _ List.mem_cons_self)
   have hq0:H2 q0=some (.lst ys):=w2.tr (q0, .lst ys) (hin _ (List.mem_cons_of_mem _ (UN g2 _ (by simp))))
   refine⟨p,xs,x, .ref q0,rfl,r2,SqL.of hH,by unfold atI;rw[q.len.1,hkk];exact g1, .inl ⟨rfl,_,SqL.of hq0⟩,he.st w2 q2 (f:=λa=>chk (row.length<sizeLine) ((Jq as x (row++[a])).bind f)) P2 λa va H3 s3 w3 q3 r3 P3'=>?_⟩
   obtain⟨hsz,P3'⟩:=PZ.chk P3'
   have P4:PZ Er (Fd D) (hid H3 OO) (f (as.set kk (row++[a]))):=by
    have e5:Jq as x (row++[a])= .ok (as.set kk (row++[a])):=by unfold Jq;rw[hkk]
    rw[e5] at P3'
    exact P3'
   have m3:=Xl (OO:=OO) s3
   obtain⟨C',w4,m4,o4⟩:=Bx (ys':=ys++[va]) (row':=row++[a]) (v:=.ref p) w3 hk (P3.imp (λ_ _ _ h=>MonoO.mono m3 h) q) hrow g1 (s3 _ _ hq0) g2 (Paired.app (Paired.imp2 (λ_ _ h=>z.mono m3 h) g3) (.cons r3 .nil))
   exact⟨q0,ys,va,rfl,rfl,s3 _ _ hq0,by rw[Paired.len g3];exact hsz,hr _ C' _ D w4 ⟨S.mono _ _ m4 q3,o4⟩ (PZ.tr (fd.tr D) m4 P4)⟩⟩
theorem MT {H H':Hp}{C D:List XA}{k:Nat}(w:W OO H)(hk:OO[k]?=some C)(s:XJ H H')(w':W (D::OO.set k []) H')(m:XJ (hid H (OO.set k [])) (hid H' (D::OO.set k []))):
  W (D::OO) H'/\XJ (hid H OO) (hid H' (D::OO))/\Dq (hid H' (D::OO.set k [])) (hid H' (D::OO)):=by
 have hp:=Yh hk
 have wk:W (C::OO.set k []) H:=w.of hp
 have hC:∀c∈C,hid H (OO.set k []) c.1=some c.2:=λc hc=>ZW (wk.cell c hc) (by
  have:=wk.nd
  rw[Yz] at this
  exact λhb=>(List.nodup_append.mp this).2.2 c.1 (List.mem_map.mpr ⟨c,hc,rfl⟩) c.1 hb rfl)
 have hC':∀c∈C,H' c.1=some c.2/\c.1∉fl (D::OO.set k []):=λc hc=>YB (m _ _ (hC c hc))
 have w2:W (C::D::OO.set k []) H':=by
  refine⟨λc hc=>?_,?_,λc hc=>?_⟩
  ·rw[List.flatten_cons,List.mem_append] at hc
   exact hc.elim (λhc=>(hC' c hc).1) λhc=>w'.tr c hc
  ·rw[Yz]
   refine List.nodup_append.mpr ⟨?_,w'.nd,λa ha b hb e=>?_⟩
   ·have:=wk.nd
    rw[Yz] at this
    exact(List.nodup_append.mp this).1
   ·obtain⟨c,hc,rfl⟩:=List.mem_map.mp ha
    subst e
    exact(hC' c hc).2 hb
  ·rw[List.flatten_cons,List.mem_append] at hc
   exact hc.elim (λhc=>wk.mu c (by simp[hc])) λhc=>w'.mu c hc
 have pe:(D::OO).flatten.Perm (C::D::OO.set k []).flatten:=by
  simp only[List.flatten_cons]
  refine List.Perm.trans (List.Perm.append_left D (by simpa using hp.symm:OO.flatten.Perm (C++(OO.set k []).flatten))) ?_
  rw[←List.append_assoc, ←List.append_assoc]
  exact List.perm_append_comm.append_right _
 have w3:=w2.of pe
 refine⟨w3,λb u q=>?_,λb u q i=>w3.i b u (YB q).1 i⟩
 obtain⟨q1,q2⟩:=YB q
 have q3:hid H (OO.set k []) b=some u:=ZW q1 λz=>q2 ((VS hp b).mp (by rw[Yz];simp[z]))
 obtain⟨q4,q5⟩:=YB (m _ _ q3)
 refine ZW q4 λz=>?_
 have z2:=(VS pe b).mp z
 rw[Yz,List.mem_append] at z2
 rcases z2 with z2 |z2
 ·exact q2 ((VS hp b).mp (by rw[Yz];exact List.mem_append_left _ z2))
 ·exact q5 z2
theorem MY {r1:Enc γ}{o1:OE γ}[z:FrzC o1 r1][MonoE r1]{H:Hp}{v:V}{a:γ}{C:List XA}{k:Nat}(w:W OO H)(hk:OO[k]?=some C)(s:S.p (hid H OO))(h:∀x,S.p x->o1 K x v a C):
  W (OO.set k []) H/\(S.add K r1 v a).p (hid H (OO.set k [])):=by
 have hp:=Yh hk
 have wk:W (C::OO.set k []) H:=w.of hp
 have hs:XJ (hid H OO) (hid H (OO.set k [])):=by
  rw[←YC hp]
  exact QZ (XJ.refl _) λb hb=>by rw[Yz];simp[hb]
 refine⟨wk.tail,S.mono _ _ hs s,z.frz (h _ s) hs λc hc=>ZW (wk.cell c hc) ?_⟩
 have:=wk.nd
 rw[Yz] at this
 exact λhb=>(List.nodup_append.mp this).2.2 c.1 (List.mem_map.mpr ⟨c,hc,rfl⟩) c.1 hb rfl
theorem IQ {te:TE}{o:OE α}[y:FlatO o]{r1:Enc γ}{o1:OE γ}[FrzC o1 r1][MonoE r1]{m:Rs α}{v:V}{a:γ}{C:List XA}(k:Nat)(hk:OO[k]?=some C)(h:∀x,S.p x->o1 K x v a C)(he:Ev K Er (S.add K r1 v a) (OO.set k []) (OO.set k []) σ te o m):Ev K Er S OO OO σ te o m:=λH Q w s P=>by
 obtain⟨w1,s1⟩:=MY (r1:=r1) w hk s h
 refine he H Q w1 s1 (P.imp λb _ hb v' D H' s' w' m' ho=>?_)
 obtain⟨w3,m3,i3⟩:=MT w hk s' w' m'
 exact hb v' D H' s' w3 m3 (y.flat i3 ho)
theorem UL (K:PySem.W.Frag)(T:String):PySem.W.kitOne K (.type T) (.type T)=some true:=by
 unfold PySem.W.kitOne
 rw[if_pos (beq_self_eq_true _)]
theorem KU (K:PySem.W.Frag):PySem.W.kitOne K (.type "int") (.type "bool")=some false:=by
 first
  |rfl
  |decide+kernel
  | (unfold PySem.W.kitOne PySem.W.kitCls;rfl)
end
section
variable {K:PySem.W.Frag}{Er:Exc->Hp->Prop}{S:SC}{OO OO' OO1 OO2:List (List XA)}{σ:St}{α β γ ρ ι δ ε:Type}
variable {Fd:Ends->β->Hp->Prop}[fd:FdOk Fd]{u:TS}
noncomputable def NC:Option α->Rs α
 |some a=>.ok a
 |none=>.bad
end
section
variable {K:PySem.W.Frag}{Er:Exc->Hp->Prop}{S:SC}{OO OO' OO1 OO2:List (List XA)}{σ:St}{α β γ ρ ι δ ε:Type}
variable {α1 α2 α3 α4 α5:Type}
inductive rP5I (r1:Enc α1)(r2:Enc α2)(r3:Enc α3)(r4:Enc α4)(r5:Enc α5)(K:PySem.W.Frag)(H:Hp)(v:V)(p:(α1×α2×α3×α4×α5)):Prop
 |mk (a:_) (x1:_) (x2:_) (x3:_) (x4:_) (x5:_) (h1_:v= .ref a) (h2_:H a=some (.tup [x1,x2,x3,x4,x5])) (h3_:r1 K H x1 p.1) (h4_:r2 K H x2 p.2.1) (h5_:r3 K H x3 p.2.2.1) (h6_:r4 K H x4 p.2.2.2.1) (h7_:r5 K H x5 p.2.2.2.2)
noncomputable def rP5 (r1:Enc α1)(r2:Enc α2)(r3:Enc α3)(r4:Enc α4)(r5:Enc α5):Enc (α1×α2×α3×α4×α5):=λK H v p=>rP5I r1 r2 r3 r4 r5 K H v p
noncomputable instance {r1:Enc α1}{r2:Enc α2}{r3:Enc α3}{r4:Enc α4}{r5:Enc α5}[m1:MonoE r1][m2:MonoE r2][m3:MonoE r3][m4:MonoE r4][m5:MonoE r5]:MonoE (rP5 r1 r2 r3 r4 r5):=⟨λs r9=>by obtain⟨a,x1,x2,x3,x4,x5,e,h,p1,p2,p3,p4,p5⟩:=r9;exact⟨a,x1,x2,x3,x4,x5,e,s _ _ h,m1.mono s p1,m2.mono s p2,m3.mono s p3,m4.mono s p4,m5.mono s p5⟩⟩
noncomputable instance {r1:Enc α1}{r2:Enc α2}{r3:Enc α3}{r4:Enc α4}{r5:Enc α5}[m1:FlatE r1][m2:FlatE r2][m3:FlatE r3][m4:FlatE r4][m5:FlatE r5]:FlatE (rP5 r1 r2 r3 r4 r5):=⟨λs r9=>by obtain⟨a,x1,x2,x3,x4,x5,e,h,p1,p2,p3,p4,p5⟩:=r9;exact⟨a,x1,x2,x3,x4,x5,e,s _ _ h rfl,m1.flat s p1,m2.flat s p2,m3.flat s p3,m4.flat s p4,m5.flat s p5⟩⟩
theorem Fw {t1:TE}{t2:TE}{t3:TE}{t4:TE}{t5:TE}{r1:Enc α1}{r2:Enc α2}{r3:Enc α3}{r4:Enc α4}{r5:Enc α5}[z1:MonoE r1][z2:MonoE r2][z3:MonoE r3][z4:MonoE r4][z5:MonoE r5]{m1:Rs α1}{m2:Rs α2}{m3:Rs α3}{m4:Rs α4}{m5:Rs α5}(h1:EvS K Er S OO σ t1 r1 m1)(h2:EvS K Er S OO σ t2 r2 m2)(h3:EvS K Er S OO σ t3 r3 m3)(h4:EvS K Er S OO σ t4 r4 m4)(h5:EvS K Er S OO σ t5 r5 m5):EvS K Er S OO σ (LM (XM t1 (XM t2 (XM t3 (XM t4 (XM t5 Z5)))))) (rP5 r1 r2 r3 r4 r5) (m1.bind λa1=>m2.bind λa2=>m3.bind λa3=>m4.bind λa4=>m5.bind λa5=>.ok (a1,a2,a3,a4,a5)):=λH Q w s P=>
 h1.run w s FS.tr P λa1 y1 H1 s1 w1 u1 q1 P1=>h2.run w1 u1 FS.tr P1 λa2 y2 H2 s2 w2 u2 q2 P2=>h3.run w2 u2 FS.tr P2 λa3 y3 H3 s3 w3 u3 q3 P3=>h4.run w3 u3 FS.tr P3 λa4 y4 H4 s4 w4 u4 q4 P4=>h5.run w4 u4 FS.tr P4 λa5 y5 H5 s5 w5 u5 q5 P5=>⟨by show 5<=sizeLine;decide,λp hp=>P5 _ _ (X2 hp _) ⟨p,y1,y2,y3,y4,y5,rfl,Jh w5 hp,z1.mono ((Xl s2).trans ((Xl s3).trans ((Xl s4).trans ((Xl s5).trans (Xl (X2 hp _)))))) q1,z2.mono ((Xl s3).trans ((Xl s4).trans ((Xl s5).trans (Xl (X2 hp _))))) q2,z3.mono ((Xl s4).trans ((Xl s5).trans (Xl (X2 hp _)))) q3,z4.mono ((Xl s5).trans (Xl (X2 hp _))) q4,z5.mono (Xl (X2 hp _)) q5⟩⟩
@[reducible] noncomputable def tg5 {r1:Enc α1}{r2:Enc α2}{r3:Enc α3}{r4:Enc α4}{r5:Enc α5}[MonoE r1][MonoE r2][MonoE r3][MonoE r4][MonoE r5](i1 i2 i3 i4 i5:Nat):Tgt K OO (E4 K 5 (ZM (Y6 i1) (ZM (Y6 i2) (ZM (Y6 i3) (ZM (Y6 i4) (ZM (Y6 i5) Hr)))))) (rP5 r1 r2 r3 r4 r5) (V×V×V×V×V) where
 set:=λv σ=>(((((σ.set i1 (some v.1)).set i2 (some v.2.1)).set i3 (some v.2.2.1)).set i4 (some v.2.2.2.1)).set i5 (some v.2.2.2.2))
 sc:=λa v S=>(((((S.add K r1 v.1 a.1).add K r2 v.2.1 a.2.1).add K r3 v.2.2.1 a.2.2.1).add K r4 v.2.2.2.1 a.2.2.2.1).add K r5 v.2.2.2.2 a.2.2.2.2)
 ok:=fun {H v a σ S Q} r9 hs hq=>by obtain⟨p,x1,x2,x3,x4,x5,e,h,h1,h2,h3,h4,h5⟩:=r9;exact⟨p,_,e,SqT.of (XS _ _ h),rfl,x1,[x2,x3,x4,x5],rfl,x2,[x3,x4,x5],rfl,x3,[x4,x5],rfl,x4,[x5],rfl,x5,[],rfl,rfl,hq (x1,x2,x3,x4,x5) ⟨⟨⟨⟨⟨hs,h1⟩,h2⟩,h3⟩,h4⟩,h5⟩⟩
theorem Ix {K:PySem.W.Frag}{n i1 i2 i3:Nat}(h1:i1<n)(h2:i2<n)(h3:i3<n):VZ n (E4 K 3 (ZM (Y6 i1) (ZM (Y6 i2) (ZM (Y6 i3) Hr)))):=λx σ H Q q=>by
 obtain⟨a,xs,e1,hq,hl,v1,r1,f1,v2,r2,f2,v3,r3,f3,e9,q⟩:=q
 exact⟨a,xs,e1,hq,hl,v1,r1,f1,v2,r2,f2,v3,r3,f3,e9,q,by simp,λk hk=>by rw[List.getElem?_set_ne (by lia),List.getElem?_set_ne (by lia),List.getElem?_set_ne (by lia)]⟩
noncomputable def MA (as:List Int):Rs Int:=chk (0<as.length) (.ok (KO as))
theorem Fa {ta:TE}{ma:Rs (List Int)}(ha:EvB K Er S OO σ ta (rPL Xa) ma):EvB K Er S OO σ (tCB (Mt K KO) (XM ta Z5)) Xa (ma.bind MA):=λH Q w s P=>
 ha.run w s FB.tr P λa x H1 s1 w1 q1 ⟨p,xs,e,q,pr⟩ P1=>by
  obtain⟨h1,P1⟩:=PZ.chk P1
  exact⟨p,a,by rw[e],by rw[←Q2 pr];exact SqT.of q,h1,P1 _ H1 (XJ.refl _) rfl⟩
theorem IB {ta:TE}{m:Rs (Int×Int×Int)}(ha:EvB K Er S OO σ ta (rP3 Xa Xa Xa) m):EvB K Er S OO σ ta (rPL Xa) (m.bind λp=>.ok [p.1,p.2.1,p.2.2]):=λH Q w s P=>
 ha.run w s FB.tr P λa x H1 s1 w1 q1 r9 P1=>by obtain⟨p,x1,x2,x3,e,q,h1,h2,h3⟩:=r9;exact P1 _ H1 (XJ.refl _) ⟨p,_,e,q, .cons h1 (.cons h2 (.cons h3 .nil))⟩
theorem IA {ta:TE}{m:Rs (Int×Int×Int×Int×Int)}(ha:EvB K Er S OO σ ta (rP5 Xa Xa Xa Xa Xa) m):EvB K Er S OO σ ta (rPL Xa) (m.bind λp=>.ok [p.1,p.2.1,p.2.2.1,p.2.2.2.1,p.2.2.2.2]):=λH Q w s P=>
 ha.run w s FB.tr P λa x H1 s1 w1 q1 r9 P1=>by obtain⟨p,x1,x2,x3,x4,x5,e,q,h1,h2,h3,h4,h5⟩:=r9;exact P1 _ H1 (XJ.refl _) ⟨p,_,e,q, .cons h1 (.cons h2 (.cons h3 (.cons h4 (.cons h5 .nil))))⟩
theorem F7 {te:TE}{tl th:TO}{r:Enc α}[z:MonoE r]{m:Rs (List α)}{ml mh:Rs (Option Int)}(he:EvB K Er S OO σ te (rPL r) m)(hl:EvP Er S OO σ tl ml)(hh:EvP Er S OO σ th mh):
  EvB K Er S OO σ (tSl (M3 K) te tl th) (rPL r) (m.bind λas=>ml.bind λlo=>mh.bind λhi=>chk (¬(HT.sIx as.length 0 lo=0/\HT.sIx as.length as.length hi=as.length)) (.ok (Gu as lo hi))):=λH Q w s P=>
 he.run w s FB.tr P λas x H1 s1 w1 q1 ⟨p,xs,e,q,pr⟩ P1=>hl.run w1 q1 FB.tr P1 λlo H2 s2 w2 q2 P2=>hh.run w2 q2 FB.tr P2 λhi H3 s3 w3 q3 P3'=>by
  obtain⟨hn,P3'⟩:=PZ.chk P3'
  have pr2:=Jy (Paired.imp2 (G:=r K H3) (λ_ _ h=>z.mono (s2.trans s3) h) pr) lo hi
  exact⟨p,xs,e,SqT.of (s3 _ _ (s2 _ _ q)),by rw[Paired.len pr];exact hn,λa ha=>P3' _ _ (X2 ha _) ⟨a,_,rfl,Y1,Paired.imp2 (λ_ _ h=>z.mono (X2 ha _) h) pr2⟩⟩
noncomputable def rDP {α:Type}(r:Enc α)(K:PySem.W.Frag)(H:Hp)(kv:Key×V)(kx:Int×α):Prop:=kv.1= .inl kx.1/\r K H kv.2 kx.2
inductive rDI {α:Type}(r:Enc α)(K:PySem.W.Frag)(H:Hp)(v:V)(d:(List (Int×α))):Prop
 |mk (p:_) (kvs:_) (h1_:v= .ref p) (h2_:H p=some (.dK kvs)) (h3_:Paired (rDP r K H) kvs d)
noncomputable def rD {α:Type}(r:Enc α):Enc (List (Int×α)):=λK H v d=>rDI r K H v d
inductive oDI {α:Type}(r:Enc α)(K:PySem.W.Frag)(h:Hp)(v:V)(d:(List (Int×α)))(C:List XA):Prop
 |mk (p:_) (kvs:_) (h1_:v= .ref p) (h2_:Paired (rDP r K h) kvs d) (h3_:C=[(p, .dK kvs)])
noncomputable def oD {α:Type}(r:Enc α):OE (List (Int×α)):=λK h v d C=>oDI r K h v d C
noncomputable instance {r:Enc α}[m:MonoE r]:MonoE (rD r):=⟨λs r9=>by obtain⟨p,kvs,e,q,pr⟩:=r9;exact⟨p,kvs,e,s _ _ q,Paired.imp2 (λ_ _ z=>⟨z.1,m.mono s z.2⟩) pr⟩⟩
noncomputable instance {r:Enc α}[m:MonoE r]:MonoO (oD r):=⟨λs r9=>by obtain⟨p,kvs,e,pr,c⟩:=r9;exact⟨p,kvs,e,Paired.imp2 (λ_ _ z=>⟨z.1,m.mono s z.2⟩) pr,c⟩⟩
noncomputable instance {r:Enc α}[m:MonoE r]:FrzC (oD r) (rD r):=⟨λr9 s hc=>by obtain⟨p,kvs,e,pr,c⟩:=r9;exact⟨p,kvs,e,hc (p, .dK kvs) (by rw[c];simp),Paired.imp2 (λ_ _ z=>⟨z.1,m.mono s z.2⟩) pr⟩⟩
noncomputable def ZD (d:List (Int×α))(k:Int):Option α:=(d.find? λkv=>decide (kv.1=k)).map (·.2)
noncomputable def GJ (d:List (Int×α))(k:Int)(v:α):List (Int×α):=if(d.any λkv=>decide (kv.1=k))=true then d.map (λkv=>if kv.1=k then(kv.1,v) else kv) else d++[(k,v)]
noncomputable def VY (d:List (Int×α))(k:Int):Rs α:=NC (ZD d k)
theorem Vt {r:Enc α}{H:Hp}{k:Int}:∀{kvs:List (Key×V)}{d:List (Int×α)},Paired (rDP r K H) kvs d->(∀a,ZD d k=some a->∃v,DA kvs (.inl k)=some v/\r K H v a)/\(DA kvs (.inl k)).isSome=(ZD d k).isSome
 |_,_, .nil=>⟨λa h=>(by cases h),rfl⟩
 |kv::kvs,kx::d, .cons h t=>by
  obtain⟨h1,h2⟩:=Vt (k:=k) t
  by_cases e:kx.1=k
  ·have e2:kv.1= .inl k:=by rw[h.1,e]
   rw[JV e2]
   have e3:ZD (kx::d) k=some kx.2:=by simp[ZD,List.find?_cons,e]
   rw[e3]
   exact⟨λa ha=>by cases ha;exact⟨_,rfl,h.2⟩,rfl⟩
  ·have e2:¬kv.1= .inl k:=by rw[h.1];exact λz=>e (Sum.inl.inj z)
   rw[J8 e2]
   have e3:ZD (kx::d) k=ZD d k:=by simp[ZD,List.find?_cons,e]
   rw[e3]
   exact⟨h1,h2⟩
theorem V2 {r:Enc α}{H:Hp}{k:Int}:∀{kvs:List (Key×V)}{d:List (Int×α)},Paired (rDP r K H) kvs d->(kvs.any λkv=>decide (kv.1= .inl k))=d.any λkx=>decide (kx.1=k)
 |_,_, .nil=>rfl
 |kv::kvs,kx::d, .cons h t=>by
  rw[List.any_cons,List.any_cons,V2 t,h.1]
  congr 1
  rw[Bool.eq_iff_iff];simp
theorem Gn {r:Enc α}{H:Hp}{k:Int}{v:V}{a:α}(hv:r K H v a){kvs:List (Key×V)}{d:List (Int×α)}(h:Paired (rDP r K H) kvs d):Paired (rDP r K H) (K8 kvs (.inl k) v) (GJ d k a):=by
 unfold K8 GJ
 rw[V2 h]
 by_cases e:(d.any λkx=>decide (kx.1=k))=true
 ·rw[if_pos e,if_pos e]
  clear e
  induction h with
  |nil=>exact .nil
  | @cons kv kx l m h t ih=>
   refine .cons ?_ ih
   show rDP r K H (if kv.1= .inl k then(kv.1,v) else kv) (if kx.1=k then(kx.1,a) else kx)
   by_cases e:kx.1=k
   ·rw[if_pos (show kv.1= .inl k by rw[h.1,e]),if_pos e];exact⟨h.1,hv⟩
   ·rw[if_neg (show ¬kv.1= .inl k by rw[h.1];exact λz=>e (Sum.inl.inj z)),if_neg e];exact h
 ·rw[if_neg e,if_neg e]
  exact Paired.app h (.cons ⟨rfl,hv⟩ .nil)
theorem Ik {r:Enc α}:Ev K Er S OO OO σ Ht (oD r) (.ok []):=λH Q w s P=>λp hp=>P (.ref p) [(p, .dK [])] _ (X2 hp _) (w.new hp rfl) (UY hp) ⟨p,[],rfl, .nil,rfl⟩
theorem UH {td ty:TE}{r:Enc α}[z:MonoE r]{md:Rs (List (Int×α))}{mk:Rs Int}(hd:EvB K Er S OO σ td (rD r) md)(hk:EvB K Er S OO σ ty Xa mk):EvB K Er S OO σ (Lx td ty) r (md.bind λd=>mk.bind λk=>VY d k):=λH Q w s P=>
 hd.run w s FB.tr P λd x H1 s1 w1 q1 ⟨p,kvs,e,q,pr⟩ P1=>hk.run w1 q1 FB.tr P1 λk y H2 s2 w2 q2 r2 P2=>by
  cases eg:ZD d k with
  |none=>rw[VY,eg] at P2;exact P2.elim
  |some a=>
   rw[VY,eg] at P2
   obtain⟨v,hv,rv⟩:=(Vt (k:=k) pr).1 a eg
   exact⟨p,v,e, .inl ⟨kvs, .inl k, .inl (s2 _ _ q),r2,hv.symm⟩,P2 _ H2 (XJ.refl _) (z.mono s2 rv)⟩
variable {Fd:Ends->β->Hp->Prop}[fd:FdOk Fd]{u:TS}
theorem HD {tv ty:TE}{r:Enc α}[z:MonoE r]{mv:Rs α}{mk:Rs Int}{f:List (Int×α)->Rs β}{v:V}{d:List (Int×α)}{C:List XA}(i k:Nat)(hσ:σ[i]?=some (some v))(hk:OO[k]?=some C)(h:∀x,S.p x->oD r K x v d C)(hv:EvS K Er S OO σ tv r mv)(hy:EvB K Er S OO σ ty Xa mk)
  (hr:∀d' C',Sv Er (S.addO K (oD r) v d' C') (OO.set k C') σ u Fd (f d')):Sv Er S OO σ (J9 (LY (K7 i) ty tv) u) Fd (mv.bind λa=>mk.bind λn=>chk (d.length<sizeLine) (f (GJ d n a))):=λH D w s P=>
 hv.st w s P λa va H1 s1 w1 q1 r1 P1=>⟨v,hσ,hy.st w1 q1 P1 λn vn H2 s2 w2 q2 r2 P2=>by
  obtain⟨hsz,P2⟩:=PZ.chk P2
  obtain⟨p,kvs,e,pr,c⟩:=h _ q2
  subst c e
  have hH:H2 p=some (.dK kvs):=w2.tr (p, .dK kvs) (List.mem_flatten.mpr ⟨_,List.mem_of_getElem? hk,by simp⟩)
  obtain⟨w3,m3⟩:=IM (D:=[]) (C':=[(p, .dK (K8 kvs (.inl n) va))]) (p:=p) (o:=.dK (K8 kvs (.inl n) va)) w2.nil hk (by simp) (by simp) (by simp) (λb hb=>by simpa using hb) (λc hc=>by
   have:c=(p, .dK (K8 kvs (.inl n) va)):=by simpa using hc
   rw[this];exact Y1) (λc hc=>by
   have:c=(p, .dK (K8 kvs (.inl n) va)):=by simpa using hc
   rw[this];rfl)
  rw[ZU] at m3
  refine⟨p,_,rfl, .inl ⟨kvs, .inl n,hH,r2,by rw[Paired.len pr];exact hsz,rfl⟩,?_⟩
  exact hr _ _ _ D w3 ⟨S.mono _ _ m3 q2,⟨p,_,rfl,Gn (z.mono ((Xl s2).trans m3) r1) (Paired.imp2 (λ_ _ h=>⟨h.1,z.mono m3 h.2⟩) pr),rfl⟩⟩ (PZ.tr (fd.tr D) m3 P2)⟩
end
section
variable {P:Program}{w:World}{h0 h h' base:Heap}{H:Hp}{a T:Addr}{cls a0:Value}{l:List Env}
end
section
variable {fs fs2 ex ex2:List Addr}{H0 H H':Hp}{h0 h h':Heap}
end
section
variable {P:Program}{w:World}{K:PySem.W.Frag}{mg:Str->Option Value}{base:Heap}{N:List Str}{qual:Str}{scope:Scope}{f:Addr}{cd:Value}{A:Around}{outer:List Env}{s0:Shared}{H0:Hp}{E:XK}
end
section
variable {X:Cx}{k j:Nat}{x:Str}{ps:List Str}{sp:Sp}{e:Expr}{es:List Expr}{t:TA}{p pos:Pos}{E:XK}
end
section
variable {X:Cx}{E:XK}{C:Addr}{x:Str}{e:Expr}{es:List Expr}{t:TA}{np cpos pos:Pos}
end
section
variable {X:Cx}{e:Expr}{es:List Expr}{te:TE}{t:TJ}{n:Nat}{pos p:Pos}
end
section
variable {X:Cx}{pins:List (Addr×Obj)}{σ:St}{H:Hp}{s:Shared}{h':Heap}
end
section
variable {X:Cx}{body suite:List Stmt}{b₀:Stmt}{cn n:Str}{Ch:Addr}{i:Nat}{tb:XK->TS}{ts:Addr->Addr->TS}{np hpos pos:Pos}
end
section
variable {K:PySem.W.Frag}{Er:Exc->Hp->Prop}{S:SC}{OO OO' OO2:List (List XA)}{σ:St}{α β γ ρ ι:Type}{α1 α2 α3 α4 α5 α6:Type}{mg:Str->Option Value}{E:XK}
variable {Fd:Ends->β->Hp->Prop}[fd:FdOk Fd]{u:TS}
section
variable {te:XK->TE}{m:Rs α}{ts:Addr->Addr->TS}{N i:Nat}{Ch:Addr}{o:OE ρ}{g:Exc->Rs ρ}{ns:List Str}{d:Str}
end
end
end L2
namespace L2
open PySem PySem.Spec PyProof.Rows PySem.W PySem.Builtin PySem.Builtin.ObjectAttr PySem.Builtin.Getset_descriptor
section
variable {prog:Program}{w:World}{A:Around}{E:Value->Shared->Prop}{K:Frag}{x D:Addr}{s:Shared}
end
theorem Lz {X:Cx}{x:Str}{v:V}{pos:Pos}(h:∃u,X.mg x=some u/\YJ v u)(hg:Gl X x)(hd:(x==("__debug__":Str))=false:=by decide):PE X (.Name x pos) (tC v):=by
 obtain⟨u,hm,r⟩:=h
 exact Iv hg hm r hd
section
variable {K:PySem.W.Frag}{C D:Addr}{b:Bool}
end
end L2
namespace L2
open PySem PySem.Spec PyProof.Rows
section
variable {α β:Type}{K:PySem.W.Frag}{Er:Exc->Hp->Prop}{S:SC}{OO:List (List XA)}{σ:St}{Fd:Ends->β->Hp->Prop}[fd:FdOk Fd]{u:TS}
end
section
variable {α β γ δ ε:Type}
end
section
variable {K:PySem.W.Frag}{Er:Exc->Hp->Prop}{S:SC}{OO OO' OO1 OO2:List (List XA)}{σ:St}{α β γ ρ ι δ ε ζ:Type}
variable {Fd:Ends->β->Hp->Prop}[fd:FdOk Fd]{u:TS}
end
end L2
namespace L2
theorem LZ {α:Type}{us:List α}(h:us.length=1):∃a,us=[a]:=List.length_eq_one_iff.mp h
theorem LQ {α:Type}{us:List α}(h:us.length=2):∃a0 a1,us=[a0,a1]:=by
 cases us with
 |nil=>cases h
 |cons a0 t=>
  obtain⟨a1,rfl⟩:=LZ (Nat.succ.inj h)
  exact⟨a0,a1,rfl⟩
theorem L6 {α:Type}{us:List α}(h:us.length=3):∃a0 a1 a2,us=[a0,a1,a2]:=by
 cases us with
 |nil=>cases h
 |cons a0 t=>
  obtain⟨a1,a2,rfl⟩:=LQ (Nat.succ.inj h)
  exact⟨a0,a1,a2,rfl⟩
theorem Mr {α:Type}{us:List α}(h:us.length=4):∃a0 a1 a2 a3,us=[a0,a1,a2,a3]:=by
 cases us with
 |nil=>cases h
 |cons a0 t=>
  obtain⟨a1,a2,a3,rfl⟩:=L6 (Nat.succ.inj h)
  exact⟨a0,a1,a2,a3,rfl⟩
theorem MV {α:Type}{us:List α}(h:us.length=5):∃a0 a1 a2 a3 a4,us=[a0,a1,a2,a3,a4]:=by
 cases us with
 |nil=>cases h
 |cons a0 t=>
  obtain⟨a1,a2,a3,a4,rfl⟩:=Mr (Nat.succ.inj h)
  exact⟨a0,a1,a2,a3,a4,rfl⟩
end L2
namespace L2
open PySem PySem.Spec PyProof.Rows
section
variable {prog:Program}{w:World}{A:Around}{E:Value->Shared->Prop}
end
section
variable {X:Cx}{pos:Pos}
end
section
variable {K:PySem.W.Frag}{Er:Exc->Hp->Prop}{S:SC}{OO OO' OO1 OO2:List (List XA)}{σ:St}{α β γ ρ ι δ ε ζ:Type}
variable {Fd:Ends->β->Hp->Prop}[fd:FdOk Fd]{u:TS}
end
section
variable {X:Cx}
noncomputable def ipM:TIp:=λx y H Q=>∃ i j,x= .int i/\y= .int j/\Mn i j/\Q (.int (i*j)) H
theorem LF:PIp X .Mult ipM:=by
 intro pins s σ H x y v u Q I r1 r2 h
 obtain⟨i,j,e1,e2,hc,q⟩:=h
 subst e1;subst e2
 obtain⟨t,rfl⟩:=r1
 obtain⟨t',rfl⟩:=r2
 exact PySem.AutoIntOps.imul_0 ⟨.int _,H,I.tok _,⟨_,rfl⟩,q⟩ hc.ok
end
section
variable {K:PySem.W.Frag}{Er:Exc->Hp->Prop}{S:SC}{OO OO' OO1 OO2:List (List XA)}{σ:St}{α β γ ρ ι δ ε ζ:Type}
variable {Fd:Ends->β->Hp->Prop}[fd:FdOk Fd]{u:TS}
theorem IU {te:TE}{m:Rs Int}{f:Int->Rs β}{v:V}{a:Int}(i:Nat)(hσ:σ[i]?=some (some v))(h:∀x,S.p x->Xa K x v a)(he:EvB K Er S OO σ te Xa m)
  (hr:∀b v,Sv Er (S.add K Xa v b) OO (σ.set i (some v)) u Fd (f b)):Sv Er S OO σ (J9 (M4 i te ipM) u) Fd (m.bind λb=>(QP a b).bind f):=λH D w s P=>
 ⟨v,hσ,he.st w s P λb y H1 s1 w1 q1 r1 P1=>by
  cases e:QP a b with
  |bad=>rw[e] at P1;exact P1.elim
  |err x=>exact absurd e QN
  |ok c=>
   rw[e] at P1
   obtain⟨h1,h2⟩:=ZK e
   cases h2
   exact⟨a,b,h _ s,r1,h1,hr _ _ H1 D w1 ⟨q1,rfl⟩ P1⟩⟩
end
set_option maxRecDepth 100000
section
variable {prog:Program}{w:World}{A:Around}{E:Value->Shared->Prop}{s:Shared}
end
section
variable {prog:Program}{w:World}{A:Around}{R:Result->Shared->Prop}{K:Type}[DecidableEq K]{knd:KeyKind prog w K}
end
section
variable {X:Cx}
end
section
variable {X:Cx}{pins:List (Addr×Obj)}{σ:St}{H:Hp}{s:Shared}{d:Addr}{o:Obj}{kvs:List (Key×V)}
end
section
variable {X:Cx}
end
section
variable {K:PySem.W.Frag}{Er:Exc->Hp->Prop}{S:SC}{OO OO' OO2:List (List XA)}{σ:St}{α β γ ρ ι δ ε:Type}
variable {Fd:Ends->β->Hp->Prop}[fd:FdOk Fd]{u:TS}
end
section
variable {prog:Program}{w:World}{A:Around}
end
section
variable {X:Cx}
end
section
variable {K:PySem.W.Frag}{Er:Exc->Hp->Prop}{S:SC}{OO OO' OO1 OO2:List (List XA)}{σ:St}{α β γ ρ ι δ ε:Type}
variable {Fd:Ends->β->Hp->Prop}[fd:FdOk Fd]{u:TS}
end
section
variable {X:Cx}
end
section
variable {K:PySem.W.Frag}{Er:Exc->Hp->Prop}{S:SC}{OO OO' OO1 OO2:List (List XA)}{σ:St}{α β γ ρ ι δ ε:Type}
end
section
variable {K:PySem.W.Frag}{Er:Exc->Hp->Prop}{S:SC}{OO OO' OO1 OO2:List (List XA)}{σ:St}{α β γ ρ ι δ ε:Type}
variable {Fd:Ends->β->Hp->Prop}[fd:FdOk Fd]{u:TS}
end
section
variable {X:Cx}{α:Type}[DecidableEq α]{r:Enc α}{d:Nat}
end
section
variable {K:PySem.W.Frag}{Er:Exc->Hp->Prop}{S:SC}{OO OO' OO1 OO2:List (List XA)}{σ:St}{α β γ ρ ι δ ε:Type}
end
section
variable {X:Cx}{pins:List (Addr×Obj)}{σ:St}{H:Hp}{s:Shared}{h':Heap}
end
section
variable {X:Cx}{elts:List Expr}{k:Nat}{pos0:Pos}
end
section
variable {K:PySem.W.Frag}{Er:Exc->Hp->Prop}{S:SC}{OO OO' OO1 OO2:List (List XA)}{σ:St}{α β γ ρ ι δ ε:Type}
end
section
variable {X:Cx}
end
section
variable {K:PySem.W.Frag}{Er:Exc->Hp->Prop}{S:SC}{OO OO' OO1 OO2:List (List XA)}{σ:St}{α β γ ρ ι δ ε:Type}
variable {Fd:Ends->β->Hp->Prop}[fd:FdOk Fd]{u:TS}
end
section
variable {K:PySem.W.Frag}{Er:Exc->Hp->Prop}{S:SC}{OO OO' OO1 OO2:List (List XA)}{σ:St}{α β γ ρ ι δ ε:Type}{u:TS}
end
section
variable {X:Cx}
end
section
variable {K:PySem.W.Frag}{Er:Exc->Hp->Prop}{S:SC}{OO:List (List XA)}{σ:St}
end
section
variable {X:Cx}{pins:List (Addr×Obj)}{σ:St}{H:Hp}{s:Shared}{d:Addr}{o:Obj}{kvs:List (Key×V)}
end
section
variable {X:Cx}
end
section
variable {K:PySem.W.Frag}{Er:Exc->Hp->Prop}{S:SC}{OO OO' OO1 OO2 OO3:List (List XA)}{σ:St}{α β γ ρ ι δ ε ζ:Type}
variable {Fd:Ends->β->Hp->Prop}[fd:FdOk Fd]{u:TS}
end
section
variable {K:PySem.W.Frag}{Er:Exc->Hp->Prop}{S:SC}{OO OO' OO1 OO2:List (List XA)}{σ:St}{α β γ ρ ι δ ε ζ:Type}
variable {Fd:Ends->β->Hp->Prop}[fd:FdOk Fd]{u:TS}
end
section
variable {K:PySem.W.Frag}{Er:Exc->Hp->Prop}{S:SC}{OO OO' OO1 OO2:List (List XA)}{σ:St}{α β γ ρ ι δ ε ζ:Type}
variable {Fd:Ends->β->Hp->Prop}[fd:FdOk Fd]{u:TS}
end
section
variable {K:PySem.W.Frag}{Er:Exc->Hp->Prop}{S:SC}{OO OO' OO1 OO2:List (List XA)}{σ:St}{α β γ ρ ι δ ε ζ α1 α3 α4:Type}
variable {Fd:Ends->β->Hp->Prop}[fd:FdOk Fd]{u:TS}
end
end L2
namespace L2
open PySem
end L2
namespace L2
open PySem PySem.Spec PyProof.Rows
section
variable {prog:Program}{w:World}{A:Around}{E:Value->Shared->Prop}{s:Shared}{a:Addr}{ns:List Int}
end
section
variable {prog:Program}{w:World}{A:Around}{E:Value->Shared->Prop}{s:Shared}
end
section
variable {M:Model}{A:Around}{E:Value->Shared->Prop}{s:Shared}
end
section
variable {prog:Program}{w:World}{A:Around}{E:Value->Shared->Prop}{s:Shared}{a:Addr}{o:Obj}{es:Array (Int×Value)}{ep:Nat}{t:SetTable}
end
section
variable {prog:Program}{w:World}{A:Around}{E:Value->Shared->Prop}{s:Shared}{a I tp:Addr}{o:Obj}{es:Array (Int×Value)}{ep:Nat}{t:SetTable}{L:List (Int×Value)}
end
section
variable {prog:Program}{w:World}{A:Around}{E:Value->Shared->Prop}{s:Shared}{a I tp:Addr}{o:Obj}{es:Array (Int×Value)}{ep:Nat}{t:SetTable}{L:List (Int×Value)}{ns:List Int}
end
section
variable {X:Cx}
end
section
variable {K:PySem.W.Frag}{Er:Exc->Hp->Prop}{S:SC}{OO:List (List XA)}{σ:St}
variable {u:TS}{α γ ρ ι:Type}
variable {β:Type}{Fd:Ends->β->Hp->Prop}[fd:FdOk Fd]
end
section
variable {α β γ:Type}
end
section
variable {K:PySem.W.Frag}{Er:Exc->Hp->Prop}{S:SC}{OO:List (List XA)}{σ:St}{α1 α2 α3 α4 ρ:Type}{mg:Str->Option Value}{E:XK}
end
section
variable {X:Cx}{tg:Expr}
end
section
variable {K:PySem.W.Frag}{Er:Exc->Hp->Prop}{S:SC}{OO OO':List (List XA)}{σ:St}{α β γ:Type}
variable {u:TS}{Fd:Ends->β->Hp->Prop}[fd:FdOk Fd]
end
section
variable {K:PySem.W.Frag}{Er:Exc->Hp->Prop}{S:SC}{OO:List (List XA)}{σ:St}{α β γ ι:Type}{u:TS}{Fd:Ends->β->Hp->Prop}[fd:FdOk Fd]
end
section
variable {K:PySem.W.Frag}{Er:Exc->Hp->Prop}{S:SC}{OO:List (List XA)}{σ:St}{α β:Type}
end
section
variable {α:Type}[DecidableEq α]{r:Enc α}{lt:α->α->Bool}{d:Nat}
end
section
variable {α:Type}
variable {prog:Program}{w:World}{A:Around}{E:Value->Shared->Prop}{s:Shared}{κ:SortKind}{lt:α->α->Bool}{kf:Value->α}{d:α}{a0:Array Keyed}
end
section
variable {α β γ:Type}
section
variable [DecidableEq α]{lt:α->α->Bool}
end
end
section
variable {prog:Program}{w:World}{A:Around}{E:Value->Shared->Prop}{s:Shared}{α:Type}
end
section
variable {X:Cx}{γ:Type}{d:γ}{T:List (Value×V×γ)}
variable {κ:SortKind}{lt:γ->γ->Bool}{pins:List (Addr×Obj)}{σ:St}{H:Hp}
end
section
variable {X:Cx}{β:Type}[DecidableEq β]{r:Enc β}{lt:β->β->Bool}{d:Nat}
end
section
variable {X:Cx}{α:Type}
end
section
variable {K:PySem.W.Frag}{Er:Exc->Hp->Prop}{S:SC}{OO OO':List (List XA)}{σ:St}{α β γ δ:Type}
end
section
variable {K:PySem.W.Frag}{Er:Exc->Hp->Prop}{S:SC}{OO OO':List (List XA)}{σ:St}{α β:Type}{u:TS}{Fd:Ends->β->Hp->Prop}[fd:FdOk Fd]
end
section
variable {K:PySem.W.Frag}{Er:Exc->Hp->Prop}{S:SC}{OO OO':List (List XA)}{σ:St}{α1 α2 β ρ:Type}{u:TS}
end
section
variable {K:PySem.W.Frag}{Er:Exc->Hp->Prop}{S:SC}{OO OO':List (List XA)}{σ:St}{α α2 β γ ρ:Type}
variable {Fd:Ends->β->Hp->Prop}[fd:FdOk Fd]{u:TS}
end
section
variable {prog:Program}{w:World}{A:Around}{E:Value->Shared->Prop}{s:Shared}
end
section
variable {X:Cx}
end
section
variable {K:PySem.W.Frag}{Er:Exc->Hp->Prop}{S:SC}{OO OO':List (List XA)}{σ:St}{α β γ:Type}
end
section
variable {X:Cx}{α:Type}{r:Enc α}{lt:α->α->Bool}{d:Nat}
end
section
variable {K:PySem.W.Frag}{Er:Exc->Hp->Prop}{S:SC}{OO OO':List (List XA)}{σ:St}{α:Type}
end
section
variable {X:Cx}{pins:List (Addr×Obj)}{σ:St}{H:Hp}{s0:Shared}
end
section
variable {K:PySem.W.Frag}{Er:Exc->Hp->Prop}{S:SC}{OO OO':List (List XA)}{σ:St}{α β γ:Type}
end
section
variable {K:PySem.W.Frag}{Er:Exc->Hp->Prop}{S:SC}{OO:List (List XA)}{σ:St}{α1 α2 α3 α4 α5 ρ:Type}{mg:Str->Option Value}{E:XK}
end
section
variable {X:Cx}{o e:Expr}{es:List Expr}{to:TE}{t:TA}{name:Str}{apos cpos:Pos}{id:String}{r:V->List V->Hp->VK->Prop}
end
section
variable {K:PySem.W.Frag}{Er:Exc->Hp->Prop}{S:SC}{OO:List (List XA)}{σ:St}
end
section
variable {α β γ δ:Type}{K:PySem.W.Frag}{Er:Exc->Hp->Prop}{S:SC}{OO:List (List XA)}{σ:St}{Fd:Ends->β->Hp->Prop}[fd:FdOk Fd]{u:TS}
end
end L2
namespace HT
open PySem PySem.Spec PyProof PyProof.Rows
section
variable {prog:Program}{w:World}{A:Around}{E:Value->Shared->Prop}{s:Shared}
end
end HT
namespace L2
open PySem PySem.Spec PyProof.Rows
section
variable {X:Cx}{e:Expr}{te:TE}
end
section
variable {α β:Type}{K:PySem.W.Frag}{Er:Exc->Hp->Prop}{S:SC}{OO:List (List XA)}{σ:St}
end
section
variable {α β:Type}{K:PySem.W.Frag}{Er:Exc->Hp->Prop}{S:SC}{OO:List (List XA)}{σ:St}{Fd:Ends->β->Hp->Prop}[fd:FdOk Fd]{u:TS}
end
section
variable {K:PySem.W.Frag}{Er:Exc->Hp->Prop}{S:SC}{OO OO' OO2:List (List XA)}{σ:St}{α β γ ρ ι:Type}{mg:Str->Option Value}{E:XK}{u:TS}
end
section
variable {X:Cx}
end
section
variable {prog:Program}{w:World}{A:Around}{E:Value->Shared->Prop}{s:Shared}
end
section
variable {X:Cx}{o:Expr}{lo hi:Option Expr}{pos p2:Pos}{to:TE}{tl th:TO}
end
section
variable {X:Cx}{pins:List (Addr×Obj)}{σ:St}{H G:Hp}{s:Shared}{h':Heap}
end
section
variable {X:Cx}{l:Expr}{tl:TE}{pos npos apos cpos:Pos}
end
section
variable {X:Cx}
end
section
variable {K:PySem.W.Frag}{Er:Exc->Hp->Prop}{S:SC}{OO OO' OO1 OO2 OO3:List (List XA)}{σ:St}{α β γ δ ρ:Type}{u:TS}
end
section
variable {K:PySem.W.Frag}{Er:Exc->Hp->Prop}{S:SC}{OO OO' OO1 OO2 OO3:List (List XA)}{σ:St}{α β γ δ ρ ι:Type}{α1 α2 α3 α4 α5:Type}{u:TS}
variable {Fd:Ends->β->Hp->Prop}[fd:FdOk Fd]
theorem DV {te ts:TE}{r:Enc α}[z:MonoE r]{m:Rs (List α)}{ms:Rs Int}(he:EvL K Er S OO σ te r m)(hs:EvB K Er S OO σ ts Xa ms):Ev K Er S OO OO σ (Ni K te ts) (oL (oF r)) (m.bind λas=>ms.bind λk=>chk (k= -1) (.ok as.reverse)):=λH Q w s P=>
 he.run w s FO.tr P λas x H1 s1 w1 q1 ⟨p,xs,e,q,pr⟩ P1=>hs.run w1 q1 FO.tr P1 λk y H2 s2 w2 q2 r2 P2=>by
  obtain⟨hn,P3⟩:=PZ.chk P2
  exact⟨by rw[show y= .int k from r2,hn],p,xs,e,SqL.of (s2 _ _ q),Hu w2 (L2.Paired.rev' (Paired.imp2 (λ_ _ h=>z.mono (Xl s2) h) pr)) P3⟩
section
variable {o:OE ρ}{kf:Nat}{Cf:List XA}{J:Jn γ ι}
end
end
section
variable {K:PySem.W.Frag}{Er:Exc->Hp->Prop}{S:SC}{OO:List (List XA)}{σ:St}{α β γ ρ ι:Type}{u:TS}{Fd:Ends->β->Hp->Prop}[fd:FdOk Fd]
end
section
variable {K:PySem.W.Frag}{Er:Exc->Hp->Prop}{S:SC}{OO OO':List (List XA)}{σ:St}{α1 α2 α3 β ρ:Type}{u:TS}
end
end L2
namespace My
open PySem L2
noncomputable def VR (a_0:((List (List Int))×(List (Int×Int))))(a_1:Int):Rs (Int×Int):=(Rs.bind (Rs.bind (Rs.bind (Rs.ok a_0) λx1=>(Rs.ok x1.1)) λx2=>(Rs.ok (K5 x2))) λx20=>(Rs.bind (G8 x20 () (λg5 a7=>(Rs.bind (Rs.bind (Rs.ok a_1) λx9=>(Rs.bind (Rs.ok a7.2) λx10=>(Rs.ok (decide (x9∈x10))))) λx11=>(if x11=true then(Rs.bind (Rs.bind (Rs.ok a7.1) λx14=>(Rs.bind (Rs.bind (Rs.ok a7.2) λx12=>(Rs.bind (Rs.ok a_1) λx13=>(E9 x12 x13))) λx15=>(Rs.ok (x14,x15)))) λx17=>(Rs.ok (Ctl.ret x17))) else(Rs.bind (Rs.ok ()) λx16=>(Rs.ok (Ctl.nx x16))))))) (JQ λg18=>Rs.bad)))
noncomputable def XT (a_0:(List Int)):Rs Int:=(Rs.bind (Rs.bind (Rs.ok a_0) λx6=>(Ih x6 (λa4=>(Rs.bind (Rs.ok a4) λx7=>(Rs.bind (Rs.ok (0:Int)) λx8=>(Rs.ok (decide (x7<x8)))))) (λa4=>(Rs.ok a4)))) λa1=>(Rs.bind (Rs.bind (Rs.ok a1) λx10=>(Rs.ok (x10.length:Int))) λx11=>(Rs.bind (Rs.ok (1:Int)) λx12=>(Rs.ok (max x11 x12)))))
noncomputable def YE (a_0:(List Int))(a_1:Int):Rs (List Int):=(Rs.bind (Rs.bind (Rs.ok a_0) λx4=>(noE (XT x4))) λa1=>(Rs.bind (Rs.ok (0:Int)) λa5=>(Rs.bind (Rs.bind (Rs.bind (Rs.ok a_1) λx11=>(Rs.bind (Rs.ok []) λx12=>(Rs.ok (x11::x12)))) λx10=>(chk (x10.length<=sizeLine) (Rs.ok x10))) λa7=>(Rs.bind (Rs.bind (Rs.ok a_0) λx15=>(Rs.bind (Rs.ok none) λx16=>(Rs.bind (Rs.bind (Rs.bind (Rs.ok (1:Int)) λx13=>(Rs.ok (-x13))) λx14=>(Rs.ok (some x14))) λx17=>(Rs.ok (Gu x15 x16 x17))))) λx43=>(Rs.bind (forN x43 (a5,a7) (λg20 a22=>(Rs.bind (Rs.bind (Rs.bind (Rs.ok a22) λx24=>(Rs.bind (Rs.ok (0:Int)) λx25=>(Rs.ok (decide (x24<x25))))) λx26=>(if x26=true then(Rs.bind (Rs.ok (1:Int)) λx29=>((λ(a31:Int)=>(Rs.ok (a31))) (g20.1+x29))) else(Rs.ok (g20.1)))) λg33=>(Rs.bind (Rs.bind (Rs.ok a_1) λx36=>(Rs.bind (Rs.bind (Rs.ok g33) λx34=>(Rs.bind (Rs.ok a1) λx35=>(QG x34 x35))) λx37=>(Rs.ok (x36+x37)))) λa38=>(chk (g20.2.length<sizeLine) ((λa40=>(Rs.ok (g33,a40))) (g20.2++[a38]))))))) λg41=>(Rs.ok g41.2))))))
noncomputable def Ug (a_0:((List (List Int))×(List (Int×Int)))):Rs (List (List Int)):=(Rs.bind (Rs.ok []) λa1=>(Rs.bind (Rs.ok (0:Int)) λa4=>(Rs.bind (Rs.bind (Rs.ok a_0) λx6=>(Rs.ok x6.1)) λx26=>(Rs.bind (forN x26 (a4,a1) (λg9 a11=>(Rs.bind (Rs.bind (Rs.ok a11) λx14=>(Rs.bind (Rs.ok g9.1) λx15=>(noE (YE x14 x15)))) λa16=>(chk (g9.2.length<sizeLine) ((λa18=>(Rs.bind (Rs.bind (Rs.ok a11) λx20=>(noE (XT x20))) λx21=>((λ(a23:Int)=>(Rs.ok (a23,a18))) (g9.1+x21)))) (g9.2++[a16])))))) λg24=>(Rs.ok g24.2)))))
noncomputable def Zm (a_0:((List (List Int))×(List (Int×Int)))):Rs Int:=(Rs.bind (Rs.bind (Rs.bind (Rs.ok a_0) λx2=>(Rs.ok x2.1)) λx6=>(U1 x6 (λa4=>(Rs.bind (Rs.ok a4) λx8=>(noE (XT x8)))))) λx9=>(Rs.ok (x9.sum)))
noncomputable def Qj (a_0:((List (List Int))×(List (Int×Int)))):Rs (List (Int×Int×Int×Int×Int)):=(Rs.bind (Rs.bind (Rs.ok a_0) λx4=>(noE (Ug x4))) λa1=>(Rs.bind (Rs.ok []) λa5=>(Rs.bind (Rs.bind (Rs.ok a_0) λx8=>(Rs.ok x8.2)) λx64=>(Rs.bind (forN x64 (a5) (λg11 a13=>(Rs.bind (Rs.bind (Rs.ok a_0) λx18=>(Rs.bind (Rs.ok a13.1) λx19=>(noE (VR x18 x19)))) λa15=>(Rs.bind (Rs.bind (Rs.ok a_0) λx24=>(Rs.bind (Rs.bind (Rs.ok a13.1) λx23=>(Rs.ok (-x23))) λx25=>(noE (VR x24 x25)))) λa20=>(Rs.bind (Rs.bind (Rs.bind (Rs.ok a1) λx29=>(Rs.bind (Rs.bind (Rs.ok a15) λx28=>(Rs.ok x28.1)) λx30=>(atR x29 x30))) λx32=>(Rs.bind (Rs.bind (Rs.ok a15) λx31=>(Rs.ok x31.2)) λx33=>(atR x32 x33))) λa26=>(Rs.bind (Rs.bind (Rs.ok a1) λx37=>(Rs.bind (Rs.bind (Rs.ok a20) λx36=>(Rs.ok x36.1)) λx38=>(atR x37 x38))) λa34=>(Rs.bind (Rs.bind (Rs.ok a34) λx42=>(Rs.bind (Rs.bind (Rs.ok a20) λx41=>(Rs.ok x41.2)) λx43=>(atR x42 x43))) λa39=>(Rs.bind (Rs.bind (Rs.ok a34) λx52=>(Rs.bind (Rs.bind (Rs.bind (Rs.bind (Rs.ok a20) λx46=>(Rs.ok x46.2)) λx47=>(Rs.bind (Rs.ok (1:Int)) λx48=>(Rs.ok (x47+x48)))) λx50=>(Rs.bind (Rs.bind (Rs.ok a34) λx49=>(Rs.ok (x49.length:Int))) λx51=>(QG x50 x51))) λx53=>(atR x52 x53))) λa44=>(Rs.bind (Rs.bind (Rs.ok a13.1) λx54=>(Rs.bind (Rs.ok a13.2) λx55=>(Rs.bind (Rs.ok a26) λx56=>(Rs.bind (Rs.ok a39) λx57=>(Rs.bind (Rs.ok a44) λx58=>(Rs.ok (x54,x55,x56,x57,x58))))))) λa59=>(chk (g11.length<sizeLine) ((λa61=>(Rs.ok (a61))) (g11++[a59])))))))))))) λg62=>(Rs.ok g62)))))
noncomputable def Uh (a_0:((List (List Int))×(List (Int×Int)))):Rs (List (Int×Int×Int)):=(Rs.bind (Rs.ok []) λa1=>(Rs.bind (Rs.bind (Rs.ok a_0) λx5=>(noE (Qj x5))) λx26=>(Rs.bind (forN x26 (a1) (λg8 a10=>(Rs.bind (Rs.bind (Rs.bind (Rs.ok a10.2.1) λx12=>(Rs.bind (Rs.ok (1:Int)) λx13=>(Rs.ok (decide (x12=x13))))) λx20=>(if x20=true then(Rs.bind (Rs.ok a10.2.2.2.1) λx14=>(Rs.bind (Rs.ok a10.2.2.1) λx15=>(Rs.bind (Rs.ok a10.2.2.2.2) λx16=>(Rs.ok (x14,x15,x16))))) else(Rs.bind (Rs.ok a10.2.2.2.2) λx17=>(Rs.bind (Rs.ok a10.2.2.1) λx18=>(Rs.bind (Rs.ok a10.2.2.2.1) λx19=>(Rs.ok (x17,x18,x19))))))) λa21=>(chk (g8.length<sizeLine) ((λa23=>(Rs.ok (a23))) (g8++[a21])))))) λg24=>(Rs.ok g24))))
noncomputable def ZB (a_0:(List (List Int)))(a_1:(List Int))(a_2:(List (Int×Int×Int))):Rs Bool:=(Rs.bind (Rs.bind (Rs.ok a_2) λx5=>(U1 x5 (λa3=>(Rs.bind (Rs.bind (Rs.bind (Rs.ok a_0) λx8=>(Rs.bind (Rs.bind (Rs.ok a_1) λx6=>(Rs.bind (Rs.ok a3.1) λx7=>(atR x6 x7))) λx9=>(atR x8 x9))) λx12=>(Rs.bind (Rs.bind (Rs.ok a_1) λx10=>(Rs.bind (Rs.ok a3.2.1) λx11=>(atR x10 x11))) λx13=>(atR x12 x13))) λx16=>(Rs.bind (Rs.bind (Rs.ok a_1) λx14=>(Rs.bind (Rs.ok a3.2.2) λx15=>(atR x14 x15))) λx17=>(Rs.ok (decide (x16=x17)))))))) λx18=>(Rs.ok (x18.all id)))
noncomputable def Yf (a_0:Int)(a_1:Int):Rs Unit:=(Rs.bind (Rs.ok (1:Int)) λa5=>(Rs.bind (Rs.bind (Rs.ok a_1) λx7=>(JJ 0 x7)) λx22=>(Rs.bind (forN x22 (a5) (λg10 a12=>(Rs.bind (Rs.ok a_0) λx14=>(Rs.bind (QP g10 x14) λa16=>(Rs.ok (a16)))))) λg17=>(Rs.bind (Rs.bind (Rs.ok g17) λx19=>(Rs.bind (Rs.ok (65536:Int)) λx20=>(Rs.ok (decide (x20<x19))))) λx21=>(if x21=true then Rs.bad else(Rs.ok ()))))))
noncomputable def Yq (a_0:(List (List Int)))(a_1:(List (List Int)))(a_2:(List (Int×Int×Int))):Rs (List (List Int)):=(Rs.bind (Rs.ok []) λa1=>(Rs.bind (Rs.ok a_0) λx43=>(Rs.bind (forN x43 (a1) (λg6 a8=>(Rs.bind (Rs.bind (Rs.bind (Rs.ok a_1) λx10=>(Rs.ok (x10.length:Int))) λx11=>(JJ 0 x11)) λx40=>(Rs.bind (forN x40 (g6) (λg14 a16=>(Rs.bind (Rs.bind (Rs.ok a8) λx21=>(Rs.bind (Rs.bind (Rs.bind (Rs.ok a16) λx24=>(Rs.bind (Rs.ok []) λx25=>(Rs.ok (x24::x25)))) λx23=>(chk (x23.length<=sizeLine) (Rs.ok x23))) λx22=>(FR x21 x22))) λa18=>(Rs.bind (Rs.bind (Rs.bind (Rs.ok a_1) λx27=>(Rs.bind (Rs.ok a18) λx28=>(Rs.bind (Rs.ok a_2) λx29=>(noE (ZB x27 x28 x29))))) λx30=>(if x30=true then(Rs.bind (Rs.ok a18) λa33=>(chk (g14.length<sizeLine) ((λa35=>(Rs.ok (a35))) (g14++[a33])))) else(Rs.ok (g14)))) λg37=>(Rs.ok (g37)))))) λg38=>(Rs.ok (g38)))))) λg41=>(Rs.ok g41))))
noncomputable def X8 (a_0:((List (List Int))×(List (Int×Int))))(a_1:(List (List Int))):Rs (List (List Int)):=(Rs.bind (Rs.bind (Rs.ok a_0) λx4=>(noE (Zm x4))) λa1=>(Rs.bind (Rs.bind (Rs.bind (Rs.ok a_1) λx6=>(Rs.ok (x6.length:Int))) λx7=>(Rs.bind (Rs.ok a1) λx8=>(noE (Yf x7 x8)))) λx9=>(Rs.bind (Rs.bind (Rs.ok a_0) λx13=>(noE (Uh x13))) λa10=>(Rs.bind (Rs.bind (Rs.bind (Rs.ok []) λx18=>(Rs.bind (Rs.ok []) λx19=>(Rs.ok (x18::x19)))) λx17=>(chk (x17.length<=sizeLine) (Rs.ok x17))) λa14=>(Rs.bind (Rs.bind (Rs.ok a1) λx20=>(JJ 0 x20)) λx43=>(Rs.bind (forN x43 (a14) (λg23 a25=>(Rs.bind (Rs.bind (Rs.ok g23) λx38=>(Rs.bind (Rs.ok a_1) λx39=>(Rs.bind (Rs.bind (Rs.ok a10) λx34=>(Ih x34 (λa32=>(Rs.bind (Rs.bind (Rs.bind (Rs.ok a32) λx35=>(Rs.ok [x35.1,x35.2.1,x35.2.2])) MA) λx36=>(Rs.bind (Rs.ok a25) λx37=>(Rs.ok (decide (x36=x37)))))) (λa32=>(Rs.ok a32)))) λx40=>(noE (Yq x38 x39 x40))))) λa27=>(Rs.ok (a27))))) λg41=>(Rs.ok g41)))))))
noncomputable def Ua (a_0:((List (List Int))×(List (Int×Int))))(a_1:(List (List Int))):Rs Int:=(Rs.bind (Rs.bind (Rs.ok a_0) λx3=>(Rs.bind (Rs.ok a_1) λx4=>(noE (X8 x3 x4)))) λx5=>(Rs.ok (x5.length:Int)))
noncomputable def Vg (a_0:(List Int))(a_1:Int):Rs Int:=(Rs.bind (Rs.bind (Rs.ok a_1) λx2=>(Rs.bind (Rs.bind (Rs.ok a_0) λx1=>(Rs.ok (x1.length:Int))) λx3=>(Rs.ok (decide (x2<x3))))) λx4=>(if x4=true then(Rs.bind (Rs.ok a_0) λx5=>(Rs.bind (Rs.ok a_1) λx6=>(atR x5 x6))) else(Rs.bind (Rs.ok (5:Int)) λa7=>(Rs.bind (Rs.bind (Rs.ok a_0) λx10=>(Rs.bind (Rs.ok none) λx11=>(Rs.bind (Rs.bind (Rs.ok (63:Int)) λx9=>(Rs.ok (some x9))) λx12=>(Rs.ok (Gu x10 x11 x12))))) λx39=>(Rs.bind (forN x39 (a7) (λg15 a17=>(Rs.bind (Rs.bind (Rs.bind (Rs.bind (Rs.bind (Rs.ok g15) λx21=>(Rs.bind (Rs.ok (48271:Int)) λx22=>(QP x21 x22))) λx25=>(Rs.bind (Rs.bind (Rs.ok a17) λx23=>(Rs.bind (Rs.ok (1000003:Int)) λx24=>(QG x23 x24))) λx26=>(Rs.ok (x25+x26)))) λx27=>(Rs.bind (Rs.ok (1:Int)) λx28=>(Rs.ok (x27+x28)))) λx29=>(Rs.bind (Rs.ok (2147483647:Int)) λx30=>(QG x29 x30))) λa19=>(Rs.ok (a19))))) λg31=>(Rs.bind (Rs.bind (Rs.ok g31) λx35=>(Rs.bind (Rs.bind (Rs.ok (7919:Int)) λx33=>(Rs.bind (Rs.ok a_1) λx34=>(QP x33 x34))) λx36=>(Rs.ok (x35+x36)))) λx37=>(Rs.bind (Rs.ok (1000003:Int)) λx38=>(QG x37 x38))))))))
noncomputable def Gs (a_0:Int)(a_1:Int):Rs Int:=(Rs.bind (Rs.bind (Rs.bind (Rs.bind (Rs.bind (Rs.bind (Rs.ok a_0) λx3=>(Rs.bind (Rs.ok (2147483629:Int)) λx4=>(QG x3 x4))) λx7=>(Rs.bind (Rs.bind (Rs.ok (1013:Int)) λx5=>(Rs.bind (Rs.ok a_1) λx6=>(QP x5 x6))) λx8=>(Rs.ok (x7+x8)))) λx9=>(Rs.bind (Rs.ok (7919:Int)) λx10=>(Rs.ok (x9+x10)))) λx11=>(Rs.bind (Rs.ok (3:Int)) λx12=>(LR x11 x12))) λx13=>(Rs.bind (Rs.ok (2147483647:Int)) λx14=>(QG x13 x14))) λa1=>(Rs.bind (Rs.bind (Rs.bind (Rs.bind (Rs.bind (Rs.ok a1) λx17=>(Rs.bind (Rs.ok (40699:Int)) λx18=>(QP x17 x18))) λx23=>(Rs.bind (Rs.bind (Rs.bind (Rs.ok (3793:Int)) λx19=>(Rs.bind (Rs.ok a_1) λx20=>(QP x19 x20))) λx21=>(Rs.bind (Rs.ok a_1) λx22=>(QP x21 x22))) λx24=>(Rs.ok (x23+x24)))) λx25=>(Rs.bind (Rs.ok (11:Int)) λx26=>(Rs.ok (x25+x26)))) λx27=>(Rs.bind (Rs.ok (2147483399:Int)) λx28=>(QG x27 x28))) λa15=>(Rs.bind (Rs.ok a15) λx29=>(Rs.bind (Rs.ok (101:Int)) λx30=>(Lo x29 x30)))))
noncomputable def KP (a_0:(List Int))(a_1:Int)(a_2:(List Int)):Rs (List Int):=(Rs.bind (Rs.bind (Rs.ok a_0) λx4=>(Rs.bind (Rs.ok a_1) λx5=>(noE (Vg x4 x5)))) λa1=>(Rs.bind (Rs.ok a1) λa6=>(Rs.bind (Rs.ok []) λa8=>(Rs.bind (Rs.bind (Rs.bind (Rs.ok a_2) λx11=>(Rs.ok (x11.length:Int))) λx12=>(JJ 0 x12)) λx81=>(Rs.bind (forN x81 (a8,a6) (λg15 a17=>(Rs.bind (Rs.bind (Rs.bind (Rs.ok a1) λx21=>(Rs.bind (Rs.bind (Rs.ok (10:Int)) λx19=>(Rs.bind (Rs.ok (18:Int)) λx20=>(LR x19 x20))) λx22=>(Rs.ok (decide (x21<x22))))) λx23=>(if x23=true then(Rs.bind (Rs.bind (Rs.bind (Rs.ok a1) λx27=>(Rs.bind (Rs.ok a17) λx28=>(noE (Gs x27 x28)))) λx31=>(Rs.bind (Rs.bind (Rs.ok a_2) λx29=>(Rs.bind (Rs.ok a17) λx30=>(atR x29 x30))) λx32=>(QG x31 x32))) λa33=>(chk (g15.1.length<sizeLine) ((λa35=>(Rs.ok (a35,g15.2))) (g15.1++[a33])))) else(Rs.bind (Rs.bind (Rs.bind (Rs.ok g15.2) λx36=>(Rs.bind (Rs.ok (0:Int)) λx37=>(Rs.ok (decide (x37<x36))))) λx38=>(if x38=true then(Rs.bind (Rs.bind (Rs.ok g15.2) λx43=>(Rs.bind (Rs.bind (Rs.ok a_2) λx41=>(Rs.bind (Rs.ok a17) λx42=>(atR x41 x42))) λx44=>(QG x43 x44))) λa45=>(chk (g15.1.length<sizeLine) ((λa47=>(Rs.bind (Rs.bind (Rs.ok g15.2) λx52=>(Rs.bind (Rs.bind (Rs.ok a_2) λx50=>(Rs.bind (Rs.ok a17) λx51=>(atR x50 x51))) λx53=>(Lo x52 x53))) λa48=>(Rs.ok (a48,a47)))) (g15.1++[a45])))) else(Rs.bind (Rs.bind (Rs.ok a_0) λx63=>(Rs.bind (Rs.bind (Rs.bind (Rs.bind (Rs.ok a_1) λx57=>(Rs.bind (Rs.ok (1:Int)) λx58=>(Rs.ok (x57+x58)))) λx59=>(Rs.bind (Rs.ok a17) λx60=>(Rs.ok (x59+x60)))) λx61=>(Rs.bind (Rs.ok (63:Int)) λx62=>(QG x61 x62))) λx64=>(noE (Vg x63 x64)))) λa54=>(Rs.bind (Rs.bind (Rs.bind (Rs.ok a54) λx66=>(Rs.bind (Rs.ok a17) λx67=>(noE (Gs x66 x67)))) λx70=>(Rs.bind (Rs.bind (Rs.ok a_2) λx68=>(Rs.bind (Rs.ok a17) λx69=>(atR x68 x69))) λx71=>(QG x70 x71))) λa72=>(chk (g15.1.length<sizeLine) ((λa74=>(Rs.ok (g15.2,a74))) (g15.1++[a72]))))))) λg76=>(Rs.ok (g76.2,g76.1))))) λg78=>(Rs.ok (g78.1,g78.2))))) λg79=>(Rs.ok g79.1))))))
noncomputable def Jr (a_0:(List Int))(a_1:(List Int)):Rs (List Int):=(Rs.bind (Rs.bind (Rs.ok a_0) λx4=>(Rs.ok x4)) λa1=>(Rs.bind (Rs.ok []) λa5=>(Rs.bind (Rs.bind (Rs.bind (Rs.ok a_0) λx8=>(Rs.ok (x8.length:Int))) λx9=>(JJ 0 x9)) λx34=>(Rs.bind (forN x34 (a5,a1) (λg12 a14=>(Rs.bind (Rs.bind (Rs.bind (Rs.ok a_1) λx20=>(Rs.bind (Rs.bind (Rs.bind (Rs.ok (8:Int)) λx16=>(Rs.bind (Rs.ok a14) λx17=>(QP x16 x17))) λx18=>(Rs.bind (Rs.ok (9:Int)) λx19=>(Rs.ok (x18+x19)))) λx21=>(atR x20 x21))) λx23=>(Rs.bind (Rs.bind (Rs.ok g12.2) λx22=>(Rs.ok (x22.length:Int))) λx24=>(QG x23 x24))) λx30=>(Rs.bind (Dx g12.2 x30) λp31=>(chk (g12.1.length<sizeLine) ((λa26 a27=>(Rs.ok (a27,a26))) p31.2 (g12.1++[p31.1]))))))) λg32=>(Rs.ok g32.1)))))
noncomputable def F6 (a_0:(List Int))(a_1:(List Int))(a_2:Int):Rs (List (List Int)):=(Rs.bind (Rs.ok []) λa1=>(Rs.bind (Rs.ok a_0) λx70=>(Rs.bind (forN x70 (a1) (λg6 a8=>(Rs.bind (Rs.bind (Rs.bind (Rs.ok a8) λx14=>(Rs.bind (Rs.bind (Rs.bind (Rs.ok a8) λx11=>(Rs.ok (-x11))) λx12=>(Rs.bind (Rs.ok []) λx13=>(Rs.ok (x12::x13)))) λx15=>(Rs.ok (x14::x15)))) λx10=>(chk (x10.length<=sizeLine) (Rs.ok x10))) λa16=>(chk (g6.length+a16.length<=sizeLine) ((λa18=>(Rs.ok (a18))) (g6++a16)))))) λg19=>(Rs.bind (Rs.bind (Rs.bind (Rs.ok a_2) λx24=>(JJ 0 x24)) λx28=>(U1 x28 (λa26=>(Rs.ok [])))) λa21=>(Rs.bind (Rs.bind (Rs.bind (Rs.ok (2:Int)) λx30=>(Rs.bind (Rs.bind (Rs.ok a_0) λx29=>(Rs.ok (x29.length:Int))) λx31=>(QP x30 x31))) λx32=>(JJ 0 x32)) λx69=>(Rs.bind (forN x69 (g19,a21) (λg35 a37=>(Rs.bind (Rs.bind (Rs.bind (Rs.ok (4:Int)) λx41=>(Rs.bind (Rs.ok a37) λx42=>(QP x41 x42))) λx43=>(Rs.bind (Rs.ok (5:Int)) λx44=>(Rs.ok (x43+x44)))) λa39=>(Rs.bind (Rs.bind (Rs.bind (Rs.ok a_1) λx45=>(Rs.bind (Rs.ok a39) λx46=>(atR x45 x46))) λx48=>(Rs.bind (Rs.bind (Rs.ok g35.1) λx47=>(Rs.ok (x47.length:Int))) λx49=>(QG x48 x49))) λx54=>(Rs.bind (Dx g35.1 x54) (λp55=>(λa50 a51=>(Rs.bind (Rs.bind (Rs.bind (Rs.ok a_1) λx58=>(Rs.bind (Rs.bind (Rs.ok a39) λx56=>(Rs.bind (Rs.ok (1:Int)) λx57=>(Rs.ok (x56+x57)))) λx59=>(atR x58 x59))) λx60=>(Rs.bind (Rs.ok a_2) λx61=>(QG x60 x61))) λx63=>(Rs.bind (atR g35.2 x63) λx64=>(Rs.bind (Rs.ok a50) λx62=>(chk (x64.length<sizeLine) (Rs.bind (Jq g35.2 x63 (x64++[x62])) λa65=>(Rs.ok (a51,a65)))))))) p55.1 p55.2)))))) λg67=>(Rs.ok g67.2)))))))
noncomputable def Z4 (a_0:(List Int))(a_1:(List (Int×Int)))(a_2:(List Int))(a_3:Int):Rs (List (List Int)):=(Rs.bind (Rs.bind (Rs.bind (Rs.bind (Rs.ok false) λx7=>(Rs.bind (Rs.ok []) λx8=>(Rs.ok (x7::x8)))) λx6=>(chk (x6.length<=sizeLine) (Rs.ok x6))) λx4=>(Rs.bind (Rs.ok a_3) λx5=>(DE x4 x5))) λa1=>(Rs.bind (Rs.ok []) λa9=>(Rs.bind (Rs.bind (Rs.ok a_3) λx12=>(JJ 0 x12)) λx118=>(Rs.bind (forN x118 (a1,a9) (λg15 a17=>(Rs.bind (Rs.bind (Rs.bind (Rs.bind (Rs.ok g15.1) λx19=>(Rs.bind (Rs.ok a17) λx20=>(atR x19 x20))) λx21=>(Rs.ok (!x21))) λx22=>(if x22=true then(Rs.bind (Rs.ok []) λa25=>(Rs.bind (Rs.ok a17) λa28=>(Rs.bind (QK (a_3.natAbs+2) (g15.1,a28,a25) (λg32=>(Rs.bind (Rs.bind (Rs.ok g32.1) λx34=>(Rs.bind (Rs.ok g32.2.1) λx35=>(atR x34 x35))) λx36=>(Rs.ok (!x36)))) (λg32=>(Rs.bind (Rs.ok true) λx37=>(Rs.bind (Rs.ok g32.2.1) λx38=>(Rs.bind (Jq g32.1 x38 x37) λa39=>(Rs.bind (Rs.bind (Rs.bind (Rs.ok a_0) λx41=>(Rs.ok (x41.length:Int))) λx42=>(JJ 0 x42)) λx108=>(Rs.bind (forN x108 (g32.2.1,g32.2.2) (λg45 a47=>(Rs.bind (Rs.bind (Rs.bind (Rs.ok a_2) λx55=>(Rs.bind (Rs.bind (Rs.bind (Rs.ok (8:Int)) λx51=>(Rs.bind (Rs.ok a47) λx52=>(QP x51 x52))) λx53=>(Rs.bind (Rs.ok (10:Int)) λx54=>(Rs.ok (x53+x54)))) λx56=>(atR x55 x56))) λx59=>(Rs.bind (Rs.bind (Rs.ok a_3) λx57=>(Rs.bind (Rs.ok (1:Int)) λx58=>(Rs.ok (x57-x58)))) λx60=>(QG x59 x60))) λa49=>(Rs.bind (Rs.bind (Rs.bind (Rs.ok g45.1) λx61=>(Rs.bind (Rs.ok a49) λx62=>(Rs.ok (decide (x61=x62))))) λx63=>(if x63=true then(Rs.bind (Rs.bind (Rs.bind (Rs.ok a_0) λx66=>(Rs.bind (Rs.ok a47) λx67=>(atR x66 x67))) λx72=>(Rs.bind (Rs.bind (Rs.ok a_1) λx70=>(Rs.bind (Rs.bind (Rs.ok a_0) λx68=>(Rs.bind (Rs.ok a47) λx69=>(atR x68 x69))) λx71=>(VY x70 x71))) λx73=>(QP x72 x73))) λa74=>(chk (g45.2.length<sizeLine) ((λa76=>(Rs.bind (Rs.bind (Rs.ok a49) λx79=>(Rs.bind (Rs.ok (1:Int)) λx80=>(Rs.ok (x79+x80)))) λa77=>(Rs.ok (a77,a76)))) (g45.2++[a74])))) else(Rs.bind (Rs.bind (Rs.bind (Rs.ok g45.1) λx83=>(Rs.bind (Rs.bind (Rs.ok a49) λx81=>(Rs.bind (Rs.ok (1:Int)) λx82=>(Rs.ok (x81+x82)))) λx84=>(Rs.ok (decide (x83=x84))))) λx85=>(if x85=true then(Rs.bind (Rs.bind (Rs.bind (Rs.bind (Rs.ok a_0) λx88=>(Rs.bind (Rs.ok a47) λx89=>(atR x88 x89))) λx90=>(Rs.ok (-x90))) λx95=>(Rs.bind (Rs.bind (Rs.ok a_1) λx93=>(Rs.bind (Rs.bind (Rs.ok a_0) λx91=>(Rs.bind (Rs.ok a47) λx92=>(atR x91 x92))) λx94=>(VY x93 x94))) λx96=>(QP x95 x96))) λa97=>(chk (g45.2.length<sizeLine) ((λa99=>(Rs.bind (Rs.ok a49) λa100=>(Rs.ok (a100,a99)))) (g45.2++[a97])))) else(Rs.ok (g45.1,g45.2)))) λg103=>(Rs.ok (g103.1,g103.2))))) λg105=>(Rs.ok (g105.1,g105.2)))))) λg106=>(Rs.ok (a39,g106.1,g106.2))))))))) λg109=>(Rs.bind (Rs.ok g109.2.2) λa111=>(chk (g15.2.length<sizeLine) ((λa113=>(Rs.ok (g109.1,a113))) (g15.2++[a111]))))))) else(Rs.ok (g15.1,g15.2)))) λg115=>(Rs.ok (g115.1,g115.2))))) λg116=>(Rs.ok g116.2)))))
noncomputable def Qq (a_0:(List Int))(a_1:Int)(a_2:Int):Rs ((List (List Int))×(List (Int×Int))):=(Rs.bind (Rs.bind (Rs.bind (Rs.bind (Rs.ok a_2) λx4=>(Rs.bind (Rs.ok (1:Int)) λx5=>(Rs.ok (x4+x5)))) λx14=>(Rs.bind (Rs.bind (Rs.ok (5:Int)) λx12=>(Rs.bind (Rs.bind (Rs.ok (4:Int)) λx10=>(Rs.bind (Rs.bind (Rs.ok (3:Int)) λx8=>(Rs.bind (Rs.bind (Rs.ok (3:Int)) λx6=>(Rs.bind (Rs.ok []) λx7=>(Rs.ok (x6::x7)))) λx9=>(Rs.ok (x8::x9)))) λx11=>(Rs.ok (x10::x11)))) λx13=>(Rs.ok (x12::x13)))) λx15=>(Rs.ok (x14::x15)))) λx3=>(chk (x3.length<=sizeLine) (Rs.ok x3))) λa1=>(Rs.bind (Rs.bind (Rs.ok a_0) λx34=>(Rs.bind (Rs.ok a_1) λx35=>(Rs.bind (Rs.bind (Rs.ok a1) λx19=>(Rs.bind (Rs.bind (Rs.bind (Rs.bind (Rs.ok (80:Int)) λx30=>(Rs.bind (Rs.bind (Rs.ok (5:Int)) λx28=>(Rs.bind (Rs.bind (Rs.ok (2:Int)) λx26=>(Rs.bind (Rs.bind (Rs.ok (3:Int)) λx24=>(Rs.bind (Rs.ok []) λx25=>(Rs.ok (x24::x25)))) λx27=>(Rs.ok (x26::x27)))) λx29=>(Rs.ok (x28::x29)))) λx31=>(Rs.ok (x30::x31)))) λx23=>(chk (x23.length<=sizeLine) (Rs.ok x23))) λx21=>(Rs.bind (Rs.bind (Rs.ok (2:Int)) λx32=>(Rs.bind (Rs.ok a_2) λx33=>(QP x32 x33))) λx22=>(DE x21 x22))) λx20=>(FR x19 x20))) λx36=>(noE (KP x34 x35 x36))))) λa16=>(Rs.bind (Rs.ok []) λa37=>(Rs.bind (Rs.ok []) λa40=>(Rs.bind (Rs.ok (0:Int)) λa43=>(Rs.bind (Rs.bind (Rs.bind (Rs.ok a16) λx45=>(Rs.bind (Rs.ok (0:Int)) λx46=>(atR x45 x46))) λx47=>(JJ 0 x47)) λx152=>(Rs.bind (forN x152 (a43,a40,a37) (λg50 a52=>(Rs.bind (Rs.bind (Rs.bind (Rs.ok a16) λx60=>(Rs.bind (Rs.bind (Rs.bind (Rs.ok (8:Int)) λx56=>(Rs.bind (Rs.ok a52) λx57=>(QP x56 x57))) λx58=>(Rs.bind (Rs.ok (8:Int)) λx59=>(Rs.ok (x58+x59)))) λx61=>(atR x60 x61))) λx75=>(Rs.bind (Rs.bind (Rs.bind (Rs.bind (Rs.ok (0:Int)) λx69=>(Rs.bind (Rs.bind (Rs.ok (1:Int)) λx67=>(Rs.bind (Rs.bind (Rs.bind (Rs.ok (10:Int)) λx63=>(Rs.bind (Rs.ok (9:Int)) λx64=>(LR x63 x64))) λx65=>(Rs.bind (Rs.ok []) λx66=>(Rs.ok (x65::x66)))) λx68=>(Rs.ok (x67::x68)))) λx70=>(Rs.ok (x69::x70)))) λx62=>(chk (x62.length<=sizeLine) (Rs.ok x62))) λx73=>(Rs.bind (Rs.bind (Rs.ok a16) λx71=>(Rs.bind (Rs.ok (3:Int)) λx72=>(atR x71 x72))) λx74=>(atR x73 x74))) λx76=>(QP x75 x76))) λa54=>(Rs.bind (Rs.bind (Rs.bind (Rs.ok g50.1) λx79=>(Rs.bind (Rs.ok (1:Int)) λx80=>(Rs.ok (x79+x80)))) λx81=>(Rs.bind (Rs.ok a54) λx82=>(Rs.ok (x81+x82)))) λa77=>(Rs.bind (Rs.ok a77) λa83=>(chk (g50.2.2.length<sizeLine) ((λa85=>(Rs.bind (Rs.bind (Rs.bind (Rs.ok (2:Int)) λx92=>(Rs.bind (Rs.bind (Rs.ok a16) λx90=>(Rs.bind (Rs.bind (Rs.bind (Rs.ok (8:Int)) λx86=>(Rs.bind (Rs.ok a52) λx87=>(QP x86 x87))) λx88=>(Rs.bind (Rs.ok (7:Int)) λx89=>(Rs.ok (x88+x89)))) λx91=>(atR x90 x91))) λx93=>(QP x92 x93))) λx94=>(Rs.bind (Rs.ok (1:Int)) λx95=>(Rs.ok (x94-x95)))) λx96=>(Rs.bind (Rs.ok a77) λx97=>(chk (g50.2.1.length<sizeLine) ((λa98=>(Rs.ok (a77,a98,a85))) (GJ g50.2.1 x97 x96)))))) (g50.2.2++[a83])))))))) λg100=>(Rs.bind (Rs.bind (Rs.bind (Rs.bind (Rs.ok a16) λx102=>(Rs.bind (Rs.ok (2:Int)) λx103=>(atR x102 x103))) λx104=>(Rs.bind (Rs.ok (2:Int)) λx105=>(Rs.ok (decide (x104<x105))))) λx106=>(if x106=true then(Rs.bind (Rs.bind (Rs.bind (Rs.ok g100.2.2) λx114=>(Rs.bind (Rs.ok a16) λx115=>(noE (Jr x114 x115)))) λx120=>(Rs.bind (Rs.ok g100.2.1) λx121=>(Rs.bind (Rs.ok a16) λx122=>(Rs.bind (Rs.bind (Rs.ok (2:Int)) λx118=>(Rs.bind (Rs.bind (Rs.ok a16) λx116=>(Rs.bind (Rs.ok (4:Int)) λx117=>(atR x116 x117))) λx119=>(Rs.ok (x118+x119)))) λx123=>(noE (Z4 x120 x121 x122 x123)))))) λa109=>(Rs.ok (a109))) else(Rs.bind (Rs.bind (Rs.bind (Rs.ok a16) λx126=>(Rs.bind (Rs.ok (1:Int)) λx127=>(atR x126 x127))) λx131=>(Rs.bind (Rs.bind (Rs.bind (Rs.ok g100.2.2) λx128=>(Rs.ok (x128.length:Int))) λx129=>(Rs.bind (Rs.ok (1:Int)) λx130=>(Rs.ok (min x129 x130)))) λx132=>(Rs.ok (max x131 x132)))) λa124=>(Rs.bind (Rs.bind (Rs.ok g100.2.2) λx137=>(Rs.bind (Rs.ok a16) λx138=>(Rs.bind (Rs.ok a124) λx139=>(noE (F6 x137 x138 x139))))) λa133=>(Rs.ok (a133)))))) λg141=>(Rs.bind (Rs.ok g141) λx150=>(Rs.bind (Rs.bind (Rs.ok g100.2.2) λx145=>(U1 x145 (λa143=>(Rs.bind (Rs.ok a143) λx148=>(Rs.bind (Rs.bind (Rs.ok g100.2.1) λx146=>(Rs.bind (Rs.ok a143) λx147=>(VY x146 x147))) λx149=>(Rs.ok (x148,x149))))))) λx151=>(Rs.ok (x150,x151))))))))))))
noncomputable def Ui (a_0:((List (List Int))×(List (Int×Int)))):Rs ((List (List Int))×(List (Int×Int))):=(Rs.bind (Rs.bind (Rs.bind (Rs.ok a_0) λx1=>(Rs.ok x1.1)) λx5=>(U1 x5 (λa3=>(Rs.bind (Rs.ok a3) λx6=>(Rs.ok x6))))) λx9=>(Rs.bind (Rs.bind (Rs.bind (Rs.ok a_0) λx8=>(Rs.ok x8.2)) λx7=>(Rs.ok x7)) λx10=>(Rs.ok (x9,x10))))
noncomputable def QC (a_0:Int):Rs Bool:=(U2 (Rs.bind (Rs.ok a_0) λx1=>(Rs.ok true)) (Rs.bind (Rs.bind (Rs.ok a_0) λx2=>(Rs.ok false)) λx3=>(Rs.ok (!x3))))
noncomputable def Zj (a_0:(List Int)):Rs Bool:=(Rs.bind (Rs.bind (Rs.bind (Rs.ok a_0) λx1=>(Rs.ok true)) λx2=>(Rs.ok (!x2))) λx3=>(if x3=true then(Rs.ok false) else(Rs.bind (Rs.ok a_0) λx18=>(Rs.bind (G8 x18 () (λg6 a8=>(Rs.bind (Rs.bind (Rs.bind (Rs.ok a8) λx11=>(noE (QC x11))) λx12=>(Rs.ok (!x12))) λx13=>(if x13=true then(Rs.bind (Rs.ok false) λx15=>(Rs.ok (Ctl.ret x15))) else(Rs.bind (Rs.ok ()) λx14=>(Rs.ok (Ctl.nx x14))))))) (JQ λg16=>(Rs.ok true))))))
noncomputable def ZI (a_0:Int)(a_1:Int)(a_2:Int)(a_3:Int)(a_4:Int):Rs Int:=(Rs.bind (Rs.bind (Rs.ok a_1) λx3=>(Rs.bind (Rs.ok (2:Int)) λx4=>(Lo x3 x4))) λa1=>(Rs.bind (Rs.bind (Rs.ok a_0) λx5=>(Rs.bind (Rs.ok (1:Int)) λx6=>(Rs.ok (decide (x5=x6))))) λx7=>(if x7=true then(Rs.bind (Rs.bind (Rs.bind (Rs.ok (2:Int)) λx8=>(Rs.bind (Rs.ok a_4) λx9=>(QP x8 x9))) λx10=>(Rs.bind (Rs.ok a_3) λx11=>(Rs.ok (x10-x11)))) λx12=>(Rs.bind (Rs.ok a_1) λx13=>(QG x12 x13))) else(Rs.bind (Rs.bind (Rs.ok a_0) λx14=>(Rs.bind (Rs.ok (2:Int)) λx15=>(Rs.ok (decide (x14=x15))))) λx16=>(if x16=true then(Rs.bind (Rs.bind (Rs.bind (Rs.ok a_2) λx17=>(Rs.bind (Rs.ok a_3) λx18=>(QP x17 x18))) λx23=>(Rs.bind (Rs.bind (Rs.bind (Rs.ok (1:Int)) λx19=>(Rs.bind (Rs.ok a_2) λx20=>(Rs.ok (x19-x20)))) λx21=>(Rs.bind (Rs.ok a_4) λx22=>(QP x21 x22))) λx24=>(Rs.ok (x23+x24)))) λx25=>(Rs.bind (Rs.ok a_1) λx26=>(QG x25 x26))) else(Rs.bind (U2 (Rs.bind (Rs.ok a_0) λx27=>(Rs.bind (Rs.ok (3:Int)) λx28=>(Rs.ok (decide (x27=x28))))) (U2 (Rs.bind (Rs.ok a_1) λx29=>(Rs.bind (Rs.ok (2:Int)) λx30=>(Rs.ok (decide (x30<x29))))) (U2 (Rs.bind (Rs.ok a_3) λx31=>(Rs.bind (Rs.ok (2:Int)) λx32=>(Rs.ok (decide (x31<x32))))) (Rs.bind (Rs.ok a_4) λx35=>(Rs.bind (Rs.bind (Rs.ok a_1) λx33=>(Rs.bind (Rs.ok (1:Int)) λx34=>(Rs.ok (x33-x34)))) λx36=>(Rs.ok (decide (x35=x36)))))))) λx37=>(if x37=true then(Rs.bind (Rs.ok (1:Int)) λx38=>(Rs.bind (Rs.ok a_3) λx39=>(Rs.ok (x38-x39)))) else(Rs.bind (U2 (Rs.bind (Rs.ok a_0) λx40=>(Rs.bind (Rs.ok (6:Int)) λx41=>(Rs.ok (decide (x40=x41))))) (U2 (Rs.bind (Rs.ok a_3) λx44=>(Rs.bind (Rs.bind (Rs.ok a_1) λx42=>(Rs.bind (Rs.ok (1:Int)) λx43=>(Rs.ok (x42-x43)))) λx45=>(Rs.ok (decide (x44<x45))))) (Rs.bind (Rs.ok a_4) λx48=>(Rs.bind (Rs.bind (Rs.ok a_1) λx46=>(Rs.bind (Rs.ok (1:Int)) λx47=>(Rs.ok (x46-x47)))) λx49=>(Rs.ok (decide (x48=x49))))))) λx50=>(if x50=true then(Rs.bind (Rs.bind (Rs.ok a_3) λx51=>(Rs.bind (Rs.ok (1:Int)) λx52=>(Rs.ok (x51+x52)))) λx55=>(Rs.bind (Rs.bind (Rs.ok a_1) λx53=>(Rs.bind (Rs.ok (1:Int)) λx54=>(Rs.ok (x53-x54)))) λx56=>(QG x55 x56))) else(Rs.bind (U2 (Rs.bind (Rs.ok a_0) λx57=>(Rs.bind (Rs.ok (4:Int)) λx58=>(Rs.ok (decide (x57=x58))))) (U2 (Rs.bind (Rs.ok a_3) λx59=>(Rs.bind (Rs.ok a1) λx60=>(Rs.ok (decide (x59<x60))))) (Rs.bind (Rs.ok a_4) λx61=>(Rs.bind (Rs.ok a1) λx62=>(Rs.ok (decide (x61<x62))))))) λx63=>(if x63=true then(Rs.bind (Rs.bind (Rs.bind (Rs.ok (2:Int)) λx64=>(Rs.bind (Rs.ok a_4) λx65=>(QP x64 x65))) λx66=>(Rs.bind (Rs.ok a_3) λx67=>(Rs.ok (x66-x67)))) λx68=>(Rs.bind (Rs.ok a1) λx69=>(QG x68 x69))) else(Rs.bind (U2 (Rs.bind (Rs.ok a_0) λx70=>(Rs.bind (Rs.ok (4:Int)) λx71=>(Rs.ok (decide (x70=x71))))) (U2 (Rs.bind (Rs.ok a_3) λx72=>(Rs.bind (Rs.ok a1) λx73=>(Rs.ok (decide (x73<=x72))))) (Rs.bind (Rs.ok a_4) λx74=>(Rs.bind (Rs.ok a1) λx75=>(Rs.ok (decide (x75<=x74))))))) λx76=>(if x76=true then(Rs.bind (Rs.ok a1) λx87=>(Rs.bind (Rs.bind (Rs.bind (Rs.bind (Rs.bind (Rs.ok (2:Int)) λx77=>(Rs.bind (Rs.ok a_4) λx78=>(QP x77 x78))) λx79=>(Rs.bind (Rs.ok a_3) λx80=>(Rs.ok (x79-x80)))) λx81=>(Rs.bind (Rs.ok a1) λx82=>(Rs.ok (x81-x82)))) λx85=>(Rs.bind (Rs.bind (Rs.ok a_1) λx83=>(Rs.bind (Rs.ok a1) λx84=>(Rs.ok (x83-x84)))) λx86=>(QG x85 x86))) λx88=>(Rs.ok (x87+x88)))) else(Rs.ok a_3))))))))))))))
noncomputable def QA (a_0:Int)(a_1:Int):Rs Int:=(Rs.bind (Rs.bind (Rs.ok a_0) λx1=>(Rs.ok (x1.natAbs:Int))) λa3=>(Rs.bind (Rs.bind (Rs.ok a_1) λx2=>(Rs.ok (x2.natAbs:Int))) λa4=>(Rs.bind (QK (a3.natAbs+a4.natAbs+2) (a3,a4) (λg9=>(Rs.bind (Rs.ok g9.2) λx11=>(Rs.bind (Rs.ok (0:Int)) λx12=>(Rs.ok (decide (x12<x11)))))) (λg9=>(Rs.bind (Rs.ok g9.2) λa15=>(Rs.bind (Rs.bind (Rs.ok g9.1) λx13=>(Rs.bind (Rs.ok g9.2) λx14=>(QG x13 x14))) λa16=>(Rs.ok (a15,a16)))))) λg19=>(Rs.ok g19.1))))
noncomputable def Uk (a_0:Int)(a_1:Int)(a_2:Int):Rs (List (List Int)):=(Rs.bind (U2 (Rs.bind (Rs.ok a_0) λx1=>(Rs.bind (Rs.ok (5:Int)) λx2=>(Rs.ok (decide (x1=x2))))) (Rs.bind (Rs.ok a_1) λx3=>(Rs.bind (Rs.ok (4:Int)) λx4=>(Rs.ok (decide (x3=x4)))))) λx5=>(if x5=true then(Rs.bind (Rs.bind (Rs.bind (Rs.bind (Rs.ok (0:Int)) λx14=>(Rs.bind (Rs.bind (Rs.ok (3:Int)) λx12=>(Rs.bind (Rs.bind (Rs.ok (1:Int)) λx10=>(Rs.bind (Rs.bind (Rs.ok (2:Int)) λx8=>(Rs.bind (Rs.ok []) λx9=>(Rs.ok (x8::x9)))) λx11=>(Rs.ok (x10::x11)))) λx13=>(Rs.ok (x12::x13)))) λx15=>(Rs.ok (x14::x15)))) λx7=>(chk (x7.length<=sizeLine) (Rs.ok x7))) λx49=>(Rs.bind (Rs.bind (Rs.bind (Rs.bind (Rs.ok (2:Int)) λx23=>(Rs.bind (Rs.bind (Rs.ok (1:Int)) λx21=>(Rs.bind (Rs.bind (Rs.ok (3:Int)) λx19=>(Rs.bind (Rs.bind (Rs.ok (0:Int)) λx17=>(Rs.bind (Rs.ok []) λx18=>(Rs.ok (x17::x18)))) λx20=>(Rs.ok (x19::x20)))) λx22=>(Rs.ok (x21::x22)))) λx24=>(Rs.ok (x23::x24)))) λx16=>(chk (x16.length<=sizeLine) (Rs.ok x16))) λx47=>(Rs.bind (Rs.bind (Rs.bind (Rs.bind (Rs.ok (3:Int)) λx32=>(Rs.bind (Rs.bind (Rs.ok (0:Int)) λx30=>(Rs.bind (Rs.bind (Rs.ok (2:Int)) λx28=>(Rs.bind (Rs.bind (Rs.ok (1:Int)) λx26=>(Rs.bind (Rs.ok []) λx27=>(Rs.ok (x26::x27)))) λx29=>(Rs.ok (x28::x29)))) λx31=>(Rs.ok (x30::x31)))) λx33=>(Rs.ok (x32::x33)))) λx25=>(chk (x25.length<=sizeLine) (Rs.ok x25))) λx45=>(Rs.bind (Rs.bind (Rs.bind (Rs.bind (Rs.ok (1:Int)) λx41=>(Rs.bind (Rs.bind (Rs.ok (2:Int)) λx39=>(Rs.bind (Rs.bind (Rs.ok (0:Int)) λx37=>(Rs.bind (Rs.bind (Rs.ok (3:Int)) λx35=>(Rs.bind (Rs.ok []) λx36=>(Rs.ok (x35::x36)))) λx38=>(Rs.ok (x37::x38)))) λx40=>(Rs.ok (x39::x40)))) λx42=>(Rs.ok (x41::x42)))) λx34=>(chk (x34.length<=sizeLine) (Rs.ok x34))) λx43=>(Rs.bind (Rs.ok []) λx44=>(Rs.ok (x43::x44)))) λx46=>(Rs.ok (x45::x46)))) λx48=>(Rs.ok (x47::x48)))) λx50=>(Rs.ok (x49::x50)))) λx6=>(chk (x6.length<=sizeLine) (Rs.ok x6))) else(Rs.bind (QK (a_1.natAbs+2) (a_2) (λg53=>(Rs.bind (Rs.bind (Rs.ok g53) λx56=>(Rs.bind (Rs.ok a_1) λx57=>(noE (QA x56 x57)))) λx58=>(Rs.bind (Rs.ok (1:Int)) λx59=>(Rs.ok (!(decide (x58=x59))))))) (λg53=>(Rs.bind (Rs.bind (Rs.ok g53) λx62=>(Rs.bind (Rs.ok (1:Int)) λx63=>(Rs.ok (x62+x63)))) λa60=>(Rs.ok (a60))))) λg64=>(Rs.bind (Rs.ok []) λa66=>(Rs.bind (Rs.bind (Rs.ok a_1) λx69=>(JJ 0 x69)) λx92=>(Rs.bind (forN x92 (a66) (λg72 a74=>(Rs.bind (Rs.bind (Rs.bind (Rs.ok a_1) λx76=>(JJ 0 x76)) λx80=>(U1 x80 (λa78=>(Rs.bind (Rs.ok a_0) λx82=>(Rs.bind (Rs.ok a_1) λx83=>(Rs.bind (Rs.ok g64) λx84=>(Rs.bind (Rs.ok a74) λx85=>(Rs.bind (Rs.ok a78) λx86=>(noE (ZI x82 x83 x84 x85 x86)))))))))) λa87=>(chk (g72.length<sizeLine) ((λa89=>(Rs.ok (a89))) (g72++[a87])))))) λg90=>(Rs.ok g90)))))))
noncomputable def ZY (a_0:(List Int))(a_1:Int):Rs (List Int):=(Rs.bind (Rs.bind (Rs.ok a_1) λx4=>(chk (0<=x4/\x4<=1000) (Rs.ok (Qs 0 x4)))) λa1=>(Rs.bind (Rs.ok []) λa5=>(Rs.bind (Rs.bind (Rs.ok a_1) λx8=>(JJ 0 x8)) λx29=>(Rs.bind (forN x29 (a5,a1) (λg11 a13=>(Rs.bind (Rs.bind (Rs.bind (Rs.ok a_0) λx15=>(Rs.bind (Rs.ok a13) λx16=>(atR x15 x16))) λx18=>(Rs.bind (Rs.bind (Rs.ok g11.2) λx17=>(Rs.ok (x17.length:Int))) λx19=>(QG x18 x19))) λx25=>(Rs.bind (Dx g11.2 x25) λp26=>(chk (g11.1.length<sizeLine) ((λa21 a22=>(Rs.ok (a22,a21))) p26.2 (g11.1++[p26.1]))))))) λg27=>(Rs.ok g27.1)))))
noncomputable def QF (a_0:(List (List Int)))(a_1:(List Int)):Rs (List (List Int)):=(Rs.bind (Rs.bind (Rs.ok a_0) λx7=>(U1 x7 (λa5=>(Rs.bind (Rs.ok a5) λx8=>(Rs.ok x8))))) λa1=>(Rs.bind (Rs.bind (Rs.bind (Rs.ok a_0) λx9=>(Rs.ok (x9.length:Int))) λx10=>(JJ 0 x10)) λx47=>(Rs.bind (forN x47 (a1) (λg13 a15=>(Rs.bind (Rs.bind (Rs.bind (Rs.ok a_0) λx17=>(Rs.ok (x17.length:Int))) λx18=>(JJ 0 x18)) λx44=>(Rs.bind (forN x44 (g13) (λg21 a23=>(Rs.bind (Rs.bind (Rs.ok a_1) λx29=>(Rs.bind (Rs.bind (Rs.bind (Rs.ok a_0) λx25=>(Rs.bind (Rs.ok a15) λx26=>(atR x25 x26))) λx27=>(Rs.bind (Rs.ok a23) λx28=>(atR x27 x28))) λx30=>(atR x29 x30))) λx35=>(Rs.bind (Rs.bind (Rs.ok a_1) λx31=>(Rs.bind (Rs.ok a15) λx32=>(atR x31 x32))) λx36=>(Rs.bind (atR g21 x36) λx40=>(Rs.bind (Rs.bind (Rs.ok a_1) λx33=>(Rs.bind (Rs.ok a23) λx34=>(atR x33 x34))) λx37=>(Rs.bind (Jq x40 x37 x35) λx41=>(Rs.bind (Jq g21 x36 x41) λa38=>(Rs.ok (a38)))))))))) λg42=>(Rs.ok (g42)))))) λg45=>(Rs.ok g45))))
noncomputable def Y5 (a_0:(List Int))(a_1:Int)(a_2:Int):Rs (List (List Int)):=(Rs.bind (Rs.bind (Rs.ok a_0) λx22=>(Rs.bind (Rs.ok a_1) λx23=>(Rs.bind (Rs.bind (Rs.bind (Rs.bind (Rs.ok (7:Int)) λx15=>(Rs.bind (Rs.bind (Rs.ok (24:Int)) λx13=>(Rs.bind (Rs.bind (Rs.ok (6:Int)) λx11=>(Rs.bind (Rs.bind (Rs.ok (2:Int)) λx9=>(Rs.bind (Rs.bind (Rs.ok (6:Int)) λx7=>(Rs.bind (Rs.ok []) λx8=>(Rs.ok (x7::x8)))) λx10=>(Rs.ok (x9::x10)))) λx12=>(Rs.ok (x11::x12)))) λx14=>(Rs.ok (x13::x14)))) λx16=>(Rs.ok (x15::x16)))) λx6=>(chk (x6.length<=sizeLine) (Rs.ok x6))) λx4=>(Rs.bind (Rs.bind (Rs.bind (Rs.bind (Rs.ok (24:Int)) λx20=>(Rs.bind (Rs.ok []) λx21=>(Rs.ok (x20::x21)))) λx19=>(chk (x19.length<=sizeLine) (Rs.ok x19))) λx17=>(Rs.bind (Rs.ok (24:Int)) λx18=>(DE x17 x18))) λx5=>(FR x4 x5))) λx24=>(noE (KP x22 x23 x24))))) λa1=>(Rs.bind (Rs.bind (Rs.ok (1:Int)) λx31=>(Rs.bind (Rs.bind (Rs.bind (Rs.ok a1) λx27=>(Rs.bind (Rs.ok (1:Int)) λx28=>(atR x27 x28))) λx29=>(Rs.bind (Rs.ok a_2) λx30=>(QG x29 x30))) λx32=>(Rs.ok (x31+x32)))) λa25=>(Rs.bind (Rs.bind (U2 (Rs.bind (Rs.ok a_2) λx33=>(Rs.bind (Rs.ok (2:Int)) λx34=>(Rs.ok (decide (x34<x33))))) (Rs.bind (Rs.bind (Rs.ok a1) λx35=>(Rs.bind (Rs.ok (4:Int)) λx36=>(atR x35 x36))) λx37=>(Rs.bind (Rs.ok (0:Int)) λx38=>(Rs.ok (decide (x38<x37)))))) λx39=>(if x39=true then(Rs.bind (Rs.bind (Rs.ok (3:Int)) λx50=>(Rs.bind (Rs.bind (Rs.bind (Rs.ok a1) λx44=>(Rs.bind (Rs.ok (1:Int)) λx45=>(atR x44 x45))) λx48=>(Rs.bind (Rs.bind (Rs.ok a_2) λx46=>(Rs.bind (Rs.ok (2:Int)) λx47=>(Rs.ok (x46-x47)))) λx49=>(QG x48 x49))) λx51=>(Rs.ok (x50+x51)))) λa42=>(Rs.ok (a42))) else(Rs.ok (a25)))) λg53=>(Rs.bind (Rs.bind (Rs.bind (Rs.ok a1) λx58=>(Rs.bind (Rs.ok (0:Int)) λx59=>(atR x58 x59))) λx64=>(Rs.bind (Rs.ok g53) λx65=>(Rs.bind (Rs.bind (Rs.ok (2:Int)) λx62=>(Rs.bind (Rs.bind (Rs.ok a1) λx60=>(Rs.bind (Rs.ok (2:Int)) λx61=>(atR x60 x61))) λx63=>(Rs.ok (x62+x63)))) λx66=>(noE (Uk x64 x65 x66))))) λa54=>(Rs.bind (Rs.bind (Rs.bind (Rs.ok a1) λx67=>(Rs.bind (Rs.ok (3:Int)) λx68=>(atR x67 x68))) λx69=>(Rs.bind (Rs.ok (0:Int)) λx70=>(Rs.ok (decide (x69=x70))))) λx71=>(if x71=true then(Rs.ok a54) else(Rs.bind (Rs.ok a54) λx80=>(Rs.bind (Rs.bind (Rs.bind (Rs.ok a1) λx75=>(Rs.bind (Rs.bind (Rs.ok (5:Int)) λx74=>(Rs.ok (some x74))) λx76=>(Rs.bind (Rs.ok none) λx77=>(Rs.ok (Gu x75 x76 x77))))) λx78=>(Rs.bind (Rs.ok g53) λx79=>(noE (ZY x78 x79)))) λx81=>(noE (QF x80 x81))))))))))
noncomputable def QE (a_0:(List (List Int))):Rs (List (List Int)):=(Rs.bind (Rs.ok []) λa1=>(Rs.bind (Rs.ok (0:Int)) λa4=>(Rs.bind (Rs.ok a_0) λx94=>(Rs.bind (forN x94 (a4,a1) (λg8 a10=>(Rs.bind (Rs.ok g8.1) λa12=>(Rs.bind (Rs.ok g8.1) λa14=>(Rs.bind (Rs.bind (Rs.ok (1:Int)) λx18=>(Rs.ok (-x18))) λa16=>(Rs.bind (Rs.bind (Rs.bind (Rs.ok a10) λx19=>(Rs.ok (x19.length:Int))) λx20=>(JJ 0 x20)) λx91=>(Rs.bind (forN x91 (a16) (λg23 a25=>(Rs.bind (Rs.bind (Rs.bind (Rs.bind (Rs.ok a10) λx27=>(Rs.bind (Rs.ok a25) λx28=>(atR x27 x28))) λx29=>(Rs.bind (Rs.ok (0:Int)) λx30=>(Rs.ok (decide (x29<x30))))) λx31=>(if x31=true then(Rs.bind (Rs.ok a25) λa34=>(Rs.ok (a34))) else(Rs.ok (g23)))) λg37=>(Rs.ok (g37))))) λg38=>(Rs.bind (Rs.bind (Rs.bind (Rs.bind (Rs.ok a12) λx46=>(Rs.bind (Rs.ok []) λx47=>(Rs.ok (x46::x47)))) λx45=>(chk (x45.length<=sizeLine) (Rs.ok x45))) λx43=>(Rs.bind (Rs.bind (Rs.bind (Rs.ok a10) λx48=>(Rs.ok (x48.length:Int))) λx49=>(Rs.bind (Rs.ok (1:Int)) λx50=>(Rs.ok (max x49 x50)))) λx44=>(DE x43 x44))) λa40=>(Rs.bind (Rs.bind (Rs.bind (Rs.ok g38) λx51=>(Rs.bind (Rs.ok (1:Int)) λx52=>(Rs.ok (x51+x52)))) λx53=>(JJ 0 x53)) λx90=>(Rs.bind (forN x90 (a40,g8.1,a14) (λg56 a58=>(Rs.bind (Rs.ok g56.2.2) λx60=>(Rs.bind (Rs.ok a58) λx61=>(Rs.bind (Jq g56.1 x61 x60) λa62=>(Rs.bind (Rs.bind (U2 (Rs.bind (Rs.bind (Rs.ok a10) λx64=>(Rs.bind (Rs.ok a58) λx65=>(atR x64 x65))) λx66=>(Rs.bind (Rs.ok (0:Int)) λx67=>(Rs.ok (decide (x66<x67))))) (Rs.bind (Rs.ok a58) λx68=>(Rs.bind (Rs.ok g38) λx69=>(Rs.ok (decide (x68<x69)))))) λx70=>(if x70=true then(Rs.bind (Rs.bind (Rs.ok g56.2.1) λx75=>(Rs.bind (Rs.ok (1:Int)) λx76=>(Rs.ok (x75+x76)))) λa73=>(Rs.bind (Rs.ok a73) λa77=>(Rs.ok (a73,a77)))) else(Rs.ok (g56.2.1,g56.2.2)))) λg80=>(Rs.ok (a62,g80.1,g80.2)))))))) λg81=>(Rs.bind (Rs.bind (Rs.ok g81.2.1) λx85=>(Rs.bind (Rs.ok (1:Int)) λx86=>(Rs.ok (x85+x86)))) λa83=>(Rs.bind (Rs.ok g81.1) λa87=>(chk (g8.2.length<sizeLine) ((λa89=>(Rs.ok (a83,a89))) (g8.2++[a87]))))))))))))))) λg92=>(Rs.ok g92.2)))))
noncomputable def Z8 (a_0:(List (List Int)))(a_1:Int):Rs (Int×Int):=(Rs.bind (Rs.bind (Rs.bind (Rs.ok a_0) λx1=>(Rs.ok (x1.length:Int))) λx2=>(JJ 0 x2)) λx28=>(Rs.bind (G8 x28 () (λg5 a7=>(Rs.bind (Rs.bind (Rs.ok a_1) λx11=>(Rs.bind (Rs.bind (Rs.ok a_0) λx9=>(Rs.bind (Rs.ok a7) λx10=>(atR x9 x10))) λx12=>(Rs.ok (decide (x11∈x12))))) λx13=>(if x13=true then(Rs.bind (Rs.bind (Rs.ok a7) λx18=>(Rs.bind (Rs.bind (Rs.bind (Rs.ok a_0) λx14=>(Rs.bind (Rs.ok a7) λx15=>(atR x14 x15))) λx16=>(Rs.bind (Rs.ok a_1) λx17=>(E9 x16 x17))) λx19=>(Rs.ok (x18,x19)))) λx21=>(Rs.ok (Ctl.ret x21))) else(Rs.bind (Rs.ok ()) λx20=>(Rs.ok (Ctl.nx x20))))))) (JQ λg22=>(Rs.bind (Rs.bind (Rs.ok (1:Int)) λx24=>(Rs.ok (-x24))) λx26=>(Rs.bind (Rs.bind (Rs.ok (1:Int)) λx25=>(Rs.ok (-x25))) λx27=>(Rs.ok (x26,x27)))))))
noncomputable def ZH (a_0:((List (List Int))×(List (Int×Int)))):Rs (List (Int×Int×Int×Int×Int)):=(Rs.bind (Rs.ok a_0) λa1=>(Rs.bind (Rs.bind (Rs.ok a1.1) λx7=>(noE (QE x7))) λa4=>(Rs.bind (Rs.ok []) λa8=>(Rs.bind (Rs.ok a1.2) λx61=>(Rs.bind (forN x61 (a8) (λg13 a15=>(Rs.bind (Rs.bind (Rs.ok a1.1) λx18=>(Rs.bind (Rs.ok a15.1) λx19=>(noE (Z8 x18 x19)))) λa20=>(Rs.bind (Rs.bind (Rs.ok a1.1) λx25=>(Rs.bind (Rs.bind (Rs.ok a15.1) λx24=>(Rs.ok (-x24))) λx26=>(noE (Z8 x25 x26)))) λa27=>(Rs.bind (Rs.bind (Rs.bind (Rs.ok a27.2) λx32=>(Rs.bind (Rs.ok (1:Int)) λx33=>(Rs.ok (x32+x33)))) λx37=>(Rs.bind (Rs.bind (Rs.bind (Rs.ok a1.1) λx34=>(Rs.bind (Rs.ok a27.1) λx35=>(atR x34 x35))) λx36=>(Rs.ok (x36.length:Int))) λx38=>(QG x37 x38))) λa30=>(Rs.bind (Rs.bind (Rs.ok a15.1) λx51=>(Rs.bind (Rs.ok a15.2) λx52=>(Rs.bind (Rs.bind (Rs.bind (Rs.ok a4) λx39=>(Rs.bind (Rs.ok a20.1) λx40=>(atR x39 x40))) λx41=>(Rs.bind (Rs.ok a20.2) λx42=>(atR x41 x42))) λx53=>(Rs.bind (Rs.bind (Rs.bind (Rs.ok a4) λx43=>(Rs.bind (Rs.ok a27.1) λx44=>(atR x43 x44))) λx45=>(Rs.bind (Rs.ok a27.2) λx46=>(atR x45 x46))) λx54=>(Rs.bind (Rs.bind (Rs.bind (Rs.ok a4) λx47=>(Rs.bind (Rs.ok a27.1) λx48=>(atR x47 x48))) λx49=>(Rs.bind (Rs.ok a30) λx50=>(atR x49 x50))) λx55=>(Rs.ok (x51,x52,x53,x54,x55))))))) λa56=>(chk (g13.length<sizeLine) ((λa58=>(Rs.ok (a58))) (g13++[a56]))))))))) λg59=>(Rs.ok g59))))))
noncomputable def Qp (a_0:((List (List Int))×(List (Int×Int)))):Rs Int:=(Rs.bind (Rs.bind (Rs.bind (Rs.ok a_0) λx3=>(Rs.ok x3.2)) λx4=>(Rs.ok (x4.length:Int))) λa1=>(Rs.bind (Rs.bind (Rs.ok a_0) λx5=>(Rs.ok x5.1)) λx32=>(Rs.bind (forN x32 (a1) (λg8 a10=>(Rs.bind (Rs.bind (Rs.bind (Rs.bind (Rs.bind (Rs.ok a10) λx15=>(Ih x15 (λa13=>(Rs.bind (Rs.ok a13) λx16=>(Rs.bind (Rs.ok (0:Int)) λx17=>(Rs.ok (decide (x16<x17)))))) (λa13=>(Rs.ok a13)))) λx18=>(Rs.ok (x18.length:Int))) λx19=>(Rs.bind (Rs.ok (0:Int)) λx20=>(Rs.ok (decide (x19=x20))))) λx21=>(if x21=true then(Rs.bind (Rs.bind (Rs.ok g8) λx26=>(Rs.bind (Rs.ok (1:Int)) λx27=>(Rs.ok (x26+x27)))) λa24=>(Rs.ok (a24))) else(Rs.ok (g8)))) λg29=>(Rs.ok (g29))))) λg30=>(Rs.ok g30))))
noncomputable def Jx (a_0:(List (Int×Int×Int×Int×Int)))(a_1:(List (List Int)))(a_2:(List Int)):Rs Bool:=(Rs.bind (Rs.ok a_0) λx39=>(Rs.bind (G8 x39 () (λg3 a5=>(Rs.bind (Rs.bind (Rs.ok a_2) λx7=>(Rs.bind (Rs.ok a5.2.2.2.1) λx8=>(atR x7 x8))) λa11=>(Rs.bind (Rs.bind (Rs.ok a_2) λx9=>(Rs.bind (Rs.ok a5.2.2.2.2) λx10=>(atR x9 x10))) λa12=>(Rs.bind (Rs.bind (Rs.bind (Rs.ok a5.2.1) λx15=>(Rs.bind (Rs.ok (0:Int)) λx16=>(Rs.ok (decide (x15<x16))))) λx17=>(if x17=true then(Rs.bind (Rs.ok a12) λa20=>(Rs.bind (Rs.ok a11) λa21=>(Rs.ok (a20,a21)))) else(Rs.ok (a11,a12)))) λg25=>(Rs.bind (Rs.bind (Rs.bind (Rs.bind (Rs.ok a_1) λx26=>(Rs.bind (Rs.ok g25.1) λx27=>(atR x26 x27))) λx30=>(Rs.bind (Rs.bind (Rs.ok a_2) λx28=>(Rs.bind (Rs.ok a5.2.2.1) λx29=>(atR x28 x29))) λx31=>(atR x30 x31))) λx32=>(Rs.bind (Rs.ok g25.2) λx33=>(Rs.ok (!(decide (x32=x33)))))) λx34=>(if x34=true then(Rs.bind (Rs.ok false) λx36=>(Rs.ok (Ctl.ret x36))) else(Rs.bind (Rs.ok ()) λx35=>(Rs.ok (Ctl.nx x35)))))))))) (JQ λg37=>(Rs.ok true))))
noncomputable def Ga (a_0:((List (List Int))×(List (Int×Int))))(a_1:(List (List Int))):Rs (List (List Int)):=(Rs.bind (Rs.bind (Rs.ok a_0) λx4=>(noE (ZH x4))) λa1=>(Rs.bind (Rs.bind (Rs.bind (Rs.ok []) λx9=>(Rs.bind (Rs.ok []) λx10=>(Rs.ok (x9::x10)))) λx8=>(chk (x8.length<=sizeLine) (Rs.ok x8))) λa5=>(Rs.bind (Rs.bind (Rs.bind (Rs.ok a_0) λx12=>(noE (Qp x12))) λx13=>(JJ 0 x13)) λx83=>(Rs.bind (forN x83 (a5) (λg16 a18=>(Rs.bind (Rs.bind (Rs.ok a1) λx25=>(Ih x25 (λa23=>(Rs.bind (Rs.bind (Rs.bind (Rs.bind (Rs.ok a23) λx26=>(Rs.ok [x26.1,x26.2.1,x26.2.2.1,x26.2.2.2.1,x26.2.2.2.2])) λx28=>(Rs.bind (Rs.bind (Rs.ok (2:Int)) λx27=>(Rs.ok (some x27))) λx29=>(Rs.bind (Rs.ok none) λx30=>(chk (¬(HT.sIx x28.length 0 x29=0/\HT.sIx x28.length x28.length x30=x28.length)) (Rs.ok (Gu x28 x29 x30)))))) MA) λx31=>(Rs.bind (Rs.ok a18) λx32=>(Rs.ok (decide (x31=x32)))))) (λa23=>(Rs.ok a23)))) λa20=>(Rs.bind (Rs.ok []) λa33=>(Rs.bind (Rs.ok g16) λx80=>(Rs.bind (forN x80 (a33) (λg38 a40=>(Rs.bind (Rs.bind (Rs.bind (Rs.ok a_1) λx42=>(Rs.ok (x42.length:Int))) λx43=>(JJ 0 x43)) λx74=>(Rs.bind (forN x74 (g38) (λg46 a48=>(Rs.bind (Rs.bind (Rs.bind (Rs.ok a20) λx56=>(Rs.bind (Rs.ok a_1) λx57=>(Rs.bind (Rs.bind (Rs.ok a40) λx51=>(Rs.bind (Rs.bind (Rs.bind (Rs.ok a48) λx54=>(Rs.bind (Rs.ok []) λx55=>(Rs.ok (x54::x55)))) λx53=>(chk (x53.length<=sizeLine) (Rs.ok x53))) λx52=>(FR x51 x52))) λx58=>(noE (Jx x56 x57 x58))))) λx59=>(if x59=true then(Rs.bind (Rs.bind (Rs.ok a40) λx62=>(Rs.bind (Rs.bind (Rs.bind (Rs.ok a48) λx65=>(Rs.bind (Rs.ok []) λx66=>(Rs.ok (x65::x66)))) λx64=>(chk (x64.length<=sizeLine) (Rs.ok x64))) λx63=>(FR x62 x63))) λa67=>(chk (g46.length<sizeLine) ((λa69=>(Rs.ok (a69))) (g46++[a67])))) else(Rs.ok (g46)))) λg71=>(Rs.ok (g71))))) λg72=>(Rs.ok (g72)))))) λg75=>(Rs.bind (Rs.ok g75) λa77=>(Rs.ok (a77))))))))) λg81=>(Rs.ok g81)))))
noncomputable def JD (a_0:Int)(a_1:Int):Rs Int:=(Rs.bind (Rs.ok (1:Int)) λa1=>(Rs.bind (Rs.bind (Rs.ok a_1) λx3=>(JJ 0 x3)) λx16=>(Rs.bind (forN x16 (a1) (λg6 a8=>(Rs.bind (Rs.bind (Rs.ok g6) λx12=>(Rs.bind (Rs.ok a_0) λx13=>(QP x12 x13))) λa10=>(Rs.ok (a10))))) λg14=>(Rs.ok g14))))
noncomputable def QQ (a_0:((List (List Int))×(List (Int×Int))))(a_1:Int):Rs Int:=(Rs.bind (Rs.bind (Rs.ok a_0) λx4=>(noE (Qp x4))) λa1=>(Rs.bind (Rs.ok (1:Int)) λa5=>(Rs.bind (QK (8) (a5) (λg9=>(U2 (Rs.bind (Rs.ok g9) λx11=>(Rs.bind (Rs.ok (6:Int)) λx12=>(Rs.ok (decide (x11<x12))))) (Rs.bind (Rs.bind (Rs.bind (Rs.ok g9) λx14=>(Rs.bind (Rs.ok (1:Int)) λx15=>(Rs.ok (x14+x15)))) λx16=>(Rs.bind (Rs.ok a1) λx17=>(noE (JD x16 x17)))) λx18=>(Rs.bind (Rs.ok a_1) λx19=>(Rs.ok (decide (x18<=x19))))))) (λg9=>(Rs.bind (Rs.bind (Rs.ok g9) λx22=>(Rs.bind (Rs.ok (1:Int)) λx23=>(Rs.ok (x22+x23)))) λa20=>(Rs.ok (a20))))) λg24=>(Rs.ok g24))))
noncomputable def YF (a_0:(List (List Int))):Rs (List (List Int)):=(Rs.bind (Rs.bind (Rs.ok a_0) λx7=>(U1 x7 (λa5=>(Rs.bind (Rs.ok a5) λx8=>(Rs.ok x8))))) λa1=>(Rs.bind (Rs.bind (Rs.bind (Rs.ok a_0) λx9=>(Rs.ok (x9.length:Int))) λx10=>(JJ 0 x10)) λx41=>(Rs.bind (forN x41 (a1) (λg13 a15=>(Rs.bind (Rs.bind (Rs.bind (Rs.ok a_0) λx17=>(Rs.ok (x17.length:Int))) λx18=>(JJ 0 x18)) λx38=>(Rs.bind (forN x38 (g13) (λg21 a23=>(Rs.bind (Rs.ok a15) λx29=>(Rs.bind (Rs.bind (Rs.bind (Rs.ok a_0) λx25=>(Rs.bind (Rs.ok a15) λx26=>(atR x25 x26))) λx27=>(Rs.bind (Rs.ok a23) λx28=>(atR x27 x28))) λx30=>(Rs.bind (atR g21 x30) λx34=>(Rs.bind (Rs.ok a23) λx31=>(Rs.bind (Jq x34 x31 x29) λx35=>(Rs.bind (Jq g21 x30 x35) λa32=>(Rs.ok (a32)))))))))) λg36=>(Rs.ok (g36)))))) λg39=>(Rs.ok g39))))
noncomputable def Ql (a_0:Int)(a_1:Int):Rs Int:=(Rs.bind (Rs.bind (Rs.ok a_0) λx1=>(Rs.bind (Rs.ok (0:Int)) λx2=>(Rs.ok (decide (x1<x2))))) λx3=>(if x3=true then(Rs.bind (Rs.ok a_0) λx4=>(Rs.bind (Rs.ok a_1) λx5=>(Rs.ok (x4-x5)))) else(Rs.bind (Rs.ok a_0) λx6=>(Rs.bind (Rs.ok a_1) λx7=>(Rs.ok (x6+x7))))))
noncomputable def V4 (a_0:((List (List Int))×(List (Int×Int))))(a_1:((List (List Int))×(List (Int×Int)))):Rs ((List (List Int))×(List (Int×Int))):=(Rs.bind (Rs.ok (0:Int)) λa1=>(Rs.bind (Rs.bind (Rs.ok a_0) λx3=>(Rs.ok x3.2)) λx69=>(Rs.bind (forN x69 (a1) (λg6 a8=>(Rs.bind (Rs.bind (Rs.ok g6) λx12=>(Rs.bind (Rs.ok a8.1) λx13=>(Rs.ok (max x12 x13)))) λa10=>(Rs.ok (a10))))) λg14=>(Rs.bind (Rs.bind (Rs.bind (Rs.ok a_0) λx19=>(Rs.ok x19.1)) λx23=>(U1 x23 (λa21=>(Rs.bind (Rs.ok a21) λx24=>(Rs.ok x24))))) λa16=>(Rs.bind (Rs.bind (Rs.ok a_1) λx25=>(Rs.ok x25.1)) λx68=>(Rs.bind (forN x68 (a16) (λg28 a30=>(Rs.bind (Rs.bind (Rs.ok a30) λx35=>(U1 x35 (λa33=>(Rs.bind (Rs.ok a33) λx37=>(Rs.bind (Rs.ok g14) λx38=>(noE (Ql x37 x38))))))) λa39=>(chk (g28.length<sizeLine) ((λa41=>(Rs.ok (a41))) (g28++[a39])))))) λg42=>(Rs.bind (Rs.bind (Rs.bind (Rs.ok a_0) λx48=>(Rs.ok x48.2)) λx47=>(Rs.ok x47)) λa44=>(Rs.bind (Rs.bind (Rs.ok a_1) λx49=>(Rs.ok x49.2)) λx67=>(Rs.bind (forN x67 (a44) (λg52 a54=>(Rs.bind (Rs.bind (Rs.bind (Rs.ok a54.1) λx56=>(Rs.bind (Rs.ok g14) λx57=>(Rs.ok (x56+x57)))) λx58=>(Rs.bind (Rs.ok a54.2) λx59=>(Rs.ok (x58,x59)))) λa60=>(chk (g52.length<sizeLine) ((λa62=>(Rs.ok (a62))) (g52++[a60])))))) λg63=>(Rs.bind (Rs.ok g42) λx65=>(Rs.bind (Rs.ok g63) λx66=>(Rs.ok (x65,x66)))))))))))))
noncomputable def JG (a_0:((List (List Int))×(List (Int×Int))))(a_1:(List (List Int)))(a_2:(List (List Int))):Rs Bool:=(Rs.bind (Rs.bind (Rs.bind (Rs.ok a_0) λx5=>(noE (Ui x5))) λx11=>(Rs.bind (Rs.bind (Rs.ok a_1) λx9=>(U1 x9 (λa7=>(Rs.bind (Rs.ok a7) λx10=>(Rs.ok x10))))) λx12=>(noE (X8 x11 x12)))) λa1=>(Rs.bind (orR (Rs.bind (Rs.bind (Rs.ok a1) λx13=>(Rs.ok true)) λx14=>(Rs.ok (!x14))) (Rs.bind (Rs.bind (Rs.ok a1) λx15=>(Rs.ok (x15.length:Int))) λx17=>(Rs.bind (Rs.bind (Rs.ok a_2) λx16=>(Rs.ok (x16.length:Int))) λx18=>(Rs.ok (!(decide (x17=x18))))))) λx19=>(if x19=true then(Rs.ok false) else(Rs.bind (Rs.ok a1) λx36=>(Rs.bind (G8 x36 () (λg22 a24=>(Rs.bind (Rs.bind (Rs.bind (Rs.ok a24) λx27=>(noE (Zj x27))) λx28=>(Rs.ok (!x28))) λx29=>(if x29=true then(Rs.bind (Rs.ok false) λx31=>(Rs.ok (Ctl.ret x31))) else(Rs.bind (Rs.ok ()) λx30=>(Rs.ok (Ctl.nx x30))))))) (JQ λg32=>(Rs.bind (Rs.ok a1) λx34=>(Rs.bind (Rs.ok a_2) λx35=>(Rs.ok (decide (x34=x35)))))))))))
noncomputable def Gd (a_0:(List Int)):Rs Bool:=(Rs.bind (Rs.bind (Rs.ok a_0) λx4=>(Rs.bind (Rs.ok (0:Int)) λx5=>(Rs.bind (Rs.ok (4:Int)) λx6=>(noE (Qq x4 x5 x6))))) λa1=>(Rs.bind (Rs.bind (Rs.ok a_0) λx10=>(Rs.bind (Rs.ok (1:Int)) λx11=>(Rs.bind (Rs.ok (4:Int)) λx12=>(noE (Qq x10 x11 x12))))) λa7=>(Rs.bind (Rs.bind (Rs.bind (Rs.ok a1) λx16=>(Rs.bind (Rs.ok (250:Int)) λx17=>(noE (QQ x16 x17)))) λx21=>(Rs.bind (Rs.bind (Rs.ok a7) λx19=>(Rs.bind (Rs.ok (250:Int)) λx20=>(noE (QQ x19 x20)))) λx22=>(Rs.ok (min x21 x22)))) λa13=>(Rs.bind (Rs.bind (Rs.ok a_0) λx26=>(Rs.bind (Rs.ok (2:Int)) λx27=>(Rs.bind (Rs.ok a13) λx28=>(noE (Y5 x26 x27 x28))))) λa23=>(Rs.bind (Rs.bind (Rs.ok a1) λx32=>(Rs.bind (Rs.ok a23) λx33=>(noE (Ga x32 x33)))) λa29=>(Rs.bind (Rs.bind (Rs.ok a7) λx37=>(Rs.bind (Rs.ok a23) λx38=>(noE (Ga x37 x38)))) λa34=>(Rs.bind (Rs.ok []) λa39=>(Rs.bind (Rs.ok a29) λx119=>(Rs.bind (forN x119 (a39) (λg44 a46=>(Rs.bind (Rs.ok a34) λx61=>(Rs.bind (forN x61 (g44) (λg50 a52=>(Rs.bind (Rs.bind (Rs.ok a46) λx54=>(Rs.bind (Rs.ok a52) λx55=>(FR x54 x55))) λa56=>(chk (g50.length<sizeLine) ((λa58=>(Rs.ok (a58))) (g50++[a56])))))) λg59=>(Rs.ok (g59)))))) λg62=>(Rs.bind (Rs.bind (Rs.bind (Rs.bind (Rs.ok a1) λx66=>(Rs.bind (Rs.ok a7) λx67=>(noE (V4 x66 x67)))) λx68=>(Rs.bind (Rs.ok a23) λx69=>(Rs.bind (Rs.ok g62) λx70=>(noE (JG x68 x69 x70))))) λx71=>(Rs.ok (!x71))) λx72=>(if x72=true then(Rs.ok false) else(Rs.bind (Rs.bind (Rs.ok a23) λx76=>(noE (YF x76))) λa73=>(Rs.bind (Rs.bind (Rs.bind (Rs.bind (Rs.bind (Rs.ok a1) λx78=>(Rs.ok x78.1)) λx87=>(Rs.bind (Rs.bind (Rs.bind (Rs.ok a1) λx79=>(Rs.ok x79.2)) λx83=>(U1 x83 (λa81=>(Rs.bind (Rs.ok a81.1) λx85=>(Rs.bind (Rs.bind (Rs.ok a81.2) λx84=>(Rs.ok (-x84))) λx86=>(Rs.ok (x85,x86))))))) λx88=>(Rs.ok (x87,x88)))) λx89=>(Rs.bind (Rs.ok a73) λx90=>(Rs.bind (Rs.ok a29) λx91=>(noE (JG x89 x90 x91))))) λx92=>(Rs.ok (!x92))) λx93=>(if x93=true then(Rs.ok false) else(Rs.bind (Rs.bind (Rs.bind (Rs.ok a1) λx96=>(Rs.ok x96.1)) λx100=>(U1 x100 (λa98=>(Rs.bind (Rs.ok a98) λx102=>(Rs.bind (Rs.bind (Rs.ok (1:Int)) λx101=>(Rs.ok (-x101))) λx103=>(chk (x103= -1) (Rs.ok x102.reverse))))))) λa94=>(Rs.bind (Rs.bind (Rs.bind (Rs.bind (Rs.ok a94) λx107=>(Rs.bind (Rs.bind (Rs.bind (Rs.ok a1) λx106=>(Rs.ok x106.2)) λx105=>(Rs.ok x105)) λx108=>(Rs.ok (x107,x108)))) λx109=>(Rs.bind (Rs.ok a73) λx110=>(noE (Ua x109 x110)))) λx112=>(Rs.bind (Rs.bind (Rs.ok a29) λx111=>(Rs.ok (x111.length:Int))) λx113=>(Rs.ok (!(decide (x112=x113)))))) λx114=>(if x114=true then(Rs.ok false) else(Rs.bind (Rs.ok a1) λx116=>(Rs.bind (Rs.ok a23) λx117=>(Rs.bind (Rs.ok a29) λx118=>(noE (JG x116 x117 x118))))))))))))))))))))))
end My
namespace L2
open PySem
section
variable {α β γ ρ:Type}
theorem Rs.okb (a:α)(f:α->Rs β):(Rs.ok a).bind f=f a:=(Eq.refl (f a)).symm.symm
theorem C5 {f:α->Rs β}{h:α->β}:∀{as:List α},(∀a∈as,f a= .ok (h a))->Dw as f= .ok (as.map h)
 | [],_=>rfl
 |a::as,hf=>by
  show(f a).bind _=_
  rw[hf a (by simp),Rs.ok_bind,C5 λb hb=>hf b (by simp[hb])];rfl
theorem Zf {f:α->Rs β}{h:α->β}{as:List α}(hl:as.length<=sizeLine)(hf:∀a∈as,f a= .ok (h a)):U1 as f= .ok (as.map h):=by
 unfold U1;rw[XG hl];exact C5 hf
theorem Bh {c:α->Rs Bool}{f:α->Rs β}{p:α->Bool}{h:α->β}:∀{as:List α},(∀a∈as,c a= .ok (p a))->(∀a∈as,p a=true->f a= .ok (h a))->Fp as c f= .ok ((as.filter p).map h)
 | [],_,_=>rfl
 |a::as,hc,hf=>by
  show(c a).bind _=_
  rw[hc a (by simp),Rs.ok_bind]
  have ih:=Bh (as:=as) (λb hb=>hc b (by simp[hb])) λb hb=>hf b (by simp[hb])
  cases hp:p a with
  |false=>rw[if_neg (by simp),ih,List.filter_cons,hp];rfl
  |true=>rw[if_pos rfl,hf a (by simp) hp,Rs.ok_bind,ih,List.filter_cons,hp];rfl
theorem UD {c:α->Rs Bool}{f:α->Rs β}{p:α->Bool}{h:α->β}{as:List α}(hl:as.length<=sizeLine)(hc:∀a∈as,c a= .ok (p a))(hf:∀a∈as,p a=true->f a= .ok (h a)):Ih as c f= .ok ((as.filter p).map h):=by
 unfold Ih;rw[XG hl];exact Bh hc hf
theorem Br {f:γ->α->Rs γ}{h:γ->α->γ}:∀{as:List α}{g:γ},(∀g,∀a∈as,f g a= .ok (h g a))->forN as g f= .ok (as.foldl h g)
 | [],_,_=>rfl
 |a::as,g,hf=>by
  show(f g a).bind _=_
  rw[hf g a (by simp),Rs.ok_bind]
  exact Br λg b hb=>hf g b (by simp[hb])
theorem KZ {f:γ->α->Rs γ}(P:Nat->γ->Prop):∀(as:List α) (k:Nat) (g:γ),P k g->(∀i a g,as[i]?=some a->P (k+i) g->∃g',f g a= .ok g'/\P (k+i+1) g')->∃g',forN as g f= .ok g'/\P (k+as.length) g'
 | [],k,g,h0,_=>⟨g,rfl,h0⟩
 |a::as,k,g,h0,hs=>by
  obtain⟨g1,e1,p1⟩:=hs 0 a g rfl h0
  obtain⟨g2,e2,p2⟩:=KZ P as (k+1) g1 p1 λi b g hb hp=>by
   obtain⟨g',e',p'⟩:=hs (i+1) b g (by simpa using hb) (by rw[show k+(i+1)=k+1+i by lia];exact hp)
   exact⟨g',e',by rw[show k+1+i+1=k+(i+1)+1 by lia];exact p'⟩
  refine⟨g2,?_,by rw[List.length_cons,show k+(as.length+1)=k+1+as.length by lia];exact p2⟩
  show(f g a).bind _=_
  rw[e1,Rs.ok_bind];exact e2
theorem UU {f:γ->α->Rs γ}(P:Nat->γ->Prop){as:List α}{g:γ}(h0:P 0 g)(hs:∀i a g,as[i]?=some a->P i g->∃g',f g a= .ok g'/\P (i+1) g'):∃g',forN as g f= .ok g'/\P as.length g':=by
 have:=KZ P as 0 g h0 (by simpa using hs)
 simpa using this
theorem Zt {f:List β->α->Rs (List β)}{h:α->β}:∀{as:List α}{g:List β},g.length+as.length<=sizeLine->(∀g:List β,g.length<sizeLine->∀a∈as,f g a= .ok (g++[h a]))->forN as g f= .ok (g++as.map h)
 | [],g,_,_=>by simp[forN]
 |a::as,g,hl,hf=>by
  show(f g a).bind _=_
  rw[List.length_cons] at hl
  rw[hf g (by lia) a (by simp),Rs.ok_bind,Zt (by simp;lia) λg hg b hb=>hf g hg b (by simp[hb])]
  simp
theorem UR {f:γ->α->Rs (Ctl ρ γ)}:∀{as:List α}{g:γ},(∀a∈as,f g a= .ok (.nx g))->G8 as g f= .ok (.nx g)
 | [],_,_=>rfl
 |a::as,g,hf=>by
  show(f g a).bind _=_
  rw[hf a (by simp),Rs.ok_bind]
  exact UR λb hb=>hf b (by simp[hb])
theorem YN {a b:Int}(h:0<b):QG a b= .ok (a % b):=XG h
theorem Zw {a b:Int}(h1: -(2^64)<a)(h2:a<2^64):QP a b= .ok (a*b):=XG (.inl ⟨h1,h2⟩)
theorem Qe {a b:Int}(h1: -(2^64)<b)(h2:b<2^64):QP a b= .ok (a*b):=XG (.inr ⟨h1,h2⟩)
theorem DT {a b:Int}(h:0<b)(h2:b<2^250):Lo a b= .ok (a/b):=XG ⟨h,by
 have h3:b.natAbs<2^250:=by lia
 rcases Nat.eq_zero_or_pos b.natAbs with h0 |h0
 ·lia
 ·have:=(Nat.log2_lt (by lia)).mpr h3
  lia⟩
theorem CJ {a b:Int}(h0:0<=b)(h1:b<=1000000)(h2: -(2^64)<a)(h3:a<2^64):LR a b= .ok (a^b.toNat):=XG ⟨h0,h1,by lia⟩
theorem YM {as:List α}{i:Nat}{a:α}(h:as[i]?=some a):atR as (i:Int)= .ok a:=by
 have hlt:=(List.getElem?_eq_some_iff.mp h).1
 unfold atR atI ixN
 rw[if_pos (by lia),if_pos (by lia)]
 simp[h]
theorem LJ {as:List α}{i:Int}{a:α}(h0:0<=i)(h:as[i.toNat]?=some a):atR as i= .ok a:=by
 have:i=(i.toNat:Int):=by lia
 rw[this];exact YM h
theorem Y4 {n:Nat}(h:n<2^62):JJ 0 (n:Int)= .ok ((List.range n).map λ(i:Nat)=>(i:Int)):=by
 unfold JJ
 rw[XG (by lia)]
 unfold Qs
 congr 1
 rw[Int.sub_zero,Int.toNat_natCast]
 exact List.map_congr_left λi _=>by lia
theorem Ya {n i:Nat}{a:Int}(h:((List.range n).map λ(i:Nat)=>(i:Int))[i]?=some a):a=(i:Int)/\i<n:=by
 have hlt:=(List.getElem?_eq_some_iff.mp h).1
 simp only[List.length_map,List.length_range] at hlt
 rw[List.getElem?_map,List.getElem?_range hlt] at h
 exact⟨(Option.some.inj h).symm,hlt⟩
theorem Zs {n:Nat}{a:Int}(h:a∈(List.range n).map λ(i:Nat)=>(i:Int)):∃i:Nat,i<n/\a=(i:Int):=by
 obtain⟨i,hi,rfl⟩:=List.mem_map.mp h
 exact⟨i,List.mem_range.mp hi,rfl⟩
theorem XX {n:Nat}:((List.range n).map λ(i:Nat)=>(i:Int)).length=n:=by simp
theorem Hw {a:Bool}{b:Rs Bool}{c:Bool}(h:a=true->b= .ok c):U2 (.ok a) b= .ok (a&&c):=by
 cases a with
 |false=>rfl
 |true=>
  show(if true=true then b else Rs.ok false)=_
  rw[if_pos rfl,h rfl];rfl
theorem sz {n:Nat}(h:n<=100000):n<=sizeLine:=Nat.le_trans h (by decide)
theorem F3 {n:Nat}(h:n<=100000):n<sizeLine:=Nat.lt_of_le_of_lt h (by decide)
inductive Ok (m:Rs β)(R:β->Prop):Prop
 |mk (r:β) (h1_:m= .ok r) (h2_:R r)
theorem Ok.bind {m:Rs α}{f:α->Rs β}{R:α->Prop}{T:β->Prop}(h:Ok m R)(hf:∀a,R a->Ok (f a) T):Ok (m.bind f) T:=by
 obtain⟨a,e,ha⟩:=h
 rw[e];exact hf a ha
theorem Ok.imp {m:Rs α}{R T:α->Prop}(h:Ok m R)(hf:∀a,R a->T a):Ok m T:=by
 obtain⟨a,e,ha⟩:=h
 exact⟨a,e,hf a ha⟩
theorem Ok.noE {m:Rs α}{R:α->Prop}(h:Ok m R):Ok (noE m) R:=by
 obtain⟨a,e,ha⟩:=h
 rw[e];exact⟨a,rfl,ha⟩
theorem Ok.ite {b:Bool}{m n:Rs α}{R:α->Prop}(h1:b=true->Ok m R)(h2:b=false->Ok n R):Ok (if b=true then m else n) R:=by
 cases b with
 |true=>rw[if_pos rfl];exact h1 rfl
 |false=>rw[if_neg Bool.false_ne_true];exact h2 rfl
theorem Ok.forN {f:γ->α->Rs γ}(P:Nat->γ->Prop){as:List α}{g:γ}(h0:P 0 g)(hs:∀i a g,as[i]?=some a->P i g->Ok (f g a) (P (i+1))):Ok (forN as g f) (P as.length):=
 let ⟨r,e,h⟩:=UU P h0 λi a g x y=>let ⟨r,e,h⟩:=hs i a g x y;⟨r,e,h⟩
 ⟨r,e,h⟩
theorem G2 {f:γ->Rs ρ}(g:γ):JQ f (.nx g)=f g:=(Eq.refl (f g)).symm.symm
theorem Vh {f:γ->Rs ρ}(r:ρ):JQ f (.ret r)= .ok r:=(Eq.refl (Rs.ok r)).symm.symm
theorem XF (a:α):noE (Rs.ok a)= .ok a:=(Eq.refl (Rs.ok a)).symm.symm
theorem Ok.eq {m:Rs α}{a:α}(h:Ok m (λb=>b=a)):m= .ok a:=by
 obtain⟨b,e,rfl⟩:=h
 exact e
end
end L2
namespace My
noncomputable def QJ (n:Nat)(f:Nat->Nat->Nat)(a:Nat):List Int:=(List.range n).map λb=>(f a b:Int)
noncomputable def YX (n:Nat)(f:Nat->Nat->Nat):List (List Int):=(List.range n).map (QJ n f)
theorem Zu (n:Nat)(f:Nat->Nat->Nat)(a:Nat):(QJ n f a).length=n:=by simp[QJ]
theorem XV (n:Nat)(f:Nat->Nat->Nat):(YX n f).length=n:=by simp[YX]
theorem VD {n:Nat}{f:Nat->Nat->Nat}{a b:Nat}(h:b<n):(QJ n f a)[b]?=some (f a b:Int):=by
 unfold QJ;rw[List.getElem?_map,List.getElem?_range h];rfl
theorem Vr {n:Nat}{f:Nat->Nat->Nat}{a:Nat}(h:a<n):(YX n f)[a]?=some (QJ n f a):=by
 unfold YX;rw[List.getElem?_map,List.getElem?_range h];rfl
theorem Vs {n:Nat}{f g:Nat->Nat->Nat}{a:Nat}(h:∀b,b<n->f a b=g a b):QJ n f a=QJ n g a:=by
 unfold QJ
 exact List.map_congr_left λb hb=>by rw[h b (List.mem_range.mp hb)]
theorem Yn {n:Nat}{f g:Nat->Nat->Nat}(h:∀a b,a<n->b<n->f a b=g a b):YX n f=YX n g:=by
 unfold YX
 exact List.map_congr_left λa ha=>Vs λb hb=>h a b (List.mem_range.mp ha) hb
structure Col (n:Nat)(f:Nat->Nat->Nat):Prop where
 lt:∀a b,a<n->b<n->f a b<n
 r2:∀x y b,x<n->y<n->b<n->f x b=f y b->x=y
structure GoodF (n:Nat)(f:Nat->Nat->Nat):Prop extends Col n f where
 r1:∀a,a<n->f a a=a
 r3:∀a b c,a<n->b<n->c<n->f (f a b) c=f (f a c) (f b c)
theorem GoodF.congr {n:Nat}{f g:Nat->Nat->Nat}(h:GoodF n f)(e:∀a b,a<n->b<n->g a b=f a b):GoodF n g where
 lt a b ha hb:=by rw[e a b ha hb];exact h.lt a b ha hb
 r2 x y b hx hy hb q:=by rw[e x b hx hb,e y b hy hb] at q;exact h.r2 x y b hx hy hb q
 r1 a ha:=by rw[e a a ha ha];exact h.r1 a ha
 r3 a b c ha hb hc:=by
  rw[e a b ha hb,e a c ha hc,e b c hb hc,e _ c (h.lt a b ha hb) hc,e _ _ (h.lt a c ha hc) (h.lt b c hb hc)]
  exact h.r3 a b c ha hb hc
theorem VO:∀(n:Nat) (p:Nat->Nat),(∀a,a<n->p a<n)->(∀a b,a<n->b<n->p a=p b->a=b)->∀y,y<n->∃x,x<n/\p x=y
 |0,_,_,_,y,hy=>absurd hy (Nat.not_lt_zero _)
 |n+1,p,hl,hi,y,hy=>by
  by_cases hh:∃x,x<n+1/\p x=y
  ·exact hh
  ·exfalso
   -- send n to y, and y's place away
   have hne:∀x,x<n+1->p x≠y:=λx hx e=>hh ⟨x,hx,e⟩
   -- among the first n: p', which skips y
   let s:Nat->Nat:=λv=>if v<y then v else v-1
   have hs:∀a,a<n+1->s (p a)<n:=λa ha=>by
    have h1:=hl a ha;have h2:=hne a ha
    show(if p a<y then p a else p a-1)<n
    split<;> lia
   have hsi:∀a b,a<n+1->b<n+1->s (p a)=s (p b)->a=b:=λa b ha hb e=>by
    have h1:=hne a ha;have h2:=hne b hb
    refine hi a b ha hb ?_
    have e':(if p a<y then p a else p a-1)=(if p b<y then p b else p b-1):=e
    split at e'<;> split at e'<;> lia
   obtain⟨x,hx,ex⟩:=VO n (λa=>s (p a)) (λa ha=>hs a (by lia)) (λa b ha hb e=>hsi a b (by lia) (by lia) e) (s (p n)) (hs n (by lia))
   have:=hsi x n (by lia) (by lia) ex
   lia
structure PermN (n:Nat)(p q:Nat->Nat):Prop where
 lt:∀a,a<n->p a<n
 qlt:∀a,a<n->q a<n
 pq:∀a,a<n->p (q a)=a
 qp:∀a,a<n->q (p a)=a
theorem PermN.good {n:Nat}{p q:Nat->Nat}{f:Nat->Nat->Nat}(h:PermN n p q)(g:GoodF n f):GoodF n (λx y=>p (f (q x) (q y))) where
 lt a b ha hb:=h.lt _ (g.lt _ _ (h.qlt a ha) (h.qlt b hb))
 r2 x y b hx hy hb e:=by
  have e1:q (p (f (q x) (q b)))=q (p (f (q y) (q b))):=congrArg q e
  rw[h.qp _ (g.lt _ _ (h.qlt x hx) (h.qlt b hb)),h.qp _ (g.lt _ _ (h.qlt y hy) (h.qlt b hb))] at e1
  have:=g.r2 _ _ _ (h.qlt x hx) (h.qlt y hy) (h.qlt b hb) e1
  rw[←h.pq x hx, ←h.pq y hy,this]
 r1 a ha:=by
  show p (f (q a) (q a))=a
  rw[g.r1 _ (h.qlt a ha),h.pq a ha]
 r3 a b c ha hb hc:=by
  have l1:=g.lt _ _ (h.qlt a ha) (h.qlt b hb)
  have l2:=g.lt _ _ (h.qlt a ha) (h.qlt c hc)
  have l3:=g.lt _ _ (h.qlt b hb) (h.qlt c hc)
  show p (f (q (p (f (q a) (q b)))) (q c))=p (f (q (p (f (q a) (q c)))) (q (p (f (q b) (q c)))))
  rw[h.qp _ l1,h.qp _ l2,h.qp _ l3,g.r3 _ _ _ (h.qlt a ha) (h.qlt b hb) (h.qlt c hc)]
theorem HN {n:Nat}{p:Nat->Nat}(hl:∀a,a<n->p a<n)(hi:∀a b,a<n->b<n->p a=p b->a=b):∃q,PermN n p q:=by
 have ho:=VO n p hl hi
 refine⟨λy=>if h:y<n then Classical.choose (ho y h) else 0,hl,λa ha=>?_,λa ha=>?_,λa ha=>?_⟩
 ·simp only[dif_pos ha];exact(Classical.choose_spec (ho a ha)).1
 ·simp only[dif_pos ha];exact(Classical.choose_spec (ho a ha)).2
 ·simp only[dif_pos (hl a ha)]
  have:=Classical.choose_spec (ho (p a) (hl a ha))
  exact hi _ _ this.1 ha this.2
theorem GH {A B n z:Int}(h:A-B=n*z):A % n=B % n:=by
 have:A=B+n*z:=by lia
 rw[this,Int.add_mul_emod_self_left]
noncomputable def BA (k n a b:Int):Int:=(k*a+(1-k)*b) % n
noncomputable def B4 (k:Int)(n:Nat)(a b:Nat):Nat:=(BA k n a b).toNat
theorem Yo {k:Int}{n:Nat}(hn:0<n)(a b:Nat):((B4 k n a b:Nat):Int)=BA k n a b:=by
 unfold B4
 have:=Int.emod_nonneg (k*a+(1-k)*b) (show(n:Int)≠0 by lia)
 unfold BA
 lia
theorem UA {k:Int}{n:Nat}(hn:0<n)(hk:∀x:Int,(n:Int)∣k*x->(n:Int)∣x):GoodF n (B4 k n) where
 lt a b _ _:=by
  have h:=Yo (k:=k) hn a b
  have:=Int.emod_lt_of_pos (k*a+(1-k)*b) (show 0<(n:Int) by lia)
  unfold BA at h
  lia
 r1 a ha:=by
  have h:=Yo (k:=k) hn a a
  have e:k*(a:Int)+(1-k)*a=a:=by grind
  unfold BA at h
  rw[e,Int.emod_eq_of_lt (by lia) (by lia)] at h
  lia
 r2 x y b hx hy hb e:=by
  have h1:=Yo (k:=k) hn x b
  have h2:=Yo (k:=k) hn y b
  rw[e,h2] at h1
  unfold BA at h1
  have:=Int.emod_eq_emod_iff_emod_sub_eq_zero.mp h1
  have hd:(n:Int)∣k*((y:Int)-x):=by
   have:=Int.dvd_of_emod_eq_zero this
   have e2:(k*(y:Int)+(1-k)*b)-(k*x+(1-k)*b)=k*((y:Int)-x):=by grind
   rwa [e2] at this
  obtain⟨z,hz⟩:=hk _ hd
  have hz1:z<1:=by
   apply Int.lt_of_mul_lt_mul_left (a:=(n:Int)) _ (by lia)
   lia
  have hz2: -1<z:=by
   apply Int.lt_of_mul_lt_mul_left (a:=(n:Int)) _ (by lia)
   lia
  have:z=0:=by lia
  subst this
  lia
 r3 a b c _ _ _:=by
  have e1:=Yo (k:=k) hn a b
  have e2:=Yo (k:=k) hn a c
  have e3:=Yo (k:=k) hn b c
  have e4:=Yo (k:=k) hn (B4 k n a b) c
  have e5:=Yo (k:=k) hn (B4 k n a c) (B4 k n b c)
  have hh:BA k n (B4 k n a b:Nat) c=BA k n (B4 k n a c:Nat) (B4 k n b c:Nat):=by
   rw[e1,e2,e3]
   unfold BA
   have q1:=Int.emod_add_mul_ediv (k*(a:Int)+(1-k)*b) n
   have q2:=Int.emod_add_mul_ediv (k*(a:Int)+(1-k)*c) n
   have q3:=Int.emod_add_mul_ediv (k*(b:Int)+(1-k)*c) n
   generalize (k*(a:Int)+(1-k)*b)/n=d1 at q1
   generalize (k*(a:Int)+(1-k)*c)/n=d2 at q2
   generalize (k*(b:Int)+(1-k)*c)/n=d3 at q3
   generalize (k*(a:Int)+(1-k)*b) % n=m1 at*
   generalize (k*(a:Int)+(1-k)*c) % n=m2 at*
   generalize (k*(b:Int)+(1-k)*c) % n=m3 at*
   refine GH (z:=-k*d1+k*d2+(1-k)*d3) ?_
   grind
  lia
theorem Du {k:Int}{n:Nat}(h:Int.gcd k n=1)(x:Int)(hd:(n:Int)∣k*x):(n:Int)∣x:=by
 have h1:=Int.natAbs_dvd_natAbs.mpr hd
 rw[Int.natAbs_mul,Int.natAbs_natCast] at h1
 have h2:Nat.Coprime n k.natAbs:=by
  have:Nat.gcd k.natAbs n=1:=h
  rw[Nat.gcd_comm] at this
  exact this
 exact Int.natAbs_dvd_natAbs.mp (by rw[Int.natAbs_natCast];exact h2.dvd_of_dvd_mul_left h1)
theorem FD {n:Nat}(x:Int)(hd:(n:Int)∣(-1)*x):(n:Int)∣x:=by
 have:(-1)*x= -x:=by lia
 rw[this] at hd
 exact Int.dvd_neg.mp hd
theorem Jt (n:Nat):GoodF n (λa _=>a):=⟨⟨λ_ _ h _=>h,λ_ _ _ _ _ _ e=>e⟩,λ_ _=>rfl,λ_ _ _ _ _ _=>rfl⟩
theorem K4 {n:Nat}{p:Nat->Nat}(h1:∀a,a<n->p a<n)(h2:∀a,a+1=n->p a=a)(h3:∀x y,x<n->y<n->p x=p y->x=y):GoodF n (λa b=>if b+1=n then p a else a) where
 lt a b ha hb:=by
  show(if b+1=n then p a else a)<n
  split
  ·exact h1 a ha
  ·exact ha
 r1 a ha:=by
  show(if a+1=n then p a else a)=a
  split
  ·next h=>exact h2 a h
  ·rfl
 r2 x y b hx hy hb e:=by
  have e:(if b+1=n then p x else x)=if b+1=n then p y else y:=e
  by_cases h:b+1=n
  ·rw[if_pos h,if_pos h] at e;exact h3 x y hx hy e
  ·rw[if_neg h,if_neg h] at e;exact e
 r3 a b c ha hb hc:=by
  show(if c+1=n then p (if b+1=n then p a else a) else if b+1=n then p a else a)=if(if c+1=n then p b else b)+1=n then p (if c+1=n then p a else a) else if c+1=n then p a else a
  by_cases h:c+1=n
  ·rw[if_pos h,if_pos h,if_pos h]
   by_cases g:b+1=n
   ·rw[if_pos g,h2 b g,if_pos g]
   ·rw[if_neg g,if_neg λz=>g ?_]
    have hp:p b=b:=by
     refine h3 _ _ (h1 b hb) hb (h2 _ z)
    rw[hp] at z
    exact z
  ·rw[if_neg h,if_neg h,if_neg h]
theorem Bm (n:Nat):GoodF n (λa b=>if 2<n/\a<2/\b+1=n then 1-a else a):=by
 by_cases hn:2<n
 ·refine(K4 (n:=n) (p:=λa=>if a<2 then 1-a else a) (λa ha=>?_) (λa ha=>if_neg (by lia)) λx y _ _ e=>?_).congr λa b _ _=>?_
  ·show(if a<2 then 1-a else a)<n
   split
   ·lia
   ·exact ha
  ·have e:(if x<2 then 1-x else x)=if y<2 then 1-y else y:=e
   by_cases h:x<2
   ·by_cases g:y<2
    ·rw[if_pos h,if_pos g] at e;clear hn;lia
    ·rw[if_pos h,if_neg g] at e;clear hn;lia
   ·by_cases g:y<2
    ·rw[if_neg h,if_pos g] at e;clear hn;lia
    ·rw[if_neg h,if_neg g] at e;exact e
  ·show(if 2<n/\a<2/\b+1=n then 1-a else a)=if b+1=n then(if a<2 then 1-a else a) else a
   by_cases g:b+1=n
   ·rw[if_pos g]
    by_cases h:a<2
    ·rw[if_pos h,if_pos ⟨hn,h,g⟩]
    ·rw[if_neg h,if_neg λz=>h z.2.1]
   ·rw[if_neg g,if_neg λz=>g z.2.2]
 ·exact(Jt n).congr λa b _ _=>if_neg λz=>hn z.1
theorem Do (n:Nat):GoodF n (λa b=>if a+1<n/\b+1=n then(if a+2<n then a+1 else 0) else a):=by
 refine(K4 (n:=n) (p:=λa=>if a+1<n then(if a+2<n then a+1 else 0) else a) (λa ha=>?_) (λa ha=>if_neg (by lia)) λx y hx hy e=>?_).congr λa b _ _=>?_
 ·show(if a+1<n then(if a+2<n then a+1 else 0) else a)<n
  split
  ·split
   ·assumption
   ·exact Nat.lt_of_le_of_lt (Nat.zero_le _) ha
  ·exact ha
 ·have e:(if x+1<n then(if x+2<n then x+1 else 0) else x)=if y+1<n then(if y+2<n then y+1 else 0) else y:=e
  by_cases h:x+1<n
  ·rw[if_pos h] at e
   by_cases g:y+1<n
   ·rw[if_pos g] at e
    by_cases h':x+2<n
    ·rw[if_pos h'] at e
     by_cases g':y+2<n
     ·rw[if_pos g'] at e;exact Nat.succ.inj e
     ·rw[if_neg g'] at e;exact nomatch e
    ·rw[if_neg h'] at e
     by_cases g':y+2<n
     ·rw[if_pos g'] at e;exact nomatch e
     ·clear e hx hy;lia
   ·rw[if_neg g] at e
    by_cases h':x+2<n
    ·rw[if_pos h'] at e;clear hx hy h;lia
    ·rw[if_neg h'] at e;clear hx hy h';lia
  ·rw[if_neg h] at e
   by_cases g:y+1<n
   ·rw[if_pos g] at e
    by_cases h':y+2<n
    ·rw[if_pos h'] at e;clear hx hy g;lia
    ·rw[if_neg h'] at e;clear hx hy h';lia
   ·rw[if_neg g] at e;exact e
 ·show(if a+1<n/\b+1=n then(if a+2<n then a+1 else 0) else a)=if b+1=n then(if a+1<n then(if a+2<n then a+1 else 0) else a) else a
  by_cases g:b+1=n
  ·rw[if_pos g]
   by_cases h:a+1<n
   ·rw[if_pos h,if_pos ⟨h,g⟩]
   ·rw[if_neg h,if_neg λz=>h z.1]
  ·rw[if_neg g,if_neg λz=>g z.2]
noncomputable def V0 (h:Nat)(f g:Nat->Nat->Nat)(a b:Nat):Nat:=if a<h/\b<h then f a b else if h<=a/\h<=b then h+g (a-h) (b-h) else a
theorem BU {h m:Nat}{f g:Nat->Nat->Nat}(F:GoodF h f)(G:GoodF m g):GoodF (h+m) (V0 h f g):=by
 have s1:∀a b,a<h->b<h->V0 h f g a b=f a b:=λa b ha hb=>by unfold V0;rw[if_pos ⟨ha,hb⟩]
 have s2:∀a b,V0 h f g (h+a) (h+b)=h+g a b:=λa b=>by unfold V0;rw[if_neg (by lia),if_pos (by lia),Nat.add_sub_cancel_left,Nat.add_sub_cancel_left]
 have s3:∀a b,a<h->V0 h f g a (h+b)=a:=λa b ha=>by unfold V0;rw[if_neg (by lia),if_neg (by lia)]
 have s4:∀a b,b<h->V0 h f g (h+a) b=h+a:=λa b ha=>by unfold V0;rw[if_neg (by lia),if_neg (by lia)]
 have up:∀a,h<=a->∃a',a=h+a':=λa ha=>⟨a-h,by lia⟩
 refine⟨⟨λa b ha hb=>?_,λx y b hx hy hb e=>?_⟩,λa ha=>?_,λa b c ha hb hc=>?_⟩
 ·by_cases h1:a<h<;> by_cases h2:b<h
  ·rw[s1 a b h1 h2];have:=F.lt a b h1 h2;lia
  ·obtain⟨b,rfl⟩:=up b (by lia);rw[s3 a b h1];lia
  ·obtain⟨a,rfl⟩:=up a (by lia);rw[s4 a b h2];lia
  ·obtain⟨a,rfl⟩:=up a (by lia);obtain⟨b,rfl⟩:=up b (by lia)
   rw[s2];have:=G.lt a b (by lia) (by lia);lia
 ·by_cases h1:x<h<;> by_cases h2:y<h<;> by_cases h3:b<h
  ·rw[s1 _ _ h1 h3,s1 _ _ h2 h3] at e;exact F.r2 x y b h1 h2 h3 e
  ·obtain⟨b,rfl⟩:=up b (by lia);rw[s3 _ _ h1,s3 _ _ h2] at e;exact e
  ·obtain⟨y,rfl⟩:=up y (by lia);rw[s1 _ _ h1 h3,s4 _ _ h3] at e;have:=F.lt x b h1 h3;lia
  ·obtain⟨y,rfl⟩:=up y (by lia);obtain⟨b,rfl⟩:=up b (by lia);rw[s3 _ _ h1,s2] at e;lia
  ·obtain⟨x,rfl⟩:=up x (by lia);rw[s4 _ _ h3,s1 _ _ h2 h3] at e;have:=F.lt y b h2 h3;lia
  ·obtain⟨x,rfl⟩:=up x (by lia);obtain⟨b,rfl⟩:=up b (by lia);rw[s2,s3 _ _ h2] at e;lia
  ·obtain⟨x,rfl⟩:=up x (by lia);obtain⟨y,rfl⟩:=up y (by lia);rw[s4 _ _ h3,s4 _ _ h3] at e;exact e
  ·obtain⟨x,rfl⟩:=up x (by lia);obtain⟨y,rfl⟩:=up y (by lia);obtain⟨b,rfl⟩:=up b (by lia)
   rw[s2,s2] at e
   rw[G.r2 x y b (by lia) (by lia) (by lia) (by lia)]
 ·by_cases h1:a<h
  ·rw[s1 _ _ h1 h1,F.r1 a h1]
  ·obtain⟨a,rfl⟩:=up a (by lia);rw[s2,G.r1 a (by lia)]
 ·by_cases h1:a<h<;> by_cases h2:b<h<;> by_cases h3:c<h
  ·rw[s1 a b h1 h2,s1 a c h1 h3,s1 b c h2 h3,s1 _ _ (F.lt a b h1 h2) h3,s1 _ _ (F.lt a c h1 h3) (F.lt b c h2 h3)];exact F.r3 a b c h1 h2 h3
  ·obtain⟨c,rfl⟩:=up c (by lia)
   rw[s1 a b h1 h2,s3 a c h1,s3 b c h2,s3 _ c (F.lt a b h1 h2),s1 a b h1 h2]
  ·obtain⟨b,rfl⟩:=up b (by lia)
   rw[s3 a b h1,s4 b c h3,s1 a c h1 h3,s3 _ b (F.lt a c h1 h3)]
  ·obtain⟨b,rfl⟩:=up b (by lia);obtain⟨c,rfl⟩:=up c (by lia)
   rw[s3 a b h1,s3 a c h1,s2 b c,s3 _ _ h1]
  ·obtain⟨a,rfl⟩:=up a (by lia)
   rw[s4 a b h2,s4 a c h3,s1 b c h2 h3,s4 _ _ (F.lt b c h2 h3)]
  ·obtain⟨a,rfl⟩:=up a (by lia);obtain⟨c,rfl⟩:=up c (by lia)
   rw[s4 a b h2,s2 a c,s3 b c h2,s4 _ _ h2]
  ·obtain⟨a,rfl⟩:=up a (by lia);obtain⟨b,rfl⟩:=up b (by lia)
   rw[s2 a b,s4 _ c h3,s4 a c h3,s4 b c h3,s2 a b]
  ·obtain⟨a,rfl⟩:=up a (by lia);obtain⟨b,rfl⟩:=up b (by lia);obtain⟨c,rfl⟩:=up c (by lia)
   rw[s2 a b,s2 a c,s2 b c,s2,s2,G.r3 a b c (by lia) (by lia) (by lia)]
noncomputable def De (way n k a b:Int):Int:=
 if way=1 then(2*b-a) % n else if way=2 then(k*a+(1-k)*b) % n else if way=3/\n > 2/\a<2/\b=n-1 then 1-a else
 if way=6/\a<n-1/\b=n-1 then(a+1) % (n-1) else if way=4/\a<n/2/\b<n/2 then(2*b-a) % (n/2) else
 if way=4/\a≥n/2/\b≥n/2 then n/2+(2*b-a-n/2) % (n-n/2) else a
noncomputable def KC (way k:Int)(n a b:Nat):Nat:=(De way n k a b).toNat
theorem Us (n:Int)(a b:Int):(2*b-a) % n=BA (-1) n a b:=by
 unfold BA
 congr 1
 lia
theorem Ba {way k:Int}{n:Nat}(hn:0<n)(hk:Int.gcd k n=1):GoodF n (KC way k n)/\∀a b,a<n->b<n->((KC way k n a b:Nat):Int)=De way n k a b:=by
 suffices h:∃f,GoodF n f/\∀a b,a<n->b<n->((f a b:Nat):Int)=De way n k a b by
  obtain⟨f,g,e⟩:=h
  have e2:∀a b,a<n->b<n->KC way k n a b=f a b:=λa b ha hb=>by unfold KC;rw[←e a b ha hb];lia
  exact⟨g.congr e2,λa b ha hb=>by rw[e2 a b ha hb];exact e a b ha hb⟩
 unfold De
 by_cases w1:way=1
 ·refine⟨_,UA (k:= -1) hn FD,λa b ha hb=>?_⟩
  rw[if_pos w1,Yo hn,Us]
 by_cases w2:way=2
 ·refine⟨_,UA (k:=k) hn (Du hk),λa b ha hb=>?_⟩
  rw[if_neg w1,if_pos w2,Yo hn];rfl
 by_cases w3:way=3
 ·refine⟨_,Bm n,λa b ha hb=>?_⟩
  rw[if_neg w1,if_neg w2]
  by_cases c:2<n/\a<2/\b+1=n
  ·rw[if_pos c,if_pos ⟨w3,Int.ofNat_lt.mpr c.1,Int.ofNat_lt.mpr c.2.1,by lia⟩];lia
  ·rw[if_neg c,if_neg (λz=>c ⟨Int.ofNat_lt.mp z.2.1,Int.ofNat_lt.mp z.2.2.1,by lia⟩),if_neg (λz=>absurd (w3.symm.trans z.1) (by decide)),if_neg (λz=>absurd (w3.symm.trans z.1) (by decide)),if_neg (λz=>absurd (w3.symm.trans z.1) (by decide))]
 by_cases w6:way=6
 ·refine⟨_,Do n,λa b ha hb=>?_⟩
  have n3:¬(way=3/\(n:Int) > 2/\(a:Int)<2/\(b:Int)=n-1):=λz=>w3 z.1
  by_cases c:a+1<n/\b+1=n
  ·have y6:way=6/\(a:Int)<n-1/\(b:Int)=n-1:=⟨w6,by lia,by lia⟩
   rw[if_pos c,if_neg w1,if_neg w2,if_neg n3,if_pos y6]
   by_cases c2:a+2<n
   ·rw[if_pos c2,Int.emod_eq_of_lt (by lia) (by lia)];lia
   ·rw[if_neg c2]
    have:(a:Int)+1=(n:Int)-1:=by lia
    rw[this,Int.emod_self];rfl
  ·rw[if_neg c,if_neg w1,if_neg w2,if_neg n3,if_neg (λz=>c ⟨by lia,by lia⟩),if_neg (λz=>absurd (w6.symm.trans z.1) (by decide)),if_neg (λz=>absurd (w6.symm.trans z.1) (by decide))]
 by_cases w4:way=4
 ·have hh:∀m:Nat,0<m->GoodF m (B4 (-1) m):=λm hm=>UA hm FD
  by_cases h0:n/2=0
  ·have hn1:n=1:=by lia
   subst hn1
   refine⟨_,Jt 1,λa b ha hb=>?_⟩
   have:a=0:=by lia
   have:b=0:=by lia
   subst a b
   rw[if_neg w1,if_neg w2,if_neg (λz=>w3 z.1),if_neg (λz=>w6 z.1),if_neg (λz=>by lia),if_pos ⟨w4,by lia,by lia⟩]
   decide
  ·have g:=BU (hh (n/2) (by lia)) (hh (n-n/2) (by lia))
   rw[show n/2+(n-n/2)=n by lia] at g
   refine⟨_,g,λa b ha hb=>?_⟩
   have hc:((n/2:Nat):Int)=(n:Int)/2:=by lia
   rw[if_neg w1,if_neg w2,if_neg (λz=>w3 z.1),if_neg (λz=>w6 z.1)]
   unfold V0
   by_cases c1:a<n/2/\b<n/2
   ·rw[if_pos c1,if_pos ⟨w4,by lia,by lia⟩,Yo (by lia), ←Us,hc]
   ·have m4:¬(way=4/\(a:Int)<(n:Int)/2/\(b:Int)<(n:Int)/2):=λz=>c1 ⟨by lia,by lia⟩
    rw[if_neg c1,if_neg m4]
    by_cases c2:n/2<=a/\n/2<=b
    ·have y4:way=4/\(a:Int)≥(n:Int)/2/\(b:Int)≥(n:Int)/2:=⟨w4,by lia,by lia⟩
     rw[if_pos c2,if_pos y4]
     have hm:(((n-n/2:Nat)):Int)=(n:Int)-(n:Int)/2:=by lia
     have:=Yo (k:=-1) (n:=n-n/2) (by lia) (a-n/2) (b-n/2)
     rw[←Us,hm] at this
     rw[show 2*(b:Int)-a-(n:Int)/2=2*((b-n/2:Nat):Int)-((a-n/2:Nat):Int) by lia, ←this]
     lia
    ·rw[if_neg c2,if_neg (λz=>c2 ⟨by lia,by lia⟩)]
 refine⟨_,Jt n,λa b ha hb=>?_⟩
 rw[if_neg w1,if_neg w2,if_neg (λz=>w3 z.1),if_neg (λz=>w6 z.1),if_neg (λz=>w4 z.1),if_neg (λz=>w4 z.1)]
noncomputable def JS (a b:Nat):Nat:=(([[0,3,1,2],[2,1,3,0],[3,0,2,1],[1,2,0,3]]:List (List Nat)).getD a []).getD b 0
theorem DQ:GoodF 4 JS:=by
 have h1:∀a,a<4->∀b,b<4->JS a b<4:=by decide+kernel
 have h2:∀b,b<4->∀x,x<4->∀y,y<4->JS x b=JS y b->x=y:=by decide+kernel
 have h3:∀a,a<4->JS a a=a:=by decide+kernel
 have h4:∀a,a<4->∀b,b<4->∀c,c<4->JS (JS a b) c=JS (JS a c) (JS b c):=by decide+kernel
 exact⟨⟨λa b ha hb=>h1 a ha b hb,λx y b hx hy hb=>h2 b hb x hx y hy⟩,h3,λa b c ha hb hc=>h4 a ha b hb c hc⟩
theorem Eg:YX 4 JS=[[0,3,1,2],[2,1,3,0],[3,0,2,1],[1,2,0,3]]:=by decide+kernel
end My
namespace My
open PySem L2
theorem VB {n:Nat}{f:Nat->Nat->Nat}{a:Nat}(h:a<n):atR (YX n f) (a:Int)= .ok (QJ n f a):=YM (Vr h)
theorem U9 {n:Nat}{f:Nat->Nat->Nat}{a b:Nat}(h:b<n):atR (QJ n f a) (b:Int)= .ok (f a b:Int):=YM (VD h)
theorem QV {α:Type}{as:List α}{i:Nat}{a:α}(h:i<as.length):Jq as (i:Int) a= .ok (as.set i a):=by
 unfold Jq ixN
 rw[if_pos (by lia),if_pos (by lia)]
 simp
theorem HK {n:Nat}{f:Nat->Nat->Nat}{a b v:Nat}:(QJ n f a).set b (v:Int)=QJ n (λx y=>if x=a/\y=b then v else f x y) a:=by
 apply List.ext_getElem?
 intro j
 by_cases hj:j<n
 ·rw[VD hj]
  by_cases e:j=b
  ·subst e;rw[List.getElem?_set_self (by rw[Zu];exact hj)];simp
  ·rw[List.getElem?_set_ne (λz=>e z.symm),VD hj];simp[e]
 ·rw[List.getElem?_eq_none (by rw[List.length_set,Zu];lia),List.getElem?_eq_none (by rw[Zu];lia)]
theorem BM {n:Nat}{f:Nat->Nat->Nat}{a b v:Nat}(ha:a<n):(YX n f).set a ((QJ n f a).set b (v:Int))=YX n (λx y=>if x=a/\y=b then v else f x y):=by
 apply List.ext_getElem?
 intro j
 by_cases hj:j<n
 ·rw[Vr hj]
  by_cases e:j=a
  ·subst e;rw[List.getElem?_set_self (by rw[XV];exact hj),HK]
  ·rw[List.getElem?_set_ne (λz=>e z.symm),Vr hj]
   congr 1
   exact Vs λy _=>by simp[e]
 ·rw[List.getElem?_eq_none (by rw[List.length_set,XV];lia),List.getElem?_eq_none (by rw[XV];lia)]
noncomputable def KI (n:Nat)(sp:List Int)(p q:Nat->Nat):Prop:=PermN n p q/\sp=(List.range n).map λi=>((p i:Nat):Int)
theorem KI.get {n:Nat}{sp:List Int}{p q:Nat->Nat}(h:KI n sp p q){i:Nat}(hi:i<n):atR sp (i:Int)= .ok ((p i:Nat):Int):=YM (by rw[h.2,List.getElem?_map,List.getElem?_range hi];rfl)
theorem Cd {as:List Int}{i:Nat}(h:i<as.length)(hl:as.length<=100000):Dx as (i:Int)= .ok (as[i],as.eraseIdx i):=by
 unfold Dx
 rw[XG (by lia)]
 have e:seqIndex? (i:Int) as.length=some i:=by
  unfold seqIndex?
  have h0:¬((i:Int)<0):=by lia
  simp[h0,h]
 rw[e]
 simp[h]
theorem EG {n:Nat}{sp:List Int}(h:sp.Perm ((List.range n).map λ(i:Nat)=>(i:Int))):∃p q,KI n sp p q:=by
 have hl:sp.length=n:=by have:=h.length_eq;simpa using this
 have hlt:∀i,i<n->∃k:Nat,k<n/\sp[i]?=some (k:Int):=λi hi=>by
  have hm:sp[i]'(by lia)∈(List.range n).map λ(i:Nat)=>(i:Int):=h.mem_iff.mp (List.getElem_mem _)
  obtain⟨k,hk,e⟩:=Zs hm
  exact⟨k,hk,by rw[List.getElem?_eq_getElem (by lia),e]⟩
 let p:Nat->Nat:=λi=>(sp[i]?.getD 0).toNat
 have hp:∀i,i<n->p i<n/\sp[i]?=some (p i:Int):=λi hi=>by
  obtain⟨k,hk,e⟩:=hlt i hi
  have:p i=k:=by simp[p,e]
  rw[this];exact⟨hk,e⟩
 have nd:sp.Nodup:=h.nodup_iff.mpr (by
  rw[List.nodup_iff_pairwise_ne,List.pairwise_map]
  exact List.nodup_range.imp fun {a b} h e=>h (by lia))
 obtain⟨q,hq⟩:=HN (n:=n) (p:=p) (λa ha=>(hp a ha).1) λa b ha hb e=>by
  have h1:=(hp a ha).2
  have h2:=(hp b hb).2
  rw[←e] at h2
  exact(List.getElem?_inj (by lia) nd).mp (h1.trans h2.symm)
 refine⟨p,q,hq,?_⟩
 apply List.ext_getElem?
 intro i
 by_cases hi:i<n
 ·rw[(hp i hi).2,List.getElem?_map,List.getElem?_range hi];rfl
 ·rw[List.getElem?_eq_none (by lia),List.getElem?_eq_none (by simp;lia)]
theorem JF:∀{as:List Int}{i:Nat} (h:i<as.length),(as[i]::as.eraseIdx i).Perm as
 |a::as,0,_=>by simp
 |a::as,i+1,h=>by
  have:=JF (as:=as) (i:=i) (by simpa using h)
  simp only[List.getElem_cons_succ,List.eraseIdx_cons_succ]
  exact(List.Perm.swap _ _ _).trans (this.cons a)
theorem EB {α:Type}(as:List α){k:Nat}(h:k<=as.length):Gu as (some (k:Int)) none=as.drop k:=by
 unfold Gu
 rw[HT.sIx_nat,HT.sIx_none,Nat.min_eq_left h,List.take_of_length_le (by rw[List.length_drop];lia)]
end My
namespace My
theorem Qr (names:List Int):(names.flatMap λx=>[x,-x]).length=2*names.length:=by
 induction names with
 |nil=>rfl
 |cons x r ih=>rw[List.flatMap_cons,List.length_append,ih];simp;lia
theorem JE {α:Type}:∀{l:List α}{k:Nat}{y:α},l[k]?=some y->(y::l.eraseIdx k).Perm l
 | [],_,_,e=>by simp at e
 |a::r,0,y,e=>by
  have e':a=y:=by simpa using e
  subst e';exact List.Perm.refl _
 |a::r,k+1,y,e=>by
  have e':r[k]?=some y:=by simpa using e
  show(y::a::r.eraseIdx k).Perm (a::r)
  exact(List.Perm.swap a y _).trans (List.Perm.cons a (JE e'))
theorem KE {α:Type}{l:List α}{k:Nat}{y:α}(e:l[k]?=some y):(l.eraseIdx k).length+1=l.length:=by
 have:=(JE e).length_eq
 simpa using this
theorem G9 {α:Type}:∀{ws:List (List α)}{j:Nat}{w:List α}{y:α},ws[j]?=some w->((ws.set j (w++[y])).flatten).Perm (y::ws.flatten)
 | [],_,_,_,e=>by simp at e
 |a::r,0,w,y,e=>by
  have e':a=w:=by simpa using e
  subst e'
  show((a++[y])++r.flatten).Perm (y::(a++r.flatten))
  rw[List.append_assoc]
  exact List.perm_middle
 |a::r,j+1,w,y,e=>by
  have e':r[j]?=some w:=by simpa using e
  show(a++(r.set j (w++[y])).flatten).Perm (y::(a++r.flatten))
  exact(List.Perm.append_left a (G9 e')).trans List.perm_middle
theorem Cz {α:Type}{ws:List (List α)}{j k:Nat}{w l:List α}{y:α}(e:ws[j]?=some w)(e3:l[k]?=some y):((ws.set j (w++[y])).flatten++l.eraseIdx k).Perm (ws.flatten++l):=by
 refine((G9 (y:=y) e).append_right _).trans ?_
 rw[List.cons_append]
 refine List.perm_middle.symm.trans ?_
 exact List.Perm.append_left _ (JE e3)
theorem mem_set {α:Type}:∀{l:List α}{j:Nat}{v x:α},x∈l.set j v->x∈l∨x=v
 | [],_,_,_,h=>by simp at h
 |a::r,0,v,x,h=>by
  rw[List.set_cons_zero] at h
  rcases List.mem_cons.mp h with h |h
  ·exact .inr h
  ·exact .inl (List.mem_cons_of_mem _ h)
 |a::r,j+1,v,x,h=>by
  rw[List.set_cons_succ] at h
  rcases List.mem_cons.mp h with h |h
  ·exact .inl (by rw[h];exact List.mem_cons_self)
  ·rcases mem_set h with h |h
   ·exact .inl (List.mem_cons_of_mem _ h)
   ·exact .inr h
theorem Kx:∀{l:List Bool}{j:Nat},l[j]?=some false->(l.set j true).count false+1=l.count false
 | [],_,e=>by simp at e
 |a::r,0,e=>by
  have e':a=false:=by simpa using e
  subst e';simp
 |a::r,j+1,e=>by
  have e':r[j]?=some false:=by simpa using e
  have ih:=Kx e'
  rw[List.set_cons_succ,List.count_cons,List.count_cons]
  lia
end My
namespace My
noncomputable def K9 (r:Int×Int)(at':Int):List Int:=if at'=r.1 then[r.2] else if at'=r.1+1 then[-r.2] else[]
noncomputable def V8 (r:Int×Int)(at':Int):Int:=if at'=r.1 then r.1+1 else if at'=r.1+1 then r.1 else at'
noncomputable def Ef:List (Int×Int)->Int->Int
 | [],a=>a
 |r::rs,a=>Ef rs (V8 r a)
noncomputable def GL:List (Int×Int)->Int->List Int
 | [],_=>[]
 |r::rs,a=>K9 r a++GL rs (V8 r a)
theorem Bv (rs:List (Int×Int))(r:Int×Int):∀a,Ef (rs++[r]) a=V8 r (Ef rs a):=by
 induction rs with
 |nil=>intro a;rfl
 |cons q rs ih=>intro a;exact ih _
theorem Cq (rs:List (Int×Int))(r:Int×Int):∀a,GL (rs++[r]) a=GL rs a++K9 r (Ef rs a):=by
 induction rs with
 |nil=>intro a;simp[GL,Ef]
 |cons q rs ih=>intro a;simp[GL,Ef,ih]
theorem GP {S:Int}{r:Int×Int}{a:Int}(h0:0<=r.1)(h1:r.1+1<S)(a0:0<=a)(a1:a<S):0<=V8 r a/\V8 r a<S:=by
 unfold V8
 split
 ·lia
 ·split<;> lia
noncomputable def Dz (S:Nat):List Int:=(List.range S).map λ(k:Nat)=>(k:Int)
theorem Qy {S:Nat}{x:Int}:x∈Dz S↔0<=x/\x<(S:Int):=by
 unfold Dz
 rw[List.mem_map]
 constructor
 ·rintro⟨k,hk,rfl⟩
  have:=List.mem_range.mp hk
  lia
 ·rintro⟨h0,h1⟩
  exact⟨x.toNat,List.mem_range.mpr (by lia),by lia⟩
theorem Qb {α β:Type}{f:α->β}:∀{l:List α},(∀a b,a∈l->b∈l->f a=f b->a=b)->l.Nodup->(l.map f).Nodup
 | [],_,_=>List.nodup_nil
 |a::r,h,nd=>by
  rw[List.map_cons,List.nodup_cons]
  refine⟨λm=>?_,Qb (λx y hx hy=>h x y (List.mem_cons_of_mem _ hx) (List.mem_cons_of_mem _ hy)) (List.nodup_cons.mp nd).2⟩
  obtain⟨b,hb,e⟩:=List.mem_map.mp m
  have:=h b a (List.mem_cons_of_mem _ hb) List.mem_cons_self e
  exact(List.nodup_cons.mp nd).1 (by rw[←this];exact hb)
theorem Qz (S:Nat):(Dz S).Nodup:=Qb (λa b _ _ e=>by lia) List.nodup_range
theorem JA {α:Type}[DecidableEq α]:∀{l m:List α},l.Nodup->m.Nodup->(∀x,x∈l↔x∈m)->l.Perm m
 | [],m,_,_,h=>by
  cases m with
  |nil=>exact List.Perm.refl _
  |cons a r=>exact absurd ((h a).mpr List.mem_cons_self) (by simp)
 |a::r,m,nl,nm,h=>by
  have ha:a∈m:=(h a).mp List.mem_cons_self
  have hp:m.Perm (a::m.erase a):=List.perm_cons_erase ha
  refine List.Perm.trans (List.Perm.cons a ?_) hp.symm
  have nd2:(a::m.erase a).Nodup:=hp.nodup_iff.mp nm
  refine JA (List.nodup_cons.mp nl).2 (List.nodup_cons.mp nd2).2 λx=>?_
  constructor
  ·intro hx
   have hxa:x≠a:=λe=>(List.nodup_cons.mp nl).1 (by rw[←e];exact hx)
   have:x∈a::m.erase a:=hp.mem_iff.mp ((h x).mp (List.mem_cons_of_mem _ hx))
   exact(List.mem_cons.mp this).resolve_left hxa
  ·intro hx
   have hxa:x≠a:=λe=>(List.nodup_cons.mp nd2).1 (e▸hx)
   have:x∈a::r:=(h x).mpr (hp.mem_iff.mpr (List.mem_cons_of_mem _ hx))
   exact(List.mem_cons.mp this).resolve_left hxa
theorem DY {S:Nat}{r:Int×Int}(h0:0<=r.1)(h1:r.1+1<(S:Int)):((Dz S).map (V8 r)).Perm (Dz S):=by
 refine JA (Qb (λa b _ _ e=>?_) (Qz S)) (Qz S) λx=>?_
 ·unfold V8 at e
  split at e<;> split at e<;> (try split at e)<;> (try split at e)<;> lia
 ·rw[List.mem_map,Qy]
  constructor
  ·rintro⟨a,ha,rfl⟩
   have:=Qy.mp ha
   exact GP h0 h1 this.1 this.2
  ·rintro⟨x0,x1⟩
   refine⟨V8 r x,Qy.mpr (GP h0 h1 x0 x1),?_⟩
   unfold V8
   split<;> (try split)<;> (try split)<;> lia
theorem ZN {α β:Type}(f:α->List β){l m:List α}(h:l.Perm m):(l.flatMap f).Perm (m.flatMap f):=by
 induction h with
 |nil=>exact List.Perm.refl _
 |cons x _ ih=>rw[List.flatMap_cons,List.flatMap_cons];exact List.Perm.append_left _ ih
 |swap x y l=>
  rw[List.flatMap_cons,List.flatMap_cons,List.flatMap_cons,List.flatMap_cons, ←List.append_assoc, ←List.append_assoc]
  exact List.Perm.append_right _ List.perm_append_comm
 |trans _ _ ih1 ih2=>exact ih1.trans ih2
theorem VF {α β:Type}(f g:α->List β):∀l:List α,(l.flatMap λx=>f x++g x).Perm (l.flatMap f++l.flatMap g)
 | []=>List.Perm.refl _
 |a::r=>by
  rw[List.flatMap_cons,List.flatMap_cons,List.flatMap_cons]
  refine(List.Perm.append_left _ (VF f g r)).trans ?_
  rw[List.append_assoc,List.append_assoc]
  refine List.Perm.append_left _ ?_
  rw[←List.append_assoc, ←List.append_assoc]
  exact List.Perm.append_right _ List.perm_append_comm
theorem Q0 {α β:Type}(f:α->List β):∀{l:List α},(∀x∈l,f x=[])->l.flatMap f=[]
 | [],_=>rfl
 |a::r,h=>by rw[List.flatMap_cons,h a List.mem_cons_self,Q0 f λx hx=>h x (List.mem_cons_of_mem _ hx)];rfl
theorem EL {S:Nat}{r:Int×Int}(h0:0<=r.1)(h1:r.1+1<(S:Int)):((Dz S).flatMap (K9 r)).Perm [r.2,-r.2]:=by
 have ha:r.1∈Dz S:=Qy.mpr ⟨h0,by lia⟩
 have hp:=List.perm_cons_erase ha
 have nd:=hp.nodup_iff.mp (Qz S)
 have hb:r.1+1∈(Dz S).erase r.1:=by
  have:r.1+1∈r.1::(Dz S).erase r.1:=hp.mem_iff.mp (Qy.mpr ⟨by lia,h1⟩)
  exact(List.mem_cons.mp this).resolve_left (by lia)
 have hq:=List.perm_cons_erase hb
 have nd2:=hq.nodup_iff.mp (List.nodup_cons.mp nd).2
 refine(ZN _ (hp.trans (List.Perm.cons _ hq))).trans ?_
 rw[List.flatMap_cons,List.flatMap_cons,Q0]
 ·unfold K9
  rw[if_pos rfl,if_neg (by lia),if_pos rfl]
  exact List.Perm.refl _
 ·intro x hx
  have x2:x≠r.1+1:=λe=>(List.nodup_cons.mp nd2).1 (e▸hx)
  have x1:x≠r.1:=λe=>(List.nodup_cons.mp nd).1 (e▸hq.mem_iff.mpr (List.mem_cons_of_mem _ hx))
  unfold K9
  rw[if_neg x1,if_neg x2]
theorem flatMap_map {α β γ:Type}(f:α->β)(g:β->List γ)(l:List α):(l.map f).flatMap g=l.flatMap λx=>g (f x):=by
 induction l with
 |nil=>rfl
 |cons a r ih=>rw[List.map_cons,List.flatMap_cons,List.flatMap_cons,ih]
theorem G1 {S:Nat}:∀{rs:List (Int×Int)},(∀r∈rs,0<=r.1/\r.1+1<(S:Int))->((Dz S).flatMap (GL rs)).Perm (rs.flatMap λr=>[r.2,-r.2])
 | [],_=>by rw[Q0 (GL []) (λx _=>rfl)];exact List.Perm.refl _
 |r::rs,h=>by
  obtain⟨h0,h1⟩:=h r List.mem_cons_self
  rw[List.flatMap_cons]
  refine(VF (K9 r) (λa=>GL rs (V8 r a)) (Dz S)).trans ?_
  refine List.Perm.append (EL h0 h1) ?_
  rw[←flatMap_map (V8 r) (GL rs)]
  exact(ZN _ (DY h0 h1)).trans (G1 λq hq=>h q (List.mem_cons_of_mem _ hq))
theorem Ll {x s:Int}(h:s=1∨s= -1): [x*s,-(x*s)].Perm [x,-x]:=by
 rcases h with h |h
 ·subst h;simp
 ·subst h
  have e1:x* -1= -x:=by lia
  have e2: -(-x)=x:=by lia
  rw[e1,e2]
  exact List.Perm.swap _ _ _
theorem Q6 {α β:Type}{f g:α->List β}:∀{l:List α},(∀x∈l,(f x).Perm (g x))->(l.flatMap f).Perm (l.flatMap g)
 | [],_=>List.Perm.refl _
 |a::r,h=>by
  rw[List.flatMap_cons,List.flatMap_cons]
  exact List.Perm.append (h a List.mem_cons_self) (Q6 λx hx=>h x (List.mem_cons_of_mem _ hx))
end My
namespace My
theorem Lg {r:Int×Int}{a:Int}(h:a=r.1):K9 r a=[r.2]:=by unfold K9;rw[if_pos h]
theorem I9 {r:Int×Int}{a:Int}(h:a=r.1+1):K9 r a=[-r.2]:=by unfold K9;rw[if_neg (by lia),if_pos h]
theorem IV {r:Int×Int}{a:Int}(h:¬a=r.1)(h2:¬a=r.1+1):K9 r a=[]:=by unfold K9;rw[if_neg h,if_neg h2]
theorem Io {r:Int×Int}{a:Int}(h:a=r.1):V8 r a=r.1+1:=by unfold V8;rw[if_pos h]
theorem IL {r:Int×Int}{a:Int}(h:a=r.1+1):V8 r a=r.1:=by unfold V8;rw[if_neg (by lia),if_pos h]
theorem IZ {r:Int×Int}{a:Int}(h:¬a=r.1)(h2:¬a=r.1+1):V8 r a=a:=by unfold V8;rw[if_neg h,if_neg h2]
structure Done (S:Int)(seen:List Bool)(ps:List Int):Prop where
 nd:ps.Nodup
 at':∀p∈ps,0<=p/\p<S/\seen[p.toNat]?=some true
 of:∀q:Nat,seen[q]?=some true->(q:Int)∈ps
theorem Done.none (S:Int)(n:Nat):Done S (List.replicate n false) []:=
 ⟨List.nodup_nil,λp h=>by simp at h,λq h=>by
  rw[List.getElem?_replicate] at h
  split at h<;> cases h⟩
theorem UI {l:List Bool}{j q:Nat}(h:l[q]?=some true):(l.set j true)[q]?=some true:=by
 by_cases e:j=q
 ·subst e
  rw[List.getElem?_set_self (List.getElem?_eq_some_iff.mp h).1]
 ·rw[List.getElem?_set_ne e];exact h
theorem Done.snoc {S:Int}{seen:List Bool}{ps:List Int}{a:Int}(h:Done S seen ps)(a0:0<=a)(a1:a<S)(e:seen[a.toNat]?=some false):Done S (seen.set a.toNat true) (ps++[a]):=by
 have hl:a.toNat<seen.length:=(List.getElem?_eq_some_iff.mp e).1
 have hn:a∉ps:=λm=>by
  have:=(h.at' a m).2.2
  rw[e] at this;cases this
 refine⟨?_,λp hp=>?_,λq hq=>?_⟩
 ·rw[List.nodup_append]
  refine⟨h.nd,by simp,λx hx y hy=>?_⟩
  rw[List.mem_singleton.mp hy]
  exact λe=>hn (e▸hx)
 ·rcases List.mem_append.mp hp with hp |hp
  ·obtain⟨h1,h2,h3⟩:=h.at' p hp
   exact⟨h1,h2,UI h3⟩
  ·rw[List.mem_singleton.mp hp]
   exact⟨a0,a1,by rw[List.getElem?_set_self hl]⟩
 ·by_cases hqa:a.toNat=q
  ·exact List.mem_append_right _ (List.mem_singleton.mpr (by lia))
  ·rw[List.getElem?_set_ne hqa] at hq
   exact List.mem_append_left _ (h.of q hq)
theorem Done.all {S:Int}{seen:List Bool}{ps:List Int}(h:Done S seen ps)(hl:seen.length=S.toNat)(h0:0<=S)(ha:∀q:Nat,q<S.toNat->seen[q]?=some true):ps.Perm (Dz S.toNat):=by
 refine JA h.nd (Qz _) λx=>?_
 rw[Qy]
 constructor
 ·intro hx
  obtain⟨h1,h2,_⟩:=h.at' x hx
  lia
 ·rintro⟨x0,x1⟩
  have:=h.of x.toNat (ha x.toNat (by lia))
  rw[show((x.toNat:Nat):Int)=x by lia] at this
  exact this
theorem Ft {seen:List Bool}{i:Nat}(h:∀q:Nat,q<i->seen[q]?=some true)(hi:seen[i]?=some true):∀q:Nat,q<i+1->seen[q]?=some true:=λq hq=>by
 by_cases e:q=i
 ·subst e;exact hi
 ·exact h q (by lia)
end My
namespace My
open PySem L2
theorem Bl (ns:List Int){p:Int}(hp:0<=p):∃c,Vg ns p= .ok c:=by
 unfold Vg
 simp only[Rs.okb]
 by_cases h:p<(ns.length:Int)
 ·rw[decide_eq_true h,if_pos rfl]
  have hl:p.toNat<ns.length:=by lia
  exact⟨ns[p.toNat],LJ hp (by simp[hl])⟩
 ·rw[decide_eq_false h,if_neg Bool.false_ne_true]
  obtain⟨g,e,_⟩:=UU (as:=Gu ns none (some 63)) (g:=(5:Int)) (f:=λg15 a17=>(Rs.bind (Rs.bind (Rs.bind (Rs.bind (QP g15 48271) λx25=>(Rs.bind (QG a17 1000003) λx26=>(Rs.ok (x25+x26)))) λx27=>Rs.ok (x27+1)) λx29=>QG x29 2147483647) λa19=>(Rs.ok (a19)))) (λ_ _=>True) True.intro λi a g _ _=>by
   rw[Qe (by decide) (by decide),Rs.ok_bind,YN (by decide),Rs.ok_bind,Rs.ok_bind,Rs.ok_bind,YN (by decide),Rs.ok_bind]
   exact⟨_,rfl,True.intro⟩
  rw[e,Rs.ok_bind,Zw (by decide) (by decide),Rs.ok_bind,Rs.ok_bind,YN (by decide)]
  exact⟨_,rfl⟩
theorem Hk (c:Int){k:Int}(h0:0<=k)(h1:k<=100000):∃y,Gs c k= .ok y/\0<=y:=by
 unfold Gs
 simp only[Rs.okb]
 have hm:0<=c % 2147483629/\c % 2147483629<2147483629:=⟨Int.emod_nonneg _ (by decide),Int.emod_lt_of_pos _ (by decide)⟩
 rw[YN (by decide),Rs.ok_bind,Zw (by decide) (by decide),Rs.ok_bind,Rs.ok_bind,Rs.ok_bind,CJ (by decide) (by decide) (by lia) (by lia),Rs.ok_bind,YN (by decide),Rs.ok_bind]
 rw[Qe (by decide) (by decide),Rs.ok_bind,Zw (by decide) (by decide),Rs.ok_bind,Qe (by lia) (by lia),Rs.ok_bind,Rs.ok_bind,Rs.ok_bind,YN (by decide),Rs.ok_bind,DT (by decide) (by decide)]
 exact⟨_,rfl,Int.ediv_nonneg (Int.emod_nonneg _ (by decide)) (by decide)⟩
theorem Hg (ns:List Int){p:Int}(hp:0<=p)(sizes:List Int)(hl:sizes.length<=100000)(hs:∀x∈sizes,0<x/\x<2^250):
  Ok (KP ns p sizes) λr=>r.length=sizes.length/\∀(i:Nat) x s,r[i]?=some x->sizes[i]?=some s->0<=x/\x<s:=by
 obtain⟨c,ec⟩:=Bl ns hp
 unfold KP
 simp only[Rs.okb]
 rw[ec,show noE (Rs.ok c)= .ok c from rfl,Rs.ok_bind,Y4 (by lia),Rs.ok_bind,CJ (by decide) (by decide) (by decide) (by decide)]
 simp only[Rs.okb]
 have key:∀(i:Nat) (a:Int) (g:List Int×Int),((List.range sizes.length).map λ(i:Nat)=>(i:Int))[i]?=some a->(g.1.length=i/\∀(j:Nat) x s,g.1[j]?=some x->sizes[j]?=some s->0<=x/\x<s)->∀y z:Int,∀s,sizes[i]?=some s->0<=y/\y<s->((g.1++[y],z).1.length=i+1/\∀(j:Nat) x s,(g.1++[y],z).1[j]?=some x->sizes[j]?=some s->0<=x/\x<s):=by
  intro i a g ha ⟨hg,hq⟩ y z s hs1 hy
  refine⟨by simp[hg],λj x s' hx hs'=>?_⟩
  have hx:(g.1++[y])[j]?=some x:=hx
  rcases Nat.lt_trichotomy j i with hj |hj |hj
  ·rw[List.getElem?_append_left (by lia)] at hx;exact hq j x s' hx hs'
  ·subst hj
   rw[List.getElem?_append_right (by lia),hg,Nat.sub_self] at hx
   have:y=x:=by simpa using hx
   rw[hs1] at hs'
   cases hs'
   rw[←this];exact hy
  ·rw[List.getElem?_eq_none (by simp;lia)] at hx;cases hx
 refine Ok.bind (Ok.forN (λi (g:List Int×Int)=>g.1.length=i/\∀(j:Nat) x s,g.1[j]?=some x->sizes[j]?=some s->0<=x/\x<s) ⟨rfl,λj x s h _=>by simp at h⟩ λi a g ha hg=>?_) (T:=λ(r:List Int)=>r.length=sizes.length/\∀(i:Nat) x s,r[i]?=some x->sizes[i]?=some s->0<=x/\x<s) λg ⟨hg,hq⟩=>?_
 ·obtain⟨rfl,hi⟩:=Ya ha
  have hsz:sizes[i]?=some sizes[i]:=by simp[hi]
  have hsp:=hs _ (List.getElem_mem hi)
  have hgl:g.1.length<sizeLine:=F3 (by have:=hg.1;lia)
  by_cases hc:c<10^(18:Int).toNat
  ·rw[decide_eq_true hc,if_pos rfl]
   obtain⟨y,ey,hy⟩:=Hk c (k:=(i:Int)) (by lia) (by lia)
   rw[ey,show noE (Rs.ok y)= .ok y from rfl,Rs.ok_bind,YM hsz,Rs.ok_bind,YN hsp.1,Rs.ok_bind,XG hgl]
   exact⟨_,rfl,key i _ g ha hg _ _ _ hsz ⟨Int.emod_nonneg _ (by lia),Int.emod_lt_of_pos _ hsp.1⟩⟩
  ·rw[decide_eq_false hc,if_neg Bool.false_ne_true]
   by_cases hq:0<g.2
   ·rw[decide_eq_true hq,if_pos rfl,YM hsz,Rs.ok_bind,YN hsp.1,Rs.ok_bind,XG hgl]
    simp only[Rs.okb]
    rw[DT hsp.1 hsp.2]
    exact⟨_,rfl,key i _ g ha hg _ _ _ hsz ⟨Int.emod_nonneg _ (by lia),Int.emod_lt_of_pos _ hsp.1⟩⟩
   ·rw[decide_eq_false hq,if_neg Bool.false_ne_true,YN (by decide),Rs.ok_bind]
    obtain⟨c2,ec2⟩:=Bl ns (p:=(p+1+(i:Int)) % 63) (Int.emod_nonneg _ (by decide))
    obtain⟨y,ey,hy⟩:=Hk c2 (k:=(i:Int)) (by lia) (by lia)
    rw[ec2,show noE (Rs.ok c2)= .ok c2 from rfl,Rs.ok_bind,ey,show noE (Rs.ok y)= .ok y from rfl,Rs.ok_bind,YM hsz,Rs.ok_bind,YN hsp.1,Rs.ok_bind,XG hgl]
    exact⟨_,rfl,key i _ g ha hg _ _ _ hsz ⟨Int.emod_nonneg _ (by lia),Int.emod_lt_of_pos _ hsp.1⟩⟩
 ·rw[XX] at hg
  exact⟨g.1,rfl,hg,hq⟩
theorem Z2 {α:Type}{r:List α}{k:Int}{n:Nat}(e:k=(n:Int))(h:n<r.length):atR r k= .ok r[n]:=by
 subst e;exact YM (by simp[h])
theorem Jl {γ:Type}{c:γ->Rs Bool}{f:γ->Rs γ}(P:γ->Prop)(μ:γ->Nat)(hs:∀g,P g->∃b,c g= .ok b/\(b=true->Ok (f g) λg'=>P g'/\μ g'<μ g)):∀(n:Nat) (g:γ),P g->μ g<n->Ok (QK n g c f) λg'=>P g'/\c g'= .ok false
 |0,_,_,h=>by lia
 |n+1,g,hp,hm=>by
  obtain⟨b,hb,h⟩:=hs g hp
  show Ok ((c g).bind _) _
  rw[hb,Rs.okb]
  cases b with
  |false=>rw[if_neg Bool.false_ne_true];exact⟨g,rfl,hp,hb⟩
  |true=>
   rw[if_pos rfl]
   exact Ok.bind (h rfl) λg' h'=>Jl P μ hs n g' h'.1 (by lia)
theorem ZR {r:List Int}{k:Int}{n:Nat}(e:k=(n:Int))(h:n<r.length):atR r k= .ok (r.getD n 0):=by rw[Z2 e h];simp[h]
theorem Gp (y:Int){n:Nat}(h:0<n):∃j:Nat,j<n/\QG y (n:Int)= .ok (j:Int):=by
 have h0:(0:Int)<n:=Int.natCast_pos.mpr h
 have h1:=Int.emod_nonneg y (Int.ne_of_gt h0)
 have h2:=Int.emod_lt_of_pos y h0
 obtain⟨j,hj⟩:=Int.eq_ofNat_of_zero_le h1
 exact⟨j,Int.ofNat_lt.mp (hj▸h2),by rw[YN h0,hj]⟩
theorem Dc {n:Nat}(h:n<=100):n<=100000:=Nat.le_trans h (by decide)
theorem MD {n:Nat}(h:n<=100):n<2^62:=Nat.lt_of_le_of_lt h (by decide)
theorem Ea {ns r:List Int}(hl:ns.length<=100)(hr:8*ns.length+3<=r.length):Ok (Jr ns r) λl=>l.Perm ns:=by
 unfold Jr
 simp only[Rs.okb]
 rw[Y4 (MD hl)]
 simp only[Rs.okb]
 refine Ok.bind (Ok.forN (λi (g:List Int×List Int)=>g.1.length=i/\(g.1++g.2).Perm ns) ⟨rfl,List.Perm.refl _⟩ λi a g ha hg=>?_) λg hg=>?_
 ·obtain⟨rfl,hi⟩:=Ya ha
  obtain⟨h1,h2⟩:=hg
  have hlen:i+g.2.length=ns.length:=by rw[←h1, ←h2.length_eq,List.length_append]
  have hpos:0<g.2.length:=by lia
  have hsm:g.2.length<=100:=Nat.le_trans (hlen▸Nat.le_add_left _ _) hl
  rw[Zw (by decide) (by decide)]
  simp only[Rs.okb]
  rw[ZR (r:=r) (k:=8*(i:Int)+9) (n:=8*i+9) rfl (by lia)]
  simp only[Rs.okb]
  obtain⟨j,hj,e⟩:=Gp (r.getD (8*i+9) 0) hpos
  rw[e,Rs.okb,Cd hj (Dc hsm),Rs.okb,XG (F3 (Dc (Nat.le_trans (Nat.le_of_lt (h1▸hi)) hl)))]
  refine⟨_,rfl,by rw[List.length_append,h1];rfl,?_⟩
  refine List.Perm.trans ?_ h2
  show((g.1++[g.2[j]])++g.2.eraseIdx j).Perm (g.1++g.2)
  rw[List.append_assoc]
  exact(JF hj).append_left _
 ·obtain⟨h1,h2⟩:=hg
  rw[XX] at h1
  have hlen:=h2.length_eq
  rw[List.length_append,h1] at hlen
  have:g.2=[]:=List.length_eq_zero_iff.mp (Nat.add_left_cancel hlen)
  rw[this,List.append_nil] at h2
  exact⟨_,rfl,h2⟩
theorem Me {ns r:List Int}{rings:Nat}(hl:ns.length<=100)(hr:8*ns.length+3<=r.length)(hg:ns≠ []->1<=rings)(hg2:rings<=100):Ok (F6 ns r (rings:Int)) λws=>ws.length=rings/\ws.flatten.Perm (ns.flatMap λx=>[x,-x]):=by
 unfold F6
 simp only[Rs.okb]
 refine Ok.bind (Ok.forN (λi (g:List Int)=>g=(ns.take i).flatMap λx=>[x,-x]) rfl λi a g ha hg=>?_) λg hgg=>?_
 ·have hi:=(List.getElem?_eq_some_iff.mp ha).1
  subst hg
  rw[XG (show[a,-a].length<=sizeLine from sz (by simp)),Rs.okb,XG (sz (by rw[Qr,List.length_take];exact Nat.le_trans (Nat.add_le_add_right (Nat.mul_le_mul_left 2 (Nat.le_trans (Nat.min_le_right _ _) hl)) 2) (by decide)))]
  refine⟨_,rfl,?_⟩
  rw[List.take_add_one,ha]
  simp
 rw[List.take_length] at hgg
 subst hgg
 rw[Y4 (MD hg2)]
 simp only[Rs.okb]
 rw[Zf (h:=λ_=>([]:List Int)) (sz (by rw[XX];exact Dc hg2)) λ_ _=>rfl]
 simp only[Rs.okb]
 rw[Zw (by decide) (by decide),Rs.okb,show(2:Int)*(ns.length:Int)=((2*ns.length:Nat):Int) from(Int.natCast_mul 2 _).symm,Y4 (Nat.lt_of_le_of_lt (Nat.mul_le_mul_left 2 hl) (by decide))]
 simp only[Rs.okb]
 refine Ok.bind (Ok.forN (λi (g:List Int×List (List Int))=>g.2.length=rings/\g.1.length+i=2*ns.length/\(∀w∈g.2,w.length<=i)/\(g.2.flatten++g.1).Perm (ns.flatMap λx=>[x,-x])) ⟨by rw[List.length_map,XX],by rw[Qr];rfl,λw hw=>?_,?_⟩ λi a g ha hg=>?_) λg hg=>?_
 ·obtain⟨_,_,rfl⟩:=List.mem_map.mp hw
  exact Nat.zero_le _
 ·have:∀l:List Int,(l.map λ_=>([]:List Int)).flatten=[]:=λl=>by simp
  rw[this];exact List.Perm.refl _
 ·obtain⟨rfl,hi⟩:=Ya ha
  obtain⟨h1,h2,h3,h4⟩:=hg
  have hne:1<=rings:=by
   refine ‹ns≠ []->1<=rings› λe=>?_
   rw[e] at hi;exact absurd hi (Nat.not_lt_zero _)
  have hn2:2*ns.length<=200:=Nat.mul_le_mul_left 2 hl
  have hpos:0<g.1.length:=by lia
  have hi2:i<=200:=Nat.le_trans (Nat.le_of_lt hi) hn2
  have hb:4*i+6<r.length:=by lia
  clear hr hg2 ha
  rw[Zw (by decide) (by decide)]
  simp only[Rs.okb]
  rw[ZR (r:=r) (k:=4*(i:Int)+5) (n:=4*i+5) rfl (Nat.lt_of_succ_lt hb)]
  simp only[Rs.okb]
  obtain⟨j,hj,e⟩:=Gp (r.getD (4*i+5) 0) hpos
  rw[e,Rs.okb,Cd hj (Nat.le_trans (h2▸Nat.le_add_right _ _) (Nat.le_trans hn2 (by decide))),Rs.okb]
  simp only[Rs.okb]
  rw[ZR (r:=r) (k:=4*(i:Int)+5+1) (n:=4*i+6) rfl hb]
  simp only[Rs.okb]
  obtain⟨q,hq',e2⟩:=Gp (r.getD (4*i+6) 0) hne
  rw[e2,Rs.okb]
  have hq:q<g.2.length:=h1▸hq'
  have hw:=h3 g.2[q] (List.getElem_mem hq)
  rw[Z2 (n:=q) rfl hq,Rs.okb,XG (F3 (Nat.le_trans hw (Nat.le_trans hi2 (by decide)))),QV hq,Rs.okb]
  have hjs:g.1[j]?=some g.1[j]:=List.getElem?_eq_getElem hj
  have hqs:g.2[q]?=some g.2[q]:=List.getElem?_eq_getElem hq
  refine⟨_,rfl,by rw[List.length_set,h1],?_,λw hw'=>?_,(Cz hqs hjs).trans h4⟩
  ·have:=KE hjs
   show(g.1.eraseIdx j).length+(i+1)=_
   lia
  ·rcases mem_set hw' with h |h
   ·exact Nat.le_succ_of_le (h3 w h)
   ·rw[h,List.length_append];exact Nat.succ_le_succ hw
 ·obtain⟨h1,h2,h3,h4⟩:=hg
  rw[XX] at h2
  have:g.1=[]:=List.length_eq_zero_iff.mp (Nat.add_right_cancel (h2.trans (Nat.zero_add _).symm))
  rw[this,List.append_nil] at h4
  exact⟨_,rfl,h1,h4⟩
noncomputable def Vq (ns r:List Int)(sg:Int->Int)(S:Int):List (Int×Int):=(List.range ns.length).map λk=>(r.getD (8*k+10) 0 % (S-1),ns.getD k 0*sg (ns.getD k 0))
theorem Dh {ns r:List Int}{sg:Int->Int}{S:Int}{k:Nat}(h:k<ns.length)(h2:8*k+10<r.length):(Vq ns r sg S)[k]?=some (r[8*k+10] % (S-1),ns[k]*sg ns[k]):=by
 unfold Vq
 rw[List.getElem?_map,List.getElem?_range h]
 simp[h,h2]
theorem DL {α:Type}{l:List α}{n:Nat}(h:l.length*n<=100000)(h2:n<=100000):DE l (n:Int)= .ok (List.replicate n l).flatten:=by
 unfold DE
 rw[Int.toNat_natCast,XG ⟨Int.le_trans (by decide) (Int.natCast_nonneg n),Int.ofNat_lt.mpr (Nat.lt_of_le_of_lt h2 (by decide)),sz h⟩]
theorem F5 {ns r:List Int}{d:List (Int×Int)}{sg:Int->Int}{S:Nat}(hl:ns.length<=100)(hr:8*ns.length+3<=r.length)(hd:∀x∈ns,ZD d x=some (sg x))(hs:∀x∈ns,sg x=1∨sg x= -1)(h2:2<=S)(h4:S<=100):Ok (Z4 ns d r (S:Int)) λws=>ws.length<=S/\ws.flatten.Perm (ns.flatMap λx=>[x,-x]):=by
 have hS1:(0:Int)<(S:Int)-1:=Int.sub_pos.mpr (Int.ofNat_lt.mpr h2)
 have hrs:∀q∈Vq ns r sg (S:Int),0<=q.1/\q.1+1<(S:Int):=λq hq=>by
  obtain⟨k,_,rfl⟩:=List.mem_map.mp hq
  exact⟨Int.emod_nonneg (r.getD (8*k+10) 0) (Int.ne_of_gt hS1),Int.add_lt_of_lt_sub_right (Int.emod_lt_of_pos (r.getD (8*k+10) 0) hS1)⟩
 have hrl:(Vq ns r sg (S:Int)).length=ns.length:=by simp[Vq]
 have hin:∀(rs:List (Int×Int)),(∀q∈rs,0<=q.1/\q.1+1<(S:Int))->∀a:Int,0<=a->a<(S:Int)->0<=Ef rs a/\Ef rs a<(S:Int):=by
  intro rs
  induction rs with
  |nil=>intro _ a h0 h1;exact⟨h0,h1⟩
  |cons q rs ih=>
   intro hq a h0 h1
   have h:=GP (hq q (by simp)).1 (hq q (by simp)).2 h0 h1
   exact ih (λx hx=>hq x (by simp[hx])) _ h.1 h.2
 have hcl:∀(rs:List (Int×Int)) (a:Int),(GL rs a).length<=rs.length:=by
  intro rs
  induction rs with
  |nil=>intro a;exact Nat.le_refl _
  |cons q rs ih=>
   intro a
   show(K9 q a++GL rs (V8 q a)).length<=_
   have h1:(K9 q a).length<=1:=by
    unfold K9
    split
    ·simp
    ·split<;> simp
   rw[List.length_append,List.length_cons,Nat.add_comm rs.length]
   exact Nat.add_le_add h1 (ih (V8 q a))
 unfold Z4
 simp only[Rs.okb]
 rw[XG (show[false].length<=sizeLine from sz (by simp)),Rs.okb,show DE [false] (S:Int)= .ok (List.replicate S false) from ?_]
 rotate_left
 ·rw[DL (by show 1*S<=100000;rw[Nat.one_mul];exact Dc h4) (Dc h4)]
  congr 1
  clear h2 h4 hrs hin hrl hS1
  induction S with
  |zero=>rfl
  |succ n ih=>rw[List.replicate_succ,List.flatten_cons,ih,List.replicate_succ];rfl
 rw[Rs.okb,Y4 (MD h4),Rs.okb]
 generalize hR:Vq ns r sg (S:Int)=rs at hrs hrl
 refine Ok.bind (Ok.forN (λi (g:List Bool×List (List Int))=>g.1.length=S/\g.2.length<=i/\(∀q:Nat,q<i->g.1[q]?=some true)/\∃ps,Done (S:Int) g.1 ps/\g.2.flatten=ps.flatMap (GL rs)) ⟨by simp,Nat.le_refl _,λq hq=>absurd hq (Nat.not_lt_zero _),[],Done.none _ _,rfl⟩ λi a g ha hg=>?_) λg hg=>?_
 ·obtain⟨rfl,hi⟩:=Ya ha
  obtain⟨g1,g2,g3,ps,g4,g5⟩:=hg
  have hi1:i<g.1.length:=g1▸hi
  rw[Z2 (n:=i) rfl hi1]
  simp only[Rs.okb]
  cases hb:g.1[i] with
  |true=>
   rw[show(!true)=false from rfl,if_neg Bool.false_ne_true]
   simp only[Rs.okb]
   exact⟨_,rfl,g1,Nat.le_succ_of_le g2,Ft g3 (by simp[hi1,hb]),ps,g4,g5⟩
  |false=>
   rw[show(!false)=true from rfl,if_pos rfl]
   refine Ok.bind (R:=λg':List Bool×List (List Int)=>g'.1.length=S/\g'.2.length<=i+1/\(∀q:Nat,q<i+1->g'.1[q]?=some true)/\∃ps,Done (S:Int) g'.1 ps/\g'.2.flatten=ps.flatMap (GL rs)) (Ok.bind (Jl (λg':List Bool×Int×List Int=>g'.1.length=S/\0<=g'.2.1/\g'.2.1<(S:Int)/\(∀q:Nat,g.1[q]?=some true->g'.1[q]?=some true)/\((g'.2.1=(i:Int)/\g'.1[i]?=some false)∨g'.1[i]?=some true)/\g'.2.2.length+100*g'.1.count false<=100*S/\∃qs,Done (S:Int) g'.1 (ps++qs)/\g'.2.2=qs.flatMap (GL rs)) (λg'=>g'.1.count false) (λg' hg'=>?_) _ (g.1,(i:Int),[]) ⟨g1,Int.natCast_nonneg i,Int.ofNat_lt.mpr hi,λq h=>h, .inl ⟨rfl,by simp[hi1,hb]⟩,by
    show 0+100*g.1.count false<=100*S
    rw[Nat.zero_add]
    exact Nat.mul_le_mul_left 100 (g1▸List.count_le_length),[],by rw[List.append_nil];exact g4,rfl⟩ ?_) λg' hg'=>?_) λg' hg'=>?_
   ·obtain⟨w1,w2,w3,w4,w5,w8,qs,w6,w7⟩:=hg'
    obtain⟨p,hp⟩:∃p:Nat,g'.2.1=(p:Int):=Int.eq_ofNat_of_zero_le w2
    have hpS:p<S:=Int.ofNat_lt.mp (hp▸w3)
    have hpl:p<g'.1.length:=w1▸hpS
    rw[Z2 hp hpl]
    refine⟨_,rfl,λhf=>?_⟩
    have hf':g'.1[p]=false:=by simpa using hf
    have hfs:g'.1[p]?=some false:=by simp[hpl,hf']
    rw[hp,QV hpl]
    simp only[Rs.okb]
    rw[Y4 (MD hl)]
    simp only[Rs.okb]
    refine Ok.bind (Ok.forN (λk (h:Int×List Int)=>h.1=Ef (rs.take k) (p:Int)/\h.2=g'.2.2++GL (rs.take k) (p:Int)) ⟨rfl,by rw[List.take_zero];exact(List.append_nil _).symm⟩ λk b h hb' hh=>?_) λh hh=>?_
    ·obtain⟨rfl,hk⟩:=Ya hb'
     obtain⟨e1,e2⟩:=hh
     have hk10:8*k+10<r.length:=Nat.le_trans (Nat.add_le_add_right (Nat.mul_le_mul_left 8 hk) 3) hr
     have hq:=Dh (sg:=sg) (S:=(S:Int)) hk hk10
     rw[hR] at hq
     have hts:rs.take (k+1)=rs.take k++[(r[8*k+10] % ((S:Int)-1),ns[k]*sg ns[k])]:=by rw[List.take_add_one,hq];rfl
     rw[hts,Bv,Cq, ←e1]
     rw[Zw (by decide) (by decide)]
     simp only[Rs.okb]
     rw[Z2 (r:=r) (k:=8*(k:Int)+10) (n:=8*k+10) rfl hk10]
     simp only[Rs.okb]
     rw[YN hS1]
     simp only[Rs.okb]
     rw[Z2 (r:=ns) (n:=k) rfl hk]
     simp only[Rs.okb]
     have hgd:VY d ns[k]= .ok (sg ns[k]):=by unfold VY;rw[hd _ (List.getElem_mem hk)];rfl
     have hsg:=hs _ (List.getElem_mem hk)
     rw[hgd]
     simp only[Rs.okb]
     have hb1: -(2^64)<sg ns[k]/\sg ns[k]<2^64:=by rcases hsg with e |e<;> rw[e]<;> decide
     rw[Qe (a:=ns[k]) hb1.1 hb1.2,Qe (a:=-ns[k]) hb1.1 hb1.2]
     simp only[Rs.okb]
     have hlen:h.2.length<sizeLine:=F3 (by
      have:=hcl (rs.take k) (p:Int)
      rw[List.length_take] at this
      rw[e2,List.length_append];lia)
     rw[XG hlen,XG hlen]
     generalize r[8*k+10] % ((S:Int)-1)=low
     by_cases c1:h.1=low
     ·rw[if_pos (decide_eq_true c1)]
      simp only[Rs.okb]
      refine⟨_,rfl,?_,?_⟩
      ·rw[Io c1]
      ·rw[Lg c1,e2,List.append_assoc]
     ·rw[if_neg (by rw[decide_eq_false c1];exact Bool.false_ne_true)]
      by_cases c2:h.1=low+1
      ·rw[if_pos (decide_eq_true c2)]
       simp only[Rs.okb]
       refine⟨_,rfl,?_,?_⟩
       ·rw[IL c2]
       ·rw[I9 c2,e2,List.append_assoc,Int.neg_mul]
      ·rw[if_neg (by rw[decide_eq_false c2];exact Bool.false_ne_true)]
       simp only[Rs.okb]
       refine⟨_,rfl,?_,?_⟩
       ·rw[IZ c1 c2]
       ·rw[IV c1 c2,List.append_nil,e2]
    ·rw[XX, ←hrl,List.take_length] at hh
     obtain⟨e1,e2⟩:=hh
     have hpr:=hin rs hrs (p:Int) (Int.natCast_nonneg p) (Int.ofNat_lt.mpr hpS)
     have hct:=Kx hfs
     have hcl':=hcl rs (p:Int)
     refine⟨_,rfl,⟨?_,?_,?_,?_,?_,?_,qs++[(p:Int)],?_,?_⟩,?_⟩
     ·show(g'.1.set p true).length=S
      rw[List.length_set];exact w1
     ·show 0<=h.1
      rw[e1];exact hpr.1
     ·show h.1<_
      rw[e1];exact hpr.2
     ·exact λq hq=>UI (w4 q hq)
     ·refine .inr ?_
      show(g'.1.set p true)[i]?=some true
      rcases w5 with⟨h1,_⟩ |h1
      ·have:p=i:=Int.ofNat.inj (hp.symm.trans h1)
       subst this
       rw[List.getElem?_set_self hpl]
      ·exact UI h1
     ·show h.2.length+100*(g'.1.set p true).count false<=100*S
      rw[e2,List.length_append];lia
     ·rw[←List.append_assoc]
      have:=w6.snoc (a:=(p:Int)) (Int.natCast_nonneg p) (Int.ofNat_lt.mpr hpS) (by rw[Int.toNat_natCast];exact hfs)
      rwa [Int.toNat_natCast] at this
     ·show h.2=_
      rw[e2,w7,List.flatMap_append]
      simp
     ·exact hct▸Nat.lt_succ_self _
   ·exact Nat.lt_succ_of_le (Nat.le_succ_of_le (g1▸List.count_le_length))
   ·obtain⟨⟨w1,w2,w3,w4,w5,w8,qs,w6,w7⟩,hc⟩:=hg'
    obtain⟨p,hp⟩:∃p:Nat,g'.2.1=(p:Int):=Int.eq_ofNat_of_zero_le w2
    have hpS:p<S:=Int.ofNat_lt.mp (hp▸w3)
    have hpl:p<g'.1.length:=w1▸hpS
    rw[Z2 hp hpl,Rs.okb] at hc
    have hc':g'.1[p]=true:=by
     have:=Rs.ok.inj hc
     simpa using this
    have h5:g'.1[i]?=some true:=by
     rcases w5 with⟨h1,h6⟩ |h1
     ·have:p=i:=Int.ofNat.inj (hp.symm.trans h1)
      subst this
      rw[List.getElem?_eq_getElem hpl,hc'] at h6
      cases h6
     ·exact h1
    rw[XG (F3 (Dc (Nat.le_trans (Nat.le_trans g2 (Nat.le_of_lt hi)) h4)))]
    refine⟨_,rfl,w1,?_,?_,ps++qs,w6,?_⟩
    ·show(g.2++[g'.2.2]).length<=_
     rw[List.length_append];exact Nat.succ_le_succ g2
    ·exact Ft (λq hq=>w4 q (g3 q hq)) h5
    ·show(g.2++[g'.2.2]).flatten=_
     rw[List.flatten_append,g5,List.flatMap_append,w7]
     simp
   ·exact⟨_,rfl,hg'⟩
 ·obtain⟨g1,g2,g3,ps,g4,g5⟩:=hg
  rw[XX] at g2 g3
  refine⟨_,rfl,g2,?_⟩
  rw[g5]
  refine(ZN _ (g4.all (by rw[g1];rfl) (by lia) λq hq=>g3 q (by lia))).trans ?_
  rw[Int.toNat_natCast]
  refine(G1 hrs).trans ?_
  rw[←hR]
  unfold Vq
  rw[flatMap_map]
  have e:ns.flatMap (λx=>[x,-x])=(List.range ns.length).flatMap λk=>[ns.getD k 0,-(ns.getD k 0)]:=by
   have h:ns=(List.range ns.length).map λk=>ns.getD k 0:=List.ext_getElem (by simp) λj h1 h2=>by simp[h1]
   conv=>lhs;rw[h]
   rw[flatMap_map]
  rw[e]
  refine Q6 λk hk=>Ll (hs _ ?_)
  have hk':=List.mem_range.mp hk
  simp[hk']
theorem Co {α:Type}{l:List α}{m c:Nat}(hm:l.length=m)(hc:c<m):∀{n j:Nat},j<n->(List.replicate n l).flatten[m*j+c]?=l[c]?
 |0,_,h=>absurd h (Nat.not_lt_zero _)
 |n+1,0,_=>by
  rw[List.replicate_succ,List.flatten_cons,Nat.mul_zero,Nat.zero_add,List.getElem?_append_left (hm▸hc)]
 |n+1,j+1,h=>by
  rw[List.replicate_succ,List.flatten_cons,List.getElem?_append_right (by rw[hm,Nat.mul_succ];exact Nat.le_trans (Nat.le_add_left _ _) (Nat.le_add_right _ _)),hm,show m*(j+1)+c-m=m*j+c by rw[Nat.mul_succ,Nat.add_right_comm,Nat.add_sub_cancel]]
  exact Co hm hc (Nat.lt_of_succ_lt_succ h)
theorem CT {α:Type}(l:List α):∀n:Nat,(List.replicate n l).flatten.length=n*l.length
 |0=>(Nat.zero_mul _).symm
 |n+1=>by rw[List.replicate_succ,List.flatten_cons,List.length_append,CT l n,Nat.succ_mul,Nat.add_comm]
structure Drawn (most:Nat)(D:List (List Int)×List (Int×Int)):Prop where
 le:D.2.length<=most
 inc:(D.2.map Prod.fst).Pairwise (· < ·)
 pos:∀e∈D.2,1<=e.1/\e.1<2^62/\(e.2=1∨e.2= -1)
 perm:D.1.flatten.Perm ((D.2.map Prod.fst).flatMap λx=>[x,-x])
 few:D.1.length<=4
theorem CM:∀{d:List (Int×Int)}{x:Int},x∈d.map Prod.fst->∃v,ZD d x=some v/\(x,v)∈d
 | [],_,h=>by simp at h
 |kv::d,x,h=>by
  by_cases c:kv.1=x
  ·exact⟨kv.2,by simp[ZD,List.find?_cons,c],by rw[←c];simp⟩
  ·have hx:x∈d.map Prod.fst:=by
    rw[List.map_cons,List.mem_cons] at h
    rcases h with h |h
    ·exact absurd h.symm c
    ·exact h
   obtain⟨v,h1,h2⟩:=CM hx
   exact⟨v,by unfold ZD at h1⊢;rw[List.find?_cons,decide_eq_false c];exact h1,List.mem_cons_of_mem _ h2⟩
theorem EQ {d:List (Int×Int)}{k v:Int}(h:∀x∈d.map Prod.fst,x≠k):GJ d k v=d++[(k,v)]:=by
 unfold GJ
 rw[if_neg]
 rw[List.any_eq_true]
 rintro⟨kv,h1,h2⟩
 exact h kv.1 (List.mem_map.mpr ⟨kv,h1,rfl⟩) (by simpa using h2)
theorem HI (y n:Nat)(h:(y:Int)<5):∃k:Nat,max (y:Int) (min (n:Int) 1)=(k:Int)/\k<=4/\(n≠0->1<=k):=by
 have hy:y<=4:=Nat.le_of_lt_succ (Int.ofNat_lt.mp h)
 have o:∀m:Nat,(1:Int)<=((m+1:Nat):Int):=λm=>Int.ofNat_le.mpr (Nat.succ_pos m)
 cases n with
 |zero=>exact⟨y,Int.max_eq_left (Int.natCast_nonneg y),hy,λz=>absurd rfl z⟩
 |succ m=>
  rw[Int.min_eq_right (o m)]
  cases y with
  |zero=>exact⟨1,rfl,by decide,λ_=>Nat.le_refl 1⟩
  |succ l=>exact⟨l+1,Int.max_eq_left (o l),hy,λ_=>Nat.succ_pos l⟩
theorem MI {y:Int}(h:0<=y/\y<2):2*y-1=1∨2*y-1= -1:=by lia
theorem Ex {x:Int}(h:0<=x/\x<3):∃z,atR [0,1,(10:Int)^(9:Int).toNat] x= .ok z/\0<=z/\z<=1000000000:=by
 rcases(by lia:x=0∨x=1∨x=2) with rfl |rfl |rfl
 ·exact⟨0,rfl,by decide,by decide⟩
 ·exact⟨1,rfl,by decide,by decide⟩
 ·exact⟨1000000000,rfl,by decide,by decide⟩
theorem Cb {x:Int}(h:0<=x):∃n:Nat,x=(n:Int):=Int.eq_ofNat_of_zero_le h
theorem ID {y z:Int}(h:0<=y/\y<3)(h0:0<=z)(h1:z<=1000000000):0<=y*z/\y*z<=2*1000000000:=⟨Int.mul_nonneg h.1 h0,Int.mul_le_mul (by lia) h1 h0 (by decide)⟩
theorem Eb (ns:List Int){p:Int}(hp:0<=p){most:Nat}(hm:most<=100):Ok (Qq ns p (most:Int)) (Drawn most):=by
 unfold Qq
 simp only[Rs.okb]
 rw[XG (sz (by simp))]
 simp only[Rs.okb]
 rw[XG (sz (by simp))]
 simp only[Rs.okb]
 rw[Zw (by decide) (by decide),Rs.okb,show(2:Int)*(most:Int)=((2*most:Nat):Int) from(Int.natCast_mul 2 _).symm]
 have hm2:2*most<=200:=Nat.mul_le_mul_left 2 hm
 rw[DL (l:=[(80:Int),5,2,3]) (n:=2*most) (Nat.le_trans (Nat.mul_le_mul_left 4 hm2) (by decide)) (Nat.le_trans hm2 (by decide))]
 simp only[Rs.okb]
 have hrl:=CT [(80:Int),5,2,3] (2*most)
 have hrg:∀{j c:Nat},c<4->j<2*most->(List.replicate (2*most) [(80:Int),5,2,3]).flatten[4*j+c]?=[(80:Int),5,2,3][c]?:=fun {j c} hc hj=>Co rfl hc hj
 have hrm:∀x∈(List.replicate (2*most) [(80:Int),5,2,3]).flatten,0<x/\x<2^250:=λx hx=>by
  obtain⟨l,h1,h2⟩:=List.mem_flatten.mp hx
  rw[(List.mem_replicate.mp h1).2] at h2
  simp only[List.mem_cons,List.not_mem_nil,or_false] at h2
  rcases h2 with rfl |rfl |rfl |rfl<;> decide
 generalize (List.replicate (2*most) [(80:Int),5,2,3]).flatten=tl at hrl hrg hrm
 rw[show([(80:Int),5,2,3]).length=4 from rfl] at hrl
 have htl:tl.length<=800:=hrl▸Nat.mul_le_mul_right 4 hm2
 rw[show FR [(most:Int)+1,5,4,3,3] tl= .ok ([(most:Int)+1,5,4,3,3]++tl) from XG (sz (Nat.le_trans (Nat.add_le_add_left htl 5) (by decide)))]
 simp only[Rs.okb]
 refine Ok.bind (Ok.noE (Hg ns hp _ (by simp;lia) λx hx=>?_)) λr hr=>?_
 ·rw[List.mem_append] at hx
  rcases hx with h |h
  ·simp only[List.mem_cons,List.not_mem_nil,or_false] at h
   rcases h with rfl |rfl |rfl |rfl |rfl
   ·refine⟨by lia,by lia⟩
   all_goals decide
  ·exact hrm x h
 obtain⟨hl,hv⟩:=hr
 have hl':r.length=5+8*most:=by rw[hl];simp;lia
 have hv':∀(i:Nat) (s:Int),([(most:Int)+1,5,4,3,3]++tl)[i]?=some s->0<=r.getD i 0/\r.getD i 0<s:=λi s hs=>by
  have hi:i<r.length:=by rw[hl];exact(List.getElem?_eq_some_iff.mp hs).1
  exact hv i _ s (by simp[hi]) hs
 have hv5:∀(j c:Nat) (s:Int),c<4->j<2*most-> [(80:Int),5,2,3][c]?=some s->0<=r.getD (5+4*j+c) 0/\r.getD (5+4*j+c) 0<s:=λj c s hc hj hs=>by
  refine hv' (5+4*j+c) s ?_
  rw[show 5+4*j+c=5+(4*j+c) from Nat.add_assoc ..,List.getElem?_append_right (Nat.le_add_right 5 _)]
  rw[show 5+(4*j+c)- [(most:Int)+1,5,4,3,3].length=4*j+c from Nat.add_sub_cancel_left 5 _,hrg hc hj]
  exact hs
 have v0:=hv' 0 _ rfl
 have v1:=hv' 1 _ rfl
 have v2:=hv' 2 _ rfl
 have v3:=hv' 3 _ rfl
 have v4:=hv' 4 _ rfl
 clear hv hv' hl hrg hrl hrm
 have h5:5<=r.length:=hl'▸Nat.le_add_right 5 _
 rw[ZR (r:=r) (k:=0) (n:=0) rfl (Nat.lt_of_lt_of_le (by decide) h5),ZR (r:=r) (k:=1) (n:=1) rfl (Nat.lt_of_lt_of_le (by decide) h5),ZR (r:=r) (k:=2) (n:=2) rfl (Nat.lt_of_lt_of_le (by decide) h5),ZR (r:=r) (k:=3) (n:=3) rfl (Nat.lt_of_lt_of_le (by decide) h5),ZR (r:=r) (k:=4) (n:=4) rfl (Nat.lt_of_lt_of_le (by decide) h5)]
 simp only[Rs.okb]
 generalize r.getD 0 0=x0 at v0
 generalize r.getD 1 0=x1 at v1
 generalize r.getD 2 0=x2 at v2
 generalize r.getD 3 0=x3 at v3
 generalize r.getD 4 0=x4 at v4
 obtain⟨m0,rfl⟩:=Cb v0.1
 obtain⟨y1,rfl⟩:=Cb v1.1
 obtain⟨y4,rfl⟩:=Cb v4.1
 have hm0:m0<=most:=Int.ofNat_le.mp (Int.le_of_lt_add_one v0.2)
 have hm1:m0<=100:=Nat.le_trans hm0 hm
 clear v0
 rw[Y4 (Nat.lt_of_le_of_lt hm1 (by decide)),CJ (by decide) (by decide) (by decide) (by decide)]
 simp only[Rs.okb]
 rw[XG (sz (by simp))]
 simp only[Rs.okb]
 obtain⟨z,hz,hz0,hz1⟩:=Ex v3
 rw[hz]
 simp only[Rs.okb]
 refine Ok.bind (Ok.forN (λi (g:Int×List (Int×Int)×List Int)=>g.2.1.map Prod.fst=g.2.2/\g.2.2.length=i/\0<=g.1/\g.1<=(i:Int)*3000000000/\g.2.2.Pairwise (· < ·)/\(∀x∈g.2.2,1<=x/\x<=g.1)/\∀e∈g.2.1,e.2=1∨e.2= -1) ⟨rfl,rfl,Int.le_refl _,by decide,List.Pairwise.nil,λx hx=>(by cases hx),λx hx=>(by cases hx)⟩ λi a g ha hg=>?_) λg hg=>?_
 ·obtain⟨rfl,hi⟩:=Ya ha
  obtain⟨h1,h2,h3,h4,h5',h6,h7⟩:=hg
  have him:i<most:=Nat.lt_of_lt_of_le hi hm0
  have hA:5+4*(2*i)+3<r.length:=by rw[hl'];lia
  have hB:5+4*(2*i)+2<r.length:=Nat.lt_of_succ_lt hA
  have h2i:2*i<2*most:=Nat.mul_lt_mul_of_pos_left him (by decide)
  have kA:=hv5 (2*i) 3 3 (by decide) h2i rfl
  have kB:=hv5 (2*i) 2 2 (by decide) h2i rfl
  rw[Zw (a:=8) (by decide) (by decide)]
  simp only[Rs.okb]
  rw[ZR (r:=r) (k:=8*(i:Int)+8) (n:=5+4*(2*i)+3) (by lia) hA,ZR (r:=r) (k:=8*(i:Int)+7) (n:=5+4*(2*i)+2) (by lia) hB]
  simp only[Rs.okb]
  generalize r.getD (5+4*(2*i)+3) 0=y at kA
  generalize r.getD (5+4*(2*i)+2) 0=y2 at kB
  rw[Zw (a:=y) (Int.lt_of_lt_of_le (by decide) kA.1) (Int.lt_trans kA.2 (by decide)),Zw (a:=2) (by decide) (by decide)]
  simp only[Rs.okb]
  have hsi:i<=100000:=Nat.le_trans (Nat.le_of_lt hi) (Nat.le_trans hm1 (by decide))
  have hd1:g.2.1.length=i:=by rw[←h2, ←h1,List.length_map]
  rw[XG (F3 (h2▸hsi)),XG (F3 (hd1▸hsi))]
  obtain⟨q0,q1⟩:=ID kA hz0 hz1
  generalize y*z=st at q0 q1
  clear kA hz hA hB hv5 hl' h5 v1 v2 v3 v4 hm hm0 hm1 him h2i hsi ha hi
  have hgt:g.1<g.1+1+st:=by lia
  have hnew:∀x∈g.2.1.map Prod.fst,x≠g.1+1+st:=λx hx e=>by
   rw[h1] at hx
   exact absurd (h6 x hx).2 (Int.not_le.mpr (e▸hgt))
  rw[EQ hnew]
  refine⟨_,rfl,?_,?_,Int.le_of_lt (Int.lt_of_le_of_lt h3 hgt),?_,?_,?_,?_⟩
  ·show(g.2.1++[(g.1+1+st,2*y2-1)]).map Prod.fst=g.2.2++[g.1+1+st]
   rw[List.map_append,h1];rfl
  ·show(g.2.2++[g.1+1+st]).length=_
   rw[List.length_append,h2];rfl
  ·show g.1+1+st<=_
   lia
  ·show(g.2.2++[g.1+1+st]).Pairwise (· < ·)
   rw[List.pairwise_append]
   refine⟨h5',List.pairwise_singleton ..,λx hx w hw=>?_⟩
   rw[List.mem_singleton.mp hw]
   exact Int.lt_of_le_of_lt (h6 x hx).2 hgt
  ·intro x hx
   show 1<=x/\x<=g.1+1+st
   rcases List.mem_append.mp hx with h |h
   ·exact⟨(h6 x h).1,Int.le_trans (h6 x h).2 (Int.le_of_lt hgt)⟩
   ·rw[List.mem_singleton.mp h];exact⟨Int.lt_of_le_of_lt h3 hgt,Int.le_refl _⟩
  ·intro e he
   rcases List.mem_append.mp he with h |h
   ·exact h7 e h
   ·rw[List.mem_singleton.mp h]
    exact MI kB
 obtain⟨h1,h2,h3,h4,h5',h6,h7⟩:=hg
 rw[XX] at h2 h4
 generalize hN:g.2.2=names at*
 generalize hD:g.2.1=d at*
 have hnl:names.length<=100:=h2▸hm1
 have hnr:8*names.length+3<=r.length:=by rw[hl',h2];lia
 have hsg:∀x∈names,ZD d x=some ((ZD d x).getD 1)/\((ZD d x).getD 1=1∨(ZD d x).getD 1= -1):=λx hx=>by
  obtain⟨v,e1,e2⟩:=CM (d:=d) (x:=x) (by rw[h1];exact hx)
  rw[e1]
  exact⟨rfl,h7 _ e2⟩
 have hmap:U1 names (λa=>(VY d a).bind λx=>.ok (a,x))= .ok (names.map λa=>(a,(ZD d a).getD 1)):=Zf (sz (Nat.le_trans hnl (by decide))) λa ha=>by
  unfold VY
  rw[(hsg a ha).1];rfl
 refine Ok.bind (R:=λws:List (List Int)=>ws.length<=4/\ws.flatten.Perm (names.flatMap λx=>[x,-x])) (Ok.ite (λ_=>?_) λ_=>?_) λws hws=>?_
 ·refine Ok.bind (R:=λws:List (List Int)=>ws.length<=4/\ws.flatten.Perm (names.flatMap λx=>[x,-x])) ?_ λws hws=>⟨_,rfl,hws⟩
  refine Ok.bind (Ok.noE (Ea hnl hnr)) λl hl2=>?_
  have hln:=hl2.length_eq
  have hy4:2+y4<=4:=Nat.add_le_add_left (Int.ofNat_le.mp (Int.le_of_lt_add_one v4.2)) 2
  refine Ok.noE (Ok.imp (F5 (S:=2+y4) (sg:=λx=>(ZD d x).getD 1) (hln▸hnl) (hln▸hnr) (λx hx=>(hsg x (hl2.mem_iff.mp hx)).1) (λx hx=>(hsg x (hl2.mem_iff.mp hx)).2) (Nat.le_add_right 2 _) (Nat.le_trans hy4 (by decide))) λws hw=>⟨Nat.le_trans hw.1 hy4,hw.2.trans (ZN _ hl2)⟩)
 ·refine Ok.bind (R:=λws:List (List Int)=>ws.length<=4/\ws.flatten.Perm (names.flatMap λx=>[x,-x])) ?_ λws hws=>⟨_,rfl,hws⟩
  obtain⟨rings,hrings,hr4,hr1⟩:=HI y1 names.length v1.2
  rw[hrings]
  exact Ok.noE (Ok.imp (Me hnl hnr (λhne=>hr1 λz=>hne (List.length_eq_zero_iff.mp z)) (Nat.le_trans hr4 (by decide))) λws hw=>⟨hw.1▸hr4,hw.2⟩)
 ·rw[hmap]
  simp only[Rs.okb]
  have hfst:(names.map λa=>(a,(ZD d a).getD 1)).map Prod.fst=names:=by rw[List.map_map];exact List.map_id' _
  refine⟨_,rfl,?_,?_,?_,?_,hws.1⟩
  ·show(names.map λa=>(a,(ZD d a).getD 1)).length<=most
   rw[List.length_map,h2];exact hm0
  ·show((names.map λa=>(a,(ZD d a).getD 1)).map Prod.fst).Pairwise _
   rw[hfst];exact h5'
  ·intro e he
   obtain⟨x,hx,rfl⟩:=List.mem_map.mp he
   have:=h6 x hx
   refine⟨this.1,?_,(hsg x hx).2⟩
   show x<2^62
   lia
  ·show ws.flatten.Perm (((names.map λa=>(a,(ZD d a).getD 1)).map Prod.fst).flatMap λx=>[x,-x])
   rw[hfst];exact hws.2
theorem F0 {r:List Int}{n:Nat}(hn:n<=1000)(hr:n<=r.length):Ok (ZY r (n:Int)) λsp=>∃ p q,KI n sp p q:=by
 unfold ZY
 simp only[Rs.okb]
 rw[XG (by lia)]
 simp only[Rs.okb]
 rw[Y4 (by lia)]
 simp only[Rs.okb]
 have e0:Qs 0 (n:Int)=(List.range n).map λ(i:Nat)=>(i:Int):=by
  unfold Qs
  rw[Int.sub_zero,Int.toNat_natCast]
  exact List.map_congr_left λi _=>by lia
 refine Ok.bind (Ok.forN (λi (g:List Int×List Int)=>g.1.length=i/\(g.1++g.2).Perm ((List.range n).map λ(i:Nat)=>(i:Int))) ⟨rfl,by rw[e0];exact List.Perm.refl _⟩ λi a g ha hg=>?_) λg hg=>?_
 ·obtain⟨rfl,hi⟩:=Ya ha
  obtain⟨h1,h2⟩:=hg
  have hl:=h2.length_eq
  simp only[List.length_append,List.length_map,List.length_range] at hl
  have hri:r[i]?=some r[i]:=by simp[show i<r.length by lia]
  have hpos:(0:Int)<(g.2.length:Int):=by lia
  have hm1:=Int.emod_nonneg r[i] (show(g.2.length:Int)≠0 by lia)
  have hm2:=Int.emod_lt_of_pos r[i] hpos
  rw[YM hri,Rs.okb,YN hpos,Rs.okb]
  generalize hk:r[i] % (g.2.length:Int)=k at hm1 hm2
  obtain⟨j,rfl⟩:∃j:Nat,k=j:=⟨k.toNat,by lia⟩
  have hj:j<g.2.length:=by lia
  rw[Cd hj (by lia),Rs.okb,XG (F3 (by lia))]
  refine⟨_,rfl,by simp[h1],?_⟩
  refine List.Perm.trans ?_ h2
  show((g.1++[g.2[j]])++g.2.eraseIdx j).Perm (g.1++g.2)
  rw[List.append_assoc]
  exact(JF hj).append_left _
 ·obtain⟨h1,h2⟩:=hg
  rw[XX] at h1
  have hl:=h2.length_eq
  simp only[List.length_append,List.length_map,List.length_range] at hl
  have:g.2=[]:=List.length_eq_zero_iff.mp (by lia)
  rw[this,List.append_nil] at h2
  exact⟨_,rfl,EG h2⟩
theorem BO {n:Nat}{f:Nat->Nat->Nat}{sp:List Int}{p q:Nat->Nat}(hn:n<=1000)(hf:∀a b,a<n->b<n->f a b<n)(hp:KI n sp p q):QF (YX n f) sp= .ok (YX n λx y=>p (f (q x) (q y))):=by
 have P:=hp.1
 unfold QF
 simp only[Rs.okb]
 rw[Zf (h:=λa=>a) (sz (by rw[XV];lia)) λa _=>rfl,Rs.okb]
 simp only[List.map_id',XV]
 rw[Y4 (by lia),Rs.okb]
 apply Ok.eq
 refine Ok.bind (Ok.forN (λi g=>g=YX n λx y=>if q x<i then p (f (q x) (q y)) else f x y) (Yn λx y _ _=>by simp) λi a g ha hg=>?_) λg hg=>⟨g,rfl,?_⟩
 ·obtain⟨rfl,hi⟩:=Ya ha
  subst hg
  simp only[Rs.okb]
  refine Ok.bind (Ok.forN (λj g=>g=YX n λx y=>if q x<i∨(q x=i/\q y<j) then p (f (q x) (q y)) else f x y) (Yn λx y _ _=>by simp) λj b g hb hg=>?_) λg hg=>⟨g,rfl,?_⟩
  ·obtain⟨rfl,hj⟩:=Ya hb
   subst hg
   have hv:=hf i j hi hj
   rw[VB hi,Rs.okb,U9 hj,Rs.okb,hp.get hv,Rs.okb,hp.get hi,Rs.okb,VB (P.lt i hi),Rs.okb,hp.get hj,Rs.okb,QV (by rw[Zu];exact P.lt j hj),Rs.okb,QV (by rw[XV];exact P.lt i hi),Rs.okb]
   refine⟨_,rfl,?_⟩
   rw[BM (P.lt i hi)]
   refine Yn λx y hx hy=>?_
   by_cases e:x=p i/\y=p j
   ·rw[if_pos e,e.1,e.2,P.qp i hi,P.qp j hj,if_pos (by lia)]
   ·rw[if_neg e]
    have:¬(q x=i/\q y=j):=λ⟨e1,e2⟩=>e ⟨by rw[←e1,P.pq x hx],by rw[←e2,P.pq y hy]⟩
    by_cases c:q x<i∨(q x=i/\q y<j)
    ·rw[if_pos c,if_pos (by lia)]
    ·rw[if_neg c,if_neg (by lia)]
  ·subst hg
   rw[XX]
   refine Yn λx y hx hy=>?_
   have:=P.qlt y hy
   by_cases c:q x<i+1
   ·rw[if_pos c,if_pos (by lia)]
   ·rw[if_neg c,if_neg (by lia)]
 ·subst hg
  rw[XX]
  exact Yn λx y hx hy=>by rw[if_pos (P.qlt x hx)]
theorem VT (a b:Bool):U2 (.ok a) (.ok b)= .ok (a&&b):=Hw λ_=>rfl
theorem F2 {way k:Int}{n a b:Nat}(hn:0<n)(h1:n<=1000)(ha:a<n)(hb:b<n):ZI way (n:Int) k (a:Int) (b:Int)= .ok (De way n k a b):=by
 unfold ZI De
 simp only[Rs.okb,VT,Bool.and_eq_true,decide_eq_true_eq,gt_iff_lt,ge_iff_le]
 rw[DT (by decide) (by decide)]
 simp only[Rs.okb,VT,Bool.and_eq_true,decide_eq_true_eq]
 rw[Zw (a:=2) (by decide) (by decide),Qe (a:=k) (by lia) (by lia),Qe (a:=1-k) (by lia) (by lia)]
 simp only[Rs.okb]
 by_cases c1:way=1
 ·rw[if_pos c1,if_pos c1];exact YN (by lia)
 rw[if_neg c1,if_neg c1]
 by_cases c2:way=2
 ·rw[if_pos c2,if_pos c2];exact YN (by lia)
 rw[if_neg c2,if_neg c2]
 by_cases c3:way=3/\2<(n:Int)/\(a:Int)<2/\(b:Int)=(n:Int)-1
 ·rw[if_pos c3,if_pos c3]
 rw[if_neg c3,if_neg c3]
 by_cases c4:way=6/\(a:Int)<(n:Int)-1/\(b:Int)=(n:Int)-1
 ·rw[if_pos c4,if_pos c4];exact YN (by lia)
 rw[if_neg c4,if_neg c4]
 by_cases c5:way=4/\(a:Int)<(n:Int)/2/\(b:Int)<(n:Int)/2
 ·rw[if_pos c5,if_pos c5];exact YN (by lia)
 rw[if_neg c5,if_neg c5]
 by_cases c6:way=4/\(n:Int)/2<=(a:Int)/\(n:Int)/2<=(b:Int)
 ·rw[if_pos c6,if_pos c6,YN (by lia),Rs.okb]
 rw[if_neg c6,if_neg c6]
theorem Kl (x y:Int):QA x y= .ok (Int.gcd x y:Int):=by
 unfold QA
 simp only[Rs.okb]
 apply Ok.eq
 refine Ok.bind (Jl (λg:Int×Int=>∃ u v:Nat,g=((u:Int),(v:Int))/\Nat.gcd u v=Int.gcd x y) (λg=>g.2.toNat) (λg hg=>?_) _ ((x.natAbs:Int),(y.natAbs:Int)) ⟨x.natAbs,y.natAbs,rfl,rfl⟩ ?_) λg hg=>?_
 ·obtain⟨u,v,rfl,h⟩:=hg
  refine⟨_,rfl,λc=>?_⟩
  have c':(0:Int)<(v:Int):=of_decide_eq_true c
  show Ok ((QG (u:Int) (v:Int)).bind _) _
  rw[YN c',Rs.okb]
  refine⟨_,rfl,⟨v,u % v,by rw[Int.natCast_emod],?_⟩,?_⟩
  ·rw[←h,Nat.gcd_comm u v,Nat.gcd_rec v u,Nat.gcd_comm]
  ·show((u:Int) % (v:Int)).toNat<((v:Int)).toNat
   rw[←Int.natCast_emod,Int.toNat_natCast,Int.toNat_natCast]
   exact Nat.mod_lt u (Int.natCast_pos.mp c')
 ·show((y.natAbs:Int)).toNat<_
  lia
 ·obtain⟨⟨u,v,rfl,h⟩,hc⟩:=hg
  have hc':¬(0:Int)<(v:Int):=by
   have:=Rs.ok.inj hc
   simpa using this
  have:v=0:=by lia
  subst this
  rw[Nat.gcd_zero_right] at h
  exact⟨_,rfl,by show(u:Int)=_;rw[h]⟩
theorem Iu {n:Nat}{t z:Int}(h:t=1+(n:Int)*z):Int.gcd t n=1:=by
 have h1:((Int.gcd t n:Nat):Int)∣t:=Int.gcd_dvd_left ..
 have h2:((Int.gcd t n:Nat):Int)∣(n:Int):=Int.gcd_dvd_right ..
 have h3:((Int.gcd t n:Nat):Int)∣1:=by
  have:(1:Int)=t-(n:Int)*z:=by lia
  rw[this]
  exact Int.dvd_sub h1 (Int.dvd_trans h2 (Int.dvd_mul_right ..))
 have h4:=Int.eq_one_of_dvd_one (by lia) h3
 lia
theorem Ij {way k:Int}{n:Nat}(hn:0<n)(h1:n<=1000):Ok (Uk way (n:Int) k) λt=>∃ f,GoodF n f/\t=YX n f:=by
 unfold Uk
 simp only[Rs.okb,VT,Bool.and_eq_true,decide_eq_true_eq]
 by_cases c5:way=5/\(n:Int)=4
 ·rw[if_pos c5]
  have hn:n=4:=by lia
  subst hn
  exact⟨[[0,3,1,2],[2,1,3,0],[3,0,2,1],[1,2,0,3]],rfl,JS,DQ,Eg.symm⟩
 rw[if_neg c5]
 have ht:=Int.emod_add_mul_ediv (1-k) (n:Int)
 have ht0:=Int.emod_nonneg (1-k) (show(n:Int)≠0 by lia)
 have ht1:=Int.emod_lt_of_pos (1-k) (show(0:Int)<(n:Int) by lia)
 generalize hq:(1-k) % (n:Int)=m at ht ht0 ht1
 have hcop:Int.gcd (k+m) n=1:=Iu (z:=-((1-k)/(n:Int))) (by rw[Int.mul_neg];lia)
 refine Ok.bind (Jl (λg:Int=>k<=g/\g<=k+m) (λg=>(k+m-g).toNat) (λg hg=>?_) _ k ⟨Int.le_refl _,by lia⟩ ?_) λg hg=>?_
 ·rw[Kl,XF,Rs.okb]
  refine⟨_,rfl,λc=>?_⟩
  have hne:g≠k+m:=λe=>by
   rw[e,hcop] at c
   exact absurd c (by decide)
  refine⟨_,rfl,⟨by lia,by lia⟩,?_⟩
  show(k+m-(g+1)).toNat<(k+m-g).toNat
  lia
 ·show(k+m-k).toNat<_
  lia
 ·obtain⟨_,hc⟩:=hg
  rw[Kl,XF,Rs.okb] at hc
  have hg1:Int.gcd g n=1:=by
   have:=Rs.ok.inj hc
   simp at this
   lia
  obtain⟨gd,hce⟩:=Ba (way:=way) (k:=g) (n:=n) hn hg1
  refine⟨YX n (KC way g n),?_,_,gd,rfl⟩
  rw[Y4 (by lia),Rs.okb]
  have hrow:∀a:Nat,a<n->U1 ((List.range n).map λ(i:Nat)=>(i:Int)) (λb=>noE (ZI way (n:Int) g (a:Int) b))= .ok (QJ n (KC way g n) a):=λa ha=>by
   rw[Zf (h:=λx=>((KC way g n a x.toNat:Nat):Int)) (sz (by simp;lia)) λx hx=>?_]
   ·rw[List.map_map];rfl
   ·obtain⟨b,hb,rfl⟩:=Zs hx
    rw[F2 hn h1 ha hb,XF,Int.toNat_natCast,hce a b ha hb]
  rw[Zt (h:=λx=>QJ n (KC way g n) x.toNat) (sz (by simp;lia)) λl hl x hx=>?_]
  ·rw[Rs.okb,List.nil_append,List.map_map];rfl
  ·obtain⟨a,ha,rfl⟩:=Zs hx
   rw[Rs.okb,hrow a ha,Rs.okb,XG hl,Int.toNat_natCast]
theorem UP (ns:List Int){p:Int}(hp:0<=p){most:Nat}(h0:0<most)(hm:most<=24):Ok (Y5 ns p (most:Int)) λt=>∃ n f,0<n/\n<=most/\GoodF n f/\t=YX n f:=by
 unfold Y5
 simp only[Rs.okb]
 rw[XG (sz (by simp))]
 simp only[Rs.okb]
 rw[XG (sz (by simp))]
 simp only[Rs.okb]
 rw[show DE [(24:Int)] 24= .ok (List.replicate 24 24) from rfl]
 simp only[Rs.okb]
 rw[show FR [(7:Int),24,6,2,6] (List.replicate 24 24)= .ok ([(7:Int),24,6,2,6]++List.replicate 24 24) from XG (sz (by simp))]
 simp only[Rs.okb]
 refine Ok.bind (Ok.noE (Hg ns hp _ (by simp) λx hx=>?_)) λr hr=>?_
 ·rw[List.mem_append] at hx
  rcases hx with h |h
  ·simp only[List.mem_cons,List.not_mem_nil,or_false] at h
   rcases h with rfl |rfl |rfl |rfl |rfl<;> decide
  ·rw[(List.mem_replicate.mp h).2];decide
 obtain⟨hl,hv⟩:=hr
 have hl':r.length=29:=by rw[hl];simp
 clear hl hv
 rw[Z2 (r:=r) (k:=0) (n:=0) rfl (by lia),Z2 (r:=r) (k:=1) (n:=1) rfl (by lia),Z2 (r:=r) (k:=2) (n:=2) rfl (by lia),Z2 (r:=r) (k:=3) (n:=3) rfl (by lia),Z2 (r:=r) (k:=4) (n:=4) rfl (by lia)]
 simp only[Rs.okb,VT]
 rw[YN (by lia)]
 simp only[Rs.okb]
 have a0:=Int.emod_nonneg r[1] (show(most:Int)≠0 by lia)
 have a1:=Int.emod_lt_of_pos r[1] (show(0:Int)<(most:Int) by lia)
 refine Ok.bind (R:=λs:Int=>0<s/\s<=(most:Int)) (Ok.ite (λc=>?_) λ_=>?_) λs hs=>?_
 ·have c1:2<(most:Int):=by
   rw[Bool.and_eq_true,decide_eq_true_eq] at c
   exact c.1
  rw[YN (by lia),Rs.okb]
  have b0:=Int.emod_nonneg r[1] (show(most:Int)-2≠0 by lia)
  have b1:=Int.emod_lt_of_pos r[1] (show(0:Int)<(most:Int)-2 by lia)
  refine⟨_,rfl,?_⟩
  lia
 ·exact⟨_,rfl,by lia⟩
 obtain⟨n,rfl⟩:∃n:Nat,s=(n:Int):=⟨s.toNat,by lia⟩
 refine Ok.bind (Ok.noE (Ij (by lia) (by lia))) λt ht=>?_
 obtain⟨f,gd,rfl⟩:=ht
 refine Ok.ite (λ_=>⟨_,rfl,n,f,by lia,by lia,gd,rfl⟩) λ_=>?_
 rw[show Gu r (some 5) none=r.drop 5 from EB r (k:=5) (by lia)]
 refine Ok.bind (Ok.noE (F0 (by lia) (by rw[List.length_drop];lia))) λsp hsp=>?_
 obtain⟨q,q',hq⟩:=hsp
 rw[BO (by lia) gd.lt hq,XF]
 exact⟨_,rfl,n,_,by lia,by lia,hq.1.good gd,rfl⟩
end My
namespace My
noncomputable def X3 (w:List Int):Nat:=(w.filter λx=>decide (x<0)).length
noncomputable def Yx (w:List Int):Nat:=max (X3 w) 1
noncomputable def Yw (w:List Int)(first:Int):List Int:=(List.range (max w.length 1)).map λk=>first+(X3 (w.take k):Int) % (Yx w:Int)
noncomputable def X0:List (List Int)->Int->List (List Int)
 | [],_=>[]
 |w::ws,f=>Yw w f::X0 ws (f+Yx w)
noncomputable def Xt (ws:List (List Int)):Int:=(ws.map λw=>(Yx w:Int)).sum
noncomputable def Zz (ws:List (List Int)):Nat:=(ws.filter λw=>decide (X3 w=0)).length
theorem Ee:X3 []=0:=rfl
theorem Qw (a b:List Int):X3 (a++b)=X3 a+X3 b:=by unfold X3;rw[List.filter_append,List.length_append]
theorem J0 {x:Int}(h:x<0):X3 [x]=1:=by simp[X3,h]
theorem Ji {x:Int}(h:¬x<0):X3 [x]=0:=by simp[X3,h]
theorem YI {w:List Int}{i:Nat}{x:Int}(h:w[i]?=some x):X3 (w.take (i+1))=X3 (w.take i)+X3 [x]:=by
 rw[List.take_add_one,h,Qw];rfl
theorem JI (w:List Int)(i j:Nat)(h:i<=j):X3 (w.take i)<=X3 (w.take j):=by
 have e:w.take j=w.take i++(w.take j).drop i:=by
  conv=>lhs;rw[←List.take_append_drop i (w.take j)]
  rw[List.take_take,Nat.min_eq_left h]
 rw[e,Qw];lia
theorem CO (w:List Int)(i:Nat):X3 (w.take i)<=X3 w:=by
 by_cases h:i<=w.length
 ·have:=JI w i w.length h
  rw[List.take_length] at this;exact this
 ·rw[List.take_of_length_le (by lia)];exact Nat.le_refl _
theorem Gi (w:List Int):X3 w<=w.length:=List.length_filter_le _ _
theorem Jm (w:List Int):0<Yx w:=by unfold Yx;lia
theorem Je (w:List Int)(f:Int):(Yw w f).length=max w.length 1:=by simp[Yw]
theorem YH (w:List Int)(f:Int){k:Nat}(h:k<max w.length 1):(Yw w f)[k]?=some (f+(X3 (w.take k):Int) % (Yx w:Int)):=by
 unfold Yw
 rw[List.getElem?_map,List.getElem?_range h];rfl
theorem Yl:∀(ws:List (List Int)) (f:Int),(X0 ws f).length=ws.length
 | [],_=>rfl
 |_::ws,f=>by show(X0 ws _).length+1=_;rw[Yl ws];rfl
theorem ZF (w:List Int)(ws:List (List Int)):Xt (w::ws)=Yx w+Xt ws:=by simp[Xt]
theorem ZZ (a b:List (List Int)):Xt (a++b)=Xt a+Xt b:=by simp[Xt,List.sum_append]
theorem Dj (w:List Int):Xt [w]=Yx w:=by simp[Xt]
theorem Z1:∀(a b:List (List Int)) (f:Int),X0 (a++b) f=X0 a f++X0 b (f+Xt a)
 | [],b,f=>by simp[X0,Xt]
 |w::a,b,f=>by
  show Yw w f::X0 (a++b) (f+Yx w)=Yw w f::(X0 a (f+Yx w)++X0 b (f+Xt (w::a)))
  rw[Z1 a b,ZF,Int.add_assoc]
theorem QW {ws:List (List Int)}{i:Nat}{w:List Int}(h:ws[i]?=some w)(f:Int):X0 (ws.take (i+1)) f=X0 (ws.take i) f++[Yw w (f+Xt (ws.take i))]:=by
 rw[List.take_add_one,h,Z1];rfl
theorem YO {ws:List (List Int)}{i:Nat}{w:List Int}(h:ws[i]?=some w):Xt (ws.take (i+1))=Xt (ws.take i)+Yx w:=by
 rw[List.take_add_one,h,ZZ]
 show _+Xt [w]=_
 rw[Dj]
theorem ZA {ws:List (List Int)}{i:Nat}{w:List Int}(h:ws[i]?=some w)(f:Int):(X0 ws f)[i]?=some (Yw w (f+Xt (ws.take i))):=by
 have hl:i<ws.length:=(List.getElem?_eq_some_iff.mp h).1
 have e:ws=ws.take (i+1)++ws.drop (i+1):=(List.take_append_drop _ _).symm
 rw[e,Z1,QW h,List.getElem?_append_left (by rw[List.length_append,Yl,List.length_take];simp;lia),
  List.getElem?_append_right (by rw[Yl,List.length_take];lia),Yl,List.length_take,Nat.min_eq_left (by lia),Nat.sub_self,List.take_append_of_le_length (by rw[List.length_take];lia),List.take_take,Nat.min_eq_left (by lia)]
 rfl
theorem JK:∀ws:List (List Int),Xt ws=(X3 ws.flatten:Int)+(Zz ws:Int)
 | []=>rfl
 |w::ws=>by
  rw[ZF,JK ws,List.flatten_cons,Qw]
  unfold Zz
  rw[List.filter_cons]
  by_cases h:X3 w=0
  ·simp[h,Yx];lia
  ·simp[h,Yx];lia
theorem Dm {ws:List (List Int)}{i:Nat}{w:List Int}(h:ws[i]?=some w):Zz (ws.take (i+1))=Zz (ws.take i)+(if X3 w=0 then 1 else 0):=by
 unfold Zz
 rw[List.take_add_one,h,List.filter_append,List.length_append]
 by_cases e:X3 w=0<;> simp[e]
theorem Kt {a b:List Int}(h:a.Perm b):X3 a=X3 b:=(h.filter _).length_eq
theorem BX:∀{xs:List Int},(∀x∈xs,1<=x)->X3 (xs.flatMap λx=>[x,-x])=xs.length
 | [],_=>rfl
 |x::xs,h=>by
  have hx:=h x List.mem_cons_self
  rw[List.flatMap_cons,Qw,BX λy hy=>h y (List.mem_cons_of_mem _ hy)]
  have e:X3 [x,-x]=1:=by
   show X3 ([x]++[-x])=1
   rw[Qw,Ji (by lia),J0 (by lia)]
  rw[e,List.length_cons];lia
structure LastIs (w:List Int)(i:Nat)(last:Int):Prop where
 lo: -1<=last
 hi:last<(i:Int)
 none:∀j:Nat,last<(j:Int)->j<i->∀x,w[j]?=some x->¬x<0
 at':0<=last->∃x,w[last.toNat]?=some x/\x<0
theorem LastIs.zero (w:List Int):LastIs w 0 (-1):=⟨by lia,by lia,λj _ h=>by lia,λh=>by lia⟩
theorem LastIs.neg {w:List Int}{i:Nat}{x:Int}(e:w[i]?=some x)(hx:x<0):LastIs w (i+1) (i:Int):=
 ⟨by lia,by lia,λj h1 h2=>by lia,λ_=>⟨x,by simpa using e,hx⟩⟩
theorem LastIs.pos {w:List Int}{i:Nat}{x last:Int}(h:LastIs w i last)(e:w[i]?=some x)(hx:¬x<0):LastIs w (i+1) last:=by
 have:=h.hi
 refine⟨h.lo,by lia,λj h1 h2 y hy=>?_,h.at'⟩
 by_cases hj:j=i
 ·subst hj;rw[e] at hy;cases hy;exact hx
 ·exact h.none j h1 (by lia) y hy
theorem QS {w:List Int}{last:Int}(h:LastIs w w.length last):∀j:Nat,last<(j:Int)->X3 (w.take j)=X3 w:=by
 intro j hj
 have key:∀d:Nat,X3 (w.take (j+d))=X3 (w.take j):=λd=>by
  induction d with
  |zero=>rfl
  |succ d ih=>
   cases e:w[j+d]? with
   |none=>
    have:=List.getElem?_eq_none_iff.mp e
    rw[←ih,List.take_of_length_le (by lia),List.take_of_length_le (by lia)]
   |some x=>
    have hl:=(List.getElem?_eq_some_iff.mp e).1
    show X3 (w.take ((j+d)+1))=_
    rw[YI e,ih,Ji (h.none (j+d) (by lia) hl x e)];rfl
 by_cases hl:j<=w.length
 ·rw[←key (w.length-j),show j+(w.length-j)=w.length by lia,List.take_length]
 ·rw[List.take_of_length_le (by lia)]
theorem Kf {w:List Int}{last:Int}(h:LastIs w w.length last)(h0:0<=last):X3 (w.take last.toNat)+1=X3 w:=by
 obtain⟨x,e,hx⟩:=h.at' h0
 have:=YI e
 rw[J0 hx] at this
 rw[←this,QS h (last.toNat+1) (by lia)]
theorem Ck {w:List Int}{last:Int}(h:LastIs w w.length last)(h0:¬0<=last):X3 w=0:=by
 have:=h.lo
 rw[←QS h 0 (by lia)];simp[X3]
theorem BD {w:List Int}{last f:Int}(h:LastIs w w.length last){j:Nat}(hj:(j:Int)<=last):f+(X3 (w.take j):Int) % (Yx w:Int)=f+(X3 (w.take j):Int):=by
 have h0:0<=last:=by lia
 have h1:=Kf h h0
 have h2:=JI w j last.toNat (by lia)
 rw[Int.emod_eq_of_lt (by lia) (by unfold Yx;lia)]
theorem Eo {w:List Int}{last f:Int}(h:LastIs w w.length last){j:Nat}(hj:last<(j:Int)):f+(X3 (w.take j):Int) % (Yx w:Int)=f:=by
 rw[QS h j hj]
 by_cases e:X3 w=0
 ·rw[e];simp
 ·have:(Yx w:Int)=(X3 w:Int):=by unfold Yx;lia
  rw[this,Int.emod_self];lia
theorem CN {w:List Int}{last:Int}(h:LastIs w w.length last):(X3 (w.take last.toNat):Int)+1=(Yx w:Int):=by
 by_cases h0:0<=last
 ·have:=Kf h h0
  unfold Yx;lia
 ·have e:=Ck h h0
  have:=CO w last.toNat
  unfold Yx;lia
theorem Bk {w:List Int}{f x:Int}{i:Nat}(e:w[i]?=some x)(hx:0<x):(Yw w f)[(i+1) % w.length]?=(Yw w f)[i]?:=by
 have hl:=(List.getElem?_eq_some_iff.mp e).1
 have hn:X3 (w.take (i+1))=X3 (w.take i):=by rw[YI e,Ji (by lia)];rfl
 by_cases h:i+1<w.length
 ·rw[Nat.mod_eq_of_lt h,YH w f (by lia),YH w f (by lia),hn]
 ·have e2:i+1=w.length:=by lia
  rw[e2,Nat.mod_self,YH w f (by lia),YH w f (by lia), ←hn,e2,List.take_length]
  congr 2
  rw[List.take_zero,Ee]
  by_cases hz:X3 w=0
  ·rw[hz]
  ·have:(Yx w:Int)=(X3 w:Int):=by unfold Yx;lia
   rw[this,Int.emod_self];simp
end My
namespace My
structure Spot (ws:List (List Int))(x:Int)(i j:Nat)(w:List Int):Prop where
 wi:ws[i]?=some w
 xj:w[j]?=some x
 first:∀m:Nat,m<j->w[m]?≠some x
 none:∀(i':Nat) (w':List Int),i'<i->ws[i']?=some w'->x∉w'
theorem Spot.uniq {ws:List (List Int)}{x:Int}{i j i' j':Nat}{w w':List Int}(h:Spot ws x i j w)(h':Spot ws x i' j' w'):i=i'/\j=j'/\w=w':=by
 have hi:i=i':=by
  rcases Nat.lt_trichotomy i i' with c |c |c
  ·exact absurd (List.mem_of_getElem? h.xj) (h'.none i w c h.wi)
  ·exact c
  ·exact absurd (List.mem_of_getElem? h'.xj) (h.none i' w' c h'.wi)
 subst hi
 have hw:w=w':=Option.some.inj (h.wi.symm.trans h'.wi)
 subst hw
 refine⟨rfl,?_,rfl⟩
 rcases Nat.lt_trichotomy j j' with c |c |c
 ·exact absurd h.xj (h'.first j c)
 ·exact c
 ·exact absurd h'.xj (h.first j' c)
theorem Spot.row {ws:List (List Int)}{x:Int}{i j:Nat}{w:List Int}(h:Spot ws x i j w):∃r,(X0 ws 0)[i]?=some r/\r.length=w.length/\j<w.length:=by
 have hj:=(List.getElem?_eq_some_iff.mp h.xj).1
 exact⟨_,ZA h.wi 0,by rw[Je];lia,hj⟩
inductive MeetIsI (ws:List (List Int))(e:Int×Int)(v:List Int):Prop
 |mk (i:Nat) (j:Nat) (k:Nat) (l:Nat) (w:List Int) (w':List Int) (r:List Int) (r':List Int) (o:Int) (a:Int) (b:Int) (h1_:Spot ws e.1 i j w) (h2_:Spot ws (-e.1) k l w') (h3_:(X0 ws 0)[i]?=some r) (h4_:r[j]?=some o) (h5_:(X0 ws 0)[k]?=some r') (h6_:r'[l]?=some a) (h7_:r'[(l+1) % w'.length]?=some b) (h8_:v=[e.1,e.2,o,a,b])
noncomputable def YR (ws:List (List Int))(e:Int×Int)(v:List Int):Prop:=MeetIsI ws e v
theorem YR.uniq {ws:List (List Int)}{e:Int×Int}{v v':List Int}(h:YR ws e v)(h':YR ws e v'):v=v':=by
 obtain⟨i,j,k,l,w,w',r,r',o,a,b,s1,s2,h1,h2,h3,h4,h5,rfl⟩:=h
 obtain⟨i2,j2,k2,l2,x,x',q,q',o2,a2,b2,t1,t2,g1,g2,g3,g4,g5,rfl⟩:=h'
 obtain⟨rfl,rfl,rfl⟩:=s1.uniq t1
 obtain⟨rfl,rfl,rfl⟩:=s2.uniq t2
 rw[h1] at g1;cases g1
 rw[h3] at g3;cases g3
 rw[h2] at g2;cases g2
 rw[h4] at g4;cases g4
 rw[h5] at g5;cases g5
 rfl
theorem FG:∀{w:List Int}{x:Int},x∈w->∃j:Nat,w[j]?=some x/\∀m:Nat,m<j->w[m]?≠some x
 | [],x,h=>by simp at h
 |y::t,x,h=>by
  by_cases e:y=x
  ·subst e
   exact⟨0,rfl,λm hm=>by lia⟩
  ·rcases List.mem_cons.mp h with z |z
   ·exact absurd z.symm e
   ·obtain⟨j,h1,h2⟩:=FG z
    refine⟨j+1,by simpa using h1,λm hm=>?_⟩
    cases m with
    |zero=>simpa using e
    |succ m=>simpa using h2 m (by lia)
end My
namespace My
open PySem L2
section
variable {α β γ ρ:Type}
theorem VW {f:γ->α->Rs (Ctl ρ γ)}{g:γ}{v:ρ}:∀{as:List α}{i:Nat}{a:α},as[i]?=some a->(∀(k:Nat) b,k<i->as[k]?=some b->f g b= .ok (.nx g))->f g a= .ok (.ret v)->G8 as g f= .ok (.ret v)
 | [],i,a,h,_,_=>by simp at h
 |b::as,0,a,h,_,hf=>by
  have:b=a:=by simpa using h
  subst this
  show(f g b).bind _=_
  rw[hf,Rs.okb]
 |b::as,i+1,a,h,hb,hf=>by
  show(f g b).bind _=_
  rw[hb 0 b (by lia) rfl,Rs.okb]
  exact VW (i:=i) (by simpa using h) (λk c hk hc=>hb (k+1) c (by lia) (by simpa using hc)) hf
theorem E3 {as:List α}{i:Nat}{a:α}(h:as[i]?=some a):(K5 as)[i]?=some ((i:Int),a):=by
 have hi:=(List.getElem?_eq_some_iff.mp h).1
 unfold K5
 rw[List.getElem?_zip_eq_some]
 exact⟨by rw[List.getElem?_map,List.getElem?_range hi];rfl,h⟩
theorem Kq {w:List Int}{x:Int}{j:Nat}(h:w[j]?=some x)(hf:∀m:Nat,m<j->w[m]?≠some x):E9 w x= .ok (j:Int):=by
 obtain⟨hj,e⟩:=List.getElem?_eq_some_iff.mp h
 have:w.findIdx? (λb=>decide (b=x))=some j:=by
  rw[List.findIdx?_eq_some_iff_getElem]
  refine⟨hj,by simp[e],λm hm=>?_⟩
  have hml:m<w.length:=by lia
  have:=hf m hm
  rw[List.getElem?_eq_getElem hml] at this
  simpa using this
 unfold E9
 rw[this]
theorem BH {N k:Nat}{F G:Nat->α}{v:α}(hk:k<N)(hv:G k=v)(h:∀j,j<N->j≠k->F j=G j):((List.range N).map F).set k v=(List.range N).map G:=by
 refine List.ext_getElem (by simp) λj h1 h2=>?_
 have hj:j<N:=by simpa using h1
 rw[List.getElem_set]
 by_cases e:k=j
 ·subst e;rw[if_pos rfl];simp[hv]
 ·rw[if_neg e];simp[h j hj (λz=>e z.symm)]
theorem En (w:List α):Gu w none (some (-1))=w.take (w.length-1):=by
 unfold Gu
 rw[HT.sIx_none]
 have:HT.sIx w.length w.length (some (-1))=w.length-1:=by
  unfold HT.sIx
  simp
  lia
 rw[this];simp
end
theorem ZG {w:List Int}(hl:w.length<=1000):XT w= .ok (Yx w:Int):=by
 unfold XT
 simp only[Rs.okb]
 rw[UD (p:=λx=>decide (x<0)) (h:=λx=>x) (sz (by lia)) (λ_ _=>rfl) λ_ _ _=>rfl,Rs.okb,List.map_id']
 congr 1
 show max ((X3 w:Nat):Int) 1=((max (X3 w) 1:Nat):Int)
 lia
theorem VL {w:List Int}{f:Int}(hl:w.length<=1000):YE w f= .ok (Yw w f):=by
 unfold YE
 simp only[Rs.okb]
 rw[ZG hl,XF]
 simp only[Rs.okb]
 rw[XG (sz (by simp)),En]
 simp only[Rs.okb]
 apply Ok.eq
 refine Ok.bind (Ok.forN (λi (g:Int×List Int)=>g=((X3 (w.take i):Int),(List.range (i+1)).map λk=>f+(X3 (w.take k):Int) % (Yx w:Int))) ?_ λi a g ha hg=>?_) λg hg=>?_
 ·simp[X3]
 ·have hi:=(List.getElem?_eq_some_iff.mp ha).1
  rw[List.length_take] at hi
  have ha':w[i]?=some a:=by
   rw[List.getElem?_take_of_lt (by lia)] at ha
   exact ha
  subst hg
  have hn:=YI ha'
  have hp:=Jm w
  have hlen:((List.range (i+1)).map λk=>f+(X3 (w.take k):Int) % (Yx w:Int)).length<sizeLine:=F3 (by simp;lia)
  refine Ok.bind (R:=λu=>u=(X3 (w.take (i+1)):Int)) (Ok.ite (λc=>⟨_,rfl,?_⟩) λc=>⟨_,rfl,?_⟩) λu hu=>?_
  ·rw[hn,J0 (of_decide_eq_true c)]
   show(X3 (w.take i):Int)+1=_
   lia
  ·rw[hn,Ji (of_decide_eq_false c)]
   show(X3 (w.take i):Int)=_
   lia
  ·subst hu
   rw[YN (by lia),Rs.okb,Rs.okb,XG hlen]
   refine⟨_,rfl,?_⟩
   rw[List.range_succ (n:=i+1),List.map_append];rfl
 ·subst hg
  refine⟨_,rfl,?_⟩
  rw[List.length_take,show min (w.length-1) w.length+1=max w.length 1 by lia]
  rfl
theorem HR {D:List (List Int)×List (Int×Int)}(hd:D.1.length<=1000)(hw:∀w∈D.1,w.length<=1000):Ug D= .ok (X0 D.1 0):=by
 unfold Ug
 simp only[Rs.okb]
 apply Ok.eq
 refine Ok.bind (Ok.forN (λi (g:Int×List (List Int))=>g=(Xt (D.1.take i),X0 (D.1.take i) 0)) rfl λi a g ha hg=>?_) λg hg=>?_
 ·have hi:=(List.getElem?_eq_some_iff.mp ha).1
  subst hg
  have hal:=hw a (List.mem_of_getElem? ha)
  rw[VL hal,XF,Rs.okb,ZG hal,XF]
  rw[XG (F3 (by rw[Yl,List.length_take];lia))]
  simp only[Rs.okb]
  refine⟨_,rfl,?_⟩
  rw[QW ha,YO ha,Int.zero_add]
 ·subst hg
  rw[List.take_length]
  exact⟨_,rfl,rfl⟩
theorem KR {D:List (List Int)×List (Int×Int)}(hd:D.1.length<=1000)(hw:∀w∈D.1,w.length<=1000):Zm D= .ok (Xt D.1):=by
 unfold Zm
 simp only[Rs.okb]
 rw[Zf (h:=λw=>(Yx w:Int)) (sz (by lia)) λw h=>by rw[ZG (hw w h),XF],Rs.okb]
 rfl
theorem B3 {D:List (List Int)×List (Int×Int)}{x:Int}{i j:Nat}{w:List Int}(h:Spot D.1 x i j w):VR D x= .ok ((i:Int),(j:Int)):=by
 unfold VR
 simp only[Rs.okb]
 rw[VW (v:=((i:Int),(j:Int))) (E3 h.wi) (λk b hk hb=>?_) ?_]
 ·rw[Rs.okb,Vh]
 ·rw[if_pos (decide_eq_true (List.mem_of_getElem? h.xj)),Kq h.xj h.first]
  simp only[Rs.okb]
 ·obtain⟨_,h2⟩:=KN hb
  rw[if_neg]
  rw[decide_eq_true_eq]
  exact h.none k b.2 hk h2
theorem Kv {ws:List (List Int)}{x:Int}{i j:Nat}{w:List Int}(hl:ws.length<=1000)(h:Spot ws x i j w):Z8 ws x= .ok ((i:Int),(j:Int)):=by
 have hi:=(List.getElem?_eq_some_iff.mp h.wi).1
 unfold Z8
 simp only[Rs.okb]
 rw[Y4 (by lia),Rs.okb]
 rw[VW (v:=((i:Int),(j:Int))) (i:=i) (a:=(i:Int)) (by rw[List.getElem?_map,List.getElem?_range hi];rfl) (λk b hk hb=>?_) ?_]
 ·rw[Rs.okb,Vh]
 ·rw[YM h.wi]
  simp only[Rs.okb]
  rw[if_pos (decide_eq_true (List.mem_of_getElem? h.xj)),Kq h.xj h.first]
  simp only[Rs.okb]
 ·obtain⟨rfl,hkl⟩:=Ya hb
  have hks:ws[k]?=some ws[k]:=by simp[hkl]
  rw[YM hks]
  simp only[Rs.okb]
  rw[if_neg]
  rw[decide_eq_true_eq]
  exact h.none k _ hk hks
theorem Fv {D:List (List Int)×List (Int×Int)}(hw:∀w∈D.1,w.length<=1000):Qp D= .ok ((D.2.length:Int)+(Zz D.1:Int)):=by
 unfold Qp
 simp only[Rs.okb]
 apply Ok.eq
 refine Ok.bind (Ok.forN (λi (g:Int)=>g=(D.2.length:Int)+(Zz (D.1.take i):Int)) (by simp[Zz]) λi a g ha hg=>?_) λg hg=>?_
 ·have hal:=hw a (List.mem_of_getElem? ha)
  rw[UD (p:=λx=>decide (x<0)) (h:=λx=>x) (sz (by lia)) (λ_ _=>rfl) λ_ _ _=>rfl,List.map_id']
  simp only[Rs.okb]
  have hz:=Dm ha
  have hnn:((a.filter λx=>decide (x<0)).length:Int)=(X3 a:Int):=rfl
  rw[hnn]
  by_cases c:X3 a=0
  ·rw[if_pos c] at hz
   rw[if_pos (decide_eq_true (by lia))]
   simp only[Rs.okb]
   exact⟨_,rfl,by lia⟩
  ·rw[if_neg c] at hz
   rw[if_neg (by rw[decide_eq_true_eq];lia)]
   simp only[Rs.okb]
   exact⟨_,rfl,by lia⟩
 ·subst hg
  rw[List.take_length]
  exact⟨_,rfl,rfl⟩
theorem Nu (f:Int)(n:Nat):(List.replicate n [f]).flatten=(List.range n).map λ_=>f:=by
 induction n with
 |zero=>rfl
 |succ n ih=>rw[List.replicate_succ,List.flatten_cons,ih,List.range_succ_eq_map,List.map_cons,List.map_map];rfl
theorem DI {ws:List (List Int)}(hd:ws.length<=1000)(hw:∀w∈ws,w.length<=1000):QE ws= .ok (X0 ws 0):=by
 unfold QE
 simp only[Rs.okb]
 apply Ok.eq
 refine Ok.bind (Ok.forN (λi (g:Int×List (List Int))=>g=(Xt (ws.take i),X0 (ws.take i) 0)) rfl λi w g ha hg=>?_) λg hg=>?_
 ·have hi:=(List.getElem?_eq_some_iff.mp ha).1
  subst hg
  have hal:=hw w (List.mem_of_getElem? ha)
  generalize hf:Xt (ws.take i)=f
  rw[Y4 (by lia),Rs.okb]
  refine Ok.bind (Ok.forN (λk (l:Int)=>LastIs w k l) (LastIs.zero w) λk b l hb hl=>?_) λlast hlast=>?_
  ·obtain⟨rfl,hk⟩:=Ya hb
   have hks:w[k]?=some w[k]:=by simp[hk]
   rw[YM hks]
   simp only[Rs.okb]
   by_cases c:w[k]<0
   ·rw[if_pos (decide_eq_true c),Rs.okb]
    exact⟨_,rfl,LastIs.neg hks c⟩
   ·rw[if_neg (by rw[decide_eq_true_eq];exact c),Rs.okb]
    exact⟨_,rfl,hl.pos hks c⟩
  rw[XX] at hlast
  rw[XG (sz (by simp))]
  simp only[Rs.okb]
  rw[show max (w.length:Int) 1=((max w.length 1:Nat):Int) by lia]
  rw[show DE [f] ((max w.length 1:Nat):Int)= .ok ((List.range (max w.length 1)).map λ_=>f) from by
   unfold DE
   rw[XG ⟨by lia,by lia,sz (by simp;lia)⟩,Int.toNat_natCast,Nu]]
  simp only[Rs.okb]
  have hlb: -1<=last/\last<(w.length:Int):=⟨hlast.lo,hlast.hi⟩
  rw[show last+1=(((last+1).toNat:Nat):Int) by lia,Y4 (by lia),Rs.okb]
  refine Ok.bind (Ok.forN (λk (h:List Int×Int×Int)=>h.1=((List.range (max w.length 1)).map λj=>if j<k then f+(X3 (w.take j):Int) else f)/\h.2.1=f+(X3 (w.take (min k last.toNat)):Int)/\h.2.2=f+(X3 (w.take (min k last.toNat)):Int)) ⟨by simp,by simp[X3],by simp[X3]⟩ λk b h hb hh=>?_) λh hh=>?_
  ·obtain⟨rfl,hk⟩:=Ya hb
   obtain⟨h1,h2,h3⟩:=hh
   have hkl:k<w.length:=by lia
   have hks:w[k]?=some w[k]:=by simp[hkl]
   rw[Nat.min_eq_left (by lia)] at h2 h3
   rw[h1,QV (by simp;lia),Rs.okb,YM hks]
   simp only[Rs.okb,VT]
   have hset:(((List.range (max w.length 1)).map λj=>if j<k then f+(X3 (w.take j):Int) else f).set k h.2.2)=(List.range (max w.length 1)).map λj=>if j<k+1 then f+(X3 (w.take j):Int) else f:=BH (by lia) (by rw[if_pos (by lia),h3]) λj hj hne=>by
    by_cases c:j<k
    ·rw[if_pos c,if_pos (by lia)]
    ·rw[if_neg c,if_neg (by lia)]
   rw[hset]
   have hn:=YI hks
   by_cases c:w[k]<0/\(k:Int)<last
   ·rw[if_pos (by rw[Bool.and_eq_true,decide_eq_true_eq,decide_eq_true_eq];exact c),Rs.okb]
    rw[J0 c.1] at hn
    refine⟨_,rfl,rfl,?_,?_⟩
    ·show h.2.1+1=_
     rw[Nat.min_eq_left (by lia),hn,h2];lia
    ·show h.2.1+1=_
     rw[Nat.min_eq_left (by lia),hn,h2];lia
   ·rw[if_neg (by rw[Bool.and_eq_true,decide_eq_true_eq,decide_eq_true_eq];exact c),Rs.okb]
    have hst:X3 (w.take (min (k+1) last.toNat))=X3 (w.take k):=by
     by_cases c2:(k:Int)<last
     ·have c3:¬w[k]<0:=λz=>c ⟨z,c2⟩
      rw[Ji c3] at hn
      rw[Nat.min_eq_left (by lia),hn,Nat.add_zero]
     ·rw[Nat.min_eq_right (by lia),show last.toNat=k by lia]
    refine⟨_,rfl,rfl,?_,?_⟩
    ·show h.2.1=_
     rw[hst,h2]
    ·show h.2.2=_
     rw[hst,h3]
  ·rw[XX] at hh
   obtain⟨h1,h2,_⟩:=hh
   rw[XG (F3 (by rw[Yl,List.length_take];lia))]
   have hce:=CN hlast
   rw[Nat.min_eq_right (by lia)] at h2
   refine⟨_,rfl,?_⟩
   rw[QW ha,YO ha,Int.zero_add,hf,h1,h2]
   have e1:f+(X3 (w.take last.toNat):Int)+1=f+(Yx w:Int):=by lia
   have e2:((List.range (max w.length 1)).map λj=>if j<(last+1).toNat then f+(X3 (w.take j):Int) else f)=Yw w f:=by
    unfold Yw
    refine List.map_congr_left λj _=>?_
    by_cases c:j<(last+1).toNat
    ·rw[if_pos c,BD hlast (by lia)]
    ·rw[if_neg c,Eo hlast (by lia)]
   rw[e1,e2]
 ·subst hg
  rw[List.take_length]
  exact⟨_,rfl,rfl⟩
theorem Gv:∀{ws:List (List Int)}{x:Int},x∈ws.flatten->∃i j w,Spot ws x i j w
 | [],x,h=>by simp at h
 |w::ws,x,h=>by
  by_cases c:x∈w
  ·obtain⟨j,h1,h2⟩:=FG c
   exact⟨0,j,w,rfl,h1,h2,λi' w' hi _=>by lia⟩
  ·have hx:x∈ws.flatten:=by
    rw[List.flatten_cons,List.mem_append] at h
    exact h.resolve_left c
   obtain⟨i,j,v,s⟩:=Gv hx
   refine⟨i+1,j,v,by simpa using s.wi,s.xj,s.first,λi' w' hi hw=>?_⟩
   cases i' with
   |zero=>
    have:w=w':=by simpa using hw
    exact this▸c
   |succ i'=>exact s.none i' w' (by lia) (by simpa using hw)
theorem Vx (ws:List (List Int)):0<=Xt ws:=by
 induction ws with
 |nil=>exact Int.le_refl _
 |cons w ws ih=>rw[ZF];lia
theorem Be {ws:List (List Int)}{i j:Nat}{w r:List Int}{o:Int}(hw:ws[i]?=some w)(hr:(X0 ws 0)[i]?=some r)(ho:r[j]?=some o):0<=o/\o<Xt ws:=by
 rw[ZA hw] at hr
 cases hr
 have hj:=(List.getElem?_eq_some_iff.mp ho).1
 rw[Je] at hj
 rw[YH w _ hj] at ho
 have ho':=Option.some.inj ho
 have hp:=Jm w
 have m0:=Int.emod_nonneg (X3 (w.take j):Int) (show(Yx w:Int)≠0 by lia)
 have m1:=Int.emod_lt_of_pos (X3 (w.take j):Int) (show(0:Int)<(Yx w:Int) by lia)
 have t0:=Vx (ws.take i)
 have t1:Xt ws=Xt (ws.take (i+1))+Xt (ws.drop (i+1)):=by rw[←ZZ,List.take_append_drop]
 have t2:=Vx (ws.drop (i+1))
 rw[YO hw] at t1
 lia
structure DG (D:List (List Int)×List (Int×Int)):Prop where
 few:D.1.length<=1000
 short:∀w∈D.1,w.length<=1000
 le:D.2.length<=1000
 mem:∀e∈D.2,e.1∈D.1.flatten/\ -e.1∈D.1.flatten
 sg:∀e∈D.2,e.2=1∨e.2= -1
 count:Xt D.1=(D.2.length:Int)+(Zz D.1:Int)
noncomputable def MG (N:Int)(m:Int×Int×Int×Int×Int):Prop:=(m.2.1=1∨m.2.1= -1)/\(0<=m.2.2.1/\m.2.2.1<N)/\(0<=m.2.2.2.1/\m.2.2.2.1<N)/\(0<=m.2.2.2.2/\m.2.2.2.2<N)
theorem VG {D:List (List Int)×List (Int×Int)}(h:DG D):∃v:Int×Int->Int×Int×Int×Int×Int,Qj D= .ok (D.2.map v)/\ZH D= .ok (D.2.map v)/\(∀m∈D.2.map v,MG (Xt D.1) m)/\∀e∈D.2,YR D.1 e [e.1,e.2,(v e).2.2.1,(v e).2.2.2.1,(v e).2.2.2.2]/\(v e).1=e.1/\(v e).2.1=e.2:=by
 have key:∀e:Int×Int,∃v:Int×Int×Int×Int×Int,e∈D.2->∃(i j k l:Nat) (w w' r r':List Int),Spot D.1 e.1 i j w/\Spot D.1 (-e.1) k l w'/\(X0 D.1 0)[i]?=some r/\r[j]?=some v.2.2.1/\(X0 D.1 0)[k]?=some r'/\r'.length=w'.length/\0<w'.length/\r'[l]?=some v.2.2.2.1/\r'[(l+1) % w'.length]?=some v.2.2.2.2/\v.1=e.1/\v.2.1=e.2:=λe=>by
  by_cases he:e∈D.2
  ·obtain⟨i,j,w,s1⟩:=Gv (h.mem e he).1
   obtain⟨k,l,w',s2⟩:=Gv (h.mem e he).2
   obtain⟨r,hr,hrl,hj⟩:=s1.row
   obtain⟨r',hr',hrl',hl⟩:=s2.row
   have hm:(l+1) % w'.length<r'.length:=by rw[hrl'];exact Nat.mod_lt _ (by lia)
   exact⟨(e.1,e.2,r[j],r'[l],r'[(l+1) % w'.length]),λ_=>⟨i,j,k,l,w,w',r,r',s1,s2,hr,by simp,hr',hrl',by lia,by simp,by simp,rfl,rfl⟩⟩
  ·exact⟨(0,0,0,0,0),λz=>absurd z he⟩
 obtain⟨v,hv⟩:=Classical.axiomOfChoice key
 refine⟨v,?_,?_,λm hm=>?_,λe he=>?_⟩
 ·unfold Qj
  simp only[Rs.okb]
  rw[HR h.few h.short,XF]
  simp only[Rs.okb]
  rw[Zt (h:=v) (sz (by have:=h.le;simp;lia)) λg hg e he=>?_]
  ·rw[Rs.okb,List.nil_append]
  ·obtain⟨i,j,k,l,w,w',r,r',s1,s2,h1,h2,h3,h4,h5,h6,h7,h8,h9⟩:=hv e he
   have hm:((l:Int)+1) % (r'.length:Int)=(((l+1) % w'.length:Nat):Int):=by rw[h4,Int.natCast_emod];rfl
   rw[B3 s1,B3 s2,XF,XF]
   simp only[Rs.okb]
   rw[YM h1,YM h3]
   simp only[Rs.okb]
   rw[YM h2,YM h6]
   simp only[Rs.okb]
   rw[YN (by lia),hm]
   simp only[Rs.okb]
   rw[YM h7]
   simp only[Rs.okb]
   rw[XG hg]
   congr 2
   rw[←h8, ←h9]
 ·unfold ZH
  simp only[Rs.okb]
  rw[DI h.few h.short,XF]
  simp only[Rs.okb]
  rw[Zt (h:=v) (sz (by have:=h.le;simp;lia)) λg hg e he=>?_]
  ·rw[Rs.okb,List.nil_append]
  ·obtain⟨i,j,k,l,w,w',r,r',s1,s2,h1,h2,h3,h4,h5,h6,h7,h8,h9⟩:=hv e he
   have hm:((l:Int)+1) % (w'.length:Int)=(((l+1) % w'.length:Nat):Int):=by rw[Int.natCast_emod];rfl
   rw[Kv h.few s1,Kv h.few s2,XF,XF]
   simp only[Rs.okb]
   rw[YM s2.wi]
   simp only[Rs.okb]
   rw[YN (by lia),hm]
   simp only[Rs.okb]
   rw[YM h1,YM h3]
   simp only[Rs.okb]
   rw[YM h2,YM h6]
   simp only[Rs.okb]
   rw[YM h7]
   simp only[Rs.okb]
   rw[XG hg]
   congr 2
   rw[←h8, ←h9]
 ·obtain⟨e,he,rfl⟩:=List.mem_map.mp hm
  obtain⟨i,j,k,l,w,w',r,r',s1,s2,h1,h2,h3,h4,h5,h6,h7,h8,h9⟩:=hv e he
  exact⟨by rw[h9];exact h.sg e he,Be s1.wi h1 h2,Be s2.wi h3 h6,Be s2.wi h3 h7⟩
 ·obtain⟨i,j,k,l,w,w',r,r',s1,s2,h1,h2,h3,h4,h5,h6,h7,h8,h9⟩:=hv e he
  exact⟨⟨i,j,k,l,w,w',r,r',_,_,_,s1,s2,h1,h2,h3,h6,h7,rfl⟩,h8,h9⟩
theorem Kw {α γ ρ:Type}{F:γ->α->Rs (Ctl ρ γ)}{p:α->Bool}{v:ρ}{g:γ}:∀{as:List α},(∀a∈as,F g a= .ok (if p a=true then .ret v else .nx g))->G8 as g F= .ok (if as.any p=true then .ret v else .nx g)
 | [],_=>rfl
 |a::as,h=>by
  show(F g a).bind _=_
  rw[h a (by simp),Rs.okb,List.any_cons]
  cases hp:p a with
  |true=>rw[if_pos rfl];rfl
  |false=>
   rw[if_neg Bool.false_ne_true,Bool.false_or]
   exact Kw λb hb=>h b (by simp[hb])
noncomputable def QO (f:Nat->Nat->Nat)(cn:Int->Nat)(m:Int×Int×Int×Int×Int):Bool:=if m.2.1=1 then decide ((f (cn m.2.2.2.1) (cn m.2.2.1):Int)=cn m.2.2.2.2) else decide ((f (cn m.2.2.2.2) (cn m.2.2.1):Int)=cn m.2.2.2.1)
section
variable {n:Nat}{f:Nat->Nat->Nat}{c:List Int}{cn:Int->Nat}{N:Int}
theorem EZ {ms:List (Int×Int×Int×Int×Int)}(hc:∀k,0<=k->k<N->atR c k= .ok (cn k:Int)/\cn k<n)(hm:∀m∈ms,MG N m):Jx ms (YX n f) c= .ok (ms.all (QO f cn)):=by
 unfold Jx
 simp only[Rs.okb]
 rw[Kw (p:=λm=>!(QO f cn m)) (v:=false) λm h=>?_]
 ·rw[Rs.okb]
  have e:ms.any (λm=>!(QO f cn m))=!ms.all (QO f cn):=by
   rw[List.not_all_eq_any_not]
  rw[e]
  cases ms.all (QO f cn) with
  |true=>rw[show(!true)=false from rfl,if_neg Bool.false_ne_true,G2]
  |false=>rw[show(!false)=true from rfl,if_pos rfl,Vh]
 ·obtain⟨s,⟨o0,o1⟩,⟨a0,a1⟩,b0,b1⟩:=hm m h
  rw[(hc _ a0 a1).1,(hc _ b0 b1).1]
  simp only[Rs.okb]
  unfold QO
  rcases s with s |s
  ·rw[if_neg (show ¬decide (m.2.1<0)=true by rw[decide_eq_true_eq];lia),if_pos s]
   simp only[Rs.okb]
   rw[VB (hc _ a0 a1).2]
   simp only[Rs.okb]
   rw[(hc _ o0 o1).1]
   simp only[Rs.okb]
   rw[U9 (hc _ o0 o1).2]
   simp only[Rs.okb]
   cases(!decide ((f (cn m.2.2.2.1) (cn m.2.2.1):Int)=cn m.2.2.2.2))<;> rfl
  ·rw[if_pos (decide_eq_true (show m.2.1<0 by lia)),if_neg (show ¬m.2.1=1 by lia)]
   simp only[Rs.okb]
   rw[VB (hc _ b0 b1).2]
   simp only[Rs.okb]
   rw[(hc _ o0 o1).1]
   simp only[Rs.okb]
   rw[U9 (hc _ o0 o1).2]
   simp only[Rs.okb]
   cases(!decide ((f (cn m.2.2.2.2) (cn m.2.2.1):Int)=cn m.2.2.2.1))<;> rfl
noncomputable def Jp (m:Int×Int×Int×Int×Int):Int×Int×Int:=if m.2.1=1 then(m.2.2.2.1,m.2.2.1,m.2.2.2.2) else(m.2.2.2.2,m.2.2.1,m.2.2.2.1)
theorem La {D:List (List Int)×List (Int×Int)}{ms:List (Int×Int×Int×Int×Int)}(h:Qj D= .ok ms)(hl:ms.length<=1000):Uh D= .ok (ms.map Jp):=by
 unfold Uh
 simp only[Rs.okb]
 rw[h,XF]
 simp only[Rs.okb]
 rw[Zt (h:=Jp) (sz (by simp;lia)) λg hg e he=>?_]
 ·rw[Rs.okb,List.nil_append]
 ·unfold Jp
  by_cases s:e.2.1=1
  ·rw[if_pos (decide_eq_true s),if_pos s]
   simp only[Rs.okb]
   exact XG hg
  ·rw[if_neg (by rw[decide_eq_true_eq];exact s),if_neg s]
   simp only[Rs.okb]
   exact XG hg
theorem Gh {ms:List (Int×Int×Int×Int×Int)}(hl:ms.length<=1000)(hc:∀k,0<=k->k<N->atR c k= .ok (cn k:Int)/\cn k<n)(hm:∀m∈ms,MG N m):ZB (YX n f) c (ms.map Jp)= .ok (ms.all (QO f cn)):=by
 unfold ZB
 simp only[Rs.okb]
 rw[Zf (h:=λt:Int×Int×Int=>decide ((f (cn t.1) (cn t.2.1):Int)=cn t.2.2)) (sz (by simp;lia)) λt ht=>?_]
 ·rw[Rs.okb,List.map_map]
  congr 1
  rw[List.all_map]
  refine congrArg (λF=>ms.all F) (funext λm=>?_)
  show decide _=QO f cn m
  unfold QO Jp
  by_cases s:m.2.1=1
  ·simp only[if_pos s]
  ·simp only[if_neg s]
 ·obtain⟨m,h,rfl⟩:=List.mem_map.mp ht
  obtain⟨s,⟨o0,o1⟩,⟨a0,a1⟩,b0,b1⟩:=hm m h
  have key:∀x y z:Int,0<=x->x<N->0<=y->y<N->0<=z->z<N->((((atR c x).bind λx9=>atR (YX n f) x9).bind λx12=>(atR c y).bind λx13=>atR x12 x13).bind λx16=>(atR c z).bind λx17=>(Rs.ok (decide (x16=x17)):Rs Bool))= .ok (decide ((f (cn x) (cn y):Int)=cn z)):=λx y z x0 x1 y0 y1 z0 z1=>by
   rw[(hc x x0 x1).1,(hc y y0 y1).1,(hc z z0 z1).1]
   simp only[Rs.okb]
   rw[VB (hc x x0 x1).2]
   simp only[Rs.okb]
   rw[U9 (hc y y0 y1).2]
   simp only[Rs.okb]
  unfold Jp
  by_cases s:m.2.1=1
  ·rw[if_pos s];exact key _ _ _ a0 a1 o0 o1 b0 b1
  ·rw[if_neg s];exact key _ _ _ b0 b1 o0 o1 a0 a1
end
theorem Lm {c:List Int}{n:Nat}{N:Int}(hN:(c.length:Int)=N)(hc:∀x∈c,0<=x/\x<(n:Int)):∀k,0<=k->k<N->atR c k= .ok (((c.getD k.toNat 0).toNat:Nat):Int)/\(c.getD k.toNat 0).toNat<n:=λk k0 k1=>by
 have hk:k.toNat<c.length:=by lia
 have hx:=hc c[k.toNat] (List.getElem_mem hk)
 have e:c.getD k.toNat 0=c[k.toNat]:=by simp[hk]
 rw[e]
 refine⟨?_,by lia⟩
 rw[Z2 (n:=k.toNat) (by lia) hk]
 congr 1
 lia
theorem EX {n K:Nat}(h24:n<=100)(hK:K<=3000):JD (n:Int) (K:Int)= .ok ((n^K:Nat):Int):=by
 unfold JD
 simp only[Rs.okb]
 rw[Y4 (by lia)]
 simp only[Rs.okb]
 apply Ok.eq
 refine Ok.bind (Ok.forN (λi (g:Int)=>g=((n^i:Nat):Int)) rfl λi a g ha hg=>?_) λg hg=>?_
 ·subst hg
  rw[Qe (by lia) (by lia),Rs.okb]
  refine⟨_,rfl,?_⟩
  rw[Nat.pow_succ]
  exact(Int.natCast_mul _ _).symm
 ·rw[XX] at hg
  exact⟨_,rfl,hg⟩
theorem DG.of {most:Nat}{D:List (List Int)×List (Int×Int)}(h:Drawn most D)(hm:most<=100):DG D where
 few:=by have:=h.few;lia
 short:=λw hw=>by
  have h1:=h.perm.length_eq
  rw[Qr,List.length_map] at h1
  have h2:=(List.sublist_flatten_of_mem hw).length_le
  have:=h.le
  lia
 le:=by have:=h.le;lia
 mem:=λe he=>by
  have hm:e.1∈D.2.map Prod.fst:=List.mem_map.mpr ⟨e,he,rfl⟩
  exact⟨h.perm.mem_iff.mpr (List.mem_flatMap.mpr ⟨_,hm,by simp⟩),h.perm.mem_iff.mpr (List.mem_flatMap.mpr ⟨_,hm,by simp⟩)⟩
 sg:=λe he=>(h.pos e he).2.2
 count:=by
  rw[JK,Kt h.perm,BX λx hx=>?_,List.length_map]
  obtain⟨e,he,rfl⟩:=List.mem_map.mp hx
  exact(h.pos e he).1
theorem DG.other {D:List (List Int)×List (Int×Int)}(h:DG D):DG (D.1,D.2.map λe=>(e.1,-e.2)) where
 few:=h.few
 short:=h.short
 le:=by rw[List.length_map];exact h.le
 mem:=λe he=>by
  obtain⟨x,hx,rfl⟩:=List.mem_map.mp he
  exact h.mem x hx
 sg:=λe he=>by
  obtain⟨x,hx,rfl⟩:=List.mem_map.mp he
  have:=h.sg x hx
  show-x.2=1∨ -x.2= -1
  lia
 count:=by rw[List.length_map];exact h.count
theorem B5 (o a b:Int):KO [o,a,b]=max (max o a) b:=rfl
theorem DF {n i j:Nat}(hn:0<n)(h:i<=j):n^i<=n^j:=Nat.pow_le_pow_right hn h
theorem CH {c:List Int}{n k:Nat}(hl:c.length=k)(hc:∀x∈c,0<=x/\x<(n:Int)):∀j,0<=j->j<(k:Int)->atR c j= .ok (((c.getD j.toNat 0).toNat:Nat):Int)/\(c.getD j.toNat 0).toNat<n:=Lm (by lia) hc
theorem Q7 {α β:Type}{F:List β->α->Rs (List β)}{p:α->Bool}{h:α->β}:∀{as:List α}{g:List β},g.length+as.length<=100000->(∀(g:List β) a,a∈as->g.length<100000->F g a= .ok (if p a=true then g++[h a] else g))->forN as g F= .ok (g++(as.filter p).map h)
 | [],g,_,_=>by rw[List.filter_nil,List.map_nil,List.append_nil];rfl
 |a::as,g,hl,hf=>by
  show(F g a).bind _=_
  rw[List.length_cons] at hl
  rw[hf g a List.mem_cons_self (by lia),Rs.okb]
  cases hp:p a with
  |true=>
   rw[if_pos rfl,List.filter_cons_of_pos hp,List.map_cons]
   refine(Q7 (by simp;lia) λg b hb=>hf g b (List.mem_cons_of_mem _ hb)).trans ?_
   rw[List.append_assoc];rfl
  |false=>
   rw[if_neg Bool.false_ne_true,List.filter_cons_of_neg (by rw[hp];exact Bool.false_ne_true)]
   exact Q7 (by lia) λg b hb=>hf g b (List.mem_cons_of_mem _ hb)
noncomputable abbrev M5:=Int×Int×Int×Int×Int
noncomputable def Jk (c:List Int)(i:Int):Nat:=(c.getD i.toNat 0).toNat
noncomputable def QH (n:Nat)(f:Nat->Nat->Nat)(ms:List M5)(c:List Int):List (List Int):=((((List.range n).map λ(i:Nat)=>(i:Int))).filter λj=>ms.all (QO f (Jk (c++[j])))).map λj=>c++[j]
noncomputable def Ja (n:Nat)(f:Nat->Nat->Nat)(ms:List M5)(T:List (List Int)):List (List Int):=T.flatMap (QH n f ms)
noncomputable def QY (k:Nat)(m:M5):Bool:=decide (KO [m.2.2.1,m.2.2.2.1,m.2.2.2.2]=(k:Int))
noncomputable def TT (n:Nat)(f:Nat->Nat->Nat)(ms:List M5):Nat->List (List Int)
 |0=>[[]]
 |k+1=>Ja n f (ms.filter (QY k)) (TT n f ms k)
noncomputable def MC (n k:Nat)(T:List (List Int)):Prop:=T.length<=n^k/\∀c∈T,c.length=k/\∀x∈c,0<=x/\x<(n:Int)
section
variable {n:Nat}{f:Nat->Nat->Nat}{ms:List M5}
theorem GX (c:List Int):(QH n f ms c).length<=n:=by
 unfold QH
 rw[List.length_map]
 exact Nat.le_trans (List.length_filter_le ..) (by simp)
theorem G6:∀T:List (List Int),(Ja n f ms T).length<=T.length*n
 | []=>by simp[Ja]
 |c::T=>by
  have h:=G6 T
  have h2:=GX (n:=n) (f:=f) (ms:=ms) c
  unfold Ja at h⊢
  rw[List.flatMap_cons,List.length_append,List.length_cons,Nat.succ_mul]
  lia
theorem Bo {k:Nat}{T:List (List Int)}(h:MC n k T):MC n (k+1) (Ja n f ms T):=by
 refine⟨Nat.le_trans (G6 T) (by rw[Nat.pow_succ];exact Nat.mul_le_mul_right n h.1),λd hd=>?_⟩
 obtain⟨c,hc,hd⟩:=List.mem_flatMap.mp hd
 unfold QH at hd
 obtain⟨j,hj,rfl⟩:=List.mem_map.mp hd
 obtain⟨i,hi,rfl⟩:=Zs (List.mem_filter.mp hj).1
 obtain⟨h1,h2⟩:=h.2 c hc
 refine⟨by simp[h1],λx hx=>?_⟩
 rcases List.mem_append.mp hx with z |z
 ·exact h2 x z
 ·rw[List.mem_singleton] at z;lia
theorem Z9:∀k,MC n k (TT n f ms k)
 |0=>⟨by simp[TT],λc hc=>by
  have:c=[]:=by simpa[TT] using hc
  subst this
  exact⟨rfl,λx hx=>by cases hx⟩⟩
 |k+1=>Bo (Z9 k)
theorem outer {F:List (List Int)->List Int->Rs (List (List Int))}{T:List (List Int)}(hT:T.length*n<=90000)(hF:∀(g:List (List Int)) c,c∈T->g.length+n<=90000->F g c= .ok (g++QH n f ms c)):forN T [] F= .ok (Ja n f ms T):=by
 obtain⟨r,e,h⟩:=UU (f:=F) (λi (g:List (List Int))=>g=(T.take i).flatMap (QH n f ms)/\g.length<=i*n) (as:=T) (g:=[]) ⟨by simp,by simp⟩ λi c g hc hg=>by
  have hi:=(List.getElem?_eq_some_iff.mp hc).1
  obtain⟨h1,h2⟩:=hg
  have h3:(i+1)*n<=T.length*n:=Nat.mul_le_mul_right n (by lia)
  rw[Nat.succ_mul] at h3
  refine⟨_,hF g c (List.mem_of_getElem? hc) (by lia),?_,?_⟩
  ·rw[List.take_add_one,hc,List.flatMap_append, ←h1]
   simp
  ·rw[List.length_append,Nat.succ_mul]
   have:=GX (n:=n) (f:=f) (ms:=ms) c
   lia
 rw[e,h.1,List.take_length]
 rfl
theorem BE {N:Int}(hm:∀m∈ms,MG N m)(k:Nat):∀m∈ms.filter (QY k),MG ((k+1:Nat):Int) m:=λm h=>by
 obtain⟨h1,h2⟩:=List.mem_filter.mp h
 unfold QY at h2
 rw[decide_eq_true_eq,B5] at h2
 obtain⟨s,o,a,b⟩:=hm m h1
 exact⟨s,⟨o.1,by lia⟩,⟨a.1,by lia⟩,b.1,by lia⟩
theorem HU {c:List Int}{k:Nat}(h1:c.length=k)(h2:∀x∈c,0<=x/\x<(n:Int)){j:Nat}(hj:j<n):∀i,0<=i->i<((k+1:Nat):Int)->atR (c++[(j:Int)]) i= .ok (Jk (c++[(j:Int)]) i:Int)/\Jk (c++[(j:Int)]) i<n:=
 CH (k:=k+1) (by simp[h1]) λx hx=>by
  rcases List.mem_append.mp hx with z |z
  ·exact h2 x z
  ·rw[List.mem_singleton] at z;lia
theorem Nc {c:List Int}{j:Int}(h:c.length<=1000):((chk ([j].length<=sizeLine) (Rs.ok [j])).bind λx=>FR c x)= .ok (c++[j]):=by
 rw[XG (sz (by simp)),Rs.okb]
 exact XG (sz (by simp;lia))
theorem Cu {N:Int}{k:Nat}{T:List (List Int)}(hk:k<=900)(hl:ms.length<=1000)(hm:∀m∈ms,MG N m)(hT:MC n k T)(hb:T.length*n<=90000)(hn:n<=1000):Yq T (YX n f) ((ms.filter (QY k)).map Jp)= .ok (Ja n f (ms.filter (QY k)) T):=by
 unfold Yq
 simp only[Rs.okb,XV]
 rw[outer (n:=n) (f:=f) (ms:=ms.filter (QY k)) hb,Rs.okb]
 intro g c hc hg
 obtain⟨h1,h2⟩:=hT.2 c hc
 rw[Y4 (by lia),Rs.okb,Q7 (p:=λj=>(ms.filter (QY k)).all (QO f (Jk (c++[j])))) (h:=λj=>c++[j]) (by simp;lia),Rs.okb]
 ·rfl
 intro g' a ha hg'
 obtain⟨j,hj,rfl⟩:=Zs ha
 rw[Nc (by lia),Rs.okb,Gh (cn:=Jk (c++[(j:Int)])) (Nat.le_trans (List.length_filter_le ..) hl) (HU h1 h2 hj) (BE hm k),XF,Rs.okb]
 cases(ms.filter (QY k)).all (QO f (Jk (c++[(j:Int)]))) with
 |true=>rw[if_pos rfl,XG (F3 (by lia))];rfl
 |false=>rw[if_neg Bool.false_ne_true];rfl
theorem Ii (k:Nat):(ms.map Jp).filter (λt=>decide (KO [t.1,t.2.1,t.2.2]=(k:Int)))=(ms.filter (QY k)).map Jp:=by
 induction ms with
 |nil=>rfl
 |cons m t ih=>
  have e:decide (KO [(Jp m).1,(Jp m).2.1,(Jp m).2.2]=(k:Int))=QY k m:=by
   unfold Jp QY
   rw[B5]
   by_cases s:m.2.1=1
   ·rw[if_pos s,B5]
    congr 1
    rw[Int.max_comm m.2.2.2.1 m.2.2.1]
   ·rw[if_neg s,B5]
    congr 1
    rw[Int.max_comm m.2.2.2.2 m.2.2.1,Int.max_assoc,Int.max_comm m.2.2.2.2, ←Int.max_assoc]
  rw[List.map_cons,List.filter_cons,List.filter_cons,e,ih]
  cases QY k m<;> rfl
end
section
variable {D:List (List Int)×List (Int×Int)}{n K:Nat}{f:Nat->Nat->Nat}
theorem Fl (h:DG D)(hn:0<n)(h24:n<=100)(hK:Xt D.1=(K:Int))(hp:n^K<=65000)(hK2:K<=900){ms:List M5}(e1:Qj D= .ok ms)(hl:ms.length<=1000)(hm:∀m∈ms,MG (Xt D.1) m):X8 D (YX n f)= .ok (TT n f ms K):=by
 unfold X8
 simp only[Rs.okb,XV]
 rw[KR h.few h.short,XF,Rs.okb,hK]
 have er:Yf (n:Int) (K:Int)= .ok ():=by
  unfold Yf
  simp only[Rs.okb]
  rw[Y4 (by lia),Rs.okb]
  apply Ok.eq
  refine Ok.bind (Ok.forN (λi (g:Int)=>g=((n^i:Nat):Int)) rfl λi a g ha hg=>?_) λg hg=>?_
  ·subst hg
   rw[Qe (by lia) (by lia),Rs.okb]
   refine⟨_,rfl,?_⟩
   rw[Nat.pow_succ]
   exact(Int.natCast_mul _ _).symm
  ·rw[XX] at hg
   subst hg
   rw[if_neg (by simp only[decide_eq_true_eq];lia)]
   exact⟨_,rfl,rfl⟩
 rw[er,XF,Rs.okb,La e1 hl,XF,Rs.okb,XG (sz (by simp)),Rs.okb,Y4 (by lia),Rs.okb]
 apply Ok.eq
 refine Ok.bind (Ok.forN (λk (T:List (List Int))=>T=TT n f ms k) rfl λk a T ha hT=>?_) λT hT=>?_
 ·obtain⟨rfl,hk⟩:=Ya ha
  subst hT
  have hc:=Z9 (n:=n) (f:=f) (ms:=ms) k
  have hpk:n^(k+1)<=65000:=Nat.le_trans (DF hn (by lia)) hp
  have hb:(TT n f ms k).length*n<=90000:=by
   have:=Nat.mul_le_mul_right n hc.1
   have e:n^(k+1)=n^k*n:=Nat.pow_succ ..
   lia
  rw[UD (as:=ms.map Jp) (f:=λt=>Rs.ok t) (p:=λt:Int×Int×Int=>decide (KO [t.1,t.2.1,t.2.2]=(k:Int))) (h:=λt=>t) (sz (by rw[List.length_map];lia)) (λt _=>(by rw[show MA [t.1,t.2.1,t.2.2]= .ok (KO [t.1,t.2.1,t.2.2]) from rfl];rfl)) λ_ _ _=>rfl,List.map_id',Rs.okb,Ii,Cu (by lia) hl hm hc hb (by lia),XF]
  exact⟨_,rfl,rfl⟩
 ·rw[XX] at hT
  exact⟨_,rfl,hT⟩
theorem CS (l:List Int):Zj l= .ok true:=by
 unfold Zj
 simp only[Rs.okb]
 rw[if_neg (by decide),UR]
 ·rfl
 intro a _
 rfl
theorem HZ (h:D.1.length<=1000):Ui D= .ok D:=by
 unfold Ui
 simp only[Rs.okb]
 rw[Zf (h:=λa=>a) (sz (by lia)) λ_ _=>rfl,List.map_id',Rs.okb]
end
theorem EA (ws:List (List Int)):Zz ws<=ws.length:=by
 unfold Zz
 exact List.length_filter_le ..
theorem Bn (w:List Int)(s:Nat):X3 (w.take s)+X3 (w.drop s)=X3 w:=by rw[←Qw,List.take_append_drop]
theorem Vb (w:List Int):X3 w.reverse=X3 w:=Kt (List.reverse_perm w)
theorem Ej {w:List Int}{x y:Int}{k:Nat}(h:x=y+(X3 w:Int))(hn:X3 w=0->x=y):x % (Yx w:Int)=y % (Yx w:Int):=by
 by_cases e:X3 w=0
 ·rw[hn e]
 ·have:(Yx w:Int)=(X3 w:Int):=by unfold Yx;lia
  rw[this,h,Int.add_emod_right]
noncomputable def Js (w:List Int)(k:Nat):Nat:=(max w.length 1-k) % max w.length 1
theorem EI {w:List Int}{k:Nat}(hk:k<=w.length):X3 (w.reverse.take (w.length-k))+X3 (w.take k)=X3 w:=by
 have e:w.reverse.take (w.length-k)=(w.drop k).reverse:=by
  rw[List.take_reverse,show w.length-(w.length-k)=k by lia]
 rw[e,Vb]
 have:=Bn w k
 lia
theorem Hz {w:List Int}(f:Int):∀k:Nat,k<max w.length 1->(Yw w.reverse f)[Js w k]?=some (f+(-(X3 (w.take k):Int)) % (Yx w:Int)):=by
 intro k hk
 have ea:Yx w.reverse=Yx w:=by unfold Yx;rw[Vb]
 have hlt:Js w k<max w.reverse.length 1:=by rw[List.length_reverse];exact Nat.mod_lt _ (by lia)
 rw[YH _ f hlt,ea]
 congr 2
 by_cases h0:k=0
 ·subst h0
  have:Js w 0=0:=by unfold Js;rw[Nat.sub_zero,Nat.mod_self]
  rw[this];simp[X3]
 ·have hl:k<w.length:=by lia
  have:Js w k=w.length-k:=by unfold Js;rw[show max w.length 1=w.length by lia,Nat.mod_eq_of_lt (by lia)]
  rw[this]
  have hr:=EI (w:=w) (k:=k) (by lia)
  have hle:=CO w k
  refine Ej (k:=0) (by lia) λe=>?_
  lia
theorem Qf:∀ws:List (List Int),0<=Xt ws
 | []=>by simp[Xt]
 |w::ws=>by rw[ZF];have:=Qf ws;lia
theorem QR (ws:List (List Int)){i j:Nat}(h:i<=j):Xt (ws.take i)<=Xt (ws.take j):=by
 have e:ws.take j=ws.take i++(ws.take j).drop i:=by
  conv=>lhs;rw[←List.take_append_drop i (ws.take j)]
  rw[List.take_take,Nat.min_eq_left h]
 rw[e,ZZ]
 have:=Qf ((ws.take j).drop i)
 lia
theorem HC {ws:List (List Int)}{i j:Nat}{w w':List Int}{q q':Int}(h:ws[i]?=some w)(h':ws[j]?=some w')(q0:0<=q)(q1:q<Yx w)(p0:0<=q')(p1:q'<Yx w')(e:Xt (ws.take i)+q=Xt (ws.take j)+q'):i=j:=by
 have s1:=YO h
 have s2:=YO h'
 rcases Nat.lt_trichotomy i j with c |c |c
 ·have:=QR ws (show i+1<=j by lia);lia
 ·exact c
 ·have:=QR ws (show j+1<=i by lia);lia
inductive RelI (ws:List (List Int))(ε:Int)(cs:Nat->Int)(x y:Int):Prop
 |mk (i:Nat) (w:List Int) (q:Int) (h1_:ws[i]?=some w) (h2_:0<=q) (h3_:q<Yx w) (h4_:x=Xt (ws.take i)+q) (h5_:y=Xt (ws.take i)+(ε*q+cs i) % Yx w)
noncomputable def Rel (ws:List (List Int))(ε:Int)(cs:Nat->Int)(x y:Int):Prop:=RelI ws ε cs x y
theorem Rel.fn {ws:List (List Int)}{ε:Int}{cs:Nat->Int}{x y y':Int}(h:Rel ws ε cs x y)(h':Rel ws ε cs x y'):y=y':=by
 obtain⟨i,w,q,hw,q0,q1,ex,rfl⟩:=h
 obtain⟨j,w',q',hw',p0,p1,ex',rfl⟩:=h'
 have:=HC hw hw' q0 q1 p0 p1 (ex.symm.trans ex')
 subst this
 rw[hw] at hw';cases hw'
 rw[show q=q' by lia]
structure Carries (ws ws':List (List Int))(ε:Int)(cs:Nat->Int)(to:Nat->Nat->Nat):Prop where
 len:ws'.length=ws.length
 eps:ε=1∨ε= -1
 walk:∀(i:Nat) (w:List Int),ws[i]?=some w->∃w',ws'[i]?=some w'/\w'.length=w.length/\X3 w'=X3 w/\
  ∀(f:Int) (k:Nat),k<max w.length 1->(Yw w' f)[to i k]?=some (f+(ε*(X3 (w.take k):Int)+cs i) % (Yx w:Int))
theorem Carries.sum {ws ws':List (List Int)}{ε:Int}{cs:Nat->Int}{to:Nat->Nat->Nat}(C:Carries ws ws' ε cs to):∀i:Nat,Xt (ws'.take i)=Xt (ws.take i)
 |0=>rfl
 |i+1=>by
  have ih:=C.sum i
  cases e:ws[i]? with
  |none=>
   have h1:=List.getElem?_eq_none_iff.mp e
   have hl:=C.len
   rw[List.take_of_length_le (show ws.length<=i+1 by lia),List.take_of_length_le (show ws'.length<=i+1 by lia)]
   rw[List.take_of_length_le (show ws.length<=i by lia),List.take_of_length_le (show ws'.length<=i by lia)] at ih
   exact ih
  |some w=>
   obtain⟨w',h1,_,h3,_⟩:=C.walk i w e
   rw[YO e,YO h1,ih]
   unfold Yx
   rw[h3]
theorem Carries.all {ws ws':List (List Int)}{ε:Int}{cs:Nat->Int}{to:Nat->Nat->Nat}(C:Carries ws ws' ε cs to):Xt ws'=Xt ws:=by
 have:=C.sum ws.length
 rw[List.take_length, ←C.len,List.take_length] at this
 exact this
theorem Carries.row {ws ws':List (List Int)}{ε:Int}{cs:Nat->Int}{to:Nat->Nat->Nat}(C:Carries ws ws' ε cs to){i:Nat}{w:List Int}(h:ws[i]?=some w){k:Nat}(hk:k<max w.length 1):
  ∃r r' x y,(X0 ws 0)[i]?=some r/\r[k]?=some x/\(X0 ws' 0)[i]?=some r'/\r'[to i k]?=some y/\Rel ws ε cs x y:=by
 obtain⟨w',h1,h2,h3,h4⟩:=C.walk i w h
 have ha:(0:Int)<(Yx w:Int):=by have:=Jm w;lia
 refine⟨_,_,_,_,ZA h 0,YH _ _ hk,ZA h1 0,h4 _ k hk,i,w,(X3 (w.take k):Int) % (Yx w:Int),h,Int.emod_nonneg _ (Int.ne_of_gt ha),Int.emod_lt_of_pos _ ha,by rw[Int.zero_add],?_⟩
 rw[Int.zero_add,C.sum i]
 congr 1
 rcases C.eps with e |e
 ·subst e
  rw[Int.one_mul,Int.one_mul,Int.emod_add_emod]
 ·subst e
  rw[Int.neg_one_mul,Int.neg_one_mul]
  apply Int.emod_eq_emod_iff_emod_sub_eq_zero.mpr
  have:=Int.emod_add_mul_ediv (X3 (w.take k):Int) (Yx w:Int)
  rw[show-(X3 (w.take k):Int)+cs i-(-((X3 (w.take k):Int) % (Yx w:Int))+cs i)= -((Yx w:Int)*((X3 (w.take k):Int)/(Yx w:Int))) by lia]
  exact Int.emod_eq_zero_of_dvd (Int.dvd_neg.mpr (Int.dvd_mul_right _ _))
theorem Ub {w:List Int}:∀(n:Nat),n<=w.length->∀q:Nat,q<X3 (w.take n)->∃k,k<n/\X3 (w.take k)=q
 |0,_,q,h=>by simp[X3] at h
 |n+1,hn,q,h=>by
  have hx:w[n]?=some w[n]:=List.getElem?_eq_getElem (by lia)
  have hs:=YI hx
  have h1:X3 [w[n]]<=1:=by have:=Gi [w[n]];simpa using this
  by_cases c:q<X3 (w.take n)
  ·obtain⟨k,hk,e⟩:=Ub n (by lia) q c
   exact⟨k,by lia,e⟩
  ·exact⟨n,by lia,by lia⟩
theorem Bi {w:List Int}{f:Int}{q:Nat}(h:q<Yx w):∃k,k<max w.length 1/\(Yw w f)[k]?=some (f+q):=by
 by_cases e:X3 w=0
 ·have hq:q=0:=by unfold Yx at h;lia
  subst hq
  refine⟨0,by lia,?_⟩
  rw[YH w f (by lia)]
  simp[X3]
 ·have ha:Yx w=X3 w:=by unfold Yx;lia
  obtain⟨k,hk,ek⟩:=Ub (w:=w) w.length (Nat.le_refl _) q (by rw[List.take_length];lia)
  refine⟨k,by lia,?_⟩
  rw[YH w f (by lia),ek,Int.emod_eq_of_lt (by lia) (by lia)]
theorem Fm:∀{ws:List (List Int)}{f x:Int},f<=x->x<f+Xt ws->∃(i k:Nat) (w r:List Int),ws[i]?=some w/\k<max w.length 1/\(X0 ws f)[i]?=some r/\r[k]?=some x
 | [],f,x,h0,h1=>by simp[Xt] at h1;lia
 |w::ws,f,x,h0,h1=>by
  rw[ZF] at h1
  by_cases c:x<f+Yx w
  ·obtain⟨k,hk,ek⟩:=Bi (w:=w) (f:=f) (q:=(x-f).toNat) (by lia)
   exact⟨0,k,w,_,rfl,hk,rfl,by rw[ek];congr 1;lia⟩
  ·obtain⟨i,k,v,r,a1,a2,a3,a4⟩:=Fm (ws:=ws) (f:=f+Yx w) (x:=x) (by lia) (by lia)
   exact⟨i+1,k,v,r,by simpa using a1,a2,by simpa[X0] using a3,a4⟩
theorem Rel.bound {ws:List (List Int)}{ε:Int}{cs:Nat->Int}{x y:Int}(h:Rel ws ε cs x y):0<=x/\x<Xt ws:=by
 obtain⟨i,w,q,hw,q0,q1,rfl,_⟩:=h
 have h0:=Qf (ws.take i)
 have h1:=YO hw
 have h2:=QR ws (show i+1<=ws.length from(List.getElem?_eq_some_iff.mp hw).1)
 rw[List.take_length] at h2
 lia
theorem Bd {ws:List (List Int)}{x:Int}{i j:Nat}{w:List Int}(nd:ws.flatten.Nodup)(hi:ws[i]?=some w)(hj:w[j]?=some x):Spot ws x i j w:=by
 have hx:=List.mem_of_getElem? hj
 have hw:=List.mem_of_getElem? hi
 have nd':=List.pairwise_flatten.mp nd
 refine⟨hi,hj,λm hm e=>?_,λi' w' hi' hw' hm=>?_⟩
 ·have n1:=nd'.1 w hw
  have hj':=(List.getElem?_eq_some_iff.mp hj)
  have hm':=(List.getElem?_eq_some_iff.mp e)
  obtain⟨h1,e1⟩:=hj'
  obtain⟨h2,e2⟩:=hm'
  have:=(List.getElem_inj n1).mp (e2.trans e1.symm)
  lia
 ·have hp:=nd'.2
  obtain⟨h1,e1⟩:=List.getElem?_eq_some_iff.mp hi
  obtain⟨h2,e2⟩:=List.getElem?_eq_some_iff.mp hw'
  have:=List.pairwise_iff_getElem.mp hp i' i h2 h1 hi'
  rw[e1,e2] at this
  exact this x hm x hx rfl
theorem EV {ws:List (List Int)}{cs:Nat->Int}{to:Nat->Nat->Nat}(hto:∀(i k:Nat) (w:List Int),ws[i]?=some w->to i k=Js w k)(C:Carries ws (ws.map List.reverse) (-1) cs to)(nd:(ws.map List.reverse).flatten.Nodup)
  {e:Int×Int}(he:1<=e.1){v:List Int}(h:YR ws e v):∃o a b o' a' b',v=[e.1,e.2,o,a,b]/\Rel ws (-1) cs o o'/\Rel ws (-1) cs a a'/\Rel ws (-1) cs b b'/\YR (ws.map List.reverse) e [e.1,e.2,o',b',a']:=by
 obtain⟨i,j,k,l,w,w',r,r',o,a,b,s1,s2,h1,h2,h3,h4,h5,rfl⟩:=h
 have hj:=(List.getElem?_eq_some_iff.mp s1.xj).1
 have hl:=(List.getElem?_eq_some_iff.mp s2.xj).1
 have hm:(l+1) % w'.length<w'.length:=Nat.mod_lt _ (by lia)
 have hm1:(j+1) % w.length<w.length:=Nat.mod_lt _ (by lia)
 have back:∀(u:List Int) (m:Nat),m<u.length->Js u ((m+1) % u.length)=u.length-1-m:=λu m hu=>by
  unfold Js
  rw[show max u.length 1=u.length by lia]
  by_cases c:m+1<u.length
  ·rw[Nat.mod_eq_of_lt c,Nat.mod_eq_of_lt (by lia)];lia
  ·rw[show m+1=u.length by lia,Nat.mod_self,Nat.sub_zero,Nat.mod_self];lia
 have here:∀(u:List Int) (m:Nat),m<u.length->(u.length-1-m+1) % u.length=Js u m:=λu m hu=>by
  unfold Js
  rw[show max u.length 1=u.length by lia,show u.length-1-m+1=u.length-m by lia]
 have hg:∀(n:Nat) (u:List Int),ws[n]?=some u->(ws.map List.reverse)[n]?=some u.reverse:=λn u hu=>by rw[List.getElem?_map,hu];rfl
 have hr:∀(u:List Int) (m:Nat) (x:Int),u[m]?=some x->u.reverse[u.length-1-m]?=some x:=λu m x hx=>by
  have:=(List.getElem?_eq_some_iff.mp hx).1
  rw[List.getElem?_reverse (by lia),show u.length-1-(u.length-1-m)=m by lia];exact hx
 have ho:r[(j+1) % w.length]?=some o:=by
  have:=ZA s1.wi 0
  rw[h1] at this;cases this
  rw[Bk s1.xj (by lia)];exact h2
 obtain⟨ra,ra',x1,y1,c1,c2,c3,c4,R1⟩:=C.row s1.wi (k:=(j+1) % w.length) (by lia)
 rw[h1] at c1;cases c1
 rw[ho] at c2;cases c2
 rw[hto i _ w s1.wi,back w j hj] at c4
 obtain⟨rb,rb',x2,y2,d1,d2,d3,d4,R2⟩:=C.row s2.wi (k:=l) (by lia)
 rw[h3] at d1;cases d1
 rw[h4] at d2;cases d2
 rw[hto k _ w' s2.wi] at d4
 obtain⟨rc,rc',x3,y3,e1,e2,e3,e4,R3⟩:=C.row s2.wi (k:=(l+1) % w'.length) (by lia)
 rw[h3] at e1;cases e1
 rw[h5] at e2;cases e2
 rw[d3] at e3;cases e3
 rw[hto k _ w' s2.wi,back w' l hl] at e4
 refine⟨o,a,b,y1,y2,y3,rfl,R1,R2,R3,i,w.length-1-j,k,w'.length-1-l,w.reverse,w'.reverse,ra',rb',y1,y3,y2,Bd nd (hg i w s1.wi) (hr w j _ s1.xj),Bd nd (hg k w' s2.wi) (hr w' l _ s2.xj),c3,c4,d3,e4,?_,rfl⟩
 rw[List.length_reverse,here w' l hl];exact d4
theorem Jc:∀ws:List (List Int),(ws.map List.reverse).flatten.Perm ws.flatten
 | []=>List.Perm.refl _
 |w::t=>by
  rw[List.map_cons,List.flatten_cons,List.flatten_cons]
  exact List.Perm.append (List.reverse_perm w) (Jc t)
noncomputable def toR (ws:List (List Int))(i k:Nat):Nat:=Js (ws.getD i []) k
theorem Hj {ws:List (List Int)}{i k:Nat}{w:List Int}(h:ws[i]?=some w):toR ws i k=Js w k:=by
 unfold toR
 rw[List.getD_eq_getElem?_getD,h];rfl
theorem VH (ws:List (List Int)):Carries ws (ws.map List.reverse) (-1) (λ_=>0) (toR ws):=by
 refine⟨List.length_map _, .inr rfl,λi w h=>⟨w.reverse,by rw[List.getElem?_map,h];rfl,List.length_reverse,Vb w,λf k hk=>?_⟩⟩
 rw[Hj h,Hz f k hk]
 congr 3
 lia
section
variable {n:Nat}{f:Nat->Nat->Nat}{ms:List M5}
noncomputable def mx (m:M5):Int:=KO [m.2.2.1,m.2.2.2.1,m.2.2.2.2]
theorem Dp {cn cn':Int->Nat}{m:M5}(h1:cn m.2.2.1=cn' m.2.2.1)(h2:cn m.2.2.2.1=cn' m.2.2.2.1)(h3:cn m.2.2.2.2=cn' m.2.2.2.2):QO f cn m=QO f cn' m:=by
 unfold QO
 rw[h1,h2,h3]
theorem DJ {c:List Int}{j:Int}{i:Int}(h0:0<=i)(h:i<(c.length:Int)):Jk (c++[j]) i=Jk c i:=by
 unfold Jk
 rw[List.getD_eq_getElem?_getD,List.getD_eq_getElem?_getD,List.getElem?_append_left (by lia)]
theorem Fb {c:List Int}{j:Int}{N:Int}{m:M5}(hm:MG N m)(hk:mx m<(c.length:Int)):QO f (Jk (c++[j])) m=QO f (Jk c) m:=by
 have e:mx m=max (max m.2.2.1 m.2.2.2.1) m.2.2.2.2:=B5 ..
 obtain⟨_,h1,h2,h3⟩:=hm
 exact Dp (DJ h1.1 (by lia)) (DJ h2.1 (by lia)) (DJ h3.1 (by lia))
noncomputable def IC (f:Nat->Nat->Nat)(ms:List M5)(k:Nat)(c:List Int):Prop:=∀ m∈ms,mx m<(k:Int)->QO f (Jk c) m=true
theorem J1 {c d:List Int}:d∈QH n f ms c↔∃j:Nat,j<n/\(∀m∈ms,QO f (Jk (c++[(j:Int)])) m=true)/\d=c++[(j:Int)]:=by
 unfold QH
 rw[List.mem_map]
 constructor
 ·rintro⟨j,hj,rfl⟩
  obtain⟨h1,h2⟩:=List.mem_filter.mp hj
  obtain⟨i,hi,rfl⟩:=Zs h1
  exact⟨i,hi,List.all_eq_true.mp h2,rfl⟩
 ·rintro⟨j,hj,h,rfl⟩
  exact⟨(j:Int),List.mem_filter.mpr ⟨List.mem_map.mpr ⟨j,List.mem_range.mpr hj,rfl⟩,List.all_eq_true.mpr h⟩,rfl⟩
theorem He {N:Int}(hm:∀m∈ms,MG N m):∀(k:Nat) (c:List Int),c∈TT n f ms k↔c.length=k/\(∀x∈c,0<=x/\x<(n:Int))/\IC f ms k c:=by
 intro k
 induction k with
 |zero=>
  intro c
  constructor
  ·intro h
   have:c=[]:=by simpa[TT] using h
   subst this
   refine⟨rfl,(λx hx=>nomatch hx),λm hmm hk=>?_⟩
   have e:mx m=max (max m.2.2.1 m.2.2.2.1) m.2.2.2.2:=B5 ..
   obtain⟨_,h1,_⟩:=hm m hmm
   lia
  ·rintro⟨h,_⟩
   rw[List.length_eq_zero_iff.mp h]
   simp[TT]
 |succ k ih=>
  intro d
  show d∈(TT n f ms k).flatMap (QH n f (ms.filter (QY k)))↔_
  rw[List.mem_flatMap]
  constructor
  ·rintro⟨c,hc,hd⟩
   obtain⟨hl,hx,hh⟩:=(ih c).mp hc
   obtain⟨j,hj,hj2,rfl⟩:=J1.mp hd
   refine⟨by simp[hl],λx h=>?_,λm hmm hk=>?_⟩
   ·rcases List.mem_append.mp h with h |h
    ·exact hx x h
    ·rw[List.mem_singleton.mp h];lia
   ·by_cases e:mx m=(k:Int)
    ·exact hj2 m (List.mem_filter.mpr ⟨hmm,decide_eq_true e⟩)
    ·rw[Fb (hm m hmm) (by lia)]
     exact hh m hmm (by lia)
  ·rintro⟨hl,hx,hh⟩
   have hne:d≠ []:=λz=>by rw[z] at hl;cases hl
   have hd:=List.dropLast_concat_getLast hne
   have hlast:=hx _ (List.getLast_mem hne)
   obtain⟨j,hj⟩:∃j:Nat,d.getLast hne=(j:Int):=⟨(d.getLast hne).toNat,by lia⟩
   rw[hj] at hd hlast
   have hcl:d.dropLast.length=k:=by rw[List.length_dropLast];lia
   refine⟨d.dropLast,(ih _).mpr ⟨hcl,λx h=>hx x ((List.dropLast_sublist d).mem h),λm hmm hk=>?_⟩,J1.mpr ⟨j,by lia,λm hmm=>?_,hd.symm⟩⟩
   ·have:=hh m hmm (by lia)
    rw[←hd,Fb (hm m hmm) (by lia)] at this
    exact this
   ·obtain⟨h1,h2⟩:=List.mem_filter.mp hmm
    have h2:mx m=(k:Int):=of_decide_eq_true h2
    rw[hd]
    exact hh m h1 (by lia)
end
section
variable {n:Nat}
theorem Q5 {α β:Type}{f:α->β}:∀{l:List α},(∀a b,a∈l->b∈l->f a=f b->a=b)->l.Nodup->(l.map f).Nodup
 | [],_,_=>List.nodup_nil
 |x::l,h,hn=>by
  have h2:=List.nodup_cons.mp hn
  refine List.nodup_cons.mpr ⟨λhm=>?_,Q5 (λa b ha hb=>h a b (.tail _ ha) (.tail _ hb)) h2.2⟩
  obtain⟨y,hy,e⟩:=List.mem_map.mp hm
  exact h2.1 ((h y x (.tail _ hy) (.head _) e)▸hy)
theorem GB {α:Type}[DecidableEq α]:∀{l m:List α},l.Nodup->(∀x∈l,x∈m)->l.length<=m.length
 | [],m,_,_=>Nat.zero_le _
 |x::l,m,h,hs=>by
  have hx:=hs x (.head _)
  have h2:=List.nodup_cons.mp h
  have:=GB (l:=l) (m:=m.erase x) h2.2 λy hy=>(List.mem_erase_of_ne λe=>h2.1 (by rw[←e];exact hy)).mpr (hs y (.tail _ hy))
  rw[List.length_erase_of_mem hx] at this
  have:=List.length_pos_of_mem hx
  rw[List.length_cons]
  lia
theorem Gf {l:List Int}(h:l.Nodup)(hl:l.length=n)(hr:∀x∈l,∃i:Nat,i<n/\x=i):l.Perm ((List.range n).map λ(i:Nat)=>(i:Int)):=by
 have hnd:((List.range n).map λ(i:Nat)=>(i:Int)).Nodup:=List.Pairwise.map _ (λa b h e=>h (Int.ofNat.inj e)) List.nodup_range
 have hs:∀x∈l,x∈(List.range n).map λ(i:Nat)=>(i:Int):=λx hx=>by
  obtain⟨i,hi,rfl⟩:=hr x hx
  exact List.mem_map.mpr ⟨i,List.mem_range.mpr hi,rfl⟩
 refine(List.perm_ext_iff_of_nodup h hnd).mpr λx=>⟨hs x,λhx=>?_⟩
 by_cases hm:x∈l
 ·exact hm
 ·have:=GB (l:=x::l) (m:=(List.range n).map λ(i:Nat)=>(i:Int)) (List.nodup_cons.mpr ⟨hm,h⟩) λy hy=>by
   rcases List.mem_cons.mp hy with z |z
   ·rw[z];exact hx
   ·exact hs y z
  rw[List.length_cons,hl,List.length_map,List.length_range] at this
  exact absurd this (Nat.not_succ_le_self n)
end
noncomputable def dv (n:Nat)(f:Nat->Nat->Nat)(a b:Nat):Nat:=((List.range n).findIdx? λx=>decide (f x b=a)).getD 0
section
variable {n:Nat}{f:Nat->Nat->Nat}
theorem Col.onto (C:Col n f){a b:Nat}(ha:a<n)(hb:b<n):∃x,x<n/\f x b=a:=by
 have hp:=Gf (n:=n) (l:=(List.range n).map λx=>((f x b:Nat):Int)) (Q5 (λx y hx hy e=>C.r2 x y b (List.mem_range.mp hx) (List.mem_range.mp hy) hb (Int.ofNat.inj e)) List.nodup_range) (by simp) λx hx=>by
  obtain⟨y,hy,rfl⟩:=List.mem_map.mp hx
  exact⟨_,C.lt y b (List.mem_range.mp hy) hb,rfl⟩
 have hm:(a:Int)∈(List.range n).map λx=>((f x b:Nat):Int):=hp.mem_iff.mpr (List.mem_map.mpr ⟨a,List.mem_range.mpr ha,rfl⟩)
 obtain⟨x,hx,e⟩:=List.mem_map.mp hm
 exact⟨x,List.mem_range.mp hx,Int.ofNat.inj e⟩
theorem Ut (C:Col n f){a b:Nat}(ha:a<n)(hb:b<n):dv n f a b<n/\f (dv n f a b) b=a/\(List.range n).findIdx? (λx=>decide (f x b=a))=some (dv n f a b):=by
 obtain⟨x,hx,e⟩:=C.onto ha hb
 have hs:((List.range n).findIdx? λx=>decide (f x b=a)).isSome=true:=by
  rw[List.findIdx?_isSome,List.any_eq_true]
  exact⟨x,List.mem_range.mpr hx,decide_eq_true e⟩
 obtain⟨j,hj⟩:=Option.isSome_iff_exists.mp hs
 have ed:dv n f a b=j:=by unfold dv;rw[hj];rfl
 obtain⟨h1,h2,_⟩:=List.findIdx?_eq_some_iff_getElem.mp hj
 rw[ed]
 refine⟨by simpa using h1,?_,hj⟩
 simpa using h2
theorem Ct (C:Col n f){x b:Nat}(hx:x<n)(hb:b<n):dv n f (f x b) b=x:=by
 obtain⟨h1,h2,_⟩:=Ut C (C.lt x b hx hb) hb
 exact C.r2 _ _ b h1 hx hb h2
end
theorem J7 {α β:Type}{f g:α->List β}:∀{l:List α},(∀a∈l,f a=g a)->l.flatMap f=l.flatMap g
 | [],_=>rfl
 |a::l,h=>by rw[List.flatMap_cons,List.flatMap_cons,h a List.mem_cons_self,J7 λb hb=>h b (List.mem_cons_of_mem _ hb)]
noncomputable def far (s x:Int):Int:=if x<0 then x-s else x+s
section
variable {s:Int}{ws ws1 ws2 R:List (List Int)}
theorem IS (hs:0<=s)(x:Int):decide (far s x<0)=decide (x<0):=by
 rw[decide_eq_decide]
 unfold far
 split<;> lia
theorem Cp (hs:0<=s){x y:Int}(h:far s x=far s y):x=y:=by
 unfold far at h
 split at h<;> split at h<;> lia
theorem J4 (hs:0<=s)(w:List Int):X3 (w.map (far s))=X3 w:=by
 unfold X3
 rw[List.filter_map,List.length_map]
 congr 2
 funext x
 exact IS hs x
theorem ER (hs:0<=s)(w:List Int)(f:Int):Yw (w.map (far s)) f=Yw w f:=by
 unfold Yw Yx
 rw[List.length_map,J4 hs]
 refine List.map_congr_left λk _=>?_
 rw[←List.map_take,J4 hs]
theorem GV (hs:0<=s)(w:List Int):Yx (w.map (far s))=Yx w:=by unfold Yx;rw[J4 hs]
theorem G3 (hs:0<=s):∀(ws:List (List Int)) (f:Int),X0 (ws.map (List.map (far s))) f=X0 ws f
 | [],_=>rfl
 |w::ws,f=>by
  show Yw (w.map (far s)) f::X0 (ws.map (List.map (far s))) (f+Yx (w.map (far s)))=_
  rw[ER hs,GV hs,G3 hs ws];rfl
theorem Es (w:List Int)(f c:Int):Yw w (f+c)=(Yw w f).map (· +c):=by
 unfold Yw
 rw[List.map_map]
 refine List.map_congr_left λk _=>?_
 show f+c+_=f+_+c
 lia
theorem FK:∀(ws:List (List Int)) (f c:Int),X0 ws (f+c)=(X0 ws f).map (List.map (· +c))
 | [],_,_=>rfl
 |w::ws,f,c=>by
  show Yw w (f+c)::X0 ws (f+c+Yx w)=(Yw w f::X0 ws (f+Yx w)).map _
  rw[Es,show f+c+(Yx w:Int)=f+Yx w+c by lia,FK ws];rfl
theorem Ul (hs:0<=s)(ws:List (List Int)):Xt (ws.map (List.map (far s)))=Xt ws:=by
 unfold Xt
 rw[List.map_map]
 congr 1
 refine List.map_congr_left λw _=>?_
 show((Yx (w.map (far s)):Nat):Int)=_
 rw[GV hs]
theorem CF (hs:0<=s)(ws:List (List Int)):Zz (ws.map (List.map (far s)))=Zz ws:=by
 unfold Zz
 rw[List.filter_map,List.length_map]
 congr 2
 funext w
 show decide (X3 (w.map (far s))=0)=_
 rw[J4 hs]
theorem Spot.left {x:Int}{i j:Nat}{w:List Int}(h:Spot ws1 x i j w):Spot (ws1++R) x i j w:=by
 have hi:=(List.getElem?_eq_some_iff.mp h.wi).1
 refine⟨by rw[List.getElem?_append_left hi];exact h.wi,h.xj,h.first,λi' w' hi' hw=>?_⟩
 rw[List.getElem?_append_left (by lia)] at hw
 exact h.none i' w' hi' hw
theorem Spot.right (hs:0<=s){x:Int}{i j:Nat}{w:List Int}(h:Spot ws2 x i j w)(hn:∀w'∈ws1,far s x∉w'):Spot (ws1++ws2.map (List.map (far s))) (far s x) (ws1.length+i) j (w.map (far s)):=by
 refine⟨?_,?_,λm hm e=>?_,λi' w' hi' hw hx=>?_⟩
 ·rw[List.getElem?_append_right (by lia),Nat.add_sub_cancel_left,List.getElem?_map,h.wi];rfl
 ·rw[List.getElem?_map,h.xj];rfl
 ·rw[List.getElem?_map] at e
  obtain⟨y,hy,e2⟩:=Option.map_eq_some_iff.mp e
  exact h.first m hm (by rw[hy,Cp hs e2])
 ·by_cases c:i'<ws1.length
  ·rw[List.getElem?_append_left c] at hw
   exact hn w' (List.mem_of_getElem? hw) hx
  ·rw[List.getElem?_append_right (by lia),List.getElem?_map] at hw
   obtain⟨u,hu,rfl⟩:=Option.map_eq_some_iff.mp hw
   obtain⟨y,hy,e2⟩:=List.mem_map.mp hx
   exact h.none _ u (by lia) hu (by rw[←Cp hs e2];exact hy)
theorem YR.left {e:Int×Int}{v:List Int}(h:YR ws1 e v):YR (ws1++R) e v:=by
 obtain⟨i,j,k,l,w,w',r,r',o,a,b,s1,s2,h1,h2,h3,h4,h5,rfl⟩:=h
 have e1:∀{i:Nat}{r:List Int},(X0 ws1 0)[i]?=some r->(X0 (ws1++R) 0)[i]?=some r:=fun {i r} q=>by
  rw[Z1,List.getElem?_append_left (List.getElem?_eq_some_iff.mp q).1];exact q
 exact⟨i,j,k,l,w,w',r,r',o,a,b,s1.left,s2.left,e1 h1,h2,e1 h3,h4,h5,rfl⟩
theorem YR.right (hs:0<=s){e:Int×Int}{o a b:Int}(he:1<=e.1)(hn:∀w'∈ws1,∀y∈w',-s<=y/\y<=s)(h:YR ws2 e [e.1,e.2,o,a,b]):
  YR (ws1++ws2.map (List.map (far s))) (e.1+s,e.2) [e.1+s,e.2,o+Xt ws1,a+Xt ws1,b+Xt ws1]:=by
 obtain⟨i,j,k,l,w,w',r,r',o',a',b',s1,s2,h1,h2,h3,h4,h5,q⟩:=h
 simp only[List.cons.injEq,and_true,true_and] at q
 obtain⟨rfl,rfl,rfl⟩:=q
 have e1:∀{i:Nat}{r:List Int},(X0 ws2 0)[i]?=some r->(X0 (ws1++ws2.map (List.map (far s))) 0)[ws1.length+i]?=some (r.map (· +Xt ws1)):=fun {i r} q=>by
  rw[Z1,List.getElem?_append_right (by rw[Yl];lia),Yl,Nat.add_sub_cancel_left,G3 hs,FK,List.getElem?_map,q];rfl
 have n1:∀x:Int,x≠0->∀w'∈ws1,far s x∉w':=λx hx w' hw' hm=>by
  have:=hn w' hw' _ hm
  unfold far at this
  split at this<;> lia
 have f1:far s e.1=e.1+s:=by unfold far;rw[if_neg (by lia)]
 have f2:far s (-e.1)= -(e.1+s):=by unfold far;rw[if_pos (by lia)];lia
 have t1:=s1.right hs (n1 e.1 (by lia))
 have t2:=s2.right hs (n1 (-e.1) (by lia))
 rw[f1] at t1
 rw[f2] at t2
 exact⟨_,j,_,l,_,_,_,_,_,_,_,t1,t2,e1 h1,by rw[List.getElem?_map,h2];rfl,e1 h3,by rw[List.getElem?_map,h4];rfl,by rw[List.length_map,List.getElem?_map,h5];rfl,rfl⟩
theorem MF {e:Int×Int}{x:M5}(h:YR ws e [e.1,e.2,x.2.2.1,x.2.2.2.1,x.2.2.2.2])(h1:x.1=e.1)(h2:x.2.1=e.2){o a b:Int}(h':YR ws e [e.1,e.2,o,a,b]):x=(e.1,e.2,o,a,b):=by
 have:=h.uniq h'
 simp only[List.cons.injEq,and_true,true_and] at this
 obtain⟨x1,x2,x3,x4,x5⟩:=x
 obtain⟨q1,q2,q3⟩:=this
 simp only at h1 h2 q1 q2 q3
 rw[h1,h2,q1,q2,q3]
end
section
variable {n K:Nat}{f f':Nat->Nat->Nat}{ms ms1 ms2:List M5}{s:Int}
noncomputable def shM (K s:Int)(m:M5):M5:=(m.1+s,m.2.1,m.2.2.1+K,m.2.2.2.1+K,m.2.2.2.2+K)
theorem Lq {N:Int}{m:M5}(hm:MG N m)(k:Nat)(hk:N<=(k:Int)):QY k m=false:=by
 unfold QY
 rw[B5,decide_eq_false_iff_not]
 obtain⟨_,h1,h2,h3⟩:=hm
 lia
theorem mxK (x y k:Int):max (x+k) (y+k)=max x y+k:=by lia
theorem Hd {N:Int}{m:M5}(hm:MG N m)(k:Nat):QY k (shM (K:Int) s m)=(decide (K<=k)&&QY (k-K) m):=by
 unfold QY shM
 dsimp only
 rw[B5,B5,mxK,mxK]
 obtain⟨_,h1,h2,h3⟩:=hm
 have h0:=Int.le_trans h1.1 (Int.le_trans (Int.le_max_left _ m.2.2.2.1) (Int.le_max_left _ m.2.2.2.2))
 generalize max (max m.2.2.1 m.2.2.2.1) m.2.2.2.2=M at*
 clear h1 h2 h3
 by_cases c:K<=k
 ·rw[decide_eq_true c,Bool.true_and,decide_eq_decide];lia
 ·rw[decide_eq_false c,Bool.false_and,decide_eq_false_iff_not];lia
theorem E8 {N:Int}{ms:List M5}(hm:∀m∈ms,MG N m)(k:Nat)(hk:N<=(k:Int)):ms.filter (QY k)=[]:=by
 rw[List.filter_eq_nil_iff]
 intro m h
 rw[Lq (hm m h) k hk];decide
theorem Mx {N:Int}{ms:List M5}(hm:∀m∈ms,MG N m)(k:Nat):(ms.map (shM (K:Int) s)).filter (QY (K+k))=(ms.filter (QY k)).map (shM (K:Int) s):=by
 rw[List.filter_map]
 congr 1
 refine List.filter_congr λm h=>?_
 show QY (K+k) (shM (K:Int) s m)=_
 rw[Hd (hm m h),decide_eq_true (by lia),Bool.true_and,Nat.add_sub_cancel_left]
theorem UT {a c:List Int}(ha:a.length=K){i:Int}(hi:0<=i):Jk (a++c) (i+(K:Int))=Jk c i:=by
 unfold Jk
 rw[List.getD_eq_getElem?_getD,List.getD_eq_getElem?_getD,List.getElem?_append_right (by lia)]
 congr 3
 lia
theorem Il {N:Int}{a c:List Int}(ha:a.length=K){m:M5}(hm:MG N m):QO f (Jk (a++c)) (shM (K:Int) s m)=QO f (Jk c) m:=by
 obtain⟨_,h1,h2,h3⟩:=hm
 unfold QO shM
 dsimp only
 rw[UT ha h1.1,UT ha h2.1,UT ha h3.1]
theorem IP {N:Int}{a b:List Int}(ha:a.length=K){ms:List M5}(hm:∀m∈ms,MG N m):QH n f (ms.map (shM (K:Int) s)) (a++b)=(QH n f ms b).map (a++ ·):=by
 unfold QH
 rw[List.map_map]
 have e1:(λj:Int=>(ms.map (shM (K:Int) s)).all (QO f (Jk (a++b++[j]))))=λj=>ms.all (QO f (Jk (b++[j]))):=by
  funext j
  rw[List.all_map,Bool.eq_iff_iff,List.all_eq_true,List.all_eq_true]
  refine forall_congr' λm=>forall_congr' λh=>?_
  show QO f (Jk (a++b++[j])) (shM (K:Int) s m)=true↔_
  rw[List.append_assoc,Il ha (hm m h)]
 rw[e1]
 refine List.map_congr_left λj _=>?_
 show a++b++[j]=a++(b++[j])
 rw[List.append_assoc]
theorem GU (h1:∀m∈ms1,MG (K:Int) m){N:Int}(h2:∀m∈ms2,MG N m):∀k:Nat,k<=K->TT n f (ms1++ms2.map (shM (K:Int) s)) k=TT n f ms1 k
 |0,_=>rfl
 |k+1,hk=>by
  show Ja n f _ _=Ja n f _ _
  rw[GU h1 h2 k (by lia),List.filter_append]
  have:(ms2.map (shM (K:Int) s)).filter (QY k)=[]:=by
   rw[List.filter_eq_nil_iff]
   intro m h
   obtain⟨m',h',rfl⟩:=List.mem_map.mp h
   rw[Hd (h2 m' h'),decide_eq_false (by lia)];exact Bool.false_ne_true
  rw[this,List.append_nil]
theorem U5 (h1:∀m∈ms1,MG (K:Int) m){N:Int}(h2:∀m∈ms2,MG N m):∀k:Nat,TT n f (ms1++ms2.map (shM (K:Int) s)) (K+k)=(TT n f ms1 K).flatMap λa=>(TT n f ms2 k).map (a++ ·)
 |0=>by
  rw[Nat.add_zero,GU h1 h2 K (Nat.le_refl _)]
  show _=(TT n f ms1 K).flatMap λa=>[a++[]]
  simp
 |k+1=>by
  show Ja n f ((ms1++ms2.map (shM (K:Int) s)).filter (QY (K+k))) (TT n f _ (K+k))=_
  rw[U5 h1 h2 k,List.filter_append,E8 h1 (K+k) (by lia),List.nil_append,Mx h2]
  unfold Ja
  rw[List.flatMap_assoc]
  have hc:=(Z9 (n:=n) (f:=f) (ms:=ms1) K).2
  refine J7 λa ha=>?_
  show((TT n f ms2 k).map (a++ ·)).flatMap _=((TT n f ms2 k).flatMap (QH n f (ms2.filter (QY k)))).map (a++ ·)
  rw[List.flatMap_map,List.map_flatMap]
  refine J7 λb _=>?_
  exact IP (hc a ha).1 λm h=>h2 m (List.mem_filter.mp h).1
noncomputable def flM (m:M5):M5:=(m.1,-m.2.1,m.2.2)
noncomputable def E1 (n:Nat)(f f':Nat->Nat->Nat):Prop:=∀ x y b,x<n->y<n->b<n->(f x b=y↔f' y b=x)
theorem HY {N:Int}(I:E1 n f f'){cn:Int->Nat}{m:M5}(hm:MG N m)(hc:∀i,0<=i->i<N->cn i<n):QO f' cn (flM m)=QO f cn m:=by
 obtain⟨h0,h1,h2,h3⟩:=hm
 have c1:=hc _ h1.1 h1.2
 have c2:=hc _ h2.1 h2.2
 have c3:=hc _ h3.1 h3.2
 have q:∀a b:Nat,((a:Int)=(b:Int))↔a=b:=λa b=>by lia
 unfold QO flM
 dsimp only
 rcases h0 with h |h<;> rw[h]
 ·rw[if_neg (by decide),if_pos rfl,decide_eq_decide,q,q]
  exact(I _ _ _ c2 c3 c1).symm
 ·rw[if_pos (by decide),if_neg (by decide),decide_eq_decide,q,q]
  exact(I _ _ _ c3 c2 c1).symm
theorem BL {N:Int}(I:E1 n f f')(hm:∀m∈ms,MG N m):∀k:Nat,TT n f' (ms.map flM) k=TT n f ms k
 |0=>rfl
 |k+1=>by
  show Ja n f' _ _=Ja n f _ _
  rw[BL I hm k]
  have e:(ms.map flM).filter (QY k)=(ms.filter (QY k)).map flM:=by rw[List.filter_map];rfl
  rw[e]
  unfold Ja
  have hc:=(Z9 (n:=n) (f:=f) (ms:=ms) k).2
  refine J7 λc h=>?_
  obtain⟨hl,hx⟩:=hc c h
  unfold QH
  congr 1
  refine List.filter_congr λj hj=>?_
  obtain⟨i,hi,rfl⟩:=Zs hj
  rw[List.all_map,Bool.eq_iff_iff,List.all_eq_true,List.all_eq_true]
  refine forall_congr' λm=>forall_congr' λhmm=>?_
  show QO f' (Jk (c++[(i:Int)])) (flM m)=true↔_
  rw[HY I (BE hm k m hmm) λx x0 x1=>(HU hl hx hi x x0 x1).2]
end
section
variable {n K:Nat}{f f':Nat->Nat->Nat}{ms:List M5}
theorem FU (c:List Int):(QH n f ms c).Nodup:=by
 unfold QH
 refine Q5 (λx y _ _ e=>?_) (List.Pairwise.filter _ (Q5 (λx y _ _ e=>by lia) List.nodup_range))
 have:=List.append_cancel_left e
 simpa using this
theorem FC:∀k:Nat,(TT n f ms k).Nodup
 |0=>by simp[TT]
 |k+1=>by
  show((TT n f ms k).flatMap _).Nodup
  rw[List.nodup_iff_pairwise_ne,List.pairwise_flatMap]
  refine⟨λc _=>(FU c),?_⟩
  have hc:=(Z9 (n:=n) (f:=f) (ms:=ms) k).2
  have:=List.nodup_iff_pairwise_ne.mp (FC k)
  refine List.Pairwise.imp_of_mem (fun {a b} ha hb hne x hx y hy e=>hne ?_) this
  obtain⟨i,_,_,rfl⟩:=J1.mp hx
  obtain⟨j,_,_,rfl⟩:=J1.mp hy
  have h1:=congrArg (List.take k) e
  rw[List.take_left' (hc a ha).1,List.take_left' (hc b hb).1] at h1
  exact h1
noncomputable def seen (K:Nat)(p:Int->Int)(c:List Int):List Int:=(List.range K).map λ(x:Nat)=>c.getD (p (x:Int)).toNat 0
theorem Gy {p:Int->Int}{c:List Int}{i:Int}(h0:0<=i)(h1:i<(K:Int)):Jk (seen K p c) i=Jk c (p i):=by
 unfold Jk seen
 rw[List.getD_eq_getElem?_getD,List.getElem?_map,List.getElem?_range (by lia)]
 show((c.getD (p ((i.toNat:Nat):Int)).toNat 0)).toNat=_
 rw[Int.toNat_of_nonneg h0]
theorem ED {p:Int->Int}(hp:∀x,0<=x->x<(K:Int)->(0<=p x/\p x<(K:Int))/\p (p x)=x){c d:List Int}(hc:c.length=K)(hd:d.length=K)(e:seen K p c=seen K p d):c=d:=by
 apply List.ext_getElem (by lia)
 intro i h1 h2
 have hi:i<K:=by lia
 obtain⟨⟨q0,q1⟩,q2⟩:=hp (i:Int) (by lia) (by lia)
 have h3:=congrArg (λl:List Int=>l[(p (i:Int)).toNat]?) e
 unfold seen at h3
 simp only[List.getElem?_map] at h3
 rw[List.getElem?_range (by lia)] at h3
 simp only[Option.map_some,Option.some.injEq] at h3
 rw[Int.toNat_of_nonneg q0,q2,Int.toNat_natCast,List.getD_eq_getElem?_getD,List.getD_eq_getElem?_getD,List.getElem?_eq_getElem h1,List.getElem?_eq_getElem h2] at h3
 exact h3
theorem Ew {es:List (Int×Int)}{v v':Int×Int->M5}{p:Int->Int}(I:E1 n f f')(hm:∀m∈es.map v,MG (K:Int) m)(hm':∀m∈es.map v',MG (K:Int) m)
  (hp:∀x,0<=x->x<(K:Int)->(0<=p x/\p x<(K:Int))/\p (p x)=x)
  (hv:∀e∈es,(v' e).2.1=(v e).2.1/\p (v' e).2.2.1=(v e).2.2.1/\p (v' e).2.2.2.1=(v e).2.2.2.2/\p (v' e).2.2.2.2=(v e).2.2.2.1)
  {c:List Int}(h:c∈TT n f (es.map v) K):seen K p c∈TT n f' (es.map v') K:=by
 obtain⟨hl,hx,hh⟩:=(He hm K c).mp h
 have hg:∀i,0<=i->i<(K:Int)->Jk c i<n:=λi h0 h1=>by
  have:=(CH hl hx i h0 h1).2
  exact this
 refine(He hm' K _).mpr ⟨by unfold seen;simp,λx hx'=>?_,λm' hmm _=>?_⟩
 ·unfold seen at hx'
  obtain⟨i,hi,rfl⟩:=List.mem_map.mp hx'
  have hi:=List.mem_range.mp hi
  obtain⟨⟨q0,q1⟩,_⟩:=hp (i:Int) (by lia) (by lia)
  rw[List.getD_eq_getElem?_getD,List.getElem?_eq_getElem (by lia),Option.getD_some]
  exact hx _ (List.getElem_mem _)
 ·obtain⟨e,he,rfl⟩:=List.mem_map.mp hmm
  have hme:=hm (v e) (List.mem_map.mpr ⟨e,he,rfl⟩)
  obtain⟨s1,g1,g2,g3⟩:=hm' (v' e) hmm
  obtain⟨e1,e2,e3,e4⟩:=hv e he
  have hh':=hh (v e) (List.mem_map.mpr ⟨e,he,rfl⟩) (by
   obtain⟨_,k1,k2,k3⟩:=hme
   show KO _<_
   rw[B5];lia)
  obtain⟨s2,k1,k2,k3⟩:=hme
  have c1:=hg _ k1.1 k1.2
  have c2:=hg _ k2.1 k2.2
  have c3:=hg _ k3.1 k3.2
  have q:∀a b:Nat,((a:Int)=(b:Int))↔a=b:=λa b=>by lia
  unfold QO at hh'⊢
  rw[Gy g1.1 g1.2,Gy g2.1 g2.2,Gy g3.1 g3.2,e1,e2,e3,e4]
  rcases s2 with z |z<;> rw[z] at hh'⊢
  ·rw[if_pos rfl,decide_eq_true_eq,q] at hh'⊢
   exact(I _ _ _ c2 c3 c1).mp hh'
  ·rw[if_neg (by decide),decide_eq_true_eq,q] at hh'⊢
   exact(I _ _ _ c3 c2 c1).mp hh'
theorem Fo {es:List (Int×Int)}{v v':Int×Int->M5}{p:Int->Int}(I:E1 n f f')(hm:∀m∈es.map v,MG (K:Int) m)(hm':∀m∈es.map v',MG (K:Int) m)
  (hp:∀x,0<=x->x<(K:Int)->(0<=p x/\p x<(K:Int))/\p (p x)=x)
  (hv:∀e∈es,(v' e).2.1=(v e).2.1/\p (v' e).2.2.1=(v e).2.2.1/\p (v' e).2.2.2.1=(v e).2.2.2.2/\p (v' e).2.2.2.2=(v e).2.2.2.1):
  (TT n f (es.map v) K).length<=(TT n f' (es.map v') K).length:=by
 have hc:=(Z9 (n:=n) (f:=f) (ms:=es.map v) K).2
 have:=GB (l:=(TT n f (es.map v) K).map (seen K p)) (m:=TT n f' (es.map v') K) (Q5 (λx y h1 h2 e=>ED hp (hc x h1).1 (hc y h2).1 e) (FC K)) λx hx=>by
  obtain⟨c,h,rfl⟩:=List.mem_map.mp hx
  exact Ew I hm hm' hp hv h
 rwa [List.length_map] at this
end
section
variable {ws:List (List Int)}
theorem Rel.sym {x y:Int}(h:Rel ws (-1) (λ_=>0) x y):Rel ws (-1) (λ_=>0) y x:=by
 obtain⟨i,w,q,hi,q0,q1,e1,e2⟩:=h
 have hp:=Jm w
 have m0:=Int.emod_nonneg (-1*q+0) (show(Yx w:Int)≠0 by lia)
 have m1:=Int.emod_lt_of_pos (-1*q+0) (show(0:Int)<(Yx w:Int) by lia)
 refine⟨i,w,(-1*q+0) % (Yx w:Int),hi,m0,m1,e2,?_⟩
 rw[e1]
 congr 1
 have:(-1*((-1*q+0) % (Yx w:Int))+0) % (Yx w:Int)=q:=by
  by_cases c:q=0
  ·subst c;simp
  ·have:(-1*q+0) % (Yx w:Int)=(Yx w:Int)-q:=by
    rw[show(-1*q+0)=((Yx w:Int)-q)+(Yx w:Int)*(-1) by lia,Int.add_mul_emod_self_left]
    exact Int.emod_eq_of_lt (by lia) (by lia)
   rw[this,show(-1*((Yx w:Int)-q)+0)=q+(Yx w:Int)*(-1) by lia,Int.add_mul_emod_self_left]
   exact Int.emod_eq_of_lt q0 q1
 exact this.symm
theorem Mb {K:Nat}(hK:Xt ws=(K:Int)){x:Int}(h0:0<=x)(h1:x<(K:Int)):∃y,Rel ws (-1) (λ_=>0) x y/\0<=y/\y<(K:Int):=by
 obtain⟨i,k,w,r,hw,hk,hr,hx⟩:=Fm (ws:=ws) (f:=0) h0 (by lia)
 rw[ZA hw] at hr
 cases hr
 rw[YH w _ hk] at hx
 have hx:=(Option.some.inj hx).symm
 have hp:=Jm w
 have m0:=Int.emod_nonneg (X3 (w.take k):Int) (show(Yx w:Int)≠0 by lia)
 have m1:=Int.emod_lt_of_pos (X3 (w.take k):Int) (show(0:Int)<(Yx w:Int) by lia)
 have R:Rel ws (-1) (λ_=>0) x _:=⟨i,w,(X3 (w.take k):Int) % (Yx w:Int),hw,m0,m1,by lia,rfl⟩
 exact⟨_,R,by rw[←hK];exact R.sym.bound⟩
theorem Ek {K n:Nat}{f f':Nat->Nat->Nat}{sg:List (Int×Int)}{v v':Int×Int->M5}(I:E1 n f f')(I':E1 n f' f)(hK:Xt ws=(K:Int))(nd:(ws.map List.reverse).flatten.Nodup)(hs:∀e∈sg,1<=e.1)
  (hm:∀m∈sg.map v,MG (K:Int) m)(hm':∀m∈sg.map v',MG (K:Int) m)
  (hv:∀e∈sg,YR ws e [e.1,e.2,(v e).2.2.1,(v e).2.2.2.1,(v e).2.2.2.2]/\(v e).1=e.1/\(v e).2.1=e.2)
  (hv':∀e∈sg,YR (ws.map List.reverse) e [e.1,e.2,(v' e).2.2.1,(v' e).2.2.2.1,(v' e).2.2.2.2]/\(v' e).1=e.1/\(v' e).2.1=e.2):
  (TT n f' (sg.map v') K).length=(TT n f (sg.map v) K).length:=by
 have key:∀x:Int,∃y:Int,0<=x->x<(K:Int)->Rel ws (-1) (λ_=>0) x y/\0<=y/\y<(K:Int):=λx=>by
  by_cases c:0<=x/\x<(K:Int)
  ·obtain⟨y,hy⟩:=Mb hK c.1 c.2
   exact⟨y,λ_ _=>hy⟩
  ·exact⟨0,λa b=>absurd ⟨a,b⟩ c⟩
 obtain⟨p,hp⟩:=Classical.axiomOfChoice key
 have ofR:∀{x y:Int},Rel ws (-1) (λ_=>0) x y->p y=x/\p x=y:=fun {x y} R=>by
  have b1:=R.bound
  have b2:=R.sym.bound
  rw[hK] at b1 b2
  exact⟨((hp y b2.1 b2.2).1.fn R.sym),((hp x b1.1 b1.2).1.fn R)⟩
 have hp2:∀x,0<=x->x<(K:Int)->(0<=p x/\p x<(K:Int))/\p (p x)=x:=λx h0 h1=>⟨(hp x h0 h1).2,(ofR (hp x h0 h1).1).1⟩
 have rel:∀e∈sg,(v' e).2.1=(v e).2.1/\(p (v' e).2.2.1=(v e).2.2.1/\p (v' e).2.2.2.1=(v e).2.2.2.2/\p (v' e).2.2.2.2=(v e).2.2.2.1)/\(p (v e).2.2.1=(v' e).2.2.1/\p (v e).2.2.2.1=(v' e).2.2.2.2/\p (v e).2.2.2.2=(v' e).2.2.2.1):=λe he=>by
  obtain⟨m1,a1,a2⟩:=hv e he
  obtain⟨m2,b1,b2⟩:=hv' e he
  obtain⟨o,a,b,o',a',b',e1,R1,R2,R3,M⟩:=EV (λi k w h=>Hj h) (VH ws) nd (hs e he) m1
  simp only[List.cons.injEq,and_true,true_and] at e1
  obtain⟨rfl,rfl,rfl⟩:=e1
  have:=MF m2 b1 b2 M
  rw[this]
  exact⟨a2.symm,⟨(ofR R1).1,(ofR R3).1,(ofR R2).1⟩,(ofR R1).2,(ofR R2).2,(ofR R3).2⟩
 refine Nat.le_antisymm ?_ ?_
 ·exact Fo (p:=p) I' hm' hm hp2 λe he=>⟨(rel e he).1.symm,(rel e he).2.2.1,(rel e he).2.2.2.1,(rel e he).2.2.2.2⟩
 ·exact Fo (p:=p) I hm hm' hp2 λe he=>⟨(rel e he).1,(rel e he).2.1.1,(rel e he).2.1.2.1,(rel e he).2.1.2.2⟩
end
theorem Ce {n:Nat}{f:Nat->Nat->Nat}(C:Col n f):E1 n f (dv n f)/\E1 n (dv n f) f:=by
 have a:E1 n f (dv n f):=λx y b hx hy hb=>⟨λe=>by rw[←e];exact Ct C hx hb,λe=>by rw[←e];exact(Ut C hy hb).2.1⟩
 exact⟨a,λx y b hx hy hb=>(a y x b hy hx hb).symm⟩
theorem Bq {n:Nat}{f:Nat->Nat->Nat}(C:Col n f)(hn:n<=100):YF (YX n f)= .ok (YX n (dv n f)):=by
 refine Ok.eq ?_
 unfold YF
 simp only[Rs.okb,XV]
 rw[Zf (h:=λa=>a) (by rw[XV];exact sz (by lia)) λ_ _=>rfl,List.map_id',Rs.okb,Y4 (by lia),Rs.okb]
 refine Ok.bind (Ok.forN (λi (g:List (List Int))=>g=YX n λy b=>if dv n f y b<i then dv n f y b else f y b) (Yn λa b _ _=>by rw[if_neg (Nat.not_lt_zero _)]) λi a g ha hg=>?_) λg hg=>⟨_,rfl,?_⟩
 ·obtain⟨rfl,hi⟩:=Ya ha
  subst hg
  rw[Rs.okb]
  refine Ok.bind (Ok.forN (λj (g:List (List Int))=>g=YX n λy b=>if dv n f y b<(if b<j then i+1 else i) then dv n f y b else f y b) (Yn λa b _ _=>by rw[if_neg (Nat.not_lt_zero b)]) λj a g ha hg=>?_) λg hg=>⟨_,rfl,?_⟩
  ·obtain⟨rfl,hj⟩:=Ya ha
   subst hg
   have hf:=C.lt i j hi hj
   rw[VB hi,Rs.okb,U9 hj,Rs.okb,VB hf,Rs.okb,QV (by rw[Zu];exact hj),Rs.okb,QV (by rw[XV];exact hf),Rs.okb,BM hf]
   refine⟨_,rfl,Yn λy b hy hb=>?_⟩
   have hd:=Ut C hy hb
   by_cases c:y=f i j/\b=j
   ·rw[if_pos c,c.2,if_pos (show j<j+1 by lia),c.1,Ct C hi hj,if_pos (by lia)]
   ·rw[if_neg c]
    by_cases c1:b<j
    ·rw[if_pos c1,if_pos (show b<j+1 by lia)]
    ·rw[if_neg c1]
     by_cases c2:b=j
     ·subst c2
      rw[if_pos (show b<b+1 by lia)]
      have hne:dv n f y b≠i:=λz=>c ⟨by rw[←z];exact hd.2.1.symm,rfl⟩
      by_cases c3:dv n f y b<i
      ·rw[if_pos c3,if_pos (by lia)]
      ·rw[if_neg c3,if_neg (by lia)]
     ·rw[if_neg (show ¬b<j+1 by lia)]
  ·rw[XX] at hg
   rw[hg]
   exact Yn λy b _ hb=>by rw[if_pos hb]
 ·rw[XX] at hg
  rw[hg]
  exact Yn λy b hy hb=>by rw[if_pos (Ut C hy hb).1]
section
variable {n K:Nat}{f:Nat->Nat->Nat}{D D1 D2:List (List Int)×List (Int×Int)}
noncomputable def VX (es:List (Int×Int)):Int:=es.foldl (λg e=>max g e.1) 0
theorem Vy:∀(es:List (Int×Int)) (g:Int),g<=es.foldl (λg e=>max g e.1) g/\∀e∈es,e.1<=es.foldl (λg e=>max g e.1) g
 | [],g=>⟨Int.le_refl _,λe h=>nomatch h⟩
 |a::es,g=>by
  obtain⟨h1,h2⟩:=Vy es (max g a.1)
  refine⟨Int.le_trans (by lia) h1,λe h=>?_⟩
  rcases List.mem_cons.mp h with rfl |h
  ·exact Int.le_trans (by lia) h1
  ·exact h2 e h
noncomputable def U7 (D1 D2:List (List Int)×List (Int×Int)):List (List Int)×List (Int×Int):=(D1.1++D2.1.map (List.map (far (VX D1.2))),D1.2++D2.2.map λe=>(e.1+VX D1.2,e.2))
theorem IE (h1:DG D1)(h2:DG D2):V4 D1 D2= .ok (U7 D1 D2):=by
 have f1:=h1.few
 have f2:=h2.few
 have l1:=h1.le
 have l2:=h2.le
 unfold V4
 simp only[Rs.okb]
 rw[Br (h:=λ(g:Int) (e:Int×Int)=>max g e.1) λg a _=>rfl,Rs.okb,Zf (h:=λa=>a) (sz (by lia)) λ_ _=>rfl,List.map_id',Rs.okb]
 rw[Zt (h:=List.map (far (VX D1.2))) (sz (by lia)) λg hg w hw=>?_]
 ·rw[Rs.okb,Zt (h:=λe:Int×Int=>(e.1+VX D1.2,e.2)) (sz (by lia)) λg hg e he=>?_]
  ·rfl
  ·rw[XG hg];rfl
 ·rw[Zf (h:=far (VX D1.2)) (sz (by have:=h2.short w hw;lia)) λx _=>?_,Rs.okb,XG hg]
  unfold Ql far
  simp only[Rs.okb]
  by_cases c:x<0
  ·rw[if_pos (decide_eq_true c),if_pos c];rfl
  ·rw[if_neg (by rw[decide_eq_true_eq];exact c),if_neg c];rfl
theorem DG.laid (h1:DG D1)(h2:DG D2)(p2:∀e∈D2.2,1<=e.1)(b1:D1.1.length<=400)(b2:D2.1.length<=400)(c1:D1.2.length<=400)(c2:D2.2.length<=400):DG (U7 D1 D2) where
 few:=by
  show(D1.1++D2.1.map _).length<=_
  rw[List.length_append,List.length_map];lia
 short w hw:=by
  rcases List.mem_append.mp hw with h |h
  ·exact h1.short w h
  ·obtain⟨u,hu,rfl⟩:=List.mem_map.mp h
   rw[List.length_map];exact h2.short u hu
 le:=by
  show(D1.2++D2.2.map _).length<=_
  rw[List.length_append,List.length_map];lia
 mem e he:=by
  have ht:0<=VX D1.2:=(Vy D1.2 0).1
  show e.1∈(D1.1++D2.1.map _).flatten/\ -e.1∈(D1.1++D2.1.map _).flatten
  rw[List.flatten_append,List.mem_append,List.mem_append]
  rcases List.mem_append.mp he with h |h
  ·exact⟨.inl (h1.mem e h).1, .inl (h1.mem e h).2⟩
  ·obtain⟨u,hu,rfl⟩:=List.mem_map.mp h
   have hp:=p2 u hu
   obtain⟨m1,m2⟩:=h2.mem u hu
   have e1:far (VX D1.2) u.1=u.1+VX D1.2:=by unfold far;rw[if_neg (by lia)]
   have e2:far (VX D1.2) (-u.1)= -(u.1+VX D1.2):=by unfold far;rw[if_pos (by lia)];lia
   rw[←List.map_flatten]
   exact⟨.inr (List.mem_map.mpr ⟨_,m1,e1⟩), .inr (List.mem_map.mpr ⟨_,m2,e2⟩)⟩
 sg e he:=by
  rcases List.mem_append.mp he with h |h
  ·exact h1.sg e h
  ·obtain⟨u,hu,rfl⟩:=List.mem_map.mp h
   exact h2.sg u hu
 count:=by
  have ht:0<=VX D1.2:=(Vy D1.2 0).1
  show Xt (D1.1++D2.1.map _)=((D1.2++D2.2.map _).length:Int)+(Zz (D1.1++D2.1.map _):Int)
  have z:∀a b:List (List Int),Zz (a++b)=Zz a+Zz b:=λa b=>by unfold Zz;rw[List.filter_append,List.length_append]
  rw[ZZ,z,Ul ht,CF ht,List.length_append,List.length_map,h1.count,h2.count];lia
theorem GK {T:List (List Int)}(h:DG D)(hn:n<=100)(hc:X8 D (YX n f)= .ok T):JG D (YX n f) T= .ok true:=by
 unfold JG
 simp only[Rs.okb]
 rw[HZ h.few,XF,Rs.okb,Zf (h:=λa=>a) (by rw[XV];exact sz (by lia)) λ_ _=>rfl,List.map_id',Rs.okb,hc,XF,Rs.okb]
 rw[show orR (Rs.ok !true) (Rs.ok !decide ((T.length:Int)=(T.length:Int)))= .ok false by rw[decide_eq_true rfl];rfl,Rs.okb,if_neg (by decide),UR (g:=()) λa _=>?_,Rs.okb,G2,decide_eq_true rfl]
 rw[CS,XF];rfl
theorem IW {A B:List (List Int)}(hA:∀a∈A,a.length<=1000)(hB:∀b∈B,b.length<=1000)(hl:A.length*B.length<=90000):
  forN A [] (λg a=>(forN B g λg b=>(FR a b).bind λx=>chk (g.length<sizeLine) (.ok (g++[x]))).bind λg=>.ok g)= .ok (A.flatMap λa=>B.map (a++ ·)):=by
 have inner:∀a∈A,∀g:List (List Int),g.length+B.length<=90000->forN B g (λg b=>(FR a b).bind λx=>chk (g.length<sizeLine) (.ok (g++[x])))= .ok (g++B.map (a++ ·)):=λa ha g hg=>
  Zt (h:=(a++ ·)) (sz (by lia)) λg' hg' b hb=>by
   have z1:=hA a ha
   have z2:=hB b hb
   rw[show FR a b= .ok (a++b) from XG (sz (by lia)),Rs.okb,XG hg']
 refine Ok.eq (Ok.imp (Ok.forN (λi (g:List (List Int))=>g=(A.take i).flatMap λa=>B.map (a++ ·)) rfl λi a g ha hg=>?_) λg hg=>by rw[List.take_length] at hg;exact hg)
 have hi:=(List.getElem?_eq_some_iff.mp ha).1
 have fl:∀l:List (List Int),(l.flatMap λa=>B.map (a++ ·)).length=l.length*B.length:=λl=>by
  induction l with
  |nil=>simp
  |cons x l ih=>rw[List.flatMap_cons,List.length_append,ih,List.length_map,List.length_cons,Nat.succ_mul];lia
 have hgl:g.length+B.length<=90000:=by
  rw[hg,fl,List.length_take,Nat.min_eq_left (by lia), ←Nat.succ_mul]
  exact Nat.le_trans (Nat.mul_le_mul_right _ hi) hl
 rw[inner a (List.mem_of_getElem? ha) g hgl,Rs.okb]
 refine⟨_,rfl,?_⟩
 rw[hg,List.take_add_one,ha,Option.toList_some,List.flatMap_append]
 simp
end
section
variable {n K:Nat}{f:Nat->Nat->Nat}{D:List (List Int)×List (Int×Int)}
theorem Hn (h:DG D)(hn:0<n)(h24:n<=100)(hK:Xt D.1=(K:Int))(hp:n^K<=7000)(hK2:K<=900){ms:List M5}(e2:ZH D= .ok ms)(hl:ms.length<=1000)(hm:∀m∈ms,MG (Xt D.1) m):Ga D (YX n f)= .ok (TT n f ms K):=by
 unfold Ga
 simp only[Rs.okb]
 rw[e2,XF]
 simp only[Rs.okb]
 rw[XG (sz (by simp)),Fv h.short,XF, ←h.count,hK,XV]
 simp only[Rs.okb]
 rw[Y4 (by lia),Y4 (by lia)]
 simp only[Rs.okb]
 apply Ok.eq
 refine Ok.bind (Ok.forN (λk (T:List (List Int))=>T=TT n f ms k) rfl λk a T ha hT=>?_) λT hT=>?_
 ·obtain⟨rfl,hk⟩:=Ya ha
  subst hT
  have hc:=Z9 (n:=n) (f:=f) (ms:=ms) k
  have hpk:n^(k+1)<=7000:=Nat.le_trans (DF hn (by lia)) hp
  have hb:(TT n f ms k).length*n<=90000:=by
   have:=Nat.mul_le_mul_right n hc.1
   have e:n^(k+1)=n^k*n:=Nat.pow_succ ..
   lia
  rw[UD (p:=QY k) (h:=λm=>m) (sz (by lia)) (λm _=>?_) λ_ _ _=>rfl,List.map_id',Rs.okb]
  ·rw[outer (n:=n) (f:=f) (ms:=ms.filter (QY k)) hb,Rs.okb]
   ·exact⟨_,rfl,rfl⟩
   intro g c hcm hg
   obtain⟨h1,h2⟩:=hc.2 c hcm
   rw[Q7 (p:=λj=>(ms.filter (QY k)).all (QO f (Jk (c++[j])))) (h:=λj=>c++[j]) (by simp;lia),Rs.okb]
   ·rfl
   intro g' a ha hg'
   obtain⟨j,hj,rfl⟩:=Zs ha
   rw[Nc (by lia),Rs.okb,EZ (cn:=Jk (c++[(j:Int)])) (HU h1 h2 hj) (BE hm k),XF,Rs.okb]
   cases(ms.filter (QY k)).all (QO f (Jk (c++[(j:Int)]))) with
   |true=>rw[if_pos rfl,Rs.okb,XG (F3 (by lia))];rfl
   |false=>rw[if_neg Bool.false_ne_true];rfl
  ·rw[XG (by simp[HT.sIx])]
   rfl
 ·rw[XX] at hT
  exact⟨_,rfl,hT⟩
theorem Fy (h:DG D)(hK:Xt D.1=(K:Int))(hK2:K<=900):Ok (QQ D 250) λs=>∃ q:Nat,s=(q:Int)/\1<=q/\q<=6/\q^K<=250:=by
 unfold QQ
 simp only[Rs.okb]
 rw[Fv h.short,XF, ←h.count,hK,Rs.okb]
 refine Ok.bind (Ok.imp (Jl (λg:Int=>∃ q:Nat,g=(q:Int)/\1<=q/\q<=6/\q^K<=250) (λg=>6-g.toNat) (λg hg=>?_) 8 1 ⟨1,rfl,by decide,by decide,by rw[Nat.one_pow];decide⟩ (by decide)) λg hg=>hg.1) λs hs=>⟨_,rfl,hs⟩
 obtain⟨q,rfl,q1,q6,qp⟩:=hg
 have e:(q:Int)+1=((q+1:Nat):Int):=by lia
 refine⟨decide ((q:Int)<6)&&decide ((((q+1)^K:Nat):Int)<=250),?_,λc=>?_⟩
 ·rw[e,EX (by lia) (by lia),XF,Rs.okb]
  exact Hw λ_=>rfl
 ·rw[Bool.and_eq_true,decide_eq_true_eq,decide_eq_true_eq] at c
  refine⟨_,rfl,⟨q+1,e,by lia,by lia,by lia⟩,?_⟩
  show 6-((q:Int)+1).toNat<6-((q:Int)).toNat
  lia
end
theorem YR.fl {ws:List (List Int)}{e:Int×Int}{o a b:Int}(h:YR ws e [e.1,e.2,o,a,b]):YR ws (e.1,-e.2) [e.1,-e.2,o,a,b]:=by
 obtain⟨i,j,k,l,w,w',r,r',o',a',b',s1,s2,h1,h2,h3,h4,h5,q⟩:=h
 simp only[List.cons.injEq,and_true,true_and] at q
 obtain⟨rfl,rfl,rfl⟩:=q
 exact⟨i,j,k,l,w,w',r,r',_,_,_,s1,s2,h1,h2,h3,h4,h5,rfl⟩
theorem By (ws:List (List Int)):Zz (ws.map List.reverse)=Zz ws:=by
 unfold Zz
 rw[List.filter_map,List.length_map]
 congr 2
 funext w
 show decide (X3 w.reverse=0)=_
 rw[Vb]
theorem DG.back {D:List (List Int)×List (Int×Int)}(h:DG D):DG (D.1.map List.reverse,D.2) where
 few:=by show(D.1.map List.reverse).length<=_;rw[List.length_map];exact h.few
 short w hw:=by
  obtain⟨u,hu,rfl⟩:=List.mem_map.mp hw
  rw[List.length_reverse];exact h.short u hu
 le:=h.le
 mem e he:=⟨(Jc D.1).mem_iff.mpr (h.mem e he).1,(Jc D.1).mem_iff.mpr (h.mem e he).2⟩
 sg:=h.sg
 count:=by
  show Xt (D.1.map List.reverse)=(D.2.length:Int)+(Zz (D.1.map List.reverse):Int)
  rw[(VH D.1).all,By];exact h.count
theorem Fk:∀{names:List Int},names.Pairwise (· < ·)->(∀x∈names,1<=x)->(names.flatMap λx=>[x,-x]).Nodup
 | [],_,_=>List.nodup_nil
 |a::l,h,hp=>by
  obtain⟨h1,h2⟩:=List.pairwise_cons.mp h
  have ha:=hp a List.mem_cons_self
  have hne:∀y∈l.flatMap (λx=>[x,-x]),y≠a/\y≠ -a:=λy hy=>by
   obtain⟨b,hb,hy⟩:=List.mem_flatMap.mp hy
   have:=h1 b hb
   simp only[List.mem_cons,List.not_mem_nil,or_false] at hy
   rcases hy with rfl |rfl<;> lia
  rw[List.flatMap_cons]
  show(a:: -a::l.flatMap λx=>[x,-x]).Nodup
  rw[List.nodup_cons,List.nodup_cons]
  refine⟨λhm=>?_,λhm=>(hne _ hm).2 rfl,Fk h2 λx hx=>hp x (List.mem_cons_of_mem _ hx)⟩
  rcases List.mem_cons.mp hm with z |z
  ·lia
  ·exact(hne _ z).1 rfl
section
variable {n K1 K2:Nat}{f:Nat->Nat->Nat}{D D1 D2:List (List Int)×List (Int×Int)}
theorem Ha (h1:DG D1)(h2:DG D2)(hL:DG (U7 D1 D2))(p2:∀e∈D2.2,1<=e.1)(n1:∀w∈D1.1,∀y∈w,-VX D1.2<=y/\y<=VX D1.2)(hn:0<n)(h24:n<=100)(k1:Xt D1.1=(K1:Int))(k2:Xt D2.1=(K2:Int))(hb1:K1<=100)(hb2:K2<=100)(hp:n^(K1+K2)<=65000)
  {v1 v2:Int×Int->M5}(g1:∀m∈D1.2.map v1,MG (K1:Int) m)(g2:∀m∈D2.2.map v2,MG (K2:Int) m)
  (e1:∀e∈D1.2,YR D1.1 e [e.1,e.2,(v1 e).2.2.1,(v1 e).2.2.2.1,(v1 e).2.2.2.2]/\(v1 e).1=e.1/\(v1 e).2.1=e.2)
  (e2:∀e∈D2.2,YR D2.1 e [e.1,e.2,(v2 e).2.2.1,(v2 e).2.2.2.1,(v2 e).2.2.2.2]/\(v2 e).1=e.1/\(v2 e).2.1=e.2):
  X8 (U7 D1 D2) (YX n f)= .ok ((TT n f (D1.2.map v1) K1).flatMap λa=>(TT n f (D2.2.map v2) K2).map (a++ ·)):=by
 have ht:0<=VX D1.2:=(Vy D1.2 0).1
 have hK:Xt (U7 D1 D2).1=((K1+K2:Nat):Int):=by
  show Xt (D1.1++D2.1.map _)=_
  rw[ZZ,Ul ht,k1,k2];lia
 obtain⟨v3,w1,_,w3,w4⟩:=VG hL
 have hms:(U7 D1 D2).2.map v3=D1.2.map v1++(D2.2.map v2).map (shM (K1:Int) (VX D1.2)):=by
  show(D1.2++D2.2.map λe=>(e.1+VX D1.2,e.2)).map v3=_
  rw[List.map_append,List.map_map,List.map_map]
  congr 1
  ·refine List.map_congr_left λe he=>?_
   obtain⟨a1,a2,a3⟩:=w4 e (List.mem_append_left _ he)
   obtain⟨b1,b2,b3⟩:=e1 e he
   rw[MF a1 a2 a3 b1.left]
   rw[←b2, ←b3]
  ·refine List.map_congr_left λe he=>?_
   obtain⟨a1,a2,a3⟩:=w4 (e.1+VX D1.2,e.2) (List.mem_append_right _ (List.mem_map.mpr ⟨e,he,rfl⟩))
   obtain⟨b1,b2,b3⟩:=e2 e he
   have:=MF a1 a2 a3 (b1.right ht (p2 e he) n1)
   show v3 (e.1+VX D1.2,e.2)=shM (K1:Int) (VX D1.2) (v2 e)
   rw[this,k1]
   unfold shM
   rw[←b2, ←b3]
 have hl:((U7 D1 D2).2.map v3).length<=1000:=by rw[List.length_map];exact hL.le
 rw[Fl hL hn h24 hK hp (by lia) w1 hl w3,hms,U5 g1 g2]
theorem Ez (h:DG D1)(hn:0<n)(h24:n<=100)(C:Col n f)(k1:Xt D1.1=(K1:Int))(hb1:K1<=100)(hp:n^K1<=65000){v1:Int×Int->M5}(g1:∀m∈D1.2.map v1,MG (K1:Int) m)
  (e1:∀e∈D1.2,YR D1.1 e [e.1,e.2,(v1 e).2.2.1,(v1 e).2.2.2.1,(v1 e).2.2.2.2]/\(v1 e).1=e.1/\(v1 e).2.1=e.2):
  X8 (D1.1,D1.2.map λe=>(e.1,-e.2)) (YX n (dv n f))= .ok (TT n f (D1.2.map v1) K1):=by
 obtain⟨v3,w1,_,w3,w4⟩:=VG h.other
 have hms:(D1.2.map λe=>(e.1,-e.2)).map v3=(D1.2.map v1).map flM:=by
  rw[List.map_map,List.map_map]
  refine List.map_congr_left λe he=>?_
  obtain⟨a1,a2,a3⟩:=w4 (e.1,-e.2) (List.mem_map.mpr ⟨e,he,rfl⟩)
  obtain⟨b1,b2,b3⟩:=e1 e he
  have:=MF a1 a2 a3 b1.fl
  show v3 (e.1,-e.2)=flM (v1 e)
  rw[this]
  unfold flM
  rw[←b2, ←b3]
 have hl:((D1.2.map λe=>(e.1,-e.2)).map v3).length<=1000:=by rw[List.length_map];exact h.other.le
 rw[Fl h.other hn h24 k1 hp (by lia) w1 hl w3]
 show Rs.ok (TT n (dv n f) ((D1.2.map λe=>(e.1,-e.2)).map v3) K1)=_
 rw[hms,BL (Ce C).1 g1]
theorem Cg (h:DG D1)(hn:0<n)(h24:n<=100)(C:Col n f)(k1:Xt D1.1=(K1:Int))(hb1:K1<=100)(hp:n^K1<=65000)(nd:(D1.1.map List.reverse).flatten.Nodup)(p1:∀e∈D1.2,1<=e.1){v1:Int×Int->M5}(g1:∀m∈D1.2.map v1,MG (K1:Int) m)
  (e1:∀e∈D1.2,YR D1.1 e [e.1,e.2,(v1 e).2.2.1,(v1 e).2.2.2.1,(v1 e).2.2.2.2]/\(v1 e).1=e.1/\(v1 e).2.1=e.2):
  Ua (D1.1.map List.reverse,D1.2) (YX n (dv n f))= .ok ((TT n f (D1.2.map v1) K1).length:Int):=by
 have hK:Xt (D1.1.map List.reverse)=(K1:Int):=by rw[(VH D1.1).all];exact k1
 obtain⟨v3,w1,_,w3,w4⟩:=VG h.back
 have w3':∀m∈D1.2.map v3,MG (K1:Int) m:=λm hm=>by
  have:=w3 m hm
  rwa [show Xt ((D1.1.map List.reverse,D1.2):List (List Int)×List (Int×Int)).1=(K1:Int) from hK] at this
 have hl:(D1.2.map v3).length<=1000:=by rw[List.length_map];exact h.le
 unfold Ua
 simp only[Rs.okb]
 rw[Fl h.back hn h24 hK hp (by lia) w1 hl w3,XF,Rs.okb]
 congr 1
 have:=Ek (Ce C).1 (Ce C).2 k1 nd p1 g1 w3' e1 w4
 exact congrArg Int.ofNat this
end
theorem EN (ns:List Int)(_:ns.length<=63):Gd ns= .ok true:=by
 unfold Gd
 simp only[Rs.okb]
 have dr:∀p:Int,0<=p->∃D K,Qq ns p 4= .ok D/\Drawn 4 D/\DG D/\Xt D.1=((K:Nat):Int)/\K<=100:=λp hp=>by
  obtain⟨D,eD,hD⟩:=Eb ns (p:=p) hp (most:=4) (by decide)
  have d:=DG.of hD (by decide)
  obtain⟨K,hK⟩:∃K:Nat,Xt D.1=(K:Int):=⟨(Xt D.1).toNat,by have:=Vx D.1;lia⟩
  refine⟨D,K,eD,hD,d,hK,?_⟩
  have h1:=d.count
  have h2:=hD.le
  have h3:=hD.few
  have h4:Zz D.1<=D.1.length:=EA D.1
  lia
 obtain⟨D1,K1,q1,r1,d1,k1,b1⟩:=dr 0 (by decide)
 obtain⟨D2,K2,q2,r2,d2,k2,b2⟩:=dr 1 (by decide)
 rw[q1,XF,Rs.okb,q2,XF,Rs.okb]
 obtain⟨s1,es1,l1,rfl,l11,l16,lp1⟩:=Fy d1 k1 (by lia)
 obtain⟨s2,es2,l2,rfl,l21,l26,lp2⟩:=Fy d2 k2 (by lia)
 rw[es1,XF,Rs.okb,es2,XF,Rs.okb,Rs.okb]
 rw[show min (l1:Int) (l2:Int)=((min l1 l2:Nat):Int) by lia]
 obtain⟨t,et,n,f,hn,hnq,gd,rfl⟩:=UP ns (p:=2) (by decide) (most:=min l1 l2) (by lia) (by lia)
 have hp1:n^K1<=250:=Nat.le_trans (Nat.pow_le_pow_left (by lia) K1) lp1
 have hp2:n^K2<=250:=Nat.le_trans (Nat.pow_le_pow_left (by lia) K2) lp2
 have hp3:n^(K1+K2)<=65000:=by
  rw[Nat.pow_add]
  exact Nat.le_trans (Nat.mul_le_mul hp1 hp2) (by decide)
 obtain⟨v1,m1,m1',g1,e1⟩:=VG d1
 obtain⟨v2,m2,m2',g2,e2⟩:=VG d2
 have y1:(D1.2.map v1).length<=1000:=by rw[List.length_map];exact d1.le
 have y2:(D2.2.map v2).length<=1000:=by rw[List.length_map];exact d2.le
 have c1:=Fl (f:=f) d1 hn (by lia) k1 (by lia) (by lia) m1 y1 g1
 rw[et,XF,Rs.okb,Hn (f:=f) d1 hn (by lia) k1 (by lia) (by lia) m1' y1 g1,XF,Rs.okb,Hn (f:=f) d2 hn (by lia) k2 (by lia) (by lia) m2' y2 g2,XF,Rs.okb]
 rw[k1] at g1
 rw[k2] at g2
 have t1:=Z9 (n:=n) (f:=f) (ms:=D1.2.map v1) K1
 have t2:=Z9 (n:=n) (f:=f) (ms:=D2.2.map v2) K2
 rw[IW (λa ha=>by have:=(t1.2 a ha).1;lia) (λa ha=>by have:=(t2.2 a ha).1;lia) (Nat.le_trans (Nat.mul_le_mul (Nat.le_trans t1.1 hp1) (Nat.le_trans t2.1 hp2)) (by decide)),Rs.okb]
 have hL:DG (U7 D1 D2):=d1.laid d2 (λe he=>(r2.pos e he).1) (by have:=r1.few;lia) (by have:=r2.few;lia) (by have:=r1.le;lia) (by have:=r2.le;lia)
 have n1:∀w∈D1.1,∀y∈w,-VX D1.2<=y/\y<=VX D1.2:=λw hw y hy=>by
  have:=r1.perm.mem_iff.mp (List.mem_flatten.mpr ⟨w,hw,hy⟩)
  obtain⟨x,hx,hy⟩:=List.mem_flatMap.mp this
  obtain⟨e,he,rfl⟩:=List.mem_map.mp hx
  have h1:=(r1.pos e he).1
  have h2:e.1<=VX D1.2:=(Vy D1.2 0).2 e he
  simp only[List.mem_cons,List.not_mem_nil,or_false] at hy
  rcases hy with rfl |rfl<;> lia
 have hlc:=Ha (f:=f) d1 d2 hL (λe he=>(r2.pos e he).1) n1 hn (by lia) k1 k2 b1 b2 hp3 g1 g2 e1 e2
 rw[IE d1 d2,XF,Rs.okb,GK hL (by lia) hlc,XF]
 simp only[Rs.okb]
 rw[if_neg (by decide),Bq gd.toCol (by lia),XF]
 simp only[Rs.okb]
 rw[Zf (h:=λe:Int×Int=>(e.1,-e.2)) (sz (by have:=d1.le;lia)) λ_ _=>rfl,Rs.okb,Rs.okb,GK d1.other (by lia) (Ez d1 hn (by lia) gd.toCol k1 b1 (by lia) g1 e1),XF]
 simp only[Rs.okb]
 rw[if_neg (by decide),Zf (h:=List.reverse) (sz (by have:=d1.few;lia)) λ_ _=>XG (by decide),Rs.okb]
 have nd:(D1.1.map List.reverse).flatten.Nodup:=by
  rw[((Jc D1.1).trans r1.perm).nodup_iff]
  exact Fk r1.inc λx hx=>by
   obtain⟨e,he,rfl⟩:=List.mem_map.mp hx
   exact(r1.pos e he).1
 rw[Cg d1 hn (by lia) gd.toCol k1 b1 (by lia) nd (λe he=>(r1.pos e he).1) g1 e1,XF,Rs.okb,decide_eq_true rfl]
 simp only[Rs.okb]
 rw[if_neg (by decide),GK d1 (by lia) c1,XF]
noncomputable def top (i:Nat):Stmt:=PySem.Challenge.pw_plait_k56_drawings_beside.main.body.getD i (.Pass ⟨0,0,0,0⟩)
noncomputable abbrev BV:Stmt:=top 5
noncomputable abbrev CY:Stmt:=top 7
noncomputable abbrev Qc:Stmt:=top 8
noncomputable abbrev Zr:Stmt:=top 9
noncomputable abbrev ZT:Stmt:=top 10
noncomputable abbrev Ge:Stmt:=top 11
noncomputable abbrev CV:Stmt:=top 14
noncomputable abbrev QD:Stmt:=top 15
noncomputable abbrev ZQ:Stmt:=top 16
noncomputable abbrev Zg:Stmt:=top 17
noncomputable abbrev ZJ:Stmt:=top 18
noncomputable abbrev Cv:Stmt:=top 19
noncomputable abbrev BW:Stmt:=top 21
noncomputable abbrev IY:Stmt:=top 22
noncomputable abbrev Lc:Stmt:=top 23
noncomputable abbrev Gz:Stmt:=top 24
noncomputable abbrev Ep:Stmt:=top 25
noncomputable abbrev Vj:Stmt:=top 26
noncomputable abbrev Uq:Stmt:=top 27
noncomputable abbrev FN:Stmt:=top 28
noncomputable abbrev Jw:Stmt:=top 29
noncomputable abbrev QU:Stmt:=top 30
noncomputable abbrev Vf:Stmt:=top 31
noncomputable abbrev Um:Stmt:=top 32
noncomputable abbrev FM:Stmt:=top 33
noncomputable abbrev Vo:Stmt:=top 34
noncomputable abbrev Ve:Stmt:=top 35
noncomputable abbrev Qn:Stmt:=top 36
noncomputable abbrev UZ:Stmt:=top 37
noncomputable abbrev Ur:Stmt:=top 38
noncomputable abbrev Vm:Stmt:=top 39
noncomputable abbrev US:Stmt:=top 40
noncomputable abbrev Gw:Stmt:=top 41
noncomputable abbrev ET:Stmt:=top 42
noncomputable abbrev GN:Stmt:=top 43
noncomputable abbrev GF:Stmt:=top 44
noncomputable abbrev Zp:Stmt:=top 45
noncomputable abbrev VA:Stmt:=top 46
noncomputable abbrev Kc:Stmt:=top 47
noncomputable abbrev G5:Stmt:=top 48
noncomputable abbrev Vv:Stmt:=top 49
theorem Kj {X:Cx}:PE X (.List [.List [.Constant (.int 0) 0 ⟨192,17,192,18⟩, .Constant (.int 3) 0 ⟨192,20,192,21⟩, .Constant (.int 1) 0 ⟨192,23,192,24⟩, .Constant (.int 2) 0 ⟨192,26,192,27⟩] ⟨192,16,192,28⟩, .List [.Constant (.int 2) 0 ⟨192,31,192,32⟩, .Constant (.int 1) 0 ⟨192,34,192,35⟩, .Constant (.int 3) 0 ⟨192,37,192,38⟩, .Constant (.int 0) 0 ⟨192,40,192,41⟩] ⟨192,30,192,42⟩, .List [.Constant (.int 3) 0 ⟨192,45,192,46⟩, .Constant (.int 0) 0 ⟨192,48,192,49⟩, .Constant (.int 2) 0 ⟨192,51,192,52⟩, .Constant (.int 1) 0 ⟨192,54,192,55⟩] ⟨192,44,192,56⟩, .List [.Constant (.int 1) 0 ⟨192,59,192,60⟩, .Constant (.int 2) 0 ⟨192,62,192,63⟩, .Constant (.int 0) 0 ⟨192,65,192,66⟩, .Constant (.int 3) 0 ⟨192,68,192,69⟩] ⟨192,58,192,70⟩] ⟨192,15,192,71⟩) (Ed (XM (Ed (XM (tC (.int 0)) (XM (tC (.int 3)) (XM (tC (.int 1)) (XM (tC (.int 2)) Z5))))) (XM (Ed (XM (tC (.int 2)) (XM (tC (.int 1)) (XM (tC (.int 3)) (XM (tC (.int 0)) Z5))))) (XM (Ed (XM (tC (.int 3)) (XM (tC (.int 0)) (XM (tC (.int 2)) (XM (tC (.int 1)) Z5))))) (XM (Ed (XM (tC (.int 1)) (XM (tC (.int 2)) (XM (tC (.int 0)) (XM (tC (.int 3)) Z5))))) Z5))))):=by
 refine X1 ?_
 refine Uu ?_ ?_
 ·exact X1 (Xd Xh (Xd Xh (Xd Xh (Xd Xh Xf))))
 refine Uu ?_ ?_
 ·exact X1 (Xd Xh (Xd Xh (Xd Xh (Xd Xh Xf))))
 refine Uu ?_ ?_
 ·exact X1 (Xd Xh (Xd Xh (Xd Xh (Xd Xh Xf))))
 refine Uu ?_ ?_
 ·exact X1 (Xd Xh (Xd Xh (Xd Xh (Xd Xh Xf))))
 exact Xf
structure Blt (mg:Str->Option Value):Prop where
 b_abs:mg "abs" =none
 b_all:mg "all" =none
 b_bool:mg "bool" =none
 b_enumerate:mg "enumerate" =none
 b_int:mg "int" =none
 b_isinstance:mg "isinstance" =none
 b_len:mg "len" =none
 b_list:mg "list" =none
 b_max:mg "max" =none
 b_min:mg "min" =none
 b_range:mg "range" =none
 b_sum:mg "sum" =none
 c_MOST_LISTS:∃u,mg "MOST_LISTS" =some u/\YJ (.int 65536) u
section
variable {P:Program}{w:World}{K:PySem.W.Frag}{mg:Str->Option Value}{base:Heap}
theorem GA:FnScope ["drawing","passage","at","walk"] ["drawing","passage"] (Xi BV):=⟨rfl,rfl,rfl,by decide+kernel,rfl,by decide+kernel,by decide+kernel⟩
theorem II (D:Def K mg "spot" BV ["drawing","passage"])(Z:Blt mg):Fn P w K mg base 1 "spot" ["drawing","passage"] (sp2 (rP2 (rV (rV Xa)) (rV (rP2 Xa Xa))) Xa (oF (rP2 Xa Xa)) VR K):=by
 refine Ys D GA (λvs H Q E h=>?_) (λf cdv A outer s H vs Q E hr h=>?_)
 ·obtain⟨v_0,v_1,a_0,a_1,b,rfl,_⟩:=h;rfl
 obtain⟨v_0,v_1,a_0,a_1,b,rfl,h_0,h_1,hm,q⟩:=h
 have hu:=hu8 hr
 have hu1:=Yr hr
 refine⟨_,(Xb (XU PassesOwn.never rfl (Lj rfl Z.b_enumerate (XD (Yj K rfl) (pv 0) Xh (λ_ _=>rfl))) (Qo rfl (XH (Xm (i:=2) GA.nd rfl (Or.inl rfl)) (XH (Xm (i:=3) GA.nd rfl (Or.inl rfl)) Zv)))
   (Xb (YT (Xx Ko (pv 1) (pv 3) rfl)
    (Xb (XB (ZE (Xd (pv 2) (Xd (Hl (K:=K) rfl PySem.F.plainAttrs_list PySem.F.slot_list_index PySem.F.type_list_index (KS K rfl) (pv 3) (Xd (pv 1) Xf)) Xf))))
    Xg)
    Xg)
   Xg))
  (Xb G4
  Xg)),?_⟩
 refine Yt (S:=(SC.add (SC.add SC.nil K (rP2 (rV (rV Xa)) (rV (rP2 Xa Xa))) v_0 a_0) K Xa v_1 a_1)) (σ:=[some v_0,some v_1,none,none]) 0 ?_ (SC.i (SC.i SC.t h_0) h_1) hm q rfl
 unfold VR
 exact(VP (K:=K) (J:=({oo:=λx3=>[],ss:=λx3=>[some v_0,some v_1,x3.1,x3.2],sc:=λg4 x3=>(SC.add (SC.add SC.nil K (rP2 (rV (rV Xa)) (rV (rP2 Xa Xa))) v_0 a_0) K Xa v_1 a_1)}:Jn (Unit) (Option V×Option V))) (λ_=>tg2 2 3) ((none),(none)) () (D0 (Qd (Xj (r:=(rP2 (rV (rV Xa)) (rV (rP2 Xa Xa)))) 0 rfl (λ_ s=>s.l.r)))) rfl rfl (λ_ s=>(SC.i (SC.i SC.t s.l.r) s.r)) (λg5 x6 a7 v8=>(Vl (Xp (K:=K) (Hx (Xc (r:=Xa) 1 rfl (λ_ s=>s.l.l.r)) (Xc (r:=(rV Xa)) 3 rfl (λ_ s=>s.r)))) (XC (EvS.ev (Qx (Xj (r:=Xa) 2 rfl (λ_ s=>s.l.r)) (EvB.sh (U3 (Xc (r:=(rV Xa)) 3 rfl (λ_ s=>s.r)) (Xc (r:=Xa) 1 rfl (λ_ s=>s.l.l.r))))))) (Kh (Xs (J:=_) ((some v8.1),(some v8.2)) () rfl rfl (λ_ s=>(SC.i (SC.i SC.t s.l.l.l.r) s.l.l.r)))))) λg18 x19=>LC)
theorem Qu:FnScope ["walk","unders"] ["walk"] (Xi Zr):=⟨rfl,rfl,rfl,by decide+kernel,rfl,by decide+kernel,by decide+kernel⟩
theorem Vp (D:Def K mg "arcs_of_walk" Zr ["walk"])(Z:Blt mg):Fn P w K mg base 1 "arcs_of_walk" ["walk"] (sp1 (rV Xa) (oF Xa) XT K):=by
 refine Ys D Qu (λvs H Q E h=>?_) (λf cdv A outer s H vs Q E hr h=>?_)
 ·obtain⟨v_0,a_0,b,rfl,_⟩:=h;rfl
 obtain⟨v_0,a_0,b,rfl,h_0,hm,q⟩:=h
 have hu:=hu8 hr
 have hu1:=Yr hr
 refine⟨_,(Xb (Q3 1 (Xi Zr) ["walk","unders"] ["passage"] [] rfl Qu.nd rfl rfl (XE (K:=K) rfl (pv 0)) (Y3 (by decide)) (λcl C s H ex E=>⟨Xm (i:=0) (show List.Nodup (["passage"]:List Str) by decide+kernel) rfl (Or.inl rfl),(Uy (Xx QI (pv 0) Xh (XN _))),(pv 0)⟩))
  (Xb (XB (Xr (Jg rfl) rfl Z.b_max PyProof.Rows.boot_max (Xd (Xr (Xo K rfl) rfl Z.b_len PySem.boot_len (Xd (pv 1) Xf)) (Xd Xh Xf))))
  Xg)),?_⟩
 refine Yt (S:=(SC.add SC.nil K (rV Xa) v_0 a_0)) (σ:=[some v_0,none]) 0 ?_ (SC.i SC.t h_0) hm q rfl
 unfold XT
 exact(Xw (K:=K) (r:=(rV Xa)) 1 (Ev.sh (Vd (λ_=>tg1 0) (Xv (Xj (r:=(rV Xa)) 0 rfl (λ_ s=>s.r))) (λC3 a4 v5=>(Xp (K:=K) (Zy (Xc (r:=Xa) 0 rfl (λ_ s=>s.r)) (Xe 0)))) (λC3 a4 v5=>(EvS.ev (Xj (r:=Xa) 0 rfl (λ_ s=>s.r)))))) λa1 v2=>(XC (EvS.ev (EvB.sh (Ux (X4 (Xc (r:=(rV Xa)) 1 rfl (λ_ s=>s.r))) (Xe 1))))))
theorem Yp:FnScope ["walk","first","number","unders","ways","passage"] ["walk","first"] (Xi ZT):=⟨rfl,rfl,rfl,by decide+kernel,rfl,by decide+kernel,by decide+kernel⟩
theorem VE (D:Def K mg "arcs_of_ways" ZT ["walk","first"])(g_arcs_of_walk:Fn P w K mg base 1 "arcs_of_walk" ["walk"] (sp1 (rV Xa) (oF Xa) XT K))(Z:Blt mg):Fn P w K mg base 2 "arcs_of_ways" ["walk","first"] (sp2 (rV Xa) Xa (oL (oF Xa)) YE K):=by
 refine Ys D Yp (λvs H Q E h=>?_) (λf cdv A outer s H vs Q E hr h=>?_)
 ·obtain⟨v_0,v_1,a_0,a_1,b,rfl,_⟩:=h;rfl
 obtain⟨v_0,v_1,a_0,a_1,b,rfl,h_0,h_1,hm,q⟩:=h
 have hu:=hu8 hr
 have hu1:=Yr hr
 refine⟨_,(Xb (Xn (i:=2) Yp.nd rfl (Or.inl rfl) (X6 g_arcs_of_walk hr (by decide) (Xd (pv 0) Xf)))
  (Xb (Xn (i:=3) Yp.nd rfl (Or.inl rfl) Xh)
  (Xb (Xn (i:=4) Yp.nd rfl (Or.inl rfl) (X1 (Xd (pv 1) Xf)))
  (Xb (XU PassesOwn.never rfl (XE (K:=K) rfl (J3 (UF K rfl) (pv 0) UJ (Uz (V1 QL Xh)))) (Xm (i:=5) Yp.nd rfl (Or.inl rfl))
   (Xb (YT (Xx QI (pv 5) Xh (XN _))
    (Xb (B0 (i:=3) Yp.nd rfl (Or.inl rfl) Xh Hq)
    Xg)
    Xg)
   (Xb (Yd (Zk PySem.F.plainAttrs_list PySem.F.slot_list_append PySem.F.type_list_append XR (pv 4) (Xd (Xq XZ (pv 1) (Xq Yv (pv 3) (pv 2))) Xf)))
   Xg)))
  (Xb (XB (pv 4))
  Xg))))),?_⟩
 refine Yt (S:=(SC.add (SC.add SC.nil K (rV Xa) v_0 a_0) K Xa v_1 a_1)) (σ:=[some v_0,some v_1,none,none,none,none]) 1 ?_ (SC.i (SC.i SC.t h_0) h_1) hm q rfl
 unfold YE
 exact(Xw (K:=K) (r:=Xa) 2 (EvB.sh (Ev.toB (Yy (Xc (r:=(rV Xa)) 0 rfl (λ_ s=>s.l.r))))) λa1 v2=>(Xw (K:=K) (r:=Xa) 3 (EvB.sh (Xe 0)) λa5 v6=>(XO (K:=K) (o:=(oL (oF Xa))) 4 0 (Zx (Xu (Xj (r:=Xa) 1 rfl (λ_ s=>s.l.l.r)) YY)) (Nat.le_of_ble_eq_true rfl) λa7 v8 C9=>(X5 (K:=K) (J:=({oo:=λx18=>[x18.2.2.2],ss:=λx18=>[some v_0,some v_1,some v2,some x18.2.1,some x18.2.2.1,x18.1],sc:=λg19 x18=>(SC.addO (SC.add (SC.add (SC.add (SC.add SC.nil K (rV Xa) v_0 a_0) K Xa v_1 a_1) K Xa v2 a1) K Xa x18.2.1 g19.1) K (oL (oF Xa)) x18.2.2.1 g19.2 x18.2.2.2)}:Jn (Int×(List Int)) (Option V×V×V×List XA))) (λ_=>tg1 5) ((none),v6,v8,C9) (a5,a7) (Xv (Ev.sh (FH (EvS.ls (Xj (r:=(rV Xa)) 0 rfl (λ_ s=>s.l.l.l.l.r))) JX (JZ (K:=K) (ZS (Xe 1)))))) rfl rfl (λ_ s=>(SC.i (SC.i (SC.i (SC.i (SC.i SC.t s.l.l.l.l.r) s.l.l.l.r) s.l.l.r) s.l.r) s.r)) (λg20 x21 a22 v23=>(Y7 (J:=({oo:=λx27=>[x21.2.2.2],ss:=λx27=>[some v_0,some v_1,some v2,some x27,some x21.2.2.1,some v23],sc:=λg28 x27=>(SC.add (SC.add (SC.addO (SC.add (SC.add (SC.add SC.nil K (rV Xa) v_0 a_0) K Xa v_1 a_1) K Xa v2 a1) K (oL (oF Xa)) x21.2.2.1 g20.2 x21.2.2.2) K Xa v23 a22) K Xa x27 g28)}:Jn (Int) (V))) (ZP (Fd:=FNd ({oo:=λx27=>[x21.2.2.2],ss:=λx27=>[some v_0,some v_1,some v2,some x27,some x21.2.2.1,some v23],sc:=λg28 x27=>(SC.add (SC.add (SC.addO (SC.add (SC.add (SC.add SC.nil K (rV Xa) v_0 a_0) K Xa v_1 a_1) K Xa v2 a1) K (oL (oF Xa)) x21.2.2.1 g20.2 x21.2.2.2) K Xa v23 a22) K Xa x27 g28)}:Jn (Int) (V))) (Xp (K:=K) (Zy (Xc (r:=Xa) 5 rfl (λ_ s=>s.r)) (Xe 0))) (Hf (K:=K) (f:=λa31=>(Rs.ok (a31))) 3 rfl (λ_ s=>s.l.l.r) (Xe 1) λa31 v30=>(Xs (J:=_) (v30) (a31) rfl rfl (λ_ s=>(SC.i (SC.i (SC.i (SC.i (SC.i (SC.i SC.t s.l.l.l.l.l.l.r) s.l.l.l.l.l.r) s.l.l.l.l.r) s.l.l.r) s.l.r) s.r)))) (Xs (J:=_) (x21.2.1) (g20.1) rfl rfl (λ_ s=>(SC.i (SC.i (SC.i (SC.i (SC.i (SC.i SC.t s.l.l.l.l.l.r) s.l.l.l.l.r) s.l.l.l.r) s.l.r) s.r) s.l.l.r)))) λg33 x32=>(Zb (K:=K) (o:=(oF Xa)) (f:=λa40=>(Rs.ok (g33,a40))) 4 0 rfl rfl rfl (λ_ s=>s.l.l.r) (EvS.ev (EvB.sh (XI (Xc (r:=Xa) 1 rfl (λ_ s=>s.l.l.l.l.r)) (X7 (Xc (r:=Xa) 3 rfl (λ_ s=>s.r)) (Xc (r:=Xa) 2 rfl (λ_ s=>s.l.l.l.r)))))) λa38 C39=>(Xs (J:=_) ((some v23),x32,x21.2.2.1,C39) (g33,(g20.2++[a38])) rfl rfl (λ_ s=>(SC.i (SC.i (SC.i (SC.i (SC.i SC.t s.l.l.l.l.l.l.r) s.l.l.l.l.l.r) s.l.l.l.l.r) s.l.r) s.r)))))) λg41 x42=>(XC (X9 (o:=(oL (oF Xa))) 4 0 rfl rfl (λ_ s=>s.r)))))))
theorem VQ:FnScope ["drawing","told","first","walk"] ["drawing"] (Xi CY):=⟨rfl,rfl,rfl,by decide+kernel,rfl,by decide+kernel,by decide+kernel⟩
theorem IH (D:Def K mg "arcs" CY ["drawing"])(g_arcs_of_walk:Fn P w K mg base 1 "arcs_of_walk" ["walk"] (sp1 (rV Xa) (oF Xa) XT K))(g_arcs_of_ways:Fn P w K mg base 2 "arcs_of_ways" ["walk","first"] (sp2 (rV Xa) Xa (oL (oF Xa)) YE K))(Z:Blt mg):Fn P w K mg base 3 "arcs" ["drawing"] (sp1 (rP2 (rV (rV Xa)) (rV (rP2 Xa Xa))) (oL (oL (oF Xa))) Ug K):=by
 refine Ys D VQ (λvs H Q E h=>?_) (λf cdv A outer s H vs Q E hr h=>?_)
 ·obtain⟨v_0,a_0,b,rfl,_⟩:=h;rfl
 obtain⟨v_0,a_0,b,rfl,h_0,hm,q⟩:=h
 have hu:=hu8 hr
 have hu1:=Yr hr
 refine⟨_,(Xb (Xn (i:=1) VQ.nd rfl (Or.inl rfl) (X1 Xf))
  (Xb (Xn (i:=2) VQ.nd rfl (Or.inl rfl) Xh)
  (Xb (XU PassesOwn.never rfl (XE (K:=K) rfl (XD (Yj K rfl) (pv 0) Xh (λ_ _=>rfl))) (Xm (i:=3) VQ.nd rfl (Or.inl rfl))
   (Xb (Yd (Zk PySem.F.plainAttrs_list PySem.F.slot_list_append PySem.F.type_list_append XR (pv 1) (Xd (X6 g_arcs_of_ways hr (by decide) (Xd (pv 3) (Xd (pv 2) Xf))) Xf)))
   (Xb (B0 (i:=2) VQ.nd rfl (Or.inl rfl) (X6 g_arcs_of_walk hr (by decide) (Xd (pv 3) Xf)) Hq)
   Xg)))
  (Xb (XB (pv 1))
  Xg)))),?_⟩
 refine Yt (S:=(SC.add SC.nil K (rP2 (rV (rV Xa)) (rV (rP2 Xa Xa))) v_0 a_0)) (σ:=[some v_0,none,none,none]) 1 ?_ (SC.i SC.t h_0) hm q rfl
 unfold Ug
 exact(XO (K:=K) (o:=(oL (oL (oF Xa)))) 1 0 (Z6 (o:=(oL (oF Xa)))) (Nat.le_of_ble_eq_true rfl) λa1 v2 C3=>(Xw (K:=K) (r:=Xa) 2 (EvB.sh (Xe 0)) λa4 v5=>(X5 (K:=K) (J:=({oo:=λx7=>[x7.2.2.2],ss:=λx7=>[some v_0,some x7.2.2.1,some x7.2.1,x7.1],sc:=λg8 x7=>(SC.addO (SC.add (SC.add SC.nil K (rP2 (rV (rV Xa)) (rV (rP2 Xa Xa))) v_0 a_0) K Xa x7.2.1 g8.1) K (oL (oL (oF Xa))) x7.2.2.1 g8.2 x7.2.2.2)}:Jn (Int×(List (List Int))) (Option V×V×V×List XA))) (λ_=>tg1 3) ((none),v5,v2,C3) (a4,a1) (Xv (Qd (Xj (r:=(rP2 (rV (rV Xa)) (rV (rP2 Xa Xa)))) 0 rfl (λ_ s=>s.l.l.r)))) rfl rfl (λ_ s=>(SC.i (SC.i (SC.i SC.t s.l.l.r) s.r) s.l.r)) (λg9 x10 a11 v12=>(Zb (K:=K) (o:=(oL (oF Xa))) (f:=λa18=>(Rs.bind (Rs.bind (Rs.ok a11) λx20=>(noE (XT x20))) λx21=>((λ(a23:Int)=>(Rs.ok (a23,a18))) (g9.1+x21)))) 1 0 rfl rfl rfl (λ_ s=>s.l.r) (XW (Xc (r:=(rV Xa)) 3 rfl (λ_ s=>s.r)) (Xc (r:=Xa) 2 rfl (λ_ s=>s.l.l.r))) λa16 C17=>(Hf (K:=K) (f:=λa23=>(Rs.ok (a23,(g9.2++[a16])))) 2 rfl (λ_ s=>s.l.l.l.r) (Ev.toB (Yy (Xc (r:=(rV Xa)) 3 rfl (λ_ s=>s.l.r)))) λa23 v22=>(Xs (J:=_) ((some v12),v22,x10.2.2.1,C17) (a23,(g9.2++[a16])) rfl rfl (λ_ s=>(SC.i (SC.i (SC.i SC.t s.l.l.l.l.l.r) s.r) s.l.r)))))) λg24 x25=>(XC (X9 (o:=(oL (oL (oF Xa)))) 1 0 rfl rfl (λ_ s=>s.r))))))
theorem Kk:FnScope ["drawing"] ["drawing"] (Xi Qc):=⟨rfl,rfl,rfl,by decide+kernel,rfl,by decide+kernel,by decide+kernel⟩
theorem Km (D:Def K mg "arc_count" Qc ["drawing"])(g_arcs_of_walk:Fn P w K mg base 1 "arcs_of_walk" ["walk"] (sp1 (rV Xa) (oF Xa) XT K))(Z:Blt mg):Fn P w K mg base 2 "arc_count" ["drawing"] (sp1 (rP2 (rV (rV Xa)) (rV (rP2 Xa Xa))) (oF Xa) Zm K):=by
 refine Ys D Kk (λvs H Q E h=>?_) (λf cdv A outer s H vs Q E hr h=>?_)
 ·obtain⟨v_0,a_0,b,rfl,_⟩:=h;rfl
 obtain⟨v_0,a_0,b,rfl,h_0,hm,q⟩:=h
 have hu:=hu8 hr
 have hu1:=Yr hr
 refine⟨_,(Xb (XB (Xr (DN rfl) rfl Z.b_sum PyProof.Rows.boot_sum (Xd (Zq (sc:=(Xi Qc)) (N0:=["drawing"]) (tns:=["walk"]) (caps:=[]) rfl (XE (K:=K) rfl (XD (Yj K rfl) (pv 0) Xh (λ_ _=>rfl))) (Y3 (by decide)) (λcl C s H ex E=>⟨Xm (i:=0) (show List.Nodup (["walk"]:List Str) by decide+kernel) rfl (Or.inl rfl),Zo,(X6 g_arcs_of_walk hr (by decide) (Xd (pv 0) Xf))⟩)) Xf)))
  Xg),?_⟩
 refine Yt (S:=(SC.add SC.nil K (rP2 (rV (rV Xa)) (rV (rP2 Xa Xa))) v_0 a_0)) (σ:=[some v_0]) 0 ?_ (SC.i SC.t h_0) hm q rfl
 unfold Zm
 exact(XC (EvS.ev (EvB.sh (IR (Ev.toB (Zn (λ_=>tg1 0) (Xv (Qd (Xj (r:=(rP2 (rV (rV Xa)) (rV (rP2 Xa Xa)))) 0 rfl (λ_ s=>s.r)))) (λC3 a4 v5=>(Yy (Xc (r:=(rV Xa)) 0 rfl (λ_ s=>s.r))))))))))
theorem Y9:FnScope ["drawing","numbers","told","crossing","sign","above","below","over","ways","inward","outward"] ["drawing"] (Xi Ge):=⟨rfl,rfl,rfl,by decide+kernel,rfl,by decide+kernel,by decide+kernel⟩
theorem EY (D:Def K mg "meets" Ge ["drawing"])(g_arcs:Fn P w K mg base 3 "arcs" ["drawing"] (sp1 (rP2 (rV (rV Xa)) (rV (rP2 Xa Xa))) (oL (oL (oF Xa))) Ug K))(g_spot:Fn P w K mg base 1 "spot" ["drawing","passage"] (sp2 (rP2 (rV (rV Xa)) (rV (rP2 Xa Xa))) Xa (oF (rP2 Xa Xa)) VR K))(Z:Blt mg):Fn P w K mg base 4 "meets" ["drawing"] (sp1 (rP2 (rV (rV Xa)) (rV (rP2 Xa Xa))) (oL (oF (rP5 Xa Xa Xa Xa Xa))) Qj K):=by
 refine Ys D Y9 (λvs H Q E h=>?_) (λf cdv A outer s H vs Q E hr h=>?_)
 ·obtain⟨v_0,a_0,b,rfl,_⟩:=h;rfl
 obtain⟨v_0,a_0,b,rfl,h_0,hm,q⟩:=h
 have hu:=hu8 hr
 have hu1:=Yr hr
 refine⟨_,(Xb (Xn (i:=1) Y9.nd rfl (Or.inl rfl) (X6 g_arcs hr (by decide) (Xd (pv 0) Xf)))
  (Xb (Xn (i:=2) Y9.nd rfl (Or.inl rfl) (X1 Xf))
  (Xb (XU PassesOwn.never rfl (XE (K:=K) rfl (XD (Yj K rfl) (pv 0) Xh (λ_ _=>rfl))) (Qo rfl (XH (Xm (i:=3) Y9.nd rfl (Or.inl rfl)) (XH (Xm (i:=4) Y9.nd rfl (Or.inl rfl)) Zv)))
   (Xb (Xn (i:=5) Y9.nd rfl (Or.inl rfl) (X6 g_spot hr (by decide) (Xd (pv 0) (Xd (pv 3) Xf))))
   (Xb (Xn (i:=6) Y9.nd rfl (Or.inl rfl) (X6 g_spot hr (by decide) (Xd (pv 0) (Xd (V1 QL (pv 3)) Xf))))
   (Xb (Xn (i:=7) Y9.nd rfl (Or.inl rfl) (XD (Xk K rfl) (XD (Xk K rfl) (pv 1) (XD (Yj K rfl) (pv 5) Xh (λ_ _=>rfl)) (λ_ _=>rfl)) (XD (Yj K rfl) (pv 5) Xh (λ_ _=>rfl)) (λ_ _=>rfl)))
   (Xb (Xn (i:=8) Y9.nd rfl (Or.inl rfl) (XD (Xk K rfl) (pv 1) (XD (Yj K rfl) (pv 6) Xh (λ_ _=>rfl)) (λ_ _=>rfl)))
   (Xb (Xn (i:=9) Y9.nd rfl (Or.inl rfl) (XD (Xk K rfl) (pv 8) (XD (Yj K rfl) (pv 6) Xh (λ_ _=>rfl)) (λ_ _=>rfl)))
   (Xb (Xn (i:=10) Y9.nd rfl (Or.inl rfl) (XD (Xk K rfl) (pv 8) (Xq Yv (Xq XZ (XD (Yj K rfl) (pv 6) Xh (λ_ _=>rfl)) Xh) (Xr (Xo K rfl) rfl Z.b_len PySem.boot_len (Xd (pv 8) Xf))) (λ_ _=>rfl)))
   (Xb (Yd (Zk PySem.F.plainAttrs_list PySem.F.slot_list_append PySem.F.type_list_append XR (pv 2) (Xd (ZE (Xd (pv 3) (Xd (pv 4) (Xd (pv 7) (Xd (pv 9) (Xd (pv 10) Xf)))))) Xf)))
   Xg))))))))
  (Xb (XB (pv 2))
  Xg)))),?_⟩
 refine Yt (S:=(SC.add SC.nil K (rP2 (rV (rV Xa)) (rV (rP2 Xa Xa))) v_0 a_0)) (σ:=[some v_0,none,none,none,none,none,none,none,none,none,none]) 1 ?_ (SC.i SC.t h_0) hm q rfl
 unfold Qj
 exact(Xw (K:=K) (r:=(rV (rV Xa))) 1 (Ev.sh (Yy (Xc (r:=(rP2 (rV (rV Xa)) (rV (rP2 Xa Xa)))) 0 rfl (λ_ s=>s.r)))) λa1 v2=>(XO (K:=K) (o:=(oL (oF (rP5 Xa Xa Xa Xa Xa)))) 2 0 (Z6 (o:=(oF (rP5 Xa Xa Xa Xa Xa)))) (Nat.le_of_ble_eq_true rfl) λa5 v6 C7=>(X5 (K:=K) (J:=({oo:=λx9=>[x9.2.2.2.2.2.2.2.2.2],ss:=λx9=>[some v_0,some v2,some x9.2.2.2.2.2.2.2.2.1,x9.1,x9.2.1,x9.2.2.1,x9.2.2.2.1,x9.2.2.2.2.1,x9.2.2.2.2.2.1,x9.2.2.2.2.2.2.1,x9.2.2.2.2.2.2.2.1],sc:=λg10 x9=>(SC.addO (SC.add (SC.add SC.nil K (rP2 (rV (rV Xa)) (rV (rP2 Xa Xa))) v_0 a_0) K (rV (rV Xa)) v2 a1) K (oL (oF (rP5 Xa Xa Xa Xa Xa))) x9.2.2.2.2.2.2.2.2.1 g10 x9.2.2.2.2.2.2.2.2.2)}:Jn ((List (Int×Int×Int×Int×Int))) (Option V×Option V×Option V×Option V×Option V×Option V×Option V×Option V×V×List XA))) (λ_=>tg2 3 4) ((none),(none),(none),(none),(none),(none),(none),(none),v6,C7) (a5) (Xv (UX (Xj (r:=(rP2 (rV (rV Xa)) (rV (rP2 Xa Xa)))) 0 rfl (λ_ s=>s.l.l.r)))) rfl rfl (λ_ s=>(SC.i (SC.i (SC.i SC.t s.l.l.r) s.l.r) s.r)) (λg11 x12 a13 v14=>(Xw (K:=K) (r:=(rP2 Xa Xa)) 5 (EvB.sh (Ev.toB (XW (Xc (r:=(rP2 (rV (rV Xa)) (rV (rP2 Xa Xa)))) 0 rfl (λ_ s=>s.l.l.l.l.r)) (Xc (r:=Xa) 3 rfl (λ_ s=>s.l.r))))) λa15 v16=>(Xw (K:=K) (r:=(rP2 Xa Xa)) 6 (EvB.sh (Ev.toB (XW (Xc (r:=(rP2 (rV (rV Xa)) (rV (rP2 Xa Xa)))) 0 rfl (λ_ s=>s.l.l.l.l.l.r)) (ZS (Xc (r:=Xa) 3 rfl (λ_ s=>s.l.l.r)))))) λa20 v21=>(Xw (K:=K) (r:=Xa) 7 (EvB.sh (Xz (Xz (Xc (r:=(rV (rV Xa))) 1 rfl (λ_ s=>s.l.l.l.l.l.r)) (Bz (Xc (r:=(rP2 Xa Xa)) 5 rfl (λ_ s=>s.l.r)))) (Q4 (Xc (r:=(rP2 Xa Xa)) 5 rfl (λ_ s=>s.l.r))))) λa26 v27=>(Xw (K:=K) (r:=(rV Xa)) 8 (Mi (EvS.ls (Xj (r:=(rV (rV Xa))) 1 rfl (λ_ s=>s.l.l.l.l.l.l.r))) (Bz (Xc (r:=(rP2 Xa Xa)) 6 rfl (λ_ s=>s.l.r)))) λa34 v35=>(Xw (K:=K) (r:=Xa) 9 (EvB.sh (Xz (Xc (r:=(rV Xa)) 8 rfl (λ_ s=>s.r)) (Q4 (Xc (r:=(rP2 Xa Xa)) 6 rfl (λ_ s=>s.l.l.r))))) λa39 v40=>(Xw (K:=K) (r:=Xa) 10 (EvB.sh (Xz (Xc (r:=(rV Xa)) 8 rfl (λ_ s=>s.l.r)) (X7 (XI (Q4 (Xc (r:=(rP2 Xa Xa)) 6 rfl (λ_ s=>s.l.l.l.r))) (Xe 1)) (X4 (Xc (r:=(rV Xa)) 8 rfl (λ_ s=>s.l.r)))))) λa44 v45=>(Zb (K:=K) (o:=(oF (rP5 Xa Xa Xa Xa Xa))) (f:=λa61=>(Rs.ok (a61))) 2 0 rfl rfl rfl (λ_ s=>s.l.l.l.l.l.l.l.l.r) (EvS.ev (Fw (Xj (r:=Xa) 3 rfl (λ_ s=>s.l.l.l.l.l.l.l.r)) (Xj (r:=Xa) 4 rfl (λ_ s=>s.l.l.l.l.l.l.r)) (Xj (r:=Xa) 7 rfl (λ_ s=>s.l.l.l.r)) (Xj (r:=Xa) 9 rfl (λ_ s=>s.l.r)) (Xj (r:=Xa) 10 rfl (λ_ s=>s.r)))) λa59 C60=>(Xs (J:=_) ((some v14.1),(some v14.2),(some v16),(some v21),(some v27),(some v35),(some v40),(some v45),x12.2.2.2.2.2.2.2.2.1,C60) ((g11++[a59])) rfl rfl (λ_ s=>(SC.i (SC.i (SC.i SC.t s.l.l.l.l.l.l.l.l.l.l.l.r) s.l.l.l.l.l.l.l.l.l.l.r) s.r))))))))))) λg62 x63=>(XC (X9 (o:=(oL (oF (rP5 Xa Xa Xa Xa Xa)))) 2 0 rfl rfl (λ_ s=>s.r))))))
theorem Q1:FnScope ["drawing","told","crossing","sign","over","inward","outward"] ["drawing"] (Xi CV):=⟨rfl,rfl,rfl,by decide+kernel,rfl,by decide+kernel,by decide+kernel⟩
theorem HJ (D:Def K mg "ties" CV ["drawing"])(g_meets:Fn P w K mg base 4 "meets" ["drawing"] (sp1 (rP2 (rV (rV Xa)) (rV (rP2 Xa Xa))) (oL (oF (rP5 Xa Xa Xa Xa Xa))) Qj K))(Z:Blt mg):Fn P w K mg base 5 "ties" ["drawing"] (sp1 (rP2 (rV (rV Xa)) (rV (rP2 Xa Xa))) (oL (oF (rP3 Xa Xa Xa))) Uh K):=by
 refine Ys D Q1 (λvs H Q E h=>?_) (λf cdv A outer s H vs Q E hr h=>?_)
 ·obtain⟨v_0,a_0,b,rfl,_⟩:=h;rfl
 obtain⟨v_0,a_0,b,rfl,h_0,hm,q⟩:=h
 have hu:=hu8 hr
 have hu1:=Yr hr
 refine⟨_,(Xb (Xn (i:=1) Q1.nd rfl (Or.inl rfl) (X1 Xf))
  (Xb (XU PassesOwn.never rfl (XE (K:=K) rfl (X6 g_meets hr (by decide) (Xd (pv 0) Xf))) (Qo rfl (XH (Xm (i:=2) Q1.nd rfl (Or.inl rfl)) (XH (Xm (i:=3) Q1.nd rfl (Or.inl rfl)) (XH (Xm (i:=4) Q1.nd rfl (Or.inl rfl)) (XH (Xm (i:=5) Q1.nd rfl (Or.inl rfl)) (XH (Xm (i:=6) Q1.nd rfl (Or.inl rfl)) Zv))))))
   (Xb (Yd (Zk PySem.F.plainAttrs_list PySem.F.slot_list_append PySem.F.type_list_append XR (pv 1) (Xd (Hc (Xx Qi (pv 3) Xh (XN _)) (ZE (Xd (pv 5) (Xd (pv 4) (Xd (pv 6) Xf)))) (ZE (Xd (pv 6) (Xd (pv 4) (Xd (pv 5) Xf))))) Xf)))
   Xg))
  (Xb (XB (pv 1))
  Xg))),?_⟩
 refine Yt (S:=(SC.add SC.nil K (rP2 (rV (rV Xa)) (rV (rP2 Xa Xa))) v_0 a_0)) (σ:=[some v_0,none,none,none,none,none,none]) 1 ?_ (SC.i SC.t h_0) hm q rfl
 unfold Uh
 exact(XO (K:=K) (o:=(oL (oF (rP3 Xa Xa Xa)))) 1 0 (Z6 (o:=(oF (rP3 Xa Xa Xa)))) (Nat.le_of_ble_eq_true rfl) λa1 v2 C3=>(X5 (K:=K) (J:=({oo:=λx6=>[x6.2.2.2.2.2.2],ss:=λx6=>[some v_0,some x6.2.2.2.2.2.1,x6.1,x6.2.1,x6.2.2.1,x6.2.2.2.1,x6.2.2.2.2.1],sc:=λg7 x6=>(SC.addO (SC.add SC.nil K (rP2 (rV (rV Xa)) (rV (rP2 Xa Xa))) v_0 a_0) K (oL (oF (rP3 Xa Xa Xa))) x6.2.2.2.2.2.1 g7 x6.2.2.2.2.2.2)}:Jn ((List (Int×Int×Int))) (Option V×Option V×Option V×Option V×Option V×V×List XA))) (λ_=>tg5 2 3 4 5 6) ((none),(none),(none),(none),(none),v2,C3) (a1) (Xv (Ev.sh (Yy (Xc (r:=(rP2 (rV (rV Xa)) (rV (rP2 Xa Xa)))) 0 rfl (λ_ s=>s.l.r))))) rfl rfl (λ_ s=>(SC.i (SC.i SC.t s.l.r) s.r)) (λg8 x9 a10 v11=>(Zb (K:=K) (o:=(oF (rP3 Xa Xa Xa))) (f:=λa23=>(Rs.ok (a23))) 1 0 rfl rfl rfl (λ_ s=>s.l.l.l.l.l.r) (MS (Xp (K:=K) (Ze (Xc (r:=Xa) 3 rfl (λ_ s=>s.l.l.l.r)) (Xe 1))) (EvS.ev (Fj (Xj (r:=Xa) 5 rfl (λ_ s=>s.l.r)) (Xj (r:=Xa) 4 rfl (λ_ s=>s.l.l.r)) (Xj (r:=Xa) 6 rfl (λ_ s=>s.r)))) (EvS.ev (Fj (Xj (r:=Xa) 6 rfl (λ_ s=>s.r)) (Xj (r:=Xa) 4 rfl (λ_ s=>s.l.l.r)) (Xj (r:=Xa) 5 rfl (λ_ s=>s.l.r))))) λa21 C22=>(Xs (J:=_) ((some v11.1),(some v11.2.1),(some v11.2.2.1),(some v11.2.2.2.1),(some v11.2.2.2.2),x9.2.2.2.2.2.1,C22) ((g8++[a21])) rfl rfl (λ_ s=>(SC.i (SC.i SC.t s.l.l.l.l.l.l.l.r) s.r))))) λg24 x25=>(XC (X9 (o:=(oL (oF (rP3 Xa Xa Xa)))) 1 0 rfl rfl (λ_ s=>s.r)))))
theorem Gk:FnScope ["table","colours","asked"] ["table","colours","asked"] (Xi QD):=⟨rfl,rfl,rfl,by decide+kernel,rfl,by decide+kernel,by decide+kernel⟩
theorem GQ (D:Def K mg "all_held" QD ["table","colours","asked"])(Z:Blt mg):Fn P w K mg base 1 "all_held" ["table","colours","asked"] (sp3 (rV (rV Xa)) (rV Xa) (rV (rP3 Xa Xa Xa)) (oF Yb) ZB K):=by
 refine Ys D Gk (λvs H Q E h=>?_) (λf cdv A outer s H vs Q E hr h=>?_)
 ·obtain⟨v_0,v_1,v_2,a_0,a_1,a_2,b,rfl,_⟩:=h;rfl
 obtain⟨v_0,v_1,v_2,a_0,a_1,a_2,b,rfl,h_0,h_1,h_2,hm,q⟩:=h
 have hu:=hu8 hr
 have hu1:=Yr hr
 refine⟨_,(Xb (XB (Xr (CQ rfl) rfl Z.b_all PyProof.Rows.boot_all (Xd (Zq (sc:=(Xi QD)) (N0:=["table","colours","asked"]) (tns:=["start","over","end"]) (caps:=[(0,"table"),(1,"colours")]) rfl (XE (K:=K) rfl (pv 2)) (Ix (by decide) (by decide) (by decide)) (λcl C s H ex E=>⟨CA K rfl rfl (XH (Xm (i:=0) (show List.Nodup (["start","over","end","table","colours"]:List Str) by decide+kernel) rfl (Or.inl rfl)) (XH (Xm (i:=1) (show List.Nodup (["start","over","end","table","colours"]:List Str) by decide+kernel) rfl (Or.inl rfl)) (XH (Xm (i:=2) (show List.Nodup (["start","over","end","table","colours"]:List Str) by decide+kernel) rfl (Or.inl rfl)) Zv))),Zo,(BC Qi (XD (Xk K rfl) (XD (Xk K rfl) (pv 3) (XD (Xk K rfl) (pv 4) (pv 0) (λ_ _=>rfl)) (λ_ _=>rfl)) (XD (Xk K rfl) (pv 4) (pv 1) (λ_ _=>rfl)) (λ_ _=>rfl)) (XD (Xk K rfl) (pv 4) (pv 2) (λ_ _=>rfl)) (XN _))⟩)) Xf)))
  Xg),?_⟩
 refine Yt (S:=(SC.add (SC.add (SC.add SC.nil K (rV (rV Xa)) v_0 a_0) K (rV Xa) v_1 a_1) K (rV (rP3 Xa Xa Xa)) v_2 a_2)) (σ:=[some v_0,some v_1,some v_2]) 0 ?_ (SC.i (SC.i (SC.i SC.t h_0) h_1) h_2) hm q rfl
 unfold ZB
 exact(XC (EvS.ev (EvB.sh (IK (Ev.toB (Zn (λ_=>tg3 0 1 2) (Xv (Xj (r:=(rV (rP3 Xa Xa Xa))) 2 rfl (λ_ s=>s.r))) (λC2 a3 v4=>(EvS.ev (EvB.sh (Ze (Xz (Xz (Xc (r:=(rV (rV Xa))) 3 rfl (λ_ s=>s.l.l.l.l.l.r)) (Xz (Xc (r:=(rV Xa)) 4 rfl (λ_ s=>s.l.l.l.l.r)) (Xc (r:=Xa) 0 rfl (λ_ s=>s.l.l.r)))) (Xz (Xc (r:=(rV Xa)) 4 rfl (λ_ s=>s.l.l.l.l.r)) (Xc (r:=Xa) 1 rfl (λ_ s=>s.l.r)))) (Xz (Xc (r:=(rV Xa)) 4 rfl (λ_ s=>s.l.l.l.l.r)) (Xc (r:=Xa) 2 rfl (λ_ s=>s.r)))))))))))))
theorem YL:FnScope ["size","count","lists","arc"] ["size","count"] (Xi Zg):=⟨rfl,rfl,rfl,by decide+kernel,rfl,by decide+kernel,by decide+kernel⟩
theorem Jj (D:Def K mg "refuse_too_much" Zg ["size","count"])(Z:Blt mg):Fn P w K mg base 1 "refuse_too_much" ["size","count"] (sp2 Xa Xa oU Yf K):=by
 refine Ys D YL (λvs H Q E h=>?_) (λf cdv A outer s H vs Q E hr h=>?_)
 ·obtain⟨v_0,v_1,a_0,a_1,b,rfl,_⟩:=h;rfl
 obtain⟨v_0,v_1,a_0,a_1,b,rfl,h_0,h_1,hm,q⟩:=h
 have hu:=hu8 hr
 have hu1:=Yr hr
 refine⟨_,(Xb (Xn (i:=2) YL.nd rfl (Or.inl rfl) Xh)
  (Xb (XU PassesOwn.never rfl (XQ rfl Z.b_range (Xd (pv 1) Xf)) (Xm (i:=3) YL.nd rfl (Or.inl rfl))
   (Xb (B0 (i:=2) YL.nd rfl (Or.inl rfl) (pv 0) LF)
   Xg))
  (Xb (YT (Xx FW (pv 2) (Lz Z.c_MOST_LISTS rfl) (XN _))
   (Xb G4
   Xg)
   Xg)
  Xg))),?_⟩
 refine MO (J:=({oo:=λx3=>[],ss:=λx3=>[some v_0,some v_1,x3.1,x3.2],sc:=λg4 x3=>(SC.add (SC.add SC.nil K Xa v_0 a_0) K Xa v_1 a_1)}:Jn (Unit) (Option V×Option V))) (K:=K) (S:=(SC.add (SC.add SC.nil K Xa v_0 a_0) K Xa v_1 a_1)) (σ:=[some v_0,some v_1,none,none]) 0 ?_ (SC.i (SC.i SC.t h_0) h_1) hm q (λ_ _=>rfl)
 unfold Yf
 exact(Xw (K:=K) (r:=Xa) 2 (EvB.sh (Xe 1)) λa5 v6=>(X5 (K:=K) (J:=({oo:=λx8=>[],ss:=λx8=>[some v_0,some v_1,some x8.2,x8.1],sc:=λg9 x8=>(SC.add (SC.add (SC.add SC.nil K Xa v_0 a_0) K Xa v_1 a_1) K Xa x8.2 g9)}:Jn (Int) (Option V×V))) (λ_=>tg1 3) ((none),v6) (a5) (Xy (Xc (r:=Xa) 1 rfl (λ_ s=>s.l.r))) rfl rfl (λ_ s=>(SC.i (SC.i (SC.i SC.t s.l.l.r) s.l.r) s.r)) (λg10 x11 a12 v13=>(IU (K:=K) 2 rfl (λ_ s=>s.l.r) (Xc (r:=Xa) 0 rfl (λ_ s=>s.l.l.l.r)) λa16 v15=>(Xs (J:=_) ((some v13),v15) (a16) rfl rfl (λ_ s=>(SC.i (SC.i (SC.i SC.t s.l.l.l.l.r) s.l.l.l.r) s.r))))) λg17 x18=>(LL (Xp (K:=K) (Ud (Xc (r:=Xa) 2 rfl (λ_ s=>s.r)) (Xe 65536))) (Xs (J:=_) ((some x18.2),(x18.1)) () rfl rfl (λ_ s=>(SC.i (SC.i SC.t s.l.l.r) s.l.r))))))
theorem YD:FnScope ["lists","table","asked","longer","ahead","colour","tried"] ["lists","table","asked"] (Xi ZJ):=⟨rfl,rfl,rfl,by decide+kernel,rfl,by decide+kernel,by decide+kernel⟩
theorem JT (D:Def K mg "longer_by_arc" ZJ ["lists","table","asked"])(g_all_held:Fn P w K mg base 1 "all_held" ["table","colours","asked"] (sp3 (rV (rV Xa)) (rV Xa) (rV (rP3 Xa Xa Xa)) (oF Yb) ZB K))(Z:Blt mg):Fn P w K mg base 2 "longer_by_arc" ["lists","table","asked"] (sp3 (rV (rV Xa)) (rV (rV Xa)) (rV (rP3 Xa Xa Xa)) (oL (oL (oF Xa))) Yq K):=by
 refine Ys D YD (λvs H Q E h=>?_) (λf cdv A outer s H vs Q E hr h=>?_)
 ·obtain⟨v_0,v_1,v_2,a_0,a_1,a_2,b,rfl,_⟩:=h;rfl
 obtain⟨v_0,v_1,v_2,a_0,a_1,a_2,b,rfl,h_0,h_1,h_2,hm,q⟩:=h
 have hu:=hu8 hr
 have hu1:=Yr hr
 refine⟨_,(Xb (Xn (i:=3) YD.nd rfl (Or.inl rfl) (X1 Xf))
  (Xb (XU PassesOwn.never rfl (XE (K:=K) rfl (pv 0)) (Xm (i:=4) YD.nd rfl (Or.inl rfl))
   (Xb (XU PassesOwn.never rfl (XQ rfl Z.b_range (Xd (Xr (Xo K rfl) rfl Z.b_len PySem.boot_len (Xd (pv 1) Xf)) Xf)) (Xm (i:=5) YD.nd rfl (Or.inl rfl))
    (Xb (Xn (i:=6) YD.nd rfl (Or.inl rfl) (Xq Uc (pv 4) (X1 (Xd (pv 5) Xf))))
    (Xb (YT (QM (X6 g_all_held hr (by decide) (Xd (pv 1) (Xd (pv 6) (Xd (pv 2) Xf)))))
     (Xb (Yd (Zk PySem.F.plainAttrs_list PySem.F.slot_list_append PySem.F.type_list_append XR (pv 3) (Xd (pv 6) Xf)))
     Xg)
     Xg)
    Xg)))
   Xg))
  (Xb (XB (pv 3))
  Xg))),?_⟩
 refine Yt (S:=(SC.add (SC.add (SC.add SC.nil K (rV (rV Xa)) v_0 a_0) K (rV (rV Xa)) v_1 a_1) K (rV (rP3 Xa Xa Xa)) v_2 a_2)) (σ:=[some v_0,some v_1,some v_2,none,none,none,none]) 2 ?_ (SC.i (SC.i (SC.i SC.t h_0) h_1) h_2) hm q rfl
 unfold Yq
 exact(XO (K:=K) (o:=(oL (oL (oF Xa)))) 3 0 (Z6 (o:=(oL (oF Xa)))) (Nat.le_of_ble_eq_true rfl) λa1 v2 C3=>(X5 (K:=K) (J:=({oo:=λx4=>[x4.2.2.2.2,[]],ss:=λx4=>[some v_0,some v_1,some v_2,some x4.2.2.2.1,x4.1,x4.2.1,x4.2.2.1],sc:=λg5 x4=>(SC.addO (SC.add (SC.add (SC.add SC.nil K (rV (rV Xa)) v_0 a_0) K (rV (rV Xa)) v_1 a_1) K (rV (rP3 Xa Xa Xa)) v_2 a_2) K (oL (oL (oF Xa))) x4.2.2.2.1 g5 x4.2.2.2.2)}:Jn ((List (List Int))) (Option V×Option V×Option V×V×List XA))) (λ_=>tg1 4) ((none),(none),(none),v2,C3) (a1) (Xv (Xj (r:=(rV (rV Xa))) 0 rfl (λ_ s=>s.l.l.l.r))) rfl rfl (λ_ s=>(SC.i (SC.i (SC.i (SC.i SC.t s.l.l.l.r) s.l.l.r) s.l.r) s.r)) (λg6 x7 a8 v9=>(X5 (K:=K) (J:=({oo:=λx12=>[x12.2.2.2,[]],ss:=λx12=>[some v_0,some v_1,some v_2,some x12.2.2.1,some v9,x12.1,x12.2.1],sc:=λg13 x12=>(SC.addO (SC.add (SC.add (SC.add (SC.add SC.nil K (rV (rV Xa)) v_0 a_0) K (rV (rV Xa)) v_1 a_1) K (rV (rP3 Xa Xa Xa)) v_2 a_2) K (rV Xa) v9 a8) K (oL (oL (oF Xa))) x12.2.2.1 g13 x12.2.2.2)}:Jn ((List (List Int))) (Option V×Option V×V×List XA))) (λ_=>tg1 5) ((x7.2.1),(x7.2.2.1),x7.2.2.2.1,x7.2.2.2.2) (g6) (Xy (X4 (Xc (r:=(rV (rV Xa))) 1 rfl (λ_ s=>s.l.l.l.r)))) rfl rfl (λ_ s=>(SC.i (SC.i (SC.i (SC.i (SC.i SC.t s.l.l.l.l.r) s.l.l.l.r) s.l.l.r) s.r) s.l.r)) (λg14 x15 a16 v17=>(XO (K:=K) (o:=(oL (oF Xa))) 6 1 (Uj (EvS.ls (Xj (r:=(rV Xa)) 4 rfl (λ_ s=>s.l.l.r))) (Ev.ls (Zx (Xu (Xj (r:=Xa) 5 rfl (λ_ s=>s.r)) YY)))) (Nat.le_of_ble_eq_true rfl) λa18 v19 C20=>(Y7 (J:=({oo:=λx31=>[x31.2.2,[]],ss:=λx31=>[some v_0,some v_1,some v_2,some x31.1,some v9,some v17,x31.2.1],sc:=λg32 x31=>(SC.addO (SC.add (SC.add (SC.add (SC.add (SC.add SC.nil K (rV (rV Xa)) v_0 a_0) K (rV (rV Xa)) v_1 a_1) K (rV (rP3 Xa Xa Xa)) v_2 a_2) K (rV Xa) v9 a8) K Xa v17 a16) K (oL (oL (oF Xa))) x31.1 g32 x31.2.2)}:Jn ((List (List Int))) (V×Option V×List XA))) (ZP (Fd:=FNd ({oo:=λx31=>[x31.2.2,[]],ss:=λx31=>[some v_0,some v_1,some v_2,some x31.1,some v9,some v17,x31.2.1],sc:=λg32 x31=>(SC.addO (SC.add (SC.add (SC.add (SC.add (SC.add SC.nil K (rV (rV Xa)) v_0 a_0) K (rV (rV Xa)) v_1 a_1) K (rV (rP3 Xa Xa Xa)) v_2 a_2) K (rV Xa) v9 a8) K Xa v17 a16) K (oL (oL (oF Xa))) x31.1 g32 x31.2.2)}:Jn ((List (List Int))) (V×Option V×List XA))) (VV (K:=K) (Ev.toB (YV (Xc (r:=(rV (rV Xa))) 1 rfl (λ_ s=>s.l.l.l.l.l.r)) (Zd (o:=(oL (oF Xa))) 6 1 rfl rfl (λ_ s=>s.r)) (Xc (r:=(rV (rP3 Xa Xa Xa))) 2 rfl (λ_ s=>s.l.l.l.l.r))))) (Zb (K:=K) (o:=(oL (oF Xa))) (f:=λa35=>(Rs.ok (a35))) 3 0 rfl rfl rfl (λ_ s=>s.l.l.r) (X9 (o:=(oL (oF Xa))) 6 1 rfl rfl (λ_ s=>s.r)) λa33 C34=>(Xs (J:=_) (x15.2.2.1,(some v19),C34) ((g14++[a33])) rfl rfl (λ_ s=>(SC.i (SC.i (SC.i (SC.i (SC.i (SC.i SC.t s.l.l.l.l.l.l.l.r) s.l.l.l.l.l.l.r) s.l.l.l.l.l.r) s.l.l.l.l.r) s.l.l.r) s.r)))) (HQ 1 (Xs (J:=_) (x15.2.2.1,(some v19),x15.2.2.2) (g14) rfl rfl (λ_ s=>(SC.i (SC.i (SC.i (SC.i (SC.i (SC.i SC.t s.l.l.l.l.l.l.r) s.l.l.l.l.l.r) s.l.l.l.l.r) s.l.l.l.r) s.l.r) s.l.l.r))))) λg37 x36=>(Xs (J:=_) ((some v17),(x36.2.1),x36.1,x36.2.2) (g37) rfl rfl (λ_ s=>(SC.i (SC.i (SC.i (SC.i (SC.i SC.t s.l.l.l.l.l.r) s.l.l.l.l.r) s.l.l.l.r) s.l.l.r) s.r)))))) λg38 x39=>(Xs (J:=_) ((some v9),(x39.1),(x39.2.1),x39.2.2.1,x39.2.2.2) (g38) rfl rfl (λ_ s=>(SC.i (SC.i (SC.i (SC.i SC.t s.l.l.l.l.r) s.l.l.l.r) s.l.l.r) s.r))))) λg41 x42=>(XC (X9 (o:=(oL (oL (oF Xa)))) 3 0 rfl rfl (λ_ s=>s.r)))))
theorem YW:FnScope ["drawing","table","count","asked","told","arc"] ["drawing","table"] (Xi ZQ):=⟨rfl,rfl,rfl,by decide+kernel,rfl,by decide+kernel,by decide+kernel⟩
theorem UG (D:Def K mg "colourings" ZQ ["drawing","table"])(g_arc_count:Fn P w K mg base 2 "arc_count" ["drawing"] (sp1 (rP2 (rV (rV Xa)) (rV (rP2 Xa Xa))) (oF Xa) Zm K))(g_refuse_too_much:Fn P w K mg base 1 "refuse_too_much" ["size","count"] (sp2 Xa Xa oU Yf K))(g_ties:Fn P w K mg base 5 "ties" ["drawing"] (sp1 (rP2 (rV (rV Xa)) (rV (rP2 Xa Xa))) (oL (oF (rP3 Xa Xa Xa))) Uh K))(g_longer_by_arc:Fn P w K mg base 2 "longer_by_arc" ["lists","table","asked"] (sp3 (rV (rV Xa)) (rV (rV Xa)) (rV (rP3 Xa Xa Xa)) (oL (oL (oF Xa))) Yq K))(Z:Blt mg):Fn P w K mg base 6 "colourings" ["drawing","table"] (sp2 (rP2 (rV (rV Xa)) (rV (rP2 Xa Xa))) (rV (rV Xa)) (oL (oL (oF Xa))) X8 K):=by
 refine Ys D YW (λvs H Q E h=>?_) (λf cdv A outer s H vs Q E hr h=>?_)
 ·obtain⟨v_0,v_1,a_0,a_1,b,rfl,_⟩:=h;rfl
 obtain⟨v_0,v_1,a_0,a_1,b,rfl,h_0,h_1,hm,q⟩:=h
 have hu:=hu8 hr
 have hu1:=Yr hr
 refine⟨_,(Xb (Xn (i:=2) YW.nd rfl (Or.inl rfl) (X6 g_arc_count hr (by decide) (Xd (pv 0) Xf)))
  (Xb (Yd (X6 g_refuse_too_much hr (by decide) (Xd (Xr (Xo K rfl) rfl Z.b_len PySem.boot_len (Xd (pv 1) Xf)) (Xd (pv 2) Xf))))
  (Xb (Xn (i:=3) YW.nd rfl (Or.inl rfl) (X6 g_ties hr (by decide) (Xd (pv 0) Xf)))
  (Xb (Xn (i:=4) YW.nd rfl (Or.inl rfl) (X1 (Xd (X1 Xf) Xf Q9)))
  (Xb (XU PassesOwn.never rfl (XQ rfl Z.b_range (Xd (pv 2) Xf)) (Xm (i:=5) YW.nd rfl (Or.inr rfl))
   (Xb (Xn (i:=4) YW.nd rfl (Or.inl rfl) (X6 g_longer_by_arc hr (by decide) (Xd (pv 4) (Xd (pv 1) (Xd (Zq (sc:=(Xi ZQ)) (N0:=["drawing","table","count","asked","told","arc"]) (tns:=["tie"]) (caps:=[(5,"arc")]) rfl (XE (K:=K) rfl (pv 3)) (Y3 (by decide)) (λcl C s H ex E=>⟨Xm (i:=0) (show List.Nodup (["tie","arc"]:List Str) by decide+kernel) rfl (Or.inl rfl),(Uy (Xx Qi (Xr (KD K rfl rfl) rfl Z.b_max PyProof.Rows.boot_max (Xd (pv 0) Xf)) (pv 1) (XN _))),(pv 0)⟩)) Xf)))))
   Xg))
  (Xb (XB (pv 4))
  Xg)))))),?_⟩
 refine Yt (S:=(SC.add (SC.add SC.nil K (rP2 (rV (rV Xa)) (rV (rP2 Xa Xa))) v_0 a_0) K (rV (rV Xa)) v_1 a_1)) (σ:=[some v_0,some v_1,none,none,none,none]) 1 ?_ (SC.i (SC.i SC.t h_0) h_1) hm q rfl
 unfold X8
 exact(Xw (K:=K) (r:=Xa) 2 (EvB.sh (Ev.toB (Yy (Xc (r:=(rP2 (rV (rV Xa)) (rV (rP2 Xa Xa)))) 0 rfl (λ_ s=>s.l.r))))) λa1 v2=>(HF (Ev.toB (XW (X4 (Xc (r:=(rV (rV Xa))) 1 rfl (λ_ s=>s.l.r))) (Xc (r:=Xa) 2 rfl (λ_ s=>s.r)))) (Xw (K:=K) (r:=(rV (rP3 Xa Xa Xa))) 3 (Ev.sh (Yy (Xc (r:=(rP2 (rV (rV Xa)) (rV (rP2 Xa Xa)))) 0 rfl (λ_ s=>s.l.l.r)))) λa10 v11=>(XO (K:=K) (o:=(oL (oL (oF Xa)))) 4 0 (Gj (Z3 (Z6 (o:=(oF Xa))) λ_=>U0)) (Nat.le_of_ble_eq_true rfl) λa14 v15 C16=>(X5 (K:=K) (J:=({oo:=λx21=>[x21.2.2],ss:=λx21=>[some v_0,some v_1,some v2,some v11,some x21.2.1,x21.1],sc:=λg22 x21=>(SC.addO (SC.add (SC.add (SC.add (SC.add SC.nil K (rP2 (rV (rV Xa)) (rV (rP2 Xa Xa))) v_0 a_0) K (rV (rV Xa)) v_1 a_1) K Xa v2 a1) K (rV (rP3 Xa Xa Xa)) v11 a10) K (oL (oL (oF Xa))) x21.2.1 g22 x21.2.2)}:Jn ((List (List Int))) (Option V×V×List XA))) (λ_=>tg1 5) ((none),v15,C16) (a14) (Xy (Xc (r:=Xa) 2 rfl (λ_ s=>s.l.l.r))) rfl rfl (λ_ s=>(SC.i (SC.i (SC.i (SC.i (SC.i SC.t s.l.l.l.l.r) s.l.l.l.r) s.l.l.r) s.l.r) s.r)) (λg23 x24 a25 v26=>(XO (K:=K) (o:=(oL (oL (oF Xa)))) 4 0 (YV (Zd (o:=(oL (oL (oF Xa)))) 4 0 rfl rfl (λ_ s=>s.l.r)) (Xc (r:=(rV (rV Xa))) 1 rfl (λ_ s=>s.l.l.l.l.r)) (Ev.toB (Vd (λ_=>tg1 0) (Xv (Xj (r:=(rV (rP3 Xa Xa Xa))) 3 rfl (λ_ s=>s.l.l.r))) (λC31 a32 v33=>(Xp (K:=K) (Ze (Fa (IB (Xc (r:=(rP3 Xa Xa Xa)) 0 rfl (λ_ s=>s.r)))) (Xc (r:=Xa) 1 rfl (λ_ s=>s.l.r))))) (λC31 a32 v33=>(EvS.ev (Xj (r:=(rP3 Xa Xa Xa)) 0 rfl (λ_ s=>s.r))))))) (Nat.le_of_ble_eq_true rfl) λa27 v28 C29=>(Xs (J:=_) ((some v26),v28,C29) (a27) rfl rfl (λ_ s=>(SC.i (SC.i (SC.i (SC.i (SC.i SC.t s.l.l.l.l.l.l.r) s.l.l.l.l.l.r) s.l.l.l.l.r) s.l.l.l.r) s.r))))) λg41 x42=>(XC (X9 (o:=(oL (oL (oF Xa)))) 4 0 rfl rfl (λ_ s=>s.r))))))))
theorem Ld:FnScope ["drawing","table"] ["drawing","table"] (Xi Cv):=⟨rfl,rfl,rfl,by decide+kernel,rfl,by decide+kernel,by decide+kernel⟩
theorem Ic (D:Def K mg "many" Cv ["drawing","table"])(g_colourings:Fn P w K mg base 6 "colourings" ["drawing","table"] (sp2 (rP2 (rV (rV Xa)) (rV (rP2 Xa Xa))) (rV (rV Xa)) (oL (oL (oF Xa))) X8 K))(Z:Blt mg):Fn P w K mg base 7 "many" ["drawing","table"] (sp2 (rP2 (rV (rV Xa)) (rV (rP2 Xa Xa))) (rV (rV Xa)) (oF Xa) Ua K):=by
 refine Ys D Ld (λvs H Q E h=>?_) (λf cdv A outer s H vs Q E hr h=>?_)
 ·obtain⟨v_0,v_1,a_0,a_1,b,rfl,_⟩:=h;rfl
 obtain⟨v_0,v_1,a_0,a_1,b,rfl,h_0,h_1,hm,q⟩:=h
 have hu:=hu8 hr
 have hu1:=Yr hr
 refine⟨_,(Xb (XB (Xr (Xo K rfl) rfl Z.b_len PySem.boot_len (Xd (X6 g_colourings hr (by decide) (Xd (pv 0) (Xd (pv 1) Xf))) Xf)))
  Xg),?_⟩
 refine Yt (S:=(SC.add (SC.add SC.nil K (rP2 (rV (rV Xa)) (rV (rP2 Xa Xa))) v_0 a_0) K (rV (rV Xa)) v_1 a_1)) (σ:=[some v_0,some v_1]) 0 ?_ (SC.i (SC.i SC.t h_0) h_1) hm q rfl
 unfold Ua
 exact(XC (EvS.ev (EvB.sh (X4 (Ev.toB (XW (Xc (r:=(rP2 (rV (rV Xa)) (rV (rP2 Xa Xa)))) 0 rfl (λ_ s=>s.l.r)) (Xc (r:=(rV (rV Xa))) 1 rfl (λ_ s=>s.r))))))))
theorem UV:FnScope ["_law_script","_law_place","_law_seed","_law_cell_here"] ["_law_script","_law_place"] (Xi BW):=⟨rfl,rfl,rfl,by decide+kernel,rfl,by decide+kernel,by decide+kernel⟩
theorem Iq (D:Def K mg "_law_cell" BW ["_law_script","_law_place"])(Z:Blt mg):Fn P w K mg base 1 "_law_cell" ["_law_script","_law_place"] (sp2 (rL Xa) Xa (oF Xa) Vg K):=by
 refine Ys D UV (λvs H Q E h=>?_) (λf cdv A outer s H vs Q E hr h=>?_)
 ·obtain⟨v_0,v_1,a_0,a_1,b,rfl,_⟩:=h;rfl
 obtain⟨v_0,v_1,a_0,a_1,b,rfl,h_0,h_1,hm,q⟩:=h
 have hu:=hu8 hr
 have hu1:=Yr hr
 refine⟨_,(Xb (YT (Xx QI (pv 1) (Xr (Xo K rfl) rfl Z.b_len PySem.boot_len (Xd (pv 0) Xf)) (XN _))
   (Xb (XB (XD (Xk K rfl) (pv 0) (pv 1) (λ_ _=>rfl)))
   Xg)
   Xg)
  (Xb (Xn (i:=2) UV.nd rfl (Or.inl rfl) Xh)
  (Xb (XU PassesOwn.never rfl (XE (K:=K) rfl (J3 (UF K rfl) (pv 0) UJ (Uz Xh))) (Xm (i:=3) UV.nd rfl (Or.inl rfl))
   (Xb (Xn (i:=2) UV.nd rfl (Or.inl rfl) (Xq Yv (Xq XZ (Xq XZ (Xq YQ (pv 2) Xh) (Xq Yv (pv 3) Xh)) Xh) Xh))
   Xg))
  (Xb (XB (Xq Yv (Xq XZ (pv 2) (Xq YQ Xh (pv 1))) Xh))
  Xg)))),?_⟩
 refine Yt (S:=(SC.add (SC.add SC.nil K (rL Xa) v_0 a_0) K Xa v_1 a_1)) (σ:=[some v_0,some v_1,none,none]) 0 ?_ (SC.i (SC.i SC.t h_0) h_1) hm q rfl
 unfold Vg
 exact(ZL (Xp (K:=K) (Zy (Xc (r:=Xa) 1 rfl (λ_ s=>s.r)) (EH (Xc (r:=(rL Xa)) 0 rfl (λ_ s=>s.l.r))))) (XC (EvS.ev (EvB.sh (HP (Xc (r:=(rL Xa)) 0 rfl (λ_ s=>s.l.r)) (Xc (r:=Xa) 1 rfl (λ_ s=>s.r)))))) (Xw (K:=K) (r:=Xa) 2 (EvB.sh (Xe 5)) λa7 v8=>(X5 (K:=K) (J:=({oo:=λx13=>[],ss:=λx13=>[some v_0,some v_1,some x13.2,x13.1],sc:=λg14 x13=>(SC.add (SC.add (SC.add SC.nil K (rL Xa) v_0 a_0) K Xa v_1 a_1) K Xa x13.2 g14)}:Jn (Int) (Option V×V))) (λ_=>tg1 3) ((none),v8) (a7) (Xv (Ev.sh (BF (Xc (r:=(rL Xa)) 0 rfl (λ_ s=>s.l.l.r)) JX (JZ (K:=K) (Xe 63))))) rfl rfl (λ_ s=>(SC.i (SC.i (SC.i SC.t s.l.l.r) s.l.r) s.r)) (λg15 x16 a17 v18=>(Xw (K:=K) (r:=Xa) 2 (EvB.sh (X7 (XI (XI (Yg (Xc (r:=Xa) 2 rfl (λ_ s=>s.l.r)) (Xe 48271)) (X7 (Xc (r:=Xa) 3 rfl (λ_ s=>s.r)) (Xe 1000003))) (Xe 1)) (Xe 2147483647))) λa19 v20=>(Xs (J:=_) ((some v18),v20) (a19) rfl rfl (λ_ s=>(SC.i (SC.i (SC.i SC.t s.l.l.l.l.r) s.l.l.l.r) s.r))))) λg31 x32=>(XC (EvS.ev (EvB.sh (X7 (XI (Xc (r:=Xa) 2 rfl (λ_ s=>s.r)) (Yg (Xe 7919) (Xc (r:=Xa) 1 rfl (λ_ s=>s.l.r)))) (Xe 1000003))))))))
theorem DZ:FnScope ["_law_cell_here","_law_k","_law_one","_law_two"] ["_law_cell_here","_law_k"] (Xi IY):=⟨rfl,rfl,rfl,by decide+kernel,rfl,by decide+kernel,by decide+kernel⟩
theorem Lv (D:Def K mg "_law_mix" IY ["_law_cell_here","_law_k"])(Z:Blt mg):Fn P w K mg base 1 "_law_mix" ["_law_cell_here","_law_k"] (sp2 Xa Xa (oF Xa) Gs K):=by
 refine Ys D DZ (λvs H Q E h=>?_) (λf cdv A outer s H vs Q E hr h=>?_)
 ·obtain⟨v_0,v_1,a_0,a_1,b,rfl,_⟩:=h;rfl
 obtain⟨v_0,v_1,a_0,a_1,b,rfl,h_0,h_1,hm,q⟩:=h
 have hu:=hu8 hr
 have hu1:=Yr hr
 refine⟨_,(Xb (Xn (i:=2) DZ.nd rfl (Or.inl rfl) (Xq Yv (Xq DS (Xq XZ (Xq XZ (Xq Yv (pv 0) Xh) (Xq YQ Xh (pv 1))) Xh) Xh) Xh))
  (Xb (Xn (i:=3) DZ.nd rfl (Or.inl rfl) (Xq Yv (Xq XZ (Xq XZ (Xq YQ (pv 2) Xh) (Xq YQ (Xq YQ Xh (pv 1)) (pv 1))) Xh) Xh))
  (Xb (XB (Xq UW (pv 3) Xh))
  Xg))),?_⟩
 refine Yt (S:=(SC.add (SC.add SC.nil K Xa v_0 a_0) K Xa v_1 a_1)) (σ:=[some v_0,some v_1,none,none]) 0 ?_ (SC.i (SC.i SC.t h_0) h_1) hm q rfl
 unfold Gs
 exact(Xw (K:=K) (r:=Xa) 2 (EvB.sh (X7 (Gg (XI (XI (X7 (Xc (r:=Xa) 0 rfl (λ_ s=>s.l.r)) (Xe 2147483629)) (Yg (Xe 1013) (Xc (r:=Xa) 1 rfl (λ_ s=>s.r)))) (Xe 7919)) (Xe 3)) (Xe 2147483647))) λa1 v2=>(Xw (K:=K) (r:=Xa) 3 (EvB.sh (X7 (XI (XI (Yg (Xc (r:=Xa) 2 rfl (λ_ s=>s.r)) (Xe 40699)) (Yg (Yg (Xe 3793) (Xc (r:=Xa) 1 rfl (λ_ s=>s.l.r))) (Xc (r:=Xa) 1 rfl (λ_ s=>s.l.r)))) (Xe 11)) (Xe 2147483399))) λa15 v16=>(XC (EvS.ev (EvB.sh (Gm (Xc (r:=Xa) 3 rfl (λ_ s=>s.r)) (Xe 101)))))))
theorem Vw:FnScope ["_law_script","_law_place","_law_sizes","_law_cell_here","_law_left","_law_some","_law_k","_law_other"] ["_law_script","_law_place","_law_sizes"] (Xi Lc):=⟨rfl,rfl,rfl,by decide+kernel,rfl,by decide+kernel,by decide+kernel⟩
theorem Mh (D:Def K mg "_law_row" Lc ["_law_script","_law_place","_law_sizes"])(g_cell:Fn P w K mg base 1 "_law_cell" ["_law_script","_law_place"] (sp2 (rL Xa) Xa (oF Xa) Vg K))(g_mix:Fn P w K mg base 1 "_law_mix" ["_law_cell_here","_law_k"] (sp2 Xa Xa (oF Xa) Gs K))(Z:Blt mg):Fn P w K mg base 2 "_law_row" ["_law_script","_law_place","_law_sizes"] (sp3 (rL Xa) Xa (rV Xa) (oL (oF Xa)) KP K):=by
 refine Ys D Vw (λvs H Q E h=>?_) (λf cdv A outer s H vs Q E hr h=>?_)
 ·obtain⟨v_0,v_1,v_2,a_0,a_1,a_2,b,rfl,_⟩:=h;rfl
 obtain⟨v_0,v_1,v_2,a_0,a_1,a_2,b,rfl,h_0,h_1,h_2,hm,q⟩:=h
 have hu:=hu8 hr
 have hu1:=Yr hr
 refine⟨_,(Xb (Xn (i:=3) Vw.nd rfl (Or.inl rfl) (X6 g_cell hr (by decide) (Xd (pv 0) (Xd (pv 1) Xf))))
  (Xb (Xn (i:=4) Vw.nd rfl (Or.inl rfl) (pv 3))
  (Xb (Xn (i:=5) Vw.nd rfl (Or.inl rfl) (X1 Xf))
  (Xb (XU PassesOwn.never rfl (XQ rfl Z.b_range (Xd (Xr (Xo K rfl) rfl Z.b_len PySem.boot_len (Xd (pv 2) Xf)) Xf)) (Xm (i:=6) Vw.nd rfl (Or.inl rfl))
   (Xb (YT (Xx QI (pv 3) (Xq DS Xh Xh) (XN _))
    (Xb (Yd (Zk PySem.F.plainAttrs_list PySem.F.slot_list_append PySem.F.type_list_append XR (pv 5) (Xd (Xq Yv (X6 g_mix hr (by decide) (Xd (pv 3) (Xd (pv 6) Xf))) (XD (Xk K rfl) (pv 2) (pv 6) (λ_ _=>rfl))) Xf)))
    Xg)
    (Xb (YT (Xx FW (pv 4) Xh (XN _))
     (Xb (Yd (Zk PySem.F.plainAttrs_list PySem.F.slot_list_append PySem.F.type_list_append XR (pv 5) (Xd (Xq Yv (pv 4) (XD (Xk K rfl) (pv 2) (pv 6) (λ_ _=>rfl))) Xf)))
     (Xb (Xn (i:=4) Vw.nd rfl (Or.inl rfl) (Xq UW (pv 4) (XD (Xk K rfl) (pv 2) (pv 6) (λ_ _=>rfl))))
     Xg))
     (Xb (Xn (i:=7) Vw.nd rfl (Or.inl rfl) (X6 g_cell hr (by decide) (Xd (pv 0) (Xd (Xq Yv (Xq XZ (Xq XZ (pv 1) Xh) (pv 6)) Xh) Xf))))
     (Xb (Yd (Zk PySem.F.plainAttrs_list PySem.F.slot_list_append PySem.F.type_list_append XR (pv 5) (Xd (Xq Yv (X6 g_mix hr (by decide) (Xd (pv 7) (Xd (pv 6) Xf))) (XD (Xk K rfl) (pv 2) (pv 6) (λ_ _=>rfl))) Xf)))
     Xg)))
    Xg))
   Xg))
  (Xb (XB (pv 5))
  Xg))))),?_⟩
 refine Yt (S:=(SC.add (SC.add (SC.add SC.nil K (rL Xa) v_0 a_0) K Xa v_1 a_1) K (rV Xa) v_2 a_2)) (σ:=[some v_0,some v_1,some v_2,none,none,none,none,none]) 1 ?_ (SC.i (SC.i (SC.i SC.t h_0) h_1) h_2) hm q rfl
 unfold KP
 exact(Xw (K:=K) (r:=Xa) 3 (EvB.sh (Ev.toB (XW (Xc (r:=(rL Xa)) 0 rfl (λ_ s=>s.l.l.r)) (Xc (r:=Xa) 1 rfl (λ_ s=>s.l.r))))) λa1 v2=>(Xw (K:=K) (r:=Xa) 4 (Xj (r:=Xa) 3 rfl (λ_ s=>s.r)) λa6 v7=>(XO (K:=K) (o:=(oL (oF Xa))) 5 0 (Z6 (o:=(oF Xa))) (Nat.le_of_ble_eq_true rfl) λa8 v9 C10=>(X5 (K:=K) (J:=({oo:=λx13=>[x13.2.2.2.2],ss:=λx13=>[some v_0,some v_1,some v_2,some v2,some x13.2.2.1,some x13.2.1,x13.1,x13.2.2.2.1],sc:=λg14 x13=>(SC.add (SC.addO (SC.add (SC.add (SC.add (SC.add SC.nil K (rL Xa) v_0 a_0) K Xa v_1 a_1) K (rV Xa) v_2 a_2) K Xa v2 a1) K (oL (oF Xa)) x13.2.1 g14.1 x13.2.2.2.2) K Xa x13.2.2.1 g14.2)}:Jn ((List Int)×Int) (Option V×V×V×Option V×List XA))) (λ_=>tg1 6) ((none),v9,v7,(none),C10) (a8,a6) (Xy (X4 (Xc (r:=(rV Xa)) 2 rfl (λ_ s=>s.l.l.l.r)))) rfl rfl (λ_ s=>(SC.i (SC.i (SC.i (SC.i (SC.i (SC.i SC.t s.l.l.l.l.l.r) s.l.l.l.l.r) s.l.l.l.r) s.l.l.r) s.r) s.l.r)) (λg15 x16 a17 v18=>(Y7 (J:=({oo:=λx24=>[x24.2.2.2],ss:=λx24=>[some v_0,some v_1,some v_2,some v2,some x24.2.1,some x24.1,some v18,x24.2.2.1],sc:=λg25 x24=>(SC.add (SC.addO (SC.add (SC.add (SC.add (SC.add (SC.add SC.nil K (rL Xa) v_0 a_0) K Xa v_1 a_1) K (rV Xa) v_2 a_2) K Xa v2 a1) K Xa v18 a17) K (oL (oF Xa)) x24.1 g25.1 x24.2.2.2) K Xa x24.2.1 g25.2)}:Jn ((List Int)×Int) (V×V×Option V×List XA))) (ZP (Fd:=FNd ({oo:=λx24=>[x24.2.2.2],ss:=λx24=>[some v_0,some v_1,some v_2,some v2,some x24.2.1,some x24.1,some v18,x24.2.2.1],sc:=λg25 x24=>(SC.add (SC.addO (SC.add (SC.add (SC.add (SC.add (SC.add SC.nil K (rL Xa) v_0 a_0) K Xa v_1 a_1) K (rV Xa) v_2 a_2) K Xa v2 a1) K Xa v18 a17) K (oL (oF Xa)) x24.1 g25.1 x24.2.2.2) K Xa x24.2.1 g25.2)}:Jn ((List Int)×Int) (V×V×Option V×List XA))) (Xp (K:=K) (Zy (Xc (r:=Xa) 3 rfl (λ_ s=>s.l.l.l.r)) (Gg (Xe 10) (Xe 18)))) (Zb (K:=K) (o:=(oF Xa)) (f:=λa35=>(Rs.ok (a35,g15.2))) 5 0 rfl rfl rfl (λ_ s=>s.l.l.r) (EvS.ev (EvB.sh (X7 (Ev.toB (XW (Xc (r:=Xa) 3 rfl (λ_ s=>s.l.l.l.r)) (Xc (r:=Xa) 6 rfl (λ_ s=>s.r)))) (Xz (Xc (r:=(rV Xa)) 2 rfl (λ_ s=>s.l.l.l.l.r)) (Xc (r:=Xa) 6 rfl (λ_ s=>s.r)))))) λa33 C34=>(Xs (J:=_) (x16.2.1,x16.2.2.1,(x16.2.2.2.1),C34) ((g15.1++[a33]),g15.2) rfl rfl (λ_ s=>(SC.i (SC.i (SC.i (SC.i (SC.i (SC.i (SC.i SC.t s.l.l.l.l.l.l.l.r) s.l.l.l.l.l.l.r) s.l.l.l.l.l.r) s.l.l.l.l.r) s.l.r) s.r) s.l.l.r)))) (Y7 (J:=({oo:=λx39=>[x39.2.2.2],ss:=λx39=>[some v_0,some v_1,some v_2,some v2,some x39.1,some x39.2.2.1,some v18,x39.2.1],sc:=λg40 x39=>(SC.addO (SC.add (SC.add (SC.add (SC.add (SC.add (SC.add SC.nil K (rL Xa) v_0 a_0) K Xa v_1 a_1) K (rV Xa) v_2 a_2) K Xa v2 a1) K Xa v18 a17) K Xa x39.1 g40.1) K (oL (oF Xa)) x39.2.2.1 g40.2 x39.2.2.2)}:Jn (Int×(List Int)) (V×Option V×V×List XA))) (ZP (Fd:=FNd ({oo:=λx39=>[x39.2.2.2],ss:=λx39=>[some v_0,some v_1,some v_2,some v2,some x39.1,some x39.2.2.1,some v18,x39.2.1],sc:=λg40 x39=>(SC.addO (SC.add (SC.add (SC.add (SC.add (SC.add (SC.add SC.nil K (rL Xa) v_0 a_0) K Xa v_1 a_1) K (rV Xa) v_2 a_2) K Xa v2 a1) K Xa v18 a17) K Xa x39.1 g40.1) K (oL (oF Xa)) x39.2.2.1 g40.2 x39.2.2.2)}:Jn (Int×(List Int)) (V×Option V×V×List XA))) (Xp (K:=K) (Ud (Xc (r:=Xa) 4 rfl (λ_ s=>s.l.r)) (Xe 0))) (Zb (K:=K) (o:=(oF Xa)) (f:=λa47=>(Rs.bind (Rs.bind (Rs.ok g15.2) λx52=>(Rs.bind (Rs.bind (Rs.ok a_2) λx50=>(Rs.bind (Rs.ok a17) λx51=>(atR x50 x51))) λx53=>(Lo x52 x53))) λa48=>(Rs.ok (a48,a47)))) 5 0 rfl rfl rfl (λ_ s=>s.l.l.r) (EvS.ev (EvB.sh (X7 (Xc (r:=Xa) 4 rfl (λ_ s=>s.l.r)) (Xz (Xc (r:=(rV Xa)) 2 rfl (λ_ s=>s.l.l.l.l.r)) (Xc (r:=Xa) 6 rfl (λ_ s=>s.r)))))) λa45 C46=>(Xw (K:=K) (r:=Xa) 4 (EvB.sh (Gm (Xc (r:=Xa) 4 rfl (λ_ s=>s.l.l.r)) (Xz (Xc (r:=(rV Xa)) 2 rfl (λ_ s=>s.l.l.l.l.l.r)) (Xc (r:=Xa) 6 rfl (λ_ s=>s.l.r))))) λa48 v49=>(Xs (J:=_) (v49,(x16.2.2.2.1),x16.2.1,C46) (a48,(g15.1++[a45])) rfl rfl (λ_ s=>(SC.i (SC.i (SC.i (SC.i (SC.i (SC.i (SC.i SC.t s.l.l.l.l.l.l.l.l.r) s.l.l.l.l.l.l.l.r) s.l.l.l.l.l.l.r) s.l.l.l.l.l.r) s.l.l.r) s.r) s.l.r))))) (Xw (K:=K) (r:=Xa) 7 (EvB.sh (Ev.toB (XW (Xc (r:=(rL Xa)) 0 rfl (λ_ s=>s.l.l.l.l.l.l.r)) (X7 (XI (XI (Xc (r:=Xa) 1 rfl (λ_ s=>s.l.l.l.l.l.r)) (Xe 1)) (Xc (r:=Xa) 6 rfl (λ_ s=>s.r))) (Xe 63))))) λa54 v55=>(Zb (K:=K) (o:=(oF Xa)) (f:=λa74=>(Rs.ok (g15.2,a74))) 5 0 rfl rfl rfl (λ_ s=>s.l.l.l.r) (EvS.ev (EvB.sh (X7 (Ev.toB (XW (Xc (r:=Xa) 7 rfl (λ_ s=>s.r)) (Xc (r:=Xa) 6 rfl (λ_ s=>s.l.r)))) (Xz (Xc (r:=(rV Xa)) 2 rfl (λ_ s=>s.l.l.l.l.l.r)) (Xc (r:=Xa) 6 rfl (λ_ s=>s.l.r)))))) λa72 C73=>(Xs (J:=_) (x16.2.2.1,(some v55),x16.2.1,C73) (g15.2,(g15.1++[a72])) rfl rfl (λ_ s=>(SC.i (SC.i (SC.i (SC.i (SC.i (SC.i (SC.i SC.t s.l.l.l.l.l.l.l.l.r) s.l.l.l.l.l.l.l.r) s.l.l.l.l.l.l.r) s.l.l.l.l.l.r) s.l.l.r) s.l.l.l.r) s.r)))))) λg76 x75=>(Xs (J:=_) (x75.2.2.1,x75.1,(x75.2.1),x75.2.2.2) (g76.2,g76.1) rfl rfl (λ_ s=>(SC.i (SC.i (SC.i (SC.i (SC.i (SC.i (SC.i SC.t s.l.l.l.l.l.l.r) s.l.l.l.l.l.r) s.l.l.l.l.r) s.l.l.l.r) s.l.l.r) s.r) s.l.r))))) λg78 x77=>(Xs (J:=_) ((some v18),x77.1,x77.2.1,(x77.2.2.1),x77.2.2.2) (g78.1,g78.2) rfl rfl (λ_ s=>(SC.i (SC.i (SC.i (SC.i (SC.i (SC.i SC.t s.l.l.l.l.l.l.r) s.l.l.l.l.l.r) s.l.l.l.l.r) s.l.l.l.r) s.l.r) s.r))))) λg79 x80=>(XC (X9 (o:=(oL (oF Xa))) 5 0 rfl rfl (λ_ s=>s.l.r)))))))
theorem JY:FnScope ["_law_names","_law_some","_law_left","_law_found","_law_k"] ["_law_names","_law_some"] (Xi Gz):=⟨rfl,rfl,rfl,by decide+kernel,rfl,by decide+kernel,by decide+kernel⟩
theorem E2 (D:Def K mg "_law_mixed" Gz ["_law_names","_law_some"])(Z:Blt mg):Fn P w K mg base 1 "_law_mixed" ["_law_names","_law_some"] (sp2 (rV Xa) (rV Xa) (oL (oF Xa)) Jr K):=by
 refine Ys D JY (λvs H Q E h=>?_) (λf cdv A outer s H vs Q E hr h=>?_)
 ·obtain⟨v_0,v_1,a_0,a_1,b,rfl,_⟩:=h;rfl
 obtain⟨v_0,v_1,a_0,a_1,b,rfl,h_0,h_1,hm,q⟩:=h
 have hu:=hu8 hr
 have hu1:=Yr hr
 refine⟨_,(Xb (Xn (i:=2) JY.nd rfl (Or.inl rfl) (Zc (Yc K rfl) rfl Z.b_list PyProof.Rows.boot_list (Xd (pv 0) Xf)))
  (Xb (Xn (i:=3) JY.nd rfl (Or.inl rfl) (X1 Xf))
  (Xb (XU PassesOwn.never rfl (XQ rfl Z.b_range (Xd (Xr (Xo K rfl) rfl Z.b_len PySem.boot_len (Xd (pv 0) Xf)) Xf)) (Xm (i:=4) JY.nd rfl (Or.inl rfl))
   (Xb (Yd (Zk PySem.F.plainAttrs_list PySem.F.slot_list_append PySem.F.type_list_append XR (pv 3) (Xd (Zk PySem.F.plainAttrs_list PySem.F.slot_list_pop PySem.F.type_list_pop UM (pv 2) (Xd (Xq Yv (XD (Xk K rfl) (pv 1) (Xq XZ (Xq YQ Xh (pv 4)) Xh) (λ_ _=>rfl)) (Xr (Xo K rfl) rfl Z.b_len PySem.boot_len (Xd (pv 2) Xf))) Xf)) Xf)))
   Xg))
  (Xb (XB (pv 3))
  Xg)))),?_⟩
 refine Yt (S:=(SC.add (SC.add SC.nil K (rV Xa) v_0 a_0) K (rV Xa) v_1 a_1)) (σ:=[some v_0,some v_1,none,none,none]) 2 ?_ (SC.i (SC.i SC.t h_0) h_1) hm q rfl
 unfold Jr
 exact(XO (K:=K) (o:=(oL (oF Xa))) 2 1 (Qa (EvS.ls (Xj (r:=(rV Xa)) 0 rfl (λ_ s=>s.l.r)))) (Nat.le_of_ble_eq_true rfl) λa1 v2 C3=>(XO (K:=K) (o:=(oL (oF Xa))) 3 0 (Z6 (o:=(oF Xa))) (Nat.le_of_ble_eq_true rfl) λa5 v6 C7=>(X5 (K:=K) (J:=({oo:=λx10=>[x10.2.2.2.1,x10.2.2.2.2],ss:=λx10=>[some v_0,some v_1,some x10.2.2.1,some x10.2.1,x10.1],sc:=λg11 x10=>(SC.addO (SC.addO (SC.add (SC.add SC.nil K (rV Xa) v_0 a_0) K (rV Xa) v_1 a_1) K (oL (oF Xa)) x10.2.1 g11.1 x10.2.2.2.1) K (oL (oF Xa)) x10.2.2.1 g11.2 x10.2.2.2.2)}:Jn ((List Int)×(List Int)) (Option V×V×V×List XA×List XA))) (λ_=>tg1 4) ((none),v6,v2,C7,C3) (a5,a1) (Xy (X4 (Xc (r:=(rV Xa)) 0 rfl (λ_ s=>s.l.l.l.r)))) rfl rfl (λ_ s=>(SC.i (SC.i (SC.i (SC.i SC.t s.l.l.l.r) s.l.l.r) s.r) s.l.r)) (λg12 x13 a14 v15=>(GS (K:=K) (r:=Xa) (f:=λa26 a27=>(Rs.ok (a27,a26))) 2 1 3 0 (by decide) rfl rfl (λ_ s=>s.l.r) rfl rfl (λ_ s=>s.l.l.r) (X7 (Xz (Xc (r:=(rV Xa)) 1 rfl (λ_ s=>s.l.l.l.r)) (XI (Yg (Xe 8) (Xc (r:=Xa) 4 rfl (λ_ s=>s.r))) (Xe 9))) (X4 (Zd (o:=(oL (oF Xa))) 2 1 rfl rfl (λ_ s=>s.l.r)))) λa25 a26 C28 C29=>(Xs (J:=_) ((some v15),x13.2.1,x13.2.2.1,C29,C28) ((g12.1++[a25]),a26) rfl rfl (λ_ s=>(SC.i (SC.i (SC.i (SC.i SC.t s.l.l.l.l.l.l.r) s.l.l.l.l.l.r) s.r) s.l.r))))) λg32 x33=>(XC (X9 (o:=(oL (oF Xa))) 3 0 rfl rfl (λ_ s=>s.l.r))))))
theorem Vu:FnScope ["_law_names","_law_some","_law_rings","_law_left","_law_one","_law_walks","_law_k","_law_at","_law_passage"] ["_law_names","_law_some","_law_rings"] (Xi Ep):=⟨rfl,rfl,rfl,by decide+kernel,rfl,by decide+kernel,by decide+kernel⟩
theorem LB (D:Def K mg "_law_any" Ep ["_law_names","_law_some","_law_rings"])(Z:Blt mg):Fn P w K mg base 1 "_law_any" ["_law_names","_law_some","_law_rings"] (sp3 (rV Xa) (rV Xa) Xa (oL (oL (oF Xa))) F6 K):=by
 refine Ys D Vu (λvs H Q E h=>?_) (λf cdv A outer s H vs Q E hr h=>?_)
 ·obtain⟨v_0,v_1,v_2,a_0,a_1,a_2,b,rfl,_⟩:=h;rfl
 obtain⟨v_0,v_1,v_2,a_0,a_1,a_2,b,rfl,h_0,h_1,h_2,hm,q⟩:=h
 have hu:=hu8 hr
 have hu1:=Yr hr
 refine⟨_,(Xb (Xn (i:=3) Vu.nd rfl (Or.inl rfl) (X1 Xf))
  (Xb (XU PassesOwn.never rfl (XE (K:=K) rfl (pv 0)) (Xm (i:=4) Vu.nd rfl (Or.inl rfl))
   (Xb (Yd (Zk PySem.F.plainAttrs_list PySem.F.slot_list_extend PySem.F.type_list_extend BK (pv 3) (Xd (X1 (Xd (pv 4) (Xd (V1 QL (pv 4)) Xf))) Xf Q9)))
   Xg))
  (Xb (Q3 5 (Xi Ep) ["_law_names","_law_some","_law_rings","_law_left","_law_one","_law_walks","_law_k","_law_at","_law_passage"] ["_law_k"] [] rfl Vu.nd rfl rfl (XQ rfl Z.b_range (Xd (pv 2) Xf)) (Y3 (by decide)) (λcl C s H ex E=>⟨Xm (i:=0) (show List.Nodup (["_law_k"]:List Str) by decide+kernel) rfl (Or.inl rfl),Zo,(X1 Xf)⟩))
  (Xb (XU PassesOwn.never rfl (XQ rfl Z.b_range (Xd (Xq YQ Xh (Xr (Xo K rfl) rfl Z.b_len PySem.boot_len (Xd (pv 0) Xf))) Xf)) (Xm (i:=6) Vu.nd rfl (Or.inl rfl))
   (Xb (Xn (i:=7) Vu.nd rfl (Or.inl rfl) (Xq XZ (Xq YQ Xh (pv 6)) Xh))
   (Xb (Xn (i:=8) Vu.nd rfl (Or.inl rfl) (Zk PySem.F.plainAttrs_list PySem.F.slot_list_pop PySem.F.type_list_pop UM (pv 3) (Xd (Xq Yv (XD (Xk K rfl) (pv 1) (pv 7) (λ_ _=>rfl)) (Xr (Xo K rfl) rfl Z.b_len PySem.boot_len (Xd (pv 3) Xf))) Xf)))
   (Xb (Yd (Zk PySem.F.plainAttrs_list PySem.F.slot_list_append PySem.F.type_list_append XR (XD (Xk K rfl) (pv 5) (Xq Yv (XD (Xk K rfl) (pv 1) (Xq XZ (pv 7) Xh) (λ_ _=>rfl)) (pv 2)) (λ_ _=>rfl)) (Xd (pv 8) Xf)))
   Xg))))
  (Xb (XB (pv 5))
  Xg))))),?_⟩
 refine Yt (S:=(SC.add (SC.add (SC.add SC.nil K (rV Xa) v_0 a_0) K (rV Xa) v_1 a_1) K Xa v_2 a_2)) (σ:=[some v_0,some v_1,some v_2,none,none,none,none,none,none]) 2 ?_ (SC.i (SC.i (SC.i SC.t h_0) h_1) h_2) hm q rfl
 unfold F6
 exact(XO (K:=K) (o:=(oL (oF Xa))) 3 1 (Z6 (o:=(oF Xa))) (Nat.le_of_ble_eq_true rfl) λa1 v2 C3=>(X5 (K:=K) (J:=({oo:=λx4=>[[],x4.2.2],ss:=λx4=>[some v_0,some v_1,some v_2,some x4.2.1,x4.1,none,none,none,none],sc:=λg5 x4=>(SC.addO (SC.add (SC.add (SC.add SC.nil K (rV Xa) v_0 a_0) K (rV Xa) v_1 a_1) K Xa v_2 a_2) K (oL (oF Xa)) x4.2.1 g5 x4.2.2)}:Jn ((List Int)) (Option V×V×List XA))) (λ_=>tg1 4) ((none),v2,C3) (a1) (Xv (Xj (r:=(rV Xa)) 0 rfl (λ_ s=>s.l.l.l.r))) rfl rfl (λ_ s=>(SC.i (SC.i (SC.i (SC.i SC.t s.l.l.l.r) s.l.l.r) s.l.r) s.r)) (λg6 x7 a8 v9=>(L7 (K:=K) (o:=(oF Xa)) (f:=λa18=>(Rs.ok (a18))) 3 1 rfl rfl rfl (λ_ s=>s.l.r) (Zx (Xu (Xj (r:=Xa) 4 rfl (λ_ s=>s.r)) (Xu (EvB.sh (ZS (Xc (r:=Xa) 4 rfl (λ_ s=>s.r)))) YY))) λa16 C17=>(Xs (J:=_) ((some v9),x7.2.1,C17) ((g6++a16)) rfl rfl (λ_ s=>(SC.i (SC.i (SC.i (SC.i SC.t s.l.l.l.l.l.r) s.l.l.l.l.r) s.l.l.l.r) s.r))))) λg19 x20=>(XO (K:=K) (o:=(oL (oL (oF Xa)))) 5 0 (Zn (λ_=>tg1 0) (Xy (Xc (r:=Xa) 2 rfl (λ_ s=>s.l.r))) (λC25 a26 v27=>(Z6 (o:=(oF Xa))))) (Nat.le_of_ble_eq_true rfl) λa21 v22 C23=>(X5 (K:=K) (J:=({oo:=λx33=>[x33.2.2.2.2.2.2,x33.2.2.2.2.2.1],ss:=λx33=>[some v_0,some v_1,some v_2,some x33.2.2.2.1,x20.1,some x33.2.2.2.2.1,x33.1,x33.2.1,x33.2.2.1],sc:=λg34 x33=>(SC.addO (SC.addO (SC.add (SC.add (SC.add SC.nil K (rV Xa) v_0 a_0) K (rV Xa) v_1 a_1) K Xa v_2 a_2) K (oL (oF Xa)) x33.2.2.2.1 g34.1 x33.2.2.2.2.2.1) K (oL (oL (oF Xa))) x33.2.2.2.2.1 g34.2 x33.2.2.2.2.2.2)}:Jn ((List Int)×(List (List Int))) (Option V×Option V×Option V×V×V×List XA×List XA))) (λ_=>tg1 6) ((none),(none),(none),x20.2.1,v22,x20.2.2,C23) (g19,a21) (Xy (Yg (Xe 2) (X4 (Xc (r:=(rV Xa)) 0 rfl (λ_ s=>s.l.l.l.l.r))))) rfl rfl (λ_ s=>(SC.i (SC.i (SC.i (SC.i (SC.i SC.t s.l.l.l.l.r) s.l.l.l.r) s.l.l.r) s.l.r) s.r)) (λg35 x36 a37 v38=>(Xw (K:=K) (r:=Xa) 7 (EvB.sh (XI (Yg (Xe 4) (Xc (r:=Xa) 6 rfl (λ_ s=>s.r))) (Xe 5))) λa39 v40=>(L5 (K:=K) (r:=Xa) (f:=(λp55=>(λa50 a51=>(Rs.bind (Rs.bind (Rs.bind (Rs.ok a_1) λx58=>(Rs.bind (Rs.bind (Rs.ok a39) λx56=>(Rs.bind (Rs.ok (1:Int)) λx57=>(Rs.ok (x56+x57)))) λx59=>(atR x58 x59))) λx60=>(Rs.bind (Rs.ok a_2) λx61=>(QG x60 x61))) λx63=>(Rs.bind (atR g35.2 x63) λx64=>(Rs.bind (Rs.ok a50) λx62=>(chk (x64.length<sizeLine) (Rs.bind (Jq g35.2 x63 (x64++[x62])) λa65=>(Rs.ok (a51,a65)))))))) p55.1 p55.2)) 8 3 1 rfl rfl (λ_ s=>s.l.l.l.r) (X7 (Xz (Xc (r:=(rV Xa)) 1 rfl (λ_ s=>s.l.l.l.l.l.r)) (Xc (r:=Xa) 7 rfl (λ_ s=>s.r))) (X4 (Zd (o:=(oL (oF Xa))) 3 1 rfl rfl (λ_ s=>s.l.l.l.r)))) λa50 a51 v52 C53=>(B9 (K:=K) (r:=Xa) 5 0 rfl rfl (λ_ s=>s.l.l.l.l.r) (Xj (r:=Xa) 8 rfl (λ_ s=>s.l.r)) (X7 (Xz (Xc (r:=(rV Xa)) 1 rfl (λ_ s=>s.l.l.l.l.l.l.l.r)) (XI (Xc (r:=Xa) 7 rfl (λ_ s=>s.l.l.r)) (Xe 1))) (Xc (r:=Xa) 2 rfl (λ_ s=>s.l.l.l.l.l.l.r))) λa65 C66=>(Xs (J:=_) ((some v38),(some v40),(some v52),x36.2.2.2.1,x36.2.2.2.2.1,C53,C66) (a51,a65) rfl rfl (λ_ s=>(SC.i (SC.i (SC.i (SC.i (SC.i SC.t s.l.l.l.l.l.l.l.l.l.r) s.l.l.l.l.l.l.l.l.r) s.l.l.l.l.l.l.l.r) s.l.r) s.r))))))) λg67 x68=>(XC (X9 (o:=(oL (oL (oF Xa)))) 5 0 rfl rfl (λ_ s=>s.r)))))))
theorem YG:FnScope ["_law_names","_law_signs","_law_some","_law_strands","_law_seen","_law_walks","_law_start","_law_walk","_law_at","_law_k","_law_low"] ["_law_names","_law_signs","_law_some","_law_strands"] (Xi Vj):=⟨rfl,rfl,rfl,by decide+kernel,rfl,by decide+kernel,by decide+kernel⟩
theorem FZ (D:Def K mg "_law_plaited" Vj ["_law_names","_law_signs","_law_some","_law_strands"])(Z:Blt mg):Fn P w K mg base 1 "_law_plaited" ["_law_names","_law_signs","_law_some","_law_strands"] (sp4 (rV Xa) (rD Xa) (rV Xa) Xa (oL (oL (oF Xa))) Z4 K):=by
 refine Ys D YG (λvs H Q E h=>?_) (λf cdv A outer s H vs Q E hr h=>?_)
 ·obtain⟨v_0,v_1,v_2,v_3,a_0,a_1,a_2,a_3,b,rfl,_⟩:=h;rfl
 obtain⟨v_0,v_1,v_2,v_3,a_0,a_1,a_2,a_3,b,rfl,h_0,h_1,h_2,h_3,hm,q⟩:=h
 have hu:=hu8 hr
 have hu1:=Yr hr
 refine⟨_,(Xb (Xn (i:=4) YG.nd rfl (Or.inl rfl) (Xq GY (X1 (Xd JO Xf)) (pv 3)))
  (Xb (Xn (i:=5) YG.nd rfl (Or.inl rfl) (X1 Xf))
  (Xb (XU PassesOwn.never rfl (XQ rfl Z.b_range (Xd (pv 3) Xf)) (Xm (i:=6) YG.nd rfl (Or.inl rfl))
   (Xb (YT (JM (QM (XD (Xk K rfl) (pv 4) (pv 6) (λ_ _=>rfl))))
    (Xb (Xn (i:=7) YG.nd rfl (Or.inl rfl) (X1 Xf))
    (Xb (Xn (i:=8) YG.nd rfl (Or.inl rfl) (pv 6))
    (Xb (Vc PassesOwn.never (JM (QM (XD (Xk K rfl) (pv 4) (pv 8) (λ_ _=>rfl))))
     (Xb (VU JO (Fh (pv 4) (pv 8) JU))
     (Xb (XU PassesOwn.never rfl (XQ rfl Z.b_range (Xd (Xr (Xo K rfl) rfl Z.b_len PySem.boot_len (Xd (pv 0) Xf)) Xf)) (Xm (i:=9) YG.nd rfl (Or.inl rfl))
      (Xb (Xn (i:=10) YG.nd rfl (Or.inl rfl) (Xq Yv (XD (Xk K rfl) (pv 2) (Xq XZ (Xq YQ Xh (pv 9)) Xh) (λ_ _=>rfl)) (Xq ZC (pv 3) Xh)))
      (Xb (YT (Xx Qi (pv 8) (pv 10) (XN _))
       (Xb (Yd (Zk PySem.F.plainAttrs_list PySem.F.slot_list_append PySem.F.type_list_append XR (pv 7) (Xd (Xq YQ (XD (Xk K rfl) (pv 0) (pv 9) (λ_ _=>rfl)) (GD hu1 (pv 1) (XD (Xk K rfl) (pv 0) (pv 9) (λ_ _=>rfl)) (λ_ _=>rfl))) Xf)))
       (Xb (Xn (i:=8) YG.nd rfl (Or.inl rfl) (Xq XZ (pv 10) Xh))
       Xg))
       (Xb (YT (Xx Qi (pv 8) (Xq XZ (pv 10) Xh) (XN _))
        (Xb (Yd (Zk PySem.F.plainAttrs_list PySem.F.slot_list_append PySem.F.type_list_append XR (pv 7) (Xd (Xq YQ (V1 QL (XD (Xk K rfl) (pv 0) (pv 9) (λ_ _=>rfl))) (GD hu1 (pv 1) (XD (Xk K rfl) (pv 0) (pv 9) (λ_ _=>rfl)) (λ_ _=>rfl))) Xf)))
        (Xb (Xn (i:=8) YG.nd rfl (Or.inl rfl) (pv 10))
        Xg))
        Xg)
       Xg))
      Xg)))
     Xg)))
    (Xb (Yd (Zk PySem.F.plainAttrs_list PySem.F.slot_list_append PySem.F.type_list_append XR (pv 5) (Xd (pv 7) Xf)))
    Xg))))
    Xg)
   Xg))
  (Xb (XB (pv 5))
  Xg)))),?_⟩
 refine Yt (S:=(SC.add (SC.add (SC.add (SC.add SC.nil K (rV Xa) v_0 a_0) K (rD Xa) v_1 a_1) K (rV Xa) v_2 a_2) K Xa v_3 a_3)) (σ:=[some v_0,some v_1,some v_2,some v_3,none,none,none,none,none,none,none]) 3 ?_ (SC.i (SC.i (SC.i (SC.i SC.t h_0) h_1) h_2) h_3) hm q rfl
 unfold Z4
 exact(XO (K:=K) (o:=(oL (oF Yb))) 4 1 (Fq (Ev.ls (Zx (Xu (EvB.sh (Qg false)) YY))) (Xc (r:=Xa) 3 rfl (λ_ s=>s.r))) (Nat.le_of_ble_eq_true rfl) λa1 v2 C3=>(XO (K:=K) (o:=(oL (oL (oF Xa)))) 5 0 (Z6 (o:=(oL (oF Xa)))) (Nat.le_of_ble_eq_true rfl) λa9 v10 C11=>(X5 (K:=K) (J:=({oo:=λx13=>[x13.2.2.2.2.2.2.2.2,x13.2.2.2.2.2.2.2.1,[]],ss:=λx13=>[some v_0,some v_1,some v_2,some v_3,some x13.2.2.2.1,some x13.2.2.2.2.2.1,x13.1,x13.2.1,x13.2.2.1,x13.2.2.2.2.1,x13.2.2.2.2.2.2.1],sc:=λg14 x13=>(SC.addO (SC.addO (SC.add (SC.add (SC.add (SC.add SC.nil K (rV Xa) v_0 a_0) K (rD Xa) v_1 a_1) K (rV Xa) v_2 a_2) K Xa v_3 a_3) K (oL (oF Yb)) x13.2.2.2.1 g14.1 x13.2.2.2.2.2.2.2.1) K (oL (oL (oF Xa))) x13.2.2.2.2.2.1 g14.2 x13.2.2.2.2.2.2.2.2)}:Jn ((List Bool)×(List (List Int))) (Option V×Option V×Option V×V×Option V×V×Option V×List XA×List XA))) (λ_=>tg1 6) ((none),(none),(none),v2,(none),v10,(none),C3,C11) (a1,a9) (Xy (Xc (r:=Xa) 3 rfl (λ_ s=>s.l.l.r))) rfl rfl (λ_ s=>(SC.i (SC.i (SC.i (SC.i (SC.i (SC.i SC.t s.l.l.l.l.l.r) s.l.l.l.l.r) s.l.l.l.r) s.l.l.r) s.l.r) s.r)) (λg15 x16 a17 v18=>(Y7 (J:=({oo:=λx23=>[x23.2.2.2.2.2.2.2,x23.2.2.2.2.2.2.1,[]],ss:=λx23=>[some v_0,some v_1,some v_2,some v_3,some x23.2.2.1,some x23.2.2.2.2.1,some v18,x23.1,x23.2.1,x23.2.2.2.1,x23.2.2.2.2.2.1],sc:=λg24 x23=>(SC.addO (SC.addO (SC.add (SC.add (SC.add (SC.add (SC.add SC.nil K (rV Xa) v_0 a_0) K (rD Xa) v_1 a_1) K (rV Xa) v_2 a_2) K Xa v_3 a_3) K Xa v18 a17) K (oL (oF Yb)) x23.2.2.1 g24.1 x23.2.2.2.2.2.2.1) K (oL (oL (oF Xa))) x23.2.2.2.2.1 g24.2 x23.2.2.2.2.2.2.2)}:Jn ((List Bool)×(List (List Int))) (Option V×Option V×V×Option V×V×Option V×List XA×List XA))) (ZP (Fd:=FNd ({oo:=λx23=>[x23.2.2.2.2.2.2.2,x23.2.2.2.2.2.2.1,[]],ss:=λx23=>[some v_0,some v_1,some v_2,some v_3,some x23.2.2.1,some x23.2.2.2.2.1,some v18,x23.1,x23.2.1,x23.2.2.2.1,x23.2.2.2.2.2.1],sc:=λg24 x23=>(SC.addO (SC.addO (SC.add (SC.add (SC.add (SC.add (SC.add SC.nil K (rV Xa) v_0 a_0) K (rD Xa) v_1 a_1) K (rV Xa) v_2 a_2) K Xa v_3 a_3) K Xa v18 a17) K (oL (oF Yb)) x23.2.2.1 g24.1 x23.2.2.2.2.2.2.1) K (oL (oL (oF Xa))) x23.2.2.2.2.1 g24.2 x23.2.2.2.2.2.2.2)}:Jn ((List Bool)×(List (List Int))) (Option V×Option V×V×Option V×V×Option V×List XA×List XA))) (Qm (VV (K:=K) (Xz (Zd (o:=(oL (oF Yb))) 4 1 rfl rfl (λ_ s=>s.l.l.r)) (Xc (r:=Xa) 6 rfl (λ_ s=>s.r))))) (XO (K:=K) (o:=(oL (oF Xa))) 7 2 (Z6 (o:=(oF Xa))) (Nat.le_of_ble_eq_true rfl) λa25 v26 C27=>(Xw (K:=K) (r:=Xa) 8 (Xj (r:=Xa) 6 rfl (λ_ s=>s.l.r)) λa28 v29=>(Va (J:=({oo:=λx30=>[x16.2.2.2.2.2.2.2.2,x30.2.2.2.2.2.1,x30.2.2.2.2.2.2],ss:=λx30=>[some v_0,some v_1,some v_2,some v_3,some x30.1,some x16.2.2.2.2.2.1,some v18,some x30.2.2.2.2.1,some x30.2.2.2.1,x30.2.1,x30.2.2.1],sc:=λg31 x30=>(SC.addO (SC.add (SC.addO (SC.add (SC.addO (SC.add (SC.add (SC.add (SC.add SC.nil K (rV Xa) v_0 a_0) K (rD Xa) v_1 a_1) K (rV Xa) v_2 a_2) K Xa v_3 a_3) K (oL (oL (oF Xa))) x16.2.2.2.2.2.1 g15.2 x16.2.2.2.2.2.2.2.2) K Xa v18 a17) K (oL (oF Yb)) x30.1 g31.1 x30.2.2.2.2.2.1) K Xa x30.2.2.2.1 g31.2.1) K (oL (oF Xa)) x30.2.2.2.2.1 g31.2.2 x30.2.2.2.2.2.2)}:Jn ((List Bool)×Int×(List Int)) (V×Option V×Option V×V×V×List XA×List XA))) (a_3.natAbs+2) (x16.2.2.2.1,(x16.2.2.2.2.1),(x16.2.2.2.2.2.2.1),v29,v26,x16.2.2.2.2.2.2.2.1,C27) (g15.1,a28,a25) rfl rfl (λ_ s=>(SC.i (SC.i (SC.i (SC.i (SC.i (SC.i (SC.i (SC.i (SC.i SC.t s.l.l.l.l.l.l.l.l.r) s.l.l.l.l.l.l.l.r) s.l.l.l.l.l.l.r) s.l.l.l.l.l.r) s.l.l.l.r) s.l.l.r) s.l.l.l.l.r) s.r) s.l.r)) (λg32 x33=>(Qm (VV (K:=K) (Xz (Zd (o:=(oL (oF Yb))) 4 1 rfl rfl (λ_ s=>s.l.l.r)) (Xc (r:=Xa) 8 rfl (λ_ s=>s.l.r)))))) (λg32 x33=>(Ff (K:=K) (o:=(oF Yb)) 4 1 rfl rfl (λ_ s=>s.l.l.r) (EvS.ev (EvB.sh (Qg true))) (λ_=>(Xc (r:=Xa) 8 rfl (λ_ s=>s.l.r))) λa39 C40=>(X5 (K:=K) (J:=({oo:=λx43=>[x16.2.2.2.2.2.2.2.2,C40,x43.2.2.2.2],ss:=λx43=>[some v_0,some v_1,some v_2,some v_3,some x33.1,some x16.2.2.2.2.2.1,some v18,some x43.2.2.2.1,some x43.2.2.1,x43.1,x43.2.1],sc:=λg44 x43=>(SC.addO (SC.add (SC.addO (SC.add (SC.addO (SC.add (SC.add (SC.add (SC.add SC.nil K (rV Xa) v_0 a_0) K (rD Xa) v_1 a_1) K (rV Xa) v_2 a_2) K Xa v_3 a_3) K (oL (oL (oF Xa))) x16.2.2.2.2.2.1 g15.2 x16.2.2.2.2.2.2.2.2) K Xa v18 a17) K (oL (oF Yb)) x33.1 a39 C40) K Xa x43.2.2.1 g44.1) K (oL (oF Xa)) x43.2.2.2.1 g44.2 x43.2.2.2.2)}:Jn (Int×(List Int)) (Option V×Option V×V×V×List XA))) (λ_=>tg1 9) ((x33.2.1),(x33.2.2.1),x33.2.2.2.1,x33.2.2.2.2.1,x33.2.2.2.2.2.2) (g32.2.1,g32.2.2) (Xy (X4 (Xc (r:=(rV Xa)) 0 rfl (λ_ s=>s.l.l.l.l.l.l.l.l.l.r)))) rfl rfl (λ_ s=>(SC.i (SC.i (SC.i (SC.i (SC.i (SC.i (SC.i (SC.i (SC.i SC.t s.l.l.l.l.l.l.l.l.l.r) s.l.l.l.l.l.l.l.l.r) s.l.l.l.l.l.l.l.r) s.l.l.l.l.l.l.r) s.l.l.l.l.l.r) s.l.l.l.l.r) s.r) s.l.l.r) s.l.r)) (λg45 x46 a47 v48=>(Xw (K:=K) (r:=Xa) 10 (EvB.sh (X7 (Xz (Xc (r:=(rV Xa)) 2 rfl (λ_ s=>s.l.l.l.l.l.l.l.r)) (XI (Yg (Xe 8) (Xc (r:=Xa) 9 rfl (λ_ s=>s.r))) (Xe 10))) (Y2 (Xc (r:=Xa) 3 rfl (λ_ s=>s.l.l.l.l.l.l.r)) (Xe 1)))) λa49 v50=>(Y7 (J:=({oo:=λx64=>[x16.2.2.2.2.2.2.2.2,C40,x64.2.2],ss:=λx64=>[some v_0,some v_1,some v_2,some v_3,some x33.1,some x16.2.2.2.2.2.1,some v18,some x64.2.1,some x64.1,some v48,some v50],sc:=λg65 x64=>(SC.addO (SC.add (SC.add (SC.add (SC.addO (SC.add (SC.addO (SC.add (SC.add (SC.add (SC.add SC.nil K (rV Xa) v_0 a_0) K (rD Xa) v_1 a_1) K (rV Xa) v_2 a_2) K Xa v_3 a_3) K (oL (oL (oF Xa))) x16.2.2.2.2.2.1 g15.2 x16.2.2.2.2.2.2.2.2) K Xa v18 a17) K (oL (oF Yb)) x33.1 a39 C40) K Xa v48 a47) K Xa v50 a49) K Xa x64.1 g65.1) K (oL (oF Xa)) x64.2.1 g65.2 x64.2.2)}:Jn (Int×(List Int)) (V×V×List XA))) (ZP (Fd:=FNd ({oo:=λx64=>[x16.2.2.2.2.2.2.2.2,C40,x64.2.2],ss:=λx64=>[some v_0,some v_1,some v_2,some v_3,some x33.1,some x16.2.2.2.2.2.1,some v18,some x64.2.1,some x64.1,some v48,some v50],sc:=λg65 x64=>(SC.addO (SC.add (SC.add (SC.add (SC.addO (SC.add (SC.addO (SC.add (SC.add (SC.add (SC.add SC.nil K (rV Xa) v_0 a_0) K (rD Xa) v_1 a_1) K (rV Xa) v_2 a_2) K Xa v_3 a_3) K (oL (oL (oF Xa))) x16.2.2.2.2.2.1 g15.2 x16.2.2.2.2.2.2.2.2) K Xa v18 a17) K (oL (oF Yb)) x33.1 a39 C40) K Xa v48 a47) K Xa v50 a49) K Xa x64.1 g65.1) K (oL (oF Xa)) x64.2.1 g65.2 x64.2.2)}:Jn (Int×(List Int)) (V×V×List XA))) (Xp (K:=K) (Ze (Xc (r:=Xa) 8 rfl (λ_ s=>s.l.l.l.r)) (Xc (r:=Xa) 10 rfl (λ_ s=>s.r)))) (Zb (K:=K) (o:=(oF Xa)) (f:=λa76=>(Rs.bind (Rs.bind (Rs.ok a49) λx79=>(Rs.bind (Rs.ok (1:Int)) λx80=>(Rs.ok (x79+x80)))) λa77=>(Rs.ok (a77,a76)))) 7 2 rfl rfl rfl (λ_ s=>s.l.l.r) (EvS.ev (EvB.sh (Yg (Xz (Xc (r:=(rV Xa)) 0 rfl (λ_ s=>s.l.l.l.l.l.l.l.l.l.l.r)) (Xc (r:=Xa) 9 rfl (λ_ s=>s.l.r))) (UH (Xc (r:=(rD Xa)) 1 rfl (λ_ s=>s.l.l.l.l.l.l.l.l.l.r)) (Xz (Xc (r:=(rV Xa)) 0 rfl (λ_ s=>s.l.l.l.l.l.l.l.l.l.l.r)) (Xc (r:=Xa) 9 rfl (λ_ s=>s.l.r))))))) λa74 C75=>(Xw (K:=K) (r:=Xa) 8 (EvB.sh (XI (Xc (r:=Xa) 10 rfl (λ_ s=>s.l.r)) (Xe 1))) λa77 v78=>(Xs (J:=_) (v78,x46.2.2.2.1,C75) (a77,(g45.2++[a74])) rfl rfl (λ_ s=>(SC.i (SC.i (SC.i (SC.i (SC.i (SC.i (SC.i (SC.i (SC.i (SC.i (SC.i SC.t s.l.l.l.l.l.l.l.l.l.l.l.l.r) s.l.l.l.l.l.l.l.l.l.l.l.r) s.l.l.l.l.l.l.l.l.l.l.r) s.l.l.l.l.l.l.l.l.l.r) s.l.l.l.l.l.l.l.l.r) s.l.l.l.l.l.l.l.r) s.l.l.l.l.l.l.r) s.l.l.l.r) s.l.l.r) s.r) s.l.r))))) (Y7 (J:=({oo:=λx86=>[x16.2.2.2.2.2.2.2.2,C40,x86.2.2],ss:=λx86=>[some v_0,some v_1,some v_2,some v_3,some x33.1,some x16.2.2.2.2.2.1,some v18,some x86.2.1,some x86.1,some v48,some v50],sc:=λg87 x86=>(SC.addO (SC.add (SC.add (SC.add (SC.addO (SC.add (SC.addO (SC.add (SC.add (SC.add (SC.add SC.nil K (rV Xa) v_0 a_0) K (rD Xa) v_1 a_1) K (rV Xa) v_2 a_2) K Xa v_3 a_3) K (oL (oL (oF Xa))) x16.2.2.2.2.2.1 g15.2 x16.2.2.2.2.2.2.2.2) K Xa v18 a17) K (oL (oF Yb)) x33.1 a39 C40) K Xa v48 a47) K Xa v50 a49) K Xa x86.1 g87.1) K (oL (oF Xa)) x86.2.1 g87.2 x86.2.2)}:Jn (Int×(List Int)) (V×V×List XA))) (ZP (Fd:=FNd ({oo:=λx86=>[x16.2.2.2.2.2.2.2.2,C40,x86.2.2],ss:=λx86=>[some v_0,some v_1,some v_2,some v_3,some x33.1,some x16.2.2.2.2.2.1,some v18,some x86.2.1,some x86.1,some v48,some v50],sc:=λg87 x86=>(SC.addO (SC.add (SC.add (SC.add (SC.addO (SC.add (SC.addO (SC.add (SC.add (SC.add (SC.add SC.nil K (rV Xa) v_0 a_0) K (rD Xa) v_1 a_1) K (rV Xa) v_2 a_2) K Xa v_3 a_3) K (oL (oL (oF Xa))) x16.2.2.2.2.2.1 g15.2 x16.2.2.2.2.2.2.2.2) K Xa v18 a17) K (oL (oF Yb)) x33.1 a39 C40) K Xa v48 a47) K Xa v50 a49) K Xa x86.1 g87.1) K (oL (oF Xa)) x86.2.1 g87.2 x86.2.2)}:Jn (Int×(List Int)) (V×V×List XA))) (Xp (K:=K) (Ze (Xc (r:=Xa) 8 rfl (λ_ s=>s.l.l.l.r)) (XI (Xc (r:=Xa) 10 rfl (λ_ s=>s.r)) (Xe 1)))) (Zb (K:=K) (o:=(oF Xa)) (f:=λa99=>(Rs.bind (Rs.ok a49) λa100=>(Rs.ok (a100,a99)))) 7 2 rfl rfl rfl (λ_ s=>s.l.l.r) (EvS.ev (EvB.sh (Yg (ZS (Xz (Xc (r:=(rV Xa)) 0 rfl (λ_ s=>s.l.l.l.l.l.l.l.l.l.l.r)) (Xc (r:=Xa) 9 rfl (λ_ s=>s.l.r)))) (UH (Xc (r:=(rD Xa)) 1 rfl (λ_ s=>s.l.l.l.l.l.l.l.l.l.r)) (Xz (Xc (r:=(rV Xa)) 0 rfl (λ_ s=>s.l.l.l.l.l.l.l.l.l.l.r)) (Xc (r:=Xa) 9 rfl (λ_ s=>s.l.r))))))) λa97 C98=>(Xw (K:=K) (r:=Xa) 8 (Xj (r:=Xa) 10 rfl (λ_ s=>s.l.r)) λa100 v101=>(Xs (J:=_) (v101,x46.2.2.2.1,C98) (a100,(g45.2++[a97])) rfl rfl (λ_ s=>(SC.i (SC.i (SC.i (SC.i (SC.i (SC.i (SC.i (SC.i (SC.i (SC.i (SC.i SC.t s.l.l.l.l.l.l.l.l.l.l.l.l.r) s.l.l.l.l.l.l.l.l.l.l.l.r) s.l.l.l.l.l.l.l.l.l.l.r) s.l.l.l.l.l.l.l.l.l.r) s.l.l.l.l.l.l.l.l.r) s.l.l.l.l.l.l.l.r) s.l.l.l.l.l.l.r) s.l.l.l.r) s.l.l.r) s.r) s.l.r))))) (Xs (J:=_) (x46.2.2.1,x46.2.2.2.1,x46.2.2.2.2) (g45.1,g45.2) rfl rfl (λ_ s=>(SC.i (SC.i (SC.i (SC.i (SC.i (SC.i (SC.i (SC.i (SC.i (SC.i (SC.i SC.t s.l.l.l.l.l.l.l.l.l.l.r) s.l.l.l.l.l.l.l.l.l.r) s.l.l.l.l.l.l.l.l.r) s.l.l.l.l.l.l.l.r) s.l.l.l.l.l.l.r) s.l.l.l.l.l.r) s.l.l.l.l.r) s.l.r) s.r) s.l.l.l.r) s.l.l.r)))) λg103 x102=>(Xs (J:=_) (x102.1,x102.2.1,x102.2.2) (g103.1,g103.2) rfl rfl (λ_ s=>(SC.i (SC.i (SC.i (SC.i (SC.i (SC.i (SC.i (SC.i (SC.i (SC.i (SC.i SC.t s.l.l.l.l.l.l.l.l.l.l.r) s.l.l.l.l.l.l.l.l.l.r) s.l.l.l.l.l.l.l.l.r) s.l.l.l.l.l.l.l.r) s.l.l.l.l.l.l.r) s.l.l.l.l.l.r) s.l.l.l.l.r) s.l.l.l.r) s.l.l.r) s.l.r) s.r))))) λg105 x104=>(Xs (J:=_) ((some v48),(some v50),x104.1,x104.2.1,x104.2.2) (g105.1,g105.2) rfl rfl (λ_ s=>(SC.i (SC.i (SC.i (SC.i (SC.i (SC.i (SC.i (SC.i (SC.i SC.t s.l.l.l.l.l.l.l.l.l.l.r) s.l.l.l.l.l.l.l.l.l.r) s.l.l.l.l.l.l.l.l.r) s.l.l.l.l.l.l.l.r) s.l.l.l.l.l.l.r) s.l.l.l.l.l.r) s.l.l.l.l.r) s.l.r) s.r)))))) λg106 x107=>(Xs (J:=_) (x33.1,(x107.1),(x107.2.1),x107.2.2.1,x107.2.2.2.1,C40,x107.2.2.2.2) (a39,g106.1,g106.2) rfl rfl (λ_ s=>(SC.i (SC.i (SC.i (SC.i (SC.i (SC.i (SC.i (SC.i (SC.i SC.t s.l.l.l.l.l.l.l.l.r) s.l.l.l.l.l.l.l.r) s.l.l.l.l.l.l.r) s.l.l.l.l.l.r) s.l.l.l.l.r) s.l.l.l.r) s.l.l.r) s.l.r) s.r)))))) λg109 x110=>(Zb (K:=K) (o:=(oL (oF Xa))) (f:=λa113=>(Rs.ok (g109.1,a113))) 5 0 rfl rfl rfl (λ_ s=>s.l.l.l.l.r) (X9 (o:=(oL (oF Xa))) 7 2 rfl rfl (λ_ s=>s.r)) λa111 C112=>(Xs (J:=_) ((some x110.2.2.2.2.1),(some x110.2.2.2.1),x110.1,(x110.2.1),x16.2.2.2.2.2.1,(x110.2.2.1),x110.2.2.2.2.2.1,C112) (g109.1,(g15.2++[a111])) rfl rfl (λ_ s=>(SC.i (SC.i (SC.i (SC.i (SC.i (SC.i (SC.i SC.t s.l.l.l.l.l.l.l.l.l.r) s.l.l.l.l.l.l.l.l.r) s.l.l.l.l.l.l.l.r) s.l.l.l.l.l.l.r) s.l.l.l.l.r) s.l.l.l.r) s.r))))))) (Xs (J:=_) ((x16.2.1),(x16.2.2.1),x16.2.2.2.1,(x16.2.2.2.2.1),x16.2.2.2.2.2.1,(x16.2.2.2.2.2.2.1),x16.2.2.2.2.2.2.2.1,x16.2.2.2.2.2.2.2.2) (g15.1,g15.2) rfl rfl (λ_ s=>(SC.i (SC.i (SC.i (SC.i (SC.i (SC.i (SC.i SC.t s.l.l.l.l.l.l.r) s.l.l.l.l.l.r) s.l.l.l.l.r) s.l.l.l.r) s.r) s.l.l.r) s.l.r)))) λg115 x114=>(Xs (J:=_) ((some v18),(x114.1),(x114.2.1),x114.2.2.1,(x114.2.2.2.1),x114.2.2.2.2.1,(x114.2.2.2.2.2.1),x114.2.2.2.2.2.2.1,x114.2.2.2.2.2.2.2) (g115.1,g115.2) rfl rfl (λ_ s=>(SC.i (SC.i (SC.i (SC.i (SC.i (SC.i SC.t s.l.l.l.l.l.l.r) s.l.l.l.l.l.r) s.l.l.l.l.r) s.l.l.l.r) s.l.r) s.r))))) λg116 x117=>(XC (X9 (o:=(oL (oL (oF Xa)))) 5 0 rfl rfl (λ_ s=>s.r))))))
theorem Y0:FnScope ["_law_script","_law_place","_law_most","_law_sizes","_law_some","_law_names","_law_signs","_law_last","_law_k","_law_step","_law_walks","_law_rings"] ["_law_script","_law_place","_law_most"] (Xi Uq):=⟨rfl,rfl,rfl,by decide+kernel,rfl,by decide+kernel,by decide+kernel⟩
theorem EK (D:Def K mg "_law_drawn" Uq ["_law_script","_law_place","_law_most"])(g_row:Fn P w K mg base 2 "_law_row" ["_law_script","_law_place","_law_sizes"] (sp3 (rL Xa) Xa (rV Xa) (oL (oF Xa)) KP K))(g_plaited:Fn P w K mg base 1 "_law_plaited" ["_law_names","_law_signs","_law_some","_law_strands"] (sp4 (rV Xa) (rD Xa) (rV Xa) Xa (oL (oL (oF Xa))) Z4 K))(g_any:Fn P w K mg base 1 "_law_any" ["_law_names","_law_some","_law_rings"] (sp3 (rV Xa) (rV Xa) Xa (oL (oL (oF Xa))) F6 K))(g_mixed:Fn P w K mg base 1 "_law_mixed" ["_law_names","_law_some"] (sp2 (rV Xa) (rV Xa) (oL (oF Xa)) Jr K))(Z:Blt mg):Fn P w K mg base 3 "_law_drawn" ["_law_script","_law_place","_law_most"] (sp3 (rL Xa) Xa Xa (oT2 (oL (oL (oF Xa))) (oL (oF (rP2 Xa Xa)))) Qq K):=by
 refine Ys D Y0 (λvs H Q E h=>?_) (λf cdv A outer s H vs Q E hr h=>?_)
 ·obtain⟨v_0,v_1,v_2,a_0,a_1,a_2,b,rfl,_⟩:=h;rfl
 obtain⟨v_0,v_1,v_2,a_0,a_1,a_2,b,rfl,h_0,h_1,h_2,hm,q⟩:=h
 have hu:=hu8 hr
 have hu1:=Yr hr
 refine⟨_,(Xb (Xn (i:=3) Y0.nd rfl (Or.inl rfl) (X1 (Xd (Xq XZ (pv 2) Xh) (Xd Xh (Xd Xh (Xd Xh (Xd Xh Xf)))))))
  (Xb (Xn (i:=4) Y0.nd rfl (Or.inl rfl) (X6 g_row hr (by decide) (Xd (pv 0) (Xd (pv 1) (Xd (Xq Uc (pv 3) (Xq GY (X1 (Xd Xh (Xd Xh (Xd Xh (Xd Xh Xf))))) (Xq YQ Xh (pv 2)))) Xf)))))
  (Xb (Xn (i:=5) Y0.nd rfl (Or.inl rfl) (X1 Xf))
  (Xb (Xn (i:=6) Y0.nd rfl (Or.inr rfl) E6)
  (Xb (Xn (i:=7) Y0.nd rfl (Or.inl rfl) Xh)
  (Xb (XU PassesOwn.never rfl (XQ rfl Z.b_range (Xd (XD (Xk K rfl) (pv 4) Xh (λ_ _=>rfl)) Xf)) (Xm (i:=8) Y0.nd rfl (Or.inl rfl))
   (Xb (Xn (i:=9) Y0.nd rfl (Or.inl rfl) (Xq YQ (XD (Xk K rfl) (pv 4) (Xq XZ (Xq YQ Xh (pv 8)) Xh) (λ_ _=>rfl)) (XD (Xk K rfl) (X1 (Xd Xh (Xd Xh (Xd (Xq DS Xh Xh) Xf)))) (XD (Xk K rfl) (pv 4) Xh (λ_ _=>rfl)) (λ_ _=>rfl))))
   (Xb (Xn (i:=7) Y0.nd rfl (Or.inl rfl) (Xq XZ (Xq XZ (pv 7) Xh) (pv 9)))
   (Xb (Yd (Zk PySem.F.plainAttrs_list PySem.F.slot_list_append PySem.F.type_list_append XR (pv 5) (Xd (pv 7) Xf)))
   (Xb (HM hu1 (pv 6) (pv 7) (Xq ZC (Xq YQ Xh (XD (Xk K rfl) (pv 4) (Xq XZ (Xq YQ Xh (pv 8)) Xh) (λ_ _=>rfl))) Xh) rfl)
   Xg)))))
  (Xb (YT (Xx QI (XD (Xk K rfl) (pv 4) Xh (λ_ _=>rfl)) Xh (XN _))
   (Xb (Xn (i:=10) Y0.nd rfl (Or.inl rfl) (X6 g_plaited hr (by decide) (Xd (X6 g_mixed hr (by decide) (Xd (pv 5) (Xd (pv 4) Xf))) (Xd (pv 6) (Xd (pv 4) (Xd (Xq XZ Xh (XD (Xk K rfl) (pv 4) Xh (λ_ _=>rfl))) Xf))))))
   Xg)
   (Xb (Xn (i:=11) Y0.nd rfl (Or.inl rfl) (Xr (Jg rfl) rfl Z.b_max PyProof.Rows.boot_max (Xd (XD (Xk K rfl) (pv 4) Xh (λ_ _=>rfl)) (Xd (Xr (KA rfl) rfl Z.b_min PyProof.Rows.boot_min (Xd (Xr (Xo K rfl) rfl Z.b_len PySem.boot_len (Xd (pv 5) Xf)) (Xd Xh Xf))) Xf))))
   (Xb (Xn (i:=10) Y0.nd rfl (Or.inl rfl) (X6 g_any hr (by decide) (Xd (pv 5) (Xd (pv 4) (Xd (pv 11) Xf)))))
   Xg)))
  (Xb (XB (ZE (Xd (pv 10) (Xd (Zq (sc:=(Xi Uq)) (N0:=["_law_script","_law_place","_law_most","_law_sizes","_law_some","_law_names","_law_signs","_law_last","_law_k","_law_step","_law_walks","_law_rings"]) (tns:=["_law_one"]) (caps:=[(6,"_law_signs")]) rfl (XE (K:=K) rfl (pv 5)) (Y3 (by decide)) (λcl C s H ex E=>⟨Xm (i:=0) (show List.Nodup (["_law_one","_law_signs"]:List Str) by decide+kernel) rfl (Or.inl rfl),Zo,(ZE (Xd (pv 0) (Xd (GD hu1 (pv 1) (pv 0) (λ_ _=>rfl)) Xf)))⟩)) Xf))))
  Xg)))))))),?_⟩
 refine Yt (S:=(SC.add (SC.add (SC.add SC.nil K (rL Xa) v_0 a_0) K Xa v_1 a_1) K Xa v_2 a_2)) (σ:=[some v_0,some v_1,some v_2,none,none,none,none,none,none,none,none,none]) 3 ?_ (SC.i (SC.i (SC.i SC.t h_0) h_1) h_2) hm q rfl
 unfold Qq
 exact(Xw (K:=K) (r:=(rV Xa)) 3 (Ev.sh (Zx (Xu (EvB.sh (XI (Xc (r:=Xa) 2 rfl (λ_ s=>s.r)) (Xe 1))) (Xu (EvB.sh (Xe 5)) (Xu (EvB.sh (Xe 4)) (Xu (EvB.sh (Xe 3)) (Xu (EvB.sh (Xe 3)) YY))))))) λa1 v2=>(Xw (K:=K) (r:=(rV Xa)) 4 (Ev.sh (YV (Xc (r:=(rL Xa)) 0 rfl (λ_ s=>s.l.l.l.r)) (Xc (r:=Xa) 1 rfl (λ_ s=>s.l.l.r)) (Ev.toB (Uj (EvS.ls (Xj (r:=(rV Xa)) 3 rfl (λ_ s=>s.r))) (Ev.ls (Fq (Ev.ls (Zx (Xu (EvB.sh (Xe 80)) (Xu (EvB.sh (Xe 5)) (Xu (EvB.sh (Xe 2)) (Xu (EvB.sh (Xe 3)) YY)))))) (Yg (Xe 2) (Xc (r:=Xa) 2 rfl (λ_ s=>s.l.r))))))))) λa16 v17=>(XO (K:=K) (o:=(oL (oF Xa))) 5 2 (Z6 (o:=(oF Xa))) (Nat.le_of_ble_eq_true rfl) λa37 v38 C39=>(XO (K:=K) (o:=(oD Xa)) 6 1 (Ik (r:=Xa)) (Nat.le_of_ble_eq_true rfl) λa40 v41 C42=>(Xw (K:=K) (r:=Xa) 7 (EvB.sh (Xe 0)) λa43 v44=>(X5 (K:=K) (J:=({oo:=λx48=>[[],x48.2.2.2.2.2.1,x48.2.2.2.2.2.2],ss:=λx48=>[some v_0,some v_1,some v_2,some v2,some v17,some x48.2.2.2.2.1,some x48.2.2.2.1,some x48.2.2.1,x48.1,x48.2.1,none,none],sc:=λg49 x48=>(SC.addO (SC.addO (SC.add (SC.add (SC.add (SC.add (SC.add (SC.add SC.nil K (rL Xa) v_0 a_0) K Xa v_1 a_1) K Xa v_2 a_2) K (rV Xa) v2 a1) K (rV Xa) v17 a16) K Xa x48.2.2.1 g49.1) K (oD Xa) x48.2.2.2.1 g49.2.1 x48.2.2.2.2.2.1) K (oL (oF Xa)) x48.2.2.2.2.1 g49.2.2 x48.2.2.2.2.2.2)}:Jn (Int×(List (Int×Int))×(List Int)) (Option V×Option V×V×V×V×List XA×List XA))) (λ_=>tg1 8) ((none),(none),v44,v41,v38,C42,C39) (a43,a40,a37) (Xy (Xz (Xc (r:=(rV Xa)) 4 rfl (λ_ s=>s.l.l.l.r)) (Xe 0))) rfl rfl (λ_ s=>(SC.i (SC.i (SC.i (SC.i (SC.i (SC.i (SC.i (SC.i SC.t s.l.l.l.l.l.l.l.r) s.l.l.l.l.l.l.r) s.l.l.l.l.l.r) s.l.l.l.l.r) s.l.l.l.r) s.r) s.l.r) s.l.l.r)) (λg50 x51 a52 v53=>(Xw (K:=K) (r:=Xa) 9 (EvB.sh (Yg (Xz (Xc (r:=(rV Xa)) 4 rfl (λ_ s=>s.l.l.l.l.r)) (XI (Yg (Xe 8) (Xc (r:=Xa) 8 rfl (λ_ s=>s.r))) (Xe 8))) (Xz (Ev.toB (Zx (Xu (EvB.sh (Xe 0)) (Xu (EvB.sh (Xe 1)) (Xu (EvB.sh (Gg (Xe 10) (Xe 9))) YY))))) (Xz (Xc (r:=(rV Xa)) 4 rfl (λ_ s=>s.l.l.l.l.r)) (Xe 3))))) λa54 v55=>(Xw (K:=K) (r:=Xa) 7 (EvB.sh (XI (XI (Xc (r:=Xa) 7 rfl (λ_ s=>s.l.l.l.l.r)) (Xe 1)) (Xc (r:=Xa) 9 rfl (λ_ s=>s.r)))) λa77 v78=>(Zb (K:=K) (o:=(oF Xa)) (f:=λa85=>(Rs.bind (Rs.bind (Rs.bind (Rs.ok (2:Int)) λx92=>(Rs.bind (Rs.bind (Rs.ok a16) λx90=>(Rs.bind (Rs.bind (Rs.bind (Rs.ok (8:Int)) λx86=>(Rs.bind (Rs.ok a52) λx87=>(QP x86 x87))) λx88=>(Rs.bind (Rs.ok (7:Int)) λx89=>(Rs.ok (x88+x89)))) λx91=>(atR x90 x91))) λx93=>(QP x92 x93))) λx94=>(Rs.bind (Rs.ok (1:Int)) λx95=>(Rs.ok (x94-x95)))) λx96=>(Rs.bind (Rs.ok a77) λx97=>(chk (g50.2.1.length<sizeLine) ((λa98=>(Rs.ok (a77,a98,a85))) (GJ g50.2.1 x97 x96)))))) 5 2 rfl rfl rfl (λ_ s=>s.l.l.l.r) (EvS.ev (Xj (r:=Xa) 7 rfl (λ_ s=>s.r))) λa83 C84=>(HD (K:=K) (r:=Xa) (f:=λa98=>(Rs.ok (a77,a98,(g50.2.2++[a83])))) 6 1 rfl rfl (λ_ s=>s.l.l.l.l.l.r) (EvB.sh (Y2 (Yg (Xe 2) (Xz (Xc (r:=(rV Xa)) 4 rfl (λ_ s=>s.l.l.l.l.l.l.l.r)) (XI (Yg (Xe 8) (Xc (r:=Xa) 8 rfl (λ_ s=>s.l.l.l.r))) (Xe 7)))) (Xe 1))) (Xc (r:=Xa) 7 rfl (λ_ s=>s.l.r)) λa98 C99=>(Xs (J:=_) ((some v53),(some v55),v78,x51.2.2.2.1,x51.2.2.2.2.1,C99,C84) (a77,a98,(g50.2.2++[a83])) rfl rfl (λ_ s=>(SC.i (SC.i (SC.i (SC.i (SC.i (SC.i (SC.i (SC.i SC.t s.l.l.l.l.l.l.l.l.l.l.l.l.r) s.l.l.l.l.l.l.l.l.l.l.l.r) s.l.l.l.l.l.l.l.l.l.l.r) s.l.l.l.l.l.l.l.l.l.r) s.l.l.l.l.l.l.l.l.r) s.l.l.r) s.r) s.l.r)))))))) λg100 x101=>(Y7 (J:=({oo:=λx107=>[x107.2.2,x101.2.2.2.2.2.1,x101.2.2.2.2.2.2],ss:=λx107=>[some v_0,some v_1,some v_2,some v2,some v17,some x101.2.2.2.2.1,some x101.2.2.2.1,some x101.2.2.1,x101.1,x101.2.1,some x107.1,x107.2.1],sc:=λg108 x107=>(SC.addO (SC.addO (SC.addO (SC.add (SC.add (SC.add (SC.add (SC.add (SC.add SC.nil K (rL Xa) v_0 a_0) K Xa v_1 a_1) K Xa v_2 a_2) K (rV Xa) v2 a1) K (rV Xa) v17 a16) K Xa x101.2.2.1 g100.1) K (oD Xa) x101.2.2.2.1 g100.2.1 x101.2.2.2.2.2.1) K (oL (oF Xa)) x101.2.2.2.2.1 g100.2.2 x101.2.2.2.2.2.2) K (oL (oL (oF Xa))) x107.1 g108 x107.2.2)}:Jn ((List (List Int))) (V×Option V×List XA))) (ZP (Fd:=FNd ({oo:=λx107=>[x107.2.2,x101.2.2.2.2.2.1,x101.2.2.2.2.2.2],ss:=λx107=>[some v_0,some v_1,some v_2,some v2,some v17,some x101.2.2.2.2.1,some x101.2.2.2.1,some x101.2.2.1,x101.1,x101.2.1,some x107.1,x107.2.1],sc:=λg108 x107=>(SC.addO (SC.addO (SC.addO (SC.add (SC.add (SC.add (SC.add (SC.add (SC.add SC.nil K (rL Xa) v_0 a_0) K Xa v_1 a_1) K Xa v_2 a_2) K (rV Xa) v2 a1) K (rV Xa) v17 a16) K Xa x101.2.2.1 g100.1) K (oD Xa) x101.2.2.2.1 g100.2.1 x101.2.2.2.2.2.1) K (oL (oF Xa)) x101.2.2.2.2.1 g100.2.2 x101.2.2.2.2.2.2) K (oL (oL (oF Xa))) x107.1 g108 x107.2.2)}:Jn ((List (List Int))) (V×Option V×List XA))) (Xp (K:=K) (Zy (Xz (Xc (r:=(rV Xa)) 4 rfl (λ_ s=>s.l.l.l.r)) (Xe 2)) (Xe 2))) (XO (K:=K) (o:=(oL (oL (oF Xa)))) 10 0 (E5 (Ev.toB (XW (Zd (o:=(oL (oF Xa))) 5 2 rfl rfl (λ_ s=>s.r)) (Xc (r:=(rV Xa)) 4 rfl (λ_ s=>s.l.l.l.r)))) (Zd (o:=(oD Xa)) 6 1 rfl rfl (λ_ s=>s.l.r)) (Xc (r:=(rV Xa)) 4 rfl (λ_ s=>s.l.l.l.r)) (XI (Xe 2) (Xz (Xc (r:=(rV Xa)) 4 rfl (λ_ s=>s.l.l.l.r)) (Xe 4)))) (Nat.le_of_ble_eq_true rfl) λa109 v110 C111=>(Xs (J:=_) (v110,(none),C111) (a109) rfl rfl (λ_ s=>(SC.i (SC.i (SC.i (SC.i (SC.i (SC.i (SC.i (SC.i (SC.i SC.t s.l.l.l.l.l.l.l.l.r) s.l.l.l.l.l.l.l.r) s.l.l.l.l.l.l.r) s.l.l.l.l.l.r) s.l.l.l.l.r) s.l.l.l.r) s.l.l.r) s.l.r) s.r)))) (Xw (K:=K) (r:=Xa) 11 (EvB.sh (Ux (Xz (Xc (r:=(rV Xa)) 4 rfl (λ_ s=>s.l.l.l.r)) (Xe 1)) (DH (X4 (Zd (o:=(oL (oF Xa))) 5 2 rfl rfl (λ_ s=>s.r))) (Xe 1)))) λa124 v125=>(XO (K:=K) (o:=(oL (oL (oF Xa)))) 10 0 (YV (Zd (o:=(oL (oF Xa))) 5 2 rfl rfl (λ_ s=>s.l.r)) (Xc (r:=(rV Xa)) 4 rfl (λ_ s=>s.l.l.l.l.r)) (Xc (r:=Xa) 11 rfl (λ_ s=>s.r))) (Nat.le_of_ble_eq_true rfl) λa133 v134 C135=>(Xs (J:=_) (v134,(some v125),C135) (a133) rfl rfl (λ_ s=>(SC.i (SC.i (SC.i (SC.i (SC.i (SC.i (SC.i (SC.i (SC.i SC.t s.l.l.l.l.l.l.l.l.l.r) s.l.l.l.l.l.l.l.l.r) s.l.l.l.l.l.l.l.r) s.l.l.l.l.l.l.r) s.l.l.l.l.l.r) s.l.l.l.l.r) s.l.l.l.r) s.l.l.r) s.r)))))) λg141 x140=>(XC (Jf (X9 (o:=(oL (oL (oF Xa)))) 10 0 rfl rfl (λ_ s=>s.r)) λ_=>(IQ (K:=K) (o1:=(oL (oF Xa))) 3 rfl (λ_ s=>s.l.r) (Zn (λ_=>tg1 0) (Xv (Xj (r:=(rV Xa)) 5 rfl (λ_ s=>s.r))) (λC142 a143 v144=>(EvS.ev (Qx (Xj (r:=Xa) 0 rfl (λ_ s=>s.r)) (EvB.sh (UH (Zd (o:=(oD Xa)) 1 3 rfl rfl (λ_ s=>s.l.l.l.l.r)) (Xc (r:=Xa) 0 rfl (λ_ s=>s.r))))))))))))))))))
theorem HA:FnScope ["_law_drawing"] ["_law_drawing"] (Xi FN):=⟨rfl,rfl,rfl,by decide+kernel,rfl,by decide+kernel,by decide+kernel⟩
theorem HG (D:Def K mg "_law_copy" FN ["_law_drawing"])(Z:Blt mg):Fn P w K mg base 1 "_law_copy" ["_law_drawing"] (sp1 (rP2 (rV (rV Xa)) (rV (rP2 Xa Xa))) (oT2 (oL (oL (oF Xa))) (oL (oF (rP2 Xa Xa)))) Ui K):=by
 refine Ys D HA (λvs H Q E h=>?_) (λf cdv A outer s H vs Q E hr h=>?_)
 ·obtain⟨v_0,a_0,b,rfl,_⟩:=h;rfl
 obtain⟨v_0,a_0,b,rfl,h_0,hm,q⟩:=h
 have hu:=hu8 hr
 have hu1:=Yr hr
 refine⟨_,(Xb (XB (ZE (Xd (Zq (sc:=(Xi FN)) (N0:=["_law_drawing"]) (tns:=["_law_walk"]) (caps:=[]) rfl (XE (K:=K) rfl (XD (Yj K rfl) (pv 0) Xh (λ_ _=>rfl))) (Y3 (by decide)) (λcl C s H ex E=>⟨Xm (i:=0) (show List.Nodup (["_law_walk"]:List Str) by decide+kernel) rfl (Or.inl rfl),Zo,(Zc (Yc K rfl) rfl Z.b_list PyProof.Rows.boot_list (Xd (pv 0) Xf))⟩)) (Xd (Zc (Yc K rfl) rfl Z.b_list PyProof.Rows.boot_list (Xd (XD (Yj K rfl) (pv 0) Xh (λ_ _=>rfl)) Xf)) Xf))))
  Xg),?_⟩
 refine Yt (S:=(SC.add SC.nil K (rP2 (rV (rV Xa)) (rV (rP2 Xa Xa))) v_0 a_0)) (σ:=[some v_0]) 0 ?_ (SC.i SC.t h_0) hm q rfl
 unfold Ui
 exact(XC (Jf (Zn (λ_=>tg1 0) (Xv (Qd (Xj (r:=(rP2 (rV (rV Xa)) (rV (rP2 Xa Xa)))) 0 rfl (λ_ s=>s.r)))) (λC2 a3 v4=>(Qa (EvS.ls (Xj (r:=(rV Xa)) 0 rfl (λ_ s=>s.r)))))) λ_=>(Qa (EvB.ls (Q4 (Xc (r:=(rP2 (rV (rV Xa)) (rV (rP2 Xa Xa)))) 0 rfl (λ_ s=>s.r)))))))
theorem Gx:FnScope ["_law_one"] ["_law_one"] (Xi Jw):=⟨rfl,rfl,rfl,by decide+kernel,rfl,by decide+kernel,by decide+kernel⟩
theorem Gq (D:Def K mg "_law_is_whole" Jw ["_law_one"])(Z:Blt mg):Fn P w K mg base 1 "_law_is_whole" ["_law_one"] (sp1 Xa (oF Yb) QC K):=by
 refine Ys D Gx (λvs H Q E h=>?_) (λf cdv A outer s H vs Q E hr h=>?_)
 ·obtain⟨v_0,a_0,b,rfl,_⟩:=h;rfl
 obtain⟨v_0,a_0,b,rfl,h_0,hm,q⟩:=h
 have hu:=hu8 hr
 have hu1:=Yr hr
 refine⟨_,(Xb (XB (Mp (Xr Z7 rfl Z.b_isinstance PyProof.Rows.boot_isinstance (Xd (pv 0) (Xd (UO (v:=V.ty "int") rfl Z.b_int PyProof.Rows.boot_int rfl) Xf))) (Mk (Ml (Xr Z7 rfl Z.b_isinstance PyProof.Rows.boot_isinstance (Xd (pv 0) (Xd (UO (v:=V.ty "bool") rfl Z.b_bool PyProof.Rows.boot_bool rfl) Xf)))))))
  Xg),?_⟩
 refine Yt (S:=(SC.add SC.nil K Xa v_0 a_0)) (σ:=[some v_0]) 0 ?_ (SC.i SC.t h_0) hm q rfl
 unfold QC
 exact(XC (EvS.ev (EvB.sh (B8 (Qv "int" true (UL K "int") (Xc (r:=Xa) 0 rfl (λ_ s=>s.r))) (EM (Qv "bool" false (KU K) (Xc (r:=Xa) 0 rfl (λ_ s=>s.r))))))))
theorem JH:FnScope ["_law_found","_law_one"] ["_law_found"] (Xi QU):=⟨rfl,rfl,rfl,by decide+kernel,rfl,by decide+kernel,by decide+kernel⟩
theorem Ka (D:Def K mg "_law_is_wholes" QU ["_law_found"])(g_is_whole:Fn P w K mg base 1 "_law_is_whole" ["_law_one"] (sp1 Xa (oF Yb) QC K))(Z:Blt mg):Fn P w K mg base 2 "_law_is_wholes" ["_law_found"] (sp1 (rV Xa) (oF Yb) Zj K):=by
 refine Ys D JH (λvs H Q E h=>?_) (λf cdv A outer s H vs Q E hr h=>?_)
 ·obtain⟨v_0,a_0,b,rfl,_⟩:=h;rfl
 obtain⟨v_0,a_0,b,rfl,h_0,hm,q⟩:=h
 have hu:=hu8 hr
 have hu1:=Yr hr
 refine⟨_,(Xb (YT (JM (QM (Xr Z7 rfl Z.b_isinstance PyProof.Rows.boot_isinstance (Xd (pv 0) (Xd (UO (v:=V.ty "list") rfl Z.b_list PyProof.Rows.boot_list rfl) Xf)))))
   (Xb (XB JO)
   Xg)
   Xg)
  (Xb (XU PassesOwn.never rfl (XE (K:=K) rfl (pv 0)) (Xm (i:=1) JH.nd rfl (Or.inl rfl))
   (Xb (YT (JM (QM (X6 g_is_whole hr (by decide) (Xd (pv 1) Xf))))
    (Xb (XB JO)
    Xg)
    Xg)
   Xg))
  (Xb (XB JO)
  Xg))),?_⟩
 refine Yt (S:=(SC.add SC.nil K (rV Xa) v_0 a_0)) (σ:=[some v_0,none]) 0 ?_ (SC.i SC.t h_0) hm q rfl
 unfold Zj
 exact(ZL (Qm (VV (K:=K) (Qv "list" true (UL K "list") (Xc (r:=(rV Xa)) 0 rfl (λ_ s=>s.r))))) (XC (EvS.ev (EvB.sh (Qg false)))) (VP (K:=K) (J:=({oo:=λx4=>[],ss:=λx4=>[some v_0,x4],sc:=λg5 x4=>(SC.add SC.nil K (rV Xa) v_0 a_0)}:Jn (Unit) (Option V))) (λ_=>tg1 1) ((none)) () (Xv (Xj (r:=(rV Xa)) 0 rfl (λ_ s=>s.r))) rfl rfl (λ_ s=>(SC.i SC.t s.r)) (λg6 x7 a8 v9=>(Vl (Qm (VV (K:=K) (Ev.toB (Yy (Xc (r:=Xa) 1 rfl (λ_ s=>s.r)))))) (XC (EvS.ev (EvB.sh (Qg false)))) (Kh (Xs (J:=_) ((some v9)) () rfl rfl (λ_ s=>(SC.i SC.t s.l.r)))))) λg16 x17=>(XC (EvS.ev (EvB.sh (Qg true))))))
theorem V9:FnScope ["_law_way","_law_size","_law_factor","_law_a","_law_b","_law_half"] ["_law_way","_law_size","_law_factor","_law_a","_law_b"] (Xi Vf):=⟨rfl,rfl,rfl,by decide+kernel,rfl,by decide+kernel,by decide+kernel⟩
theorem FX (D:Def K mg "_law_cell_of" Vf ["_law_way","_law_size","_law_factor","_law_a","_law_b"])(Z:Blt mg):Fn P w K mg base 1 "_law_cell_of" ["_law_way","_law_size","_law_factor","_law_a","_law_b"] (sp5 Xa Xa Xa Xa Xa (oF Xa) ZI K):=by
 refine Ys D V9 (λvs H Q E h=>?_) (λf cdv A outer s H vs Q E hr h=>?_)
 ·obtain⟨v_0,v_1,v_2,v_3,v_4,a_0,a_1,a_2,a_3,a_4,b,rfl,_⟩:=h;rfl
 obtain⟨v_0,v_1,v_2,v_3,v_4,a_0,a_1,a_2,a_3,a_4,b,rfl,h_0,h_1,h_2,h_3,h_4,hm,q⟩:=h
 have hu:=hu8 hr
 have hu1:=Yr hr
 refine⟨_,(Xb (Xn (i:=5) V9.nd rfl (Or.inl rfl) (Xq UW (pv 1) Xh))
  (Xb (YT (Xx Qi (pv 0) Xh (XN _))
   (Xb (XB (Xq Yv (Xq ZC (Xq YQ Xh (pv 4)) (pv 3)) (pv 1)))
   Xg)
   Xg)
  (Xb (YT (Xx Qi (pv 0) Xh (XN _))
   (Xb (XB (Xq Yv (Xq XZ (Xq YQ (pv 2) (pv 3)) (Xq YQ (Xq ZC Xh (pv 2)) (pv 4))) (pv 1)))
   Xg)
   Xg)
  (Xb (YT (PW.pt (ZX (Xx Qi (pv 0) Xh (XN _)) (ZX (Xx FW (pv 1) Xh (XN _)) (ZX (Xx QI (pv 3) Xh (XN _)) (Qk (Xx Qi (pv 4) (Xq ZC (pv 1) Xh) (XN _)))))))
   (Xb (XB (Xq ZC Xh (pv 3)))
   Xg)
   Xg)
  (Xb (YT (PW.pt (ZX (Xx Qi (pv 0) Xh (XN _)) (ZX (Xx QI (pv 3) (Xq ZC (pv 1) Xh) (XN _)) (Qk (Xx Qi (pv 4) (Xq ZC (pv 1) Xh) (XN _))))))
   (Xb (XB (Xq Yv (Xq XZ (pv 3) Xh) (Xq ZC (pv 1) Xh)))
   Xg)
   Xg)
  (Xb (YT (PW.pt (ZX (Xx Qi (pv 0) Xh (XN _)) (ZX (Xx QI (pv 3) (pv 5) (XN _)) (Qk (Xx QI (pv 4) (pv 5) (XN _))))))
   (Xb (XB (Xq Yv (Xq ZC (Xq YQ Xh (pv 4)) (pv 3)) (pv 5)))
   Xg)
   Xg)
  (Xb (YT (PW.pt (ZX (Xx Qi (pv 0) Xh (XN _)) (ZX (Xx Mg (pv 3) (pv 5) (XN _)) (Qk (Xx Mg (pv 4) (pv 5) (XN _))))))
   (Xb (XB (Xq XZ (pv 5) (Xq Yv (Xq ZC (Xq ZC (Xq YQ Xh (pv 4)) (pv 3)) (pv 5)) (Xq ZC (pv 1) (pv 5)))))
   Xg)
   Xg)
  (Xb (XB (pv 3))
  Xg)))))))),?_⟩
 refine Yt (S:=(SC.add (SC.add (SC.add (SC.add (SC.add SC.nil K Xa v_0 a_0) K Xa v_1 a_1) K Xa v_2 a_2) K Xa v_3 a_3) K Xa v_4 a_4)) (σ:=[some v_0,some v_1,some v_2,some v_3,some v_4,none]) 0 ?_ (SC.i (SC.i (SC.i (SC.i (SC.i SC.t h_0) h_1) h_2) h_3) h_4) hm q rfl
 unfold ZI
 exact(Xw (K:=K) (r:=Xa) 5 (EvB.sh (Gm (Xc (r:=Xa) 1 rfl (λ_ s=>s.l.l.l.r)) (Xe 2))) λa1 v2=>(ZL (Xp (K:=K) (Ze (Xc (r:=Xa) 0 rfl (λ_ s=>s.l.l.l.l.l.r)) (Xe 1))) (XC (EvS.ev (EvB.sh (X7 (Y2 (Yg (Xe 2) (Xc (r:=Xa) 4 rfl (λ_ s=>s.l.r))) (Xc (r:=Xa) 3 rfl (λ_ s=>s.l.l.r))) (Xc (r:=Xa) 1 rfl (λ_ s=>s.l.l.l.l.r)))))) (ZL (Xp (K:=K) (Ze (Xc (r:=Xa) 0 rfl (λ_ s=>s.l.l.l.l.l.r)) (Xe 2))) (XC (EvS.ev (EvB.sh (X7 (XI (Yg (Xc (r:=Xa) 2 rfl (λ_ s=>s.l.l.l.r)) (Xc (r:=Xa) 3 rfl (λ_ s=>s.l.l.r))) (Yg (Y2 (Xe 1) (Xc (r:=Xa) 2 rfl (λ_ s=>s.l.l.l.r))) (Xc (r:=Xa) 4 rfl (λ_ s=>s.l.r)))) (Xc (r:=Xa) 1 rfl (λ_ s=>s.l.l.l.l.r)))))) (ZL (Zh (Xp (K:=K) (Ze (Xc (r:=Xa) 0 rfl (λ_ s=>s.l.l.l.l.l.r)) (Xe 3))) (Zh (Xp (K:=K) (Ud (Xc (r:=Xa) 1 rfl (λ_ s=>s.l.l.l.l.r)) (Xe 2))) (Zh (Xp (K:=K) (Zy (Xc (r:=Xa) 3 rfl (λ_ s=>s.l.l.r)) (Xe 2))) (Xp (K:=K) (Ze (Xc (r:=Xa) 4 rfl (λ_ s=>s.l.r)) (Y2 (Xc (r:=Xa) 1 rfl (λ_ s=>s.l.l.l.l.r)) (Xe 1))))))) (XC (EvS.ev (EvB.sh (Y2 (Xe 1) (Xc (r:=Xa) 3 rfl (λ_ s=>s.l.l.r)))))) (ZL (Zh (Xp (K:=K) (Ze (Xc (r:=Xa) 0 rfl (λ_ s=>s.l.l.l.l.l.r)) (Xe 6))) (Zh (Xp (K:=K) (Zy (Xc (r:=Xa) 3 rfl (λ_ s=>s.l.l.r)) (Y2 (Xc (r:=Xa) 1 rfl (λ_ s=>s.l.l.l.l.r)) (Xe 1)))) (Xp (K:=K) (Ze (Xc (r:=Xa) 4 rfl (λ_ s=>s.l.r)) (Y2 (Xc (r:=Xa) 1 rfl (λ_ s=>s.l.l.l.l.r)) (Xe 1)))))) (XC (EvS.ev (EvB.sh (X7 (XI (Xc (r:=Xa) 3 rfl (λ_ s=>s.l.l.r)) (Xe 1)) (Y2 (Xc (r:=Xa) 1 rfl (λ_ s=>s.l.l.l.l.r)) (Xe 1)))))) (ZL (Zh (Xp (K:=K) (Ze (Xc (r:=Xa) 0 rfl (λ_ s=>s.l.l.l.l.l.r)) (Xe 4))) (Zh (Xp (K:=K) (Zy (Xc (r:=Xa) 3 rfl (λ_ s=>s.l.l.r)) (Xc (r:=Xa) 5 rfl (λ_ s=>s.r)))) (Xp (K:=K) (Zy (Xc (r:=Xa) 4 rfl (λ_ s=>s.l.r)) (Xc (r:=Xa) 5 rfl (λ_ s=>s.r)))))) (XC (EvS.ev (EvB.sh (X7 (Y2 (Yg (Xe 2) (Xc (r:=Xa) 4 rfl (λ_ s=>s.l.r))) (Xc (r:=Xa) 3 rfl (λ_ s=>s.l.l.r))) (Xc (r:=Xa) 5 rfl (λ_ s=>s.r)))))) (ZL (Zh (Xp (K:=K) (Ze (Xc (r:=Xa) 0 rfl (λ_ s=>s.l.l.l.l.l.r)) (Xe 4))) (Zh (Xp (K:=K) (Hs (Xc (r:=Xa) 3 rfl (λ_ s=>s.l.l.r)) (Xc (r:=Xa) 5 rfl (λ_ s=>s.r)))) (Xp (K:=K) (Hs (Xc (r:=Xa) 4 rfl (λ_ s=>s.l.r)) (Xc (r:=Xa) 5 rfl (λ_ s=>s.r)))))) (XC (EvS.ev (EvB.sh (XI (Xc (r:=Xa) 5 rfl (λ_ s=>s.r)) (X7 (Y2 (Y2 (Yg (Xe 2) (Xc (r:=Xa) 4 rfl (λ_ s=>s.l.r))) (Xc (r:=Xa) 3 rfl (λ_ s=>s.l.l.r))) (Xc (r:=Xa) 5 rfl (λ_ s=>s.r))) (Y2 (Xc (r:=Xa) 1 rfl (λ_ s=>s.l.l.l.l.r)) (Xc (r:=Xa) 5 rfl (λ_ s=>s.r)))))))) (XC (EvS.ev (Xj (r:=Xa) 3 rfl (λ_ s=>s.l.l.r)))))))))))
theorem Vz:FnScope ["_law_one","_law_other"] ["_law_one","_law_other"] (Xi Um):=⟨rfl,rfl,rfl,by decide+kernel,rfl,by decide+kernel,by decide+kernel⟩
theorem CP (D:Def K mg "_law_common" Um ["_law_one","_law_other"])(Z:Blt mg):Fn P w K mg base 1 "_law_common" ["_law_one","_law_other"] (sp2 Xa Xa (oF Xa) QA K):=by
 refine Ys D Vz (λvs H Q E h=>?_) (λf cdv A outer s H vs Q E hr h=>?_)
 ·obtain⟨v_0,v_1,a_0,a_1,b,rfl,_⟩:=h;rfl
 obtain⟨v_0,v_1,a_0,a_1,b,rfl,h_0,h_1,hm,q⟩:=h
 have hu:=hu8 hr
 have hu1:=Yr hr
 refine⟨_,(Xb (FJ (i:=0) (j:=1) rfl Vz.nd rfl rfl (by decide) rfl rfl (Xd (Xr Fi rfl Z.b_abs PyProof.Rows.boot_abs (Xd (pv 0) Xf)) (Xd (Xr Fi rfl Z.b_abs PyProof.Rows.boot_abs (Xd (pv 1) Xf)) Xf)) rfl)
  (Xb (Vc PassesOwn.never (Xx FW (pv 1) Xh (XN _))
   (Xb (FJ (i:=0) (j:=1) rfl Vz.nd rfl rfl (by decide) rfl rfl (Xd (pv 1) (Xd (Xq Yv (pv 0) (pv 1)) Xf)) rfl)
   Xg))
  (Xb (XB (pv 0))
  Xg))),?_⟩
 refine Yt (S:=(SC.add (SC.add SC.nil K Xa v_0 a_0) K Xa v_1 a_1)) (σ:=[some v_0,some v_1]) 0 ?_ (SC.i (SC.i SC.t h_0) h_1) hm q rfl
 unfold QA
 exact(Fu (K:=K) 0 1 (EvB.sh (DC (Xc (r:=Xa) 0 rfl (λ_ s=>s.l.r)))) (EvB.sh (DC (Xc (r:=Xa) 1 rfl (λ_ s=>s.r)))) λa3 a4 v5 v6=>(Va (J:=({oo:=λx7=>[],ss:=λx7=>[some x7.1,some x7.2],sc:=λg8 x7=>(SC.add (SC.add SC.nil K Xa x7.1 g8.1) K Xa x7.2 g8.2)}:Jn (Int×Int) (V×V))) (a3.natAbs+a4.natAbs+2) (v5,v6) (a3,a4) rfl rfl (λ_ s=>(SC.i (SC.i SC.t s.l.r) s.r)) (λg9 x10=>(Xp (K:=K) (Ud (Xc (r:=Xa) 1 rfl (λ_ s=>s.r)) (Xe 0)))) (λg9 x10=>(Fu (K:=K) 0 1 (Xj (r:=Xa) 1 rfl (λ_ s=>s.r)) (EvB.sh (X7 (Xc (r:=Xa) 0 rfl (λ_ s=>s.l.r)) (Xc (r:=Xa) 1 rfl (λ_ s=>s.r)))) λa15 a16 v17 v18=>(Xs (J:=_) (v17,v18) (a15,a16) rfl rfl (λ_ s=>(SC.i (SC.i SC.t s.l.r) s.r))))) λg19 x20=>(XC (EvS.ev (Xj (r:=Xa) 0 rfl (λ_ s=>s.l.r))))))
theorem UC:FnScope ["_law_way","_law_size","_law_factor","_law_some","_law_a"] ["_law_way","_law_size","_law_factor"] (Xi FM):=⟨rfl,rfl,rfl,by decide+kernel,rfl,by decide+kernel,by decide+kernel⟩
theorem Lf (D:Def K mg "_law_made" FM ["_law_way","_law_size","_law_factor"])(g_common:Fn P w K mg base 1 "_law_common" ["_law_one","_law_other"] (sp2 Xa Xa (oF Xa) QA K))(g_cell_of:Fn P w K mg base 1 "_law_cell_of" ["_law_way","_law_size","_law_factor","_law_a","_law_b"] (sp5 Xa Xa Xa Xa Xa (oF Xa) ZI K))(Z:Blt mg):Fn P w K mg base 2 "_law_made" ["_law_way","_law_size","_law_factor"] (sp3 Xa Xa Xa (oL (oL (oF Xa))) Uk K):=by
 refine Ys D UC (λvs H Q E h=>?_) (λf cdv A outer s H vs Q E hr h=>?_)
 ·obtain⟨v_0,v_1,v_2,a_0,a_1,a_2,b,rfl,_⟩:=h;rfl
 obtain⟨v_0,v_1,v_2,a_0,a_1,a_2,b,rfl,h_0,h_1,h_2,hm,q⟩:=h
 have hu:=hu8 hr
 have hu1:=Yr hr
 refine⟨_,(Xb (YT (PW.pt (ZX (Xx Qi (pv 0) Xh (XN _)) (Qk (Xx Qi (pv 1) Xh (XN _)))))
   (@Xb _ _ _ _ _ (@XB _ _ _ _ (@Kj _))
   Xg)
   Xg)
  (Xb (Vc PassesOwn.never (Xx E7 (X6 g_common hr (by decide) (Xd (pv 2) (Xd (pv 1) Xf))) Xh (XN _))
   (Xb (Xn (i:=2) UC.nd rfl (Or.inr rfl) (Xq XZ (pv 2) Xh))
   Xg))
  (Xb (Xn (i:=3) UC.nd rfl (Or.inl rfl) (X1 Xf))
  (Xb (XU PassesOwn.never rfl (XQ rfl Z.b_range (Xd (pv 1) Xf)) (Xm (i:=4) UC.nd rfl (Or.inr rfl))
   (Xb (Yd (Zk PySem.F.plainAttrs_list PySem.F.slot_list_append PySem.F.type_list_append XR (pv 3) (Xd (Zq (sc:=(Xi FM)) (N0:=["_law_way","_law_size","_law_factor","_law_some","_law_a"]) (tns:=["_law_b"]) (caps:=[(0,"_law_way"),(1,"_law_size"),(2,"_law_factor"),(4,"_law_a")]) rfl (XQ rfl Z.b_range (Xd (pv 1) Xf)) (Y3 (by decide)) (λcl C s H ex E=>⟨Xm (i:=0) (show List.Nodup (["_law_b","_law_way","_law_size","_law_factor","_law_a"]:List Str) by decide+kernel) rfl (Or.inl rfl),Zo,(X6 g_cell_of hr (by decide) (Xd (pv 1) (Xd (pv 2) (Xd (pv 3) (Xd (pv 4) (Xd (pv 0) Xf))))))⟩)) Xf)))
   Xg))
  (Xb (XB (pv 3))
  Xg))))),?_⟩
 refine Yt (S:=(SC.add (SC.add (SC.add SC.nil K Xa v_0 a_0) K Xa v_1 a_1) K Xa v_2 a_2)) (σ:=[some v_0,some v_1,some v_2,none,none]) 1 ?_ (SC.i (SC.i (SC.i SC.t h_0) h_1) h_2) hm q rfl
 unfold Uk
 exact(ZL (Zh (Xp (K:=K) (Ze (Xc (r:=Xa) 0 rfl (λ_ s=>s.l.l.r)) (Xe 5))) (Xp (K:=K) (Ze (Xc (r:=Xa) 1 rfl (λ_ s=>s.l.r)) (Xe 4)))) (XC (Gj (Z3 (Zx (Xu (EvB.sh (Xe 0)) (Xu (EvB.sh (Xe 3)) (Xu (EvB.sh (Xe 1)) (Xu (EvB.sh (Xe 2)) YY))))) λ_=>(Z3 (Zx (Xu (EvB.sh (Xe 2)) (Xu (EvB.sh (Xe 1)) (Xu (EvB.sh (Xe 3)) (Xu (EvB.sh (Xe 0)) YY))))) λ_=>(Z3 (Zx (Xu (EvB.sh (Xe 3)) (Xu (EvB.sh (Xe 0)) (Xu (EvB.sh (Xe 2)) (Xu (EvB.sh (Xe 1)) YY))))) λ_=>(Z3 (Zx (Xu (EvB.sh (Xe 1)) (Xu (EvB.sh (Xe 2)) (Xu (EvB.sh (Xe 0)) (Xu (EvB.sh (Xe 3)) YY))))) λ_=>U0)))))) (Va (J:=({oo:=λx51=>[[]],ss:=λx51=>[some v_0,some v_1,some x51,none,none],sc:=λg52 x51=>(SC.add (SC.add (SC.add SC.nil K Xa v_0 a_0) K Xa v_1 a_1) K Xa x51 g52)}:Jn (Int) (V))) (a_1.natAbs+2) (v_2) (a_2) rfl rfl (λ_ s=>(SC.i (SC.i (SC.i SC.t s.l.l.r) s.l.r) s.r)) (λg53 x54=>(Xp (K:=K) (Fg (Ev.toB (XW (Xc (r:=Xa) 2 rfl (λ_ s=>s.r)) (Xc (r:=Xa) 1 rfl (λ_ s=>s.l.r)))) (Xe 1)))) (λg53 x54=>(Xw (K:=K) (r:=Xa) 2 (EvB.sh (XI (Xc (r:=Xa) 2 rfl (λ_ s=>s.r)) (Xe 1))) λa60 v61=>(Xs (J:=_) (v61) (a60) rfl rfl (λ_ s=>(SC.i (SC.i (SC.i SC.t s.l.l.l.r) s.l.l.r) s.r))))) λg64 x65=>(XO (K:=K) (o:=(oL (oL (oF Xa)))) 3 0 (Z6 (o:=(oL (oF Xa)))) (Nat.le_of_ble_eq_true rfl) λa66 v67 C68=>(X5 (K:=K) (J:=({oo:=λx70=>[x70.2.2],ss:=λx70=>[some v_0,some v_1,some x65,some x70.2.1,x70.1],sc:=λg71 x70=>(SC.addO (SC.add (SC.add (SC.add SC.nil K Xa v_0 a_0) K Xa v_1 a_1) K Xa x65 g64) K (oL (oL (oF Xa))) x70.2.1 g71 x70.2.2)}:Jn ((List (List Int))) (Option V×V×List XA))) (λ_=>tg1 4) ((none),v67,C68) (a66) (Xy (Xc (r:=Xa) 1 rfl (λ_ s=>s.l.l.r))) rfl rfl (λ_ s=>(SC.i (SC.i (SC.i (SC.i SC.t s.l.l.l.r) s.l.l.r) s.l.r) s.r)) (λg72 x73 a74 v75=>(Zb (K:=K) (o:=(oL (oF Xa))) (f:=λa89=>(Rs.ok (a89))) 3 0 rfl rfl rfl (λ_ s=>s.l.r) (Zn (λ_=>tg1 0) (Xy (Xc (r:=Xa) 1 rfl (λ_ s=>s.l.l.l.r))) (λC77 a78 v79=>(Ey (Xc (r:=Xa) 1 rfl (λ_ s=>s.l.l.l.l.l.r)) (Xc (r:=Xa) 2 rfl (λ_ s=>s.l.l.l.l.r)) (Xc (r:=Xa) 3 rfl (λ_ s=>s.l.l.l.r)) (Xc (r:=Xa) 4 rfl (λ_ s=>s.l.r)) (Xc (r:=Xa) 0 rfl (λ_ s=>s.r))))) λa87 C88=>(Xs (J:=_) ((some v75),x73.2.1,C88) ((g72++[a87])) rfl rfl (λ_ s=>(SC.i (SC.i (SC.i (SC.i SC.t s.l.l.l.l.l.r) s.l.l.l.l.r) s.l.l.l.r) s.r))))) λg90 x91=>(XC (X9 (o:=(oL (oL (oF Xa)))) 3 0 rfl rfl (λ_ s=>s.r)))))))
theorem QB:FnScope ["_law_some","_law_count_here","_law_left","_law_found","_law_k"] ["_law_some","_law_count_here"] (Xi Vo):=⟨rfl,rfl,rfl,by decide+kernel,rfl,by decide+kernel,by decide+kernel⟩
theorem Df (D:Def K mg "_law_ordered" Vo ["_law_some","_law_count_here"])(Z:Blt mg):Fn P w K mg base 1 "_law_ordered" ["_law_some","_law_count_here"] (sp2 (rV Xa) Xa (oL (oF Xa)) ZY K):=by
 refine Ys D QB (λvs H Q E h=>?_) (λf cdv A outer s H vs Q E hr h=>?_)
 ·obtain⟨v_0,v_1,a_0,a_1,b,rfl,_⟩:=h;rfl
 obtain⟨v_0,v_1,a_0,a_1,b,rfl,h_0,h_1,hm,q⟩:=h
 have hu:=hu8 hr
 have hu1:=Yr hr
 refine⟨_,(Xb (Xn (i:=2) QB.nd rfl (Or.inl rfl) (Kr rfl rfl rfl Z.b_list Z.b_range (Xd (pv 1) Xf)))
  (Xb (Xn (i:=3) QB.nd rfl (Or.inl rfl) (X1 Xf))
  (Xb (XU PassesOwn.never rfl (XQ rfl Z.b_range (Xd (pv 1) Xf)) (Xm (i:=4) QB.nd rfl (Or.inl rfl))
   (Xb (Yd (Zk PySem.F.plainAttrs_list PySem.F.slot_list_append PySem.F.type_list_append XR (pv 3) (Xd (Zk PySem.F.plainAttrs_list PySem.F.slot_list_pop PySem.F.type_list_pop UM (pv 2) (Xd (Xq Yv (XD (Xk K rfl) (pv 0) (pv 4) (λ_ _=>rfl)) (Xr (Xo K rfl) rfl Z.b_len PySem.boot_len (Xd (pv 2) Xf))) Xf)) Xf)))
   Xg))
  (Xb (XB (pv 3))
  Xg)))),?_⟩
 refine Yt (S:=(SC.add (SC.add SC.nil K (rV Xa) v_0 a_0) K Xa v_1 a_1)) (σ:=[some v_0,some v_1,none,none,none]) 2 ?_ (SC.i (SC.i SC.t h_0) h_1) hm q rfl
 unfold ZY
 exact(XO (K:=K) (o:=(oL (oF Xa))) 2 1 (Ks (Xc (r:=Xa) 1 rfl (λ_ s=>s.r))) (Nat.le_of_ble_eq_true rfl) λa1 v2 C3=>(XO (K:=K) (o:=(oL (oF Xa))) 3 0 (Z6 (o:=(oF Xa))) (Nat.le_of_ble_eq_true rfl) λa5 v6 C7=>(X5 (K:=K) (J:=({oo:=λx9=>[x9.2.2.2.1,x9.2.2.2.2],ss:=λx9=>[some v_0,some v_1,some x9.2.2.1,some x9.2.1,x9.1],sc:=λg10 x9=>(SC.addO (SC.addO (SC.add (SC.add SC.nil K (rV Xa) v_0 a_0) K Xa v_1 a_1) K (oL (oF Xa)) x9.2.1 g10.1 x9.2.2.2.1) K (oL (oF Xa)) x9.2.2.1 g10.2 x9.2.2.2.2)}:Jn ((List Int)×(List Int)) (Option V×V×V×List XA×List XA))) (λ_=>tg1 4) ((none),v6,v2,C7,C3) (a5,a1) (Xy (Xc (r:=Xa) 1 rfl (λ_ s=>s.l.l.r))) rfl rfl (λ_ s=>(SC.i (SC.i (SC.i (SC.i SC.t s.l.l.l.r) s.l.l.r) s.r) s.l.r)) (λg11 x12 a13 v14=>(GS (K:=K) (r:=Xa) (f:=λa21 a22=>(Rs.ok (a22,a21))) 2 1 3 0 (by decide) rfl rfl (λ_ s=>s.l.r) rfl rfl (λ_ s=>s.l.l.r) (X7 (Xz (Xc (r:=(rV Xa)) 0 rfl (λ_ s=>s.l.l.l.l.r)) (Xc (r:=Xa) 4 rfl (λ_ s=>s.r))) (X4 (Zd (o:=(oL (oF Xa))) 2 1 rfl rfl (λ_ s=>s.l.r)))) λa20 a21 C23 C24=>(Xs (J:=_) ((some v14),x12.2.1,x12.2.2.1,C24,C23) ((g11.1++[a20]),a21) rfl rfl (λ_ s=>(SC.i (SC.i (SC.i (SC.i SC.t s.l.l.l.l.l.l.r) s.l.l.l.l.l.r) s.r) s.l.r))))) λg27 x28=>(XC (X9 (o:=(oL (oF Xa))) 3 0 rfl rfl (λ_ s=>s.l.r))))))
theorem Q8:FnScope ["_law_some","_law_spots","_law_found","_law_a","_law_b"] ["_law_some","_law_spots"] (Xi Ve):=⟨rfl,rfl,rfl,by decide+kernel,rfl,by decide+kernel,by decide+kernel⟩
theorem DK (D:Def K mg "_law_relaid" Ve ["_law_some","_law_spots"])(Z:Blt mg):Fn P w K mg base 1 "_law_relaid" ["_law_some","_law_spots"] (sp2 (rV (rV Xa)) (rV Xa) (oL (oL (oF Xa))) QF K):=by
 refine Ys D Q8 (λvs H Q E h=>?_) (λf cdv A outer s H vs Q E hr h=>?_)
 ·obtain⟨v_0,v_1,a_0,a_1,b,rfl,_⟩:=h;rfl
 obtain⟨v_0,v_1,a_0,a_1,b,rfl,h_0,h_1,hm,q⟩:=h
 have hu:=hu8 hr
 have hu1:=Yr hr
 refine⟨_,(Xb (Q3 2 (Xi Ve) ["_law_some","_law_spots","_law_found","_law_a","_law_b"] ["_law_line"] [] rfl Q8.nd rfl rfl (XE (K:=K) rfl (pv 0)) (Y3 (by decide)) (λcl C s H ex E=>⟨Xm (i:=0) (show List.Nodup (["_law_line"]:List Str) by decide+kernel) rfl (Or.inl rfl),Zo,(Zc (Yc K rfl) rfl Z.b_list PyProof.Rows.boot_list (Xd (pv 0) Xf))⟩))
  (Xb (XU PassesOwn.never rfl (XQ rfl Z.b_range (Xd (Xr (Xo K rfl) rfl Z.b_len PySem.boot_len (Xd (pv 0) Xf)) Xf)) (Xm (i:=3) Q8.nd rfl (Or.inl rfl))
   (Xb (XU PassesOwn.never rfl (XQ rfl Z.b_range (Xd (Xr (Xo K rfl) rfl Z.b_len PySem.boot_len (Xd (pv 0) Xf)) Xf)) (Xm (i:=4) Q8.nd rfl (Or.inl rfl))
    (Xb (VU (XD (Xk K rfl) (pv 1) (XD (Xk K rfl) (XD (Xk K rfl) (pv 0) (pv 3) (λ_ _=>rfl)) (pv 4) (λ_ _=>rfl)) (λ_ _=>rfl)) (Fh (XD (Xk K rfl) (pv 2) (XD (Xk K rfl) (pv 1) (pv 3) (λ_ _=>rfl)) (λ_ _=>rfl)) (XD (Xk K rfl) (pv 1) (pv 4) (λ_ _=>rfl)) JU))
    Xg))
   Xg))
  (Xb (XB (pv 2))
  Xg))),?_⟩
 refine Yt (S:=(SC.add (SC.add SC.nil K (rV (rV Xa)) v_0 a_0) K (rV Xa) v_1 a_1)) (σ:=[some v_0,some v_1,none,none,none]) 1 ?_ (SC.i (SC.i SC.t h_0) h_1) hm q rfl
 unfold QF
 exact(XO (K:=K) (o:=(oL (oL (oF Xa)))) 2 0 (Zn (λ_=>tg1 0) (Xv (Xj (r:=(rV (rV Xa))) 0 rfl (λ_ s=>s.l.r))) (λC4 a5 v6=>(Qa (EvS.ls (Xj (r:=(rV Xa)) 0 rfl (λ_ s=>s.r)))))) (Nat.le_of_ble_eq_true rfl) λa1 v2 C3=>(X5 (K:=K) (J:=({oo:=λx11=>[x11.2.2.2],ss:=λx11=>[some v_0,some v_1,some x11.2.2.1,x11.1,x11.2.1],sc:=λg12 x11=>(SC.addO (SC.add (SC.add SC.nil K (rV (rV Xa)) v_0 a_0) K (rV Xa) v_1 a_1) K (oL (oL (oF Xa))) x11.2.2.1 g12 x11.2.2.2)}:Jn ((List (List Int))) (Option V×Option V×V×List XA))) (λ_=>tg1 3) ((none),(none),v2,C3) (a1) (Xy (X4 (Xc (r:=(rV (rV Xa))) 0 rfl (λ_ s=>s.l.l.r)))) rfl rfl (λ_ s=>(SC.i (SC.i (SC.i SC.t s.l.l.r) s.l.r) s.r)) (λg13 x14 a15 v16=>(X5 (K:=K) (J:=({oo:=λx19=>[x19.2.2],ss:=λx19=>[some v_0,some v_1,some x19.2.1,some v16,x19.1],sc:=λg20 x19=>(SC.addO (SC.add (SC.add (SC.add SC.nil K (rV (rV Xa)) v_0 a_0) K (rV Xa) v_1 a_1) K Xa v16 a15) K (oL (oL (oF Xa))) x19.2.1 g20 x19.2.2)}:Jn ((List (List Int))) (Option V×V×List XA))) (λ_=>tg1 4) ((x14.2.1),x14.2.2.1,x14.2.2.2) (g13) (Xy (X4 (Xc (r:=(rV (rV Xa))) 0 rfl (λ_ s=>s.l.l.l.r)))) rfl rfl (λ_ s=>(SC.i (SC.i (SC.i (SC.i SC.t s.l.l.l.r) s.l.l.r) s.r) s.l.r)) (λg21 x22 a23 v24=>(KG (K:=K) (r:=Xa) 2 0 rfl rfl (λ_ s=>s.l.r) (EvB.sh (Xz (Xc (r:=(rV Xa)) 1 rfl (λ_ s=>s.l.l.l.r)) (Xz (Xz (Xc (r:=(rV (rV Xa))) 0 rfl (λ_ s=>s.l.l.l.l.r)) (Xc (r:=Xa) 3 rfl (λ_ s=>s.l.l.r))) (Xc (r:=Xa) 4 rfl (λ_ s=>s.r))))) (Xz (Xc (r:=(rV Xa)) 1 rfl (λ_ s=>s.l.l.l.r)) (Xc (r:=Xa) 3 rfl (λ_ s=>s.l.l.r))) (Xz (Xc (r:=(rV Xa)) 1 rfl (λ_ s=>s.l.l.l.r)) (Xc (r:=Xa) 4 rfl (λ_ s=>s.r))) λa38 C39=>(Xs (J:=_) ((some v24),x22.2.1,C39) (a38) rfl rfl (λ_ s=>(SC.i (SC.i (SC.i (SC.i SC.t s.l.l.l.l.l.r) s.l.l.l.l.r) s.l.l.l.r) s.r))))) λg42 x43=>(Xs (J:=_) ((some v16),(x43.1),x43.2.1,x43.2.2) (g42) rfl rfl (λ_ s=>(SC.i (SC.i (SC.i SC.t s.l.l.l.r) s.l.l.r) s.r))))) λg45 x46=>(XC (X9 (o:=(oL (oL (oF Xa)))) 2 0 rfl rfl (λ_ s=>s.r)))))
theorem Za:FnScope ["_law_script","_law_place","_law_most","_law_some","_law_size","_law_found"] ["_law_script","_law_place","_law_most"] (Xi Qn):=⟨rfl,rfl,rfl,by decide+kernel,rfl,by decide+kernel,by decide+kernel⟩
theorem UQ (D:Def K mg "_law_good_table" Qn ["_law_script","_law_place","_law_most"])(g_row:Fn P w K mg base 2 "_law_row" ["_law_script","_law_place","_law_sizes"] (sp3 (rL Xa) Xa (rV Xa) (oL (oF Xa)) KP K))(g_made:Fn P w K mg base 2 "_law_made" ["_law_way","_law_size","_law_factor"] (sp3 Xa Xa Xa (oL (oL (oF Xa))) Uk K))(g_relaid:Fn P w K mg base 1 "_law_relaid" ["_law_some","_law_spots"] (sp2 (rV (rV Xa)) (rV Xa) (oL (oL (oF Xa))) QF K))(g_ordered:Fn P w K mg base 1 "_law_ordered" ["_law_some","_law_count_here"] (sp2 (rV Xa) Xa (oL (oF Xa)) ZY K))(Z:Blt mg):Fn P w K mg base 3 "_law_good_table" ["_law_script","_law_place","_law_most"] (sp3 (rL Xa) Xa Xa (oL (oL (oF Xa))) Y5 K):=by
 refine Ys D Za (λvs H Q E h=>?_) (λf cdv A outer s H vs Q E hr h=>?_)
 ·obtain⟨v_0,v_1,v_2,a_0,a_1,a_2,b,rfl,_⟩:=h;rfl
 obtain⟨v_0,v_1,v_2,a_0,a_1,a_2,b,rfl,h_0,h_1,h_2,hm,q⟩:=h
 have hu:=hu8 hr
 have hu1:=Yr hr
 refine⟨_,(Xb (Xn (i:=3) Za.nd rfl (Or.inl rfl) (X6 g_row hr (by decide) (Xd (pv 0) (Xd (pv 1) (Xd (Xq Uc (X1 (Xd Xh (Xd Xh (Xd Xh (Xd Xh (Xd Xh Xf)))))) (Xq GY (X1 (Xd Xh Xf)) Xh)) Xf)))))
  (Xb (Xn (i:=4) Za.nd rfl (Or.inl rfl) (Xq XZ Xh (Xq Yv (XD (Xk K rfl) (pv 3) Xh (λ_ _=>rfl)) (pv 2))))
  (Xb (YT (PW.pt (ZX (Xx FW (pv 2) Xh (XN _)) (Qk (Xx FW (XD (Xk K rfl) (pv 3) Xh (λ_ _=>rfl)) Xh (XN _)))))
   (Xb (Xn (i:=4) Za.nd rfl (Or.inl rfl) (Xq XZ Xh (Xq Yv (XD (Xk K rfl) (pv 3) Xh (λ_ _=>rfl)) (Xq ZC (pv 2) Xh))))
   Xg)
   Xg)
  (Xb (Xn (i:=5) Za.nd rfl (Or.inl rfl) (X6 g_made hr (by decide) (Xd (XD (Xk K rfl) (pv 3) Xh (λ_ _=>rfl)) (Xd (pv 4) (Xd (Xq XZ Xh (XD (Xk K rfl) (pv 3) Xh (λ_ _=>rfl))) Xf)))))
  (Xb (YT (Xx Qi (XD (Xk K rfl) (pv 3) Xh (λ_ _=>rfl)) Xh (XN _))
   (Xb (XB (pv 5))
   Xg)
   Xg)
  (Xb (XB (X6 g_relaid hr (by decide) (Xd (pv 5) (Xd (X6 g_ordered hr (by decide) (Xd (J3 (UF K rfl) (pv 3) (Uz Xh) UJ) (Xd (pv 4) Xf))) Xf))))
  Xg)))))),?_⟩
 refine Yt (S:=(SC.add (SC.add (SC.add SC.nil K (rL Xa) v_0 a_0) K Xa v_1 a_1) K Xa v_2 a_2)) (σ:=[some v_0,some v_1,some v_2,none,none,none]) 1 ?_ (SC.i (SC.i (SC.i SC.t h_0) h_1) h_2) hm q rfl
 unfold Y5
 exact(Xw (K:=K) (r:=(rV Xa)) 3 (Ev.sh (YV (Xc (r:=(rL Xa)) 0 rfl (λ_ s=>s.l.l.r)) (Xc (r:=Xa) 1 rfl (λ_ s=>s.l.r)) (Ev.toB (Uj (Ev.ls (Zx (Xu (EvB.sh (Xe 7)) (Xu (EvB.sh (Xe 24)) (Xu (EvB.sh (Xe 6)) (Xu (EvB.sh (Xe 2)) (Xu (EvB.sh (Xe 6)) YY))))))) (Ev.ls (Fq (Ev.ls (Zx (Xu (EvB.sh (Xe 24)) YY))) (Xe 24))))))) λa1 v2=>(Xw (K:=K) (r:=Xa) 4 (EvB.sh (XI (Xe 1) (X7 (Xz (Xc (r:=(rV Xa)) 3 rfl (λ_ s=>s.r)) (Xe 1)) (Xc (r:=Xa) 2 rfl (λ_ s=>s.l.r))))) λa25 v26=>(Y7 (J:=({oo:=λx40=>[[]],ss:=λx40=>[some v_0,some v_1,some v_2,some v2,some x40,none],sc:=λg41 x40=>(SC.add (SC.add (SC.add (SC.add (SC.add SC.nil K (rL Xa) v_0 a_0) K Xa v_1 a_1) K Xa v_2 a_2) K (rV Xa) v2 a1) K Xa x40 g41)}:Jn (Int) (V))) (ZP (Fd:=FNd ({oo:=λx40=>[[]],ss:=λx40=>[some v_0,some v_1,some v_2,some v2,some x40,none],sc:=λg41 x40=>(SC.add (SC.add (SC.add (SC.add (SC.add SC.nil K (rL Xa) v_0 a_0) K Xa v_1 a_1) K Xa v_2 a_2) K (rV Xa) v2 a1) K Xa x40 g41)}:Jn (Int) (V))) (Zh (Xp (K:=K) (Ud (Xc (r:=Xa) 2 rfl (λ_ s=>s.l.l.r)) (Xe 2))) (Xp (K:=K) (Ud (Xz (Xc (r:=(rV Xa)) 3 rfl (λ_ s=>s.l.r)) (Xe 4)) (Xe 0)))) (Xw (K:=K) (r:=Xa) 4 (EvB.sh (XI (Xe 3) (X7 (Xz (Xc (r:=(rV Xa)) 3 rfl (λ_ s=>s.l.r)) (Xe 1)) (Y2 (Xc (r:=Xa) 2 rfl (λ_ s=>s.l.l.r)) (Xe 2))))) λa42 v43=>(Xs (J:=_) (v43) (a42) rfl rfl (λ_ s=>(SC.i (SC.i (SC.i (SC.i (SC.i SC.t s.l.l.l.l.l.r) s.l.l.l.l.r) s.l.l.l.r) s.l.l.r) s.r)))) (Xs (J:=_) (v26) (a25) rfl rfl (λ_ s=>(SC.i (SC.i (SC.i (SC.i (SC.i SC.t s.l.l.l.l.r) s.l.l.l.r) s.l.l.r) s.l.r) s.r)))) λg53 x52=>(XO (K:=K) (o:=(oL (oL (oF Xa)))) 5 0 (YV (Xz (Xc (r:=(rV Xa)) 3 rfl (λ_ s=>s.l.r)) (Xe 0)) (Xc (r:=Xa) 4 rfl (λ_ s=>s.r)) (XI (Xe 2) (Xz (Xc (r:=(rV Xa)) 3 rfl (λ_ s=>s.l.r)) (Xe 2)))) (Nat.le_of_ble_eq_true rfl) λa54 v55 C56=>(ZL (Xp (K:=K) (Ze (Xz (Xc (r:=(rV Xa)) 3 rfl (λ_ s=>s.l.l.r)) (Xe 3)) (Xe 0))) (XC (X9 (o:=(oL (oL (oF Xa)))) 5 0 rfl rfl (λ_ s=>s.r))) (XC (XW (Zd (o:=(oL (oL (oF Xa)))) 5 0 rfl rfl (λ_ s=>s.r)) (Ev.toB (XW (Ev.toB (FH (EvS.ls (Xj (r:=(rV Xa)) 3 rfl (λ_ s=>s.l.l.r))) (JZ (K:=K) (Xe 5)) JX)) (Xc (r:=Xa) 4 rfl (λ_ s=>s.l.r)))))))))))
theorem Ym:FnScope ["_law_walks","_law_found","_law_count_here","_law_walk","_law_first","_law_number","_law_last","_law_k","_law_row_here"] ["_law_walks"] (Xi UZ):=⟨rfl,rfl,rfl,by decide+kernel,rfl,by decide+kernel,by decide+kernel⟩
theorem BR (D:Def K mg "_law_arcs" UZ ["_law_walks"])(Z:Blt mg):Fn P w K mg base 1 "_law_arcs" ["_law_walks"] (sp1 (rV (rV Xa)) (oL (oL (oF Xa))) QE K):=by
 refine Ys D Ym (λvs H Q E h=>?_) (λf cdv A outer s H vs Q E hr h=>?_)
 ·obtain⟨v_0,a_0,b,rfl,_⟩:=h;rfl
 obtain⟨v_0,a_0,b,rfl,h_0,hm,q⟩:=h
 have hu:=hu8 hr
 have hu1:=Yr hr
 refine⟨_,(Xb (Xn (i:=1) Ym.nd rfl (Or.inl rfl) (X1 Xf))
  (Xb (Xn (i:=2) Ym.nd rfl (Or.inl rfl) Xh)
  (Xb (XU PassesOwn.never rfl (XE (K:=K) rfl (pv 0)) (Xm (i:=3) Ym.nd rfl (Or.inl rfl))
   (Xb (Xn (i:=4) Ym.nd rfl (Or.inl rfl) (pv 2))
   (Xb (Xn (i:=5) Ym.nd rfl (Or.inl rfl) (pv 2))
   (Xb (Xn (i:=6) Ym.nd rfl (Or.inl rfl) (V1 QL Xh))
   (Xb (XU PassesOwn.never rfl (XQ rfl Z.b_range (Xd (Xr (Xo K rfl) rfl Z.b_len PySem.boot_len (Xd (pv 3) Xf)) Xf)) (Xm (i:=7) Ym.nd rfl (Or.inl rfl))
    (Xb (YT (Xx QI (XD (Xk K rfl) (pv 3) (pv 7) (λ_ _=>rfl)) Xh (XN _))
     (Xb (Xn (i:=6) Ym.nd rfl (Or.inl rfl) (pv 7))
     Xg)
     Xg)
    Xg))
   (Xb (Xn (i:=8) Ym.nd rfl (Or.inl rfl) (Xq GY (X1 (Xd (pv 4) Xf)) (Xr (Jg rfl) rfl Z.b_max PyProof.Rows.boot_max (Xd (Xr (Xo K rfl) rfl Z.b_len PySem.boot_len (Xd (pv 3) Xf)) (Xd Xh Xf)))))
   (Xb (XU PassesOwn.never rfl (XQ rfl Z.b_range (Xd (Xq XZ (pv 6) Xh) Xf)) (Xm (i:=7) Ym.nd rfl (Or.inl rfl))
    (Xb (VU (pv 5) (Fh (pv 8) (pv 7) JU))
    (Xb (YT (PW.pt (ZX (Xx QI (XD (Xk K rfl) (pv 3) (pv 7) (λ_ _=>rfl)) Xh (XN _)) (Qk (Xx QI (pv 7) (pv 6) (XN _)))))
     (Xb (Xn (i:=2) Ym.nd rfl (Or.inl rfl) (Xq XZ (pv 2) Xh))
     (Xb (Xn (i:=5) Ym.nd rfl (Or.inl rfl) (pv 2))
     Xg))
     Xg)
    Xg)))
   (Xb (Xn (i:=2) Ym.nd rfl (Or.inl rfl) (Xq XZ (pv 2) Xh))
   (Xb (Yd (Zk PySem.F.plainAttrs_list PySem.F.slot_list_append PySem.F.type_list_append XR (pv 1) (Xd (pv 8) Xf)))
   Xg)))))))))
  (Xb (XB (pv 1))
  Xg)))),?_⟩
 refine Yt (S:=(SC.add SC.nil K (rV (rV Xa)) v_0 a_0)) (σ:=[some v_0,none,none,none,none,none,none,none,none]) 2 ?_ (SC.i SC.t h_0) hm q rfl
 unfold QE
 exact(XO (K:=K) (o:=(oL (oL (oF Xa)))) 1 0 (Z6 (o:=(oL (oF Xa)))) (Nat.le_of_ble_eq_true rfl) λa1 v2 C3=>(Xw (K:=K) (r:=Xa) 2 (EvB.sh (Xe 0)) λa4 v5=>(X5 (K:=K) (J:=({oo:=λx6=>[x6.2.2.2.2.2.2.2.2,[]],ss:=λx6=>[some v_0,some x6.2.2.2.2.2.2.2.1,some x6.2.2.2.2.2.2.1,x6.1,x6.2.1,x6.2.2.1,x6.2.2.2.1,x6.2.2.2.2.1,x6.2.2.2.2.2.1],sc:=λg7 x6=>(SC.addO (SC.add (SC.add SC.nil K (rV (rV Xa)) v_0 a_0) K Xa x6.2.2.2.2.2.2.1 g7.1) K (oL (oL (oF Xa))) x6.2.2.2.2.2.2.2.1 g7.2 x6.2.2.2.2.2.2.2.2)}:Jn (Int×(List (List Int))) (Option V×Option V×Option V×Option V×Option V×Option V×V×V×List XA))) (λ_=>tg1 3) ((none),(none),(none),(none),(none),(none),v5,v2,C3) (a4,a1) (Xv (Xj (r:=(rV (rV Xa))) 0 rfl (λ_ s=>s.l.l.r))) rfl rfl (λ_ s=>(SC.i (SC.i (SC.i SC.t s.l.l.r) s.r) s.l.r)) (λg8 x9 a10 v11=>(Xw (K:=K) (r:=Xa) 4 (Xj (r:=Xa) 2 rfl (λ_ s=>s.l.l.r)) λa12 v13=>(Xw (K:=K) (r:=Xa) 5 (Xj (r:=Xa) 2 rfl (λ_ s=>s.l.l.l.r)) λa14 v15=>(Xw (K:=K) (r:=Xa) 6 (EvB.sh (ZS (Xe 1))) λa16 v17=>(X5 (K:=K) (J:=({oo:=λx21=>[x9.2.2.2.2.2.2.2.2,[]],ss:=λx21=>[some v_0,some x9.2.2.2.2.2.2.2.1,some x9.2.2.2.2.2.2.1,some v11,some v13,some v15,some x21.2,x21.1,x9.2.2.2.2.2.1],sc:=λg22 x21=>(SC.add (SC.add (SC.add (SC.add (SC.addO (SC.add (SC.add SC.nil K (rV (rV Xa)) v_0 a_0) K Xa x9.2.2.2.2.2.2.1 g8.1) K (oL (oL (oF Xa))) x9.2.2.2.2.2.2.2.1 g8.2 x9.2.2.2.2.2.2.2.2) K (rV Xa) v11 a10) K Xa v13 a12) K Xa v15 a14) K Xa x21.2 g22)}:Jn (Int) (Option V×V))) (λ_=>tg1 7) ((x9.2.2.2.2.1),v17) (a16) (Xy (X4 (Xc (r:=(rV Xa)) 3 rfl (λ_ s=>s.l.l.l.r)))) rfl rfl (λ_ s=>(SC.i (SC.i (SC.i (SC.i (SC.i (SC.i (SC.i SC.t s.l.l.l.l.l.l.r) s.l.l.l.l.l.r) s.l.l.l.l.r) s.l.l.l.r) s.l.l.r) s.l.r) s.r)) (λg23 x24 a25 v26=>(Y7 (J:=({oo:=λx32=>[x9.2.2.2.2.2.2.2.2,[]],ss:=λx32=>[some v_0,some x9.2.2.2.2.2.2.2.1,some x9.2.2.2.2.2.2.1,some v11,some v13,some v15,some x32,some v26,x9.2.2.2.2.2.1],sc:=λg33 x32=>(SC.add (SC.add (SC.add (SC.add (SC.add (SC.addO (SC.add (SC.add SC.nil K (rV (rV Xa)) v_0 a_0) K Xa x9.2.2.2.2.2.2.1 g8.1) K (oL (oL (oF Xa))) x9.2.2.2.2.2.2.2.1 g8.2 x9.2.2.2.2.2.2.2.2) K (rV Xa) v11 a10) K Xa v13 a12) K Xa v15 a14) K Xa v26 a25) K Xa x32 g33)}:Jn (Int) (V))) (ZP (Fd:=FNd ({oo:=λx32=>[x9.2.2.2.2.2.2.2.2,[]],ss:=λx32=>[some v_0,some x9.2.2.2.2.2.2.2.1,some x9.2.2.2.2.2.2.1,some v11,some v13,some v15,some x32,some v26,x9.2.2.2.2.2.1],sc:=λg33 x32=>(SC.add (SC.add (SC.add (SC.add (SC.add (SC.addO (SC.add (SC.add SC.nil K (rV (rV Xa)) v_0 a_0) K Xa x9.2.2.2.2.2.2.1 g8.1) K (oL (oL (oF Xa))) x9.2.2.2.2.2.2.2.1 g8.2 x9.2.2.2.2.2.2.2.2) K (rV Xa) v11 a10) K Xa v13 a12) K Xa v15 a14) K Xa v26 a25) K Xa x32 g33)}:Jn (Int) (V))) (Xp (K:=K) (Zy (Xz (Xc (r:=(rV Xa)) 3 rfl (λ_ s=>s.l.l.l.l.r)) (Xc (r:=Xa) 7 rfl (λ_ s=>s.r))) (Xe 0))) (Xw (K:=K) (r:=Xa) 6 (Xj (r:=Xa) 7 rfl (λ_ s=>s.r)) λa34 v35=>(Xs (J:=_) (v35) (a34) rfl rfl (λ_ s=>(SC.i (SC.i (SC.i (SC.i (SC.i (SC.i (SC.i (SC.i SC.t s.l.l.l.l.l.l.l.l.r) s.l.l.l.l.l.l.l.r) s.l.l.l.l.l.l.r) s.l.l.l.l.l.r) s.l.l.l.l.r) s.l.l.l.r) s.l.r) s.r)))) (Xs (J:=_) (x24.2) (g23) rfl rfl (λ_ s=>(SC.i (SC.i (SC.i (SC.i (SC.i (SC.i (SC.i (SC.i SC.t s.l.l.l.l.l.l.l.r) s.l.l.l.l.l.l.r) s.l.l.l.l.l.r) s.l.l.l.l.r) s.l.l.l.r) s.l.l.r) s.r) s.l.r)))) λg37 x36=>(Xs (J:=_) ((some v26),x36) (g37) rfl rfl (λ_ s=>(SC.i (SC.i (SC.i (SC.i (SC.i (SC.i (SC.i SC.t s.l.l.l.l.l.l.l.r) s.l.l.l.l.l.l.r) s.l.l.l.l.l.r) s.l.l.l.l.r) s.l.l.l.r) s.l.l.r) s.r))))) λg38 x39=>(XO (K:=K) (o:=(oL (oF Xa))) 8 1 (Fq (Ev.ls (Zx (Xu (Xj (r:=Xa) 4 rfl (λ_ s=>s.l.l.r)) YY))) (Ux (X4 (Xc (r:=(rV Xa)) 3 rfl (λ_ s=>s.l.l.l.r))) (Xe 1))) (Nat.le_of_ble_eq_true rfl) λa40 v41 C42=>(X5 (K:=K) (J:=({oo:=λx54=>[x9.2.2.2.2.2.2.2.2,x54.2.2.2.2],ss:=λx54=>[some v_0,some x9.2.2.2.2.2.2.2.1,some x54.2.2.1,some v11,some v13,some x54.2.2.2.1,some x39.2,x54.1,some x54.2.1],sc:=λg55 x54=>(SC.add (SC.add (SC.addO (SC.add (SC.add (SC.add (SC.addO (SC.add SC.nil K (rV (rV Xa)) v_0 a_0) K (oL (oL (oF Xa))) x9.2.2.2.2.2.2.2.1 g8.2 x9.2.2.2.2.2.2.2.2) K (rV Xa) v11 a10) K Xa v13 a12) K Xa x39.2 g38) K (oL (oF Xa)) x54.2.1 g55.1 x54.2.2.2.2) K Xa x54.2.2.1 g55.2.1) K Xa x54.2.2.2.1 g55.2.2)}:Jn ((List Int)×Int×Int) (Option V×V×V×V×List XA))) (λ_=>tg1 7) ((x39.1),v41,x9.2.2.2.2.2.2.1,v15,C42) (a40,g8.1,a14) (Xy (XI (Xc (r:=Xa) 6 rfl (λ_ s=>s.l.r)) (Xe 1))) rfl rfl (λ_ s=>(SC.i (SC.i (SC.i (SC.i (SC.i (SC.i (SC.i (SC.i SC.t s.l.l.l.l.l.l.l.r) s.l.l.l.l.l.r) s.l.l.l.l.r) s.l.l.l.r) s.l.r) s.r) s.l.l.l.l.l.l.r) s.l.l.r)) (λg56 x57 a58 v59=>(Ff (K:=K) (o:=(oF Xa)) 8 1 rfl rfl (λ_ s=>s.l.l.l.r) (EvS.ev (Xj (r:=Xa) 5 rfl (λ_ s=>s.l.r))) (λ_=>(Xc (r:=Xa) 7 rfl (λ_ s=>s.r))) λa62 C63=>(Y7 (J:=({oo:=λx71=>[x9.2.2.2.2.2.2.2.2,C63],ss:=λx71=>[some v_0,some x9.2.2.2.2.2.2.2.1,some x71.1,some v11,some v13,some x71.2,some x39.2,some v59,some x57.2.1],sc:=λg72 x71=>(SC.add (SC.add (SC.add (SC.addO (SC.add (SC.add (SC.add (SC.addO (SC.add SC.nil K (rV (rV Xa)) v_0 a_0) K (oL (oL (oF Xa))) x9.2.2.2.2.2.2.2.1 g8.2 x9.2.2.2.2.2.2.2.2) K (rV Xa) v11 a10) K Xa v13 a12) K Xa x39.2 g38) K (oL (oF Xa)) x57.2.1 a62 C63) K Xa v59 a58) K Xa x71.1 g72.1) K Xa x71.2 g72.2)}:Jn (Int×Int) (V×V))) (ZP (Fd:=FNd ({oo:=λx71=>[x9.2.2.2.2.2.2.2.2,C63],ss:=λx71=>[some v_0,some x9.2.2.2.2.2.2.2.1,some x71.1,some v11,some v13,some x71.2,some x39.2,some v59,some x57.2.1],sc:=λg72 x71=>(SC.add (SC.add (SC.add (SC.addO (SC.add (SC.add (SC.add (SC.addO (SC.add SC.nil K (rV (rV Xa)) v_0 a_0) K (oL (oL (oF Xa))) x9.2.2.2.2.2.2.2.1 g8.2 x9.2.2.2.2.2.2.2.2) K (rV Xa) v11 a10) K Xa v13 a12) K Xa x39.2 g38) K (oL (oF Xa)) x57.2.1 a62 C63) K Xa v59 a58) K Xa x71.1 g72.1) K Xa x71.2 g72.2)}:Jn (Int×Int) (V×V))) (Zh (Xp (K:=K) (Zy (Xz (Xc (r:=(rV Xa)) 3 rfl (λ_ s=>s.l.l.l.l.l.l.l.r)) (Xc (r:=Xa) 7 rfl (λ_ s=>s.l.r))) (Xe 0))) (Xp (K:=K) (Zy (Xc (r:=Xa) 7 rfl (λ_ s=>s.l.r)) (Xc (r:=Xa) 6 rfl (λ_ s=>s.l.l.l.l.l.r))))) (Xw (K:=K) (r:=Xa) 2 (EvB.sh (XI (Xc (r:=Xa) 2 rfl (λ_ s=>s.l.l.l.r)) (Xe 1))) λa73 v74=>(Xw (K:=K) (r:=Xa) 5 (Xj (r:=Xa) 2 rfl (λ_ s=>s.r)) λa77 v78=>(Xs (J:=_) (v74,v78) (a73,a77) rfl rfl (λ_ s=>(SC.i (SC.i (SC.i (SC.i (SC.i (SC.i (SC.i (SC.i (SC.i SC.t s.l.l.l.l.l.l.l.l.l.l.l.r) s.l.l.l.l.l.l.l.l.l.l.r) s.l.l.l.l.l.l.l.l.l.r) s.l.l.l.l.l.l.l.l.r) s.l.l.l.l.l.l.l.r) s.l.l.r) s.l.l.l.r) s.l.r) s.r))))) (Xs (J:=_) (x57.2.2.1,x57.2.2.2.1) (g56.2.1,g56.2.2) rfl rfl (λ_ s=>(SC.i (SC.i (SC.i (SC.i (SC.i (SC.i (SC.i (SC.i (SC.i SC.t s.l.l.l.l.l.l.l.l.l.r) s.l.l.l.l.l.l.l.l.r) s.l.l.l.l.l.l.l.r) s.l.l.l.l.l.l.r) s.l.l.l.l.l.r) s.r) s.l.r) s.l.l.l.r) s.l.l.r)))) λg80 x79=>(Xs (J:=_) ((some v59),x57.2.1,x79.1,x79.2,C63) (a62,g80.1,g80.2) rfl rfl (λ_ s=>(SC.i (SC.i (SC.i (SC.i (SC.i (SC.i (SC.i (SC.i SC.t s.l.l.l.l.l.l.l.l.r) s.l.l.l.l.l.l.l.r) s.l.l.l.l.l.l.r) s.l.l.l.l.l.r) s.l.l.l.l.r) s.l.l.l.r) s.l.r) s.r)))))) λg81 x82=>(Xw (K:=K) (r:=Xa) 2 (EvB.sh (XI (Xc (r:=Xa) 2 rfl (λ_ s=>s.l.r)) (Xe 1))) λa83 v84=>(Zb (K:=K) (o:=(oL (oF Xa))) (f:=λa89=>(Rs.ok (a83,a89))) 1 0 rfl rfl rfl (λ_ s=>s.l.l.l.l.l.l.l.r) (X9 (o:=(oL (oF Xa))) 8 1 rfl rfl (λ_ s=>s.l.l.l.r)) λa87 C88=>(Xs (J:=_) ((some v11),(some v13),(some x82.2.2.2.1),(some x39.2),(x82.1),(some x82.2.1),v84,x9.2.2.2.2.2.2.2.1,C88) (a83,(g8.2++[a87])) rfl rfl (λ_ s=>(SC.i (SC.i (SC.i SC.t s.l.l.l.l.l.l.l.l.l.r) s.l.r) s.r)))))))))))) λg92 x93=>(XC (X9 (o:=(oL (oL (oF Xa)))) 1 0 rfl rfl (λ_ s=>s.r))))))
theorem KW:FnScope ["_law_walks","_law_passage","_law_k"] ["_law_walks","_law_passage"] (Xi Ur):=⟨rfl,rfl,rfl,by decide+kernel,rfl,by decide+kernel,by decide+kernel⟩
theorem B2 (D:Def K mg "_law_spot" Ur ["_law_walks","_law_passage"])(Z:Blt mg):Fn P w K mg base 1 "_law_spot" ["_law_walks","_law_passage"] (sp2 (rV (rV Xa)) Xa (oF (rP2 Xa Xa)) Z8 K):=by
 refine Ys D KW (λvs H Q E h=>?_) (λf cdv A outer s H vs Q E hr h=>?_)
 ·obtain⟨v_0,v_1,a_0,a_1,b,rfl,_⟩:=h;rfl
 obtain⟨v_0,v_1,a_0,a_1,b,rfl,h_0,h_1,hm,q⟩:=h
 have hu:=hu8 hr
 have hu1:=Yr hr
 refine⟨_,(Xb (XU PassesOwn.never rfl (XQ rfl Z.b_range (Xd (Xr (Xo K rfl) rfl Z.b_len PySem.boot_len (Xd (pv 0) Xf)) Xf)) (Xm (i:=2) KW.nd rfl (Or.inl rfl))
   (Xb (YT (Xx Ko (pv 1) (XD (Xk K rfl) (pv 0) (pv 2) (λ_ _=>rfl)) rfl)
    (Xb (XB (ZE (Xd (pv 2) (Xd (Hl (K:=K) rfl PySem.F.plainAttrs_list PySem.F.slot_list_index PySem.F.type_list_index (KS K rfl) (XD (Xk K rfl) (pv 0) (pv 2) (λ_ _=>rfl)) (Xd (pv 1) Xf)) Xf))))
    Xg)
    Xg)
   Xg))
  (Xb (XB (ZE (Xd (V1 QL Xh) (Xd (V1 QL Xh) Xf))))
  Xg)),?_⟩
 refine Yt (S:=(SC.add (SC.add SC.nil K (rV (rV Xa)) v_0 a_0) K Xa v_1 a_1)) (σ:=[some v_0,some v_1,none]) 0 ?_ (SC.i (SC.i SC.t h_0) h_1) hm q rfl
 unfold Z8
 exact(VP (K:=K) (J:=({oo:=λx3=>[],ss:=λx3=>[some v_0,some v_1,x3],sc:=λg4 x3=>(SC.add (SC.add SC.nil K (rV (rV Xa)) v_0 a_0) K Xa v_1 a_1)}:Jn (Unit) (Option V))) (λ_=>tg1 2) ((none)) () (Xy (X4 (Xc (r:=(rV (rV Xa))) 0 rfl (λ_ s=>s.l.r)))) rfl rfl (λ_ s=>(SC.i (SC.i SC.t s.l.r) s.r)) (λg5 x6 a7 v8=>(Vl (Xp (K:=K) (Hx (Xc (r:=Xa) 1 rfl (λ_ s=>s.l.r)) (Xz (Xc (r:=(rV (rV Xa))) 0 rfl (λ_ s=>s.l.l.r)) (Xc (r:=Xa) 2 rfl (λ_ s=>s.r))))) (XC (EvS.ev (Qx (Xj (r:=Xa) 2 rfl (λ_ s=>s.r)) (EvB.sh (U3 (Xz (Xc (r:=(rV (rV Xa))) 0 rfl (λ_ s=>s.l.l.r)) (Xc (r:=Xa) 2 rfl (λ_ s=>s.r))) (Xc (r:=Xa) 1 rfl (λ_ s=>s.l.r))))))) (Kh (Xs (J:=_) ((some v8)) () rfl rfl (λ_ s=>(SC.i (SC.i SC.t s.l.l.r) s.l.r)))))) λg22 x23=>(XC (EvS.ev (Qx (EvB.sh (ZS (Xe 1))) (EvB.sh (ZS (Xe 1)))))))
theorem Yk:FnScope ["_law_drawing","_law_walks","_law_signs","_law_rows","_law_found","_law_crossing","_law_sign","_law_up","_law_at","_law_down","_law_to","_law_behind"] ["_law_drawing"] (Xi Vm):=⟨rfl,rfl,rfl,by decide+kernel,rfl,by decide+kernel,by decide+kernel⟩
theorem Dk (D:Def K mg "_law_meets" Vm ["_law_drawing"])(g_l_arcs:Fn P w K mg base 1 "_law_arcs" ["_law_walks"] (sp1 (rV (rV Xa)) (oL (oL (oF Xa))) QE K))(g_l_spot:Fn P w K mg base 1 "_law_spot" ["_law_walks","_law_passage"] (sp2 (rV (rV Xa)) Xa (oF (rP2 Xa Xa)) Z8 K))(Z:Blt mg):Fn P w K mg base 2 "_law_meets" ["_law_drawing"] (sp1 (rP2 (rV (rV Xa)) (rV (rP2 Xa Xa))) (oL (oF (rP5 Xa Xa Xa Xa Xa))) ZH K):=by
 refine Ys D Yk (λvs H Q E h=>?_) (λf cdv A outer s H vs Q E hr h=>?_)
 ·obtain⟨v_0,a_0,b,rfl,_⟩:=h;rfl
 obtain⟨v_0,a_0,b,rfl,h_0,hm,q⟩:=h
 have hu:=hu8 hr
 have hu1:=Yr hr
 refine⟨_,(Xb (VU (pv 0) (Qo rfl (XH (Xm (i:=1) Yk.nd rfl (Or.inl rfl)) (XH (Xm (i:=2) Yk.nd rfl (Or.inl rfl)) Zv))))
  (Xb (Xn (i:=3) Yk.nd rfl (Or.inl rfl) (X6 g_l_arcs hr (by decide) (Xd (pv 1) Xf)))
  (Xb (Xn (i:=4) Yk.nd rfl (Or.inl rfl) (X1 Xf))
  (Xb (XU PassesOwn.never rfl (XE (K:=K) rfl (pv 2)) (Qo rfl (XH (Xm (i:=5) Yk.nd rfl (Or.inl rfl)) (XH (Xm (i:=6) Yk.nd rfl (Or.inl rfl)) Zv)))
   (Xb (VU (X6 g_l_spot hr (by decide) (Xd (pv 1) (Xd (pv 5) Xf))) (Qo rfl (XH (Xm (i:=7) Yk.nd rfl (Or.inl rfl)) (XH (Xm (i:=8) Yk.nd rfl (Or.inl rfl)) Zv))))
   (Xb (VU (X6 g_l_spot hr (by decide) (Xd (pv 1) (Xd (V1 QL (pv 5)) Xf))) (Qo rfl (XH (Xm (i:=9) Yk.nd rfl (Or.inl rfl)) (XH (Xm (i:=10) Yk.nd rfl (Or.inl rfl)) Zv))))
   (Xb (Xn (i:=11) Yk.nd rfl (Or.inl rfl) (Xq Yv (Xq XZ (pv 10) Xh) (Xr (Xo K rfl) rfl Z.b_len PySem.boot_len (Xd (XD (Xk K rfl) (pv 1) (pv 9) (λ_ _=>rfl)) Xf))))
   (Xb (Yd (Zk PySem.F.plainAttrs_list PySem.F.slot_list_append PySem.F.type_list_append XR (pv 4) (Xd (ZE (Xd (pv 5) (Xd (pv 6) (Xd (XD (Xk K rfl) (XD (Xk K rfl) (pv 3) (pv 7) (λ_ _=>rfl)) (pv 8) (λ_ _=>rfl)) (Xd (XD (Xk K rfl) (XD (Xk K rfl) (pv 3) (pv 9) (λ_ _=>rfl)) (pv 10) (λ_ _=>rfl)) (Xd (XD (Xk K rfl) (XD (Xk K rfl) (pv 3) (pv 9) (λ_ _=>rfl)) (pv 11) (λ_ _=>rfl)) Xf)))))) Xf)))
   Xg)))))
  (Xb (XB (pv 4))
  Xg))))),?_⟩
 refine Yt (S:=(SC.add SC.nil K (rP2 (rV (rV Xa)) (rV (rP2 Xa Xa))) v_0 a_0)) (σ:=[some v_0,none,none,none,none,none,none,none,none,none,none,none]) 1 ?_ (SC.i SC.t h_0) hm q rfl
 unfold ZH
 exact(CC 1 2 (Xj (r:=(rP2 (rV (rV Xa)) (rV (rP2 Xa Xa)))) 0 rfl (λ_ s=>s.r)) λa1 v2 v3=>(Xw (K:=K) (r:=(rV (rV Xa))) 3 (Ev.sh (Yy (Xc (r:=(rV (rV Xa))) 1 rfl (λ_ s=>s.l.r)))) λa4 v5=>(XO (K:=K) (o:=(oL (oF (rP5 Xa Xa Xa Xa Xa)))) 4 0 (Z6 (o:=(oF (rP5 Xa Xa Xa Xa Xa)))) (Nat.le_of_ble_eq_true rfl) λa8 v9 C10=>(X5 (K:=K) (J:=({oo:=λx11=>[x11.2.2.2.2.2.2.2.2],ss:=λx11=>[some v_0,some v2,some v3,some v5,some x11.2.2.2.2.2.2.2.1,x11.1,x11.2.1,x11.2.2.1,x11.2.2.2.1,x11.2.2.2.2.1,x11.2.2.2.2.2.1,x11.2.2.2.2.2.2.1],sc:=λg12 x11=>(SC.addO (SC.add (SC.add (SC.add (SC.add SC.nil K (rP2 (rV (rV Xa)) (rV (rP2 Xa Xa))) v_0 a_0) K (rV (rV Xa)) v2 a1.1) K (rV (rP2 Xa Xa)) v3 a1.2) K (rV (rV Xa)) v5 a4) K (oL (oF (rP5 Xa Xa Xa Xa Xa))) x11.2.2.2.2.2.2.2.1 g12 x11.2.2.2.2.2.2.2.2)}:Jn ((List (Int×Int×Int×Int×Int))) (Option V×Option V×Option V×Option V×Option V×Option V×Option V×V×List XA))) (λ_=>tg2 5 6) ((none),(none),(none),(none),(none),(none),(none),v9,C10) (a8) (Xv (Xj (r:=(rV (rP2 Xa Xa))) 2 rfl (λ_ s=>s.l.l.r))) rfl rfl (λ_ s=>(SC.i (SC.i (SC.i (SC.i (SC.i SC.t s.l.l.l.l.r) s.l.l.l.r) s.l.l.r) s.l.r) s.r)) (λg13 x14 a15 v16=>(CC 7 8 (EvB.sh (Ev.toB (XW (Xc (r:=(rV (rV Xa))) 1 rfl (λ_ s=>s.l.l.l.l.l.r)) (Xc (r:=Xa) 5 rfl (λ_ s=>s.l.r))))) λa20 v21 v22=>(CC 9 10 (EvB.sh (Ev.toB (XW (Xc (r:=(rV (rV Xa))) 1 rfl (λ_ s=>s.l.l.l.l.l.l.l.r)) (ZS (Xc (r:=Xa) 5 rfl (λ_ s=>s.l.l.l.r)))))) λa27 v28 v29=>(Xw (K:=K) (r:=Xa) 11 (EvB.sh (X7 (XI (Xc (r:=Xa) 10 rfl (λ_ s=>s.r)) (Xe 1)) (X4 (Xz (Xc (r:=(rV (rV Xa))) 1 rfl (λ_ s=>s.l.l.l.l.l.l.l.l.l.r)) (Xc (r:=Xa) 9 rfl (λ_ s=>s.l.r)))))) λa30 v31=>(Zb (K:=K) (o:=(oF (rP5 Xa Xa Xa Xa Xa))) (f:=λa58=>(Rs.ok (a58))) 4 0 rfl rfl rfl (λ_ s=>s.l.l.l.l.l.l.l.r) (EvS.ev (Fw (Xj (r:=Xa) 5 rfl (λ_ s=>s.l.l.l.l.l.l.r)) (Xj (r:=Xa) 6 rfl (λ_ s=>s.l.l.l.l.l.r)) (EvB.sh (Xz (Xz (Xc (r:=(rV (rV Xa))) 3 rfl (λ_ s=>s.l.l.l.l.l.l.l.l.r)) (Xc (r:=Xa) 7 rfl (λ_ s=>s.l.l.l.l.r))) (Xc (r:=Xa) 8 rfl (λ_ s=>s.l.l.l.r)))) (EvB.sh (Xz (Xz (Xc (r:=(rV (rV Xa))) 3 rfl (λ_ s=>s.l.l.l.l.l.l.l.l.r)) (Xc (r:=Xa) 9 rfl (λ_ s=>s.l.l.r))) (Xc (r:=Xa) 10 rfl (λ_ s=>s.l.r)))) (EvB.sh (Xz (Xz (Xc (r:=(rV (rV Xa))) 3 rfl (λ_ s=>s.l.l.l.l.l.l.l.l.r)) (Xc (r:=Xa) 9 rfl (λ_ s=>s.l.l.r))) (Xc (r:=Xa) 11 rfl (λ_ s=>s.r)))))) λa56 C57=>(Xs (J:=_) ((some v16.1),(some v16.2),(some v21),(some v22),(some v28),(some v29),(some v31),x14.2.2.2.2.2.2.2.1,C57) ((g13++[a56])) rfl rfl (λ_ s=>(SC.i (SC.i (SC.i (SC.i (SC.i SC.t s.l.l.l.l.l.l.l.l.l.l.l.l.r) s.l.l.l.l.l.l.l.l.l.l.l.r) s.l.l.l.l.l.l.l.l.l.l.r) s.l.l.l.l.l.l.l.l.l.r) s.r)))))))) λg59 x60=>(XC (X9 (o:=(oL (oF (rP5 Xa Xa Xa Xa Xa)))) 4 0 rfl rfl (λ_ s=>s.r)))))))
theorem J6:FnScope ["_law_drawing","_law_count_here","_law_walk"] ["_law_drawing"] (Xi US):=⟨rfl,rfl,rfl,by decide+kernel,rfl,by decide+kernel,by decide+kernel⟩
theorem B7 (D:Def K mg "_law_count" US ["_law_drawing"])(Z:Blt mg):Fn P w K mg base 1 "_law_count" ["_law_drawing"] (sp1 (rP2 (rV (rV Xa)) (rV (rP2 Xa Xa))) (oF Xa) Qp K):=by
 refine Ys D J6 (λvs H Q E h=>?_) (λf cdv A outer s H vs Q E hr h=>?_)
 ·obtain⟨v_0,a_0,b,rfl,_⟩:=h;rfl
 obtain⟨v_0,a_0,b,rfl,h_0,hm,q⟩:=h
 have hu:=hu8 hr
 have hu1:=Yr hr
 refine⟨_,(Xb (Xn (i:=1) J6.nd rfl (Or.inl rfl) (Xr (Xo K rfl) rfl Z.b_len PySem.boot_len (Xd (XD (Yj K rfl) (pv 0) Xh (λ_ _=>rfl)) Xf)))
  (Xb (XU PassesOwn.never rfl (XE (K:=K) rfl (XD (Yj K rfl) (pv 0) Xh (λ_ _=>rfl))) (Xm (i:=2) J6.nd rfl (Or.inl rfl))
   (Xb (YT (Xx Qi (Xr (Xo K rfl) rfl Z.b_len PySem.boot_len (Xd (Zq (sc:=(Xi US)) (N0:=["_law_drawing","_law_count_here","_law_walk"]) (tns:=["_law_one"]) (caps:=[]) rfl (XE (K:=K) rfl (pv 2)) (Y3 (by decide)) (λcl C s H ex E=>⟨Xm (i:=0) (show List.Nodup (["_law_one"]:List Str) by decide+kernel) rfl (Or.inl rfl),(Uy (Xx QI (pv 0) Xh (XN _))),(pv 0)⟩)) Xf)) Xh (XN _))
    (Xb (Xn (i:=1) J6.nd rfl (Or.inl rfl) (Xq XZ (pv 1) Xh))
    Xg)
    Xg)
   Xg))
  (Xb (XB (pv 1))
  Xg))),?_⟩
 refine Yt (S:=(SC.add SC.nil K (rP2 (rV (rV Xa)) (rV (rP2 Xa Xa))) v_0 a_0)) (σ:=[some v_0,none,none]) 0 ?_ (SC.i SC.t h_0) hm q rfl
 unfold Qp
 exact(Xw (K:=K) (r:=Xa) 1 (EvB.sh (X4 (Q4 (Xc (r:=(rP2 (rV (rV Xa)) (rV (rP2 Xa Xa)))) 0 rfl (λ_ s=>s.r))))) λa1 v2=>(X5 (K:=K) (J:=({oo:=λx6=>[],ss:=λx6=>[some v_0,some x6.2,x6.1],sc:=λg7 x6=>(SC.add (SC.add SC.nil K (rP2 (rV (rV Xa)) (rV (rP2 Xa Xa))) v_0 a_0) K Xa x6.2 g7)}:Jn (Int) (Option V×V))) (λ_=>tg1 2) ((none),v2) (a1) (Xv (Qd (Xj (r:=(rP2 (rV (rV Xa)) (rV (rP2 Xa Xa)))) 0 rfl (λ_ s=>s.l.r)))) rfl rfl (λ_ s=>(SC.i (SC.i SC.t s.l.r) s.r)) (λg8 x9 a10 v11=>(Y7 (J:=({oo:=λx22=>[],ss:=λx22=>[some v_0,some x22,some v11],sc:=λg23 x22=>(SC.add (SC.add (SC.add SC.nil K (rP2 (rV (rV Xa)) (rV (rP2 Xa Xa))) v_0 a_0) K (rV Xa) v11 a10) K Xa x22 g23)}:Jn (Int) (V))) (ZP (Fd:=FNd ({oo:=λx22=>[],ss:=λx22=>[some v_0,some x22,some v11],sc:=λg23 x22=>(SC.add (SC.add (SC.add SC.nil K (rP2 (rV (rV Xa)) (rV (rP2 Xa Xa))) v_0 a_0) K (rV Xa) v11 a10) K Xa x22 g23)}:Jn (Int) (V))) (Xp (K:=K) (Ze (X4 (Ev.toB (Vd (λ_=>tg1 0) (Xv (Xj (r:=(rV Xa)) 2 rfl (λ_ s=>s.r))) (λC12 a13 v14=>(Xp (K:=K) (Zy (Xc (r:=Xa) 0 rfl (λ_ s=>s.r)) (Xe 0)))) (λC12 a13 v14=>(EvS.ev (Xj (r:=Xa) 0 rfl (λ_ s=>s.r))))))) (Xe 0))) (Xw (K:=K) (r:=Xa) 1 (EvB.sh (XI (Xc (r:=Xa) 1 rfl (λ_ s=>s.l.r)) (Xe 1))) λa24 v25=>(Xs (J:=_) (v25) (a24) rfl rfl (λ_ s=>(SC.i (SC.i (SC.i SC.t s.l.l.l.r) s.l.r) s.r)))) (Xs (J:=_) (x9.2) (g8) rfl rfl (λ_ s=>(SC.i (SC.i (SC.i SC.t s.l.l.r) s.r) s.l.r)))) λg29 x28=>(Xs (J:=_) ((some v11),x28) (g29) rfl rfl (λ_ s=>(SC.i (SC.i SC.t s.l.l.r) s.r))))) λg30 x31=>(XC (EvS.ev (Xj (r:=Xa) 1 rfl (λ_ s=>s.r))))))
theorem ZO:FnScope ["_law_meetings","_law_table","_law_colours","_law_crossing","_law_sign","_law_over","_law_inward","_law_outward","_law_one","_law_other"] ["_law_meetings","_law_table","_law_colours"] (Xi Gw):=⟨rfl,rfl,rfl,by decide+kernel,rfl,by decide+kernel,by decide+kernel⟩
theorem EF (D:Def K mg "_law_keeps" Gw ["_law_meetings","_law_table","_law_colours"])(Z:Blt mg):Fn P w K mg base 1 "_law_keeps" ["_law_meetings","_law_table","_law_colours"] (sp3 (rV (rP5 Xa Xa Xa Xa Xa)) (rV (rV Xa)) (rV Xa) (oF Yb) Jx K):=by
 refine Ys D ZO (λvs H Q E h=>?_) (λf cdv A outer s H vs Q E hr h=>?_)
 ·obtain⟨v_0,v_1,v_2,a_0,a_1,a_2,b,rfl,_⟩:=h;rfl
 obtain⟨v_0,v_1,v_2,a_0,a_1,a_2,b,rfl,h_0,h_1,h_2,hm,q⟩:=h
 have hu:=hu8 hr
 have hu1:=Yr hr
 refine⟨_,(Xb (XU PassesOwn.never rfl (XE (K:=K) rfl (pv 0)) (Qo rfl (XH (Xm (i:=3) ZO.nd rfl (Or.inl rfl)) (XH (Xm (i:=4) ZO.nd rfl (Or.inl rfl)) (XH (Xm (i:=5) ZO.nd rfl (Or.inl rfl)) (XH (Xm (i:=6) ZO.nd rfl (Or.inl rfl)) (XH (Xm (i:=7) ZO.nd rfl (Or.inl rfl)) Zv))))))
   (Xb (FJ (i:=8) (j:=9) rfl ZO.nd rfl rfl (by decide) rfl rfl (Xd (XD (Xk K rfl) (pv 2) (pv 6) (λ_ _=>rfl)) (Xd (XD (Xk K rfl) (pv 2) (pv 7) (λ_ _=>rfl)) Xf)) rfl)
   (Xb (YT (Xx QI (pv 4) Xh (XN _))
    (Xb (FJ (i:=8) (j:=9) rfl ZO.nd rfl rfl (by decide) rfl rfl (Xd (pv 9) (Xd (pv 8) Xf)) rfl)
    Xg)
    Xg)
   (Xb (YT (Xx E7 (XD (Xk K rfl) (XD (Xk K rfl) (pv 1) (pv 8) (λ_ _=>rfl)) (XD (Xk K rfl) (pv 2) (pv 5) (λ_ _=>rfl)) (λ_ _=>rfl)) (pv 9) (XN _))
    (Xb (XB JO)
    Xg)
    Xg)
   Xg))))
  (Xb (XB JO)
  Xg)),?_⟩
 refine Yt (S:=(SC.add (SC.add (SC.add SC.nil K (rV (rP5 Xa Xa Xa Xa Xa)) v_0 a_0) K (rV (rV Xa)) v_1 a_1) K (rV Xa) v_2 a_2)) (σ:=[some v_0,some v_1,some v_2,none,none,none,none,none,none,none]) 0 ?_ (SC.i (SC.i (SC.i SC.t h_0) h_1) h_2) hm q rfl
 unfold Jx
 exact(VP (K:=K) (J:=({oo:=λx1=>[],ss:=λx1=>[some v_0,some v_1,some v_2,x1.1,x1.2.1,x1.2.2.1,x1.2.2.2.1,x1.2.2.2.2.1,x1.2.2.2.2.2.1,x1.2.2.2.2.2.2],sc:=λg2 x1=>(SC.add (SC.add (SC.add SC.nil K (rV (rP5 Xa Xa Xa Xa Xa)) v_0 a_0) K (rV (rV Xa)) v_1 a_1) K (rV Xa) v_2 a_2)}:Jn (Unit) (Option V×Option V×Option V×Option V×Option V×Option V×Option V))) (λ_=>tg5 3 4 5 6 7) ((none),(none),(none),(none),(none),(none),(none)) () (Xv (Xj (r:=(rV (rP5 Xa Xa Xa Xa Xa))) 0 rfl (λ_ s=>s.l.l.r))) rfl rfl (λ_ s=>(SC.i (SC.i (SC.i SC.t s.l.l.r) s.l.r) s.r)) (λg3 x4 a5 v6=>(Fu (K:=K) 8 9 (EvB.sh (Xz (Xc (r:=(rV Xa)) 2 rfl (λ_ s=>s.l.l.l.l.l.r)) (Xc (r:=Xa) 6 rfl (λ_ s=>s.l.r)))) (EvB.sh (Xz (Xc (r:=(rV Xa)) 2 rfl (λ_ s=>s.l.l.l.l.l.r)) (Xc (r:=Xa) 7 rfl (λ_ s=>s.r)))) λa11 a12 v13 v14=>(Y7 (J:=({oo:=λx18=>[],ss:=λx18=>[some v_0,some v_1,some v_2,some v6.1,some v6.2.1,some v6.2.2.1,some v6.2.2.2.1,some v6.2.2.2.2,some x18.1,some x18.2],sc:=λg19 x18=>(SC.add (SC.add (SC.add (SC.add (SC.add (SC.add (SC.add (SC.add (SC.add (SC.add SC.nil K (rV (rP5 Xa Xa Xa Xa Xa)) v_0 a_0) K (rV (rV Xa)) v_1 a_1) K (rV Xa) v_2 a_2) K Xa v6.1 a5.1) K Xa v6.2.1 a5.2.1) K Xa v6.2.2.1 a5.2.2.1) K Xa v6.2.2.2.1 a5.2.2.2.1) K Xa v6.2.2.2.2 a5.2.2.2.2) K Xa x18.1 g19.1) K Xa x18.2 g19.2)}:Jn (Int×Int) (V×V))) (ZP (Fd:=FNd ({oo:=λx18=>[],ss:=λx18=>[some v_0,some v_1,some v_2,some v6.1,some v6.2.1,some v6.2.2.1,some v6.2.2.2.1,some v6.2.2.2.2,some x18.1,some x18.2],sc:=λg19 x18=>(SC.add (SC.add (SC.add (SC.add (SC.add (SC.add (SC.add (SC.add (SC.add (SC.add SC.nil K (rV (rP5 Xa Xa Xa Xa Xa)) v_0 a_0) K (rV (rV Xa)) v_1 a_1) K (rV Xa) v_2 a_2) K Xa v6.1 a5.1) K Xa v6.2.1 a5.2.1) K Xa v6.2.2.1 a5.2.2.1) K Xa v6.2.2.2.1 a5.2.2.2.1) K Xa v6.2.2.2.2 a5.2.2.2.2) K Xa x18.1 g19.1) K Xa x18.2 g19.2)}:Jn (Int×Int) (V×V))) (Xp (K:=K) (Zy (Xc (r:=Xa) 4 rfl (λ_ s=>s.l.l.l.l.l.r)) (Xe 0))) (Fu (K:=K) 8 9 (Xj (r:=Xa) 9 rfl (λ_ s=>s.r)) (Xj (r:=Xa) 8 rfl (λ_ s=>s.l.r)) λa20 a21 v22 v23=>(Xs (J:=_) (v22,v23) (a20,a21) rfl rfl (λ_ s=>(SC.i (SC.i (SC.i (SC.i (SC.i (SC.i (SC.i (SC.i (SC.i (SC.i SC.t s.l.l.l.l.l.l.l.l.l.l.l.r) s.l.l.l.l.l.l.l.l.l.l.r) s.l.l.l.l.l.l.l.l.l.r) s.l.l.l.l.l.l.l.l.r) s.l.l.l.l.l.l.l.r) s.l.l.l.l.l.l.r) s.l.l.l.l.l.r) s.l.l.l.l.r) s.l.r) s.r)))) (Xs (J:=_) (v13,v14) (a11,a12) rfl rfl (λ_ s=>(SC.i (SC.i (SC.i (SC.i (SC.i (SC.i (SC.i (SC.i (SC.i (SC.i SC.t s.l.l.l.l.l.l.l.l.l.r) s.l.l.l.l.l.l.l.l.r) s.l.l.l.l.l.l.l.r) s.l.l.l.l.l.l.r) s.l.l.l.l.l.r) s.l.l.l.l.r) s.l.l.l.r) s.l.l.r) s.l.r) s.r)))) λg25 x24=>(Vl (Xp (K:=K) (Fg (Xz (Xz (Xc (r:=(rV (rV Xa))) 1 rfl (λ_ s=>s.l.l.l.l.l.l.l.l.r)) (Xc (r:=Xa) 8 rfl (λ_ s=>s.l.r))) (Xz (Xc (r:=(rV Xa)) 2 rfl (λ_ s=>s.l.l.l.l.l.l.l.r)) (Xc (r:=Xa) 5 rfl (λ_ s=>s.l.l.l.l.r)))) (Xc (r:=Xa) 9 rfl (λ_ s=>s.r)))) (XC (EvS.ev (EvB.sh (Qg false)))) (Kh (Xs (J:=_) ((some v6.1),(some v6.2.1),(some v6.2.2.1),(some v6.2.2.2.1),(some v6.2.2.2.2),(some x24.1),(some x24.2)) () rfl rfl (λ_ s=>(SC.i (SC.i (SC.i SC.t s.l.l.l.l.l.l.l.l.l.r) s.l.l.l.l.l.l.l.l.r) s.l.l.l.l.l.l.l.r)))))))) λg37 x38=>(XC (EvS.ev (EvB.sh (Qg true)))))
theorem Jd:FnScope ["_law_drawing","_law_table","_law_meetings","_law_found","_law_k","_law_ready","_law_longer","_law_colours","_law_colour"] ["_law_drawing","_law_table"] (Xi ET):=⟨rfl,rfl,rfl,by decide+kernel,rfl,by decide+kernel,by decide+kernel⟩
theorem Lr (D:Def K mg "_law_all" ET ["_law_drawing","_law_table"])(g_l_meets:Fn P w K mg base 2 "_law_meets" ["_law_drawing"] (sp1 (rP2 (rV (rV Xa)) (rV (rP2 Xa Xa))) (oL (oF (rP5 Xa Xa Xa Xa Xa))) ZH K))(g_count:Fn P w K mg base 1 "_law_count" ["_law_drawing"] (sp1 (rP2 (rV (rV Xa)) (rV (rP2 Xa Xa))) (oF Xa) Qp K))(g_keeps:Fn P w K mg base 1 "_law_keeps" ["_law_meetings","_law_table","_law_colours"] (sp3 (rV (rP5 Xa Xa Xa Xa Xa)) (rV (rV Xa)) (rV Xa) (oF Yb) Jx K))(Z:Blt mg):Fn P w K mg base 3 "_law_all" ["_law_drawing","_law_table"] (sp2 (rP2 (rV (rV Xa)) (rV (rP2 Xa Xa))) (rV (rV Xa)) (oL (oL (oF Xa))) Ga K):=by
 refine Ys D Jd (λvs H Q E h=>?_) (λf cdv A outer s H vs Q E hr h=>?_)
 ·obtain⟨v_0,v_1,a_0,a_1,b,rfl,_⟩:=h;rfl
 obtain⟨v_0,v_1,a_0,a_1,b,rfl,h_0,h_1,hm,q⟩:=h
 have hu:=hu8 hr
 have hu1:=Yr hr
 refine⟨_,(Xb (Xn (i:=2) Jd.nd rfl (Or.inl rfl) (X6 g_l_meets hr (by decide) (Xd (pv 0) Xf)))
  (Xb (Xn (i:=3) Jd.nd rfl (Or.inl rfl) (X1 (Xd (X1 Xf) Xf Q9)))
  (Xb (XU PassesOwn.never rfl (XQ rfl Z.b_range (Xd (X6 g_count hr (by decide) (Xd (pv 0) Xf)) Xf)) (Xm (i:=4) Jd.nd rfl (Or.inr rfl))
   (Xb (Q3 5 (Xi ET) ["_law_drawing","_law_table","_law_meetings","_law_found","_law_k","_law_ready","_law_longer","_law_colours","_law_colour"] ["_law_one"] [(4,"_law_k")] rfl Jd.nd rfl rfl (XE (K:=K) rfl (pv 2)) (Y3 (by decide)) (λcl C s H ex E=>⟨Xm (i:=0) (show List.Nodup (["_law_one","_law_k"]:List Str) by decide+kernel) rfl (Or.inl rfl),(Uy (Xx Qi (Xr (KD K rfl rfl) rfl Z.b_max PyProof.Rows.boot_max (Xd (J3 (IN K rfl) (pv 0) (Uz Xh) UJ) Xf)) (pv 1) (XN _))),(pv 0)⟩))
   (Xb (Xn (i:=6) Jd.nd rfl (Or.inl rfl) (X1 Xf))
   (Xb (XU PassesOwn.never rfl (XE (K:=K) rfl (pv 3)) (Xm (i:=7) Jd.nd rfl (Or.inl rfl))
    (Xb (XU PassesOwn.never rfl (XQ rfl Z.b_range (Xd (Xr (Xo K rfl) rfl Z.b_len PySem.boot_len (Xd (pv 1) Xf)) Xf)) (Xm (i:=8) Jd.nd rfl (Or.inl rfl))
     (Xb (YT (QM (X6 g_keeps hr (by decide) (Xd (pv 5) (Xd (pv 1) (Xd (Xq Uc (pv 7) (X1 (Xd (pv 8) Xf))) Xf)))))
      (Xb (Yd (Zk PySem.F.plainAttrs_list PySem.F.slot_list_append PySem.F.type_list_append XR (pv 6) (Xd (Xq Uc (pv 7) (X1 (Xd (pv 8) Xf))) Xf)))
      Xg)
      Xg)
     Xg))
    Xg))
   (Xb (Xn (i:=3) Jd.nd rfl (Or.inl rfl) (pv 6))
   Xg)))))
  (Xb (XB (pv 3))
  Xg)))),?_⟩
 refine Yt (S:=(SC.add (SC.add SC.nil K (rP2 (rV (rV Xa)) (rV (rP2 Xa Xa))) v_0 a_0) K (rV (rV Xa)) v_1 a_1)) (σ:=[some v_0,some v_1,none,none,none,none,none,none,none]) 2 ?_ (SC.i (SC.i SC.t h_0) h_1) hm q rfl
 unfold Ga
 exact(Xw (K:=K) (r:=(rV (rP5 Xa Xa Xa Xa Xa))) 2 (Ev.sh (Yy (Xc (r:=(rP2 (rV (rV Xa)) (rV (rP2 Xa Xa)))) 0 rfl (λ_ s=>s.l.r)))) λa1 v2=>(XO (K:=K) (o:=(oL (oL (oF Xa)))) 3 0 (Gj (Z3 (Z6 (o:=(oF Xa))) λ_=>U0)) (Nat.le_of_ble_eq_true rfl) λa5 v6 C7=>(X5 (K:=K) (J:=({oo:=λx14=>[x14.2.2.2.2.2.2,[]],ss:=λx14=>[some v_0,some v_1,some v2,some x14.2.2.2.2.1,x14.1,x14.2.1,x14.2.2.1,x14.2.2.2.1,x14.2.2.2.2.2.1],sc:=λg15 x14=>(SC.addO (SC.add (SC.add (SC.add SC.nil K (rP2 (rV (rV Xa)) (rV (rP2 Xa Xa))) v_0 a_0) K (rV (rV Xa)) v_1 a_1) K (rV (rP5 Xa Xa Xa Xa Xa)) v2 a1) K (oL (oL (oF Xa))) x14.2.2.2.2.1 g15 x14.2.2.2.2.2.2)}:Jn ((List (List Int))) (Option V×Option V×Option V×Option V×V×Option V×List XA))) (λ_=>tg1 4) ((none),(none),(none),(none),v6,(none),C7) (a5) (Xy (Ev.toB (Yy (Xc (r:=(rP2 (rV (rV Xa)) (rV (rP2 Xa Xa)))) 0 rfl (λ_ s=>s.l.l.l.r))))) rfl rfl (λ_ s=>(SC.i (SC.i (SC.i (SC.i SC.t s.l.l.l.r) s.l.l.r) s.l.r) s.r)) (λg16 x17 a18 v19=>(Xw (K:=K) (r:=(rV (rP5 Xa Xa Xa Xa Xa))) 5 (Ev.sh (Vd (λ_=>tg1 0) (Xv (Xj (r:=(rV (rP5 Xa Xa Xa Xa Xa))) 2 rfl (λ_ s=>s.l.l.r))) (λC22 a23 v24=>(Xp (K:=K) (Ze (Fa (F7 (IA (Xc (r:=(rP5 Xa Xa Xa Xa Xa)) 0 rfl (λ_ s=>s.r))) (JZ (K:=K) (Xe 2)) JX)) (Xc (r:=Xa) 1 rfl (λ_ s=>s.l.r))))) (λC22 a23 v24=>(EvS.ev (Xj (r:=(rP5 Xa Xa Xa Xa Xa)) 0 rfl (λ_ s=>s.r)))))) λa20 v21=>(XO (K:=K) (o:=(oL (oL (oF Xa)))) 6 1 (Z6 (o:=(oL (oF Xa)))) (Nat.le_of_ble_eq_true rfl) λa33 v34 C35=>(L4 (K:=K) (o:=(oL (oL (oF Xa)))) 0 rfl (λ_ s=>s.l.l.l.r) (X5 (K:=K) (J:=({oo:=λx36=>[[],x36.2.2.2],ss:=λx36=>[some v_0,some v_1,some v2,some x17.2.2.2.2.1,some v19,some v21,some x36.2.2.1,x36.1,x36.2.1],sc:=λg37 x36=>(SC.addO (SC.add (SC.add (SC.add (SC.add (SC.add (SC.add SC.nil K (rP2 (rV (rV Xa)) (rV (rP2 Xa Xa))) v_0 a_0) K (rV (rV Xa)) v_1 a_1) K (rV (rP5 Xa Xa Xa Xa Xa)) v2 a1) K (rV (rV Xa)) x17.2.2.2.2.1 g16) K Xa v19 a18) K (rV (rP5 Xa Xa Xa Xa Xa)) v21 a20) K (oL (oL (oF Xa))) x36.2.2.1 g37 x36.2.2.2)}:Jn ((List (List Int))) (Option V×Option V×V×List XA))) (λ_=>tg1 7) ((x17.2.2.2.1),(x17.2.2.2.2.2.1),v34,C35) (a33) (Xv (Xj (r:=(rV (rV Xa))) 3 rfl (λ_ s=>s.r))) rfl rfl (λ_ s=>(SC.i (SC.i (SC.i (SC.i (SC.i (SC.i (SC.i SC.t s.l.l.l.l.l.l.l.r) s.l.l.l.l.l.l.r) s.l.l.l.l.l.r) s.r) s.l.l.l.r) s.l.l.r) s.l.r)) (λg38 x39 a40 v41=>(X5 (K:=K) (J:=({oo:=λx44=>[[],x44.2.2],ss:=λx44=>[some v_0,some v_1,some v2,some x17.2.2.2.2.1,some v19,some v21,some x44.2.1,some v41,x44.1],sc:=λg45 x44=>(SC.addO (SC.add (SC.add (SC.add (SC.add (SC.add (SC.add (SC.add SC.nil K (rP2 (rV (rV Xa)) (rV (rP2 Xa Xa))) v_0 a_0) K (rV (rV Xa)) v_1 a_1) K (rV (rP5 Xa Xa Xa Xa Xa)) v2 a1) K (rV (rV Xa)) x17.2.2.2.2.1 g16) K Xa v19 a18) K (rV (rP5 Xa Xa Xa Xa Xa)) v21 a20) K (rV Xa) v41 a40) K (oL (oL (oF Xa))) x44.2.1 g45 x44.2.2)}:Jn ((List (List Int))) (Option V×V×List XA))) (λ_=>tg1 8) ((x39.2.1),x39.2.2.1,x39.2.2.2) (g38) (Xy (X4 (Xc (r:=(rV (rV Xa))) 1 rfl (λ_ s=>s.l.l.l.l.l.l.r)))) rfl rfl (λ_ s=>(SC.i (SC.i (SC.i (SC.i (SC.i (SC.i (SC.i (SC.i SC.t s.l.l.l.l.l.l.l.r) s.l.l.l.l.l.l.r) s.l.l.l.l.l.r) s.l.l.l.l.r) s.l.l.l.r) s.l.l.r) s.r) s.l.r)) (λg46 x47 a48 v49=>(Y7 (J:=({oo:=λx60=>[[],x60.2],ss:=λx60=>[some v_0,some v_1,some v2,some x17.2.2.2.2.1,some v19,some v21,some x60.1,some v41,some v49],sc:=λg61 x60=>(SC.addO (SC.add (SC.add (SC.add (SC.add (SC.add (SC.add (SC.add (SC.add SC.nil K (rP2 (rV (rV Xa)) (rV (rP2 Xa Xa))) v_0 a_0) K (rV (rV Xa)) v_1 a_1) K (rV (rP5 Xa Xa Xa Xa Xa)) v2 a1) K (rV (rV Xa)) x17.2.2.2.2.1 g16) K Xa v19 a18) K (rV (rP5 Xa Xa Xa Xa Xa)) v21 a20) K (rV Xa) v41 a40) K Xa v49 a48) K (oL (oL (oF Xa))) x60.1 g61 x60.2)}:Jn ((List (List Int))) (V×List XA))) (ZP (Fd:=FNd ({oo:=λx60=>[[],x60.2],ss:=λx60=>[some v_0,some v_1,some v2,some x17.2.2.2.2.1,some v19,some v21,some x60.1,some v41,some v49],sc:=λg61 x60=>(SC.addO (SC.add (SC.add (SC.add (SC.add (SC.add (SC.add (SC.add (SC.add SC.nil K (rP2 (rV (rV Xa)) (rV (rP2 Xa Xa))) v_0 a_0) K (rV (rV Xa)) v_1 a_1) K (rV (rP5 Xa Xa Xa Xa Xa)) v2 a1) K (rV (rV Xa)) x17.2.2.2.2.1 g16) K Xa v19 a18) K (rV (rP5 Xa Xa Xa Xa Xa)) v21 a20) K (rV Xa) v41 a40) K Xa v49 a48) K (oL (oL (oF Xa))) x60.1 g61 x60.2)}:Jn ((List (List Int))) (V×List XA))) (VV (K:=K) (Ev.toB (YV (Xc (r:=(rV (rP5 Xa Xa Xa Xa Xa))) 5 rfl (λ_ s=>s.l.l.l.r)) (Xc (r:=(rV (rV Xa))) 1 rfl (λ_ s=>s.l.l.l.l.l.l.l.r)) (Ev.toB (Uj (EvS.ls (Xj (r:=(rV Xa)) 7 rfl (λ_ s=>s.l.l.r))) (Ev.ls (Zx (Xu (Xj (r:=Xa) 8 rfl (λ_ s=>s.r)) YY)))))))) (Zb (K:=K) (o:=(oL (oF Xa))) (f:=λa69=>(Rs.ok (a69))) 6 1 rfl rfl rfl (λ_ s=>s.l.r) (Uj (EvS.ls (Xj (r:=(rV Xa)) 7 rfl (λ_ s=>s.l.l.r))) (Ev.ls (Zx (Xu (Xj (r:=Xa) 8 rfl (λ_ s=>s.r)) YY)))) λa67 C68=>(Xs (J:=_) (x47.2.1,C68) ((g46++[a67])) rfl rfl (λ_ s=>(SC.i (SC.i (SC.i (SC.i (SC.i (SC.i (SC.i (SC.i (SC.i SC.t s.l.l.l.l.l.l.l.l.l.r) s.l.l.l.l.l.l.l.l.r) s.l.l.l.l.l.l.l.r) s.l.l.l.l.l.l.r) s.l.l.l.l.l.r) s.l.l.l.l.r) s.l.l.l.r) s.l.r) s.r)))) (Xs (J:=_) (x47.2.1,x47.2.2) (g46) rfl rfl (λ_ s=>(SC.i (SC.i (SC.i (SC.i (SC.i (SC.i (SC.i (SC.i (SC.i SC.t s.l.l.l.l.l.l.l.l.r) s.l.l.l.l.l.l.l.r) s.l.l.l.l.l.l.r) s.l.l.l.l.l.r) s.l.l.l.l.r) s.l.l.l.r) s.l.l.r) s.r) s.l.r)))) λg71 x70=>(Xs (J:=_) ((some v49),x70.1,x70.2) (g71) rfl rfl (λ_ s=>(SC.i (SC.i (SC.i (SC.i (SC.i (SC.i (SC.i (SC.i SC.t s.l.l.l.l.l.l.l.l.r) s.l.l.l.l.l.l.l.r) s.l.l.l.l.l.l.r) s.l.l.l.l.l.r) s.l.l.l.l.r) s.l.l.l.r) s.l.l.r) s.r))))) λg72 x73=>(Xs (J:=_) ((some v41),(x73.1),x73.2.1,x73.2.2) (g72) rfl rfl (λ_ s=>(SC.i (SC.i (SC.i (SC.i (SC.i (SC.i (SC.i SC.t s.l.l.l.l.l.l.l.r) s.l.l.l.l.l.l.r) s.l.l.l.l.l.r) s.l.l.l.l.r) s.l.l.l.r) s.l.l.r) s.r))))) λg75 x76=>(XO (K:=K) (o:=(oL (oL (oF Xa)))) 3 0 (X9 (o:=(oL (oL (oF Xa)))) 6 1 rfl rfl (λ_ s=>s.r)) (Nat.le_of_ble_eq_true rfl) λa77 v78 C79=>(Xs (J:=_) ((some v19),(some v21),(some x76.2.2.1),(x76.1),v78,(x76.2.1),C79) (a77) rfl rfl (λ_ s=>(SC.i (SC.i (SC.i (SC.i SC.t s.l.l.l.l.l.l.l.r) s.l.l.l.l.l.l.r) s.l.l.l.l.l.r) s.r))))))))) λg81 x82=>(XC (X9 (o:=(oL (oL (oF Xa)))) 3 0 rfl rfl (λ_ s=>s.r))))))
theorem J2:FnScope ["_law_size","_law_count_here","_law_total","_law_k"] ["_law_size","_law_count_here"] (Xi GN):=⟨rfl,rfl,rfl,by decide+kernel,rfl,by decide+kernel,by decide+kernel⟩
theorem EW (D:Def K mg "_law_power" GN ["_law_size","_law_count_here"])(Z:Blt mg):Fn P w K mg base 1 "_law_power" ["_law_size","_law_count_here"] (sp2 Xa Xa (oF Xa) JD K):=by
 refine Ys D J2 (λvs H Q E h=>?_) (λf cdv A outer s H vs Q E hr h=>?_)
 ·obtain⟨v_0,v_1,a_0,a_1,b,rfl,_⟩:=h;rfl
 obtain⟨v_0,v_1,a_0,a_1,b,rfl,h_0,h_1,hm,q⟩:=h
 have hu:=hu8 hr
 have hu1:=Yr hr
 refine⟨_,(Xb (Xn (i:=2) J2.nd rfl (Or.inl rfl) Xh)
  (Xb (XU PassesOwn.never rfl (XQ rfl Z.b_range (Xd (pv 1) Xf)) (Xm (i:=3) J2.nd rfl (Or.inl rfl))
   (Xb (Xn (i:=2) J2.nd rfl (Or.inl rfl) (Xq YQ (pv 2) (pv 0)))
   Xg))
  (Xb (XB (pv 2))
  Xg))),?_⟩
 refine Yt (S:=(SC.add (SC.add SC.nil K Xa v_0 a_0) K Xa v_1 a_1)) (σ:=[some v_0,some v_1,none,none]) 0 ?_ (SC.i (SC.i SC.t h_0) h_1) hm q rfl
 unfold JD
 exact(Xw (K:=K) (r:=Xa) 2 (EvB.sh (Xe 1)) λa1 v2=>(X5 (K:=K) (J:=({oo:=λx4=>[],ss:=λx4=>[some v_0,some v_1,some x4.2,x4.1],sc:=λg5 x4=>(SC.add (SC.add (SC.add SC.nil K Xa v_0 a_0) K Xa v_1 a_1) K Xa x4.2 g5)}:Jn (Int) (Option V×V))) (λ_=>tg1 3) ((none),v2) (a1) (Xy (Xc (r:=Xa) 1 rfl (λ_ s=>s.l.r))) rfl rfl (λ_ s=>(SC.i (SC.i (SC.i SC.t s.l.l.r) s.l.r) s.r)) (λg6 x7 a8 v9=>(Xw (K:=K) (r:=Xa) 2 (EvB.sh (Yg (Xc (r:=Xa) 2 rfl (λ_ s=>s.l.r)) (Xc (r:=Xa) 0 rfl (λ_ s=>s.l.l.l.r)))) λa10 v11=>(Xs (J:=_) ((some v9),v11) (a10) rfl rfl (λ_ s=>(SC.i (SC.i (SC.i SC.t s.l.l.l.l.r) s.l.l.l.r) s.r))))) λg14 x15=>(XC (EvS.ev (Xj (r:=Xa) 2 rfl (λ_ s=>s.r))))))
theorem J5:FnScope ["_law_drawing","_law_most","_law_count_here","_law_size"] ["_law_drawing","_law_most"] (Xi GF):=⟨rfl,rfl,rfl,by decide+kernel,rfl,by decide+kernel,by decide+kernel⟩
theorem EC (D:Def K mg "_law_limit" GF ["_law_drawing","_law_most"])(g_count:Fn P w K mg base 1 "_law_count" ["_law_drawing"] (sp1 (rP2 (rV (rV Xa)) (rV (rP2 Xa Xa))) (oF Xa) Qp K))(g_power:Fn P w K mg base 1 "_law_power" ["_law_size","_law_count_here"] (sp2 Xa Xa (oF Xa) JD K))(Z:Blt mg):Fn P w K mg base 2 "_law_limit" ["_law_drawing","_law_most"] (sp2 (rP2 (rV (rV Xa)) (rV (rP2 Xa Xa))) Xa (oF Xa) QQ K):=by
 refine Ys D J5 (λvs H Q E h=>?_) (λf cdv A outer s H vs Q E hr h=>?_)
 ·obtain⟨v_0,v_1,a_0,a_1,b,rfl,_⟩:=h;rfl
 obtain⟨v_0,v_1,a_0,a_1,b,rfl,h_0,h_1,hm,q⟩:=h
 have hu:=hu8 hr
 have hu1:=Yr hr
 refine⟨_,(Xb (Xn (i:=2) J5.nd rfl (Or.inl rfl) (X6 g_count hr (by decide) (Xd (pv 0) Xf)))
  (Xb (Xn (i:=3) J5.nd rfl (Or.inl rfl) Xh)
  (Xb (Vc PassesOwn.never (PW.pt (ZX (Xx QI (pv 3) Xh (XN _)) (Qk (Xx M6 (X6 g_power hr (by decide) (Xd (Xq XZ (pv 3) Xh) (Xd (pv 2) Xf))) (pv 1) (XN _)))))
   (Xb (Xn (i:=3) J5.nd rfl (Or.inl rfl) (Xq XZ (pv 3) Xh))
   Xg))
  (Xb (XB (pv 3))
  Xg)))),?_⟩
 refine Yt (S:=(SC.add (SC.add SC.nil K (rP2 (rV (rV Xa)) (rV (rP2 Xa Xa))) v_0 a_0) K Xa v_1 a_1)) (σ:=[some v_0,some v_1,none,none]) 0 ?_ (SC.i (SC.i SC.t h_0) h_1) hm q rfl
 unfold QQ
 exact(Xw (K:=K) (r:=Xa) 2 (EvB.sh (Ev.toB (Yy (Xc (r:=(rP2 (rV (rV Xa)) (rV (rP2 Xa Xa)))) 0 rfl (λ_ s=>s.l.r))))) λa1 v2=>(Xw (K:=K) (r:=Xa) 3 (EvB.sh (Xe 1)) λa5 v6=>(Va (J:=({oo:=λx7=>[],ss:=λx7=>[some v_0,some v_1,some v2,some x7],sc:=λg8 x7=>(SC.add (SC.add (SC.add (SC.add SC.nil K (rP2 (rV (rV Xa)) (rV (rP2 Xa Xa))) v_0 a_0) K Xa v_1 a_1) K Xa v2 a1) K Xa x7 g8)}:Jn (Int) (V))) (8) (v6) (a5) rfl rfl (λ_ s=>(SC.i (SC.i (SC.i (SC.i SC.t s.l.l.l.r) s.l.l.r) s.l.r) s.r)) (λg9 x10=>(Zh (Xp (K:=K) (Zy (Xc (r:=Xa) 3 rfl (λ_ s=>s.r)) (Xe 6))) (Xp (K:=K) (Mq (Ev.toB (XW (XI (Xc (r:=Xa) 3 rfl (λ_ s=>s.r)) (Xe 1)) (Xc (r:=Xa) 2 rfl (λ_ s=>s.l.r)))) (Xc (r:=Xa) 1 rfl (λ_ s=>s.l.l.r)))))) (λg9 x10=>(Xw (K:=K) (r:=Xa) 3 (EvB.sh (XI (Xc (r:=Xa) 3 rfl (λ_ s=>s.r)) (Xe 1))) λa20 v21=>(Xs (J:=_) (v21) (a20) rfl rfl (λ_ s=>(SC.i (SC.i (SC.i (SC.i SC.t s.l.l.l.l.r) s.l.l.l.r) s.l.l.r) s.r))))) λg24 x25=>(XC (EvS.ev (Xj (r:=Xa) 3 rfl (λ_ s=>s.r)))))))
theorem Y8:FnScope ["_law_table","_law_found","_law_x","_law_b"] ["_law_table"] (Xi Zp):=⟨rfl,rfl,rfl,by decide+kernel,rfl,by decide+kernel,by decide+kernel⟩
theorem VI (D:Def K mg "_law_turned_table" Zp ["_law_table"])(Z:Blt mg):Fn P w K mg base 1 "_law_turned_table" ["_law_table"] (sp1 (rV (rV Xa)) (oL (oL (oF Xa))) YF K):=by
 refine Ys D Y8 (λvs H Q E h=>?_) (λf cdv A outer s H vs Q E hr h=>?_)
 ·obtain⟨v_0,a_0,b,rfl,_⟩:=h;rfl
 obtain⟨v_0,a_0,b,rfl,h_0,hm,q⟩:=h
 have hu:=hu8 hr
 have hu1:=Yr hr
 refine⟨_,(Xb (Q3 1 (Xi Zp) ["_law_table","_law_found","_law_x","_law_b"] ["_law_line"] [] rfl Y8.nd rfl rfl (XE (K:=K) rfl (pv 0)) (Y3 (by decide)) (λcl C s H ex E=>⟨Xm (i:=0) (show List.Nodup (["_law_line"]:List Str) by decide+kernel) rfl (Or.inl rfl),Zo,(Zc (Yc K rfl) rfl Z.b_list PyProof.Rows.boot_list (Xd (pv 0) Xf))⟩))
  (Xb (XU PassesOwn.never rfl (XQ rfl Z.b_range (Xd (Xr (Xo K rfl) rfl Z.b_len PySem.boot_len (Xd (pv 0) Xf)) Xf)) (Xm (i:=2) Y8.nd rfl (Or.inl rfl))
   (Xb (XU PassesOwn.never rfl (XQ rfl Z.b_range (Xd (Xr (Xo K rfl) rfl Z.b_len PySem.boot_len (Xd (pv 0) Xf)) Xf)) (Xm (i:=3) Y8.nd rfl (Or.inl rfl))
    (Xb (VU (pv 2) (Fh (XD (Xk K rfl) (pv 1) (XD (Xk K rfl) (XD (Xk K rfl) (pv 0) (pv 2) (λ_ _=>rfl)) (pv 3) (λ_ _=>rfl)) (λ_ _=>rfl)) (pv 3) JU))
    Xg))
   Xg))
  (Xb (XB (pv 1))
  Xg))),?_⟩
 refine Yt (S:=(SC.add SC.nil K (rV (rV Xa)) v_0 a_0)) (σ:=[some v_0,none,none,none]) 1 ?_ (SC.i SC.t h_0) hm q rfl
 unfold YF
 exact(XO (K:=K) (o:=(oL (oL (oF Xa)))) 1 0 (Zn (λ_=>tg1 0) (Xv (Xj (r:=(rV (rV Xa))) 0 rfl (λ_ s=>s.r))) (λC4 a5 v6=>(Qa (EvS.ls (Xj (r:=(rV Xa)) 0 rfl (λ_ s=>s.r)))))) (Nat.le_of_ble_eq_true rfl) λa1 v2 C3=>(X5 (K:=K) (J:=({oo:=λx11=>[x11.2.2.2],ss:=λx11=>[some v_0,some x11.2.2.1,x11.1,x11.2.1],sc:=λg12 x11=>(SC.addO (SC.add SC.nil K (rV (rV Xa)) v_0 a_0) K (oL (oL (oF Xa))) x11.2.2.1 g12 x11.2.2.2)}:Jn ((List (List Int))) (Option V×Option V×V×List XA))) (λ_=>tg1 2) ((none),(none),v2,C3) (a1) (Xy (X4 (Xc (r:=(rV (rV Xa))) 0 rfl (λ_ s=>s.l.r)))) rfl rfl (λ_ s=>(SC.i (SC.i SC.t s.l.r) s.r)) (λg13 x14 a15 v16=>(X5 (K:=K) (J:=({oo:=λx19=>[x19.2.2],ss:=λx19=>[some v_0,some x19.2.1,some v16,x19.1],sc:=λg20 x19=>(SC.addO (SC.add (SC.add SC.nil K (rV (rV Xa)) v_0 a_0) K Xa v16 a15) K (oL (oL (oF Xa))) x19.2.1 g20 x19.2.2)}:Jn ((List (List Int))) (Option V×V×List XA))) (λ_=>tg1 3) ((x14.2.1),x14.2.2.1,x14.2.2.2) (g13) (Xy (X4 (Xc (r:=(rV (rV Xa))) 0 rfl (λ_ s=>s.l.l.r)))) rfl rfl (λ_ s=>(SC.i (SC.i (SC.i SC.t s.l.l.r) s.r) s.l.r)) (λg21 x22 a23 v24=>(KG (K:=K) (r:=Xa) 1 0 rfl rfl (λ_ s=>s.l.r) (Xj (r:=Xa) 2 rfl (λ_ s=>s.l.l.r)) (Xz (Xz (Xc (r:=(rV (rV Xa))) 0 rfl (λ_ s=>s.l.l.l.r)) (Xc (r:=Xa) 2 rfl (λ_ s=>s.l.l.r))) (Xc (r:=Xa) 3 rfl (λ_ s=>s.r))) (Xc (r:=Xa) 3 rfl (λ_ s=>s.r)) λa32 C33=>(Xs (J:=_) ((some v24),x22.2.1,C33) (a32) rfl rfl (λ_ s=>(SC.i (SC.i (SC.i SC.t s.l.l.l.l.r) s.l.l.l.r) s.r))))) λg36 x37=>(Xs (J:=_) ((some v16),(x37.1),x37.2.1,x37.2.2) (g36) rfl rfl (λ_ s=>(SC.i (SC.i SC.t s.l.l.r) s.r))))) λg39 x40=>(XC (X9 (o:=(oL (oL (oF Xa)))) 1 0 rfl rfl (λ_ s=>s.r)))))
theorem Dl:FnScope ["_law_passage","_law_step"] ["_law_passage","_law_step"] (Xi VA):=⟨rfl,rfl,rfl,by decide+kernel,rfl,by decide+kernel,by decide+kernel⟩
theorem Dg (D:Def K mg "_law_farther" VA ["_law_passage","_law_step"])(Z:Blt mg):Fn P w K mg base 1 "_law_farther" ["_law_passage","_law_step"] (sp2 Xa Xa (oF Xa) Ql K):=by
 refine Ys D Dl (λvs H Q E h=>?_) (λf cdv A outer s H vs Q E hr h=>?_)
 ·obtain⟨v_0,v_1,a_0,a_1,b,rfl,_⟩:=h;rfl
 obtain⟨v_0,v_1,a_0,a_1,b,rfl,h_0,h_1,hm,q⟩:=h
 have hu:=hu8 hr
 have hu1:=Yr hr
 refine⟨_,(Xb (YT (Xx QI (pv 0) Xh (XN _))
   (Xb (XB (Xq ZC (pv 0) (pv 1)))
   Xg)
   Xg)
  (Xb (XB (Xq XZ (pv 0) (pv 1)))
  Xg)),?_⟩
 refine Yt (S:=(SC.add (SC.add SC.nil K Xa v_0 a_0) K Xa v_1 a_1)) (σ:=[some v_0,some v_1]) 0 ?_ (SC.i (SC.i SC.t h_0) h_1) hm q rfl
 unfold Ql
 exact(ZL (Xp (K:=K) (Zy (Xc (r:=Xa) 0 rfl (λ_ s=>s.l.r)) (Xe 0))) (XC (EvS.ev (EvB.sh (Y2 (Xc (r:=Xa) 0 rfl (λ_ s=>s.l.r)) (Xc (r:=Xa) 1 rfl (λ_ s=>s.r)))))) (XC (EvS.ev (EvB.sh (XI (Xc (r:=Xa) 0 rfl (λ_ s=>s.l.r)) (Xc (r:=Xa) 1 rfl (λ_ s=>s.r)))))))
theorem ZV:FnScope ["_law_one","_law_other","_law_step","_law_name","_law_sign","_law_walks","_law_walk","_law_signs"] ["_law_one","_law_other"] (Xi Kc):=⟨rfl,rfl,rfl,by decide+kernel,rfl,by decide+kernel,by decide+kernel⟩
theorem IJ (D:Def K mg "_law_laid" Kc ["_law_one","_law_other"])(g_farther:Fn P w K mg base 1 "_law_farther" ["_law_passage","_law_step"] (sp2 Xa Xa (oF Xa) Ql K))(Z:Blt mg):Fn P w K mg base 2 "_law_laid" ["_law_one","_law_other"] (sp2 (rP2 (rV (rV Xa)) (rV (rP2 Xa Xa))) (rP2 (rV (rV Xa)) (rV (rP2 Xa Xa))) (oT2 (oL (oL (oF Xa))) (oL (oF (rP2 Xa Xa)))) V4 K):=by
 refine Ys D ZV (λvs H Q E h=>?_) (λf cdv A outer s H vs Q E hr h=>?_)
 ·obtain⟨v_0,v_1,a_0,a_1,b,rfl,_⟩:=h;rfl
 obtain⟨v_0,v_1,a_0,a_1,b,rfl,h_0,h_1,hm,q⟩:=h
 have hu:=hu8 hr
 have hu1:=Yr hr
 refine⟨_,(Xb (Xn (i:=2) ZV.nd rfl (Or.inr rfl) Xh)
  (Xb (XU PassesOwn.never rfl (XE (K:=K) rfl (XD (Yj K rfl) (pv 0) Xh (λ_ _=>rfl))) (Qo rfl (XH (Xm (i:=3) ZV.nd rfl (Or.inl rfl)) (XH (Xm (i:=4) ZV.nd rfl (Or.inl rfl)) Zv)))
   (Xb (Xn (i:=2) ZV.nd rfl (Or.inr rfl) (Xr (Jg rfl) rfl Z.b_max PyProof.Rows.boot_max (Xd (pv 2) (Xd (pv 3) Xf))))
   Xg))
  (Xb (Q3 5 (Xi Kc) ["_law_one","_law_other","_law_step","_law_name","_law_sign","_law_walks","_law_walk","_law_signs"] ["_law_walk"] [] rfl ZV.nd rfl rfl (XE (K:=K) rfl (XD (Yj K rfl) (pv 0) Xh (λ_ _=>rfl))) (Y3 (by decide)) (λcl C s H ex E=>⟨Xm (i:=0) (show List.Nodup (["_law_walk"]:List Str) by decide+kernel) rfl (Or.inl rfl),Zo,(Zc (Yc K rfl) rfl Z.b_list PyProof.Rows.boot_list (Xd (pv 0) Xf))⟩))
  (Xb (XU PassesOwn.never rfl (XE (K:=K) rfl (XD (Yj K rfl) (pv 1) Xh (λ_ _=>rfl))) (Xm (i:=6) ZV.nd rfl (Or.inl rfl))
   (Xb (Yd (Zk PySem.F.plainAttrs_list PySem.F.slot_list_append PySem.F.type_list_append XR (pv 5) (Xd (Zq (sc:=(Xi Kc)) (N0:=["_law_one","_law_other","_law_step","_law_name","_law_sign","_law_walks","_law_walk","_law_signs"]) (tns:=["_law_passage"]) (caps:=[(2,"_law_step")]) rfl (XE (K:=K) rfl (pv 6)) (Y3 (by decide)) (λcl C s H ex E=>⟨Xm (i:=0) (show List.Nodup (["_law_passage","_law_step"]:List Str) by decide+kernel) rfl (Or.inl rfl),Zo,(X6 g_farther hr (by decide) (Xd (pv 0) (Xd (pv 1) Xf)))⟩)) Xf)))
   Xg))
  (Xb (Xn (i:=7) ZV.nd rfl (Or.inl rfl) (Zc (Yc K rfl) rfl Z.b_list PyProof.Rows.boot_list (Xd (XD (Yj K rfl) (pv 0) Xh (λ_ _=>rfl)) Xf)))
  (Xb (XU PassesOwn.never rfl (XE (K:=K) rfl (XD (Yj K rfl) (pv 1) Xh (λ_ _=>rfl))) (Qo rfl (XH (Xm (i:=3) ZV.nd rfl (Or.inl rfl)) (XH (Xm (i:=4) ZV.nd rfl (Or.inl rfl)) Zv)))
   (Xb (Yd (Zk PySem.F.plainAttrs_list PySem.F.slot_list_append PySem.F.type_list_append XR (pv 7) (Xd (ZE (Xd (Xq XZ (pv 3) (pv 2)) (Xd (pv 4) Xf))) Xf)))
   Xg))
  (Xb (XB (ZE (Xd (pv 5) (Xd (pv 7) Xf))))
  Xg))))))),?_⟩
 refine Yt (S:=(SC.add (SC.add SC.nil K (rP2 (rV (rV Xa)) (rV (rP2 Xa Xa))) v_0 a_0) K (rP2 (rV (rV Xa)) (rV (rP2 Xa Xa))) v_1 a_1)) (σ:=[some v_0,some v_1,none,none,none,none,none,none]) 2 ?_ (SC.i (SC.i SC.t h_0) h_1) hm q rfl
 unfold V4
 exact(Xw (K:=K) (r:=Xa) 2 (EvB.sh (Xe 0)) λa1 v2=>(X5 (K:=K) (J:=({oo:=λx4=>[[],[]],ss:=λx4=>[some v_0,some v_1,some x4.2.2,x4.1,x4.2.1,none,none,none],sc:=λg5 x4=>(SC.add (SC.add (SC.add SC.nil K (rP2 (rV (rV Xa)) (rV (rP2 Xa Xa))) v_0 a_0) K (rP2 (rV (rV Xa)) (rV (rP2 Xa Xa))) v_1 a_1) K Xa x4.2.2 g5)}:Jn (Int) (Option V×Option V×V))) (λ_=>tg2 3 4) ((none),(none),v2) (a1) (Xv (UX (Xj (r:=(rP2 (rV (rV Xa)) (rV (rP2 Xa Xa)))) 0 rfl (λ_ s=>s.l.l.r)))) rfl rfl (λ_ s=>(SC.i (SC.i (SC.i SC.t s.l.l.r) s.l.r) s.r)) (λg6 x7 a8 v9=>(Xw (K:=K) (r:=Xa) 2 (EvB.sh (Ux (Xc (r:=Xa) 2 rfl (λ_ s=>s.l.l.r)) (Xc (r:=Xa) 3 rfl (λ_ s=>s.l.r)))) λa10 v11=>(Xs (J:=_) ((some v9.1),(some v9.2),v11) (a10) rfl rfl (λ_ s=>(SC.i (SC.i (SC.i SC.t s.l.l.l.l.l.r) s.l.l.l.l.r) s.r))))) λg14 x15=>(XO (K:=K) (o:=(oL (oL (oF Xa)))) 5 0 (Zn (λ_=>tg1 0) (Xv (Qd (Xj (r:=(rP2 (rV (rV Xa)) (rV (rP2 Xa Xa)))) 0 rfl (λ_ s=>s.l.l.r)))) (λC20 a21 v22=>(Qa (EvS.ls (Xj (r:=(rV Xa)) 0 rfl (λ_ s=>s.r)))))) (Nat.le_of_ble_eq_true rfl) λa16 v17 C18=>(X5 (K:=K) (J:=({oo:=λx26=>[x26.2.2,[]],ss:=λx26=>[some v_0,some v_1,some x15.2.2,x15.1,x15.2.1,some x26.2.1,x26.1,none],sc:=λg27 x26=>(SC.addO (SC.add (SC.add (SC.add SC.nil K (rP2 (rV (rV Xa)) (rV (rP2 Xa Xa))) v_0 a_0) K (rP2 (rV (rV Xa)) (rV (rP2 Xa Xa))) v_1 a_1) K Xa x15.2.2 g14) K (oL (oL (oF Xa))) x26.2.1 g27 x26.2.2)}:Jn ((List (List Int))) (Option V×V×List XA))) (λ_=>tg1 6) ((none),v17,C18) (a16) (Xv (Qd (Xj (r:=(rP2 (rV (rV Xa)) (rV (rP2 Xa Xa)))) 1 rfl (λ_ s=>s.l.l.r)))) rfl rfl (λ_ s=>(SC.i (SC.i (SC.i (SC.i SC.t s.l.l.l.r) s.l.l.r) s.l.r) s.r)) (λg28 x29 a30 v31=>(Zb (K:=K) (o:=(oL (oF Xa))) (f:=λa41=>(Rs.ok (a41))) 5 0 rfl rfl rfl (λ_ s=>s.l.r) (Zn (λ_=>tg1 0) (Xv (Xj (r:=(rV Xa)) 6 rfl (λ_ s=>s.r))) (λC32 a33 v34=>(XW (Xc (r:=Xa) 0 rfl (λ_ s=>s.r)) (Xc (r:=Xa) 1 rfl (λ_ s=>s.l.l.l.r))))) λa39 C40=>(Xs (J:=_) ((some v31),x29.2.1,C40) ((g28++[a39])) rfl rfl (λ_ s=>(SC.i (SC.i (SC.i (SC.i SC.t s.l.l.l.l.l.r) s.l.l.l.l.r) s.l.l.l.r) s.r))))) λg42 x43=>(XO (K:=K) (o:=(oL (oF (rP2 Xa Xa)))) 7 1 (Qa (EvB.ls (Q4 (Xc (r:=(rP2 (rV (rV Xa)) (rV (rP2 Xa Xa)))) 0 rfl (λ_ s=>s.l.l.l.r))))) (Nat.le_of_ble_eq_true rfl) λa44 v45 C46=>(X5 (K:=K) (J:=({oo:=λx50=>[x43.2.2,x50.2.2.2],ss:=λx50=>[some v_0,some v_1,some x15.2.2,x50.1,x50.2.1,some x43.2.1,x43.1,some x50.2.2.1],sc:=λg51 x50=>(SC.addO (SC.addO (SC.add (SC.add (SC.add SC.nil K (rP2 (rV (rV Xa)) (rV (rP2 Xa Xa))) v_0 a_0) K (rP2 (rV (rV Xa)) (rV (rP2 Xa Xa))) v_1 a_1) K Xa x15.2.2 g14) K (oL (oL (oF Xa))) x43.2.1 g42 x43.2.2) K (oL (oF (rP2 Xa Xa))) x50.2.2.1 g51 x50.2.2.2)}:Jn ((List (Int×Int))) (Option V×Option V×V×List XA))) (λ_=>tg2 3 4) ((x15.1),(x15.2.1),v45,C46) (a44) (Xv (UX (Xj (r:=(rP2 (rV (rV Xa)) (rV (rP2 Xa Xa)))) 1 rfl (λ_ s=>s.l.l.l.r)))) rfl rfl (λ_ s=>(SC.i (SC.i (SC.i (SC.i (SC.i SC.t s.l.l.l.l.r) s.l.l.l.r) s.l.l.r) s.l.r) s.r)) (λg52 x53 a54 v55=>(Zb (K:=K) (o:=(oF (rP2 Xa Xa))) (f:=λa62=>(Rs.ok (a62))) 7 1 rfl rfl rfl (λ_ s=>s.l.l.r) (EvS.ev (Qx (EvB.sh (XI (Xc (r:=Xa) 3 rfl (λ_ s=>s.l.r)) (Xc (r:=Xa) 2 rfl (λ_ s=>s.l.l.l.l.r)))) (Xj (r:=Xa) 4 rfl (λ_ s=>s.r)))) λa60 C61=>(Xs (J:=_) ((some v55.1),(some v55.2),x53.2.2.1,C61) ((g52++[a60])) rfl rfl (λ_ s=>(SC.i (SC.i (SC.i (SC.i (SC.i SC.t s.l.l.l.l.l.l.l.r) s.l.l.l.l.l.l.r) s.l.l.l.l.l.r) s.l.l.l.l.r) s.r))))) λg63 x64=>(XC (Jf (X9 (o:=(oL (oL (oF Xa)))) 5 0 rfl rfl (λ_ s=>s.l.r)) λ_=>(X9 (o:=(oL (oF (rP2 Xa Xa)))) 7 2 rfl rfl (λ_ s=>s.r))))))))))
theorem Gc:FnScope ["_law_drawing","_law_table","_law_due","_law_found","_law_one"] ["_law_drawing","_law_table","_law_due"] (Xi G5):=⟨rfl,rfl,rfl,by decide+kernel,rfl,by decide+kernel,by decide+kernel⟩
theorem Ir (D:Def K mg "_law_told" G5 ["_law_drawing","_law_table","_law_due"])(g_colourings:Fn P w K mg base 6 "colourings" ["drawing","table"] (sp2 (rP2 (rV (rV Xa)) (rV (rP2 Xa Xa))) (rV (rV Xa)) (oL (oL (oF Xa))) X8 K))(g_copy:Fn P w K mg base 1 "_law_copy" ["_law_drawing"] (sp1 (rP2 (rV (rV Xa)) (rV (rP2 Xa Xa))) (oT2 (oL (oL (oF Xa))) (oL (oF (rP2 Xa Xa)))) Ui K))(g_is_wholes:Fn P w K mg base 2 "_law_is_wholes" ["_law_found"] (sp1 (rV Xa) (oF Yb) Zj K))(Z:Blt mg):Fn P w K mg base 7 "_law_told" ["_law_drawing","_law_table","_law_due"] (sp3 (rP2 (rV (rV Xa)) (rV (rP2 Xa Xa))) (rV (rV Xa)) (rV (rV Xa)) (oF Yb) JG K):=by
 refine Ys D Gc (λvs H Q E h=>?_) (λf cdv A outer s H vs Q E hr h=>?_)
 ·obtain⟨v_0,v_1,v_2,a_0,a_1,a_2,b,rfl,_⟩:=h;rfl
 obtain⟨v_0,v_1,v_2,a_0,a_1,a_2,b,rfl,h_0,h_1,h_2,hm,q⟩:=h
 have hu:=hu8 hr
 have hu1:=Yr hr
 refine⟨_,(Xb (Xn (i:=3) Gc.nd rfl (Or.inl rfl) (X6 g_colourings hr (by decide) (Xd (X6 g_copy hr (by decide) (Xd (pv 0) Xf)) (Xd (Zq (sc:=(Xi G5)) (N0:=["_law_drawing","_law_table","_law_due","_law_found","_law_one"]) (tns:=["_law_line"]) (caps:=[]) rfl (XE (K:=K) rfl (pv 1)) (Y3 (by decide)) (λcl C s H ex E=>⟨Xm (i:=0) (show List.Nodup (["_law_line"]:List Str) by decide+kernel) rfl (Or.inl rfl),Zo,(Zc (Yc K rfl) rfl Z.b_list PyProof.Rows.boot_list (Xd (pv 0) Xf))⟩)) Xf))))
  (Xb (YT (PW.pt (MJ (JM (QM (Xr Z7 rfl Z.b_isinstance PyProof.Rows.boot_isinstance (Xd (pv 3) (Xd (UO (v:=V.ty "list") rfl Z.b_list PyProof.Rows.boot_list rfl) Xf))))) (Mu (Xx E7 (Xr (Xo K rfl) rfl Z.b_len PySem.boot_len (Xd (pv 3) Xf)) (Xr (Xo K rfl) rfl Z.b_len PySem.boot_len (Xd (pv 2) Xf)) (XN _)))))
   (Xb (XB JO)
   Xg)
   Xg)
  (Xb (XU PassesOwn.never rfl (XE (K:=K) rfl (pv 3)) (Xm (i:=4) Gc.nd rfl (Or.inl rfl))
   (Xb (YT (JM (QM (X6 g_is_wholes hr (by decide) (Xd (pv 4) Xf))))
    (Xb (XB JO)
    Xg)
    Xg)
   Xg))
  (Xb (XB (BC (Lw (Nd (Nd eq_int)) (MN (by decide) hu)) (pv 3) (pv 2) (XN _)))
  Xg)))),?_⟩
 refine Yt (S:=(SC.add (SC.add (SC.add SC.nil K (rP2 (rV (rV Xa)) (rV (rP2 Xa Xa))) v_0 a_0) K (rV (rV Xa)) v_1 a_1) K (rV (rV Xa)) v_2 a_2)) (σ:=[some v_0,some v_1,some v_2,none,none]) 0 ?_ (SC.i (SC.i (SC.i SC.t h_0) h_1) h_2) hm q rfl
 unfold JG
 exact(Xw (K:=K) (r:=(rV (rV Xa))) 3 (Ev.sh (XW (Ev.toB (Yy (Xc (r:=(rP2 (rV (rV Xa)) (rV (rP2 Xa Xa)))) 0 rfl (λ_ s=>s.l.l.r)))) (Ev.toB (Zn (λ_=>tg1 0) (Xv (Xj (r:=(rV (rV Xa))) 1 rfl (λ_ s=>s.l.r))) (λC6 a7 v8=>(Qa (EvS.ls (Xj (r:=(rV Xa)) 0 rfl (λ_ s=>s.r))))))))) λa1 v2=>(ZL (L1 (Qm (VV (K:=K) (Qv "list" true (UL K "list") (Xc (r:=(rV (rV Xa))) 3 rfl (λ_ s=>s.r))))) (Xp (K:=K) (Fg (X4 (Xc (r:=(rV (rV Xa))) 3 rfl (λ_ s=>s.r))) (X4 (Xc (r:=(rV (rV Xa))) 2 rfl (λ_ s=>s.l.r)))))) (XC (EvS.ev (EvB.sh (Qg false)))) (VP (K:=K) (J:=({oo:=λx20=>[],ss:=λx20=>[some v_0,some v_1,some v_2,some v2,x20],sc:=λg21 x20=>(SC.add (SC.add (SC.add (SC.add SC.nil K (rP2 (rV (rV Xa)) (rV (rP2 Xa Xa))) v_0 a_0) K (rV (rV Xa)) v_1 a_1) K (rV (rV Xa)) v_2 a_2) K (rV (rV Xa)) v2 a1)}:Jn (Unit) (Option V))) (λ_=>tg1 4) ((none)) () (Xv (Xj (r:=(rV (rV Xa))) 3 rfl (λ_ s=>s.r))) rfl rfl (λ_ s=>(SC.i (SC.i (SC.i (SC.i SC.t s.l.l.l.r) s.l.l.r) s.l.r) s.r)) (λg22 x23 a24 v25=>(Vl (Qm (VV (K:=K) (Ev.toB (Yy (Xc (r:=(rV Xa)) 4 rfl (λ_ s=>s.r)))))) (XC (EvS.ev (EvB.sh (Qg false)))) (Kh (Xs (J:=_) ((some v25)) () rfl rfl (λ_ s=>(SC.i (SC.i (SC.i (SC.i SC.t s.l.l.l.l.r) s.l.l.l.r) s.l.l.r) s.l.r)))))) λg32 x33=>(XC (EvS.ev (EvB.sh (IF (Xc (r:=(rV (rV Xa))) 3 rfl (λ_ s=>s.r)) (Xc (r:=(rV (rV Xa))) 2 rfl (λ_ s=>s.l.r)))))))))
theorem Qh:FnScope ["_law_script","_law_one","_law_other","_law_size","_law_table","_law_first","_law_second","_law_due","_law_ahead","_law_behind","_law_there","_law_back_walks"] ["_law_script"] (Xi Vv):=⟨rfl,rfl,rfl,by decide+kernel,rfl,by decide+kernel,by decide+kernel⟩
theorem Ls {f:Addr}{fd:FuncData}(F:Fun K "law" "law" Vv f fd)(g_drawn:Fn P w K mg base 3 "_law_drawn" ["_law_script","_law_place","_law_most"] (sp3 (rL Xa) Xa Xa (oT2 (oL (oL (oF Xa))) (oL (oF (rP2 Xa Xa)))) Qq K))(g_good_table:Fn P w K mg base 3 "_law_good_table" ["_law_script","_law_place","_law_most"] (sp3 (rL Xa) Xa Xa (oL (oL (oF Xa))) Y5 K))(g_all:Fn P w K mg base 3 "_law_all" ["_law_drawing","_law_table"] (sp2 (rP2 (rV (rV Xa)) (rV (rP2 Xa Xa))) (rV (rV Xa)) (oL (oL (oF Xa))) Ga K))(g_turned_table:Fn P w K mg base 1 "_law_turned_table" ["_law_table"] (sp1 (rV (rV Xa)) (oL (oL (oF Xa))) YF K))(g_told:Fn P w K mg base 7 "_law_told" ["_law_drawing","_law_table","_law_due"] (sp3 (rP2 (rV (rV Xa)) (rV (rP2 Xa Xa))) (rV (rV Xa)) (rV (rV Xa)) (oF Yb) JG K))(g_limit:Fn P w K mg base 2 "_law_limit" ["_law_drawing","_law_most"] (sp2 (rP2 (rV (rV Xa)) (rV (rP2 Xa Xa))) Xa (oF Xa) QQ K))(g_many:Fn P w K mg base 7 "many" ["drawing","table"] (sp2 (rP2 (rV (rV Xa)) (rV (rP2 Xa Xa))) (rV (rV Xa)) (oF Xa) Ua K))(g_laid:Fn P w K mg base 2 "_law_laid" ["_law_one","_law_other"] (sp2 (rP2 (rV (rV Xa)) (rV (rP2 Xa Xa))) (rP2 (rV (rV Xa)) (rV (rP2 Xa Xa))) (oT2 (oL (oL (oF Xa))) (oL (oF (rP2 Xa Xa)))) V4 K))(Z:Blt mg):FnOk P w K mg base CX0 8 f fd ["_law_script"] (sp1 (rL Xa) (oF Yb) Gd K):=by
 refine F.ok Qh (λvs H Q E h=>?_) (λcdv A outer s H vs Q E hr h=>?_)
 ·obtain⟨v_0,a_0,b,rfl,_⟩:=h;rfl
 obtain⟨v_0,a_0,b,rfl,h_0,hm,q⟩:=h
 have hu:=hu8 hr
 have hu1:=Yr hr
 refine⟨_,(Xb (Xn (i:=1) Qh.nd rfl (Or.inl rfl) (X6 g_drawn hr (by decide) (Xd (pv 0) (Xd Xh (Xd Xh Xf)))))
  (Xb (Xn (i:=2) Qh.nd rfl (Or.inl rfl) (X6 g_drawn hr (by decide) (Xd (pv 0) (Xd Xh (Xd Xh Xf)))))
  (Xb (Xn (i:=3) Qh.nd rfl (Or.inl rfl) (Xr (KA rfl) rfl Z.b_min PyProof.Rows.boot_min (Xd (X6 g_limit hr (by decide) (Xd (pv 1) (Xd Xh Xf))) (Xd (X6 g_limit hr (by decide) (Xd (pv 2) (Xd Xh Xf))) Xf))))
  (Xb (Xn (i:=4) Qh.nd rfl (Or.inl rfl) (X6 g_good_table hr (by decide) (Xd (pv 0) (Xd Xh (Xd (pv 3) Xf)))))
  (Xb (Xn (i:=5) Qh.nd rfl (Or.inl rfl) (X6 g_all hr (by decide) (Xd (pv 1) (Xd (pv 4) Xf))))
  (Xb (Xn (i:=6) Qh.nd rfl (Or.inl rfl) (X6 g_all hr (by decide) (Xd (pv 2) (Xd (pv 4) Xf))))
  (Xb (Xn (i:=7) Qh.nd rfl (Or.inl rfl) (X1 Xf))
  (Xb (XU PassesOwn.never rfl (XE (K:=K) rfl (pv 5)) (Xm (i:=8) Qh.nd rfl (Or.inl rfl))
   (Xb (XU PassesOwn.never rfl (XE (K:=K) rfl (pv 6)) (Xm (i:=9) Qh.nd rfl (Or.inl rfl))
    (Xb (Yd (Zk PySem.F.plainAttrs_list PySem.F.slot_list_append PySem.F.type_list_append XR (pv 7) (Xd (Xq Uc (pv 8) (pv 9)) Xf)))
    Xg))
   Xg))
  (Xb (YT (JM (QM (X6 g_told hr (by decide) (Xd (X6 g_laid hr (by decide) (Xd (pv 1) (Xd (pv 2) Xf))) (Xd (pv 4) (Xd (pv 7) Xf))))))
   (Xb (XB JO)
   Xg)
   Xg)
  (Xb (Xn (i:=10) Qh.nd rfl (Or.inl rfl) (X6 g_turned_table hr (by decide) (Xd (pv 4) Xf)))
  (Xb (YT (JM (QM (X6 g_told hr (by decide) (Xd (ZE (Xd (XD (Yj K rfl) (pv 1) Xh (λ_ _=>rfl)) (Xd (Zq (sc:=(Xi Vv)) (N0:=["_law_script","_law_one","_law_other","_law_size","_law_table","_law_first","_law_second","_law_due","_law_ahead","_law_behind","_law_there","_law_back_walks"]) (tns:=["_law_name","_law_sign"]) (caps:=[]) rfl (XE (K:=K) rfl (XD (Yj K rfl) (pv 1) Xh (λ_ _=>rfl))) (HW (by decide) (by decide)) (λcl C s H ex E=>⟨CA K rfl rfl (XH (Xm (i:=0) (show List.Nodup (["_law_name","_law_sign"]:List Str) by decide+kernel) rfl (Or.inl rfl)) (XH (Xm (i:=1) (show List.Nodup (["_law_name","_law_sign"]:List Str) by decide+kernel) rfl (Or.inl rfl)) Zv)),Zo,(ZE (Xd (pv 0) (Xd (V1 QL (pv 1)) Xf)))⟩)) Xf))) (Xd (pv 10) (Xd (pv 5) Xf))))))
   (Xb (XB JO)
   Xg)
   Xg)
  (Xb (Q3 11 (Xi Vv) ["_law_script","_law_one","_law_other","_law_size","_law_table","_law_first","_law_second","_law_due","_law_ahead","_law_behind","_law_there","_law_back_walks"] ["_law_walk"] [] rfl Qh.nd rfl rfl (XE (K:=K) rfl (XD (Yj K rfl) (pv 1) Xh (λ_ _=>rfl))) (Y3 (by decide)) (λcl C s H ex E=>⟨Xm (i:=0) (show List.Nodup (["_law_walk"]:List Str) by decide+kernel) rfl (Or.inl rfl),Zo,(Ci K rfl (pv 0) (V1 QL Xh))⟩))
  (Xb (YT (Xx E7 (X6 g_many hr (by decide) (Xd (ZE (Xd (pv 11) (Xd (Zc (Yc K rfl) rfl Z.b_list PyProof.Rows.boot_list (Xd (XD (Yj K rfl) (pv 1) Xh (λ_ _=>rfl)) Xf)) Xf))) (Xd (pv 10) Xf))) (Xr (Xo K rfl) rfl Z.b_len PySem.boot_len (Xd (pv 5) Xf)) (XN _))
   (Xb (XB JO)
   Xg)
   Xg)
  (Xb (XB (X6 g_told hr (by decide) (Xd (pv 1) (Xd (pv 4) (Xd (pv 5) Xf)))))
  Xg)))))))))))))),?_⟩
 refine Yt (S:=(SC.add SC.nil K (rL Xa) v_0 a_0)) (σ:=[some v_0,none,none,none,none,none,none,none,none,none,none,none]) 1 ?_ (SC.i SC.t h_0) hm q rfl
 unfold Gd
 exact(Xw (K:=K) (r:=(rP2 (rV (rV Xa)) (rV (rP2 Xa Xa)))) 1 (Ev.sh (YV (Xc (r:=(rL Xa)) 0 rfl (λ_ s=>s.r)) (Xe 0) (Xe 4))) λa1 v2=>(Xw (K:=K) (r:=(rP2 (rV (rV Xa)) (rV (rP2 Xa Xa)))) 2 (Ev.sh (YV (Xc (r:=(rL Xa)) 0 rfl (λ_ s=>s.l.r)) (Xe 1) (Xe 4))) λa7 v8=>(Xw (K:=K) (r:=Xa) 3 (EvB.sh (DH (Ev.toB (XW (Xc (r:=(rP2 (rV (rV Xa)) (rV (rP2 Xa Xa)))) 1 rfl (λ_ s=>s.l.r)) (Xe 250))) (Ev.toB (XW (Xc (r:=(rP2 (rV (rV Xa)) (rV (rP2 Xa Xa)))) 2 rfl (λ_ s=>s.r)) (Xe 250))))) λa13 v14=>(Xw (K:=K) (r:=(rV (rV Xa))) 4 (Ev.sh (YV (Xc (r:=(rL Xa)) 0 rfl (λ_ s=>s.l.l.l.r)) (Xe 2) (Xc (r:=Xa) 3 rfl (λ_ s=>s.r)))) λa23 v24=>(Xw (K:=K) (r:=(rV (rV Xa))) 5 (Ev.sh (XW (Xc (r:=(rP2 (rV (rV Xa)) (rV (rP2 Xa Xa)))) 1 rfl (λ_ s=>s.l.l.l.r)) (Xc (r:=(rV (rV Xa))) 4 rfl (λ_ s=>s.r)))) λa29 v30=>(Xw (K:=K) (r:=(rV (rV Xa))) 6 (Ev.sh (XW (Xc (r:=(rP2 (rV (rV Xa)) (rV (rP2 Xa Xa)))) 2 rfl (λ_ s=>s.l.l.l.r)) (Xc (r:=(rV (rV Xa))) 4 rfl (λ_ s=>s.l.r)))) λa34 v35=>(XO (K:=K) (o:=(oL (oL (oF Xa)))) 7 0 (Z6 (o:=(oL (oF Xa)))) (Nat.le_of_ble_eq_true rfl) λa39 v40 C41=>(X5 (K:=K) (J:=({oo:=λx42=>[x42.2.2.2],ss:=λx42=>[some v_0,some v2,some v8,some v14,some v24,some v30,some v35,some x42.2.2.1,x42.1,x42.2.1,none,none],sc:=λg43 x42=>(SC.addO (SC.add (SC.add (SC.add (SC.add (SC.add (SC.add (SC.add SC.nil K (rL Xa) v_0 a_0) K (rP2 (rV (rV Xa)) (rV (rP2 Xa Xa))) v2 a1) K (rP2 (rV (rV Xa)) (rV (rP2 Xa Xa))) v8 a7) K Xa v14 a13) K (rV (rV Xa)) v24 a23) K (rV (rV Xa)) v30 a29) K (rV (rV Xa)) v35 a34) K (oL (oL (oF Xa))) x42.2.2.1 g43 x42.2.2.2)}:Jn ((List (List Int))) (Option V×Option V×V×List XA))) (λ_=>tg1 8) ((none),(none),v40,C41) (a39) (Xv (Xj (r:=(rV (rV Xa))) 5 rfl (λ_ s=>s.l.l.r))) rfl rfl (λ_ s=>(SC.i (SC.i (SC.i (SC.i (SC.i (SC.i (SC.i (SC.i SC.t s.l.l.l.l.l.l.l.r) s.l.l.l.l.l.l.r) s.l.l.l.l.l.r) s.l.l.l.l.r) s.l.l.l.r) s.l.l.r) s.l.r) s.r)) (λg44 x45 a46 v47=>(X5 (K:=K) (J:=({oo:=λx48=>[x48.2.2],ss:=λx48=>[some v_0,some v2,some v8,some v14,some v24,some v30,some v35,some x48.2.1,some v47,x48.1,none,none],sc:=λg49 x48=>(SC.addO (SC.add (SC.add (SC.add (SC.add (SC.add (SC.add (SC.add (SC.add SC.nil K (rL Xa) v_0 a_0) K (rP2 (rV (rV Xa)) (rV (rP2 Xa Xa))) v2 a1) K (rP2 (rV (rV Xa)) (rV (rP2 Xa Xa))) v8 a7) K Xa v14 a13) K (rV (rV Xa)) v24 a23) K (rV (rV Xa)) v30 a29) K (rV (rV Xa)) v35 a34) K (rV Xa) v47 a46) K (oL (oL (oF Xa))) x48.2.1 g49 x48.2.2)}:Jn ((List (List Int))) (Option V×V×List XA))) (λ_=>tg1 9) ((x45.2.1),x45.2.2.1,x45.2.2.2) (g44) (Xv (Xj (r:=(rV (rV Xa))) 6 rfl (λ_ s=>s.l.l.r))) rfl rfl (λ_ s=>(SC.i (SC.i (SC.i (SC.i (SC.i (SC.i (SC.i (SC.i (SC.i SC.t s.l.l.l.l.l.l.l.l.r) s.l.l.l.l.l.l.l.r) s.l.l.l.l.l.l.r) s.l.l.l.l.l.r) s.l.l.l.l.r) s.l.l.l.r) s.l.l.r) s.r) s.l.r)) (λg50 x51 a52 v53=>(Zb (K:=K) (o:=(oL (oF Xa))) (f:=λa58=>(Rs.ok (a58))) 7 0 rfl rfl rfl (λ_ s=>s.l.r) (Uj (EvS.ls (Xj (r:=(rV Xa)) 8 rfl (λ_ s=>s.l.l.r))) (EvS.ls (Xj (r:=(rV Xa)) 9 rfl (λ_ s=>s.r)))) λa56 C57=>(Xs (J:=_) ((some v53),x51.2.1,C57) ((g50++[a56])) rfl rfl (λ_ s=>(SC.i (SC.i (SC.i (SC.i (SC.i (SC.i (SC.i (SC.i (SC.i SC.t s.l.l.l.l.l.l.l.l.l.l.r) s.l.l.l.l.l.l.l.l.l.r) s.l.l.l.l.l.l.l.l.r) s.l.l.l.l.l.l.l.r) s.l.l.l.l.l.l.r) s.l.l.l.l.l.r) s.l.l.l.l.r) s.l.l.l.r) s.r))))) λg59 x60=>(Xs (J:=_) ((some v47),(x60.1),x60.2.1,x60.2.2) (g59) rfl rfl (λ_ s=>(SC.i (SC.i (SC.i (SC.i (SC.i (SC.i (SC.i (SC.i SC.t s.l.l.l.l.l.l.l.l.r) s.l.l.l.l.l.l.l.r) s.l.l.l.l.l.l.r) s.l.l.l.l.l.r) s.l.l.l.l.r) s.l.l.l.r) s.l.l.r) s.r))))) λg62 x63=>(ZL (Qm (VV (K:=K) (Ev.toB (YV (Ev.toB (XW (Xc (r:=(rP2 (rV (rV Xa)) (rV (rP2 Xa Xa)))) 1 rfl (λ_ s=>s.l.l.l.l.l.l.r)) (Xc (r:=(rP2 (rV (rV Xa)) (rV (rP2 Xa Xa)))) 2 rfl (λ_ s=>s.l.l.l.l.l.r)))) (Xc (r:=(rV (rV Xa))) 4 rfl (λ_ s=>s.l.l.l.r)) (Zd (o:=(oL (oL (oF Xa)))) 7 0 rfl rfl (λ_ s=>s.r)))))) (XC (EvS.ev (EvB.sh (Qg false)))) (Xw (K:=K) (r:=(rV (rV Xa))) 10 (Ev.sh (Yy (Xc (r:=(rV (rV Xa))) 4 rfl (λ_ s=>s.l.l.l.r)))) λa73 v74=>(ZL (Qm (VV (K:=K) (Ev.toB (YV (Ev.toB (Jf (EvS.ev (Qd (Xj (r:=(rP2 (rV (rV Xa)) (rV (rP2 Xa Xa)))) 1 rfl (λ_ s=>s.l.l.l.l.l.l.l.r)))) λ_=>(Zn (λ_=>tg2 0 1) (Xv (UX (Xj (r:=(rP2 (rV (rV Xa)) (rV (rP2 Xa Xa)))) 1 rfl (λ_ s=>s.l.l.l.l.l.l.l.r)))) (λC80 a81 v82=>(EvS.ev (Qx (Xj (r:=Xa) 0 rfl (λ_ s=>s.l.r)) (EvB.sh (ZS (Xc (r:=Xa) 1 rfl (λ_ s=>s.r)))))))))) (Xc (r:=(rV (rV Xa))) 10 rfl (λ_ s=>s.r)) (Xc (r:=(rV (rV Xa))) 5 rfl (λ_ s=>s.l.l.l.r)))))) (XC (EvS.ev (EvB.sh (Qg false)))) (Xw (K:=K) (r:=(rV (rV Xa))) 11 (Ev.sh (Zn (λ_=>tg1 0) (Xv (Qd (Xj (r:=(rP2 (rV (rV Xa)) (rV (rP2 Xa Xa)))) 1 rfl (λ_ s=>s.l.l.l.l.l.l.l.r)))) (λC97 a98 v99=>(DV (EvS.ls (Xj (r:=(rV Xa)) 0 rfl (λ_ s=>s.r))) (ZS (Xe 1)))))) λa94 v95=>(ZL (Xp (K:=K) (Fg (Ev.toB (XW (Ev.toB (Jf (EvS.ev (Xj (r:=(rV (rV Xa))) 11 rfl (λ_ s=>s.r))) λ_=>(Qa (EvB.ls (Q4 (Xc (r:=(rP2 (rV (rV Xa)) (rV (rP2 Xa Xa)))) 1 rfl (λ_ s=>s.l.l.l.l.l.l.l.l.r))))))) (Xc (r:=(rV (rV Xa))) 10 rfl (λ_ s=>s.l.r)))) (X4 (Xc (r:=(rV (rV Xa))) 5 rfl (λ_ s=>s.l.l.l.l.r))))) (XC (EvS.ev (EvB.sh (Qg false)))) (XC (YV (Xc (r:=(rP2 (rV (rV Xa)) (rV (rP2 Xa Xa)))) 1 rfl (λ_ s=>s.l.l.l.l.l.l.l.l.r)) (Xc (r:=(rV (rV Xa))) 4 rfl (λ_ s=>s.l.l.l.l.l.r)) (Xc (r:=(rV (rV Xa))) 5 rfl (λ_ s=>s.l.l.l.l.r)))))))))))))))))
end
theorem Dy {K:PySem.W.Frag}{mg:Str->Option Value}{h:Heap}(X:K.In h)(G:h.Ns mainGlobals mg){x p0:Str}{st:Stmt}{f:Addr}{oc:Value}{od an:Option Addr}{osl:Array (Option Value)}{kV doc pm cdv ct:Value}(hb:∀(kV doc pm:Value) (an:Option Addr) (cdv ct u0:Value),bindArgs (PySem.W.fnOf x x (YZ st) (YK st) (Xi st) .none kV doc pm an cdv ct) ⟨[u0],[]⟩=pure ([p0].zip [u0]))(a:PySem.W.nsIn K mainGlobals x=some (some (.ref f)))(l:K.lookup f=some ⟨oc,od, .func (PySem.W.fnOf x x (YZ st) (YK st) (Xi st) .none kV doc pm an cdv ct),osl⟩)(c:PySem.W.codeIn K cdv x=true)(k:PySem.W.keepIn K (.ref f)=true):Def K mg x st [p0]:=⟨f,_,Qt l c k,(Qt l c k).binds λ_ _ _ _ _ _ us hl=>(by obtain⟨_,rfl⟩:=LZ hl;exact hb ..),PySem.W.mg_of X G a⟩
theorem KH {K:PySem.W.Frag}{mg:Str->Option Value}{h:Heap}(X:K.In h)(G:h.Ns mainGlobals mg){x p0 p1:Str}{st:Stmt}{f:Addr}{oc:Value}{od an:Option Addr}{osl:Array (Option Value)}{kV doc pm cdv ct:Value}(hb:∀(kV doc pm:Value) (an:Option Addr) (cdv ct u0 u1:Value),bindArgs (PySem.W.fnOf x x (YZ st) (YK st) (Xi st) .none kV doc pm an cdv ct) ⟨[u0,u1],[]⟩=pure ([p0,p1].zip [u0,u1]))(a:PySem.W.nsIn K mainGlobals x=some (some (.ref f)))(l:K.lookup f=some ⟨oc,od, .func (PySem.W.fnOf x x (YZ st) (YK st) (Xi st) .none kV doc pm an cdv ct),osl⟩)(c:PySem.W.codeIn K cdv x=true)(k:PySem.W.keepIn K (.ref f)=true):Def K mg x st [p0,p1]:=⟨f,_,Qt l c k,(Qt l c k).binds λ_ _ _ _ _ _ us hl=>(by obtain⟨_,_,rfl⟩:=LQ hl;exact hb ..),PySem.W.mg_of X G a⟩
theorem EE {K:PySem.W.Frag}{mg:Str->Option Value}{h:Heap}(X:K.In h)(G:h.Ns mainGlobals mg){x p0 p1 p2:Str}{st:Stmt}{f:Addr}{oc:Value}{od an:Option Addr}{osl:Array (Option Value)}{kV doc pm cdv ct:Value}(hb:∀(kV doc pm:Value) (an:Option Addr) (cdv ct u0 u1 u2:Value),bindArgs (PySem.W.fnOf x x (YZ st) (YK st) (Xi st) .none kV doc pm an cdv ct) ⟨[u0,u1,u2],[]⟩=pure ([p0,p1,p2].zip [u0,u1,u2]))(a:PySem.W.nsIn K mainGlobals x=some (some (.ref f)))(l:K.lookup f=some ⟨oc,od, .func (PySem.W.fnOf x x (YZ st) (YK st) (Xi st) .none kV doc pm an cdv ct),osl⟩)(c:PySem.W.codeIn K cdv x=true)(k:PySem.W.keepIn K (.ref f)=true):Def K mg x st [p0,p1,p2]:=⟨f,_,Qt l c k,(Qt l c k).binds λ_ _ _ _ _ _ us hl=>(by obtain⟨_,_,_,rfl⟩:=L6 hl;exact hb ..),PySem.W.mg_of X G a⟩
theorem NA {K:PySem.W.Frag}{mg:Str->Option Value}{h:Heap}(X:K.In h)(G:h.Ns mainGlobals mg){x p0 p1 p2 p3:Str}{st:Stmt}{f:Addr}{oc:Value}{od an:Option Addr}{osl:Array (Option Value)}{kV doc pm cdv ct:Value}(hb:∀(kV doc pm:Value) (an:Option Addr) (cdv ct u0 u1 u2 u3:Value),bindArgs (PySem.W.fnOf x x (YZ st) (YK st) (Xi st) .none kV doc pm an cdv ct) ⟨[u0,u1,u2,u3],[]⟩=pure ([p0,p1,p2,p3].zip [u0,u1,u2,u3]))(a:PySem.W.nsIn K mainGlobals x=some (some (.ref f)))(l:K.lookup f=some ⟨oc,od, .func (PySem.W.fnOf x x (YZ st) (YK st) (Xi st) .none kV doc pm an cdv ct),osl⟩)(c:PySem.W.codeIn K cdv x=true)(k:PySem.W.keepIn K (.ref f)=true):Def K mg x st [p0,p1,p2,p3]:=⟨f,_,Qt l c k,(Qt l c k).binds λ_ _ _ _ _ _ us hl=>(by obtain⟨_,_,_,_,rfl⟩:=Mr hl;exact hb ..),PySem.W.mg_of X G a⟩
theorem Nx {K:PySem.W.Frag}{mg:Str->Option Value}{h:Heap}(X:K.In h)(G:h.Ns mainGlobals mg){x p0 p1 p2 p3 p4:Str}{st:Stmt}{f:Addr}{oc:Value}{od an:Option Addr}{osl:Array (Option Value)}{kV doc pm cdv ct:Value}(hb:∀(kV doc pm:Value) (an:Option Addr) (cdv ct u0 u1 u2 u3 u4:Value),bindArgs (PySem.W.fnOf x x (YZ st) (YK st) (Xi st) .none kV doc pm an cdv ct) ⟨[u0,u1,u2,u3,u4],[]⟩=pure ([p0,p1,p2,p3,p4].zip [u0,u1,u2,u3,u4]))(a:PySem.W.nsIn K mainGlobals x=some (some (.ref f)))(l:K.lookup f=some ⟨oc,od, .func (PySem.W.fnOf x x (YZ st) (YK st) (Xi st) .none kV doc pm an cdv ct),osl⟩)(c:PySem.W.codeIn K cdv x=true)(k:PySem.W.keepIn K (.ref f)=true):Def K mg x st [p0,p1,p2,p3,p4]:=⟨f,_,Qt l c k,(Qt l c k).binds λ_ _ _ _ _ _ us hl=>(by obtain⟨_,_,_,_,_,rfl⟩:=MV hl;exact hb ..),PySem.W.mg_of X G a⟩
theorem LX {l:PySem.W.OpenLaw}{w:World}{K:PySem.W.Frag}{h:Heap}{mg:Str->Option Value}{fa f:Addr}{tk0:Tok}(X:K.In h)(G:h.Ns mainGlobals mg)(hfa:mg "law" =some (.ref fa)){od an:Option Addr}{sl:Array (Option Value)}{oc kV dc pm cd ct:Value}
  (D1:Def K mg "spot" BV ["drawing","passage"])
  (D2:Def K mg "arcs" CY ["drawing"])
  (D3:Def K mg "arc_count" Qc ["drawing"])
  (D4:Def K mg "arcs_of_walk" Zr ["walk"])
  (D5:Def K mg "arcs_of_ways" ZT ["walk","first"])
  (D6:Def K mg "meets" Ge ["drawing"])
  (D7:Def K mg "ties" CV ["drawing"])
  (D8:Def K mg "all_held" QD ["table","colours","asked"])
  (D9:Def K mg "colourings" ZQ ["drawing","table"])
  (D10:Def K mg "refuse_too_much" Zg ["size","count"])
  (D11:Def K mg "longer_by_arc" ZJ ["lists","table","asked"])
  (D12:Def K mg "many" Cv ["drawing","table"])
  (D13:Def K mg "_law_cell" BW ["_law_script","_law_place"])
  (D14:Def K mg "_law_mix" IY ["_law_cell_here","_law_k"])
  (D15:Def K mg "_law_row" Lc ["_law_script","_law_place","_law_sizes"])
  (D16:Def K mg "_law_mixed" Gz ["_law_names","_law_some"])
  (D17:Def K mg "_law_any" Ep ["_law_names","_law_some","_law_rings"])
  (D18:Def K mg "_law_plaited" Vj ["_law_names","_law_signs","_law_some","_law_strands"])
  (D19:Def K mg "_law_drawn" Uq ["_law_script","_law_place","_law_most"])
  (D20:Def K mg "_law_copy" FN ["_law_drawing"])
  (D21:Def K mg "_law_is_whole" Jw ["_law_one"])
  (D22:Def K mg "_law_is_wholes" QU ["_law_found"])
  (D23:Def K mg "_law_cell_of" Vf ["_law_way","_law_size","_law_factor","_law_a","_law_b"])
  (D24:Def K mg "_law_common" Um ["_law_one","_law_other"])
  (D25:Def K mg "_law_made" FM ["_law_way","_law_size","_law_factor"])
  (D26:Def K mg "_law_ordered" Vo ["_law_some","_law_count_here"])
  (D27:Def K mg "_law_relaid" Ve ["_law_some","_law_spots"])
  (D28:Def K mg "_law_good_table" Qn ["_law_script","_law_place","_law_most"])
  (D29:Def K mg "_law_arcs" UZ ["_law_walks"])
  (D30:Def K mg "_law_spot" Ur ["_law_walks","_law_passage"])
  (D31:Def K mg "_law_meets" Vm ["_law_drawing"])
  (D32:Def K mg "_law_count" US ["_law_drawing"])
  (D33:Def K mg "_law_keeps" Gw ["_law_meetings","_law_table","_law_colours"])
  (D34:Def K mg "_law_all" ET ["_law_drawing","_law_table"])
  (D35:Def K mg "_law_power" GN ["_law_size","_law_count_here"])
  (D36:Def K mg "_law_limit" GF ["_law_drawing","_law_most"])
  (D37:Def K mg "_law_turned_table" Zp ["_law_table"])
  (D38:Def K mg "_law_farther" VA ["_law_passage","_law_step"])
  (D39:Def K mg "_law_laid" Kc ["_law_one","_law_other"])
  (D40:Def K mg "_law_told" G5 ["_law_drawing","_law_table","_law_due"])
  (a:PySem.W.nsIn K mainGlobals "law" =some (some (.ref f)))(l0:K.lookup f=some ⟨oc,od, .func (PySem.W.fnOf "law" "law" (YZ Vv) (YK Vv) (Xi Vv) .none kV dc pm an cd ct),sl⟩)(c:PySem.W.codeIn K cd "law" =true)(k:PySem.W.keepIn K (.ref f)=true)
  (z1:PySem.W.nsIn K mainGlobals "abs" =some none)
  (z2:PySem.W.nsIn K mainGlobals "all" =some none)
  (z3:PySem.W.nsIn K mainGlobals "bool" =some none)
  (z4:PySem.W.nsIn K mainGlobals "enumerate" =some none)
  (z5:PySem.W.nsIn K mainGlobals "int" =some none)
  (z6:PySem.W.nsIn K mainGlobals "isinstance" =some none)
  (z7:PySem.W.nsIn K mainGlobals "len" =some none)
  (z8:PySem.W.nsIn K mainGlobals "list" =some none)
  (z9:PySem.W.nsIn K mainGlobals "max" =some none)
  (z10:PySem.W.nsIn K mainGlobals "min" =some none)
  (z11:PySem.W.nsIn K mainGlobals "range" =some none)
  (z12:PySem.W.nsIn K mainGlobals "sum" =some none)
  (w0:PySem.W.nsIn K mainGlobals "MOST_LISTS" =some (some (.int 65536 tk0)))
  :∃fd:FuncData,(∀(s:Shared) (v:Value),BindsTo s fd ⟨[v],[]⟩ [("_law_script",v)])/\∀base:Heap,K.In base->base.Ns mainGlobals mg->FnOk l.prog w K mg base CX0 8 fa fd ["_law_script"] (sp1 (rL Xa) (oF Yb) Gd K):=by
 have e:=hfa.symm.trans (PySem.W.mg_of X G a)
 cases e
 have N:∀{x:Str},PySem.W.nsIn K mainGlobals x=some none->mg x=none:=λz=>PySem.W.mg_none_of X G z
 have Z:Blt mg:=⟨N z1,N z2,N z3,N z4,N z5,N z6,N z7,N z8,N z9,N z10,N z11,N z12,⟨_,PySem.W.mg_of X G w0,_,rfl⟩⟩
 refine⟨PySem.W.fnOf "law" "law" (YZ Vv) (YK Vv) (Xi Vv) .none kV dc pm an cd ct,λs v=>.of_eq rfl,λbase _ _=>?_⟩
 have g_cell:=Iq (P:=l.prog) (w:=w) (base:=base) D13 Z
 have g_mix:=Lv (P:=l.prog) (w:=w) (base:=base) D14 Z
 have g_row:=Mh (P:=l.prog) (w:=w) (base:=base) D15 g_cell g_mix Z
 have g_plaited:=FZ (P:=l.prog) (w:=w) (base:=base) D18 Z
 have g_any:=LB (P:=l.prog) (w:=w) (base:=base) D17 Z
 have g_mixed:=E2 (P:=l.prog) (w:=w) (base:=base) D16 Z
 have g_drawn:=EK (P:=l.prog) (w:=w) (base:=base) D19 g_row g_plaited g_any g_mixed Z
 have g_common:=CP (P:=l.prog) (w:=w) (base:=base) D24 Z
 have g_cell_of:=FX (P:=l.prog) (w:=w) (base:=base) D23 Z
 have g_made:=Lf (P:=l.prog) (w:=w) (base:=base) D25 g_common g_cell_of Z
 have g_relaid:=DK (P:=l.prog) (w:=w) (base:=base) D27 Z
 have g_ordered:=Df (P:=l.prog) (w:=w) (base:=base) D26 Z
 have g_good_table:=UQ (P:=l.prog) (w:=w) (base:=base) D28 g_row g_made g_relaid g_ordered Z
 have g_l_arcs:=BR (P:=l.prog) (w:=w) (base:=base) D29 Z
 have g_l_spot:=B2 (P:=l.prog) (w:=w) (base:=base) D30 Z
 have g_l_meets:=Dk (P:=l.prog) (w:=w) (base:=base) D31 g_l_arcs g_l_spot Z
 have g_count:=B7 (P:=l.prog) (w:=w) (base:=base) D32 Z
 have g_keeps:=EF (P:=l.prog) (w:=w) (base:=base) D33 Z
 have g_all:=Lr (P:=l.prog) (w:=w) (base:=base) D34 g_l_meets g_count g_keeps Z
 have g_turned_table:=VI (P:=l.prog) (w:=w) (base:=base) D37 Z
 have g_arcs_of_walk:=Vp (P:=l.prog) (w:=w) (base:=base) D4 Z
 have g_arc_count:=Km (P:=l.prog) (w:=w) (base:=base) D3 g_arcs_of_walk Z
 have g_refuse_too_much:=Jj (P:=l.prog) (w:=w) (base:=base) D10 Z
 have g_arcs_of_ways:=VE (P:=l.prog) (w:=w) (base:=base) D5 g_arcs_of_walk Z
 have g_arcs:=IH (P:=l.prog) (w:=w) (base:=base) D2 g_arcs_of_walk g_arcs_of_ways Z
 have g_spot:=II (P:=l.prog) (w:=w) (base:=base) D1 Z
 have g_meets:=EY (P:=l.prog) (w:=w) (base:=base) D6 g_arcs g_spot Z
 have g_ties:=HJ (P:=l.prog) (w:=w) (base:=base) D7 g_meets Z
 have g_all_held:=GQ (P:=l.prog) (w:=w) (base:=base) D8 Z
 have g_longer_by_arc:=JT (P:=l.prog) (w:=w) (base:=base) D11 g_all_held Z
 have g_colourings:=UG (P:=l.prog) (w:=w) (base:=base) D9 g_arc_count g_refuse_too_much g_ties g_longer_by_arc Z
 have g_copy:=HG (P:=l.prog) (w:=w) (base:=base) D20 Z
 have g_is_whole:=Gq (P:=l.prog) (w:=w) (base:=base) D21 Z
 have g_is_wholes:=Ka (P:=l.prog) (w:=w) (base:=base) D22 g_is_whole Z
 have g_told:=Ir (P:=l.prog) (w:=w) (base:=base) D40 g_colourings g_copy g_is_wholes Z
 have g_power:=EW (P:=l.prog) (w:=w) (base:=base) D35 Z
 have g_limit:=EC (P:=l.prog) (w:=w) (base:=base) D36 g_count g_power Z
 have g_many:=Ic (P:=l.prog) (w:=w) (base:=base) D12 g_colourings Z
 have g_farther:=Dg (P:=l.prog) (w:=w) (base:=base) D38 Z
 have g_laid:=IJ (P:=l.prog) (w:=w) (base:=base) D39 g_farther Z
 exact Ls (P:=l.prog) (w:=w) (base:=base) (Qt (st:=Vv) l0 c k) g_drawn g_good_table g_all g_turned_table g_told g_limit g_many g_laid Z
theorem walk {l:PySem.W.OpenLaw}{q:Program}{loose:List Str}{XP:(Str->Option Value)->Heap->Prop}{YP:World->Heap->Prop}{d:DefRec}{K:Params->PySem.W.Frag}(hn:l.most=some 63)(hdf:d.params.defaults=[])
  (hY:∀(w:World) (h:Heap),YP w h->(K w.params).In h)
  (F:∀(w:World) (mg:Str->Option Value) (fa:Addr) (h:Heap),(K w.params).In h->h.Ns mainGlobals mg->mg d.name=some (.ref fa)->
   ∃fd:FuncData,(∀(s:Shared) (u:Value),BindsTo s fd ⟨[u],[]⟩ [("_law_script",u)])/\∀base:Heap,(K w.params).In base->base.Ns mainGlobals mg->FnOk l.prog w (K w.params) mg base CX0 8 fa fd ["_law_script"] (sp1 (rL Xa) (oF Yb) Gd (K w.params))):
  PySem.W.WalkO q loose XP YP l.row.toRowW d [] (λf vs=>PySem.call f vs):=
 L2.Is (n:=63) (k:=8) (x:="_law_script") (CX:=λ_=>CX0) (sp:=λw=>sp1 (rL Xa) (oF Yb) Gd (K w.params)) hn (by decide) hdf ⟨rfl,by decide,by decide⟩ hY F (λ_ _ a ns hl _ hS=>⟨.ref a,ns,true,rfl,⟨a,_,rfl,hS,GG ns⟩,EN ns hl,λv C H' w m ho=>ho.2⟩) λ_ _ _ _ _ z=>z
end My
open PySem PySem.W PyProof.Rows
set_option maxRecDepth 100000 in
set_option maxHeartbeats 0 in
theorem PySem.Challenge.cw_plait_k56_drawings_beside_holds : PySem.Challenge.rw_plait_k56_drawings_beside.Holds := by
  w_on; o_law; k_head; (case hw => w_witness2)
  k_fill
  refine My.walk (l := PySem.Challenge.rw_plait_k56_drawings_beside) rfl rfl (fun w h Y => PySem.W.kIn_of Y) ?F
  case F =>
    intro w mg fa h KX G hmg
    refine' My.LX KX G hmg (My.KH KX G (by intros; rfl) ?a1 ?l1 ?c1 ?k1) (My.Dy KX G (by intros; rfl) ?a2 ?l2 ?c2 ?k2) (My.Dy KX G (by intros; rfl) ?a3 ?l3 ?c3 ?k3) (My.Dy KX G (by intros; rfl) ?a4 ?l4 ?c4 ?k4) (My.KH KX G (by intros; rfl) ?a5 ?l5 ?c5 ?k5) (My.Dy KX G (by intros; rfl) ?a6 ?l6 ?c6 ?k6) (My.Dy KX G (by intros; rfl) ?a7 ?l7 ?c7 ?k7) (My.EE KX G (by intros; rfl) ?a8 ?l8 ?c8 ?k8) (My.KH KX G (by intros; rfl) ?a9 ?l9 ?c9 ?k9) (My.KH KX G (by intros; rfl) ?a10 ?l10 ?c10 ?k10) (My.EE KX G (by intros; rfl) ?a11 ?l11 ?c11 ?k11) (My.KH KX G (by intros; rfl) ?a12 ?l12 ?c12 ?k12) (My.KH KX G (by intros; rfl) ?a13 ?l13 ?c13 ?k13) (My.KH KX G (by intros; rfl) ?a14 ?l14 ?c14 ?k14) (My.EE KX G (by intros; rfl) ?a15 ?l15 ?c15 ?k15) (My.KH KX G (by intros; rfl) ?a16 ?l16 ?c16 ?k16) (My.EE KX G (by intros; rfl) ?a17 ?l17 ?c17 ?k17) (My.NA KX G (by intros; rfl) ?a18 ?l18 ?c18 ?k18) (My.EE KX G (by intros; rfl) ?a19 ?l19 ?c19 ?k19) (My.Dy KX G (by intros; rfl) ?a20 ?l20 ?c20 ?k20) (My.Dy KX G (by intros; rfl) ?a21 ?l21 ?c21 ?k21) (My.Dy KX G (by intros; rfl) ?a22 ?l22 ?c22 ?k22) (My.Nx KX G (by intros; rfl) ?a23 ?l23 ?c23 ?k23) (My.KH KX G (by intros; rfl) ?a24 ?l24 ?c24 ?k24) (My.EE KX G (by intros; rfl) ?a25 ?l25 ?c25 ?k25) (My.KH KX G (by intros; rfl) ?a26 ?l26 ?c26 ?k26) (My.KH KX G (by intros; rfl) ?a27 ?l27 ?c27 ?k27) (My.EE KX G (by intros; rfl) ?a28 ?l28 ?c28 ?k28) (My.Dy KX G (by intros; rfl) ?a29 ?l29 ?c29 ?k29) (My.KH KX G (by intros; rfl) ?a30 ?l30 ?c30 ?k30) (My.Dy KX G (by intros; rfl) ?a31 ?l31 ?c31 ?k31) (My.Dy KX G (by intros; rfl) ?a32 ?l32 ?c32 ?k32) (My.EE KX G (by intros; rfl) ?a33 ?l33 ?c33 ?k33) (My.KH KX G (by intros; rfl) ?a34 ?l34 ?c34 ?k34) (My.KH KX G (by intros; rfl) ?a35 ?l35 ?c35 ?k35) (My.KH KX G (by intros; rfl) ?a36 ?l36 ?c36 ?k36) (My.Dy KX G (by intros; rfl) ?a37 ?l37 ?c37 ?k37) (My.KH KX G (by intros; rfl) ?a38 ?l38 ?c38 ?k38) (My.KH KX G (by intros; rfl) ?a39 ?l39 ?c39 ?k39) (My.EE KX G (by intros; rfl) ?a40 ?l40 ?c40 ?k40) ?a41 ?l41 ?c41 ?k41 ?z1 ?z2 ?z3 ?z4 ?z5 ?z6 ?z7 ?z8 ?z9 ?z10 ?z11 ?z12 ?w0
    (case a1 => k_is); (case l1 => k_is); (case c1 => k_is); (case k1 => k_is); (case a2 => k_is); (case l2 => k_is); (case c2 => k_is); (case k2 => k_is); (case a3 => k_is); (case l3 => k_is); (case c3 => k_is); (case k3 => k_is); (case a4 => k_is); (case l4 => k_is); (case c4 => k_is); (case k4 => k_is); (case a5 => k_is); (case l5 => k_is); (case c5 => k_is); (case k5 => k_is); (case a6 => k_is); (case l6 => k_is); (case c6 => k_is); (case k6 => k_is); (case a7 => k_is); (case l7 => k_is); (case c7 => k_is); (case k7 => k_is); (case a8 => k_is); (case l8 => k_is); (case c8 => k_is); (case k8 => k_is); (case a9 => k_is); (case l9 => k_is); (case c9 => k_is); (case k9 => k_is); (case a10 => k_is); (case l10 => k_is); (case c10 => k_is); (case k10 => k_is); (case a11 => k_is); (case l11 => k_is); (case c11 => k_is); (case k11 => k_is); (case a12 => k_is); (case l12 => k_is); (case c12 => k_is); (case k12 => k_is); (case a13 => k_is); (case l13 => k_is); (case c13 => k_is); (case k13 => k_is); (case a14 => k_is); (case l14 => k_is); (case c14 => k_is); (case k14 => k_is); (case a15 => k_is); (case l15 => k_is); (case c15 => k_is); (case k15 => k_is); (case a16 => k_is); (case l16 => k_is); (case c16 => k_is); (case k16 => k_is); (case a17 => k_is); (case l17 => k_is); (case c17 => k_is); (case k17 => k_is); (case a18 => k_is); (case l18 => k_is); (case c18 => k_is); (case k18 => k_is); (case a19 => k_is); (case l19 => k_is); (case c19 => k_is); (case k19 => k_is); (case a20 => k_is); (case l20 => k_is); (case c20 => k_is); (case k20 => k_is); (case a21 => k_is); (case l21 => k_is); (case c21 => k_is); (case k21 => k_is); (case a22 => k_is); (case l22 => k_is); (case c22 => k_is); (case k22 => k_is); (case a23 => k_is); (case l23 => k_is); (case c23 => k_is); (case k23 => k_is); (case a24 => k_is); (case l24 => k_is); (case c24 => k_is); (case k24 => k_is); (case a25 => k_is); (case l25 => k_is); (case c25 => k_is); (case k25 => k_is); (case a26 => k_is); (case l26 => k_is); (case c26 => k_is); (case k26 => k_is); (case a27 => k_is); (case l27 => k_is); (case c27 => k_is); (case k27 => k_is); (case a28 => k_is); (case l28 => k_is); (case c28 => k_is); (case k28 => k_is); (case a29 => k_is); (case l29 => k_is); (case c29 => k_is); (case k29 => k_is); (case a30 => k_is); (case l30 => k_is); (case c30 => k_is); (case k30 => k_is); (case a31 => k_is); (case l31 => k_is); (case c31 => k_is); (case k31 => k_is); (case a32 => k_is); (case l32 => k_is); (case c32 => k_is); (case k32 => k_is); (case a33 => k_is); (case l33 => k_is); (case c33 => k_is); (case k33 => k_is); (case a34 => k_is); (case l34 => k_is); (case c34 => k_is); (case k34 => k_is); (case a35 => k_is); (case l35 => k_is); (case c35 => k_is); (case k35 => k_is); (case a36 => k_is); (case l36 => k_is); (case c36 => k_is); (case k36 => k_is); (case a37 => k_is); (case l37 => k_is); (case c37 => k_is); (case k37 => k_is); (case a38 => k_is); (case l38 => k_is); (case c38 => k_is); (case k38 => k_is); (case a39 => k_is); (case l39 => k_is); (case c39 => k_is); (case k39 => k_is); (case a40 => k_is); (case l40 => k_is); (case c40 => k_is); (case k40 => k_is); (case a41 => k_is); (case l41 => k_is); (case c41 => k_is); (case k41 => k_is); (case z1 => k_is); (case z2 => k_is); (case z3 => k_is); (case z4 => k_is); (case z5 => k_is); (case z6 => k_is); (case z7 => k_is); (case z8 => k_is); (case z9 => k_is); (case z10 => k_is); (case z11 => k_is); (case z12 => k_is); (case w0 => k_is)
